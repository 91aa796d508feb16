/- history's rules of one line, walked. -/
import Derived.Test.YtkkipnihdiabpaaGreatDoorHistX
import Derived.Test.YtkkipnihdiabpaaGreatDoorPureA
namespace Go.Proofs.YtkkipnihdiabpaaGreatDoor
open Go.RowKit Go.Maps

/-- one line's rules: the reason, or none and the operations behind it -/
def addP (model : List UInt8) (ops : List OpV) (s : ByteArray) (line : Int) : Int × Option (List OpV) :=
  match lineP s with
  | none => (2, none)
  | some ms => if namesOk ms then (if fitsP ms callSlots then ((callP model ops ms line).1, (callP model ops ms line).2.map (fun o => ops ++ [o])) else if fitsP ms retSlots then retP model ops ms line else (3, none)) else (3, none)

theorem memFind_mem {ms : List Mem} {nm : List UInt8} {m : Mem} (h : memFind ms nm = some m) : m ∈ ms := List.mem_of_find?_eq_some h
theorem numOf_wf {ms : List Mem} {N : Nat} (h : ∀ m ∈ ms, goodM N m) (nm : List UInt8) : (Lit.int .i64 (numOf ms nm)).wf = true := by
  have : -9223372036854775808 ≤ numOf ms nm ∧ numOf ms nm ≤ 9223372036854775807 := by
    unfold numOf
    cases hf : memFind ms nm with
    | none => exact ⟨by decide, by decide⟩
    | some m => exact (h m (memFind_mem hf)).2
  exact WalkArith.wf_i64 (by omega)
theorem kind_val {ms : List Mem} (h : fitsP ms retSlots = true) : kindOf ms sVal = 0 ∨ kindOf ms sVal = 1 ∨ kindOf ms sVal = 2 := by
  unfold fitsP at h
  unfold retSlots at h
  rw [fitsRun] at h
  cases h1 : memFind ms [114, 101, 116] with
  | none => simp [h1] at h
  | some m1 =>
    simp only [h1] at h
    by_cases hk : ([1] : List Int).contains m1.2.1 = true
    · rw [if_pos hk, fitsRun] at h
      cases h2 : memFind ms [118, 97, 108] with
      | none => simp [h2] at h
      | some m2 =>
        simp only [h2] at h
        by_cases hk2 : ([0, 1, 2] : List Int).contains m2.2.1 = true
        · have e : kindOf ms sVal = m2.2.1 := by unfold kindOf sVal; rw [h2]; rfl
          rw [e]
          simpa using hk2
        · rw [if_neg hk2] at h; cases h
    · rw [if_neg hk] at h; cases h

set_option maxHeartbeats 4000000 in
set_option maxRecDepth 100000 in
theorem add_any (w : World) (rc b1 b2 base n L : Nat) (v : Value) (model : ByteArray) (ops : List OpV) (s : ByteArray) (line : Int)
    (hr : Rec w rc b1 b2 base n v model ops) (ho : Ops w) (he : Errs w) (hu : Utf w) (hL : L ≤ rc ∧ L ≤ b1 ∧ L ≤ b2) (hN : 9 ≤ L) (hbs : base ≤ w.heap.size) (hn9 : n ≤ 900) (hline : line ≠ 0) (hs : s.size ≤ 2000000) :
    Calls Tryz.prog 22 #[.pointer (some ⟨rc, 0, none⟩), .string s, .int .i64 line] w fun e w' =>
      e = .returned (.int .i64 (addP model.data.toList ops s line).1) ∧ Below L w w' ∧ (∀ o, (addP model.data.toList ops s line).2 = some o → ∃ v', Rec w' rc b1 b2 base (n + 1) v' model o) := by
  have hrcw := lt_of_blk hr.blk
  have hb1w : b1 < w.heap.size := by obtain ⟨_, h⟩ := hr.ids; exact h.lt
  have hb2w : b2 < w.heap.size := by obtain ⟨_, _, h, _⟩ := hr.opn; exact h.lt
  have hng := he.lt
  have hLw : L ≤ w.heap.size := by omega
  go_enter Tryz.func22, Tryz.ntmps22
  go_wp2_with fail
  refine (objRead_any s _ hs he hu).mono ?_
  rintro e w1 ⟨hb1, ⟨ms, v1, hl, hml, hown, rfl⟩ | ⟨hl, rfl⟩⟩
  · have hgood := lineP_good hl
    have HL : Hid (addP model.data.toList ops s line = if namesOk ms then (if fitsP ms callSlots then ((callP model.data.toList ops ms line).1, (callP model.data.toList ops ms line).2.map (fun o => ops ++ [o])) else if fitsP ms retSlots then retP model.data.toList ops ms line else (3, none)) else (3, none)) := by
      unfold addP; rw [hl]; exact rfl
    have hr1 := hr.below hb1
    clear hl hr
    go_wp2_with fail
    refine (byName_any w1 _ v1 ms hown (by omega) (fun m hm => by have := (hgood m hm).1; omega)).mono ?_
    rintro e w2 ⟨hb2, ⟨hnm, hmap, rfl⟩ | ⟨hnm, rfl⟩⟩
    · have hr2 := hr1.below hb2
      have HL2 : Hid (addP model.data.toList ops s line = if fitsP ms callSlots then ((callP model.data.toList ops ms line).1, (callP model.data.toList ops ms line).2.map (fun o => ops ++ [o])) else if fitsP ms retSlots then retP model.data.toList ops ms line else (3, none)) := by
        rw [HL.out, if_pos hnm]; exact rfl
      have z1 := hb1.size
      have z2 := hb2.size
      have hblm : w1.heap.size < w2.heap.size := hmap.lt
      have hbl2 : Below w.heap.size w w2 := hb1.trans (hb2.mono z1)
      clear HL hnm hown hr1
      go_wp2_with fail
      refine (callShape_any w2).mono ?_
      rintro e w3 ⟨g3, rfl, hg3, hg3', hb3, hsh3⟩
      have hmap3 := hmap.below hb3
      have hr3 := hr2.below hb3
      have z3 := hb3.size
      go_wp2_with fail
      refine (fits_any w3 w1.heap.size ms.length g3 6 ms callSlots hmap3 hg3' hsh3 (by decide) (by omega) (by decide)).mono ?_
      rintro e w4 ⟨rfl, hb4⟩
      have hmap4 := hmap3.below hb4
      have hr4 := hr3.below hb4
      have z4 := hb4.size
      have hbl4 : Below w.heap.size w w4 := (hbl2.trans (hb3.mono (by omega))).trans (hb4.mono (by omega))
      clear hmap hr2 hmap3 hr3 hsh3 hb3 hb4
      cases hf : fitsP ms callSlots with
      | true =>
        have HL3 : Hid (addP model.data.toList ops s line = ((callP model.data.toList ops ms line).1, (callP model.data.toList ops ms line).2.map (fun o => ops ++ [o]))) := by rw [HL2.out, if_pos hf]; exact rfl
        clear hf HL2
        go_wp2_with fail
        refine (addCall_any w4 rc b1 b2 base n w1.heap.size ms.length ms.length L v model ops ms line hr4 hmap4 (ho.below (hbl4.mono (by omega))) (by omega) hL (numOf_wf hgood) (by omega) hn9).mono ?_
        rintro e w5 ⟨rfl, hb5, hrec⟩
        go_wp2
        go_ret
        refine ⟨by rw [HL3.out]; rfl, (hbl4.mono hLw).trans hb5, ?_⟩
        intro o ho'
        rw [HL3.out] at ho'
        obtain ⟨x, hx, rfl⟩ := Option.map_eq_some_iff.1 ho'
        exact hrec x hx
      | false =>
        have HL3 : Hid (addP model.data.toList ops s line = if fitsP ms retSlots then retP model.data.toList ops ms line else (3, none)) := by rw [HL2.out, hf]; exact rfl
        clear hf HL2
        go_wp2_with fail
        refine (returnShape_any w4).mono ?_
        rintro e w5 ⟨g5, rfl, hg5, hg5', hb5, hsh5⟩
        have hmap5 := hmap4.below hb5
        have hr5 := hr4.below hb5
        have z5 := hb5.size
        go_wp2_with fail
        refine (fits_any w5 w1.heap.size ms.length g5 2 ms retSlots hmap5 hg5' hsh5 (by decide) (by omega) (by decide)).mono ?_
        rintro e w6 ⟨rfl, hb6⟩
        have hmap6 := hmap5.below hb6
        have hr6 := hr5.below hb6
        have z6 := hb6.size
        have hbl6 : Below w.heap.size w w6 := (hbl4.trans (hb5.mono (by omega))).trans (hb6.mono (by omega))
        clear hmap4 hr4 hmap5 hr5 hsh5 hb5 hb6 hbl4
        cases hf : fitsP ms retSlots with
        | true =>
          have HL4 : Hid (addP model.data.toList ops s line = retP model.data.toList ops ms line) := by rw [HL3.out, if_pos hf]; exact rfl
          have hkd := kind_val hf
          clear hf HL3
          go_wp2_with fail
          refine (addReturn_any w6 rc b1 b2 base n w1.heap.size ms.length ms.length L v model ops ms line hr6 hmap6 (ho.below (hbl6.mono (by omega))) (by omega) hL (numOf_wf hgood) (by omega) hn9 hline hkd (by omega)).mono ?_
          rintro e w7 ⟨rfl, hb7, hrec⟩
          go_wp2
          go_ret
          refine ⟨by rw [HL4.out]; rfl, (hbl6.mono hLw).trans hb7, ?_⟩
          intro o ho'
          rw [HL4.out] at ho'
          exact ⟨_, hrec o ho'⟩
        | false =>
          have HL4 : Hid (addP model.data.toList ops s line = (3, none)) := by rw [HL3.out, hf]; exact rfl
          clear hf HL3
          go_wp2
          go_ret
          exact ⟨by rw [HL4.out]; rfl, hbl6.mono hLw, by rw [HL4.out]; intro o h; cases h⟩
    · have HL2 : Hid (addP model.data.toList ops s line = (3, none)) := by rw [HL.out, hnm]; exact rfl
      clear HL hnm hown hr1
      have z1 := hb1.size
      go_wp2
      go_ret
      exact ⟨by rw [HL2.out]; rfl, (hb1.mono hLw).trans (hb2.mono (by omega)), by rw [HL2.out]; intro o h; cases h⟩
  · have HL : Hid (addP model.data.toList ops s line = (2, none)) := by unfold addP; rw [hl]; exact rfl
    clear hl hr
    go_wp2
    go_ret
    exact ⟨by rw [HL.out]; rfl, hb1.mono hLw, by rw [HL.out]; intro o h; cases h⟩
end Go.Proofs.YtkkipnihdiabpaaGreatDoor
