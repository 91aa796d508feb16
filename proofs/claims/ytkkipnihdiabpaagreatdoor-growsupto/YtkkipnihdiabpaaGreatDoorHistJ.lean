/- history.Read and linear.Read, walked. -/
import Derived.Test.YtkkipnihdiabpaaGreatDoorHistI
namespace Go.Proofs.YtkkipnihdiabpaaGreatDoor
open Go.RowKit Go.Maps

theorem callP_ok (model : List UInt8) (ops : List OpV) (ms : List Mem) (line : Int) : ((callP model ops ms line).1 = 0 ∧ (callP model ops ms line).2.isSome) ∨ ((callP model ops ms line).1 ≠ 0 ∧ (callP model ops ms line).2 = none) := by
  unfold callP
  simp only
  split
  · right; exact ⟨by decide, rfl⟩
  · split
    · split
      · right; exact ⟨by decide, rfl⟩
      · split
        · right; exact ⟨by decide, rfl⟩
        · left; exact ⟨rfl, rfl⟩
    · right; exact ⟨by decide, rfl⟩
theorem retP_ok (model : List UInt8) (ops : List OpV) (ms : List Mem) (line : Int) : ((retP model ops ms line).1 = 0 ∧ (retP model ops ms line).2.isSome) ∨ ((retP model ops ms line).1 ≠ 0 ∧ (retP model ops ms line).2 = none) := by
  unfold retP
  split
  · right; exact ⟨by decide, rfl⟩
  · split
    · right; exact ⟨by decide, rfl⟩
    · split
      · right; exact ⟨by decide, rfl⟩
      · split
        · left; exact ⟨rfl, rfl⟩
        · right; exact ⟨by decide, rfl⟩
theorem addP_ok (model : List UInt8) (ops : List OpV) (s : ByteArray) (line : Int) : ((addP model ops s line).1 = 0 ∧ (addP model ops s line).2.isSome) ∨ ((addP model ops s line).1 ≠ 0 ∧ (addP model ops s line).2 = none) := by
  unfold addP
  split
  · right; exact ⟨by decide, rfl⟩
  · rename_i ms _
    split
    · split
      · rcases callP_ok model ops ms line with ⟨h1, h2⟩ | ⟨h1, h2⟩
        · left; exact ⟨h1, by simpa using h2⟩
        · right; exact ⟨h1, by simp [h2]⟩
      · split
        · exact retP_ok model ops ms line
        · right; exact ⟨by decide, rfl⟩
    · right; exact ⟨by decide, rfl⟩

/-- the lines one by one: the operations, or the line and the reason -/
def readRun (model : List UInt8) : Nat → List OpV → List UInt8 → Nat → List OpV ⊕ (Int × Int)
  | 0, _, _, k => .inr ((k : Int), 1)
  | f + 1, ops, t, k => if t = [] then .inl ops else if f = 0 then .inr (((k : Int) + 1), 1) else
    match addP model ops ⟨(Lib.cut t [10]).1.toArray⟩ ((k : Int) + 1) with
    | (r, none) => .inr (((k : Int) + 1), r)
    | (_, some ops') => readRun model f ops' (Lib.cut t [10]).2.1 (k + 1)
def readP (model t : List UInt8) : List OpV ⊕ (Int × Int) := readRun model 129 [] t 0

/-- what linear.Read answers, as a value -/
def resOf (v : Value) (r : List OpV ⊕ (Int × Int)) : List Value := match r with | .inl _ => [v, .int .i64 0, .int .i64 0] | .inr (l, y) => [.slice none 0 0, .int .i64 l, .int .i64 y]
def HReadPost (model t : List UInt8) (w : World) (e : Ending) (w' : World) : Prop :=
  Below w.heap.size w w' ∧ ((∃ ops v, readP model t = .inl ops ∧ ops.length ≤ 128 ∧ w'.ownsRow w.heap.size 77 10 v ops.length (opsRow ops) ∧ e = .returned (.tuple #[v, .int .i64 0, .int .i64 0])) ∨
    (∃ l r, readP model t = .inr (l, r) ∧ e = .returned (.tuple #[.slice none 0 0, .int .i64 l, .int .i64 r])))

/-- all that the package-level variables must hold -/
structure Glob (w : World) : Prop where
  ops : Ops w
  errs : Errs w
  utf : Utf w
  mx : ∃ m, w.cell? ⟨2, 0, none⟩ = some (.int .i64 m)
theorem Glob.below {w w' : World} (h : Glob w) (k : Below 9 w w') : Glob w' := by
  obtain ⟨m, hm⟩ := h.mx
  exact ⟨h.ops.below k, h.errs.below k, h.utf.below k, m, (k.cell (p := ⟨2, 0, none⟩) (by show 2 < 9; omega)).trans hm⟩

theorem idFn_nil : ∀ x, (none : Option Value) = idFn [] x := by
  intro x
  unfold idFn
  split <;> rfl

theorem cut_len (t : List UInt8) : (Lib.cut t [10]).1.length ≤ t.length ∧ (Lib.cut t [10]).2.1.length ≤ t.length := by
  unfold Lib.cut
  split
  · constructor
    · simp; omega
    · simp
  · exact ⟨Nat.le_refl _, by simp⟩

set_option maxHeartbeats 4000000 in
set_option maxRecDepth 100000 in
theorem hread_any (t model : ByteArray) (w : World) (hg : Glob w) (ht : t.size ≤ 2000000) :
    Calls Tryz.prog 12 #[.string t, .string model] w fun e w' => HReadPost model.data.toList t.data.toList w e w' := by
  have hmm := @run_makeMap Tryz.prog
  have hng := hg.errs.lt
  go_enter Tryz.func12, Tryz.ntmps12
  go_wp2
  go_loopw [0, 8] (fun tx nu wr => ∃ (k f n : Nat) (tt : ByteArray) (ops : List OpV) (v : Value), tx = .string tt ∧ nu = .int .i64 ((k : Int) + 1) ∧ k + f = 129 ∧ 1 ≤ f ∧ n ≤ k ∧ tt.size ≤ 2000000 ∧ readRun model.data.toList f ops tt.data.toList k = readP model.data.toList t.data.toList ∧
      Rec wr (w.heap.size + 2) w.heap.size (w.heap.size + 1) (w.heap.size + 3) n v model ops ∧ Below w.heap.size w wr ∧ w.heap.size + 3 ≤ wr.heap.size) (fun _ nu _ => 130 - (intOf nu).toNat)
  case atStart =>
    refine ⟨0, 129, 0, t, [], .slice none 0 0, rfl, by go_num, by omega, by omega, by omega, ht, rfl, ?_, ((((Below.refl _ _).alloc (Nat.le_refl _) _).alloc (by simp) _).alloc (by simp; omega) _), by simp⟩
    have m1 : MapFn (((w.alloc (.map #[] 0)).alloc (.map #[] 0)).alloc (.cells #[.string model, .slice none 0 0, .map (some w.heap.size), .map (some (w.heap.size + 1))] 58)) 2 w.heap.size 0 0 (fun _ => none) := ((MapFn.made w _).alloc _).alloc _
    have m2 : MapFn (((w.alloc (.map #[] 0)).alloc (.map #[] 0)).alloc (.cells #[.string model, .slice none 0 0, .map (some w.heap.size), .map (some (w.heap.size + 1))] 58)) 2 (w.heap.size + 1) 0 0 (fun _ => none) := by
      have := (MapFn.made (w.alloc (.map #[] 0)) 2).alloc (.cells #[.string model, .slice none 0 0, .map (some w.heap.size), .map (some (w.heap.size + 1))] 58)
      simpa using this
    exact ⟨blk_new _ _ _ (by simp), World.ownsRow_nil _ _ _ _, ⟨0, m1.congr idFn_nil⟩, ⟨0, _, m2, fun c => rfl⟩, by omega, by omega, by omega, by omega, by omega, by omega, by simp, by simp⟩
  case round =>
    obtain ⟨k, f, n, tt, ops, v, rfl, rfl, hkf, hf1, hnk, hts, HR, hrec, hbl, hsz⟩ := hrel
    have hR : Hid (readRun model.data.toList f ops tt.data.toList k = readP model.data.toList t.data.toList) := HR
    clear HR
    obtain ⟨f, rfl⟩ : ∃ f', f = f' + 1 := ⟨f - 1, by omega⟩
    cases hemp : tt.toList.isEmpty with
    | true =>
      have hnil : tt.data.toList = [] := by rw [← toList_data]; exact List.isEmpty_iff.1 hemp
      have hX : Hid (readP model.data.toList t.data.toList = .inl ops) := by rw [← hR.out, readRun, if_pos hnil]; exact rfl
      have c1 : wr.cell? ⟨w.heap.size + 2, 1, none⟩ = some v := by rw [cell_of_blk hrec.blk]; rfl
      have hown := hrec.own
      have hfew := hrec.few
      obtain ⟨va, vc, rfl⟩ := slice_form hown
      clear hR hnil hrec
      go_wp2
      go_ret3
      refine ⟨hbl, Or.inl ⟨ops, _, hX.out, by omega, ⟨hown.1, ?_⟩, rfl⟩⟩
      rcases hown.2 with h | ⟨g, cap, cur, h1, hbg, r⟩
      · exact .inl h
      · exact .inr ⟨g, cap, cur, h1, by omega, r⟩
    | false =>
      have hne : ¬ tt.data.toList = [] := by rw [← toList_data]; intro h; rw [h] at hemp; cases hemp
      by_cases hk : k < 128
      · obtain ⟨f, rfl⟩ : ∃ f', f = f' + 1 := ⟨f - 1, by omega⟩
        have hk' : (k : Int) + 1 ≤ 128 := by omega
        have hS : Hid (readP model.data.toList t.data.toList = (match addP model.data.toList ops ⟨(Lib.cut tt.data.toList [10]).1.toArray⟩ ((k : Int) + 1) with
            | (r, none) => .inr (((k : Int) + 1), r)
            | (_, some ops') => readRun model.data.toList (f + 1) ops' (Lib.cut tt.data.toList [10]).2.1 (k + 1))) := by
          rw [← hR.out, readRun, if_neg hne, if_neg (by omega)]; exact rfl
        have hcl := cut_len tt.data.toList
        have htl : tt.data.toList.length = tt.size := by simp
        have hgr : Glob wr := hg.below (hbl.mono (by omega))
        obtain ⟨mx, hmx⟩ := hgr.mx
        clear hR hne hmm
        go_wp2_with fail
        refine (Tryz.strings_Cut tt ⟨#[10]⟩ mx _ (by omega) hmx).mono ?_
        rw [show ((⟨#[10]⟩ : ByteArray)).data.toList = [10] from rfl]
        rintro e w1 ⟨rfl, dn, rfl⟩
        generalize Lib.cut tt.data.toList [10] = ct at *
        obtain ⟨l1, l2, l3⟩ := ct
        simp only at hcl hS ⊢
        have hrec1 : Rec (wr.drewN dn) (w.heap.size + 2) w.heap.size (w.heap.size + 1) (w.heap.size + 3) n v model ops := hrec.below (below_drewN (Below.refl _ _) dn)
        have hg1 : Glob (wr.drewN dn) := hgr.below (below_drewN (Below.refl _ _) dn)
        go_wp2_with fail
        refine (add_any (wr.drewN dn) (w.heap.size + 2) w.heap.size (w.heap.size + 1) (w.heap.size + 3) n w.heap.size v model ops ⟨l1.toArray⟩ ((k : Int) + 1) hrec1 hg1.ops hg1.errs hg1.utf (by omega) hng (by exact hsz) (by omega) (by omega) (by show l1.toArray.size ≤ _; simp; omega)).mono ?_
        rintro e w2 ⟨rfl, hb2, hrec2⟩
        have hbl2 : Below w.heap.size w w2 := (below_drewN hbl dn).trans hb2
        have hz2 := hb2.size
        have hz3 : w.heap.size + 3 ≤ w2.heap.size := Nat.le_trans hsz hz2
        rcases addP_ok model.data.toList ops ⟨l1.toArray⟩ ((k : Int) + 1) with ⟨h1, h2⟩ | ⟨h1, h2⟩
        · obtain ⟨ops', hops⟩ := Option.isSome_iff_exists.1 h2
          obtain ⟨v', hr'⟩ := hrec2 ops' hops
          have hS2 : Hid (readRun model.data.toList (f + 1) ops' l2 (k + 1) = readP model.data.toList t.data.toList) := by
            rw [hS.out]
            rw [show addP model.data.toList ops ⟨l1.toArray⟩ ((k : Int) + 1) = (0, some ops') from Prod.ext h1 hops]; exact rfl
          rw [h1]
          clear hS h1 h2 hops hrec2 hrec hrec1
          go_wp2
          go_roundw
          case rel => exact ⟨k + 1, f + 1, n + 1, ⟨l2.toArray⟩, ops', v', rfl, by go_num, by omega, by omega, by omega, by show l2.toArray.size ≤ _; simp; omega, hS2.out, hr', hbl2, hz3⟩
          case measure => simp [intOf]; omega
        · have hX : Hid (readP model.data.toList t.data.toList = .inr (((k : Int) + 1), (addP model.data.toList ops ⟨l1.toArray⟩ ((k : Int) + 1)).1)) := by
            rw [hS.out]
            rw [show addP model.data.toList ops ⟨l1.toArray⟩ ((k : Int) + 1) = ((addP model.data.toList ops ⟨l1.toArray⟩ ((k : Int) + 1)).1, none) from Prod.ext rfl h2]; exact rfl
          clear hS h2 hrec2 hrec hrec1
          generalize (addP model.data.toList ops ⟨l1.toArray⟩ ((k : Int) + 1)).1 = rr at *
          have hrr : (rr != 0) = true := by simpa using h1
          go_wp2
          go_ret3
          exact ⟨hbl2, Or.inr ⟨_, _, hX.out, rfl⟩⟩
      · have hk8 : k = 128 := by omega
        have hf0 : f = 0 := by omega
        have hX : Hid (readP model.data.toList t.data.toList = .inr (((k : Int) + 1), 1)) := by rw [← hR.out, readRun, if_neg hne, if_pos hf0]; exact rfl
        have hk' : (128 : Int) < (k : Int) + 1 := by omega
        clear hR hk8 hf0 hne hrec
        go_wp2
        go_ret3
        exact ⟨hbl, Or.inr ⟨_, _, hX.out, rfl⟩⟩

/-- what linear.Read answers -/
def LReadPost (model t : List UInt8) (w : World) (e : Ending) (w' : World) : Prop :=
  Below w.heap.size w w' ∧ ((knownRun model opTab = false ∧ e = .returned (.tuple #[.slice none 0 0, .int .i64 0, .int .i64 0, .int .i64 1])) ∨
    (knownRun model opTab = true ∧ ((∃ ops v, readP model t = .inl ops ∧ ops.length ≤ 128 ∧ w'.ownsRow w.heap.size 77 10 v ops.length (opsRow ops) ∧ e = .returned (.tuple #[v, .int .i64 0, .int .i64 0, .int .i64 0])) ∨
      (∃ l r, readP model t = .inr (l, r) ∧ e = .returned (.tuple #[.slice none 0 0, .int .i64 l, .int .i64 r, .int .i64 0])))))

set_option maxHeartbeats 2000000 in
set_option maxRecDepth 100000 in
theorem lread_any (t model : ByteArray) (w : World) (hg : Glob w) (ht : t.size ≤ 2000000) :
    Calls Tryz.prog 8 #[.string t, .string model] w fun e w' => LReadPost model.data.toList t.data.toList w e w' := by
  have hng := hg.errs.lt
  go_enter Tryz.func8, Tryz.ntmps8
  go_wp2_with fail
  refine (known_any model _ hg.ops hng).mono ?_
  rintro e w1 ⟨rfl, hb1⟩
  have z1 := hb1.size
  cases hkn : knownRun model.data.toList opTab with
  | false =>
    have HK : Hid (knownRun model.data.toList opTab = false) := hkn
    clear hkn
    go_wp2
    refine bodyPost_ret (v := .tuple #[.slice none 0 0, .int .i64 0, .int .i64 0, .int .i64 1]) (by simp [results, Tryz.results8, go_sem]) rfl ⟨hb1, Or.inl ⟨HK.out, rfl⟩⟩
  | true =>
    have HK : Hid (knownRun model.data.toList opTab = true) := hkn
    clear hkn
    go_wp2_with fail
    refine (hread_any t model _ (hg.below (hb1.mono hng)) ht).mono ?_
    rintro e w2 ⟨hb2, ⟨ops, v, hr, hl, hown, rfl⟩ | ⟨l, r, hr, rfl⟩⟩
    · have HR : Hid (readP model.data.toList t.data.toList = .inl ops) := hr
      clear hr
      go_wp2
      refine bodyPost_ret (v := .tuple #[v, .int .i64 0, .int .i64 0, .int .i64 0]) (by simp [results, Tryz.results8, go_sem]) rfl ⟨hb1.trans (hb2.mono z1), Or.inr ⟨HK.out, Or.inl ⟨ops, v, HR.out, hl, ⟨hown.1, ?_⟩, rfl⟩⟩⟩
      rcases hown.2 with h | ⟨g, cap, cur, h1, hbg, r⟩
      · exact .inl h
      · exact .inr ⟨g, cap, cur, h1, by omega, r⟩
    · have HR : Hid (readP model.data.toList t.data.toList = .inr (l, r)) := hr
      clear hr
      go_wp2
      exact bodyPost_ret (v := .tuple #[.slice none 0 0, .int .i64 l, .int .i64 r, .int .i64 0]) (by simp [results, Tryz.results8, go_sem]) rfl ⟨hb1.trans (hb2.mono z1), Or.inr ⟨HK.out, Or.inr ⟨l, r, HR.out, rfl⟩⟩⟩
end Go.Proofs.YtkkipnihdiabpaaGreatDoor
