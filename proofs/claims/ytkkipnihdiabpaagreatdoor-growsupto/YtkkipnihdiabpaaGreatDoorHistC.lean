/- history.fits, walked. -/
import Derived.Test.YtkkipnihdiabpaaGreatDoorHistB
namespace Go.Proofs.YtkkipnihdiabpaaGreatDoor
open Go.RowKit Go.Maps

theorem drop_cons_get {α : Type} (l : List α) (j : Nat) (h : j < l.length) : l.drop j = l[j] :: l.drop (j + 1) := List.drop_eq_getElem_cons h

set_option maxHeartbeats 2000000 in
set_option maxRecDepth 100000 in
theorem fits_any (w : World) (bm n g cap : Nat) (ms : List Mem) (sl : List Slot) (hmap0 : MapFn w 9 bm n ms.length (memFn ms)) (hg : g < w.heap.size) (hsh0 : ShapeAt w g sl) (hl : sl.length ≤ 1000) (_hml : ms.length ≤ 2000000)
    (hnm : ∀ s ∈ sl, s.1.length ≤ 1000 ∧ s.2.2.length ≤ 1000) :
    Calls Tryz.prog 37 #[.map (some bm), .slice (some ⟨g, 0, none⟩) sl.length cap] w fun e w' => e = .returned (.bool (fitsP ms sl)) ∧ Below w.heap.size w w' := by
  go_enter Tryz.func37, Tryz.ntmps37
  go_wp2
  go_loopw [5, 12] (fun fd i wr => ∃ j c : Nat, j ≤ sl.length ∧ c ≤ j ∧ i = .int .i64 j ∧ fd = .int .i64 c ∧ fitsRun ms (sl.drop j) c = fitsRun ms sl 0 ∧ Below w.heap.size w wr) (fun _ i _ => sl.length - (intOf i).toNat)
  case atStart => exact ⟨0, 0, Nat.zero_le _, Nat.zero_le _, rfl, rfl, rfl, Below.refl _ _⟩
  case round =>
    obtain ⟨j, c, hj, hc, rfl, rfl, HR, hbl⟩ := hrel
    have hR : Hid (fitsRun ms (sl.drop j) c = fitsRun ms sl 0) := HR
    clear HR
    have hsz := hbl.size
    have hmap := hmap0.below hbl
    by_cases hlt : j < sl.length
    · obtain ⟨d0, d1, gk, ck, d2, hgk, d3⟩ := (hsh0.below hg hbl) j hlt
      have hD : Hid (sl.drop j = sl[j] :: sl.drop (j + 1)) := drop_cons_get sl j hlt
      have hnb := hnm sl[j] (List.getElem_mem hlt)
      generalize sl[j] = s at *
      obtain ⟨nm, must, kinds⟩ := s
      simp only at d0 d1 d2 d3 hnb
      have hji : (j : Int) < (sl.length : Int) := by omega
      have hlk := (hmap.alloc (.cells #[.string ⟨nm.toArray⟩, .bool must, .slice (some ⟨gk, 0, none⟩) kinds.length ck] 181)).runOk lawS Tryz.underlying91 (zeroV _) (keyOfS (s := ⟨nm.toArray⟩) (by unfold maxLen; show nm.toArray.size ≤ _; simp; omega))
      cases hf : memFind ms nm with
      | none =>
        have e2 : memFn ms (.string nm) = none := by simp [memFn, hf]
        simp only [e2, Option.getD_none, Option.isSome_none] at hlk
        cases must with
        | true =>
          have hE : Hid (fitsP ms sl = false) := by
            unfold fitsP; rw [← hR.out, hD.out, fitsRun]; simp [hf, Hid]
          clear hf e2 hR hD hmap0 hsh0 hmap
          go_wp2
          go_ret
          exact ⟨by rw [hE.out]; rfl, (hbl.alloc hsz _).alloc (by simp; omega) _⟩
        | false =>
          have hR' : Hid (fitsRun ms (sl.drop (j + 1)) c = fitsRun ms sl 0) := by
            rw [← hR.out, hD.out]; show _ = fitsRun ms (_ :: _) c; rw [fitsRun]; simp [hf]
          clear hf e2 hR hD hmap0 hsh0 hmap
          go_wp2
          go_roundw
          case rel => exact ⟨j + 1, c, by omega, by omega, by go_num, rfl, hR'.out, (hbl.alloc hsz _).alloc (by simp; omega) _⟩
          case measure => simp [intOf]; omega
      | some m =>
        obtain ⟨a1, a2, a3, a4⟩ := m
        have e2 : memFn ms (.string nm) = some (.agg #[.int .i64 a2, .int .i64 a3, .string ⟨a4.toArray⟩]) := by simp [memFn, hf, aggV]
        simp only [e2, Option.getD_some, Option.isSome_some] at hlk
        have hS : Hid (fitsRun ms sl 0 = if kinds.contains a2 then fitsRun ms (sl.drop (j + 1)) (c + 1) else none) := by
          rw [← hR.out, hD.out]; show fitsRun ms (_ :: _) c = _; rw [fitsRun]; simp [hf]
        have hcl : ∀ W : World, Below w.heap.size w W → Below wr.heap.size wr W → Calls Tryz.prog 73 #[.slice (some ⟨gk, 0, none⟩) kinds.length ck, .int .i64 a2] W fun e w' => e = .returned (.bool (kinds.contains a2)) ∧ w' = W := by
          intro W _ hW
          have := Tryz.slices_Contains_int gk 0 kinds.length ck kinds a2 W (Nat.le_refl _) (by omega) (fun j hj => (hW.cell (p := ⟨gk, 0 + j, none⟩) hgk).trans (d3 j hj))
          rw [List.take_length] at this
          exact this
        clear hf e2 hR hD hmap0 hsh0 hmap d3
        go_wp2_with (go_at_call 73; refine (hcl _ ((hbl.alloc hsz _).alloc (by simp; omega) _) (((Below.refl _ _).alloc (Nat.le_refl _) _).alloc (by simp) _)).mono ?_)
        rintro e w2 ⟨rfl, rfl⟩
        cases hk : kinds.contains a2 with
        | true =>
          have hR' : Hid (fitsRun ms (sl.drop (j + 1)) (c + 1) = fitsRun ms sl 0) := by rw [hS.out, if_pos hk]; exact rfl
          clear hk hS hcl
          go_wp2
          go_roundw
          case rel => exact ⟨j + 1, c + 1, by omega, by omega, by go_num, by go_num, hR'.out, (hbl.alloc hsz _).alloc (by simp; omega) _⟩
          case measure => simp [intOf]; omega
        | false =>
          have hE : Hid (fitsP ms sl = false) := by unfold fitsP; rw [hS.out, if_neg (by rw [hk]; exact Bool.false_ne_true)]; exact rfl
          clear hk hS hcl
          go_wp2
          go_ret
          exact ⟨by rw [hE.out]; rfl, (hbl.alloc hsz _).alloc (by simp; omega) _⟩
    · have hjl : j = sl.length := by omega
      have hE : Hid (fitsP ms sl = ((c : Int) == (ms.length : Int))) := by
        unfold fitsP; rw [← hR.out, hjl, List.drop_length, fitsRun]
        show (c == ms.length) = _
        rw [Bool.eq_iff_iff]; simp; omega
      clear hR hjl
      have hlen := hmap.runLen Tryz.underlying91 3
      go_wp2
      go_ret
      exact ⟨by rw [hE.out]; rfl, hbl⟩
end Go.Proofs.YtkkipnihdiabpaaGreatDoor
