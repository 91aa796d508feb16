/- sameOps and Reads, walked. -/
import Derived.Test.YtdfbhjgpkokebaaGreatDoorRefU
import Derived.Test.YtdfbhjgpkokebaaGreatDoorHistJ
namespace Go.Proofs.YtdfbhjgpkokebaaGreatDoor
open Go.RowKit

set_option maxHeartbeats 4000000 in
set_option maxRecDepth 100000 in
theorem sameOps_any (va vb : Value) (b1 b2 : Nat) (ops : List OpV) (w : World) (ha : w.ownsRow b1 48 10 va ops.length (opsRow ops)) (hb : w.ownsRow b2 48 10 vb ops.length (opsRow ops)) (hl : ops.length ≤ 900) :
    Calls Tryz.prog 8 #[va, vb] w fun e w' => Below w.heap.size w w' ∧ e = .returned (.bool true) := by
  obtain ⟨oa, capa, rfl, hoa⟩ := owns_orow ha
  obtain ⟨ob, capb, rfl, hob⟩ := owns_orow hb
  clear ha hb
  go_enter Tryz.func8, Tryz.ntmps8
  go_wp2
  go_loopw [5] (fun i wr => ∃ (k : Nat), i = .int .i64 (k : Int) ∧ k ≤ ops.length ∧ Below w.heap.size w wr) (fun i _ => ops.length - (intOf i).toNat)
  case atStart => exact ⟨0, rfl, by omega, Below.refl _ _⟩
  case round =>
    obtain ⟨k, rfl, hk, hbl⟩ := hrel
    by_cases hin : k < ops.length
    · have hin' : (k : Int) < (ops.length : Int) := by omega
      have hne : ops ≠ [] := by intro h; rw [h] at hin; simp at hin
      obtain ⟨g, rfl, hg, hc⟩ := (hoa.below hbl) hne
      obtain ⟨g2, rfl, hg2, hc2⟩ := (hob.below hbl) hne
      have hcell : ∀ c u, c < 10 → (opvCells ops[k])[c]? = some u → wr.cell? ⟨g, k * 10 + c, none⟩ = some u := fun c u hcc hu => hc _ _ ((opsRow_get ops k hin c hcc).trans hu)
      have hcell2 : ∀ c u, c < 10 → (opvCells ops[k])[c]? = some u → wr.cell? ⟨g2, k * 10 + c, none⟩ = some u := fun c u hcc hu => hc2 _ _ ((opsRow_get ops k hin c hcc).trans hu)
      have q0 := hcell 0 _ (by omega) rfl
      have q1 := hcell 1 _ (by omega) rfl
      have q2 := hcell 2 _ (by omega) rfl
      have q3 := hcell 3 _ (by omega) rfl
      have q4 := hcell 4 _ (by omega) rfl
      have q5 := hcell 5 _ (by omega) rfl
      have q6 := hcell 6 _ (by omega) rfl
      have q7 := hcell 7 _ (by omega) rfl
      have q8 := hcell 8 _ (by omega) rfl
      have q9 := hcell 9 _ (by omega) rfl
      have p0 := hcell2 0 _ (by omega) rfl
      have p1 := hcell2 1 _ (by omega) rfl
      have p2 := hcell2 2 _ (by omega) rfl
      have p3 := hcell2 3 _ (by omega) rfl
      have p4 := hcell2 4 _ (by omega) rfl
      have p5 := hcell2 5 _ (by omega) rfl
      have p6 := hcell2 6 _ (by omega) rfl
      have p7 := hcell2 7 _ (by omega) rfl
      have p8 := hcell2 8 _ (by omega) rfl
      have p9 := hcell2 9 _ (by omega) rfl
      rw [Nat.add_zero] at q0 p0
      clear hcell hcell2 hc hc2 hoa hob
      generalize ops[k] = z at *
      obtain ⟨o1, o2, o3, o4, o5, o6, o7, o8, o9, o10⟩ := z
      simp only at q0 q1 q2 q3 q4 q5 q6 q7 q8 q9 p0 p1 p2 p3 p4 p5 p6 p7 p8 p9
      go_wp2
      go_cut [25] (fun a wx => a = .bool false ∧ wx = wr.drew)
      case first =>
        go_region
        all_goals
          go_wp2_with fail
          go_meet
          exact ⟨rfl, rfl⟩
      case rest =>
        obtain ⟨rfl, rfl⟩ := hcut
        clear q0 q1 q2 q3 q4 q5 q6 q7 q8 q9 p0 p1 p2 p3 p4 p5 p6 p7 p8 p9
        go_wp2
        go_roundw
        case rel => exact ⟨k + 1, by go_num, by omega, hbl.drew⟩
        case measure => simp [intOf]; omega
    · have hin' : ¬ (k : Int) < (ops.length : Int) := by omega
      go_wp2
      go_ret
      exact ⟨hbl, rfl⟩

theorem lets_nats (t : ByteArray) : lets t = nats t.data.toList := rfl
set_option maxHeartbeats 4000000 in
set_option maxRecDepth 100000 in
/-- EVERY READ: the program's answer is the reference's. -/
theorem reads_any (t model : ByteArray) (w : World) (hg : Glob w) (hm : Mods w) (ht : t.size ≤ 2000000) (hml : model.size ≤ 2000000) :
    Calls Tryz.prog 3 #[.string t, .string model] w fun e w' => Below w.heap.size w w' ∧ e = .returned (.bool true) := by
  have hng := hg.errs.lt
  go_enter Tryz.func3, Tryz.ntmps3
  go_wp2_with fail
  refine (lread_any t model _ hg ht).mono ?_
  rintro e w1 ⟨hb1, hcase1⟩
  have hz1 := hb1.size
  have hm1 := hm.below (hb1.mono hng)
  rcases hcase1 with ⟨hk, rfl⟩ | ⟨hk, ⟨ops, v, hr, hl, hown, rfl⟩ | ⟨l, r, hr, rfl⟩⟩
  · have HK : Hid (knownRun model.data.toList opTab = false) := hk
    clear hk
    go_wp2_with fail
    refine (rread_any t model _ hm1 (by omega) ht hml).mono ?_
    rintro e w2 ⟨hb2, ⟨hk2, rfl⟩ | ⟨hk2, _⟩⟩
    · clear hk2
      go_wp2_with fail
      refine (sameOps_any _ _ 0 0 [] _ (World.ownsRow_nil _ _ _ _) (World.ownsRow_nil _ _ _ _) (by simp)).mono ?_
      rintro e w3 ⟨hb3, rfl⟩
      go_wp2
      go_ret
      exact ⟨hb1.trans ((hb2.trans (hb3.mono hb2.size)).mono hz1), rfl⟩
    · rw [mod_known, HK.out] at hk2; cases hk2
  · have HK : Hid (knownRun model.data.toList opTab = true) := hk
    have HR : Hid (readRunR model.data.toList (linesP (lets t)) 0 [] = .inl ops) := by rw [lets_nats, ← read_eq hk]; exact hr
    clear hk hr
    go_wp2_with fail
    refine (rread_any t model _ hm1 (by omega) ht hml).mono ?_
    rintro e w2 ⟨hb2, ⟨hk2, _⟩ | ⟨_, ⟨ops2, v2, hr2, hl2, hown2, rfl⟩ | ⟨l2, r2, hr2, _⟩⟩⟩
    · rw [mod_known, HK.out] at hk2; cases hk2
    · obtain rfl : ops2 = ops := by rw [HR.out] at hr2; injection hr2 with h; exact h.symm
      clear hr2
      have hownA := owns_kept hown (Kept.of_below (S := []) hb2) (by simp)
      go_wp2_with fail
      refine (sameOps_any _ _ _ _ ops2 _ hownA hown2 (by omega)).mono ?_
      rintro e w3 ⟨hb3, rfl⟩
      go_wp2
      go_ret
      exact ⟨hb1.trans ((hb2.trans (hb3.mono hb2.size)).mono hz1), rfl⟩
    · rw [HR.out] at hr2; cases hr2
  · have HK : Hid (knownRun model.data.toList opTab = true) := hk
    have HR : Hid (readRunR model.data.toList (linesP (lets t)) 0 [] = .inr (l, r)) := by rw [lets_nats, ← read_eq hk]; exact hr
    clear hk hr
    go_wp2_with fail
    refine (rread_any t model _ hm1 (by omega) ht hml).mono ?_
    rintro e w2 ⟨hb2, ⟨hk2, _⟩ | ⟨_, ⟨ops2, v2, hr2, hl2, hown2, _⟩ | ⟨l2, r2, hr2, rfl⟩⟩⟩
    · rw [mod_known, HK.out] at hk2; cases hk2
    · rw [HR.out] at hr2; cases hr2
    · obtain ⟨rfl, rfl⟩ : l2 = l ∧ r2 = r := by rw [HR.out] at hr2; injection hr2 with h; injection h with h1 h2; exact ⟨h1.symm, h2.symm⟩
      clear hr2
      go_wp2_with fail
      refine (sameOps_any _ _ 0 0 [] _ (World.ownsRow_nil _ _ _ _) (World.ownsRow_nil _ _ _ _) (by simp)).mono ?_
      rintro e w3 ⟨hb3, rfl⟩
      go_wp2
      go_ret
      exact ⟨hb1.trans ((hb2.trans (hb3.mono hb2.size)).mono hz1), rfl⟩
end Go.Proofs.YtdfbhjgpkokebaaGreatDoor
