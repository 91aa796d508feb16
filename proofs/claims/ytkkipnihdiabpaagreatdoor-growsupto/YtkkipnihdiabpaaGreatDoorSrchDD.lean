/- Several texts in one. -/
import Derived.Test.YtkkipnihdiabpaaGreatDoorSrchAA
/- What a store does, walked. -/
namespace Go.Proofs.YtkkipnihdiabpaaGreatDoor.srch
open Go.RowKit
/-- a number or none -/
abbrev Ph := Bool × Int
/-- a store's key: the state behind an operation, what it gives -/
def stDo (st : Ph) (o : OpV) : Ph × Int × Int :=
  if o.name = [103, 101, 116] then (if st.1 = true then (st, 1, st.2) else (st, 0, 0)) else if o.name = [112, 117, 116] then ((true, o.arg), 0, 0) else if o.name = [100, 101, 108] then ((false, 0), 2, tI st.1) else (st, 0, 0)
theorem st_ret (tm : Array Value) (W : World) (b3 b4 : Nat) (a b c d : Value) (h6 : tm[6]?.getD undef = .pointer (some ⟨b3, 0, none⟩)) (h7 : tm[7]?.getD undef = .pointer (some ⟨b4, 0, none⟩)) (hp : W.heap[b3]? = some (.cells #[a, b] 43 (0, 0))) (hb : W.heap[b4]? = some (.cells #[c, d] 75 (0, 0))) :
    (results Tryz.f183 tm).run Tryz.prog W = .ok (.tuple #[.agg #[a, b], .agg #[c, d]]) W ∧ (results Tryz.f191 tm).run Tryz.prog W = .ok (.tuple #[.agg #[a, b], .agg #[c, d]]) W := by
  have p0 : W.cell? ⟨b3, 0, none⟩ = some a := by rw [cell_of_blk hp]; rfl
  have p1 : W.cell? ⟨b3, 1, none⟩ = some b := by rw [cell_of_blk hp]; rfl
  have c0 : W.cell? ⟨b4, 0, none⟩ = some c := by rw [cell_of_blk hb]; rfl
  have c1 : W.cell? ⟨b4, 1, none⟩ = some d := by rw [cell_of_blk hb]; rfl
  constructor
  · simp [results, Tryz.results183, go_sem, h6, h7, p0, p1, c0, c1]
  · simp [results, Tryz.results191, go_sem, h6, h7, p0, p1, c0, c1]
/-- four stores into the results' blocks -/
theorem four {w W : World} {b3 b4 : Nat} {x y x' y' : Value} (h : Below w.heap.size w W) (h3 : w.heap.size ≤ b3) (h4 : w.heap.size ≤ b4) (hne : b3 ≠ b4) (hp : W.heap[b3]? = some (.cells #[x, y] 43 (0, 0))) (hb : W.heap[b4]? = some (.cells #[x', y'] 75 (0, 0))) (a b c d : Value) (W' : World)
    (hW : W' = (((W.setCell ⟨b3, 0, none⟩ a).setCell ⟨b3, 1, none⟩ b).setCell ⟨b4, 0, none⟩ c).setCell ⟨b4, 1, none⟩ d) : Below w.heap.size w W' ∧ W'.heap[b3]? = some (.cells #[a, b] 43 (0, 0)) ∧ W'.heap[b4]? = some (.cells #[c, d] 75 (0, 0)) := by
  subst hW
  refine ⟨(((h.setCell (p := ⟨b3, 0, none⟩) h3 _).setCell (p := ⟨b3, 1, none⟩) h3 _).setCell (p := ⟨b4, 0, none⟩) h4 _).setCell (p := ⟨b4, 1, none⟩) h4 _, ?_, ?_⟩
  · rw [blk_setCell_ne hne, blk_setCell_ne hne, blk_setCell (blk_setCell hp 0 _) 1 _]; rfl
  · rw [blk_setCell (blk_setCell (by rw [blk_setCell_ne hne.symm, blk_setCell_ne hne.symm]; exact hb) 0 _) 1 _]; rfl
set_option maxHeartbeats 4000000 in
set_option maxRecDepth 100000 in
theorem stDo_any (th : Bool) (n : Int) (o : OpV) (w : World) :
    Calls Tryz.prog 183 #[.agg #[], .agg #[.bool th, .int .i64 n], opAg o] w fun e w' => e = .returned (.tuple #[.agg #[.bool (stDo (th, n) o).1.1, .int .i64 (stDo (th, n) o).1.2], vAg (stDo (th, n) o).2.1 (stDo (th, n) o).2.2]) ∧ Below w.heap.size w w' := by
  have hN := fun W => ofNumber_any n W
  have hT := fun W => ofTruth_any th W
  obtain ⟨R, hR⟩ : ∃ R, Hid (stDo (th, n) o = R) := ⟨_, rfl⟩
  rw [hR.out]
  unfold opAg vAg at *
  obtain ⟨W5, hW5, hbl, hSB, hOB, hPB, hVB⟩ : ∃ W5, ((((w.alloc (.cells #[] 44)).alloc (.cells #[.bool th, .int .i64 n] 43)).alloc (.cells #[.int .i64 o.id, .int .i64 o.cl, .string ⟨o.name.toArray⟩, .string ⟨o.key.toArray⟩, .int .i64 o.arg, .int .i64 o.exp, .int .i64 o.call, .int .i64 o.ret, .int .i64 o.vk, .int .i64 o.vn] 77)).alloc (.cells #[.bool false, .int .i64 0] 43)).alloc (.cells #[.int .i64 0, .int .i64 0] 75) = W5 ∧ Below w.heap.size w W5 ∧ W5.heap[w.heap.size + 1]? = some (.cells #[.bool th, .int .i64 n] 43 (0, 0)) ∧ W5.heap[w.heap.size + 1 + 1]? = some (.cells #[.int .i64 o.id, .int .i64 o.cl, .string ⟨o.name.toArray⟩, .string ⟨o.key.toArray⟩, .int .i64 o.arg, .int .i64 o.exp, .int .i64 o.call, .int .i64 o.ret, .int .i64 o.vk, .int .i64 o.vn] 77 (0, 0)) ∧ W5.heap[w.heap.size + 1 + 1 + 1]? = some (.cells #[.bool false, .int .i64 0] 43 (0, 0)) ∧ W5.heap[w.heap.size + 1 + 1 + 1 + 1]? = some (.cells #[.int .i64 0, .int .i64 0] 75 (0, 0)) := by
    refine ⟨_, rfl, (((((Below.refl _ _).alloc (Nat.le_refl _) _).alloc (by simp) _).alloc (by first | (simp; done) | (simp; omega)) _).alloc (by first | (simp; done) | (simp; omega)) _).alloc (by first | (simp; done) | (simp; omega)) _, ?_, ?_, ?_, blk_new _ _ _ (by simp)⟩
    · rw [blk_old _ _ _ (by first | (simp; done) | (simp; omega)), blk_old _ _ _ (by first | (simp; done) | (simp; omega)), blk_old _ _ _ (by simp)]; exact blk_new _ _ _ (by simp)
    · rw [blk_old _ _ _ (by first | (simp; done) | (simp; omega)), blk_old _ _ _ (by simp)]; exact blk_new _ _ _ (by simp)
    · rw [blk_old _ _ _ (by simp)]; exact blk_new _ _ _ (by simp)
  have s0 : W5.cell? ⟨w.heap.size + 1, 0, none⟩ = some (.bool th) := cell_of_blk hSB 0
  have s1 : W5.cell? ⟨w.heap.size + 1, 1, none⟩ = some (.int .i64 n) := cell_of_blk hSB 1
  have a1 : W5.cell? ⟨w.heap.size + 1 + 1, 1, none⟩ = some (.int .i64 o.cl) := cell_of_blk hOB 1
  have a2 : W5.cell? ⟨w.heap.size + 1 + 1, 2, none⟩ = some (.string ⟨o.name.toArray⟩) := cell_of_blk hOB 2
  have a4 : W5.cell? ⟨w.heap.size + 1 + 1, 4, none⟩ = some (.int .i64 o.arg) := cell_of_blk hOB 4
  have hsz := hbl.size
  have p0 : W5.cell? ⟨w.heap.size + 1 + 1 + 1, 0, none⟩ = some (.bool false) := cell_of_blk hPB 0
  have p1 : W5.cell? ⟨w.heap.size + 1 + 1 + 1, 1, none⟩ = some (.int .i64 0) := cell_of_blk hPB 1
  have x0 := frozen_of_blk hPB 0
  have x1 := frozen_of_blk hPB 1
  have e0 : W5.cell? ⟨w.heap.size + 1 + 1 + 1 + 1, 0, none⟩ = some (.int .i64 0) := cell_of_blk hVB 0
  have e1 : W5.cell? ⟨w.heap.size + 1 + 1 + 1 + 1, 1, none⟩ = some (.int .i64 0) := cell_of_blk hVB 1
  have z0 := frozen_of_blk hVB 0
  have z1 := frozen_of_blk hVB 1
  have H0 := Hid.mk' (And.intro hbl (And.intro hPB (And.intro hVB hSB)))
  clear hbl hPB hVB hSB hOB
  go_enter Tryz.func183, Tryz.ntmps183
  cases h1 : (o.name == [103, 101, 116]) with
  | true =>
    cases th with
    | true =>
      have hE : Hid (R = ((true, n), 1, n)) := by rw [← hR.out]; unfold stDo; rw [if_pos (by simpa using h1), if_pos rfl]; exact rfl
      clear hT hR
      have HBD := Hid.mk' (show Below W5.heap.size W5 W5.drew from (Below.refl _ _).drew)
      go_wp2_with fail
      go_region_held3 (fun w' => w'.cell? ⟨w.heap.size + 1, 0, none⟩ = some (.bool true) ∧ w'.cell? ⟨w.heap.size + 1, 1, none⟩ = some (.int .i64 n)) (first | (with_reducible exact hSE.out _ _ _ _) | (with_reducible exact hSP.out _ _) | (with_reducible exact hS3) | go_keep) (first
        | (go_at_call 180; refine (hN _).mono ?_; rintro e w2 ⟨rfl, hb20⟩; have hb2 : Below W5.heap.size W5 w2 := HBD.out.trans hb20; have hP2 := (hb2.block _ (lt_of_blk H0.out.2.1)).trans H0.out.2.1; have hV2 := (hb2.block _ (lt_of_blk H0.out.2.2.1)).trans H0.out.2.2.1; have hS2 := (hb2.block _ (lt_of_blk H0.out.2.2.2)).trans H0.out.2.2.2; have hbl2 := H0.out.1.trans (hb2.mono hsz); have q0 : w2.cell? ⟨w.heap.size + 1 + 1 + 1, 0, none⟩ = some (.bool false) := cell_of_blk hP2 0; have q1 : w2.cell? ⟨w.heap.size + 1 + 1 + 1, 1, none⟩ = some (.int .i64 0) := cell_of_blk hP2 1; have y0 := frozen_of_blk hP2 0; have y1 := frozen_of_blk hP2 1; have c0 : w2.cell? ⟨w.heap.size + 1 + 1 + 1 + 1, 0, none⟩ = some (.int .i64 0) := cell_of_blk hV2 0; have c1 : w2.cell? ⟨w.heap.size + 1 + 1 + 1 + 1, 1, none⟩ = some (.int .i64 0) := cell_of_blk hV2 1; have f0 := frozen_of_blk hV2 0; have f1 := frozen_of_blk hV2 1; have HX := Hid.mk' (And.intro hbl2 (And.intro hP2 hV2)); have hS3 : w2.cell? ⟨w.heap.size + 1, 0, none⟩ = some (.bool true) ∧ w2.cell? ⟨w.heap.size + 1, 1, none⟩ = some (.int .i64 n) := ⟨cell_of_blk hS2 0, cell_of_blk hS2 1⟩; have hSP : Hid (∀ a b : Value, ((w2.setCell ⟨w.heap.size + 1 + 1 + 1, 0, none⟩ a).setCell ⟨w.heap.size + 1 + 1 + 1, 1, none⟩ b).cell? ⟨w.heap.size + 1, 0, none⟩ = some (.bool true) ∧ ((w2.setCell ⟨w.heap.size + 1 + 1 + 1, 0, none⟩ a).setCell ⟨w.heap.size + 1 + 1 + 1, 1, none⟩ b).cell? ⟨w.heap.size + 1, 1, none⟩ = some (.int .i64 n)) := fun a b => ⟨(set_two' _ _ _ _ _ _ _ (by show w.heap.size + 1 ≠ w.heap.size + 1 + 1 + 1; omega)).trans hS3.1, (set_two' _ _ _ _ _ _ _ (by show w.heap.size + 1 ≠ w.heap.size + 1 + 1 + 1; omega)).trans hS3.2⟩; have hSE : Hid (∀ a b c d : Value, ((((w2.setCell ⟨w.heap.size + 1 + 1 + 1, 0, none⟩ a).setCell ⟨w.heap.size + 1 + 1 + 1, 1, none⟩ b).setCell ⟨w.heap.size + 1 + 1 + 1 + 1, 0, none⟩ c).setCell ⟨w.heap.size + 1 + 1 + 1 + 1, 1, none⟩ d).cell? ⟨w.heap.size + 1, 0, none⟩ = some (.bool true) ∧ ((((w2.setCell ⟨w.heap.size + 1 + 1 + 1, 0, none⟩ a).setCell ⟨w.heap.size + 1 + 1 + 1, 1, none⟩ b).setCell ⟨w.heap.size + 1 + 1 + 1 + 1, 0, none⟩ c).setCell ⟨w.heap.size + 1 + 1 + 1 + 1, 1, none⟩ d).cell? ⟨w.heap.size + 1, 1, none⟩ = some (.int .i64 n)) := fun a b c d => ⟨(set_two' _ _ _ _ _ _ _ (by show w.heap.size + 1 ≠ w.heap.size + 1 + 1 + 1 + 1; omega)).trans (hSP.out a b).1, (set_two' _ _ _ _ _ _ _ (by show w.heap.size + 1 ≠ w.heap.size + 1 + 1 + 1 + 1; omega)).trans (hSP.out a b).2⟩))
      all_goals
        go_wp2
        obtain ⟨g1, g2, g3⟩ := four HX.out.1 (by omega) (by omega) (by omega) HX.out.2.1 HX.out.2.2 _ _ _ _ _ rfl
        refine bodyPost_ret (st_ret _ _ (w.heap.size + 1 + 1 + 1) (w.heap.size + 1 + 1 + 1 + 1) _ _ _ _ (by simp) (by simp) g2 g3).1 rfl ⟨by first | (rw [hE.out]; done) | (rw [hE.out]; rfl), g1⟩
    | false =>
      have hE : Hid (R = ((false, n), 0, 0)) := by rw [← hR.out]; unfold stDo; rw [if_pos (by simpa using h1), if_neg (by simp)]; exact rfl
      clear hT hN hR
      go_wp2
      obtain ⟨g1, g2, g3⟩ := four H0.out.1 (by omega) (by omega) (by omega) H0.out.2.1 H0.out.2.2.1 _ _ _ _ _ rfl
      refine bodyPost_ret (st_ret _ _ (w.heap.size + 1 + 1 + 1) (w.heap.size + 1 + 1 + 1 + 1) _ _ _ _ (by simp) (by simp) g2 g3).1 rfl ⟨by first | (rw [hE.out]; done) | (rw [hE.out]; rfl), g1⟩
  | false =>
    cases h2 : (o.name == [112, 117, 116]) with
    | true =>
      have hE : Hid (R = ((true, o.arg), 0, 0)) := by rw [← hR.out]; unfold stDo; rw [if_neg (by simpa using h1), if_pos (by simpa using h2)]; exact rfl
      clear hT hN hR
      go_wp2
      obtain ⟨g1, g2, g3⟩ := four H0.out.1 (by omega) (by omega) (by omega) H0.out.2.1 H0.out.2.2.1 _ _ _ _ _ rfl
      refine bodyPost_ret (st_ret _ _ (w.heap.size + 1 + 1 + 1) (w.heap.size + 1 + 1 + 1 + 1) _ _ _ _ (by simp) (by simp) g2 g3).1 rfl ⟨by first | (rw [hE.out]; done) | (rw [hE.out]; rfl), g1⟩
    | false =>
      cases h3 : (o.name == [100, 101, 108]) with
      | true =>
        have hE : Hid (R = ((false, 0), 2, tI th)) := by rw [← hR.out]; unfold stDo; rw [if_neg (by simpa using h1), if_neg (by simpa using h2), if_pos (by simpa using h3)]; exact rfl
        clear hN hR
        go_wp2_with fail
        refine (hT _).mono ?_
        rintro e w2 ⟨rfl, hb2⟩
        have hP2 := (hb2.block _ (lt_of_blk H0.out.2.1)).trans H0.out.2.1
        have hV2 := (hb2.block _ (lt_of_blk H0.out.2.2.1)).trans H0.out.2.2.1
        have hS2 := (hb2.block _ (lt_of_blk H0.out.2.2.2)).trans H0.out.2.2.2
        have hbl2 := H0.out.1.trans (hb2.mono hsz)
        have q0 : w2.cell? ⟨w.heap.size + 1 + 1 + 1, 0, none⟩ = some (.bool false) := cell_of_blk hP2 0
        have q1 : w2.cell? ⟨w.heap.size + 1 + 1 + 1, 1, none⟩ = some (.int .i64 0) := cell_of_blk hP2 1
        have y0 := frozen_of_blk hP2 0
        have y1 := frozen_of_blk hP2 1
        have c0 : w2.cell? ⟨w.heap.size + 1 + 1 + 1 + 1, 0, none⟩ = some (.int .i64 0) := cell_of_blk hV2 0
        have c1 : w2.cell? ⟨w.heap.size + 1 + 1 + 1 + 1, 1, none⟩ = some (.int .i64 0) := cell_of_blk hV2 1
        have f0 := frozen_of_blk hV2 0
        have f1 := frozen_of_blk hV2 1
        have HX := Hid.mk' (And.intro hbl2 (And.intro hP2 hV2))
        clear hT hb2 hP2 hV2 hS2 hbl2
        go_wp2
        obtain ⟨g1, g2, g3⟩ := four HX.out.1 (by omega) (by omega) (by omega) HX.out.2.1 HX.out.2.2 _ _ _ _ _ rfl
        refine bodyPost_ret (st_ret _ _ (w.heap.size + 1 + 1 + 1) (w.heap.size + 1 + 1 + 1 + 1) _ _ _ _ (by simp) (by simp) g2 g3).1 rfl ⟨by first | (rw [hE.out]; done) | (rw [hE.out]; rfl), g1⟩
      | false =>
        have hE : Hid (R = ((th, n), 0, 0)) := by rw [← hR.out]; unfold stDo; rw [if_neg (by simpa using h1), if_neg (by simpa using h2), if_neg (by simpa using h3)]; exact rfl
        clear hT hN hR
        go_wp2
        obtain ⟨g1, g2, g3⟩ := four H0.out.1 (by omega) (by omega) (by omega) H0.out.2.1 H0.out.2.2.1 _ _ _ _ _ rfl
        refine bodyPost_ret (st_ret _ _ (w.heap.size + 1 + 1 + 1) (w.heap.size + 1 + 1 + 1 + 1) _ _ _ _ (by simp) (by simp) g2 g3).1 rfl ⟨by first | (rw [hE.out]; done) | (rw [hE.out]; rfl), g1⟩
end Go.Proofs.YtkkipnihdiabpaaGreatDoor.srch
/- What a lock does, walked. -/
namespace Go.Proofs.YtkkipnihdiabpaaGreatDoor.srch
open Go.RowKit
/-- a lock: the state behind an operation, what it gives -/
def lkDo (st : Ph) (o : OpV) : Ph × Int × Int :=
  if o.name = [97, 99, 113] then (if st.1 = false then ((true, o.cl), 2, 1) else (st, 2, 0)) else if o.name = [114, 101, 108] then (if st = (true, o.cl) then ((false, 0), 2, 1) else (st, 2, 0)) else (st, 0, 0)
set_option maxHeartbeats 4000000 in
set_option maxRecDepth 100000 in
theorem lkDo_any (th : Bool) (n : Int) (o : OpV) (w : World) :
    Calls Tryz.prog 191 #[.agg #[], .agg #[.bool th, .int .i64 n], opAg o] w fun e w' => e = .returned (.tuple #[.agg #[.bool (lkDo (th, n) o).1.1, .int .i64 (lkDo (th, n) o).1.2], vAg (lkDo (th, n) o).2.1 (lkDo (th, n) o).2.2]) ∧ Below w.heap.size w w' := by
  have hT := fun b W => ofTruth_any b W
  obtain ⟨R, hR⟩ : ∃ R, Hid (lkDo (th, n) o = R) := ⟨_, rfl⟩
  rw [hR.out]
  unfold opAg vAg at *
  obtain ⟨W5, hW5, hbl, hSB, hOB, hPB, hVB, hCB⟩ : ∃ W5, (((((w.alloc (.cells #[] 50)).alloc (.cells #[.bool th, .int .i64 n] 43)).alloc (.cells #[.int .i64 o.id, .int .i64 o.cl, .string ⟨o.name.toArray⟩, .string ⟨o.key.toArray⟩, .int .i64 o.arg, .int .i64 o.exp, .int .i64 o.call, .int .i64 o.ret, .int .i64 o.vk, .int .i64 o.vn] 77)).alloc (.cells #[.bool false, .int .i64 0] 43)).alloc (.cells #[.int .i64 0, .int .i64 0] 75)).alloc (.cells #[.bool true, .int .i64 o.cl] 43) = W5 ∧ Below w.heap.size w W5 ∧ W5.heap[w.heap.size + 1]? = some (.cells #[.bool th, .int .i64 n] 43 (0, 0)) ∧ W5.heap[w.heap.size + 1 + 1]? = some (.cells #[.int .i64 o.id, .int .i64 o.cl, .string ⟨o.name.toArray⟩, .string ⟨o.key.toArray⟩, .int .i64 o.arg, .int .i64 o.exp, .int .i64 o.call, .int .i64 o.ret, .int .i64 o.vk, .int .i64 o.vn] 77 (0, 0)) ∧ W5.heap[w.heap.size + 1 + 1 + 1]? = some (.cells #[.bool false, .int .i64 0] 43 (0, 0)) ∧ W5.heap[w.heap.size + 1 + 1 + 1 + 1]? = some (.cells #[.int .i64 0, .int .i64 0] 75 (0, 0)) ∧ W5.heap[w.heap.size + 1 + 1 + 1 + 1 + 1]? = some (.cells #[.bool true, .int .i64 o.cl] 43 (0, 0)) := by
    refine ⟨_, rfl, ((((((Below.refl _ _).alloc (Nat.le_refl _) _).alloc (by simp) _).alloc (by first | (simp; done) | (simp; omega)) _).alloc (by first | (simp; done) | (simp; omega)) _).alloc (by first | (simp; done) | (simp; omega)) _).alloc (by first | (simp; done) | (simp; omega)) _, ?_, ?_, ?_, ?_, blk_new _ _ _ (by simp)⟩
    · rw [blk_old _ _ _ (by first | (simp; done) | (simp; omega)), blk_old _ _ _ (by first | (simp; done) | (simp; omega)), blk_old _ _ _ (by first | (simp; done) | (simp; omega)), blk_old _ _ _ (by simp)]; exact blk_new _ _ _ (by simp)
    · rw [blk_old _ _ _ (by first | (simp; done) | (simp; omega)), blk_old _ _ _ (by first | (simp; done) | (simp; omega)), blk_old _ _ _ (by simp)]; exact blk_new _ _ _ (by simp)
    · rw [blk_old _ _ _ (by first | (simp; done) | (simp; omega)), blk_old _ _ _ (by simp)]; exact blk_new _ _ _ (by simp)
    · rw [blk_old _ _ _ (by simp)]; exact blk_new _ _ _ (by simp)
  have s0 : W5.cell? ⟨w.heap.size + 1, 0, none⟩ = some (.bool th) := cell_of_blk hSB 0
  have s1 : W5.cell? ⟨w.heap.size + 1, 1, none⟩ = some (.int .i64 n) := cell_of_blk hSB 1
  have k0 : W5.cell? ⟨w.heap.size + 1 + 1 + 1 + 1 + 1, 0, none⟩ = some (.bool true) := cell_of_blk hCB 0
  have k1 : W5.cell? ⟨w.heap.size + 1 + 1 + 1 + 1 + 1, 1, none⟩ = some (.int .i64 o.cl) := cell_of_blk hCB 1
  have a2 : W5.cell? ⟨w.heap.size + 1 + 1, 2, none⟩ = some (.string ⟨o.name.toArray⟩) := cell_of_blk hOB 2
  have hsz := hbl.size
  have p0 : W5.cell? ⟨w.heap.size + 1 + 1 + 1, 0, none⟩ = some (.bool false) := cell_of_blk hPB 0
  have p1 : W5.cell? ⟨w.heap.size + 1 + 1 + 1, 1, none⟩ = some (.int .i64 0) := cell_of_blk hPB 1
  have x0 := frozen_of_blk hPB 0
  have x1 := frozen_of_blk hPB 1
  have e0 : W5.cell? ⟨w.heap.size + 1 + 1 + 1 + 1, 0, none⟩ = some (.int .i64 0) := cell_of_blk hVB 0
  have e1 : W5.cell? ⟨w.heap.size + 1 + 1 + 1 + 1, 1, none⟩ = some (.int .i64 0) := cell_of_blk hVB 1
  have z0 := frozen_of_blk hVB 0
  have z1 := frozen_of_blk hVB 1
  have H0 := Hid.mk' (And.intro hbl (And.intro hPB (And.intro hVB (And.intro hSB hCB))))
  have HBD := Hid.mk' (show Below W5.heap.size W5 W5.drew from (Below.refl _ _).drew)
  clear hbl hPB hVB hSB hOB hCB
  go_enter Tryz.func191, Tryz.ntmps191
  cases h1 : (o.name == [97, 99, 113]) with
  | true =>
    cases th with
    | false =>
      have hE : Hid (R = ((true, o.cl), 2, 1)) := by rw [← hR.out]; unfold lkDo; rw [if_pos (by simpa using h1), if_pos rfl]; exact rfl
      clear hR
      go_wp2_with fail
      go_region_held3 (fun w' => w'.cell? ⟨w.heap.size + 1 + 1 + 1 + 1 + 1, 0, none⟩ = some (.bool true) ∧ w'.cell? ⟨w.heap.size + 1 + 1 + 1 + 1 + 1, 1, none⟩ = some (.int .i64 o.cl)) (first | (with_reducible exact hSE.out _ _ _ _) | (with_reducible exact hSP.out _ _) | (with_reducible exact hS3) | go_keep) (first
        | (go_at_call 181; refine (hT true _).mono ?_; rintro e w2 ⟨rfl, hb20⟩; have hb2 : Below W5.heap.size W5 w2 := HBD.out.trans hb20; have hP2 := (hb2.block _ (lt_of_blk H0.out.2.1)).trans H0.out.2.1; have hV2 := (hb2.block _ (lt_of_blk H0.out.2.2.1)).trans H0.out.2.2.1; have hS2 := (hb2.block _ (lt_of_blk H0.out.2.2.2.1)).trans H0.out.2.2.2.1; have hC2 := (hb2.block _ (lt_of_blk H0.out.2.2.2.2)).trans H0.out.2.2.2.2; have hbl2 := H0.out.1.trans (hb2.mono hsz); have q0 : w2.cell? ⟨w.heap.size + 1 + 1 + 1, 0, none⟩ = some (.bool false) := cell_of_blk hP2 0; have q1 : w2.cell? ⟨w.heap.size + 1 + 1 + 1, 1, none⟩ = some (.int .i64 0) := cell_of_blk hP2 1; have y0 := frozen_of_blk hP2 0; have y1 := frozen_of_blk hP2 1; have c0 : w2.cell? ⟨w.heap.size + 1 + 1 + 1 + 1, 0, none⟩ = some (.int .i64 0) := cell_of_blk hV2 0; have c1 : w2.cell? ⟨w.heap.size + 1 + 1 + 1 + 1, 1, none⟩ = some (.int .i64 0) := cell_of_blk hV2 1; have f0 := frozen_of_blk hV2 0; have f1 := frozen_of_blk hV2 1; have HX := Hid.mk' (And.intro hbl2 (And.intro hP2 hV2)); have hS3 : w2.cell? ⟨w.heap.size + 1 + 1 + 1 + 1 + 1, 0, none⟩ = some (.bool true) ∧ w2.cell? ⟨w.heap.size + 1 + 1 + 1 + 1 + 1, 1, none⟩ = some (.int .i64 o.cl) := ⟨cell_of_blk hC2 0, cell_of_blk hC2 1⟩; have hSP : Hid (∀ a b : Value, ((w2.setCell ⟨w.heap.size + 1 + 1 + 1, 0, none⟩ a).setCell ⟨w.heap.size + 1 + 1 + 1, 1, none⟩ b).cell? ⟨w.heap.size + 1 + 1 + 1 + 1 + 1, 0, none⟩ = some (.bool true) ∧ ((w2.setCell ⟨w.heap.size + 1 + 1 + 1, 0, none⟩ a).setCell ⟨w.heap.size + 1 + 1 + 1, 1, none⟩ b).cell? ⟨w.heap.size + 1 + 1 + 1 + 1 + 1, 1, none⟩ = some (.int .i64 o.cl)) := fun a b => ⟨(set_two' _ _ _ _ _ _ _ (by show w.heap.size + 1 + 1 + 1 + 1 + 1 ≠ w.heap.size + 1 + 1 + 1; omega)).trans hS3.1, (set_two' _ _ _ _ _ _ _ (by show w.heap.size + 1 + 1 + 1 + 1 + 1 ≠ w.heap.size + 1 + 1 + 1; omega)).trans hS3.2⟩; have hSE : Hid (∀ a b c d : Value, ((((w2.setCell ⟨w.heap.size + 1 + 1 + 1, 0, none⟩ a).setCell ⟨w.heap.size + 1 + 1 + 1, 1, none⟩ b).setCell ⟨w.heap.size + 1 + 1 + 1 + 1, 0, none⟩ c).setCell ⟨w.heap.size + 1 + 1 + 1 + 1, 1, none⟩ d).cell? ⟨w.heap.size + 1 + 1 + 1 + 1 + 1, 0, none⟩ = some (.bool true) ∧ ((((w2.setCell ⟨w.heap.size + 1 + 1 + 1, 0, none⟩ a).setCell ⟨w.heap.size + 1 + 1 + 1, 1, none⟩ b).setCell ⟨w.heap.size + 1 + 1 + 1 + 1, 0, none⟩ c).setCell ⟨w.heap.size + 1 + 1 + 1 + 1, 1, none⟩ d).cell? ⟨w.heap.size + 1 + 1 + 1 + 1 + 1, 1, none⟩ = some (.int .i64 o.cl)) := fun a b c d => ⟨(set_two' _ _ _ _ _ _ _ (by show w.heap.size + 1 + 1 + 1 + 1 + 1 ≠ w.heap.size + 1 + 1 + 1 + 1; omega)).trans (hSP.out a b).1, (set_two' _ _ _ _ _ _ _ (by show w.heap.size + 1 + 1 + 1 + 1 + 1 ≠ w.heap.size + 1 + 1 + 1 + 1; omega)).trans (hSP.out a b).2⟩))
      all_goals
        go_wp2
        obtain ⟨g1, g2, g3⟩ := four HX.out.1 (by omega) (by omega) (by omega) HX.out.2.1 HX.out.2.2 _ _ _ _ _ rfl
        refine bodyPost_ret (st_ret _ _ (w.heap.size + 1 + 1 + 1) (w.heap.size + 1 + 1 + 1 + 1) _ _ _ _ (by simp) (by simp) g2 g3).2 rfl ⟨by first | (rw [hE.out]; done) | (rw [hE.out]; rfl), g1⟩
    | true =>
      have hE : Hid (R = ((true, n), 2, 0)) := by rw [← hR.out]; unfold lkDo; rw [if_pos (by simpa using h1), if_neg (by simp)]; exact rfl
      clear hR
      go_wp2_with fail
      go_region_held3 (fun w' => w'.cell? ⟨w.heap.size + 1, 0, none⟩ = some (.bool true) ∧ w'.cell? ⟨w.heap.size + 1, 1, none⟩ = some (.int .i64 n)) (first | (with_reducible exact hSE.out _ _ _ _) | (with_reducible exact hSP.out _ _) | (with_reducible exact hS3) | go_keep) (first
        | (go_at_call 181; refine (hT false _).mono ?_; rintro e w2 ⟨rfl, hb20⟩; have hb2 : Below W5.heap.size W5 w2 := HBD.out.trans hb20; have hP2 := (hb2.block _ (lt_of_blk H0.out.2.1)).trans H0.out.2.1; have hV2 := (hb2.block _ (lt_of_blk H0.out.2.2.1)).trans H0.out.2.2.1; have hS2 := (hb2.block _ (lt_of_blk H0.out.2.2.2.1)).trans H0.out.2.2.2.1; have hC2 := (hb2.block _ (lt_of_blk H0.out.2.2.2.2)).trans H0.out.2.2.2.2; have hbl2 := H0.out.1.trans (hb2.mono hsz); have q0 : w2.cell? ⟨w.heap.size + 1 + 1 + 1, 0, none⟩ = some (.bool false) := cell_of_blk hP2 0; have q1 : w2.cell? ⟨w.heap.size + 1 + 1 + 1, 1, none⟩ = some (.int .i64 0) := cell_of_blk hP2 1; have y0 := frozen_of_blk hP2 0; have y1 := frozen_of_blk hP2 1; have c0 : w2.cell? ⟨w.heap.size + 1 + 1 + 1 + 1, 0, none⟩ = some (.int .i64 0) := cell_of_blk hV2 0; have c1 : w2.cell? ⟨w.heap.size + 1 + 1 + 1 + 1, 1, none⟩ = some (.int .i64 0) := cell_of_blk hV2 1; have f0 := frozen_of_blk hV2 0; have f1 := frozen_of_blk hV2 1; have HX := Hid.mk' (And.intro hbl2 (And.intro hP2 hV2)); have hS3 : w2.cell? ⟨w.heap.size + 1, 0, none⟩ = some (.bool true) ∧ w2.cell? ⟨w.heap.size + 1, 1, none⟩ = some (.int .i64 n) := ⟨cell_of_blk hS2 0, cell_of_blk hS2 1⟩; have hSP : Hid (∀ a b : Value, ((w2.setCell ⟨w.heap.size + 1 + 1 + 1, 0, none⟩ a).setCell ⟨w.heap.size + 1 + 1 + 1, 1, none⟩ b).cell? ⟨w.heap.size + 1, 0, none⟩ = some (.bool true) ∧ ((w2.setCell ⟨w.heap.size + 1 + 1 + 1, 0, none⟩ a).setCell ⟨w.heap.size + 1 + 1 + 1, 1, none⟩ b).cell? ⟨w.heap.size + 1, 1, none⟩ = some (.int .i64 n)) := fun a b => ⟨(set_two' _ _ _ _ _ _ _ (by show w.heap.size + 1 ≠ w.heap.size + 1 + 1 + 1; omega)).trans hS3.1, (set_two' _ _ _ _ _ _ _ (by show w.heap.size + 1 ≠ w.heap.size + 1 + 1 + 1; omega)).trans hS3.2⟩; have hSE : Hid (∀ a b c d : Value, ((((w2.setCell ⟨w.heap.size + 1 + 1 + 1, 0, none⟩ a).setCell ⟨w.heap.size + 1 + 1 + 1, 1, none⟩ b).setCell ⟨w.heap.size + 1 + 1 + 1 + 1, 0, none⟩ c).setCell ⟨w.heap.size + 1 + 1 + 1 + 1, 1, none⟩ d).cell? ⟨w.heap.size + 1, 0, none⟩ = some (.bool true) ∧ ((((w2.setCell ⟨w.heap.size + 1 + 1 + 1, 0, none⟩ a).setCell ⟨w.heap.size + 1 + 1 + 1, 1, none⟩ b).setCell ⟨w.heap.size + 1 + 1 + 1 + 1, 0, none⟩ c).setCell ⟨w.heap.size + 1 + 1 + 1 + 1, 1, none⟩ d).cell? ⟨w.heap.size + 1, 1, none⟩ = some (.int .i64 n)) := fun a b c d => ⟨(set_two' _ _ _ _ _ _ _ (by show w.heap.size + 1 ≠ w.heap.size + 1 + 1 + 1 + 1; omega)).trans (hSP.out a b).1, (set_two' _ _ _ _ _ _ _ (by show w.heap.size + 1 ≠ w.heap.size + 1 + 1 + 1 + 1; omega)).trans (hSP.out a b).2⟩))
      all_goals
        go_wp2
        obtain ⟨g1, g2, g3⟩ := four HX.out.1 (by omega) (by omega) (by omega) HX.out.2.1 HX.out.2.2 _ _ _ _ _ rfl
        refine bodyPost_ret (st_ret _ _ (w.heap.size + 1 + 1 + 1) (w.heap.size + 1 + 1 + 1 + 1) _ _ _ _ (by simp) (by simp) g2 g3).2 rfl ⟨by first | (rw [hE.out]; done) | (rw [hE.out]; rfl), g1⟩
  | false =>
    cases h2 : (o.name == [114, 101, 108]) with
    | true =>
      cases th with
      | false =>
        have hE : Hid (R = ((false, n), 2, 0)) := by rw [← hR.out]; unfold lkDo; rw [if_neg (by simpa using h1), if_pos (by simpa using h2), if_neg (by simp)]; exact rfl
        clear hR
        go_wp2_with fail
        go_region_held3 (fun w' => w'.cell? ⟨w.heap.size + 1, 0, none⟩ = some (.bool false) ∧ w'.cell? ⟨w.heap.size + 1, 1, none⟩ = some (.int .i64 n)) (first | (with_reducible exact hSE.out _ _ _ _) | (with_reducible exact hSP.out _ _) | (with_reducible exact hS3) | go_keep) (first
          | (go_at_call 181; refine (hT false _).mono ?_; rintro e w2 ⟨rfl, hb20⟩; have hb2 : Below W5.heap.size W5 w2 := HBD.out.trans hb20; have hP2 := (hb2.block _ (lt_of_blk H0.out.2.1)).trans H0.out.2.1; have hV2 := (hb2.block _ (lt_of_blk H0.out.2.2.1)).trans H0.out.2.2.1; have hS2 := (hb2.block _ (lt_of_blk H0.out.2.2.2.1)).trans H0.out.2.2.2.1; have hC2 := (hb2.block _ (lt_of_blk H0.out.2.2.2.2)).trans H0.out.2.2.2.2; have hbl2 := H0.out.1.trans (hb2.mono hsz); have q0 : w2.cell? ⟨w.heap.size + 1 + 1 + 1, 0, none⟩ = some (.bool false) := cell_of_blk hP2 0; have q1 : w2.cell? ⟨w.heap.size + 1 + 1 + 1, 1, none⟩ = some (.int .i64 0) := cell_of_blk hP2 1; have y0 := frozen_of_blk hP2 0; have y1 := frozen_of_blk hP2 1; have c0 : w2.cell? ⟨w.heap.size + 1 + 1 + 1 + 1, 0, none⟩ = some (.int .i64 0) := cell_of_blk hV2 0; have c1 : w2.cell? ⟨w.heap.size + 1 + 1 + 1 + 1, 1, none⟩ = some (.int .i64 0) := cell_of_blk hV2 1; have f0 := frozen_of_blk hV2 0; have f1 := frozen_of_blk hV2 1; have HX := Hid.mk' (And.intro hbl2 (And.intro hP2 hV2)); have hS3 : w2.cell? ⟨w.heap.size + 1, 0, none⟩ = some (.bool false) ∧ w2.cell? ⟨w.heap.size + 1, 1, none⟩ = some (.int .i64 n) := ⟨cell_of_blk hS2 0, cell_of_blk hS2 1⟩; have hSP : Hid (∀ a b : Value, ((w2.setCell ⟨w.heap.size + 1 + 1 + 1, 0, none⟩ a).setCell ⟨w.heap.size + 1 + 1 + 1, 1, none⟩ b).cell? ⟨w.heap.size + 1, 0, none⟩ = some (.bool false) ∧ ((w2.setCell ⟨w.heap.size + 1 + 1 + 1, 0, none⟩ a).setCell ⟨w.heap.size + 1 + 1 + 1, 1, none⟩ b).cell? ⟨w.heap.size + 1, 1, none⟩ = some (.int .i64 n)) := fun a b => ⟨(set_two' _ _ _ _ _ _ _ (by show w.heap.size + 1 ≠ w.heap.size + 1 + 1 + 1; omega)).trans hS3.1, (set_two' _ _ _ _ _ _ _ (by show w.heap.size + 1 ≠ w.heap.size + 1 + 1 + 1; omega)).trans hS3.2⟩; have hSE : Hid (∀ a b c d : Value, ((((w2.setCell ⟨w.heap.size + 1 + 1 + 1, 0, none⟩ a).setCell ⟨w.heap.size + 1 + 1 + 1, 1, none⟩ b).setCell ⟨w.heap.size + 1 + 1 + 1 + 1, 0, none⟩ c).setCell ⟨w.heap.size + 1 + 1 + 1 + 1, 1, none⟩ d).cell? ⟨w.heap.size + 1, 0, none⟩ = some (.bool false) ∧ ((((w2.setCell ⟨w.heap.size + 1 + 1 + 1, 0, none⟩ a).setCell ⟨w.heap.size + 1 + 1 + 1, 1, none⟩ b).setCell ⟨w.heap.size + 1 + 1 + 1 + 1, 0, none⟩ c).setCell ⟨w.heap.size + 1 + 1 + 1 + 1, 1, none⟩ d).cell? ⟨w.heap.size + 1, 1, none⟩ = some (.int .i64 n)) := fun a b c d => ⟨(set_two' _ _ _ _ _ _ _ (by show w.heap.size + 1 ≠ w.heap.size + 1 + 1 + 1 + 1; omega)).trans (hSP.out a b).1, (set_two' _ _ _ _ _ _ _ (by show w.heap.size + 1 ≠ w.heap.size + 1 + 1 + 1 + 1; omega)).trans (hSP.out a b).2⟩))
        all_goals
          go_wp2
          obtain ⟨g1, g2, g3⟩ := four HX.out.1 (by omega) (by omega) (by omega) HX.out.2.1 HX.out.2.2 _ _ _ _ _ rfl
          refine bodyPost_ret (st_ret _ _ (w.heap.size + 1 + 1 + 1) (w.heap.size + 1 + 1 + 1 + 1) _ _ _ _ (by simp) (by simp) g2 g3).2 rfl ⟨by first | (rw [hE.out]; done) | (rw [hE.out]; rfl), g1⟩
      | true =>
        cases h3 : (n == o.cl) with
        | true =>
          have hE : Hid (R = ((false, 0), 2, 1)) := by rw [← hR.out]; unfold lkDo; rw [if_neg (by simpa using h1), if_pos (by simpa using h2), if_pos (by simpa using h3)]; exact rfl
          clear hR
          go_wp2_with fail
          refine (hT true _).mono ?_
          rintro e w2 ⟨rfl, hb2⟩
          have hP2 := (hb2.block _ (lt_of_blk H0.out.2.1)).trans H0.out.2.1
          have hV2 := (hb2.block _ (lt_of_blk H0.out.2.2.1)).trans H0.out.2.2.1
          have hS2 := (hb2.block _ (lt_of_blk H0.out.2.2.2.1)).trans H0.out.2.2.2.1
          have hC2 := (hb2.block _ (lt_of_blk H0.out.2.2.2.2)).trans H0.out.2.2.2.2
          have hbl2 := H0.out.1.trans (hb2.mono hsz)
          have q0 : w2.cell? ⟨w.heap.size + 1 + 1 + 1, 0, none⟩ = some (.bool false) := cell_of_blk hP2 0
          have q1 : w2.cell? ⟨w.heap.size + 1 + 1 + 1, 1, none⟩ = some (.int .i64 0) := cell_of_blk hP2 1
          have y0 := frozen_of_blk hP2 0
          have y1 := frozen_of_blk hP2 1
          have c0 : w2.cell? ⟨w.heap.size + 1 + 1 + 1 + 1, 0, none⟩ = some (.int .i64 0) := cell_of_blk hV2 0
          have c1 : w2.cell? ⟨w.heap.size + 1 + 1 + 1 + 1, 1, none⟩ = some (.int .i64 0) := cell_of_blk hV2 1
          have f0 := frozen_of_blk hV2 0
          have f1 := frozen_of_blk hV2 1
          have HX := Hid.mk' (And.intro hbl2 (And.intro hP2 hV2))
          clear hb2 hP2 hV2 hS2 hC2 hbl2
          go_wp2
          obtain ⟨g1, g2, g3⟩ := four HX.out.1 (by omega) (by omega) (by omega) HX.out.2.1 HX.out.2.2 _ _ _ _ _ rfl
          refine bodyPost_ret (st_ret _ _ (w.heap.size + 1 + 1 + 1) (w.heap.size + 1 + 1 + 1 + 1) _ _ _ _ (by simp) (by simp) g2 g3).2 rfl ⟨by first | (rw [hE.out]; done) | (rw [hE.out]; rfl), g1⟩
        | false =>
          have hE : Hid (R = ((true, n), 2, 0)) := by rw [← hR.out]; unfold lkDo; rw [if_neg (by simpa using h1), if_pos (by simpa using h2), if_neg (by simpa using h3)]; exact rfl
          clear hR
          go_wp2_with fail
          go_region_held3 (fun w' => w'.cell? ⟨w.heap.size + 1, 0, none⟩ = some (.bool true) ∧ w'.cell? ⟨w.heap.size + 1, 1, none⟩ = some (.int .i64 n)) (first | (with_reducible exact hSE.out _ _ _ _) | (with_reducible exact hSP.out _ _) | (with_reducible exact hS3) | go_keep) (first
            | (go_at_call 181; refine (hT false _).mono ?_; rintro e w2 ⟨rfl, hb20⟩; have hb2 : Below W5.heap.size W5 w2 := HBD.out.trans hb20; have hP2 := (hb2.block _ (lt_of_blk H0.out.2.1)).trans H0.out.2.1; have hV2 := (hb2.block _ (lt_of_blk H0.out.2.2.1)).trans H0.out.2.2.1; have hS2 := (hb2.block _ (lt_of_blk H0.out.2.2.2.1)).trans H0.out.2.2.2.1; have hC2 := (hb2.block _ (lt_of_blk H0.out.2.2.2.2)).trans H0.out.2.2.2.2; have hbl2 := H0.out.1.trans (hb2.mono hsz); have q0 : w2.cell? ⟨w.heap.size + 1 + 1 + 1, 0, none⟩ = some (.bool false) := cell_of_blk hP2 0; have q1 : w2.cell? ⟨w.heap.size + 1 + 1 + 1, 1, none⟩ = some (.int .i64 0) := cell_of_blk hP2 1; have y0 := frozen_of_blk hP2 0; have y1 := frozen_of_blk hP2 1; have c0 : w2.cell? ⟨w.heap.size + 1 + 1 + 1 + 1, 0, none⟩ = some (.int .i64 0) := cell_of_blk hV2 0; have c1 : w2.cell? ⟨w.heap.size + 1 + 1 + 1 + 1, 1, none⟩ = some (.int .i64 0) := cell_of_blk hV2 1; have f0 := frozen_of_blk hV2 0; have f1 := frozen_of_blk hV2 1; have HX := Hid.mk' (And.intro hbl2 (And.intro hP2 hV2)); have hS3 : w2.cell? ⟨w.heap.size + 1, 0, none⟩ = some (.bool true) ∧ w2.cell? ⟨w.heap.size + 1, 1, none⟩ = some (.int .i64 n) := ⟨cell_of_blk hS2 0, cell_of_blk hS2 1⟩; have hSP : Hid (∀ a b : Value, ((w2.setCell ⟨w.heap.size + 1 + 1 + 1, 0, none⟩ a).setCell ⟨w.heap.size + 1 + 1 + 1, 1, none⟩ b).cell? ⟨w.heap.size + 1, 0, none⟩ = some (.bool true) ∧ ((w2.setCell ⟨w.heap.size + 1 + 1 + 1, 0, none⟩ a).setCell ⟨w.heap.size + 1 + 1 + 1, 1, none⟩ b).cell? ⟨w.heap.size + 1, 1, none⟩ = some (.int .i64 n)) := fun a b => ⟨(set_two' _ _ _ _ _ _ _ (by show w.heap.size + 1 ≠ w.heap.size + 1 + 1 + 1; omega)).trans hS3.1, (set_two' _ _ _ _ _ _ _ (by show w.heap.size + 1 ≠ w.heap.size + 1 + 1 + 1; omega)).trans hS3.2⟩; have hSE : Hid (∀ a b c d : Value, ((((w2.setCell ⟨w.heap.size + 1 + 1 + 1, 0, none⟩ a).setCell ⟨w.heap.size + 1 + 1 + 1, 1, none⟩ b).setCell ⟨w.heap.size + 1 + 1 + 1 + 1, 0, none⟩ c).setCell ⟨w.heap.size + 1 + 1 + 1 + 1, 1, none⟩ d).cell? ⟨w.heap.size + 1, 0, none⟩ = some (.bool true) ∧ ((((w2.setCell ⟨w.heap.size + 1 + 1 + 1, 0, none⟩ a).setCell ⟨w.heap.size + 1 + 1 + 1, 1, none⟩ b).setCell ⟨w.heap.size + 1 + 1 + 1 + 1, 0, none⟩ c).setCell ⟨w.heap.size + 1 + 1 + 1 + 1, 1, none⟩ d).cell? ⟨w.heap.size + 1, 1, none⟩ = some (.int .i64 n)) := fun a b c d => ⟨(set_two' _ _ _ _ _ _ _ (by show w.heap.size + 1 ≠ w.heap.size + 1 + 1 + 1 + 1; omega)).trans (hSP.out a b).1, (set_two' _ _ _ _ _ _ _ (by show w.heap.size + 1 ≠ w.heap.size + 1 + 1 + 1 + 1; omega)).trans (hSP.out a b).2⟩))
          all_goals
            go_wp2
            obtain ⟨g1, g2, g3⟩ := four HX.out.1 (by omega) (by omega) (by omega) HX.out.2.1 HX.out.2.2 _ _ _ _ _ rfl
            refine bodyPost_ret (st_ret _ _ (w.heap.size + 1 + 1 + 1) (w.heap.size + 1 + 1 + 1 + 1) _ _ _ _ (by simp) (by simp) g2 g3).2 rfl ⟨by first | (rw [hE.out]; done) | (rw [hE.out]; rfl), g1⟩
    | false =>
      have hE : Hid (R = ((th, n), 0, 0)) := by rw [← hR.out]; unfold lkDo; rw [if_neg (by simpa using h1), if_neg (by simpa using h2)]; exact rfl
      clear hT hR
      go_wp2
      obtain ⟨g1, g2, g3⟩ := four H0.out.1 (by omega) (by omega) (by omega) H0.out.2.1 H0.out.2.2.1 _ _ _ _ _ rfl
      refine bodyPost_ret (st_ret _ _ (w.heap.size + 1 + 1 + 1) (w.heap.size + 1 + 1 + 1 + 1) _ _ _ _ (by simp) (by simp) g2 g3).2 rfl ⟨by first | (rw [hE.out]; done) | (rw [hE.out]; rfl), g1⟩
end Go.Proofs.YtkkipnihdiabpaaGreatDoor.srch
