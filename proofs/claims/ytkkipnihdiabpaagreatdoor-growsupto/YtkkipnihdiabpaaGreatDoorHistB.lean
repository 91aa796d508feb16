/- history.fits and the two shapes, walked: whether the members are those of a shape. -/
import Derived.Test.YtkkipnihdiabpaaGreatDoorHistA
namespace Go.Proofs.YtkkipnihdiabpaaGreatDoor
open Go.RowKit Go.Maps

abbrev Slot := List UInt8 × Bool × List Int
def callSlots : List Slot := [([99, 97, 108, 108], true, [1]), ([98, 121], true, [1]), ([111, 112], true, [3]), ([107, 101, 121], false, [3]), ([97, 114, 103], false, [1]), ([101, 120, 112], false, [1])]
def retSlots : List Slot := [([114, 101, 116], true, [1]), ([118, 97, 108], true, [0, 1, 2])]

/-- a row of slots in block g -/
def ShapeAt (w : World) (g : Nat) (sl : List Slot) : Prop :=
  ∀ i (h : i < sl.length), w.cell? ⟨g, i * 3, none⟩ = some (.string ⟨(sl[i]).1.toArray⟩) ∧ w.cell? ⟨g, i * 3 + 1, none⟩ = some (.bool (sl[i]).2.1) ∧
    ∃ gk c, w.cell? ⟨g, i * 3 + 2, none⟩ = some (.slice (some ⟨gk, 0, none⟩) (sl[i]).2.2.length c) ∧ gk < w.heap.size ∧ ∀ j, j < (sl[i]).2.2.length → w.cell? ⟨gk, 0 + j, none⟩ = some (.int .i64 ((sl[i]).2.2.getD j 0))

def fitsRun (ms : List Mem) : List Slot → Nat → Option Nat
  | [], n => some n
  | s :: r, n => match memFind ms s.1 with
    | none => if s.2.1 then none else fitsRun ms r n
    | some m => if s.2.2.contains m.2.1 then fitsRun ms r (n + 1) else none
def fitsP (ms : List Mem) (sl : List Slot) : Bool := match fitsRun ms sl 0 with | none => false | some n => n == ms.length

theorem blk_new (W : World) (o : Obj) (n : Nat) (h : n = W.heap.size) : (W.alloc o).heap[n]? = some o := by
  subst h; show (W.heap.push o)[W.heap.size]? = _; simp
theorem blk_old (W : World) (o : Obj) (n : Nat) (h : n < W.heap.size) : (W.alloc o).heap[n]? = W.heap[n]? := Below.heap_alloc _ _ _ h

/-- a shape by its blocks -/
theorem shape_slot {w : World} {g gk i : Nat} {c ck : Array Value} {t tk : TypeId} {f fk : Nat × Nat} {s : Slot} (hg : w.heap[g]? = some (.cells c t f)) (h0 : c[i * 3]? = some (.string ⟨s.1.toArray⟩)) (h1 : c[i * 3 + 1]? = some (.bool s.2.1))
    (cp : Nat) (h2 : c[i * 3 + 2]? = some (.slice (some ⟨gk, 0, none⟩) s.2.2.length cp)) (hk : w.heap[gk]? = some (.cells ck tk fk)) (hc : ∀ j, j < s.2.2.length → ck[j]? = some (.int .i64 (s.2.2.getD j 0))) :
    w.cell? ⟨g, i * 3, none⟩ = some (.string ⟨s.1.toArray⟩) ∧ w.cell? ⟨g, i * 3 + 1, none⟩ = some (.bool s.2.1) ∧
    ∃ gk c, w.cell? ⟨g, i * 3 + 2, none⟩ = some (.slice (some ⟨gk, 0, none⟩) s.2.2.length c) ∧ gk < w.heap.size ∧ ∀ j, j < s.2.2.length → w.cell? ⟨gk, 0 + j, none⟩ = some (.int .i64 (s.2.2.getD j 0)) :=
  ⟨by rw [cell_of_blk hg, h0], by rw [cell_of_blk hg, h1], gk, cp, by rw [cell_of_blk hg, h2], lt_of_blk hk, fun j hj => by rw [cell_of_blk hk, Nat.zero_add]; exact hc j hj⟩

theorem one_cell (v : Int) : ∀ j, j < [v].length → (#[Value.int .i64 v])[j]? = some (.int .i64 ([v].getD j 0)) := by
  intro j hj
  have : j = 0 := by simp at hj; omega
  subst this; rfl
theorem three_cells (a b c : Int) : ∀ j, j < [a, b, c].length → (#[Value.int .i64 a, .int .i64 b, .int .i64 c])[j]? = some (.int .i64 ([a, b, c].getD j 0)) := by
  intro j hj
  have : j = 0 ∨ j = 1 ∨ j = 2 := by simp at hj; omega
  rcases this with rfl | rfl | rfl <;> rfl

set_option maxHeartbeats 1000000 in
set_option maxRecDepth 100000 in
theorem callShape_any (w : World) :
    Calls Tryz.prog 38 #[] w fun e w' => ∃ g, e = .returned (.slice (some ⟨g, 0, none⟩) 6 6) ∧ w.heap.size ≤ g ∧ g < w'.heap.size ∧ Below w.heap.size w w' ∧ ShapeAt w' g callSlots := by
  go_enter Tryz.func38, Tryz.ntmps38
  go_wp2
  go_ret
  refine ⟨_, rfl, by omega, by simp, ?_, ?_⟩
  · exact ((((((((Below.refl _ _).alloc (Nat.le_refl _) _).alloc (by simp) _).alloc (by simp; omega) _).alloc (by simp; omega) _).alloc (by simp; omega) _).alloc (by simp; omega) _).alloc (by simp; omega) _)
  · intro i h
    match i, h with
    | 0, _ => exact shape_slot (s := callSlots[0]) (gk := w.heap.size) (blk_new _ _ _ (by simp)) rfl rfl 1 rfl ((blk_old _ _ _ (by simp <;> omega)).trans ((blk_old _ _ _ (by simp <;> omega)).trans ((blk_old _ _ _ (by simp <;> omega)).trans ((blk_old _ _ _ (by simp <;> omega)).trans ((blk_old _ _ _ (by simp <;> omega)).trans ((blk_old _ _ _ (by simp <;> omega)).trans (blk_new _ _ _ (by simp)))))))) (one_cell 1)
    | 1, _ => exact shape_slot (s := callSlots[1]) (gk := w.heap.size + 1) (blk_new _ _ _ (by simp)) rfl rfl 1 rfl ((blk_old _ _ _ (by simp <;> omega)).trans ((blk_old _ _ _ (by simp <;> omega)).trans ((blk_old _ _ _ (by simp <;> omega)).trans ((blk_old _ _ _ (by simp <;> omega)).trans ((blk_old _ _ _ (by simp <;> omega)).trans (blk_new _ _ _ (by simp))))))) (one_cell 1)
    | 2, _ => exact shape_slot (s := callSlots[2]) (gk := w.heap.size + 1 + 1) (blk_new _ _ _ (by simp)) rfl rfl 1 rfl ((blk_old _ _ _ (by simp <;> omega)).trans ((blk_old _ _ _ (by simp <;> omega)).trans ((blk_old _ _ _ (by simp <;> omega)).trans ((blk_old _ _ _ (by simp <;> omega)).trans (blk_new _ _ _ (by simp)))))) (one_cell 3)
    | 3, _ => exact shape_slot (s := callSlots[3]) (gk := w.heap.size + 1 + 1 + 1) (blk_new _ _ _ (by simp)) rfl rfl 1 rfl ((blk_old _ _ _ (by simp <;> omega)).trans ((blk_old _ _ _ (by simp <;> omega)).trans ((blk_old _ _ _ (by simp <;> omega)).trans (blk_new _ _ _ (by simp))))) (one_cell 3)
    | 4, _ => exact shape_slot (s := callSlots[4]) (gk := w.heap.size + 1 + 1 + 1 + 1) (blk_new _ _ _ (by simp)) rfl rfl 1 rfl ((blk_old _ _ _ (by simp <;> omega)).trans ((blk_old _ _ _ (by simp <;> omega)).trans (blk_new _ _ _ (by simp)))) (one_cell 1)
    | 5, _ => exact shape_slot (s := callSlots[5]) (gk := w.heap.size + 1 + 1 + 1 + 1 + 1) (blk_new _ _ _ (by simp)) rfl rfl 1 rfl ((blk_old _ _ _ (by simp <;> omega)).trans (blk_new _ _ _ (by simp))) (one_cell 1)
    | n + 6, h => simp [callSlots] at h; omega

set_option maxHeartbeats 1000000 in
set_option maxRecDepth 100000 in
theorem returnShape_any (w : World) :
    Calls Tryz.prog 40 #[] w fun e w' => ∃ g, e = .returned (.slice (some ⟨g, 0, none⟩) 2 2) ∧ w.heap.size ≤ g ∧ g < w'.heap.size ∧ Below w.heap.size w w' ∧ ShapeAt w' g retSlots := by
  go_enter Tryz.func40, Tryz.ntmps40
  go_wp2
  go_ret
  refine ⟨_, rfl, by omega, by simp, ?_, ?_⟩
  · exact ((((Below.refl _ _).alloc (Nat.le_refl _) _).alloc (by simp) _).alloc (by simp; omega) _)
  · intro i h
    match i, h with
    | 0, _ => exact shape_slot (s := retSlots[0]) (gk := w.heap.size) (blk_new _ _ _ (by simp)) rfl rfl 1 rfl ((blk_old _ _ _ (by simp <;> omega)).trans ((blk_old _ _ _ (by simp <;> omega)).trans (blk_new _ _ _ (by simp)))) (one_cell 1)
    | 1, _ => exact shape_slot (s := retSlots[1]) (gk := w.heap.size + 1) (blk_new _ _ _ (by simp)) rfl rfl 3 rfl ((blk_old _ _ _ (by simp <;> omega)).trans (blk_new _ _ _ (by simp))) (three_cells 0 1 2)
    | n + 2, h => simp [retSlots] at h; omega

theorem ShapeAt.below {w w' : World} {g : Nat} {sl : List Slot} (h : ShapeAt w g sl) (hg : g < w.heap.size) (k : Below w.heap.size w w') : ShapeAt w' g sl := by
  intro i hi
  obtain ⟨h0, h1, gk, c, h2, h3, h4⟩ := h i hi
  exact ⟨(k.cell (p := ⟨g, i * 3, none⟩) hg).trans h0, (k.cell (p := ⟨g, i * 3 + 1, none⟩) hg).trans h1, gk, c, (k.cell (p := ⟨g, i * 3 + 2, none⟩) hg).trans h2, Nat.lt_of_lt_of_le h3 k.size, fun j hj => (k.cell (p := ⟨gk, 0 + j, none⟩) h3).trans (h4 j hj)⟩
end Go.Proofs.YtkkipnihdiabpaaGreatDoor
