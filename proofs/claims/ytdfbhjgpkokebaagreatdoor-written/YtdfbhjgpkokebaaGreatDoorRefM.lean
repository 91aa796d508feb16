/- The reference's member, fits, repeated, walked. -/
import Derived.Test.YtdfbhjgpkokebaaGreatDoorPureX
import Derived.Test.YtdfbhjgpkokebaaGreatDoorRefI
import Derived.Test.YtdfbhjgpkokebaaGreatDoorHistB
namespace Go.Proofs.YtdfbhjgpkokebaaGreatDoor
open Go.RowKit

def cellsR (m : RM) : List Value := [.string ⟨m.1.toArray⟩, .int .u8 (m.2.1 : Int), .string ⟨m.2.2.1.toArray⟩, .int .i64 m.2.2.2]
def rmCells (l : List RM) : List Value := l.flatMap cellsR
theorem rmCells_get (ms : List RM) (i : Nat) (h : i < ms.length) : (rmCells ms)[i * 4]? = some (.string ⟨(ms[i]).1.toArray⟩) ∧ (rmCells ms)[i * 4 + 1]? = some (.int .u8 ((ms[i]).2.1 : Int)) ∧ (rmCells ms)[i * 4 + 2]? = some (.string ⟨(ms[i]).2.2.1.toArray⟩) ∧ (rmCells ms)[i * 4 + 3]? = some (.int .i64 (ms[i]).2.2.2) := by
  induction ms generalizing i with
  | nil => simp at h
  | cons m r ih =>
    have e : rmCells (m :: r) = cellsR m ++ rmCells r := by simp [rmCells]
    have hl : (cellsR m).length = 4 := rfl
    rw [e]
    cases i with
    | zero => simp [cellsR]
    | succ i =>
      obtain ⟨a, b, c, d⟩ := ih i (by simpa using h)
      refine ⟨?_, ?_, ?_, ?_⟩
      · rw [List.getElem?_append_right (by omega), hl, show (i + 1) * 4 - 4 = i * 4 by omega, a]; simp
      · rw [List.getElem?_append_right (by omega), hl, show (i + 1) * 4 + 1 - 4 = i * 4 + 1 by omega, b]; simp
      · rw [List.getElem?_append_right (by omega), hl, show (i + 1) * 4 + 2 - 4 = i * 4 + 2 by omega, c]; simp
      · rw [List.getElem?_append_right (by omega), hl, show (i + 1) * 4 + 3 - 4 = i * 4 + 3 by omega, d]; simp

/-- a row of members that is read -/
def RRow (w : World) (o : Option Addr) (ms : List RM) : Prop :=
  ms ≠ [] → ∃ g, o = some ⟨g, 0, none⟩ ∧ g < w.heap.size ∧ ∀ j u, (rmCells ms)[j]? = some u → w.cell? ⟨g, j, none⟩ = some u
theorem RRow.below {w w' : World} {o : Option Addr} {ms : List RM} (h : RRow w o ms) (k : Below w.heap.size w w') : RRow w' o ms := by
  intro hne
  obtain ⟨g, h1, h2, h3⟩ := h hne
  exact ⟨g, h1, Nat.lt_of_lt_of_le h2 k.size, fun j u hj => (k.cell (p := ⟨g, j, none⟩) h2).trans (h3 j u hj)⟩

/-- the last member of a name; how many there are -/
def memR (nm : List UInt8) : RM → Nat → List RM → RM × Nat
  | m, n, [] => (m, n)
  | m, n, x :: r => if x.1 = nm then memR nm x (n + 1) r else memR nm m n r
def zeroRM : RM := ([], 0, [], 0)
def valRM (m : RM) : Value := .agg #[.string ⟨m.1.toArray⟩, .int .u8 (m.2.1 : Int), .string ⟨m.2.2.1.toArray⟩, .int .i64 m.2.2.2]
def rmBlk (w : World) (b : Nat) (m : RM) : Prop := w.heap[b]? = some (.cells #[.string ⟨m.1.toArray⟩, .int .u8 (m.2.1 : Int), .string ⟨m.2.2.1.toArray⟩, .int .i64 m.2.2.2] 88 (0, 0))

theorem rmBlk.set {w : World} {b : Nat} {m : RM} (h : rmBlk w b m) (x : RM) : rmBlk ((((w.setCell ⟨b, 0, none⟩ (.string ⟨x.1.toArray⟩)).setCell ⟨b, 1, none⟩ (.int .u8 (x.2.1 : Int))).setCell ⟨b, 2, none⟩ (.string ⟨x.2.2.1.toArray⟩)).setCell ⟨b, 3, none⟩ (.int .i64 x.2.2.2)) b x := by
  unfold rmBlk at *
  rw [blk_setCell (blk_setCell (blk_setCell (blk_setCell h 0 _) 1 _) 2 _) 3 _]
  simp
theorem rmBlk.other {w : World} {b c : Nat} {m : RM} (h : rmBlk w b m) (hn : b ≠ c) (x y z u : Value) : rmBlk ((((w.setCell ⟨c, 0, none⟩ x).setCell ⟨c, 1, none⟩ y).setCell ⟨c, 2, none⟩ z).setCell ⟨c, 3, none⟩ u) b m := by
  unfold rmBlk at *
  rw [blk_setCell_ne hn, blk_setCell_ne hn, blk_setCell_ne hn, blk_setCell_ne hn]; exact h

set_option maxHeartbeats 2000000 in
set_option maxRecDepth 100000 in
theorem rmember_any (o : Option Addr) (cap : Nat) (ms : List RM) (nm : List UInt8) (w : World) (hr : RRow w o ms) (hl : ms.length ≤ 2000000) :
    Calls Tryz.prog 29 #[.slice o ms.length cap, .string ⟨nm.toArray⟩] w fun e w' => Below w.heap.size w w' ∧ e = .returned (.tuple #[valRM (memR nm zeroRM 0 ms).1, .int .i64 ((memR nm zeroRM 0 ms).2 : Int)]) := by
  go_enter Tryz.func29, Tryz.ntmps29
  go_wp2
  go_loopw [7, 8] (fun nv i wr => ∃ (j n : Nat) (m : RM), nv = .int .i64 (n : Int) ∧ i = .int .i64 (j : Int) ∧ j ≤ ms.length ∧ n ≤ j ∧ memR nm m n (ms.drop j) = memR nm zeroRM 0 ms ∧ rmBlk wr (w.heap.size + 1) m ∧ rmBlk wr w.heap.size zeroRM ∧ Below w.heap.size w wr) (fun _ i _ => ms.length - (intOf i).toNat)
  case atStart =>
    refine ⟨0, 0, zeroRM, rfl, rfl, by omega, by omega, rfl, ?_, ?_, ((Below.refl _ _).alloc (Nat.le_refl _) _).alloc (by simp) _⟩
    · exact blk_new _ _ _ (by simp)
    · exact (blk_old _ _ _ (by simp)).trans (blk_new _ _ _ rfl)
  case round =>
    obtain ⟨j, n, m, rfl, rfl, hj, hnj, HR, hm, hz, hbl⟩ := hrel
    have hR : Hid (memR nm m n (ms.drop j) = memR nm zeroRM 0 ms) := HR
    clear HR
    have hsz := lt_of_blk hm
    have m0 : wr.cell? ⟨w.heap.size + 1, 0, none⟩ = some (.string ⟨m.1.toArray⟩) := by rw [cell_of_blk hm]; rfl
    have m1 : wr.cell? ⟨w.heap.size + 1, 1, none⟩ = some (.int .u8 (m.2.1 : Int)) := by rw [cell_of_blk hm]; rfl
    have m2 : wr.cell? ⟨w.heap.size + 1, 2, none⟩ = some (.string ⟨m.2.2.1.toArray⟩) := by rw [cell_of_blk hm]; rfl
    have m3 : wr.cell? ⟨w.heap.size + 1, 3, none⟩ = some (.int .i64 m.2.2.2) := by rw [cell_of_blk hm]; rfl
    have mf0 : wr.frozen? ⟨w.heap.size + 1, 0, none⟩ = false := frozen_of_blk hm 0
    have mf1 : wr.frozen? ⟨w.heap.size + 1, 1, none⟩ = false := frozen_of_blk hm 1
    have mf2 : wr.frozen? ⟨w.heap.size + 1, 2, none⟩ = false := frozen_of_blk hm 2
    have mf3 : wr.frozen? ⟨w.heap.size + 1, 3, none⟩ = false := frozen_of_blk hm 3
    by_cases hlt : j < ms.length
    · obtain ⟨g, rfl, hg, hcells⟩ := hr (fun e => by rw [e] at hlt; simp at hlt)
      obtain ⟨c0, c1, c2, c3⟩ := rmCells_get ms j hlt
      have d0 : wr.cell? ⟨g, j * 4, none⟩ = _ := (hbl.cell (p := ⟨g, j * 4, none⟩) hg).trans (hcells _ _ c0)
      have d1 : wr.cell? ⟨g, j * 4 + 1, none⟩ = _ := (hbl.cell (p := ⟨g, j * 4 + 1, none⟩) hg).trans (hcells _ _ c1)
      have d2 : wr.cell? ⟨g, j * 4 + 2, none⟩ = _ := (hbl.cell (p := ⟨g, j * 4 + 2, none⟩) hg).trans (hcells _ _ c2)
      have d3 : wr.cell? ⟨g, j * 4 + 3, none⟩ = _ := (hbl.cell (p := ⟨g, j * 4 + 3, none⟩) hg).trans (hcells _ _ c3)
      have hS : Hid (memR nm m n (ms[j] :: ms.drop (j + 1)) = memR nm zeroRM 0 ms) := by rw [← hR.out, ← List.drop_eq_getElem_cons hlt]; exact rfl
      clear hR c0 c1 c2 c3 hcells hr
      generalize ms[j] = x at *
      obtain ⟨xn, xk, xs, xv⟩ := x
      simp only at d0 d1 d2 d3
      have hji : (j : Int) < (ms.length : Int) := by omega
      by_cases hx : xn = nm
      · have hq : (xn == nm) = true := by rw [hx]; simp
        have hE : Hid (memR nm (xn, xk, xs, xv) (n + 1) (ms.drop (j + 1)) = memR nm zeroRM 0 ms) := by rw [← hS.out, memR, if_pos hx]; exact rfl
        clear hS hx
        go_wp2
        go_roundw
        case rel => exact ⟨j + 1, n + 1, (xn, xk, xs, xv), by go_num, by go_num, by omega, by omega, hE.out, hm.set (xn, xk, xs, xv), hz.other (by omega) _ _ _ _, (((hbl.setCell (by simp) _).setCell (by simp) _).setCell (by simp) _).setCell (by simp) _⟩
        case measure => simp [intOf]; omega
      · have hq : (xn == nm) = false := by simpa using hx
        have hE : Hid (memR nm m n (ms.drop (j + 1)) = memR nm zeroRM 0 ms) := by rw [← hS.out, memR, if_neg hx]; exact rfl
        clear hS hx
        go_wp2
        go_roundw
        case rel => exact ⟨j + 1, n, m, rfl, by go_num, by omega, by omega, hE.out, hm, hz, hbl⟩
        case measure => simp [intOf]; omega
    · have hE : Hid (memR nm zeroRM 0 ms = (m, n)) := by rw [← hR.out, List.drop_eq_nil_of_le (by omega)]; exact rfl
      have hji : ¬ (j : Int) < (ms.length : Int) := by omega
      clear hR
      have z0 : wr.cell? ⟨w.heap.size, 0, none⟩ = some (.string ⟨#[]⟩) := by rw [cell_of_blk hz]; rfl
      have z1 : wr.cell? ⟨w.heap.size, 1, none⟩ = some (.int .u8 0) := by rw [cell_of_blk hz]; rfl
      have z2 : wr.cell? ⟨w.heap.size, 2, none⟩ = some (.string ⟨#[]⟩) := by rw [cell_of_blk hz]; rfl
      have z3 : wr.cell? ⟨w.heap.size, 3, none⟩ = some (.int .i64 0) := by rw [cell_of_blk hz]; rfl
      have zf0 : wr.frozen? ⟨w.heap.size, 0, none⟩ = false := frozen_of_blk hz 0
      have zf1 : wr.frozen? ⟨w.heap.size, 1, none⟩ = false := frozen_of_blk hz 1
      have zf2 : wr.frozen? ⟨w.heap.size, 2, none⟩ = false := frozen_of_blk hz 2
      have zf3 : wr.frozen? ⟨w.heap.size, 3, none⟩ = false := frozen_of_blk hz 3
      go_wp2
      refine bodyPost_ret (v := .tuple #[valRM m, .int .i64 (n : Int)]) (by simp [results, Tryz.results29, go_sem, valRM, z0, z1, z2, z3]) rfl ⟨(((hbl.setCell (by simp) _).setCell (by simp) _).setCell (by simp) _).setCell (by simp) _, by rw [hE.out]⟩
end Go.Proofs.YtdfbhjgpkokebaaGreatDoor
