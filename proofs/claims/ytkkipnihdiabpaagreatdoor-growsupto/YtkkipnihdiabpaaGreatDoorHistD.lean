/- models.Known, models.Find, walked over the table of operations. -/
import Derived.Test.YtkkipnihdiabpaaGreatDoorHistC
namespace Go.Proofs.YtkkipnihdiabpaaGreatDoor
open Go.RowKit Go.Maps

abbrev OpRow := List UInt8 × List UInt8 × Int × Int
def sReg : List UInt8 := [114, 101, 103, 105, 115, 116, 101, 114]
def sKv : List UInt8 := [107, 118]
def sQueue : List UInt8 := [113, 117, 101, 117, 101]
def sSet : List UInt8 := [115, 101, 116]
def sLock : List UInt8 := [108, 111, 99, 107]
def opTab : List OpRow := [(sReg, [114, 101, 97, 100], 0, 2), (sReg, [119, 114, 105, 116, 101], 2, 1), (sReg, [99, 97, 115], 6, 4),
  (sKv, [103, 101, 116], 1, 3), (sKv, [112, 117, 116], 3, 1), (sKv, [100, 101, 108], 1, 4), (sQueue, [101, 110, 113], 2, 1), (sQueue, [100, 101, 113], 0, 3),
  (sSet, [97, 100, 100], 1, 4), (sSet, [114, 101, 109], 1, 4), (sSet, [104, 97, 115], 1, 4), (sLock, [97, 99, 113], 0, 4), (sLock, [114, 101, 108], 0, 4)]
def opCells (o : OpRow) : List Value := [.string ⟨o.1.toArray⟩, .string ⟨o.2.1.toArray⟩, .int .u8 o.2.2.1, .int .u8 o.2.2.2]
def opsCells : Array Value := (opTab.flatMap opCells).toArray

/-- the table of operations, as it is laid -/
def Ops (w : World) : Prop := w.var? Tryz.prog "linear/models.operations" = some opsCells
theorem Ops.below {w w' : World} (h : Ops w) (k : Below 9 w w') : Ops w' := var?_below k (show Tryz.prog.globalNamed "linear/models.operations" = some 0 by kernel_rfl) (by omega) h
theorem Ops.blk {w : World} (h : Ops w) : ∃ t f, w.heap[0]? = some (.cells opsCells t f) := by
  unfold Ops World.var? at h
  rw [show Tryz.prog.globalNamed "linear/models.operations" = some 0 by kernel_rfl] at h
  simp only [Option.bind_some] at h
  split at h
  · rename_i cs t f hb; exact ⟨t, f, by rw [hb]; simp at h; rw [h]⟩
  · cases h

def opAgg (o : OpRow) : Value := .agg #[.string ⟨o.1.toArray⟩, .string ⟨o.2.1.toArray⟩, .int .u8 o.2.2.1, .int .u8 o.2.2.2]
theorem opIndex (j : Nat) (h : j < opTab.length) (w : World) : (Instr.index 55 (.agg opsCells) (.int .i64 j)).run Tryz.prog w = .ok (opAgg opTab[j]) w := by
  match j, h with
  | 0, _ => show Sem.run Tryz.prog (Instr.index 55 (.agg opsCells) (.int .i64 ((0 : Nat) : Int))) w = .ok (opAgg opTab[0]) w; kernel_rfl
  | 1, _ => show Sem.run Tryz.prog (Instr.index 55 (.agg opsCells) (.int .i64 ((1 : Nat) : Int))) w = .ok (opAgg opTab[1]) w; kernel_rfl
  | 2, _ => show Sem.run Tryz.prog (Instr.index 55 (.agg opsCells) (.int .i64 ((2 : Nat) : Int))) w = .ok (opAgg opTab[2]) w; kernel_rfl
  | 3, _ => show Sem.run Tryz.prog (Instr.index 55 (.agg opsCells) (.int .i64 ((3 : Nat) : Int))) w = .ok (opAgg opTab[3]) w; kernel_rfl
  | 4, _ => show Sem.run Tryz.prog (Instr.index 55 (.agg opsCells) (.int .i64 ((4 : Nat) : Int))) w = .ok (opAgg opTab[4]) w; kernel_rfl
  | 5, _ => show Sem.run Tryz.prog (Instr.index 55 (.agg opsCells) (.int .i64 ((5 : Nat) : Int))) w = .ok (opAgg opTab[5]) w; kernel_rfl
  | 6, _ => show Sem.run Tryz.prog (Instr.index 55 (.agg opsCells) (.int .i64 ((6 : Nat) : Int))) w = .ok (opAgg opTab[6]) w; kernel_rfl
  | 7, _ => show Sem.run Tryz.prog (Instr.index 55 (.agg opsCells) (.int .i64 ((7 : Nat) : Int))) w = .ok (opAgg opTab[7]) w; kernel_rfl
  | 8, _ => show Sem.run Tryz.prog (Instr.index 55 (.agg opsCells) (.int .i64 ((8 : Nat) : Int))) w = .ok (opAgg opTab[8]) w; kernel_rfl
  | 9, _ => show Sem.run Tryz.prog (Instr.index 55 (.agg opsCells) (.int .i64 ((9 : Nat) : Int))) w = .ok (opAgg opTab[9]) w; kernel_rfl
  | 10, _ => show Sem.run Tryz.prog (Instr.index 55 (.agg opsCells) (.int .i64 ((10 : Nat) : Int))) w = .ok (opAgg opTab[10]) w; kernel_rfl
  | 11, _ => show Sem.run Tryz.prog (Instr.index 55 (.agg opsCells) (.int .i64 ((11 : Nat) : Int))) w = .ok (opAgg opTab[11]) w; kernel_rfl
  | 12, _ => show Sem.run Tryz.prog (Instr.index 55 (.agg opsCells) (.int .i64 ((12 : Nat) : Int))) w = .ok (opAgg opTab[12]) w; kernel_rfl
  | n + 13, h => simp [opTab] at h; omega

def knownRun (m : List UInt8) (l : List OpRow) : Bool := l.any (fun o => o.1 == m)
def findRun (m n : List UInt8) (l : List OpRow) : Option OpRow := l.find? (fun o => o.1 == m && o.2.1 == n)

theorem toList_data (s : ByteArray) : s.toList = s.data.toList := by
  exact ByteArray.toList_eq s

set_option maxHeartbeats 2000000 in
set_option maxRecDepth 100000 in
theorem known_any (s : ByteArray) (w : World) (ho : Ops w) (_hng : 9 ≤ w.heap.size) :
    Calls Tryz.prog 11 #[.string s] w fun e w' => e = .returned (.bool (knownRun s.data.toList opTab)) ∧ Below w.heap.size w w' := by
  obtain ⟨tt, ff, hb⟩ := ho.blk
  go_enter Tryz.func11, Tryz.ntmps11
  go_wp2_with (refine wpList_load_row rfl 55 _ rfl 0 rfl tt _ ff _ hb Tryz.underlying55 rfl (by kernel_rfl) ?_)
  go_loopw [6] (fun i wr => ∃ j : Nat, j ≤ opTab.length ∧ i = .int .i64 j ∧ knownRun s.data.toList (opTab.drop j) = knownRun s.data.toList opTab ∧ Below w.heap.size w wr) (fun i _ => opTab.length - (intOf i).toNat)
  case atStart => exact ⟨0, Nat.zero_le _, rfl, rfl, Below.refl _ _⟩
  case round =>
    obtain ⟨j, hj, rfl, hR, hbl⟩ := hrel
    have HR : Hid (knownRun s.data.toList (opTab.drop j) = knownRun s.data.toList opTab) := hR
    clear hR hb
    by_cases hlt : j < opTab.length
    · have hix := opIndex j hlt
      have hD : Hid (opTab.drop j = opTab[j] :: opTab.drop (j + 1)) := drop_cons_get _ j hlt
      have hlt' : (j : Int) < 13 := by simp [opTab] at hlt; omega
      generalize opTab[j] = o at *
      obtain ⟨om, on, o1, o2⟩ := o
      unfold opAgg at hix
      simp only at hix
      have hsz := hbl.size
      cases hq : (om == s.toList) with
      | true =>
        have hE : Hid (knownRun s.data.toList opTab = true) := by rw [← HR.out, hD.out]; simp [knownRun, ← toList_data, hq, Hid]
        clear HR hD
        go_wp2
        go_ret
        exact ⟨by rw [hE.out]; rfl, hbl.alloc hsz _⟩
      | false =>
        have hE : Hid (knownRun s.data.toList (opTab.drop (j + 1)) = knownRun s.data.toList opTab) := by rw [← HR.out, hD.out]; simp [knownRun, ← toList_data, hq, Hid]
        clear HR hD
        go_wp2
        go_roundw
        case rel => exact ⟨j + 1, by omega, by go_num, hE.out, hbl.alloc hsz _⟩
        case measure => simp [intOf]; omega
    · have hjl : j = opTab.length := by omega
      have hE : Hid (knownRun s.data.toList opTab = false) := by rw [← HR.out, hjl, List.drop_length]; exact rfl
      have hlt' : ¬ (j : Int) < 13 := by simp [opTab] at hlt; omega
      clear HR hjl
      go_wp2
      go_ret
      exact ⟨by rw [hE.out]; rfl, hbl⟩

set_option maxHeartbeats 2000000 in
set_option maxRecDepth 100000 in
theorem find_any (s n : ByteArray) (w : World) (ho : Ops w) (hng : 9 ≤ w.heap.size) :
    Calls Tryz.prog 74 #[.string s, .string n] w fun e w' => Below w.heap.size w w' ∧
      ((∃ o, findRun s.data.toList n.data.toList opTab = some o ∧ e = .returned (.tuple #[opAgg o, .bool true])) ∨ (findRun s.data.toList n.data.toList opTab = none ∧ e = .returned (.tuple #[opAgg ([], [], 0, 0), .bool false]))) := by
  obtain ⟨tt, ff, hb⟩ := ho.blk
  go_enter Tryz.func74, Tryz.ntmps74
  go_wp2_with (refine wpList_load_row rfl 55 _ rfl 0 rfl tt _ ff _ ((blk_old _ _ _ (by omega)).trans hb) Tryz.underlying55 rfl (by kernel_rfl) ?_)
  go_loopw [9] (fun i wr => ∃ j : Nat, j ≤ opTab.length ∧ i = .int .i64 j ∧ findRun s.data.toList n.data.toList (opTab.drop j) = findRun s.data.toList n.data.toList opTab ∧ Below w.heap.size w wr ∧ wr.heap[w.heap.size]? = some (.cells #[.string ⟨#[]⟩, .string ⟨#[]⟩, .int .u8 0, .int .u8 0] 54 (0, 0))) (fun i _ => opTab.length - (intOf i).toNat)
  case atStart => exact ⟨0, Nat.zero_le _, rfl, rfl, (Below.refl _ _).alloc (Nat.le_refl _) _, blk_new _ _ _ rfl⟩
  case round =>
    obtain ⟨j, hj, rfl, hR, hbl, hr⟩ := hrel
    have HR : Hid (findRun s.data.toList n.data.toList (opTab.drop j) = findRun s.data.toList n.data.toList opTab) := hR
    clear hR hb
    have hrl := lt_of_blk hr
    have r0 := cell_of_blk hr 0
    have r1 := cell_of_blk hr 1
    have r2 := cell_of_blk hr 2
    have r3 := cell_of_blk hr 3
    have f0 := frozen_of_blk hr 0
    have f1 := frozen_of_blk hr 1
    have f2 := frozen_of_blk hr 2
    have f3 := frozen_of_blk hr 3
    simp at r0 r1 r2 r3
    by_cases hlt : j < opTab.length
    · have hix := opIndex j hlt
      have hD : Hid (opTab.drop j = opTab[j] :: opTab.drop (j + 1)) := drop_cons_get _ j hlt
      have hlt' : (j : Int) < 13 := by simp [opTab] at hlt; omega
      generalize opTab[j] = o at *
      obtain ⟨om, on, o1, o2⟩ := o
      unfold opAgg at hix
      simp only at hix
      have hsz := hbl.size
      cases hq : (om == s.toList) with
      | true =>
        cases hq2 : (on == n.toList) with
        | true =>
          have hE : Hid (findRun s.data.toList n.data.toList opTab = some (om, on, o1, o2)) := by rw [← HR.out, hD.out]; simp [findRun, ← toList_data, hq, hq2, Hid]
          clear HR hD hr
          go_wp2
          exact bodyPost_ret (v := .tuple #[opAgg (om, on, o1, o2), .bool true]) (by simp [results, Tryz.results74, go_sem, r0, r1, r2, r3, hrl, opAgg]) rfl ⟨((((hbl.setCell (p := ⟨w.heap.size, 0, none⟩) (Nat.le_refl _) _).setCell (p := ⟨w.heap.size, 1, none⟩) (Nat.le_refl _) _).setCell (p := ⟨w.heap.size, 2, none⟩) (Nat.le_refl _) _).setCell (p := ⟨w.heap.size, 3, none⟩) (Nat.le_refl _) _).alloc (by simp [World.setCell]; omega) _, Or.inl ⟨_, hE.out, rfl⟩⟩
        | false =>
          have hE : Hid (findRun s.data.toList n.data.toList (opTab.drop (j + 1)) = findRun s.data.toList n.data.toList opTab) := by rw [← HR.out, hD.out]; simp [findRun, ← toList_data, hq2, Hid]
          have hr' := (blk_old wr (.cells #[.string ⟨om.toArray⟩, .string ⟨on.toArray⟩, .int .u8 o1, .int .u8 o2] 54) w.heap.size hrl).trans hr
          have HR' : Hid _ := hr'
          clear HR hD hr hr'
          go_wp2
          go_roundw
          case rel => exact ⟨j + 1, by omega, by go_num, hE.out, hbl.alloc hsz _, HR'.out⟩
          case measure => simp [intOf]; omega
      | false =>
        have hE : Hid (findRun s.data.toList n.data.toList (opTab.drop (j + 1)) = findRun s.data.toList n.data.toList opTab) := by rw [← HR.out, hD.out]; simp [findRun, ← toList_data, hq, Hid]
        have hr' := (blk_old wr (.cells #[.string ⟨om.toArray⟩, .string ⟨on.toArray⟩, .int .u8 o1, .int .u8 o2] 54) w.heap.size hrl).trans hr
        have HR' : Hid _ := hr'
        clear HR hD hr hr'
        go_wp2
        go_roundw
        case rel => exact ⟨j + 1, by omega, by go_num, hE.out, hbl.alloc hsz _, HR'.out⟩
        case measure => simp [intOf]; omega
    · have hjl : j = opTab.length := by omega
      have hE : Hid (findRun s.data.toList n.data.toList opTab = none) := by rw [← HR.out, hjl, List.drop_length]; exact rfl
      have hlt' : ¬ (j : Int) < 13 := by simp [opTab] at hlt; omega
      clear HR hjl hr
      go_wp2
      exact bodyPost_ret (v := .tuple #[opAgg ([], [], 0, 0), .bool false]) (by simp [results, Tryz.results74, go_sem, r0, r1, r2, r3, opAgg]) rfl ⟨(((hbl.setCell (p := ⟨w.heap.size, 0, none⟩) (Nat.le_refl _) _).setCell (p := ⟨w.heap.size, 1, none⟩) (Nat.le_refl _) _).setCell (p := ⟨w.heap.size, 2, none⟩) (Nat.le_refl _) _).setCell (p := ⟨w.heap.size, 3, none⟩) (Nat.le_refl _) _, Or.inr ⟨hE.out, rfl⟩⟩
end Go.Proofs.YtkkipnihdiabpaaGreatDoor
