/- The reference's names of models, walked. -/
import Derived.Test.YtdfbhjgpkokebaaGreatDoorRefJ
import Derived.Test.YtdfbhjgpkokebaaGreatDoorHistD
namespace Go.Proofs.YtdfbhjgpkokebaaGreatDoor
open Go.RowKit

def modTab : List (List UInt8) := [sReg, sKv, sQueue, sSet, sLock]
def modCells : Array Value := (modTab.map fun l => Value.string ⟨l.toArray⟩).toArray
/-- the models' names, as they are laid -/
def Mods (w : World) : Prop := w.var? Tryz.prog "linear/linearref.Models" = some modCells
theorem Mods.below {w w' : World} (h : Mods w) (k : Below 10 w w') : Mods w' := var?_below k (show Tryz.prog.globalNamed "linear/linearref.Models" = some 1 by kernel_rfl) (by omega) h
theorem Mods.blk {w : World} (h : Mods w) : ∃ t f, w.heap[1]? = some (.cells modCells t f) := by
  unfold Mods World.var? at h
  rw [show Tryz.prog.globalNamed "linear/linearref.Models" = some 1 by kernel_rfl] at h
  simp only [Option.bind_some] at h
  split at h
  · rename_i cs t f hb; exact ⟨t, f, by rw [hb]; simp at h; rw [h]⟩
  · cases h
def modRun (s : List UInt8) : List (List UInt8) → Bool
  | [] => false
  | x :: t => (x == s) || modRun s t

set_option maxHeartbeats 2000000 in
set_option maxRecDepth 100000 in
theorem rknown_any (s : ByteArray) (w : World) (ho : Mods w) (_hng : 10 ≤ w.heap.size) :
    Calls Tryz.prog 16 #[.string s] w fun e w' => e = .returned (.bool (modRun s.toList modTab)) ∧ w' = w := by
  obtain ⟨tt, ff, hb⟩ := ho.blk
  go_enter Tryz.func16, Tryz.ntmps16
  go_wp2
  go_loop [3] (fun i => ∃ j : Nat, j ≤ modTab.length ∧ i = .int .i64 j ∧ modRun s.toList (modTab.drop j) = modRun s.toList modTab) (fun i => modTab.length - (intOf i).toNat)
  case atStart => exact ⟨0, Nat.zero_le _, rfl, rfl⟩
  case round =>
    obtain ⟨j, hj, rfl, hR⟩ := hrel
    have HR : Hid (modRun s.toList (modTab.drop j) = modRun s.toList modTab) := hR
    clear hR
    have hr := cell_of_blk hb j
    clear hb
    by_cases hlt : j < modTab.length
    · have hD : Hid (modTab.drop j = modTab[j] :: modTab.drop (j + 1)) := drop_cons_get _ j hlt
      have hlt' : (j : Int) < 5 := by simp [modTab] at hlt; omega
      rw [show modCells[j]? = some (.string ⟨(modTab[j]).toArray⟩) by simp [modCells, hlt]] at hr
      generalize modTab[j] = x at *
      cases hq : (x == s.toList) with
      | true =>
        have hE : Hid (modRun s.toList modTab = true) := by rw [← HR.out, hD.out]; simp [modRun, hq, Hid]
        clear HR hD
        go_wp2
        go_ret
        exact ⟨by rw [hE.out]; rfl, rfl⟩
      | false =>
        have hE : Hid (modRun s.toList (modTab.drop (j + 1)) = modRun s.toList modTab) := by rw [← HR.out, hD.out]; simp [modRun, hq, Hid]
        clear HR hD
        go_wp2
        go_round
        case rel => exact ⟨j + 1, by omega, by go_num, hE.out⟩
        case measure => simp [intOf]; omega
    · have hjl : j = modTab.length := by omega
      have hE : Hid (modRun s.toList modTab = false) := by rw [← HR.out, hjl, List.drop_length]; exact rfl
      have hlt' : ¬ (j : Int) < 5 := by simp [modTab] at hlt; omega
      clear HR hjl
      go_wp2
      go_ret
      exact ⟨by rw [hE.out]; rfl, rfl⟩
end Go.Proofs.YtdfbhjgpkokebaaGreatDoor
