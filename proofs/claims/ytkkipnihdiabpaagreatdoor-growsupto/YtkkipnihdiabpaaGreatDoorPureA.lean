/- Plain facts on a line's members: how long a name is, that its numbers are of 64 bits. -/
import Derived.Test.YtkkipnihdiabpaaGreatDoorObjRead
import Derived.Lib.ParseIntBTie
namespace Go.Proofs.YtkkipnihdiabpaaGreatDoor
open Go.RowKit

def goodM (N : Nat) (m : Mem) : Prop := m.1.length ≤ 4 * N ∧ -9223372036854775808 ≤ m.2.2.1 ∧ m.2.2.1 ≤ 9223372036854775807

theorem textRun_sz (f : Nat) : ∀ (acc : List UInt8) (l : List Nat) (v : List UInt8) (r : List Nat), textRun f acc l = some (v, r) → v.length ≤ acc.length + 4 * l.length := by
  induction f with
  | zero => intro acc l v r h; cases l <;> simp [textRun] at h
  | succ f ih =>
    intro acc l v r h
    cases l with
    | nil => simp [textRun] at h
    | cons c t =>
      have h4 : ∀ x : Int, (Lib.encodeRune x).length ≤ 4 := fun x => by
        have := Lib.runeCells_le x; rw [Lib.runeCells_length] at this; omega
      unfold textRun at h
      split at h
      · simp at h; rw [← h.1]; omega
      · split at h
        · cases h
        · split at h
          · split at h
            · cases h
            · rename_i v' n' _
              have := ih _ _ _ _ h
              have e1 := h4 v'
              simp at this ⊢; omega
          · have := ih _ _ _ _ h
            have e1 := h4 c
            simp at this ⊢; omega
theorem textP_sz {l : List Nat} {v : List UInt8} {r : List Nat} (h : textP l = some (v, r)) : v.length ≤ 4 * l.length := by
  cases l with
  | nil => cases h
  | cons c t =>
    by_cases hc : ((c : Int) == 34) = true
    · rw [textP, if_pos hc] at h
      have := textRun_sz _ _ _ _ _ h; simp at this ⊢; omega
    · rw [textP, if_neg hc] at h; cases h
theorem valueP_num {l : List Nat} {v : Int × Int × List UInt8} {r : List Nat} (h : valueP l = some (v, r)) : -9223372036854775808 ≤ v.2.1 ∧ v.2.1 ≤ 9223372036854775807 := by
  unfold valueP at h
  split at h
  · split at h
    · simp at h; rw [← h.1]; exact ⟨by show (-9223372036854775808 : Int) ≤ 0; decide, by show (0 : Int) ≤ 9223372036854775807; decide⟩
    · cases h
  · split at h
    · split at h
      · simp at h; rw [← h.1]; exact ⟨by decide, by decide⟩
      · cases h
    · split at h
      · split at h
        · simp at h; rw [← h.1]; exact ⟨by decide, by decide⟩
        · cases h
      · split at h
        · split at h
          · simp at h; rw [← h.1]; exact ⟨by decide, by decide⟩
          · cases h
        · split at h
          · rename_i n r' hi
            simp at h
            unfold intP at hi
            split at hi
            · rename_i v' hp
              simp at hi
              have hb := Lib.parseIntB_bounds hp
              rw [← h.1]
              show -9223372036854775808 ≤ n ∧ n ≤ 9223372036854775807
              rw [← hi.1]
              have e : ((2 ^ (64 - 1) : Nat) : Int) = 9223372036854775808 := by decide
              rw [e] at hb
              omega
            · cases hi
          · cases h
theorem memberP_good {l : List Nat} {m : Mem} {r : List Nat} {N : Nat} (hl : l.length ≤ N) (h : memberP l = some (m, r)) : goodM N m := by
  unfold memberP at h
  split at h
  · cases h
  · rename_i nm r1 ht
    split at h
    · split at h
      · cases h
      · rename_i v r4 hv
        simp at h
        have h1 := textP_sz ht
        have h2 := valueP_num hv
        rw [← h.1]
        exact ⟨by show nm.length ≤ 4 * N; omega, h2.1, h2.2⟩
    · cases h
theorem objRun_good (N f : Nat) : ∀ (acc : List Mem) (l : List Nat) (ms : List Mem) (r : List Nat), l.length ≤ N → (∀ m ∈ acc, goodM N m) → objRun f acc l = some (ms, r) → ∀ m ∈ ms, goodM N m := by
  induction f with
  | zero => intro acc l ms r _ _ h; simp [objRun] at h
  | succ f ih =>
    intro acc l ms r hl ha h
    rw [objRun] at h
    split at h
    · cases h
    · rename_i m r1 hm
      have hg := memberP_good hl hm
      have hr1 := memberP_len hm
      have ha' : ∀ x ∈ acc ++ [m], goodM N x := by
        intro x hx
        rcases List.mem_append.1 hx with h' | h'
        · exact ha x h'
        · simp at h'; rw [h']; exact hg
      split at h
      · simp at h; rw [← h.1]; exact ha'
      · split at h
        · refine ih _ _ _ _ ?_ ha' h
          have := skipB_len r1.tail
          simp at this
          omega
        · cases h
theorem lineP_good {s : ByteArray} {ms : List Mem} (h : lineP s = some ms) : ∀ m ∈ ms, goodM s.size m := by
  unfold lineP at h
  split at h
  · split at h
    · cases h
    · rename_i ms' r ho
      split at h
      · simp at h
        subst h
        unfold objectP at ho
        have hr := runesOf_le s
        have h1 := skipB_len (runesOf s)
        split at ho
        · split at ho
          · simp at ho; rw [ho.1]; intro m hm; cases hm
          · refine objRun_good s.size _ [] _ _ _ ?_ (by simp) ho
            have := skipB_len (skipB (runesOf s)).tail
            simp at this
            omega
        · cases ho
      · cases h
  · cases h
end Go.Proofs.YtkkipnihdiabpaaGreatDoor
