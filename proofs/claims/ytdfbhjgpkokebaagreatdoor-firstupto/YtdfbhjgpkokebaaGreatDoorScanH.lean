/- The scanner's object, walked: the members in the order in which they stand. -/
import Derived.Test.YtdfbhjgpkokebaaGreatDoorScanG
namespace Go.Proofs.YtdfbhjgpkokebaaGreatDoor
open Go.RowKit

def objRun : Nat → List Mem → List Nat → Option (List Mem × List Nat)
  | 0, _, _ => none
  | f + 1, acc, l => match memberP l with
    | none => none
    | some (m, r) => if (peekOf r == 125) then some (acc ++ [m], r.tail) else if (peekOf r == 44) then objRun f (acc ++ [m]) (skipB r.tail) else none
def objectP (l : List Nat) : Option (List Mem × List Nat) :=
  if (peekOf l == 123) then (if (peekOf (skipB l.tail) == 125) then some ([], (skipB l.tail).tail) else objRun (l.length + 1) [] (skipB l.tail)) else none

theorem skipB_len (l : List Nat) : (skipB l).length ≤ l.length := by
  induction l with
  | nil => simp [skipB]
  | cons c t ih => unfold skipB; split <;> simp; omega
theorem skipD_len (l : List Nat) : (skipD l).length ≤ l.length := by
  induction l with
  | nil => simp [skipD]
  | cons c t ih => unfold skipD; split <;> simp; omega
theorem textRun_len (f : Nat) : ∀ (acc : List UInt8) (l : List Nat) (v : List UInt8) (r : List Nat), textRun f acc l = some (v, r) → r.length < l.length := by
  induction f with
  | zero => intro acc l v r h; cases l <;> simp [textRun] at h
  | succ f ih =>
    intro acc l v r h
    cases l with
    | nil => simp [textRun] at h
    | cons c t =>
      unfold textRun at h
      split at h
      · simp at h; rw [← h.2]; simp
      · split at h
        · cases h
        · split at h
          · split at h
            · cases h
            · have := ih _ _ _ _ h; simp at this ⊢; omega
          · have := ih _ _ _ _ h; simp at this ⊢; omega
theorem textP_len {l : List Nat} {v : List UInt8} {r : List Nat} (h : textP l = some (v, r)) : r.length < l.length := by
  cases l with
  | nil => cases h
  | cons c t =>
    by_cases hc : ((c : Int) == 34) = true
    · rw [textP, if_pos hc] at h
      have := textRun_len _ _ _ _ _ h; simp; omega
    · rw [textP, if_neg hc] at h; cases h
theorem intRest_len (l : List Nat) : (intRest l).length ≤ l.length := by
  unfold intRest
  have h1 : ∀ m : List Nat, m.length ≤ l.length → (if peekOf m = 48 then m.tail else skipD m).length ≤ l.length := by
    intro m hm
    split
    · simp; omega
    · exact Nat.le_trans (skipD_len m) hm
  split
  · exact h1 _ (by simp)
  · exact h1 _ (Nat.le_refl _)
theorem valueP_len {l : List Nat} {v : Int × Int × List UInt8} {r : List Nat} (h : valueP l = some (v, r)) : r.length ≤ l.length := by
  unfold valueP at h
  split at h
  · split at h
    · rename_i t r' ht; simp at h; have := textP_len ht; rw [← h.2]; omega
    · cases h
  · split at h
    · split at h
      · simp at h; rw [← h.2]; simp
      · cases h
    · split at h
      · split at h
        · simp at h; rw [← h.2]; simp
        · cases h
      · split at h
        · split at h
          · simp at h; rw [← h.2]; simp
          · cases h
        · split at h
          · rename_i n r' hi
            simp at h
            unfold intP at hi
            split at hi
            · simp at hi; rw [← h.2, ← hi.2]; exact intRest_len l
            · cases hi
          · cases h
theorem memberP_len {l : List Nat} {m : Mem} {r : List Nat} (h : memberP l = some (m, r)) : r.length < l.length := by
  unfold memberP at h
  split at h
  · cases h
  · rename_i nm r1 ht
    split at h
    · split at h
      · cases h
      · rename_i v r4 hv
        simp at h
        have h1 := textP_len ht
        have h2 := valueP_len hv
        have h3 := skipB_len r4
        have h4 := skipB_len (skipB r1).tail
        have h5 := skipB_len r1
        simp at h4
        rw [← h.2]
        omega
    · cases h

def cellsM (m : Mem) : List Value := [.string ⟨m.1.toArray⟩, .int .i64 m.2.1, .int .i64 m.2.2.1, .string ⟨m.2.2.2.toArray⟩]
def memsCells (l : List Mem) : List Value := l.flatMap cellsM

theorem cell_four_new (w : World) (a b c d : Value) (t : TypeId) : ∀ j u, [a, b, c, d][j]? = some u → (w.alloc (.cells #[a, b, c, d] t)).cell? ((⟨w.heap.size, 0, none⟩ : Addr).add j) = some u := by
  intro j u hj
  match j, hj with
  | 0, hj => simp at hj; subst hj; simp [Addr.add]
  | 1, hj => simp at hj; subst hj; simp [Addr.add]
  | 2, hj => simp at hj; subst hj; simp [Addr.add]
  | 3, hj => simp at hj; subst hj; simp [Addr.add]

theorem owns_kept {S : List Nat} {w w' : World} {base : Nat} {e : TypeId} {size : Nat} {v : Value} {n : Nat} {xs : List Value} (h : w.ownsRow base e size v n xs) (k : Kept S w w') (hS : ∀ x ∈ S, x < base) : w'.ownsRow base e size v n xs := by
  refine ⟨h.1, ?_⟩
  rcases h.2 with hn | ⟨g, cap, cur, hv, hbg, hg, rest⟩
  · exact .inl hn
  · have ng : g ∉ S := fun hm => by have := hS g hm; omega
    exact .inr ⟨g, cap, cur, hv, hbg, (k.block g (lt_of_blk hg) ng).trans hg, rest⟩

theorem memInfo : (Tryz.prog.info? 133).map (fun i => (i.zero, i.size, i.bytes)) = some (some (.agg #[.string ⟨#[]⟩, .int .i64 0, .int .i64 0, .string ⟨#[]⟩]), 4, 48) := by kernel_rfl
end Go.Proofs.YtdfbhjgpkokebaaGreatDoor
