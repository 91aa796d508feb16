/- What a call leaves of memory, said by blocks: all old blocks but some listed ones are as they were. -/
import Derived.WalkKit
import Derived.WalkSpells
import Derived.ChangeAlike
namespace Go.Proofs.YtkkipnihdiabpaaGreatDoor
open Go.RowKit

/-- All old blocks but those listed are as they were; no block has gone; the streams are as they were. -/
structure Kept (S : List Nat) (w w' : World) : Prop where
  os : w'.os = w.os
  tape : w'.tape = w.tape
  output : w'.output = w.output
  size : w.heap.size ≤ w'.heap.size
  block : ∀ k, k < w.heap.size → k ∉ S → w'.heap[k]? = w.heap[k]?

theorem Kept.refl (S : List Nat) (w : World) : Kept S w w := ⟨rfl, rfl, rfl, Nat.le_refl _, fun _ _ _ => rfl⟩
theorem Kept.trans {S : List Nat} {a b c : World} (h : Kept S a b) (k : Kept S b c) : Kept S a c :=
  ⟨k.os.trans h.os, k.tape.trans h.tape, k.output.trans h.output, Nat.le_trans h.size k.size, fun i hi hn => (k.block i (Nat.lt_of_lt_of_le hi h.size) hn).trans (h.block i hi hn)⟩
theorem Kept.mono {S S' : List Nat} {a b : World} (h : Kept S a b) (hs : ∀ x, x < a.heap.size → x ∈ S → x ∈ S') : Kept S' a b :=
  ⟨h.os, h.tape, h.output, h.size, fun i hi hn => h.block i hi fun hm => hn (hs i hi hm)⟩
theorem Kept.drew {S : List Nat} {a w : World} (h : Kept S a w) : Kept S a w.drew := ⟨h.os, h.tape, h.output, h.size, h.block⟩
theorem Kept.alloc {S : List Nat} {a w : World} (h : Kept S a w) (o : Obj) : Kept S a (w.alloc o) :=
  h.trans ⟨rfl, rfl, rfl, by simp, fun k hk _ => Below.heap_alloc _ _ _ hk⟩
theorem Kept.setCell {S : List Nat} {a w : World} (h : Kept S a w) {p : Addr} (hp : p.block ∈ S ∨ a.heap.size ≤ p.block) (u : Value) : Kept S a (w.setCell p u) :=
  ⟨h.os, h.tape, h.output, by have := h.size; simpa [World.setCell] using this, fun k hk hn => by
    have hne : k ≠ p.block := fun e => hp.elim (fun hp => hn (by rw [e]; exact hp)) (fun hp => by omega)
    rw [Below.heap_setCell _ _ _ _ hne]; exact h.block k hk hn⟩
theorem Kept.alike {S : List Nat} {a w w' : World} (h : Kept S a w) (k : w'.Alike w) (ht : w'.tape = w.tape) (ho : w'.os = w.os) (hp : w'.output = w.output) : Kept S a w' :=
  ⟨ho.trans h.os, ht.trans h.tape, hp.trans h.output, by have := h.size; rw [k.1]; exact this, fun i hi hn => by rw [k.1]; exact h.block i hi hn⟩
theorem Kept.below {S : List Nat} {a w : World} {B : Nat} (h : Kept S a w) (hB : B ≤ a.heap.size) (hs : ∀ x, x ∈ S → B ≤ x) : Below B a w :=
  ⟨h.os, h.tape, h.output, h.size, fun k hk => h.block k (by omega) fun hm => by have := hs k hm; omega⟩
theorem Kept.of_below {S : List Nat} {a w : World} (h : Below a.heap.size a w) : Kept S a w :=
  ⟨h.os, h.tape, h.output, h.size, fun k hk _ => h.block k hk⟩
theorem Kept.cell {S : List Nat} {a w : World} (h : Kept S a w) {p : Addr} (hb : p.block < a.heap.size) (hn : p.block ∉ S) : w.cell? p = a.cell? p :=
  World.cell?_of_block (w := a) (h.block _ hb hn)
theorem Kept.frozen {S : List Nat} {a w : World} (h : Kept S a w) {p : Addr} (hb : p.block < a.heap.size) (hn : p.block ∉ S) : w.frozen? p = a.frozen? p :=
  World.frozen?_of_block (w := a) (h.block _ hb hn)

theorem lt_of_blk {w : World} {b : Nat} {o : Obj} (h : w.heap[b]? = some o) : b < w.heap.size := (Array.getElem?_eq_some_iff.1 h).1
theorem cell_of_blk {w : World} {b : Nat} {c : Array Value} {t : TypeId} {f : Nat × Nat} (h : w.heap[b]? = some (.cells c t f)) (i : Nat) : w.cell? ⟨b, i, none⟩ = c[i]? := by
  simp [World.cell?, h]
theorem frozen_of_blk {w : World} {b : Nat} {c : Array Value} {t : TypeId} (h : w.heap[b]? = some (.cells c t (0, 0))) (i : Nat) : w.frozen? ⟨b, i, none⟩ = false := by
  simp [World.frozen?, h]
theorem blk_setCell {w : World} {b : Nat} {c : Array Value} {t : TypeId} {f : Nat × Nat} (h : w.heap[b]? = some (.cells c t f)) (i : Nat) (v : Value) :
    (w.setCell ⟨b, i, none⟩ v).heap[b]? = some (.cells (c.setIfInBounds i v) t f) := by
  simp [World.setCell, Array.getElem?_modify, h]
theorem blk_setCell_ne {w : World} {b : Nat} {a : Addr} (h : b ≠ a.block) (v : Value) : (w.setCell a v).heap[b]? = w.heap[b]? := Below.heap_setCell _ _ _ _ h
end Go.Proofs.YtkkipnihdiabpaaGreatDoor
