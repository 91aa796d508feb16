/- A map as a function from keys to elements: what look-up, store and length do. -/
import Derived.Test.YtkkipnihdiabpaaGreatDoorScanZ
import Derived.Maps.OwnSet
import Derived.Maps.OwnOps
import Derived.WalkSpells
namespace Go.Proofs.YtkkipnihdiabpaaGreatDoor
open Go.RowKit Go.Maps

/-- An element is its own datum. -/
def heldR (v : Value) : Option (DataW Value × List MemPlace) := some (.held v, [])

/-- Block b is a map of sz entries, at most n, with key type k, that holds f kl at the key kl. -/
def MapFn (w : World) (k : TypeId) (b n sz : Nat) (f : Lit → Option Value) : Prop :=
  ∃ D : DataW Value, w.ownsMap Tryz.prog k heldR b n D ∧ Maps.size D = sz ∧ Tidy D ∧ ∀ kl, Maps.has D kl = (f kl).isSome ∧ ∀ v, f kl = some v → ∀ z, D.atKey kl z = .held v

theorem MapFn.made (w : World) (k : TypeId) : MapFn (w.alloc (.map #[] 0)) k w.heap.size 0 0 (fun _ => none) :=
  ⟨.map [], World.ownsMap_made w _ k heldR, rfl, tidy_empty, fun kl => ⟨rfl, fun v h => by cases h⟩⟩
theorem MapFn.kept {w w' : World} {k : TypeId} {b n sz : Nat} {f : Lit → Option Value} {S : List Nat} (h : MapFn w k b n sz f) (hk : Kept S w w') (hb : b ∉ S) : MapFn w' k b n sz f := by
  obtain ⟨D, ⟨es, clock, h1, h2⟩, r⟩ := h
  exact ⟨D, ⟨es, clock, (hk.block b (lt_of_blk h1) hb).trans h1, h2⟩, r⟩
theorem MapFn.lt {w : World} {k : TypeId} {b n sz : Nat} {f : Lit → Option Value} (h : MapFn w k b n sz f) : b < w.heap.size := by
  obtain ⟨D, h1, _⟩ := h; exact h1.lt
theorem MapFn.below {w w' : World} {k : TypeId} {b n sz : Nat} {f : Lit → Option Value} (h : MapFn w k b n sz f) (hk : Below w.heap.size w w') : MapFn w' k b n sz f := h.kept (S := []) (Kept.of_below hk) (by simp)
theorem MapFn.alloc {w : World} {k : TypeId} {b n sz : Nat} {f : Lit → Option Value} (h : MapFn w k b n sz f) (o : Obj) : MapFn (w.alloc o) k b n sz f := h.kept (S := []) ((Kept.refl _ _).alloc o) (by simp)
theorem MapFn.sz_le {w : World} {k : TypeId} {b n sz : Nat} {f : Lit → Option Value} (h : MapFn w k b n sz f) : sz ≤ n := by
  obtain ⟨D, h1, h2, _⟩ := h; rw [← h2]; exact h1.size_le
theorem MapFn.congr {w : World} {k : TypeId} {b n sz : Nat} {f g : Lit → Option Value} (h : MapFn w k b n sz f) (e : ∀ x, f x = g x) : MapFn w k b n sz g := by rw [← funext e]; exact h

theorem at_held {D : DataW Value} {f : Lit → Option Value} (h : ∀ kl, Maps.has D kl = (f kl).isSome ∧ ∀ v, f kl = some v → ∀ z, D.atKey kl z = .held v) (kl : Lit) (z : Value) : D.atKey kl (.held z) = .held ((f kl).getD z) := by
  cases hf : f kl with
  | none => rw [Maps.atKey_of_not_has (by rw [(h kl).1, hf]; rfl)]; rfl
  | some v => rw [(h kl).2 v hf]; rfl

section
variable {w : World} {ops : Array Oper} {rest : List Oper} {o : Oper} {a : Act} {Q : Exit → Act → World → Prop}
theorem wpList_lookup_fn_ok (hg : o.guard = none) (m x : Operand) (t : TypeId) (hop : o.op = Op.lookup t m x true)
    (k e : TypeId) (K : Keyed Tryz.prog k) (ht : Tryz.prog.underlying t = some (.map k e)) {z : Value} (hz : (zeroValue e).run Tryz.prog w = .ok z w) (b n sz : Nat) (f : Lit → Option Value)
    (hm : a.eval m = .map (some b)) (hown : MapFn w k b n sz f) (key : Value) (kl : Lit) (hx : a.eval x = key) (hkey : keyOf Tryz.prog k key = some kl)
    (hK : wpList Tryz.prog ops Q rest (a.put o.dst (.tuple #[(f kl).getD z, .bool (f kl).isSome])) w) :
    wpList Tryz.prog ops Q (o :: rest) a w := by
  obtain ⟨D, h1, h2, h3, h4⟩ := hown
  refine wpList_lookup_own_ok w hg m x t hop k e K ht heldR hz (.held z) [] rfl b n D hm h1 key kl hx hkey ?_
  intro v ps hv
  rw [at_held h4] at hv
  simp only [heldR, Option.some.injEq, Prod.mk.injEq, DataW.held.injEq] at hv
  rw [hv.1, (h4 kl).1]
  exact hK
theorem wpList_len_fn (hg : o.guard = none) (m : Operand) (t : TypeId) (hop : o.op = Op.call { callee := Callee.builtin Builtin.len, args := #[m], argTypes := #[t] })
    (k e : TypeId) (ht : Tryz.prog.underlying t = some (.map k e)) (b n sz : Nat) (f : Lit → Option Value) (hm : a.eval m = .map (some b)) (hown : MapFn w k b n sz f)
    (hK : wpList Tryz.prog ops Q rest (a.put o.dst (.int .i64 sz)) w) : wpList Tryz.prog ops Q (o :: rest) a w := by
  obtain ⟨D, h1, h2, h3, h4⟩ := hown
  refine wpList_len_own w hg m t hop k e ht heldR b n D hm h1 ?_
  rw [h2]; exact hK
theorem wpList_lookup_fn (hg : o.guard = none) (m x : Operand) (t : TypeId) (hop : o.op = Op.lookup t m x false)
    (k e : TypeId) (K : Keyed Tryz.prog k) (ht : Tryz.prog.underlying t = some (.map k e)) {z : Value} (hz : (zeroValue e).run Tryz.prog w = .ok z w) (b n sz : Nat) (f : Lit → Option Value)
    (hm : a.eval m = .map (some b)) (hown : MapFn w k b n sz f) (key : Value) (kl : Lit) (hx : a.eval x = key) (hkey : keyOf Tryz.prog k key = some kl)
    (hK : wpList Tryz.prog ops Q rest (a.put o.dst ((f kl).getD z)) w) :
    wpList Tryz.prog ops Q (o :: rest) a w := by
  obtain ⟨D, h1, h2, h3, h4⟩ := hown
  refine wpList_plain hg fun K' hK' => ?_
  obtain ⟨v, ps, hrun, hv⟩ := h1.lookup K ht hz (R := heldR) (zd := .held z) (zp := []) rfl hkey
  rw [at_held h4] at hv
  simp only [heldR, Option.some.injEq, Prod.mk.injEq, DataW.held.injEq] at hv
  rw [hv.1] at hrun
  unfold Oper.wp
  simp [execOp, hop, hm, hx, hrun, Result.andThen]
  exact hK' _ _ hK
end

theorem MapFn.runOk {w : World} {k e t : TypeId} {b n sz : Nat} {f : Lit → Option Value} (h : MapFn w k b n sz f) (K : Keyed Tryz.prog k) (ht : Tryz.prog.underlying t = some (.map k e)) {z : Value} (hz : (zeroValue e).run Tryz.prog w = .ok z w)
    {key : Value} {kl : Lit} (hkey : keyOf Tryz.prog k key = some kl) : (Instr.lookup t (.map (some b)) key true).run Tryz.prog w = .ok (.tuple #[(f kl).getD z, .bool (f kl).isSome]) w := by
  obtain ⟨D, h1, h2, h3, h4⟩ := h
  obtain ⟨v, ps, hrun, hv⟩ := h1.look_ok K ht hz (R := heldR) (zd := .held z) (zp := []) rfl hkey
  rw [at_held h4] at hv
  simp only [heldR, Option.some.injEq, Prod.mk.injEq, DataW.held.injEq] at hv
  rw [hrun, hv.1, (h4 kl).1]
theorem MapFn.run1 {w : World} {k e t : TypeId} {b n sz : Nat} {f : Lit → Option Value} (h : MapFn w k b n sz f) (K : Keyed Tryz.prog k) (ht : Tryz.prog.underlying t = some (.map k e)) {z : Value} (hz : (zeroValue e).run Tryz.prog w = .ok z w)
    {key : Value} {kl : Lit} (hkey : keyOf Tryz.prog k key = some kl) : (Instr.lookup t (.map (some b)) key false).run Tryz.prog w = .ok ((f kl).getD z) w := by
  obtain ⟨D, h1, h2, h3, h4⟩ := h
  obtain ⟨v, ps, hrun, hv⟩ := h1.lookup K ht hz (R := heldR) (zd := .held z) (zp := []) rfl hkey
  rw [at_held h4] at hv
  simp only [heldR, Option.some.injEq, Prod.mk.injEq, DataW.held.injEq] at hv
  rw [hrun, hv.1]
theorem MapFn.runLen {w : World} {k e t : TypeId} {b n sz : Nat} {f : Lit → Option Value} (h : MapFn w k b n sz f) (ht : Tryz.prog.underlying t = some (.map k e)) (ty : TypeId) : (Builtin.len_ #[t] ty #[.map (some b)]).run Tryz.prog w = .ok (.int .i64 sz) w := by
  obtain ⟨D, h1, h2, h3, h4⟩ := h
  rw [h1.len ht ty, h2]
theorem MapFn.runPut {w : World} {k e t : TypeId} {b n sz : Nat} {f : Lit → Option Value} (h : MapFn w k b n sz f) (K : Keyed Tryz.prog k) (ht : Tryz.prog.underlying t = some (.map k e)) (hn : n < maxLen)
    {key : Value} (val : Value) {kl : Lit} (hkey : keyOf Tryz.prog k key = some kl) (hkl : WideAt.IsKeyLit kl) (g : Lit → Option Value) (hg1 : g kl = some val) (hg2 : ∀ x, x ≠ kl → g x = f x) :
    ∃ w', (Instr.mapUpdate t (.map (some b)) key val).run Tryz.prog w = .ok () w' ∧ MapFn w' k b (n + 1) (if (f kl).isSome then sz else sz + 1) g ∧ Kept [b] w w' := by
  obtain ⟨D, h1, h2, h3, h4⟩ := h
  obtain ⟨w', hrun, h1', hg⟩ := h1.update K ht hn hkey (R := heldR) (d := .held val) (ps := []) (val := val) rfl
  refine ⟨w', hrun, ⟨_, h1', ?_, h3.put hkl _, fun kl' => ?_⟩, ⟨hg.os, hg.tape, hg.output, hg.size, fun i hi hn => hg.block i hi (fun e => hn (by simpa using e))⟩⟩
  · rw [size_put h3, (h4 kl).1, h2]
  · by_cases e : kl' = kl
    · subst e
      rw [hg1]
      exact ⟨has_put_same h3.isMap hkl _, fun v hv z => by cases hv; exact atKey_put_same h3.isMap hkl _ _⟩
    · rw [hg2 _ e]
      exact ⟨(has_put_other e _).trans (h4 kl').1, fun v hv z => (atKey_put_other e _ _).trans ((h4 kl').2 v hv z)⟩

theorem lawS : Keyed Tryz.prog 9 := string_keyed Tryz.underlying9
theorem lawI : Keyed Tryz.prog 2 := int_keyed Tryz.underlying2
theorem zeroV (w : World) : (zeroValue 175).run Tryz.prog w = .ok (.agg #[.int .i64 0, .int .i64 0, .string ⟨#[]⟩]) w := by kernel_rfl
theorem zeroI (w : World) : (zeroValue 3).run Tryz.prog w = .ok (.int .i64 0) w := by kernel_rfl
end Go.Proofs.YtkkipnihdiabpaaGreatDoor
