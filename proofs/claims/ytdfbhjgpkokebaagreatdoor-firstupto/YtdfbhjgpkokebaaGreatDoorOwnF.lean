/- First: behind the lines of a made history any line is refused there, or not at all, whatever stands behind it: for all raw numbers and all texts of bulk at most 1048576 together. Conditions: the listed package-level variables hold what the program's text lays in them; the second form's bound. -/
import Derived.Test.YtdfbhjgpkokebaaGreatDoorCards
import Derived.Test.YtdfbhjgpkokebaaGreatDoorTie
import Derived.Test.YtdfbhjgpkokebaaGreatDoorVarsX
import Derived.Test.YtdfbhjgpkokebaaGreatDoorKeepR
import Derived.WalkKit
import Derived.ProofKit
import Derived.OpenShut
import Derived.Carry
import Derived.Deep.DeepHandedRow
import Derived.Deep.DeepWitnessRowRef
namespace Go.Proofs.YtdfbhjgpkokebaaGreatDoor.first
open Go.ChangeShapes Go.WideShapes Go.ChangeAt Go.RowKit Go.Lib Go.Proofs.YtdfbhjgpkokebaaGreatDoor.keep
open Go.ChangeMaps (open_string shut_string)

theorem own : ownKnob Tryz.prog.godebug = none := by kernel_rfl
theorem laidOut : laidOutB Tryz.prog = true := by kernel_rfl
theorem cellsInt : Tryz.prog.cellsOf 3 = 1 := by kernel_rfl
theorem laid_plain : (Rows.firstUptoRow.laid.all fun x => x.2.handleName?.isNone) = true := by kernel_rfl

/-- What the bound gives. -/
theorem short {H : Type} {d0 d1 : DataW H} {s m : ByteArray} (hk : Rows.uptoSmall H [d0, d1, .lit (.string s.data.toList), .lit (.string m.data.toList)] = true) : s.data.toList.length + m.data.toList.length ≤ 1048576 := by
  have h : Rows.uptoBulkAll [d0, d1, DataW.lit (H := H) (.string s.data.toList), .lit (.string m.data.toList)] ≤ 1048576 := of_decide_eq_true hk
  simp only [Rows.uptoBulkAll, Rows.uptoBulk] at h
  omega

set_option maxRecDepth 100000 in
/-- the raw numbers, as the walk wants them -/
theorem open_code {H : Type} {enc : TypeId × Value → H} {W : World} {base : Nat} {v : Value} {d : DataW H} {p : List MemPlace} (hval : Value.okWide Tryz.prog W .any base 29 v) (h : DataW.Trod enc Tryz.prog W 0 (fun _ => true) true 29 v d p) :
    ∃ code : List Int, (∃ oa cap, v = .slice oa code.length cap ∧ (code ≠ [] → ∃ g off, oa = some ⟨g, off, none⟩ ∧ g < W.heap.size ∧ ∀ j x, code[j]? = some x → W.cell? ⟨g, off + j, none⟩ = some (.int .i64 x))) ∧ code.length ≤ 9223372036854775807 ∧ ∀ x ∈ code, inI64 x := by
  obtain ⟨a0, len, cap, rfl⟩ := okWide_slice Tryz.underlying29 hval
  obtain ⟨fuel, hf⟩ := h
  rcases open_ints Tryz.underlying29 Tryz.underlying3 cellsInt hf with ⟨hcs, hx⟩ | ⟨a, len', cap', zs, hcs, _, hl, hm, hz, hx, hcell, hwz⟩
  · simp [Value.cells] at hcs
    obtain ⟨rfl, rfl, rfl⟩ := hcs
    exact ⟨[], ⟨none, 0, rfl, fun h => absurd rfl h⟩, by simp, by simp⟩
  · simp [Value.cells] at hcs
    obtain ⟨rfl, rfl, rfl⟩ := hcs
    simp only [if_true] at hz
    have hl1 : (zs.take len).length = len := by rw [List.length_take]; omega
    refine ⟨zs.take len, ⟨some a, cap, by rw [hl1], fun hne => ?_⟩, by rw [hl1]; unfold maxLen at hm; omega, fun x hx => ?_⟩
    · have hpos : 0 < zs.length := by
        apply Nat.pos_of_ne_zero
        intro h0
        apply hne
        rw [List.length_eq_zero_iff.1 h0]; simp
      obtain ⟨b, off, rfl, hc⟩ := ints_at hcell hpos
      have hlb : b < W.heap.size := by
        apply Decidable.byContradiction
        intro hn
        have e : W.heap[b]? = Option.none := Array.getElem?_eq_none (by omega)
        have h0 := hc 0 hpos
        simp [World.cell?, e] at h0
      refine ⟨b, off, rfl, hlb, fun j x hj => ?_⟩
      rw [List.getElem?_take] at hj
      split at hj
      · have hjl := (List.getElem?_eq_some_iff.1 hj).1
        rw [hc j hjl, List.getD, hj]; rfl
      · cases hj
    · exact bounds_i64 (hwz x (List.mem_of_mem_take hx))

set_option maxRecDepth 100000 in
theorem contract (H : Type) (enc : TypeId × Value → H) (W : World) (base : Nat) (args : Array Value) (ds gs : List (DataW H)) (before : List MemPlace)
    (hval : ∀ (j : Nat) t v, Tryz.f5.params[j]? = some t → args[j]? = some v → Value.okWide Tryz.prog W .any base t v)
    (hW : DataW.Whole enc Tryz.prog Tryz.f5.params.toList Rows.firstSpec.vars false W args.toList ds gs before) (hL : laidMetH Tryz.prog Rows.firstUptoRow.laid W) (hS : W.ShapedOpen Tryz.prog) (hk : Rows.uptoSmall H (ds ++ gs) = true) :
    Calls Tryz.prog 5 args W fun e W' => ∃ v, e = .returned v ∧ Rows.firstSpec.post enc Tryz.prog Tryz.f5 false true false false W args v W' := by
  have hW' := hW
  have hlt := hW.lt
  obtain ⟨p, q, hA0, hV, rfl, hfz, hnd⟩ := hW
  have hA : DataW.TrodAll enc Tryz.prog W 0 (fun _ => true) true Tryz.f5.params.toList args.toList ds p := hA0
  rw [Tryz.params5] at hA hval
  obtain ⟨v0, vs0, d0, ds0, p0, q0, hargs, rfl, rfl, h0, r0⟩ := trodAll_cons hA
  obtain ⟨v1, vs1, d1, ds1, p1, q1, rfl, rfl, rfl, h1, r1⟩ := trodAll_cons r0
  obtain ⟨v2, vs2, d2, ds2, p2, q2, rfl, rfl, rfl, h2, r2⟩ := trodAll_cons r1
  obtain ⟨v3, vs3, d3, ds3, p3, q3, rfl, rfl, rfl, h3, r3⟩ := trodAll_cons r2
  obtain ⟨rfl, rfl, rfl⟩ := trodAll_nil r3
  obtain rfl : args = #[v0, v1, v2, v3] := by cases args; simp_all
  obtain ⟨rfl, rfl⟩ := trodVars_none hV
  have h1k := h1
  obtain ⟨which, rfl, rfl, rfl, hwf⟩ := open_int Tryz.underlying3 (hval 0 3 v0 rfl rfl) h0
  have hlt1 : ∀ x ∈ p1, x.block < W.heap.size := fun x hx => hlt x (by simp [hx])
  obtain ⟨code, hrow, hlen, hcwf⟩ := open_code (hval 1 29 v1 rfl rfl) h1
  obtain ⟨s, rfl, rfl, rfl, hmax⟩ := open_string Tryz.underlying9 (hval 2 9 v2 rfl rfl) h2
  obtain ⟨m, rfl, rfl, rfl, hmax2⟩ := open_string Tryz.underlying9 (hval 3 9 v3 rfl rfl) h3
  clear hA0
  simp only [List.append_nil] at hW' hk
  have hsh := short hk
  rw [MakeChecks.laidMetH_plain _ _ _ laid_plain] at hL
  have hg : Glob W := glob_of hS (laidMet.reads hL (by simp [Rows.firstUptoRow])) (laidMet.reads hL (by simp [Rows.firstUptoRow])) (laidMet.reads hL (by simp [Rows.firstUptoRow])) (laidMet.reads hL (by simp [Rows.firstUptoRow])) (laidMet.reads hL (by simp [Rows.firstUptoRow]))
  have hw64 : inI64 which := bounds_i64 hwf
  refine (first_any which hw64 v1 code s.data.toList m.data.toList W hg hrow hlen hcwf hsh).mono fun e W' ⟨hb, he⟩ => ?_
  subst he
  have e1 : Rows.firstSpec.fn H ([.lit (.int .i64 which), d1, .lit (.string s.data.toList), .lit (.string m.data.toList)] ++ []) = { results := [.lit (.bool true)], args := [.lit (.int .i64 which), d1, .lit (.string s.data.toList), .lit (.string m.data.toList)] } := rfl
  refine ⟨_, rfl, _, _, _, [], p1, [], hW', ?_, ?_, ?_, hb.frame _, fun h => by cases h⟩
  · rw [e1]; exact trodAll_cons_mk (shut_bool Tryz.underlying4 _) trodAll_mk0
  · rw [e1]
    have t1 : DataW.TrodAll enc Tryz.prog W' 0 (fun b => decide (b < W.heap.size)) true [3, 29, 9, 9] [.int .i64 which, v1, .string s, .string m] [.lit (.int .i64 which), d1, .lit (.string s.data.toList), .lit (.string m.data.toList)] ([] ++ (p1 ++ ([] ++ ([] ++ [])))) := trodAll_cons_mk (shut_int Tryz.underlying3 hwf) (trodAll_cons_mk (Below.trod laidOut (by kernel_rfl) (of_decide_eq_true (by kernel_rfl)) h1k hb hlt1) (trodAll_cons_mk (shut_string Tryz.underlying9 hmax) (trodAll_cons_mk (shut_string Tryz.underlying9 hmax2) trodAll_mk0)))
    simpa using t1
  · rw [e1]; rfl

/-- A world for the witness: the listed variables hold what is listed. -/
theorem laid_met (os : Os) (args : Array Value) : laidMetH Tryz.prog Rows.firstUptoRow.laid ((World.laidAll Tryz.prog os Rows.firstUptoRow.laid).forCall (fun _ _ => 0) ⟨#[], args, []⟩).memory := by
  rw [MakeChecks.laidMetH_plain _ _ _ laid_plain]
  exact laidMet_laidAll _ (by kernel_rfl) (by kernel_rfl)
theorem reading (os : Os) {H : Type} (enc : TypeId × Value → H) : ∃ places, DataW.whole enc Tryz.prog ((World.laidAll Tryz.prog os Rows.firstUptoRow.laid).forCall (fun _ _ => 0) ⟨#[], #[.int .i64 0, .slice none 0 0, .string ⟨#[]⟩, .string ⟨#[]⟩], []⟩).memory Tryz.f5.params.toList Rows.firstSpec.vars false #[Value.int .i64 0, .slice none 0 0, .string ⟨#[]⟩, .string ⟨#[]⟩].toList 8 = some ([.lit (.int .i64 0), .nil, .lit (.string []), .lit (.string [])], [], places) :=
  ⟨[], by kernel_rfl⟩

set_option maxRecDepth 100000 in
theorem lifted (os : Os) (started : os.Started) (H : Type) (enc : TypeId × Value → H) (F : Stop.Interp) :
    ReturnsInHanded {} Tryz.checked os 5 .any ((Rows.OpenSpec.upto Rows.firstSpec).preRow enc Tryz.prog Tryz.f5 Rows.firstUptoRow.domain false Rows.firstUptoRow.laid) (((Rows.OpenSpec.upto Rows.firstSpec).at F).post enc Tryz.prog Tryz.f5 false true false false) := by
  obtain ⟨places, hx⟩ := reading os enc
  refine returnsInHanded_of_row (C := Tryz.checked) (s := Rows.OpenSpec.upto Rows.firstSpec) own started (by kernel_rfl) Tryz.func5
    (witness_row_atRef (enc := enc) (C := Tryz.checked) false (World.laidAll Tryz.prog os Rows.firstUptoRow.laid) #[.int .i64 0, .slice none 0 0, .string ⟨#[]⟩, .string ⟨#[]⟩] (World.laidAll_os _ _ _) (by kernel_rfl) (by kernel_rfl) (by kernel_rfl)
      (OpenSpec.preRow_of_cond 8 hx (by kernel_rfl) (fun k hk => by cases hk; kernel_rfl) (by kernel_rfl) (laid_met os _))) ?_
  intro W base args ds gs before hval hW _ hcond _ hL hS _
  exact contract H enc W base args ds gs before hval hW hL hS (hcond _ rfl)

theorem said : Rows.FirstUptoSaid :=
  OpenClaim.holds_of_cond 5 Tryz.f5 rfl rfl rfl rfl rfl rfl rfl ⟨rfl, rfl, rfl, rfl, rfl⟩ rfl rfl rfl rfl rfl (by kernel_rfl) Tryz.func5 (by kernel_rfl)
    (of_decide_eq_true (by kernel_rfl)) (by unfold Func.isWrapper; first | (rw [if_pos (by decide +kernel)]; kernel_rfl) | (rw [if_neg (by decide +kernel)]; exact ⟨rfl, rfl⟩))
    (fun os started H enc _ F => by rw [OpenClaim.pre_eq_preRow]; exact lifted os started H enc F)

theorem plain (f : FuncId) (fn : Func) (hf : Tryz.pinned.checked.prog.funcNamed "linear/linearkeep.First" = some f) (hfn : Tryz.pinned.checked.prog.funcs[f]? = some fn) :
    true = Tryz.pinned.checked.prog.looks [] ∧ ∀ (j : Nat) t, fn.params[j]? = some t → Tryz.pinned.checked.prog.wantsStandIn t = false := by
  obtain rfl : f = 5 := Option.some.inj ((show Tryz.prog.funcNamed "linear/linearkeep.First" = some 5 by kernel_rfl).symm.trans hf) |>.symm
  obtain rfl : fn = Tryz.f5 := (Option.some.inj (Tryz.func5.symm.trans hfn)).symm
  refine ⟨by kernel_rfl, fun j t ht => ?_⟩
  rw [Tryz.params5] at ht
  obtain rfl | rfl | rfl : t = 3 ∨ t = 29 ∨ t = 9 := by simpa using Array.mem_of_getElem? ht
  · exact (show Tryz.prog.wantsStandIn 3 = false by kernel_rfl)
  · exact (show Tryz.prog.wantsStandIn 29 = false by kernel_rfl)
  · exact (show Tryz.prog.wantsStandIn 9 = false by kernel_rfl)

/-- THE CARD -/
theorem card : Rows.FirstUptoCardSaid :=
  Claim7.holds_tied_plain_at .later [] _ _ _ _ said (fun _ h => by cases h) (by kernel_rfl) (fun _ h => by cases h) firstUpto_row_tie rfl ⟨rfl, rfl⟩ (by kernel_rfl) rfl plain (by kernel_rfl)
end Go.Proofs.YtdfbhjgpkokebaaGreatDoor.first
namespace Go.Proofs.YtdfbhjgpkokebaaGreatDoor
/-- FIRST, the second form's card. -/
theorem first_holds : Rows.FirstUptoCardSaid := first.card
end Go.Proofs.YtdfbhjgpkokebaaGreatDoor
