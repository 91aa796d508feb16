/- What the rows list of the package-level variables, as the walks want it. -/
import Derived.Test.YtdfbhjgpkokebaaGreatDoorRows
import Derived.Test.YtdfbhjgpkokebaaGreatDoorHistJ
import Derived.Test.YtdfbhjgpkokebaaGreatDoorRefK
import Derived.Test.YtdfbhjgpkokebaaGreatDoorLaid
import Derived.Test.YtdfbhjgpkokebaaGreatDoorShelf
import Derived.Lib.LaidU8T
import Derived.Lib.LaidIn
import Derived.LaidHandle
import Derived.MakeChecks
import Derived.Lay
namespace Go.Proofs.YtdfbhjgpkokebaaGreatDoor
open Go.RowKit Go.Lib

theorem gOps : Tryz.prog.globalNamed "linear/models.operations" = some 0 := by kernel_rfl
theorem yOps : (Tryz.prog.globals[0]?).map (·.type) = some 75 := by kernel_rfl
theorem cOp : Tryz.prog.cellsOf 74 = 4 := by kernel_rfl
theorem cOps : Tryz.prog.cellsOf 75 = 13 * 4 := by kernel_rfl
theorem cStr : Tryz.prog.cellsOf 9 = 1 := by kernel_rfl
def rowData (o : OpRow) : DataW Unit := .agg [.lit (.string o.1), .lit (.string o.2.1), .lit (.int .u8 o.2.2.1), .lit (.int .u8 o.2.2.2)]
theorem ops_data : (Rows.laid_linear_models_operations : DataW Unit) = .agg (opTab.map rowData) := by kernel_rfl
theorem range_flat {α : Type} (l : List OpRow) (f : OpRow → List α) : (List.range l.length).flatMap (fun i => (l[i]?.map f).getD []) = l.flatMap f := by
  induction l with
  | nil => rfl
  | cons a t ih =>
    rw [List.length_cons, List.range_succ_eq_map, List.flatMap_cons, List.flatMap_map]
    simp only [List.getElem?_cons_zero, Option.map_some, Option.getD_some, List.getElem?_cons_succ, List.flatMap_cons]
    rw [ih]
theorem ops_of {W : World} (h : VarReads Tryz.prog W "linear/models.operations" Rows.laid_linear_models_operations) : Ops W := by
  obtain ⟨g, t, cs, fuel, p, hg, hty, hvar, hd⟩ := h
  obtain rfl := Option.some.inj (gOps.symm.trans hg)
  obtain rfl := Option.some.inj (yOps.symm.trans hty)
  rw [ops_data] at hd
  have := array_read Tryz.underlying75 cOp cOps hd (fun i => (opTab[i]?.map opCells).getD []) (by
    intro i d q m cs' hi hdi htr
    rw [List.getElem?_map] at hdi
    obtain ⟨o, ho, rfl⟩ := Option.map_eq_some_iff.1 hdi
    rw [ho]
    exact op_read Tryz.underlying74 cOp rfl rfl rfl rfl (by kernel_rfl) (by kernel_rfl) (by kernel_rfl) (by kernel_rfl) (by kernel_rfl) (by kernel_rfl) (by kernel_rfl) (by kernel_rfl) htr)
  rw [show (13 : Nat) = opTab.length from rfl, range_flat] at this
  unfold Ops opsCells
  rw [hvar, ← this]

theorem gMods : Tryz.prog.globalNamed "linear/linearref.Models" = some 1 := by kernel_rfl
theorem yMods : (Tryz.prog.globals[1]?).map (·.type) = some 82 := by kernel_rfl
theorem cMods : Tryz.prog.cellsOf 82 = 5 * 1 := by kernel_rfl
theorem mods_data : (Rows.laid_linear_linearref_Models : DataW Unit) = .agg (modTab.map fun l => .lit (.string l)) := by kernel_rfl
theorem mods_of {W : World} (h : VarReads Tryz.prog W "linear/linearref.Models" Rows.laid_linear_linearref_Models) : Mods W := by
  obtain ⟨g, t, cs, fuel, p, hg, hty, hvar, hd⟩ := h
  obtain rfl := Option.some.inj (gMods.symm.trans hg)
  obtain rfl := Option.some.inj (yMods.symm.trans hty)
  rw [mods_data] at hd
  have := array_read Tryz.underlying82 cStr cMods hd (fun i => (modTab[i]?.map fun l => [Value.string ⟨l.toArray⟩]).getD []) (by
    intro i d q m cs' hi hdi htr
    rw [List.getElem?_map] at hdi
    obtain ⟨o, ho, rfl⟩ := Option.map_eq_some_iff.1 hdi
    rw [ho]
    exact string_read Tryz.underlying9 htr)
  have e : (List.range 5).flatMap (fun i => (modTab[i]?.map fun l => [Value.string ⟨l.toArray⟩]).getD []) = modTab.map (fun l => Value.string ⟨l.toArray⟩) := by kernel_rfl
  unfold Mods modCells
  rw [hvar, ← e, ← this]

theorem err_of {W : World} {n : String} {g : Nat} {s : List UInt8} (hn : Tryz.prog.globalNamed n = some g) (hy : (Tryz.prog.globals[g]?).map (·.type) = some 176)
    (h : VarReads Tryz.prog W n (.iface "*errors.errorString" (.ptr (.agg [.lit (.string s)])))) : ∃ tp p, W.var? Tryz.prog n = some #[.iface tp p] := by
  obtain ⟨g', t, cs, fuel, p, hg, hty, hvar, hd⟩ := h
  obtain rfl := Option.some.inj (hn.symm.trans hg)
  obtain rfl := Option.some.inj (hy.symm.trans hty)
  obtain ⟨_, u, v, hcs, _, _⟩ := iface_of_trod Tryz.underlying176 hd
  exact ⟨u, v, by rw [hvar, Array.eq_one_of_toList hcs]⟩

theorem lastRow : (((begin Tryz.prog (fun _ _ => 0) default).world.heap[10 - 1]?).bind Obj.row?).isSome = true := by kernel_rfl
theorem ng_of {W : World} (h : W.ShapedOpen Tryz.prog) : 10 ≤ W.heap.size := by
  obtain ⟨⟨z, t⟩, hz⟩ := Option.isSome_iff_exists.1 lastRow
  obtain ⟨cs, hh, _⟩ := h.1 (10 - 1) z t (of_decide_eq_true (by kernel_rfl)) hz
  have := (Array.getElem?_eq_some_iff.1 hh).1
  omega
theorem first_data : Go.Pinned.utf8First = firstData := by kernel_rfl
theorem accept_data : (Rows.laid_unicode_utf8_acceptRanges : DataW Unit) = acceptData := by kernel_rfl

/-- all that the walks of Read want of the package-level variables -/
theorem glob_of {W : World} (hs : W.ShapedOpen Tryz.prog) (h1 : VarReads Tryz.prog W "linear/models.operations" Rows.laid_linear_models_operations) (h2 : VarReads Tryz.prog W "strconv.ErrSyntax" Rows.laid_strconv_ErrSyntax) (h3 : VarReads Tryz.prog W "strconv.ErrRange" Rows.laid_strconv_ErrRange)
    (h4 : VarReads Tryz.prog W "unicode/utf8.first" Rows.laid_unicode_utf8_first) (h5 : VarReads Tryz.prog W "unicode/utf8.acceptRanges" Rows.laid_unicode_utf8_acceptRanges) : Glob W := by
  refine ⟨ops_of h1, ⟨err_of (g := 5) (by kernel_rfl) (by kernel_rfl) h2, err_of (g := 6) (by kernel_rfl) (by kernel_rfl) h3, ng_of hs⟩, ?_, ?_⟩
  · rw [show Rows.laid_unicode_utf8_first = firstData from first_data] at h4
    rw [accept_data] at h5
    exact utf8Tabs_of_readsT (U8Types.of196 Tryz.laysValid) ⟨by kernel_rfl, by kernel_rfl, by kernel_rfl, by kernel_rfl, by kernel_rfl, by kernel_rfl, by kernel_rfl⟩ h4 h5
  · exact Go.Proofs.cell_of_shapedOpen_int (zero := #[.int .i64 0]) (t := 3) hs (of_decide_eq_true (by kernel_rfl)) (by kernel_rfl) rfl (by kernel_rfl) (by kernel_rfl) Tryz.underlying3
end Go.Proofs.YtdfbhjgpkokebaaGreatDoor
