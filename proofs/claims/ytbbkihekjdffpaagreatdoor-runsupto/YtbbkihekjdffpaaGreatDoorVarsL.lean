/- Several texts in one. -/
import Derived.Test.YtbbkihekjdffpaaGreatDoorRows
import Derived.Test.YtbbkihekjdffpaaGreatDoorSrchFF
import Derived.Test.YtbbkihekjdffpaaGreatDoorVarsX
import Derived.LaidHandle
import Derived.Lay
import Derived.Lib.LaidIn
import Derived.Lib.LaidU8T
import Derived.MakeChecks
namespace Go.Proofs.YtbbkihekjdffpaaGreatDoor
open Go.Proofs.Tryz
open Go.RowKit Go.Lib
theorem gOps:prog.globalNamed "linear/models.operations"=some 0:=by kernel_rfl
theorem yOps:(prog.globals[0]?).map (·.type)=some 91:=by kernel_rfl
theorem cOp:prog.cellsOf 90=4:=by kernel_rfl
theorem cOps:prog.cellsOf 91=13*4:=by kernel_rfl
theorem cStr:prog.cellsOf 9=1:=by kernel_rfl
def zma (o:zqk):DataW Unit:=.agg [.lit (.string o.1),.lit (.string o.2.1),.lit (.int .u8 o.2.2.1),.lit (.int .u8 o.2.2.2)]
theorem zmm:(Rows.laid_linear_models_operations:DataW Unit)=.agg (opTab.map zma):=by kernel_rfl
theorem zNJ {α:Type}(l:List zqk)(f:zqk→List α):(List.range l.length).flatMap (fun i=>(l[i]?.map f).getD [])=l.flatMap f:=by
 induction l with
 |nil=>rfl
 |cons a t ih=>
   rw[List.length_cons,List.range_succ_eq_map,List.flatMap_cons,List.flatMap_map];simp only [List.getElem?_cons_zero,Option.map_some,Option.getD_some,List.getElem?_cons_succ,List.flatMap_cons];rw[ih]
theorem z7x {W:World}(h:VarReads prog W "linear/models.operations" Rows.laid_linear_models_operations):Ops W:=by
 obtain⟨g,t,cs,fuel,p,hg,hty,hvar,hd⟩:=h;obtain rfl:=Option.some.inj (gOps.symm.trans hg);obtain rfl:=Option.some.inj (yOps.symm.trans hty);rw[zmm]at hd;have:=zse underlying91 cOp cOps hd (fun i=>(opTab[i]?.map zq5).getD []) (by
  intro i d q m cs' hi hdi htr;rw[List.getElem?_map]at hdi;obtain⟨o,ho,rfl⟩:=Option.map_eq_some_iff.1 hdi;rw[ho];exact zXB underlying90 cOp rfl rfl rfl rfl (by kernel_rfl) (by kernel_rfl) (by kernel_rfl) (by kernel_rfl) (by kernel_rfl) (by kernel_rfl) (by kernel_rfl) (by kernel_rfl) htr)
 rw[show(13:Nat)=opTab.length from rfl,zNJ]at this;unfold Ops zeb;rw[hvar,←this]
theorem gMods:prog.globalNamed "linear/linearref.Models"=some 1:=by kernel_rfl
theorem yMods:(prog.globals[1]?).map (·.type)=some 117:=by kernel_rfl
theorem zEq:prog.cellsOf 117=5*1:=by kernel_rfl
theorem zN9:(Rows.laid_linear_linearref_Models:DataW Unit)=.agg (modTab.map fun l=>.lit (.string l)):=by kernel_rfl
theorem zh1 {W:World}(h:VarReads prog W "linear/linearref.Models" Rows.laid_linear_linearref_Models):Mods W:=by
 obtain⟨g,t,cs,fuel,p,hg,hty,hvar,hd⟩:=h;obtain rfl:=Option.some.inj (gMods.symm.trans hg);obtain rfl:=Option.some.inj (yMods.symm.trans hty);rw[zN9]at hd;have:=zse underlying117 cStr zEq hd (fun i=>(modTab[i]?.map fun l=>[Value.string ⟨l.toArray⟩]).getD []) (by
  intro i d q m cs' hi hdi htr;rw[List.getElem?_map]at hdi;obtain⟨o,ho,rfl⟩:=Option.map_eq_some_iff.1 hdi;rw[ho];exact zMq underlying9 htr)
 have e:(List.range 5).flatMap (fun i=>(modTab[i]?.map fun l=>[Value.string ⟨l.toArray⟩]).getD [])=modTab.map (fun l=>Value.string ⟨l.toArray⟩):=by kernel_rfl
 unfold Mods z9C;rw[hvar,←e,←this]
theorem znJ {W:World} {n:String} {g:Nat} {s:List UInt8} (hn:prog.globalNamed n=some g) (hy:(prog.globals[g]?).map (·.type)=some 198)
 (h:VarReads prog W n (.iface "*errors.errorString" (.ptr (.agg [.lit (.string s)])))):∃tp p,W.var? prog n=some #[.iface tp p]:=by
 obtain⟨g',t,cs,fuel,p,hg,hty,hvar,hd⟩:=h;obtain rfl:=Option.some.inj (hn.symm.trans hg);obtain rfl:=Option.some.inj (hy.symm.trans hty);obtain⟨_,u,v,hcs,_,_⟩:=iface_of_trod underlying198 hd;exact⟨u,v,by rw[hvar,Array.eq_one_of_toList hcs]⟩
theorem zqM:(((begin prog (fun _ _=>0) default).world.heap[10-1]?).bind Obj.row?).isSome=true:=by kernel_rfl
theorem zzj {W:World}(h:W.ShapedOpen prog):10≤W.heap.size:=by
 obtain⟨⟨z,t⟩,hz⟩:=Option.isSome_iff_exists.1 zqM;obtain⟨cs,hh,_⟩:=h.1 (10-1) z t (of_decide_eq_true (by kernel_rfl)) hz;have:=(Array.getElem?_eq_some_iff.1 hh).1;omega
theorem zvp:Go.Pinned.utf8First=firstData:=by kernel_rfl
theorem zuH:(Rows.laid_unicode_utf8_acceptRanges:DataW Unit)=acceptData:=by kernel_rfl
theorem zTD {W:World} (hs:W.ShapedOpen prog) (h1:VarReads prog W "linear/models.operations" Rows.laid_linear_models_operations) (h2:VarReads prog W "strconv.ErrSyntax" Rows.laid_strconv_ErrSyntax) (h3:VarReads prog W "strconv.ErrRange" Rows.laid_strconv_ErrRange)
 (h4:VarReads prog W "unicode/utf8.first" Rows.laid_unicode_utf8_first) (h5:VarReads prog W "unicode/utf8.acceptRanges" Rows.laid_unicode_utf8_acceptRanges):Glob W:=by
 refine⟨z7x h1,⟨znJ (g:=8) (by kernel_rfl) (by kernel_rfl) h2,znJ (g:=9) (by kernel_rfl) (by kernel_rfl) h3,zzj hs⟩,?_,?_⟩
 ·rw[show Rows.laid_unicode_utf8_first=firstData from zvp]at h4;rw[zuH]at h5;exact utf8Tabs_of_readsT (U8Types.of196 Tryz.laysValid) ⟨by kernel_rfl,by kernel_rfl,by kernel_rfl,by kernel_rfl,by kernel_rfl,by kernel_rfl,by kernel_rfl⟩ h4 h5
 ·exact Go.Proofs.cell_of_shapedOpen_int (zero:=#[.int .i64 0]) (t:=3) hs (of_decide_eq_true (by kernel_rfl)) (by kernel_rfl) rfl (by kernel_rfl) (by kernel_rfl) underlying3
theorem z4q:(Rows.laid_internal_strconv_uint64pow10:DataW Unit)=tabData .u64 pow10Tab:=by kernel_rfl
theorem zSO {W:World}(h:VarReads prog W "internal/strconv.uint64pow10" Rows.laid_internal_strconv_uint64pow10):srch.Pow W:=by
 obtain⟨g,t,cs,fuel,p,hg,hty,hvar,hd⟩:=h;obtain rfl:=Option.some.inj ((show prog.globalNamed "internal/strconv.uint64pow10"=some 2 by kernel_rfl).symm.trans hg);obtain rfl:=Option.some.inj ((show(prog.globals[2]?).map (·.type)=some 256 by kernel_rfl).symm.trans hty);rw[z4q]at hd;show W.var? prog "internal/strconv.uint64pow10"=_;rw[hvar,←cells_of_tab underlying256 underlying152 (by kernel_rfl) (by kernel_rfl) hd]
end Go.Proofs.YtbbkihekjdffpaaGreatDoor
