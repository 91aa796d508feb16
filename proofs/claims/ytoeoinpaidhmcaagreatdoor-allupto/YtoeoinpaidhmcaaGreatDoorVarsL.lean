/- Several texts in one. -/
import Derived.Test.YtoeoinpaidhmcaaGreatDoorRefHL
import Derived.Test.YtoeoinpaidhmcaaGreatDoorRows
import Derived.Test.YtoeoinpaidhmcaaGreatDoorSrchFF
import Derived.Test.YtoeoinpaidhmcaaGreatDoorVarsX
import Derived.LaidHandle
import Derived.Lay
import Derived.Lib.LaidIn
import Derived.Lib.LaidU8T
import Derived.MakeChecks
namespace Go.Proofs.YtoeoinpaidhmcaaGreatDoor
open Go.Proofs.Tryz
open Go.RowKit Go.Lib
theorem gOps:prog.globalNamed "linear/models.operations"=some 0:=by kernel_rfl
theorem yOps:(prog.globals[0]?).map (·.type)=some 61:=by kernel_rfl
theorem cOp:prog.cellsOf 60=4:=by kernel_rfl
theorem cOps:prog.cellsOf 61=13*4:=by kernel_rfl
theorem cStr:prog.cellsOf 9=1:=by kernel_rfl
def zma (o:zqk):DataW Unit:=.agg [.lit (.string o.1),.lit (.string o.2.1),.lit (.int .u8 o.2.2.1),.lit (.int .u8 o.2.2.2)]
theorem zmm:(Rows.laid_linear_models_operations:DataW Unit)=.agg (opTab.map zma):=by kernel_rfl
theorem zNJ {α:Type}(l:List zqk)(f:zqk→List α):(List.range l.length).flatMap (fun i=>(l[i]?.map f).getD [])=l.flatMap f:=by
 induction l with
 |nil=>rfl
 |cons a t ih=>
   rw[List.length_cons,List.range_succ_eq_map,List.flatMap_cons,List.flatMap_map];simp only [List.getElem?_cons_zero,Option.map_some,Option.getD_some,List.getElem?_cons_succ,List.flatMap_cons];rw[ih]
theorem z7x {W:World}(h:VarReads prog W "linear/models.operations" Rows.laid_linear_models_operations):Ops W:=by
 obtain⟨g,t,cs,n,p,l,e,b,k⟩:=h;obtain rfl:=Option.some.inj (gOps.symm.trans l);obtain rfl:=Option.some.inj (yOps.symm.trans e);rw[zmm]at k;have:=zse underlying61 cOp cOps k (fun i=>(opTab[i]?.map zq5).getD []) (by
  intro i d q m s u a j;rw[List.getElem?_map]at a;obtain⟨o,r,rfl⟩:=Option.map_eq_some_iff.1 a;rw[r];exact zXB underlying60 cOp rfl rfl rfl rfl (by kernel_rfl) (by kernel_rfl) (by kernel_rfl) (by kernel_rfl) (by kernel_rfl) (by kernel_rfl) (by kernel_rfl) (by kernel_rfl) j)
 rw[show(13:Nat)=opTab.length from rfl,zNJ]at this;unfold Ops zeb;rw[b,←this]
theorem gMods:prog.globalNamed "linear/linearref.Models"=some 1:=by kernel_rfl
theorem yMods:(prog.globals[1]?).map (·.type)=some 68:=by kernel_rfl
theorem zEq:prog.cellsOf 68=5*1:=by kernel_rfl
theorem zN9:(Rows.laid_linear_linearref_Models:DataW Unit)=.agg (modTab.map fun l=>.lit (.string l)):=by kernel_rfl
theorem zh1 {W:World}(h:VarReads prog W "linear/linearref.Models" Rows.laid_linear_linearref_Models):Mods W:=by
 obtain⟨g,t,cs,s,p,r,j,b,n⟩:=h;obtain rfl:=Option.some.inj (gMods.symm.trans r);obtain rfl:=Option.some.inj (yMods.symm.trans j);rw[zN9]at n;have:=zse underlying68 cStr zEq n (fun i=>(modTab[i]?.map fun l=>[Value.string ⟨l.toArray⟩]).getD []) (by
  intro i d q m v w a k;rw[List.getElem?_map]at a;obtain⟨o,u,rfl⟩:=Option.map_eq_some_iff.1 a;rw[u];exact zMq underlying9 k)
 have e:(List.range 5).flatMap (fun i=>(modTab[i]?.map fun l=>[Value.string ⟨l.toArray⟩]).getD [])=modTab.map (fun l=>Value.string ⟨l.toArray⟩):=by kernel_rfl
 unfold Mods z9C;rw[b,←e,←this]
theorem znJ {W:World} {n:String} {g:Nat} {s:List UInt8} (j:prog.globalNamed n=some g) (k:(prog.globals[g]?).map (·.type)=some 276)
 (h:VarReads prog W n (.iface "*errors.errorString" (.ptr (.agg [.lit (.string s)])))):∃tp p,W.var? prog n=some #[.iface tp p]:=by
 obtain⟨m,t,cs,i,p,e,b,a,l⟩:=h;obtain rfl:=Option.some.inj (j.symm.trans e);obtain rfl:=Option.some.inj (k.symm.trans b);obtain⟨_,u,v,d,_,_⟩:=iface_of_trod underlying276 l;exact⟨u,v,by rw[a,Array.eq_one_of_toList d]⟩
theorem zrMj:(((begin prog (fun _ _=>0) default).world.heap[10-1]?).bind Obj.row?).isSome=true:=by kernel_rfl
theorem zzj {W:World}(h:W.ShapedOpen prog):10≤W.heap.size:=by
 obtain⟨⟨z,t⟩,a⟩:=Option.isSome_iff_exists.1 zrMj;obtain⟨cs,b,_⟩:=h.1 (10-1) z t (of_decide_eq_true (by kernel_rfl)) a;have:=(Array.getElem?_eq_some_iff.1 b).1;omega
theorem zvp:Go.Pinned.utf8First=firstData:=by kernel_rfl
theorem zuH:(Rows.laid_unicode_utf8_acceptRanges:DataW Unit)=acceptData:=by kernel_rfl
theorem zTD {W:World} (b:W.ShapedOpen prog) (e:VarReads prog W "linear/models.operations" Rows.laid_linear_models_operations) (i:VarReads prog W "strconv.ErrSyntax" Rows.laid_strconv_ErrSyntax) (h:VarReads prog W "strconv.ErrRange" Rows.laid_strconv_ErrRange)
 (d:VarReads prog W "unicode/utf8.first" Rows.laid_unicode_utf8_first) (a:VarReads prog W "unicode/utf8.acceptRanges" Rows.laid_unicode_utf8_acceptRanges):Glob W:=by
 refine⟨z7x e,⟨znJ (g:=8) (by kernel_rfl) (by kernel_rfl) i,znJ (g:=9) (by kernel_rfl) (by kernel_rfl) h,zzj b⟩,?_,?_⟩
 ·rw[show Rows.laid_unicode_utf8_first=firstData from zvp]at d;rw[zuH]at a;exact utf8Tabs_of_readsT (U8Types.of196 Tryz.laysValid) ⟨by kernel_rfl,by kernel_rfl,by kernel_rfl,by kernel_rfl,by kernel_rfl,by kernel_rfl,by kernel_rfl⟩ d a
 ·exact Go.Proofs.cell_of_shapedOpen_int (zero:=#[.int .i64 0]) (t:=3) b (of_decide_eq_true (by kernel_rfl)) (by kernel_rfl) rfl (by kernel_rfl) (by kernel_rfl) underlying3
theorem z4q:(Rows.laid_internal_strconv_uint64pow10:DataW Unit)=tabData .u64 pow10Tab:=by kernel_rfl
theorem zSO {W:World}(h:VarReads prog W "internal/strconv.uint64pow10" Rows.laid_internal_strconv_uint64pow10):srch.Pow W:=by
 obtain⟨g,t,cs,i,p,e,b,a,d⟩:=h;obtain rfl:=Option.some.inj ((show prog.globalNamed "internal/strconv.uint64pow10"=some 5 by kernel_rfl).symm.trans e);obtain rfl:=Option.some.inj ((show(prog.globals[5]?).map (·.type)=some 308 by kernel_rfl).symm.trans b);rw[z4q]at d;show W.var? prog "internal/strconv.uint64pow10"=_;rw[a,←cells_of_tab underlying308 underlying235 (by kernel_rfl) (by kernel_rfl) d]
end Go.Proofs.YtoeoinpaidhmcaaGreatDoor
