/- Several texts in one. -/
import Derived.Test.YtlkidmafomjhgaaGreatDoorRows
import Derived.Test.YtlkidmafomjhgaaGreatDoorSrchLL
import Derived.ChangeArms
import Derived.LaidHandle
import Derived.LaidLaws
import Derived.Lay
import Derived.Lib.LaidIn
import Derived.Lib.LaidU8T
import Derived.MakeChecks
import Derived.OpenShut
namespace Go.Proofs.YtlkidmafomjhgaaGreatDoor
open Go.RowKit

theorem zAE {α:Type} (k:Nat):∀ (n:Nat) (cs:List α) (f:Nat→List α),cs.length=n*k→(∀ i,i < n→(cs.drop (i*k)).take k=f i)→cs=(List.range n).flatMap f:=by
 intro n
 induction n with
 | zero=>intro cs f h _;simp at h;simp [h]
 | succ n ih=>
   intro cs f h hf
   have hl:(cs.take (n*k)).length=n*k:=by rw [List.length_take,h,Nat.succ_mul];omega
   have h1:=ih (cs.take (n*k)) f hl (by
    intro i hi
    rw [←hf i (by omega),List.drop_take,List.take_take]
    congr 1
    have:(i+1)*k≤n*k:=Nat.mul_le_mul_right k hi
    rw [Nat.succ_mul] at this
    omega)
   have h2:cs.drop (n*k)=f n:=by
    rw [←hf n (by omega),List.take_of_length_le]
    rw [List.length_drop,h,Nat.succ_mul];omega
   rw [List.range_succ,List.flatMap_append,←h1]
   simp only [List.flatMap_cons,List.flatMap_nil,List.append_nil]
   rw [←h2,List.take_append_drop]

section
variable {H:Type} {enc:TypeId×Value→H} {P:Program} {w:World} {base:Nat} {sp:Nat→Bool} {held:Bool}
theorem zse {fuel:Nat} {t e:TypeId} {n k:Nat} {cs:List Value} {ds:List (DataW H)} {p:List MemPlace} (ht:P.underlying t=some (.array n e)) (hk:P.cellsOf e=k) (hc:P.cellsOf t=n*k)
 (h:DataW.trod enc P w base sp held fuel t cs=some (.agg ds,p)) (f:Nat→List Value)
 (hf:∀ i d q m cs',i < n→ds[i]?=some d→DataW.trod enc P w base sp held m e cs'=some (d,q)→cs'=f i):cs=(List.range n).flatMap f:=by
 obtain ⟨xs,m,_,hx,hl,hn,hel⟩:=DataW.trod_array ht h
 refine zAE k n cs f (by rw [hl,hc]) ?_
 intro i hi
 have:=hel i hi
 rw [hk] at this
 have hxi:xs[i]?=some xs[i]:=List.getElem?_eq_getElem (by omega)
 rw [hxi] at this
 simp only [Prod.mk.injEq,DataW.agg.injEq] at hx
 refine hf i (xs[i]'(by omega)).1 (xs[i]'(by omega)).2 m _ hi ?_ this
 rw [hx.1,List.getElem?_map,hxi];rfl
theorem zMq {fuel:Nat} {t:TypeId} {cs:List Value} {l:List UInt8} {p:List MemPlace} (ht:P.underlying t=some .string) (h:DataW.trod enc P w base sp held fuel t cs=some (.lit (.string l),p)):cs=[.string ⟨l.toArray⟩]:=by
 obtain ⟨s,h1,h2,_⟩:=DataW.trod_string ht h
 simp only [Prod.mk.injEq,DataW.lit.injEq,Lit.string.injEq] at h2
 rw [h1,h2.1]
theorem zhp {fuel:Nat} {t:TypeId} {k:IntKind} {cs:List Value} {z:Int} {p:List MemPlace} (ht:P.underlying t=some (.int k)) (h:DataW.trod enc P w base sp held fuel t cs=some (.lit (.int k z),p)):cs=[.int k z]:=by
 obtain ⟨n,h1,h2,_⟩:=DataW.trod_int ht h
 simp only [Prod.mk.injEq,DataW.lit.injEq,Lit.int.injEq] at h2
 rw [h1,h2.1.2]
theorem zuA {α:Type} {cs:List α} (hl:cs.length=4) {a b c d:α} (h0:(cs.drop 0).take 1=[a]) (h1:(cs.drop 1).take 1=[b]) (h2:(cs.drop 2).take 1=[c]) (h3:(cs.drop 3).take 1=[d]):cs=[a,b,c,d]:=by
 match cs,hl with
 | [x,y,z,u],_=>simp at h0 h1 h2 h3;simp [h0,h1,h2,h3]
theorem zXB {fuel:Nat} {t:TypeId} {f0 f1 f2 f3:Field} {cs:List Value} {a b:List UInt8} {x y:Int} {p:List MemPlace} (ht:P.underlying t=some (.struct #[f0,f1,f2,f3])) (hc:P.cellsOf t=4)
 (o0:f0.offset=0) (o1:f1.offset=1) (o2:f2.offset=2) (o3:f3.offset=3) (c0:P.cellsOf f0.type=1) (c1:P.cellsOf f1.type=1) (c2:P.cellsOf f2.type=1) (c3:P.cellsOf f3.type=1)
 (t0:P.underlying f0.type=some .string) (t1:P.underlying f1.type=some .string) (t2:P.underlying f2.type=some (.int .u8)) (t3:P.underlying f3.type=some (.int .u8))
 (h:DataW.trod enc P w base sp held fuel t cs=some (.agg [.lit (.string a),.lit (.string b),.lit (.int .u8 x),.lit (.int .u8 y)],p)):cs=[.string ⟨a.toArray⟩,.string ⟨b.toArray⟩,.int .u8 x,.int .u8 y]:=by
 obtain ⟨xs,m,_,hx,hl,hn,hel⟩:=DataW.trod_struct ht h
 have e0:=hel 0 f0 rfl
 have e1:=hel 1 f1 rfl
 have e2:=hel 2 f2 rfl
 have e3:=hel 3 f3 rfl
 rw [o0,c0] at e0
 rw [o1,c1] at e1
 rw [o2,c2] at e2
 rw [o3,c3] at e3
 match xs,hn,hx,e0,e1,e2,e3 with
 | [(x0,q0),(x1,q1),(x2,q2),(x3,q3)],_,hx,e0,e1,e2,e3=>
   simp only [List.map_cons,List.map_nil,Prod.mk.injEq,DataW.agg.injEq,List.cons.injEq,and_true] at hx
   obtain ⟨⟨rfl,rfl,rfl,rfl⟩,_⟩:=hx
   exact zuA (by rw [hl,hc]) (zMq t0 e0) (zMq t1 e1) (zhp t2 e2) (zhp t3 e3)
end
end Go.Proofs.YtlkidmafomjhgaaGreatDoor
namespace Go.Proofs.YtlkidmafomjhgaaGreatDoor
open Go.RowKit Go.Lib

theorem gOps:Tryz.prog.globalNamed "linear/models.operations"=some 0:=by kernel_rfl
theorem yOps:(Tryz.prog.globals[0]?).map (·.type)=some 104:=by kernel_rfl
theorem cOp:Tryz.prog.cellsOf 103=4:=by kernel_rfl
theorem cOps:Tryz.prog.cellsOf 104=13*4:=by kernel_rfl
def zma (o:zqk):DataW Unit:=.agg [.lit (.string o.1),.lit (.string o.2.1),.lit (.int .u8 o.2.2.1),.lit (.int .u8 o.2.2.2)]
theorem zmm:(Rows.laid_linear_models_operations:DataW Unit)=.agg (opTab.map zma):=by kernel_rfl
theorem zNJ {α:Type} (l:List zqk) (f:zqk→List α):(List.range l.length).flatMap (fun i=>(l[i]?.map f).getD [])=l.flatMap f:=by
 induction l with
 | nil=>rfl
 | cons a t ih=>
   rw [List.length_cons,List.range_succ_eq_map,List.flatMap_cons,List.flatMap_map]
   simp only [List.getElem?_cons_zero,Option.map_some,Option.getD_some,List.getElem?_cons_succ,List.flatMap_cons]
   rw [ih]
theorem z7x {W:World} (h:VarReads Tryz.prog W "linear/models.operations" Rows.laid_linear_models_operations):Ops W:=by
 obtain ⟨g,t,cs,fuel,p,hg,hty,hvar,hd⟩:=h
 obtain rfl:=Option.some.inj (gOps.symm.trans hg)
 obtain rfl:=Option.some.inj (yOps.symm.trans hty)
 rw [zmm] at hd
 have:=zse Tryz.underlying104 cOp cOps hd (fun i=>(opTab[i]?.map zq5).getD []) (by
  intro i d q m cs' hi hdi htr
  rw [List.getElem?_map] at hdi
  obtain ⟨o,ho,rfl⟩:=Option.map_eq_some_iff.1 hdi
  rw [ho]
  exact zXB Tryz.underlying103 cOp rfl rfl rfl rfl (by kernel_rfl) (by kernel_rfl) (by kernel_rfl) (by kernel_rfl) (by kernel_rfl) (by kernel_rfl) (by kernel_rfl) (by kernel_rfl) htr)
 rw [show (13:Nat)=opTab.length from rfl,zNJ] at this
 unfold Ops zeb
 rw [hvar,←this]

theorem znJ {W:World} {n:String} {g:Nat} {s:List UInt8} (hn:Tryz.prog.globalNamed n=some g) (hy:(Tryz.prog.globals[g]?).map (·.type)=some 187)
 (h:VarReads Tryz.prog W n (.iface "*errors.errorString" (.ptr (.agg [.lit (.string s)])))):∃ tp p,W.var? Tryz.prog n=some #[.iface tp p]:=by
 obtain ⟨g',t,cs,fuel,p,hg,hty,hvar,hd⟩:=h
 obtain rfl:=Option.some.inj (hn.symm.trans hg)
 obtain rfl:=Option.some.inj (hy.symm.trans hty)
 obtain ⟨_,u,v,hcs,_,_⟩:=iface_of_trod Tryz.underlying187 hd
 exact ⟨u,v,by rw [hvar,Array.eq_one_of_toList hcs]⟩

theorem zqM:(((begin Tryz.prog (fun _ _=>0) default).world.heap[9 - 1]?).bind Obj.row?).isSome=true:=by kernel_rfl
theorem zzj {W:World} (h:W.ShapedOpen Tryz.prog):9≤W.heap.size:=by
 obtain ⟨⟨z,t⟩,hz⟩:=Option.isSome_iff_exists.1 zqM
 obtain ⟨cs,hh,_⟩:=h.1 (9 - 1) z t (of_decide_eq_true (by kernel_rfl)) hz
 have:=(Array.getElem?_eq_some_iff.1 hh).1
 omega
theorem zvp:Go.Pinned.utf8First=firstData:=by kernel_rfl
theorem zuH:(Rows.laid_unicode_utf8_acceptRanges:DataW Unit)=acceptData:=by kernel_rfl

theorem zTD {W:World} (hs:W.ShapedOpen Tryz.prog) (h1:VarReads Tryz.prog W "linear/models.operations" Rows.laid_linear_models_operations) (h2:VarReads Tryz.prog W "strconv.ErrSyntax" Rows.laid_strconv_ErrSyntax) (h3:VarReads Tryz.prog W "strconv.ErrRange" Rows.laid_strconv_ErrRange)
 (h4:VarReads Tryz.prog W "unicode/utf8.first" Rows.laid_unicode_utf8_first) (h5:VarReads Tryz.prog W "unicode/utf8.acceptRanges" Rows.laid_unicode_utf8_acceptRanges):Glob W:=by
 refine ⟨z7x h1,⟨znJ (g:=7) (by kernel_rfl) (by kernel_rfl) h2,znJ (g:=8) (by kernel_rfl) (by kernel_rfl) h3,zzj hs⟩,?_,?_⟩
 · rw [show Rows.laid_unicode_utf8_first=firstData from zvp] at h4
   rw [zuH] at h5
   exact utf8Tabs_of_readsT (U8Types.of196 Tryz.laysValid) ⟨by kernel_rfl,by kernel_rfl,by kernel_rfl,by kernel_rfl,by kernel_rfl,by kernel_rfl,by kernel_rfl⟩ h4 h5
 · exact Go.Proofs.cell_of_shapedOpen_int (zero:=#[.int .i64 0]) (t:=3) hs (of_decide_eq_true (by kernel_rfl)) (by kernel_rfl) rfl (by kernel_rfl) (by kernel_rfl) Tryz.underlying3
theorem z4q:(Rows.laid_internal_strconv_uint64pow10:DataW Unit)=tabData .u64 pow10Tab:=by kernel_rfl
theorem zRO {W:World} (h:VarReads Tryz.prog W "internal/strconv.uint64pow10" Rows.laid_internal_strconv_uint64pow10):srch.Pow W:=by
 obtain ⟨g,t,cs,fuel,p,hg,hty,hvar,hd⟩:=h
 obtain rfl:=Option.some.inj ((show Tryz.prog.globalNamed "internal/strconv.uint64pow10"=some 1 by kernel_rfl).symm.trans hg)
 obtain rfl:=Option.some.inj ((show (Tryz.prog.globals[1]?).map (·.type)=some 228 by kernel_rfl).symm.trans hty)
 rw [z4q] at hd
 show W.var? Tryz.prog "internal/strconv.uint64pow10"=_
 rw [hvar,←cells_of_tab Tryz.underlying228 Tryz.underlying142 (by kernel_rfl) (by kernel_rfl) hd]
end Go.Proofs.YtlkidmafomjhgaaGreatDoor
