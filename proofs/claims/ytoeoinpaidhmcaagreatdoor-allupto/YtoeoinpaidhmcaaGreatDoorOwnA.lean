/- All: of every list of calls, one behind the other, each Read, Apply and Run answers what the reference answers or allows, and every list that came out stays as its owner wrote it, for all lists of calls of bulk at most 1048576. Conditions: the listed package-level variables hold what the program's text lays in them; the second form's bound. -/
import Derived.Test.YtoeoinpaidhmcaaGreatDoorAlK
import Derived.Test.YtoeoinpaidhmcaaGreatDoorCards
import Derived.Test.YtoeoinpaidhmcaaGreatDoorTie
import Derived.Test.YtoeoinpaidhmcaaGreatDoorVarsL
import Derived.Carry
import Derived.Deep.DeepHandedRow
import Derived.Deep.DeepWitnessRowRef
import Derived.Deep.Slices
import Derived.LaidMore
import Derived.ProofKit
set_option maxHeartbeats 1000000
set_option maxRecDepth 100000
namespace Go.Proofs.YtoeoinpaidhmcaaGreatDoor.alls
open Go.Proofs.Tryz
open Go.ChangeShapes Go.WideShapes Go.ChangeAt Go.RowKit Go.Lib Go.Proofs.YtoeoinpaidhmcaaGreatDoor.srch
open Go.ChangeMaps (open_string shut_string)
theorem own:ownKnob prog.godebug=none:=by kernel_rfl
theorem zpv:(Rows.allUptoRow.laid.all fun x=>x.2.handleName?.isNone)=true:=by kernel_rfl
theorem laidOut:laidOutB prog=true:=by kernel_rfl
instance scInh:Inhabited jd.ScO:=⟨⟨0,0,[],[],default⟩⟩
theorem zFu {H:Type}(d:DataW H):1≤Rows.uptoBulk d:=by
 cases d with
 |lit l=>cases l<;>simp[Rows.uptoBulk]
 |_=>simp[Rows.uptoBulk]
theorem zMG {H:Type}:∀(l:List (DataW H)) (d:DataW H),d∈l→Rows.uptoBulk d≤Rows.uptoBulkAll l
 | [],_,h=>by cases h
 |x::r,d,h=>by
   simp only [Rows.uptoBulkAll];rcases List.mem_cons.1 h with rfl|h
   ·omega
   ·have:=zMG r d h;omega
theorem znn {H:Type}:∀l:List (DataW H),l.length≤Rows.uptoBulkAll l
 | []=>by simp[Rows.uptoBulkAll]
 |x::r=>by
   have a:=znn r;have b:=zFu x;simp only [Rows.uptoBulkAll,List.length_cons];omega
section
variable {H:Type} {enc:TypeId×Value→H} {W:World} {base:Nat} {spare:Nat→Bool} {held:Bool}
/-- one operation, opened -/
theorem zyb {g:Nat}{cs:List Value}{x:DataW H×List MemPlace}(h:DataW.trod enc prog W base spare held g 27 cs=some x):∃o:OpV,cs=opvCells o∧o.name.length≤Rows.uptoBulk x.1∧jd.wf64 o.arg∧jd.wf64 o.exp∧jd.wf64 o.cl:=by
 obtain⟨N,k,rfl,rfl,z,I,a⟩:=DataW.trod_struct underlying27 h;have L:prog.cellsOf 27=10:=by kernel_rfl
 have G:prog.cellsOf 2=1:=by kernel_rfl
 have e9:prog.cellsOf 9=1:=by kernel_rfl
 have J:prog.cellsOf 3=1:=by kernel_rfl
 have u:prog.cellsOf 25=2:=by kernel_rfl
 rw[L]at z
 match N,I,cs,z with
 | [y0,y1,y2,y3,y4,y5,y6,y7,y8],_,[v0,v1,v2,v3,v4,v5,v6,v7,v8,v9],_=>
   have s:=a 0 _ rfl;have F:=a 1 _ rfl;have v:=a 2 _ rfl;have D:=a 3 _ rfl;have A:=a 4 _ rfl;have t:=a 5 _ rfl;have C:=a 6 _ rfl;have B:=a 7 _ rfl;have y:=a 8 _ rfl;simp[G,e9,J,u]at s F v D A t C B y;obtain⟨R,d,_,_⟩:=DataW.trod_int underlying2 s;obtain⟨X,i,_,w1⟩:=DataW.trod_int underlying2 F;obtain⟨P,q,x2,_⟩:=DataW.trod_string underlying9 v;obtain⟨Y,m,_,_⟩:=DataW.trod_string underlying9 D;obtain⟨z4,b,_,Q⟩:=DataW.trod_int underlying2 A;obtain⟨V,l,_,O⟩:=DataW.trod_int underlying2 t;obtain⟨z6,j,_,_⟩:=DataW.trod_int underlying3 C;obtain⟨Z,p,_,_⟩:=DataW.trod_int underlying3 B;obtain⟨S,k8,_,_,_,w,r⟩:=DataW.trod_struct underlying25 y
   match S,w with
   | [u0,u1],_=>
     have E:=r 0 _ rfl;have K:=r 1 _ rfl;simp[G,J]at E K;obtain⟨U,e,_,_⟩:=DataW.trod_int underlying3 E;obtain⟨M,n,_,_⟩:=DataW.trod_int underlying2 K;injection d with d;injection i with i;injection q with q;injection m with m;injection b with b;injection l with l;injection j with j;injection p with p;injection e with e;injection n with n;subst d i q m b l j p e n;refine⟨⟨R,X,P.data.toList,Y.data.toList,z4,V,z6,Z,U,M⟩,rfl,?_,bounds_i64 Q,bounds_i64 O,bounds_i64 w1⟩;rw[x2];simp only [List.map_cons,List.map_nil,Rows.uptoBulk,Rows.uptoBulkAll];omega
/-- one call, opened -/
theorem zSfj {d:Nat}{cs:List Value}{x:DataW H×List MemPlace}(h:DataW.trod enc prog W base spare held d 29 cs=some x):∃o:jd.ScO,cs=jd.scC o∧(Rows.uptoBulk x.1≤1048576→jd.ScOk o):=by
 obtain⟨w,k,rfl,rfl,n,u,a⟩:=DataW.trod_struct underlying29 h;have s:prog.cellsOf 29=14:=by kernel_rfl
 have v:prog.cellsOf 27=10:=by kernel_rfl
 have D:prog.cellsOf 9=1:=by kernel_rfl
 have J:prog.cellsOf 3=1:=by kernel_rfl
 rw[s]at n
 match w,u,cs,n with
 | [y0,y1,y2,y3,y4],_,[v0,v1,v2,v3,v4,v5,v6,v7,v8,v9,v10,v11,v12,v13],_=>
   have l:=a 0 _ rfl;have t:=a 1 _ rfl;have m:=a 2 _ rfl;have q:=a 3 _ rfl;have p:=a 4 _ rfl;simp[v,D,J]at l t m q p;obtain⟨y,b,_,_⟩:=DataW.trod_int underlying3 l;obtain⟨B,e,_,F⟩:=DataW.trod_int underlying3 t;obtain⟨j,i,E,_⟩:=DataW.trod_string underlying9 m;obtain⟨r,g,C,_⟩:=DataW.trod_string underlying9 q;obtain⟨o,A,K,z,I,G⟩:=zyb p;injection b with b;injection e with e;injection i with i;injection g with g;subst b e i g;refine⟨⟨y,B,j.data.toList,r.data.toList,o⟩,by show _=_++opvCells o;rw[←A];rfl,fun hb=>?_⟩;rw[E,C]at hb;simp only [List.map_cons,List.map_nil,Rows.uptoBulk,Rows.uptoBulkAll]at hb;exact⟨by show j.data.toList.length≤_;omega,by show r.data.toList.length≤_;omega,by show o.name.length≤_;omega,bounds_i64 F,z,I,G⟩
end
/-- the calls, as the walk wants them -/
theorem zTQ {H:Type}{enc:TypeId×Value→H}{W:World}{G:Nat}{v:Value}{d:DataW H}{p:List MemPlace}(L:Value.okWide prog W .any G 22 v)(h:DataW.Trod enc prog W 0 (fun _=>true) true 22 v d p)(M:Rows.uptoBulk d≤1048576):
 ∃code:List jd.ScO,(∃oa B,v=.slice oa code.length B∧(code≠[]→∃g l,oa=some ⟨g,l,none⟩∧g<W.heap.size∧∀j (h:j<code.length) c u,(jd.scC code[j])[c]?=some u→W.cell? ⟨g,l+j*14+c,none⟩=some u))∧code.length≤1100000∧∀x∈code,jd.ScOk x:=by
 have Q:prog.cellsOf 29=14:=by kernel_rfl
 obtain⟨a0,len,B,rfl⟩:=okWide_slice underlying22 L;obtain⟨S,hf⟩:=h;rcases Deep.open_slice underlying22 hf with ⟨q,y⟩|⟨a,X,Y,m,n,D,Pl,q,_,hl,hm,A,y,C⟩
 ·simp[Value.cells]at q;obtain⟨rfl,rfl,rfl⟩:=q;exact⟨[],⟨none,0,rfl,fun h=>absurd rfl h⟩,by simp,by simp⟩
 ·simp[Value.cells]at q;obtain⟨rfl,rfl,rfl⟩:=q;simp only [if_true]at A;subst A;rw[Q]at C;obtain⟨V,K⟩:=Deep.choose_lt (α:=jd.ScO) (p:=fun i o=>(∀c u,(jd.scC o)[c]?=some u→W.cell? ((a.add (i*14)).add c)=some u)∧(Rows.uptoBulk (D i)≤1048576→jd.ScOk o)) (n:=len) (fun i I=>by
   obtain⟨aa,U,R⟩:=C i (by omega);obtain⟨o,rfl,ho⟩:=zSfj R;obtain⟨_,k,t⟩:=World.cells?_some U;refine⟨o,fun c u hu=>?_,ho⟩;have hc:c<14:=(by rw[←k];exact(zB hu).1);exact(t c hc).trans hu)
  have Z:d=.slice ((List.range len).map D) ((List.range (m-len)).map fun j=>D (len+j)):=(Prod.mk.inj y).1;rw[Z]at M;simp only [Rows.uptoBulk]at M;have z:=znn ((List.range len).map D);rw[List.length_map,List.length_range]at z;have F:=zMG ((List.range len).map D);generalize hE:Rows.uptoBulkAll ((List.range len).map D)=E at M z F;have k:((List.range len).map V).length=len:=by simp
  refine⟨(List.range len).map V,⟨some a,m,by rw[k],fun hne=>?_⟩,by rw[k];omega,fun x y=>?_⟩
  ·have J:0<len:=by
    apply Nat.pos_of_ne_zero;rintro rfl;exact hne rfl
   obtain⟨b,l,N⟩:=a;have r:=(K 0 J).1 0 _ rfl;have w:N=none:=(by simpa [Addr.add]using World.cell?_spot r);subst w;have s:∀i c,((⟨b,l,none⟩:Addr).add i).add c=⟨b,l+i+c,none⟩:=fun i c=>(by rw[Go.WideShapes.add_plain,Go.WideShapes.add_plain]);rw[s]at r;refine⟨b,l,rfl,?_,fun j hj c u hu=>?_⟩
   ·apply Decidable.byContradiction;intro hn;have e:W.heap[b]?=Option.none:=Array.getElem?_eq_none (by omega);simp[World.cell?,e]at r
   ·rw[List.getElem_map,List.getElem_range]at hu;rw[k]at hj;have P:=(K j hj).1 c u hu;rw[s]at P;exact P
  ·obtain⟨i,I,rfl⟩:=List.mem_map.1 y;have O:i<len:=List.mem_range.1 I;exact(K i O).2 (by have:=F (D i) (List.mem_map.2 ⟨i,I,rfl⟩);omega)
theorem zPu (H:Type) (enc:TypeId×Value→H) (W:World) (o:Nat) (args:Array Value) (A B:List (DataW H)) (g:List MemPlace)
 (i:∀(j:Nat) t v,Tryz.f3.params[j]?=some t→args[j]?=some v→Value.okWide prog W .any o t v)
 (z:DataW.Whole enc prog Tryz.f3.params.toList Rows.allSpec.vars false W args.toList A B g) (a:laidMetH prog Rows.allUptoRow.laid W) (K:W.ShapedOpen prog) (Q:Rows.uptoSmall H (A++B)=true):
 Calls prog 3 args W fun e W'=>∃v,e=.returned v∧Rows.allSpec.post enc prog Tryz.f3 false true false false W args v W':=by
 have m:=z;have G:=z.lt;obtain⟨p,q,l,P,rfl,R,S⟩:=z;have D:DataW.TrodAll enc prog W 0 (fun _=>true) true Tryz.f3.params.toList args.toList A p:=l;rw[params3]at D i;obtain⟨k,V,d,U,r,X,I,rfl,rfl,F,M⟩:=trodAll_cons D;obtain⟨rfl,rfl,rfl⟩:=trodAll_nil M;obtain rfl:args=#[k]:=by cases args;simp_all
 obtain⟨rfl,rfl⟩:=trodVars_none P;have s:∀x∈r,x.block<W.heap.size:=fun x hx=>G x (by simp[hx]);have E:Rows.uptoBulk d≤1048576:=by
  have h:Rows.uptoBulkAll ([d]++[])≤1048576:=of_decide_eq_true Q;simp only [List.append_nil,Rows.uptoBulkAll]at h;omega
 obtain⟨n,u,w,C⟩:=zTQ (i 0 22 k rfl rfl) F E;clear l;simp only [List.append_nil]at m;rw[MakeChecks.laidMetH_plain _ _ _ zpv]at a;have J:Glob W:=zTD K (laidMet.reads a (by simp[Rows.allUptoRow])) (laidMet.reads a (by simp[Rows.allUptoRow])) (laidMet.reads a (by simp[Rows.allUptoRow])) (laidMet.reads a (by simp[Rows.allUptoRow])) (laidMet.reads a (by simp[Rows.allUptoRow]));have L:Pow W:=zSO (laidMet.reads a (by simp[Rows.allUptoRow]));have N:Mods W:=zh1 (laidMet.reads a (by simp[Rows.allUptoRow]));refine(jd.all_law k n W J L N u w C).mono fun e W' ⟨hb,he⟩=>?_;subst he;have y:Rows.allSpec.fn H ([d]++[])={ results:=[.lit (.bool true)],args:=[d] }:=rfl;refine⟨_,rfl,_,_,_,[],r,[],m,?_,?_,?_,hb.frame _,fun h=>by cases h⟩
 ·rw[y];exact trodAll_cons_mk (shut_bool underlying4 _) trodAll_mk0
 ·rw[y];have O:DataW.TrodAll enc prog W' 0 (fun b=>decide (b<W.heap.size)) true [22] [k] [d] (r++[]):=trodAll_cons_mk (Below.trod laidOut (by kernel_rfl) (of_decide_eq_true (by kernel_rfl)) F hb s) trodAll_mk0;simpa using O
 ·rw[y];rfl
/-- A world for the witness: the listed variables hold what is listed. -/
theorem z7w (a:Os)(args:Array Value):laidMetH prog Rows.allUptoRow.laid ((World.laidAll prog a Rows.allUptoRow.laid).forCall (fun _ _=>0) ⟨#[],args,[]⟩).memory:=by
 rw[MakeChecks.laidMetH_plain _ _ _ zpv];exact laidMet_laidAll _ (by kernel_rfl) (by kernel_rfl)
theorem ztM (a:Os){H:Type}(enc:TypeId×Value→H):∃places,DataW.whole enc prog ((World.laidAll prog a Rows.allUptoRow.laid).forCall (fun _ _=>0) ⟨#[],#[.slice none 0 0],[]⟩).memory Tryz.f3.params.toList Rows.allSpec.vars false #[Value.slice none 0 0].toList 8=some ([.nil],[],places):=
 ⟨[],by kernel_rfl⟩
theorem zQs (d:Os)(a:d.Started)(H:Type)(enc:TypeId×Value→H)(F:Stop.Interp):
 ReturnsInHanded {} Tryz.checked d 3 .any ((Rows.OpenSpec.upto Rows.allSpec).preRow enc prog Tryz.f3 Rows.allUptoRow.domain false Rows.allUptoRow.laid) (((Rows.OpenSpec.upto Rows.allSpec).at F).post enc prog Tryz.f3 false true false false):=by
 obtain⟨i,n⟩:=ztM d enc;refine returnsInHanded_of_row (C:=Tryz.checked) (s:=Rows.OpenSpec.upto Rows.allSpec) own a (by kernel_rfl) func3
  (witness_row_atRef (enc:=enc) (C:=Tryz.checked) false (World.laidAll prog d Rows.allUptoRow.laid) #[.slice none 0 0] (World.laidAll_os _ _ _) (by kernel_rfl) (by kernel_rfl) (by kernel_rfl)
   (OpenSpec.preRow_of_cond 8 n (by kernel_rfl) (fun k hk=>by cases hk;kernel_rfl) (by kernel_rfl) (z7w d _))) ?_
 intro W g args p m b h o _ e _ j l _;exact zPu H enc W g args p m b h o j l (e _ rfl)
theorem said:Rows.AllUptoSaid:=
 OpenClaim.holds_of_cond 3 Tryz.f3 rfl rfl rfl rfl rfl rfl rfl ⟨rfl,rfl,rfl,rfl,rfl⟩ rfl rfl rfl rfl rfl (by kernel_rfl) func3 (by kernel_rfl)
  (of_decide_eq_true (by kernel_rfl)) (by unfold Func.isWrapper;first|(rw[if_pos (by decide +kernel)];kernel_rfl)|(rw[if_neg (by decide +kernel)];exact⟨rfl,rfl⟩))
  (fun os started H enc _ F=>by rw[OpenClaim.pre_eq_preRow];exact zQs os started H enc F)
theorem zB4 (f:FuncId)(a:Func)(d:Tryz.pinned.checked.prog.funcNamed "linear/linearlaw.All"=some f)(b:Tryz.pinned.checked.prog.funcs[f]?=some a):
 true=Tryz.pinned.checked.prog.looks []∧∀(j:Nat) t,a.params[j]?=some t→Tryz.pinned.checked.prog.wantsStandIn t=false:=by
 obtain rfl:f=3:=Option.some.inj ((show prog.funcNamed "linear/linearlaw.All"=some 3 by kernel_rfl).symm.trans d) |>.symm;obtain rfl:a=Tryz.f3:=(Option.some.inj (func3.symm.trans b)).symm;refine⟨by kernel_rfl,fun j t ht=>?_⟩;rw[params3]at ht;obtain rfl:t=22:=by simpa using Array.mem_of_getElem? ht
 exact(show prog.wantsStandIn 22=false by kernel_rfl)
/-- THE CARD -/
theorem card:Rows.AllUptoCardSaid:=
 Claim7.holds_tied_plain_at .later [] _ _ _ _ said (fun _ h=>by cases h) (by kernel_rfl) (fun _ h=>by cases h) allUpto_row_tie rfl ⟨rfl,rfl⟩ (by kernel_rfl) rfl zB4 (by kernel_rfl)
end Go.Proofs.YtoeoinpaidhmcaaGreatDoor.alls
namespace Go.Proofs.YtoeoinpaidhmcaaGreatDoor
open Go.Proofs.Tryz
/-- ALL, the second form's card. -/
theorem all_holds:Rows.AllUptoCardSaid:=alls.card
end Go.Proofs.YtoeoinpaidhmcaaGreatDoor
