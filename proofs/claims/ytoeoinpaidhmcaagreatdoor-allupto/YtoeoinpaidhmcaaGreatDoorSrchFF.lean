/- Several texts in one. -/
import Derived.Test.YtoeoinpaidhmcaaGreatDoorSrchAA
import Derived.Laws.MakeOwn
import Derived.Lib.AppendIntMem
import Derived.Lib.ItoaLen
import Derived.Lib.SliceRun
import Derived.Lib.SmallJoins
import Derived.Maps.AppendAt
import Derived.OwnWalk
set_option maxHeartbeats 2000000
set_option maxRecDepth 100000
namespace Go.Proofs.YtoeoinpaidhmcaaGreatDoor.srch
open Tryz
open Go.RowKit
theorem zzC (x:Int)(w:World):
 Calls prog 164 #[.int .i64 x] w fun e w'=>e=.returned (.bool false)∧w'=w:=by
 go_enter func164,ntmps164;go_wp2;go_ret;exact⟨by simp,rfl⟩
def cmpI (x y:Int):Int:=if x<y then -1 else if y<x then 1 else 0
theorem zMb (x y:Int)(w:World):
 Calls prog 134 #[.int .i64 x,.int .i64 y] w fun e w'=>e=.returned (.int .i64 (cmpI x y))∧w'=w:=by
 have d:=fun W=>zzC x W;have b:=fun W=>zzC y W;obtain⟨R,hR⟩:∃R,Hid (cmpI x y=R):=⟨_,rfl⟩;rw[hR.out];unfold cmpI at hR;go_enter func134,ntmps134;go_wp2_with fail;refine(d _).mono ?_;rintro e h ⟨rfl,rfl⟩;go_wp2_with fail;refine(b _).mono ?_;rintro e g ⟨rfl,rfl⟩;clear d b;by_cases h1:x<y
 ·have a:Hid (R= -1):=by rw[←hR.out,if_pos h1];exact rfl
  clear hR;go_wp2;go_ret;exact⟨by rw[a.out];rfl,rfl⟩
 ·by_cases h2:y<x
  ·have a:Hid (R=1):=(by rw[←hR.out,if_neg h1,if_pos h2];exact rfl);clear hR;go_wp2;go_ret;exact⟨by rw[a.out];rfl,rfl⟩
  ·have a:Hid (R=0):=(by rw[←hR.out,if_neg h1,if_neg h2];exact rfl);clear hR;go_wp2;go_ret;exact⟨by rw[a.out];rfl,rfl⟩
theorem zan:(prog.info? 244).map (fun i=>(i.zero,i.size,i.bytes))=some (some (.agg #[.int .u64 0,.int .u64 0]),2,16):=by kernel_rfl
theorem zv7 (n:Nat)(i:n≤128)(w:World):(Instr.makeSlice 241 (.int .i64 (n:Int)) (.int .i64 (n:Int))).run prog w=.ok (.slice (some ⟨w.heap.size,0,none⟩) n n) (w.alloc (.cells (madeCells #[.int .u64 0,.int .u64 0] (n*2)) 244)):=by
 obtain⟨g,b,e,a,d⟩:=info_parts zan;have h:=run_makeSlice (P:=prog) w 241 244 g _ underlying241 b e .i64 .i64 (n:Int) (n:Int) (by omega) (Int.le_refl _) (by rw[a];omega) (by rw[d];omega) (by omega);rw[a,show(n:Int).toNat=n by omega]at h;exact h
structure GRow (c:Array Value)(f:Nat→Gr)(n:Nat):Prop where
 size:c.size=n*2
 at0:∀j,j<n→c[j*2]?=some (.int .u64 (f j).1)
 at1:∀j,j<n→c[j*2+1]?=some (.int .u64 (f j).2)
theorem GRow.init (n:Nat):GRow (madeCells #[.int .u64 0,.int .u64 0] (n*2)) (fun _=>(0,0)) n:=by
 refine⟨by simp[madeCells],fun j hj=>?_,fun j hj=>?_⟩
 ·have:j*2<n*2:=by omega
  simp[madeCells,this]
 ·have:j*2+1<n*2:=by omega
  have e:(j*2+1)%2=1:=by omega
  simp[madeCells,this,e]
theorem GRow.set {c:Array Value}{f:Nat→Gr}{n j:Nat}(h:GRow c f n)(l:j<n)(g:Gr)(a:Nat→Gr)(b:a j=g)(d:∀k,k≠j→a k=f k):
 GRow ((c.setIfInBounds (j*2) (.int .u64 g.1)).setIfInBounds (j*2+1) (.int .u64 g.2)) a n:=by
 have i:=h.size;refine⟨by simp[i],fun k hk=>?_,fun k hk=>?_⟩
 ·by_cases e:k=j
  ·subst e;rw[b];have:k*2<c.size:=(by omega);simp[this]
  ·rw[d k e,←h.at0 k hk];rw[Array.getElem?_setIfInBounds_ne (by omega),Array.getElem?_setIfInBounds_ne (by omega)]
 ·by_cases e:k=j
  ·subst e;rw[b];have:k*2+1<c.size:=(by omega);simp[this]
  ·rw[d k e,←h.at1 k hk];rw[Array.getElem?_setIfInBounds_ne (by omega),Array.getElem?_setIfInBounds_ne (by omega)]
theorem GRow.congr {c:Array Value}{f a:Nat→Gr}{n:Nat}(h:GRow c f n)(e:∀k,k<n→a k=f k):GRow c a n:=
 ⟨h.size,fun j hj=>by rw[e j hj];exact h.at0 j hj,fun j hj=>by rw[e j hj];exact h.at1 j hj⟩
def ahB (o:OpV)(call:Int):Bool:=!(o.ret==0)&&decide (o.ret<call)
def ahG (call:Int):List OpV→Nat→Gr→Gr
 | [],_,g=>g
 |o::r,p,g=>ahG call r (p+1) (if ahB o call then zdS g p else g)
theorem zUN (call:Int)(a:List OpV)(j:Nat)(h:j<a.length):ahG call (a.take (j+1)) 0 (0,0)=(if ahB a[j] call then zdS (ahG call (a.take j) 0 (0,0)) j else ahG call (a.take j) 0 (0,0)):=by
 have key:∀(l:List OpV) (p:Nat) (g:Gr) (o:OpV),ahG call (l++[o]) p g=(if ahB o call then zdS (ahG call l p g) (p+l.length)else ahG call l p g):=by
  intro l
  induction l with
  |nil=>intro p g o;simp[ahG]
  |cons x r ih=>intro p g o;show ahG call (r++[o]) (p+1) _=_;rw[ih];simp only [ahG,List.length_cons];rw[show p+1+r.length=p+(r.length+1) by omega]
 rw[List.take_succ_eq_append_getElem h,key,List.length_take,Nat.min_eq_left (by omega),Nat.zero_add]
def zre (ops:List OpV)(k:Nat):Int:=(ops[k]?.map (·.call)).getD 0
def ahF (ops:List OpV)(j m:Nat):Nat→Gr:=fun k=>if k<j then ahG (zre ops k) ops 0 (0,0)else if k=j then ahG (zre ops k) (ops.take m) 0 (0,0)else(0,0)
theorem z6t (a:List OpV)(j:Nat):ahF a j a.length=ahF a (j+1) 0:=by
 funext k;unfold ahF;by_cases h1:k<j
 ·rw[if_pos h1,if_pos (by omega)]
 ·rw[if_neg h1];by_cases h2:k=j
  ·rw[if_pos h2,if_pos (by omega),List.take_length]
  ·rw[if_neg h2,if_neg (by omega)];by_cases h3:k=j+1
   ·rw[if_pos h3];rfl
   ·rw[if_neg h3]
theorem z66 (a:List OpV):ahF a 0 0=fun _=>(0,0):=by
 funext k;unfold ahF;rw[if_neg (by omega)];by_cases h:k=0
 ·rw[if_pos h];rfl
 ·rw[if_neg h]
theorem zpi (a:List OpV)(j m:Nat):ahF a j m j=ahG (zre a j) (a.take m) 0 (0,0):=by unfold ahF;rw[if_neg (by omega),if_pos rfl]
theorem zPh (a:List OpV)(j m b k:Nat)(h:k≠j):ahF a j m k=ahF a j b k:=by unfold ahF;rw[if_neg h,if_neg h]
theorem zYL (oa:Option Addr)(ah:Nat)(a:List OpV)(w:World)(hr:OAt w oa a)(hl:a.length≤128):
 Calls prog 122 #[.slice oa a.length ah] w fun e w'=>e=.returned (.slice (some ⟨w.heap.size,0,none⟩) a.length a.length)∧(∃c,w'.heap[w.heap.size]?=some (.cells c 244 (0,0))∧GRow c (fun k=>ahG (zre a k) a 0 (0,0)) a.length)∧Below w.heap.size w w':=by
 have U:=fun o W=>znl o W;have I:=fun g p h W=>zxl g p h W;unfold opAg at U;unfold grAg at*;have af:=zv7 a.length hl;go_enter func122,ntmps122;go_wp2_with fail;go_loopw [13] (fun i wr=>∃(j:Nat) (c:Array Value),i=.int .i64 (j:Int)∧j≤a.length∧wr.heap[w.heap.size]?=some (.cells c 244 (0,0))∧GRow c (ahF a j 0) a.length∧Below w.heap.size w wr) (fun i _=>a.length-(intOf i).toNat)
 case atStart=>exact⟨0,_,rfl,by omega,ziF _ _ _ rfl,by rw[z66];exact GRow.init _,zA _ _⟩
 case round=>
  obtain⟨j,c,rfl,hj,hB,hG,d⟩:=hrel;clear af;by_cases hin:j<a.length
  ·have ad:(j:Int)<(a.length:Int):=(by omega);have Z:a≠[]:=(by intro h;rw[h]at hin;simp at hin);obtain⟨g,ae,hg,P⟩:=(hr.below d) Z;have b:∀c u,c<10→(opvCells a[j])[c]?=some u→wr.cell? ⟨g,j*10+c,none⟩=some u:=fun c u J hu=>P _ _ ((zvc a j hin c J).trans hu);subst ae;have z:zre a j=a[j].call:=(by unfold zre;rw[zC hin];rfl);generalize a[j]=o at*;have q0:wr.cell? ⟨g,j*10,none⟩=some (.int .i64 o.id):=b 0 _ (by omega) rfl;have q1:=b 1 _ (by omega) rfl;have q2:=b 2 _ (by omega) rfl;have q3:=b 3 _ (by omega) rfl;have q4:=b 4 _ (by omega) rfl;have q5:=b 5 _ (by omega) rfl;have q6:=b 6 _ (by omega) rfl;have q7:=b 7 _ (by omega) rfl;have q8:=b 8 _ (by omega) rfl;have q9:=b 9 _ (by omega) rfl;clear b P;have aj:=zBq hB;obtain⟨K,F⟩:∃K,wr.alloc (.cells #[.int .i64 o.id,.int .i64 o.cl,.string ⟨o.name.toArray⟩,.string ⟨o.key.toArray⟩,.int .i64 o.arg,.int .i64 o.exp,.int .i64 o.call,.int .i64 o.ret,.int .i64 o.vk,.int .i64 o.vn] 27)=K:=⟨_,rfl⟩;have H:Below wr.heap.size wr K:=(by rw[←F];exact zA _ _);have Y:=(H.block _ aj).trans hB;have S:K.heap[wr.heap.size]?=some (.cells #[.int .i64 o.id,.int .i64 o.cl,.string ⟨o.name.toArray⟩,.string ⟨o.key.toArray⟩,.int .i64 o.arg,.int .i64 o.exp,.int .i64 o.call,.int .i64 o.ret,.int .i64 o.vk,.int .i64 o.vn] 27 (0,0)):=(by rw[←F];exact ziF _ _ _ rfl);have B:K.cell? ⟨wr.heap.size,6,none⟩=some (.int .i64 o.call):=zBk S 6;have N:=d.trans (H.mono d.size);have v:=zBq S;go_wp2_with fail;clear F hB H S q0 q1 q2 q3 q4 q5 q6 q7 q8 q9 d hg;generalize wr.heap.size=ob at*;clear wr;go_loopw [20] (fun i wi=>∃(m:Nat) (c:Array Value),i=.int .i64 (m:Int)∧m≤a.length∧wi.heap[w.heap.size]?=some (.cells c 244 (0,0))∧GRow c (ahF a j m) a.length∧Below w.heap.size w wi∧wi.cell? ⟨ob,6,none⟩=some (.int .i64 o.call)∧ob<wi.heap.size) (fun i _=>a.length-(intOf i).toNat)
   case atStart=>exact⟨0,_,rfl,by omega,Y,hG,N,B,v⟩
   case round=>
    clear Y hG N B v;obtain⟨m,c,rfl,hm,hB,hG,d,B,v⟩:=hrel;by_cases hmn:m<a.length
    ·have ab:(m:Int)<(a.length:Int):=(by omega);obtain⟨g',X,ag,P⟩:=(hr.below d) Z;have b:∀c u,c<10→(opvCells a[m])[c]?=some u→wr.cell? ⟨g,m*10+c,none⟩=some u:=by
      intro c u J hu;injection X with hg'';injection hg'' with hg3;rw[hg3];exact P _ _ ((zvc a m hmn c J).trans hu)
     have E:=Hid.mk' (zUN o.call a m hmn);generalize a[m]=f at*;have q0:wr.cell? ⟨g,m*10,none⟩=some (.int .i64 f.id):=b 0 _ (by omega) rfl;have q1:=b 1 _ (by omega) rfl;have q2:=b 2 _ (by omega) rfl;have q3:=b 3 _ (by omega) rfl;have q4:=b 4 _ (by omega) rfl;have q5:=b 5 _ (by omega) rfl;have q6:=b 6 _ (by omega) rfl;have q7:=b 7 _ (by omega) rfl;have q8:=b 8 _ (by omega) rfl;have q9:=b 9 _ (by omega) rfl;have aa:=U f;have g0:wr.cell? ⟨w.heap.size,j*2,none⟩=some (.int .u64 (ahF a j m j).1):=(zBk hB (j*2)).trans (hG.at0 j hin);have g1:wr.cell? ⟨w.heap.size,j*2+1,none⟩=some (.int .u64 (ahF a j m j).2):=(zBk hB (j*2+1)).trans (hG.at1 j hin);have x:=zpi a j m;rw[z]at x;have A:=Hid.mk' x;have y:Hid (∀G',ahG o.call (a.take (m+1)) 0 (0,0)=G'→GRow ((c.setIfInBounds (j*2) (.int .u64 G'.1)).setIfInBounds (j*2+1) (.int .u64 G'.2)) (ahF a j (m+1)) a.length):=fun G' h=>hG.set hin G' _ (by rw[zpi,z];exact h) (fun k C=>zPh a j (m+1) m k C);have n:Hid (ahG o.call (a.take (m+1)) 0 (0,0)=ahG o.call (a.take m) 0 (0,0)→GRow c (ahF a j (m+1)) a.length):=fun h=>hG.congr (fun k C=>by
      by_cases e:k=j
      ·rw[e,zpi,zpi,z];exact h
      ·exact zPh a j (m+1) m k e)
     clear b P U X ag x hG;generalize ahF a j m j=G at*;have D:=zBq hB;go_wp2_with fail;refine(aa _).mono ?_;rintro e w2 ⟨rfl,M⟩;have l:Below wr.heap.size wr w2:=(zA _ _).trans (M.mono (by simp));have t:=(l.block _ D).trans hB;have s:=d.trans (l.mono d.size);have q:ob<w2.heap.size:=zI v l.size;have V:=(l.cell (p:=⟨ob,6,none⟩) v).trans B;have p7:w2.cell? ⟨wr.heap.size,7,none⟩=some (.int .i64 f.ret):=(M.cell (p:=⟨wr.heap.size,7,none⟩) (by simp)).trans (by simp);have r0:=(l.cell (p:=⟨w.heap.size,j*2,none⟩) D).trans g0;have r1:=(l.cell (p:=⟨w.heap.size,j*2+1,none⟩) D).trans g1;clear aa M l q0 q1 q2 q3 q4 q5 q6 q7 q8 q9 hB d g0 g1 B v;cases hp:(f.ret==0)with
     |true=>
       have Q:=Hid.mk' (n.out (by rw[E.out];unfold ahB;rw[hp];exact if_neg (by simp)));clear E hp n y;go_wp2_with fail;go_roundw
       case rel=>exact⟨m+1,_,by go_num,by omega,t,Q.out,s,V,q⟩
       case measure=>simp[intOf];omega
     |false=>
       by_cases hq:f.ret<o.call
       ·have Q:=Hid.mk' (y.out (zdS G m) (by rw[E.out,←A.out];unfold ahB;rw[hp];exact if_pos (by simp[hq])));have hW:=I G m (by omega);clear E hp n y I A;go_wp2_with fail;refine(hW _).mono ?_;rintro e w3 ⟨rfl,r⟩;have L:=(r.block _ (zBq t)).trans t;have O:=s.trans (r.mono s.size);have s0:=(r.cell (p:=⟨w.heap.size,j*2,none⟩) (zBq t)).trans r0;have s1:=(r.cell (p:=⟨w.heap.size,j*2+1,none⟩) (zBq t)).trans r1;have ai:=(r.cell (p:=⟨ob,6,none⟩) q).trans V;have f0:=zBn L (j*2);have f1:=zBn L (j*2+1);generalize zdS G m=G' at*;have C:=Hid.mk' (show Kept [w.heap.size] w3 ((w3.setCell ⟨w.heap.size,j*2,none⟩ (.int .u64 G'.1)).setCell ⟨w.heap.size,j*2+1,none⟩ (.int .u64 G'.2))from((Kept.refl _ _).setCell (p:=⟨w.heap.size,j*2,none⟩) (Or.inl (by simp)) _).setCell (p:=⟨w.heap.size,j*2+1,none⟩) (Or.inl (by simp)) _);have R:ob<w3.heap.size:=zI q r.size;clear hW r t s r0 r1 V p7 q;go_wp2_with fail;go_roundw
        case rel=>
         exact⟨m+1,_,by go_num,by omega,by rw[zFg (zFg L (j*2) _) (j*2+1) _],Q.out,O.trans (C.out.below O.size (by simp)),(C.out.cell (p:=⟨ob,6,none⟩) R (by simp;omega)).trans ai,zI R C.out.size⟩
        case measure=>simp[intOf];omega
       ·have Q:=Hid.mk' (n.out (by rw[E.out];unfold ahB;rw[hp];exact if_neg (by simp;omega)));clear E hp n y;go_wp2_with fail;go_roundw
        case rel=>exact⟨m+1,_,by go_num,by omega,t,Q.out,s,V,q⟩
        case measure=>simp[intOf];omega
    ·have ab:¬(m:Int)<(a.length:Int):=(by omega);obtain rfl:m=a.length:=(by omega);rw[z6t]at hG;go_wp2_with fail;go_roundw
     case rel=>exact⟨j+1,_,by go_num,by omega,hB,hG,d⟩
     case measure=>simp[intOf];omega
  ·have ad:¬(j:Int)<(a.length:Int):=(by omega);obtain rfl:j=a.length:=(by omega);have ak:GRow c (fun k=>ahG (zre a k) a 0 (0,0)) a.length:=hG.congr (fun k C=>by unfold ahF;rw[if_pos C]);clear hG U I;go_wp2;go_ret;exact⟨rfl,⟨_,hB,ak⟩,d⟩
structure Stp (σ:Type) where
 g:Gr
 st:σ
 pl:Nat
def takenL {σ:Type}(ops:List OpV)(l:List (Stp σ)):List OpV:=l.filterMap (fun s=>ops[s.pl]?)
theorem zZf {σ:Type}(a:List OpV)(l:List (Stp σ))(j:Nat)(h:j<l.length)(b:l[j].pl<a.length):opsRow (takenL a (l.take (j+1)))=opsRow (takenL a (l.take j))++opvCells a[l[j].pl]:=by
 have e:takenL a (l.take (j+1))=takenL a (l.take j)++[a[l[j].pl]]:=by
  unfold takenL;rw[List.take_succ_eq_append_getElem h,List.filterMap_append];congr 1;rw[List.filterMap_cons,zC b];rfl
 rw[e];unfold opsRow;rw[List.flatMap_append];simp
def WAt {σ:Type}(K:Nat)(sc:Stp σ→List Value)(w:World)(wa:Option Addr)(l:List (Stp σ)):Prop:=l≠[]→∃g,wa=some ⟨g,0,none⟩∧g<w.heap.size∧∀j (h:j<l.length) c u,c<K→(sc l[j])[c]?=some u→w.cell? ⟨g,j*K+c,none⟩=some u
theorem WAt.below {σ:Type}{K:Nat}{a:Stp σ→List Value}{w w':World}{d:Option Addr}{l:List (Stp σ)}(h:WAt K a w d l)(k:Below w.heap.size w w'):WAt K a w' d l:=by
 intro e;obtain⟨g,i,b,m⟩:=h e;exact⟨g,i,zI b k.size,fun j hj c u hc hu=>(k.cell (p:=⟨g,j*K+c,none⟩) b).trans (m j hj c u hc hu)⟩
theorem zOu {P:Program} {w:World} {b:Array Oper} {rest:List Oper} {o:Oper} {a:Act} {Q:Exit→Act→World→Prop} (e:o.guard=none) (s x:Operand) (t:TypeId)
 (l:o.op=.call { callee:=.builtin .append,args:=#[s,x],argTypes:=#[t,t] }) (v i g:Value) (w':World) (j:a.eval s=v) (k:a.eval x=i) (d:(Builtin.append_ #[t,t] o.type #[v,i]).run P w=.ok g w')
 (h:wpList P b Q rest (a.put o.dst g) w'):wpList P b Q (o::rest) a w:=by
 refine wpList_plain e fun K hK=>?_;unfold Oper.wp execOp;simp only [l,resolve,invoke,builtin,Sem.run_bind,Sem.run_pure,Result.andThen_ok,List.map_toArray,List.map_cons,List.map_nil,j,k,d];exact hK _ _ h
def ApR (ts tsl:TypeId)(K:Nat)(W:World)(base:Nat)(a:Option Addr)(n c:Nat)(xs cells:List Value):Prop:=
 ∃a' c' w',(Builtin.append_ #[tsl,tsl] tsl #[.slice a n c,.slice (some ⟨W.heap.size,0,none⟩) 1 1]).run prog (W.alloc (.cells cells.toArray ts))=.ok (.slice a' (n+1) c') w'∧w'.ownsRow base ts K (.slice a' (n+1) c') (n+1) (xs++cells)∧Kept (Value.slice a n c).ownBlock.toList W w'∧((Value.slice a' (n+1) c').ownBlock=(Value.slice a n c).ownBlock∨∃g,(Value.slice a' (n+1) c').ownBlock=some g∧W.heap.size≤g)
theorem zUq {j d:TypeId}{K y:Nat}{z:Value}(q:(prog.info? j).map (fun i=>(i.zero,i.size,i.bytes))=some (some z,K,y))(l:prog.underlying d=some (.slice j))(x:z.cells.size=K)(hK:0<K)(B:y≤100){cells:List Value}(F:cells.length=K)(v:cells.all Value.oneCell'=true){W:World}{b:Nat}{a:Option Addr}{n c:Nat}{k:List Value}(h:W.ownsRow b j K (.slice a n c) n k)(G:n≤100000000)(I:b≤W.heap.size):ApR j d K W b a n c k cells:=by
 obtain⟨A,m,o,r,p⟩:=info_parts q;have C:(n+1)*y≤140737488355328:=Nat.le_trans (Nat.mul_le_mul_left (n+1) B) (by omega);obtain⟨H,w,t,s,E,_,D⟩:=run_append_own_at (P:=prog) (W.alloc (.cells cells.toArray j)) b d d j A _ K y l m o r p x hK (.slice a n c) n k (h.alloc _) ⟨W.heap.size,0,none⟩ 1 1 cells (by rw[F,Nat.one_mul]) (z9R W _ _) (fun u l=>List.all_eq_true.1 v u l) (by unfold maxLen;omega) C (by simp;omega);obtain⟨a',c',rfl⟩:=zIW s;exact⟨a',c',w,t,s,((Kept.refl _ W).alloc _).grownS E (fun g' hg'=>by rw[hg'];simp),D.imp id (fun e=>⟨_,e,by simp⟩)⟩
theorem zpq (W:World)(b:Nat)(a:Option Addr)(n c:Nat)(d:List Value)(s:OpV)(h:W.ownsRow b 27 10 (.slice a n c) n d)(y:n≤3000000)(v:b≤W.heap.size):
 ∃a' c' w',(Builtin.append_ #[30,30] 30 #[.slice a n c,.slice (some ⟨W.heap.size,0,none⟩) 1 1]).run prog (W.alloc (.cells #[.int .i64 s.id,.int .i64 s.cl,.string ⟨s.name.toArray⟩,.string ⟨s.key.toArray⟩,.int .i64 s.arg,.int .i64 s.exp,.int .i64 s.call,.int .i64 s.ret,.int .i64 s.vk,.int .i64 s.vn] 27))=.ok (.slice a' (n+1) c') w'∧w'.ownsRow b 27 10 (.slice a' (n+1) c') (n+1) (d++opvCells s)∧Below b W w':=by
 obtain⟨t,e,l,p,m⟩:=info_parts zSl;obtain⟨z,o,q,j,r,_⟩:=run_append_own (P:=prog) (W.alloc (.cells (opvCells s).toArray 27)) b 30 30 27 t _ 10 96 underlying30 e l p m rfl (by decide) (.slice a n c) n d (h.alloc _) ⟨W.heap.size,0,none⟩ 1 1 (opvCells s) rfl (z9R W _ _) (by intro u k;simp[opvCells]at k;rcases k with rfl|rfl|rfl|rfl|rfl|rfl|rfl|rfl|rfl|rfl<;>rfl) (by unfold maxLen;omega) (by omega) (by simp;omega);obtain⟨a',c',rfl⟩:=zIW j;have i:∀g,(Value.slice a n c).ownBlock=some g→b≤g:=zYv h;have x:Kept (Value.slice a n c).ownBlock.toList W o:=((Kept.refl _ W).alloc _).grownS r (fun g' hg'=>by rw[hg'];simp);exact⟨a',c',o,q,j,x.below v (fun g hg=>i g (by simpa using hg))⟩
def scI (s:Stp (Int)):List Value:=[.int .u64 s.g.1,.int .u64 s.g.2]++[.int .i64 s.st]++[.int .i64 (s.pl:Int)]
def scS (s:Stp (List UInt8)):List Value:=[.int .u64 s.g.1,.int .u64 s.g.2]++[.string ⟨s.st.toArray⟩]++[.int .i64 (s.pl:Int)]
def scB (s:Stp (Bool)):List Value:=[.int .u64 s.g.1,.int .u64 s.g.2]++[.bool s.st]++[.int .i64 (s.pl:Int)]
def zNx {σ:Type}(sc:Stp σ→List Value)(f:FuncId):Prop:=∀(oa wa:Option Addr) (cap wc:Nat) (ops:List OpV) (l:List (Stp σ)) (w:World),OAt w oa ops→WAt 4 sc w wa l→l.length≤2000000→(∀s∈l,s.pl<ops.length)→
    Calls prog f #[.slice oa ops.length cap,.slice wa l.length wc] w fun e w'=>∃a c,e=.returned (.slice a l.length c)∧w'.ownsRow w.heap.size 27 10 (.slice a l.length c) l.length (opsRow (takenL ops l))∧Below w.heap.size w w'
theorem taken_three:zNx scI 125∧zNx scS 142∧zNx scB 143:=by
 refine⟨?_,?_,?_⟩
 all_goals
  intro oa wa aa wc k l w W hw hl Y;obtain⟨i0,B,F,J,H⟩:=info_parts zSl;obtain⟨X,R,K,D⟩:=run_make_own (P:=prog) w w.heap.size 30 27 i0 _ 10 underlying30 B F J .i64 .i64 l.length (by rw[H];omega) (by unfold maxLen;omega) zH;have G:Below w.heap.size w X:=(((Kept.refl [] w).grownS D (fun g' hg'=>by simp at hg')).below zH (by simp));clear B F J H D
  first|go_enter func125,ntmps125|go_enter func142,ntmps142|go_enter func143,ntmps143
  go_wp2_with fail;go_loopw [5,13] (fun s i wr=>∃(j:Nat) (a:Option Addr) (c:Nat),s=.slice a j c∧i=.int .i64 (j:Int)∧j≤l.length∧wr.ownsRow w.heap.size 27 10 (.slice a j c) j (opsRow (takenL k (l.take j)))∧Below w.heap.size w wr) (fun _ i _=>l.length-(intOf i).toNat)
  case atStart=>exact⟨0,_,_,rfl,rfl,by omega,K,G⟩
  case round=>
   clear R K G;obtain⟨j,a,c,rfl,rfl,hj,n,m⟩:=hrel;by_cases hin:j<l.length
   ·have L:(j:Int)<(l.length:Int):=(by omega);have M:l≠[]:=(by intro h;rw[h]at hin;simp at hin);obtain⟨g,rfl,hg,U⟩:=(hw.below m) M;have d:=U j hin;have y:=Y _ (List.getElem_mem hin);have hT:=Hid.mk' (zZf k l j hin y);generalize l[j]=st at*;have q0:wr.cell? ⟨g,j*4,none⟩=some (.int .u64 st.g.1):=d 0 _ (by omega) rfl;have q1:=d 1 _ (by omega) rfl;have q2:=d 2 _ (by omega) rfl;have q3:=d 3 _ (by omega) rfl;have Z:(st.pl:Int)<(k.length:Int):=(by omega);have S:k≠[]:=(by intro h;rw[h]at y;simp at y);obtain⟨C,rfl,Q,I⟩:=(W.below m) S;have r:∀c u,c<10→(opvCells k[st.pl])[c]?=some u→wr.cell? ⟨C,st.pl*10+c,none⟩=some u:=fun c u hcc hu=>I _ _ ((zvc k st.pl y c hcc).trans hu);generalize k[st.pl]=o at*;have V:∀ob,Below wr.heap.size wr (wr.alloc ob):=fun ob=>zA _ _
    first|(have z:Int:=st.st;clear z;obtain⟨e,q⟩:∃e,wr.alloc (.cells #[.int .u64 st.g.1,.int .u64 st.g.2,.int .i64 st.st,.int .i64 (st.pl:Int)] 255)=e:=⟨_,rfl⟩)|(have z:List UInt8:=st.st;clear z;obtain⟨e,q⟩:∃e,wr.alloc (.cells #[.int .u64 st.g.1,.int .u64 st.g.2,.string ⟨st.st.toArray⟩,.int .i64 (st.pl:Int)] 287)=e:=⟨_,rfl⟩)|(have z:Bool:=st.st;clear z;obtain⟨e,q⟩:∃e,wr.alloc (.cells #[.int .u64 st.g.1,.int .u64 st.g.2,.bool st.st,.int .i64 (st.pl:Int)] 294)=e:=⟨_,rfl⟩)
    have A:Below wr.heap.size wr e:=(by rw[←q];exact V _);have ab:e.cell? ⟨wr.heap.size,3,none⟩=some (.int .i64 (st.pl:Int)):=(by rw[←q];simp);have b:∀c u,c<10→(opvCells o)[c]?=some u→e.cell? ⟨C,st.pl*10+c,none⟩=some u:=fun c u hcc hu=>(A.cell (p:=⟨C,st.pl*10+c,none⟩) Q).trans (r c u hcc hu);have r0:e.cell? ⟨C,st.pl*10,none⟩=some (.int .i64 o.id):=b 0 _ (by omega) rfl;have r1:=b 1 _ (by omega) rfl;have r2:=b 2 _ (by omega) rfl;have r3:=b 3 _ (by omega) rfl;have r4:=b 4 _ (by omega) rfl;have r5:=b 5 _ (by omega) rfl;have r6:=b 6 _ (by omega) rfl;have r7:=b 7 _ (by omega) rfl;have r8:=b 8 _ (by omega) rfl;have r9:=b 9 _ (by omega) rfl;have x:e.ownsRow w.heap.size 27 10 (.slice a j c) j (opsRow (takenL k (l.take j))):=(by rw[←q];exact n.alloc _);have t:=m.trans (A.mono m.size);obtain⟨a',c',w7,N,v,E⟩:=zpq e w.heap.size a j c _ o x (by omega) t.size;have O:=Hid.mk' (And.intro v (t.trans E));clear d U r b I n x m t v E A V;go_wp2_with (at_builtin;refine zOu rfl _ _ 30 rfl _ _ _ _ rfl rfl N ?_);go_roundw
    case rel=>exact⟨j+1,a',c',rfl,by go_num,by omega,by rw[hT.out];exact O.out.1,O.out.2⟩
    case measure=>simp[intOf];omega
   ·have L:¬(j:Int)<(l.length:Int):=(by omega);obtain rfl:j=l.length:=(by omega);rw[List.take_length]at n;go_wp2;go_ret;exact⟨a,c,rfl,n,m⟩
theorem zsi:zNx scI 125:=taken_three.1
theorem zgk:zNx scS 142:=taken_three.2.1
theorem zi9:zNx scB 143:=taken_three.2.2
def scP (s:Stp (Bool×Int)):List Value:=[.int .u64 s.g.1,.int .u64 s.g.2]++[.bool s.st.1,.int .i64 s.st.2]++[.int .i64 (s.pl:Int)]
theorem zT3 (Q M:Option Addr)(V wc:Nat)(d:List OpV)(l:List (Stp (Bool×Int)))(w:World)(Z:OAt w Q d)(hw:WAt 5 scP w M l)(hl:l.length≤2000000)(hp:∀s∈l,s.pl<d.length):
 Calls prog 135 #[.slice Q d.length V,.slice M l.length wc] w fun e w'=>∃a c,e=.returned (.slice a l.length c)∧w'.ownsRow w.heap.size 27 10 (.slice a l.length c) l.length (opsRow (takenL d l))∧Below w.heap.size w w':=by
 obtain⟨i0,A,F,J,H⟩:=info_parts zSl;obtain⟨wm,U,K,D⟩:=run_make_own (P:=prog) w w.heap.size 30 27 i0 _ 10 underlying30 A F J .i64 .i64 l.length (by rw[H];omega) (by unfold maxLen;omega) zH;have G:Below w.heap.size w wm:=(((Kept.refl [] w).grownS D (fun g' hg'=>by simp at hg')).below zH (by simp));clear A F J H D;go_enter func135,ntmps135;go_wp2_with fail;go_loopw [5,13] (fun s i wr=>∃(j:Nat) (a:Option Addr) (c:Nat),s=.slice a j c∧i=.int .i64 (j:Int)∧j≤l.length∧wr.ownsRow w.heap.size 27 10 (.slice a j c) j (opsRow (takenL d (l.take j)))∧Below w.heap.size w wr) (fun _ i _=>l.length-(intOf i).toNat)
 case atStart=>exact⟨0,_,_,rfl,rfl,by omega,K,G⟩
 case round=>
  clear U K G;obtain⟨j,a,c,rfl,rfl,hj,n,m⟩:=hrel;by_cases hin:j<l.length
  ·have L:(j:Int)<(l.length:Int):=(by omega);have N:l≠[]:=(by intro h;rw[h]at hin;simp at hin);obtain⟨g,rfl,hg,X⟩:=(hw.below m) N;have k:∀c u,c<5→(scP l[j])[c]?=some u→wr.cell? ⟨g,j*5+c,none⟩=some u:=fun c u hcc hu=>X j hin c u hcc hu;have y:=hp _ (List.getElem_mem hin);have hT:=Hid.mk' (zZf d l j hin y);generalize l[j]=st at*;have q0:wr.cell? ⟨g,j*5,none⟩=some (.int .u64 st.g.1):=k 0 _ (by omega) rfl;have q1:=k 1 _ (by omega) rfl;have q2:=k 2 _ (by omega) rfl;have q3:=k 3 _ (by omega) rfl;have q4:=k 4 _ (by omega) rfl;have aa:(st.pl:Int)<(d.length:Int):=(by omega);have W:d≠[]:=(by intro h;rw[h]at y;simp at y);obtain⟨C,rfl,S,I⟩:=(Z.below m) W;have r:∀c u,c<10→(opvCells d[st.pl])[c]?=some u→wr.cell? ⟨C,st.pl*10+c,none⟩=some u:=fun c u hcc hu=>I _ _ ((zvc d st.pl y c hcc).trans hu);generalize d[st.pl]=o at*;have Y:∀ob,Below wr.heap.size wr (wr.alloc ob):=fun ob=>zA _ _;obtain⟨q,B⟩:∃q,wr.alloc (.cells #[.int .u64 st.g.1,.int .u64 st.g.2,.bool st.st.1,.int .i64 st.st.2,.int .i64 (st.pl:Int)] 270)=q:=⟨_,rfl⟩;have z:Below wr.heap.size wr q:=(by rw[←B];exact Y _);have ab:q.cell? ⟨wr.heap.size,4,none⟩=some (.int .i64 (st.pl:Int)):=(by rw[←B];simp);have b:∀c u,c<10→(opvCells o)[c]?=some u→q.cell? ⟨C,st.pl*10+c,none⟩=some u:=fun c u hcc hu=>(z.cell (p:=⟨C,st.pl*10+c,none⟩) S).trans (r c u hcc hu);have r0:q.cell? ⟨C,st.pl*10,none⟩=some (.int .i64 o.id):=b 0 _ (by omega) rfl;have r1:=b 1 _ (by omega) rfl;have r2:=b 2 _ (by omega) rfl;have r3:=b 3 _ (by omega) rfl;have r4:=b 4 _ (by omega) rfl;have r5:=b 5 _ (by omega) rfl;have r6:=b 6 _ (by omega) rfl;have r7:=b 7 _ (by omega) rfl;have r8:=b 8 _ (by omega) rfl;have r9:=b 9 _ (by omega) rfl;have x:q.ownsRow w.heap.size 27 10 (.slice a j c) j (opsRow (takenL d (l.take j))):=(by rw[←B];exact n.alloc _);have t:=m.trans (z.mono m.size);obtain⟨a',c',w7,O,v,E⟩:=zpq q w.heap.size a j c _ o x (by omega) t.size;have R:=Hid.mk' (And.intro v (t.trans E));clear k X r b I n x m t v E z Y;go_wp2_with (at_builtin;refine zOu rfl _ _ 30 rfl _ _ _ _ rfl rfl O ?_);go_roundw
   case rel=>exact⟨j+1,a',c',rfl,by go_num,by omega,by rw[hT.out];exact R.out.1,R.out.2⟩
   case measure=>simp[intOf];omega
  ·have L:¬(j:Int)<(l.length:Int):=(by omega);obtain rfl:j=l.length:=(by omega);rw[List.take_length]at n;go_wp2;go_ret;exact⟨a,c,rfl,n,m⟩
theorem opsRow_len (a:List OpV):(opsRow a).length=a.length*10:=by
 induction a with
 |nil=>rfl
 |cons o r ih=>
   rw[show opsRow (o::r)=opvCells o++opsRow r from rfl,zJ,ih,List.length_cons];show 10+r.length*10=_;omega
theorem zlv (a:List OpV):∀u∈opsRow a,u.oneCell'=true:=by
 intro u b;obtain⟨o,_,h⟩:=List.mem_flatMap.1 b;simp[opvCells]at h;rcases h with rfl|rfl|rfl|rfl|rfl|rfl|rfl|rfl|rfl|rfl<;>rfl
theorem zR8 (q:Option Addr)(m:Nat)(b:List OpV)(w:World)(p:OAt w q b)(H:b.length≤128):
 Calls prog 158 #[.slice q b.length m] w fun e w'=>∃a c,e=.returned (.slice a b.length c)∧w'.ownsRow w.heap.size 27 10 (.slice a b.length c) b.length (opsRow b)∧Below w.heap.size w w':=by
 have G:∀(W:World) (a:Option Addr) (n c n' c':Nat),(binOp .eql 30 (.slice a n c) (.slice none n' c')).run prog W=.ok (.bool a.isNone) W:=fun W a n c n' c'=>Lib.run_eql_slice_nil W _ _ a n c n' c' underlying30;cases q with
 |none=>
   have B:b=[]:=by
    by_cases h:b=[]
    ·exact h
    ·obtain⟨g,d,_⟩:=p h;simp at d
   subst B;go_enter func158,ntmps158;go_wp2_with fail;go_ret;exact⟨none,0,rfl,World.ownsRow_nil _ _ _ _,zD⟩
 |some ad=>
   obtain⟨C,o,s,y,x⟩:=info_parts zSl;have D:=Hid.mk' p;clear p;go_enter func158,ntmps158;go_wp2_with (at_builtin;refine wpList_append_own _ rfl _ _ 30 rfl w.heap.size 27 C _ 10 96 underlying30 o s y x rfl (by decide) _ _ _ rfl (World.ownsRow_made w #[] 0 zH (Nat.zero_le _) rfl) ad b.length m (opsRow b) rfl ?qc1 ?qc2 ?qc3 ?qc4 ?qc5 ?qc6 ?_)
   case qc1=>exact opsRow_len b
   case qc2=>
    intro j u r;have t:b≠[]:=(by intro h;rw[h]at r;simp[opsRow]at r);obtain⟨g,d,F,z⟩:=D.out t;injection d with d;subst d;rw[Addr.add_lit,Nat.zero_add];exact Lib.cell?_alloc_some _ (z j u r)
   case qc3=>exact zlv b
   case qc4=>unfold maxLen;omega
   case qc5=>omega
   case qc6=>simp
   intro I J i l A;obtain⟨a',c',rfl⟩:=zIW i;go_wp2;go_ret;exact⟨a',c',rfl,i,((Below.refl _ w).alloc zH _).grown l (by simp) (by intro k E;simp[Value.ownBlock]at E;omega)⟩
abbrev Hap:=Int×OpV
def hapCells (h:Hap):List Value:=.int .i64 h.1::opvCells h.2
def hapRow (l:List Hap):List Value:=l.flatMap hapCells
def hapF (s:Int×List Hap)(o:OpV):Int×List Hap:=(max s.1 o.call,s.2++[(max s.1 o.call,o)])
def hapsOf (ops:List OpV):Int×List Hap:=ops.foldl hapF (0,[])
theorem zcX (a:List OpV)(j:Nat)(h:j<a.length):hapsOf (a.take (j+1))=hapF (hapsOf (a.take j)) a[j]:=by
 unfold hapsOf;rw[List.take_succ_eq_append_getElem h,List.foldl_append];rfl
theorem zVO:(prog.info? 261).map (fun i=>(i.zero,i.size,i.bytes))=some (some (.agg #[.int .i64 0,.int .i64 0,.int .i64 0,.string ⟨#[]⟩,.string ⟨#[]⟩,.int .i64 0,.int .i64 0,.int .i64 0,.int .i64 0,.int .i64 0,.int .i64 0]),11,104):=by kernel_rfl
theorem zRU (W:World)(b:Nat)(a:Option Addr)(n c:Nat)(d:List Value)(m:Int)(s:OpV)(h:W.ownsRow b 261 11 (.slice a n c) n d)(z:n≤1000)(x:b≤W.heap.size):
 ∃a' c' w',(Builtin.append_ #[257,257] 257 #[.slice a n c,.slice (some ⟨W.heap.size,0,none⟩) 1 1]).run prog (W.alloc (.cells #[.int .i64 m,.int .i64 s.id,.int .i64 s.cl,.string ⟨s.name.toArray⟩,.string ⟨s.key.toArray⟩,.int .i64 s.arg,.int .i64 s.exp,.int .i64 s.call,.int .i64 s.ret,.int .i64 s.vk,.int .i64 s.vn] 261))=.ok (.slice a' (n+1) c') w'∧w'.ownsRow b 261 11 (.slice a' (n+1) c') (n+1) (d++hapCells (m,s))∧Below b W w':=by
 obtain⟨v,e,l,q,o⟩:=info_parts zVO;obtain⟨A,p,r,j,t,_⟩:=run_append_own (P:=prog) (W.alloc (.cells (hapCells (m,s)).toArray 261)) b 257 257 261 v _ 11 104 underlying257 e l q o rfl (by decide) (.slice a n c) n d (h.alloc _) ⟨W.heap.size,0,none⟩ 1 1 (hapCells (m,s)) rfl (z9R W _ _) (by intro u k;simp[hapCells,opvCells]at k;rcases k with rfl|rfl|rfl|rfl|rfl|rfl|rfl|rfl|rfl|rfl|rfl<;>rfl) (by unfold maxLen;omega) (by omega) (by simp;omega);obtain⟨a',c',rfl⟩:=zIW j;have i:∀g,(Value.slice a n c).ownBlock=some g→b≤g:=zYv h;have y:Kept (Value.slice a n c).ownBlock.toList W p:=((Kept.refl _ W).alloc _).grownS t (fun g' hg'=>by rw[hg'];simp);exact⟨a',c',p,r,j,y.below x (fun g hg=>i g (by simpa using hg))⟩
theorem zd6X (F:Option Addr)(J:Nat)(b:List OpV)(w:World)(P:OAt w F b)(Z:b.length≤128):
 Calls prog 131 #[.slice F b.length J] w fun e w'=>∃a c,e=.returned (.slice a b.length c)∧w'.ownsRow w.heap.size 261 11 (.slice a b.length c) b.length (hapRow (hapsOf b).2)∧Below w.heap.size w w':=by
 go_enter func131,ntmps131;go_wp2_with fail;go_loopw [3,4,9] (fun s ln i wr=>∃(j:Nat) (a:Option Addr) (c:Nat),s=.slice a j c∧ln=.int .i64 (hapsOf (b.take j)).1∧i=.int .i64 (j:Int)∧j≤b.length∧wr.ownsRow w.heap.size 261 11 (.slice a j c) j (hapRow (hapsOf (b.take j)).2)∧Below w.heap.size w wr) (fun _ _ i _=>b.length-(intOf i).toNat)
 case atStart=>exact⟨0,none,0,rfl,rfl,rfl,by omega,World.ownsRow_nil _ _ _ _,zD⟩
 case round=>
  obtain⟨j,a,c,rfl,rfl,rfl,hj,l,n⟩:=hrel;by_cases hin:j<b.length
  ·have C:(j:Int)<(b.length:Int):=(by omega);have D:b≠[]:=(by intro h;rw[h]at hin;simp at hin);obtain⟨g,rfl,Q,K⟩:=(P.below n) D;have d:∀c u,c<10→(opvCells b[j])[c]?=some u→wr.cell? ⟨g,j*10+c,none⟩=some u:=fun c u hcc hu=>K _ _ ((zvc b j hin c hcc).trans hu);have I:=Hid.mk' (zcX b j hin);generalize b[j]=o at*;generalize hapsOf (b.take j)=H at*;obtain⟨M,L⟩:=H;have V:wr.cell? ⟨g,j*10,none⟩=some (.int .i64 o.id):=d 0 _ (by omega) rfl;have X:=d 1 _ (by omega) rfl;have q2:=d 2 _ (by omega) rfl;have q3:=d 3 _ (by omega) rfl;have S:=d 4 _ (by omega) rfl;have q5:=d 5 _ (by omega) rfl;have q6:=d 6 _ (by omega) rfl;have q7:=d 7 _ (by omega) rfl;have U:=d 8 _ (by omega) rfl;have q9:=d 9 _ (by omega) rfl;obtain⟨t,v⟩:∃t,wr.alloc (.cells #[.int .i64 o.id,.int .i64 o.cl,.string ⟨o.name.toArray⟩,.string ⟨o.key.toArray⟩,.int .i64 o.arg,.int .i64 o.exp,.int .i64 o.call,.int .i64 o.ret,.int .i64 o.vk,.int .i64 o.vn] 27)=t:=⟨_,rfl⟩;have x:Below wr.heap.size wr t:=(by rw[←v];exact zA _ _);have k:t.heap[wr.heap.size]?=some (.cells #[.int .i64 o.id,.int .i64 o.cl,.string ⟨o.name.toArray⟩,.string ⟨o.key.toArray⟩,.int .i64 o.arg,.int .i64 o.exp,.int .i64 o.call,.int .i64 o.ret,.int .i64 o.vk,.int .i64 o.vn] 27 (0,0)):=(by rw[←v];exact ziF _ _ _ rfl);have r0:=zBk k 0;have r1:=zBk k 1;have r2:=zBk k 2;have W:=zBk k 3;have r4:=zBk k 4;have r5:=zBk k 5;have r6:=zBk k 6;have r7:=zBk k 7;have R:=zBk k 8;have Y:=zBk k 9;have r:t.ownsRow w.heap.size 261 11 (.slice a j c) j (hapRow L):=(by rw[←v];exact l.alloc _);have p:=n.trans (x.mono n.size);have B:Hid (∀m,m=max M o.call→hapsOf (b.take (j+1))=(m,L++[(m,o)])):=fun m z=>(by rw[I.out,z];rfl);obtain⟨m,z⟩:∃m,max M o.call=m:=⟨_,rfl⟩;obtain⟨a',c',w7,E,q,y⟩:=zRU t w.heap.size a j c _ m o r (by omega) p.size;have G:=Hid.mk' (And.intro q (p.trans y));have O:=Hid.mk' z;clear d K l r n p q y x k I;go_wp2_with (at_builtin;refine zOu rfl _ _ 257 rfl _ _ _ _ rfl rfl E ?_);have N:=B.out m O.out.symm;have A:hapRow (L++[(m,o)])=hapRow L++hapCells (m,o):=(by simp[hapRow]);go_roundw
   case rel=>exact⟨j+1,a',c',rfl,by rw[N],by go_num,by omega,by rw[N];show World.ownsRow _ _ _ _ _ _ (hapRow (L++[(m,o)]));rw[A];exact G.out.1,G.out.2⟩
   case measure=>simp[intOf];omega
  ·have C:¬(j:Int)<(b.length:Int):=(by omega);obtain rfl:j=b.length:=(by omega);rw[List.take_length]at l;go_wp2;go_ret;exact⟨a,c,rfl,l,n⟩
def zOh (h:Hap):Value:=.agg #[.int .i64 h.1,.int .i64 h.2.id,.int .i64 h.2.cl,.string ⟨h.2.name.toArray⟩,.string ⟨h.2.key.toArray⟩,.int .i64 h.2.arg,.int .i64 h.2.exp,.int .i64 h.2.call,.int .i64 h.2.ret,.int .i64 h.2.vk,.int .i64 h.2.vn]
theorem whole_any (b:Option Addr)(n a:Nat)(w:World):
 Calls Tryz.prog 66 #[.slice b n a] w fun e w'=>e=.returned (.slice (some ⟨w.heap.size,0,none⟩) 1 1)∧w'.heap[w.heap.size]?=some (.cells #[.string ⟨#[45]⟩,.slice b n a] 200 (0,0))∧Below w.heap.size w w':=by
 go_enter Tryz.func66,Tryz.ntmps66;go_wp2_with fail;go_ret;exact⟨rfl,ziF _ _ _ rfl,zA _ _⟩
theorem strInfo:(prog.info? 9).map (fun i=>(i.zero,i.size,i.bytes))=some (some (.string ⟨#[]⟩),1,16):=by kernel_rfl
abbrev Pow (w:World):Prop:=Lib.TabIs prog w "internal/strconv.uint64pow10" .u64 Lib.pow10Tab
theorem Pow.stays {w w':World}(h:Pow w)(a:Below w.heap.size w w'):Pow w':=Go.Joins.tab_stays (B:=w.heap.size) (g:=5) (by kernel_rfl) h a zH
def idB (o:OpV):ByteArray:=⟨(Lib.itoa o.id).toArray⟩
def zGg (ops:List OpV):List Value:=ops.map (fun o=>.string (idB o))
theorem zvv (a:List OpV)(j:Nat)(h:j<a.length):zGg (a.take (j+1))=zGg (a.take j)++[.string (idB a[j])]:=by
 unfold zGg;rw[List.take_succ_eq_append_getElem h,List.map_append];rfl
def idsT (ops:List OpV):List UInt8:=Lib.join (ops.map (fun o=>Lib.itoa o.id)) [44]
theorem zeF (W:World)(b:Nat)(a:Option Addr)(n c:Nat)(d:List Value)(s:ByteArray)(h:W.ownsRow b 9 1 (.slice a n c) n d)(y:n≤1000)(v:b≤W.heap.size):
 ∃a' c' w',(Builtin.append_ #[45,45] 45 #[.slice a n c,.slice (some ⟨W.heap.size,0,none⟩) 1 1]).run prog (W.alloc (.cells #[.string s] 9))=.ok (.slice a' (n+1) c') w'∧w'.ownsRow b 9 1 (.slice a' (n+1) c') (n+1) (d++[.string s])∧Below b W w':=by
 obtain⟨t,e,l,p,m⟩:=info_parts strInfo;obtain⟨z,o,q,j,r,_⟩:=run_append_own (P:=prog) (W.alloc (.cells [Value.string s].toArray 9)) b 45 45 9 t _ 1 16 underlying45 e l p m rfl (by decide) (.slice a n c) n d (h.alloc _) ⟨W.heap.size,0,none⟩ 1 1 [.string s] rfl (z9R W _ _) (by intro u k;simp at k;subst k;rfl) (by unfold maxLen;omega) (by omega) (by simp;omega);obtain⟨a',c',rfl⟩:=zIW j;have i:∀g,(Value.slice a n c).ownBlock=some g→b≤g:=zYv h;have x:Kept (Value.slice a n c).ownBlock.toList W o:=((Kept.refl _ W).alloc _).grownS r (fun g' hg'=>by rw[hg'];simp);exact⟨a',c',o,q,j,x.below v (fun g hg=>i g (by simpa using hg))⟩
theorem zZ4 (l:List OpV)(a:∀o∈l,-9223372036854775808≤o.id∧o.id≤9223372036854775807):Lib.lens (l.map (fun o=>Lib.itoa o.id))≤21*l.length:=by
 induction l with
 |nil=>simp[Lib.lens]
 |cons o r ih=>
   have b:=ih (fun x hx=>a x (List.mem_cons_of_mem _ hx));have d:=Lib.itoa_length_le o.id (a o (by simp)).1 (a o (by simp)).2;simp only [List.map_cons,Lib.lens,List.length_cons,List.sum_cons]at*;omega
theorem zYp (a:Option Addr)(c:Nat)(b:List OpV)(w:World)(k:Nat)(i:w.ownsRow k 9 1 (.slice a b.length c) b.length (zGg b))(C:b.length≤128)(n:∀o∈b,-9223372036854775808≤o.id∧o.id≤9223372036854775807):
 Calls prog 130 #[.slice a b.length c,.string ⟨#[44]⟩] w fun e w'=>e=.returned (.string ⟨(idsT b).toArray⟩)∧Below w.heap.size w w':=by
 cases b with
 |nil=>
   refine(Tryz.strings_Join_none a c ⟨#[44]⟩ w).mono ?_;rintro e w' ⟨rfl,rfl⟩;exact⟨rfl,zD⟩
 |cons o r=>
   rcases i.2 with ⟨B,s⟩|⟨g,z,v,t,A,q,l,_⟩
   ·simp at s
   ·injection t with hv1 hv2 hv3;subst hv1;subst hv3;have u:=i.cells (g:=g) rfl;have d:((o::r).map idB).length=(o::r).length:=(by simp);have p:((o::r).map idB).map (·.data.toList)=(o::r).map (fun o=>Lib.itoa o.id):=(by simp[idB]);have m:=Tryz.strings_Join g 0 c ((o::r).map idB) ⟨#[44]⟩ w (by
     intro j x h;have:=u j (.string x) (by unfold zGg;rw[List.getElem?_map]at h⊢;cases e:(o::r)[j]? with|none=>rw[e]at h;simp at h|some y=>rw[e]at h;simp at h;simp[h]);rw[Addr.add_lit]at this;exact this) (zBq q) (by rw[d];omega) (by rw[d];exact l) (by
     rw[p,List.map_cons,Lib.join_length];have:=zZ4 (o::r) n;simp only [List.map_cons,List.length_cons,List.length_map]at*;show 1*r.length+_≤_;omega)
    rw[d,p]at m;exact m
theorem ids_any (M:Option Addr)(O:Nat)(b:List OpV)(w:World)(U:OAt w M b)(V:b.length≤128)(F:∀o∈b,-9223372036854775808≤o.id∧o.id≤9223372036854775807)(X:Pow w):
 Calls prog 94 #[.slice M b.length O] w fun e w'=>e=.returned (.string ⟨(idsT b).toArray⟩)∧Below w.heap.size w w':=by
 go_enter func94,ntmps94;go_wp2_with fail;go_loopw [3,8] (fun s i wr=>∃(j:Nat) (a:Option Addr) (c:Nat),s=.slice a j c∧i=.int .i64 (j:Int)∧j≤b.length∧wr.ownsRow w.heap.size 9 1 (.slice a j c) j (zGg (b.take j))∧Below w.heap.size w wr) (fun _ i _=>b.length-(intOf i).toNat)
 case atStart=>exact⟨0,none,0,rfl,rfl,by omega,World.ownsRow_nil _ _ _ _,zD⟩
 case round=>
  obtain⟨j,a,c,rfl,rfl,hj,l,m⟩:=hrel;by_cases hin:j<b.length
  ·have I:(j:Int)<(b.length:Int):=(by omega);have K:b≠[]:=(by intro h;rw[h]at hin;simp at hin);obtain⟨g,rfl,Z,P⟩:=(U.below m) K;have d:∀c u,c<10→(opvCells b[j])[c]?=some u→wr.cell? ⟨g,j*10+c,none⟩=some u:=fun c u hcc hu=>P _ _ ((zvc b j hin c hcc).trans hu);have Y:=Hid.mk' (zvv b j hin);have D:=F _ (List.getElem_mem hin);generalize b[j]=o at*;have q0:wr.cell? ⟨g,j*10,none⟩=some (.int .i64 o.id):=d 0 _ (by omega) rfl;have q1:=d 1 _ (by omega) rfl;have q2:=d 2 _ (by omega) rfl;have q3:=d 3 _ (by omega) rfl;have q4:=d 4 _ (by omega) rfl;have q5:=d 5 _ (by omega) rfl;have q6:=d 6 _ (by omega) rfl;have q7:=d 7 _ (by omega) rfl;have q8:=d 8 _ (by omega) rfl;have q9:=d 9 _ (by omega) rfl;obtain⟨p,y⟩:∃p,wr.alloc (.cells #[.int .i64 o.id,.int .i64 o.cl,.string ⟨o.name.toArray⟩,.string ⟨o.key.toArray⟩,.int .i64 o.arg,.int .i64 o.exp,.int .i64 o.call,.int .i64 o.ret,.int .i64 o.vk,.int .i64 o.vn] 27)=p:=⟨_,rfl⟩;have A:Below wr.heap.size wr p:=(by rw[←y];exact zA _ _);have C:p.heap[wr.heap.size]?=some (.cells #[.int .i64 o.id,.int .i64 o.cl,.string ⟨o.name.toArray⟩,.string ⟨o.key.toArray⟩,.int .i64 o.arg,.int .i64 o.exp,.int .i64 o.call,.int .i64 o.ret,.int .i64 o.vk,.int .i64 o.vn] 27 (0,0)):=(by rw[←y];exact ziF _ _ _ rfl);have r0:=zBk C 0;have v:p.ownsRow w.heap.size 9 1 (.slice a j c) j (zGg (b.take j)):=(by rw[←y];exact l.alloc _);have r:=m.trans (A.mono m.size);have Q:=Tryz.strconv_FormatInt_10 o.id D.1 D.2 p (X.stays r);have N:=fun W h=>zeF W w.heap.size a j c (zGg (b.take j)) (idB o) h (by omega);have z:=Hid.mk' (And.intro v r);clear d P l v m r A C;go_wp2_with fail;refine Q.mono ?_;rintro e H ⟨rfl,k,os,G⟩;have n:Below p.heap.size p H:=(by rw[G];exact Lib.below_grow _ _ zH _ _);have x:=zzF z.out.1 (Kept.of_below (S:=[]) n) (by simp);have q:=z.out.2.trans (n.mono z.out.2.size);obtain⟨a',c',w7,E,t,B⟩:=N H x q.size;have J:=Hid.mk' (And.intro t (q.trans B));clear G n x q t B N Q z;unfold idB at E;go_wp2_with (at_builtin;refine zOu rfl _ _ 45 rfl _ _ _ _ rfl rfl E ?_);go_roundw
   case rel=>exact⟨j+1,a',c',rfl,by go_num,by omega,by rw[Y.out];exact J.out.1,J.out.2⟩
   case measure=>simp[intOf];omega
  ·have I:¬(j:Int)<(b.length:Int):=(by omega);obtain rfl:j=b.length:=(by omega);rw[List.take_length]at l;have R:Calls prog 130 #[.slice a b.length c,.string ⟨#[44]⟩] wr fun e w'=>e=.returned (.string ⟨(idsT b).toArray⟩)∧Below wr.heap.size wr w':=zYp a c b wr _ l V F;have L:=Hid.mk' m;clear l m;go_wp2_with fail;refine R.mono ?_;rintro e H ⟨rfl,n⟩;go_wp2;go_ret;exact⟨rfl,L.out.trans (n.mono L.out.size)⟩
theorem z88 (n:Int)(h: -9223372036854775808≤n)(g:n≤9223372036854775807)(w:World)(j:Pow w):
 Calls prog 248 #[.int .i64 n] w fun e w'=>e=.returned (.string ⟨(Lib.itoa n).toArray⟩)∧Below w.heap.size w w':=by
 have d:=Tryz.strconv_FormatInt_10 n h g w j;go_enter func248,ntmps248;go_wp2_with fail;refine d.mono ?_;rintro e i ⟨rfl,k,l,a⟩;have b:Below w.heap.size w i:=by rw[a];exact Lib.below_grow _ _ zH _ _
 clear a d;go_wp2;go_ret;exact⟨rfl,b⟩
def decP (s:List UInt8):Option Int:=
 match Lib.parseIntB 64 s with
 |.ok v=>if Lib.itoa v=s then some v else none
 |_=>none
theorem decP_ok {s:List UInt8}{v:Int}(h:Lib.parseIntB 64 s=.ok v):decP s=if Lib.itoa v=s then some v else none:=by unfold decP;rw[h]
theorem zgx {s:List UInt8}(h:∀v,Lib.parseIntB 64 s≠.ok v):decP s=none:=by
 unfold decP;cases e:Lib.parseIntB 64 s with
 |ok v=>exact absurd e (h v)
 |«syntax»=>rfl
 |range=>rfl
theorem zJf (s:List UInt8)(w:World)(t:s.length≤100000000)(p:Errs w)(n:Pow w):
 Calls prog 247 #[.string ⟨s.toArray⟩] w fun e w'=>e=.returned (.tuple #[.int .i64 ((decP s).getD 0),.bool (decP s).isSome])∧Below w.heap.size w w':=by
 have j:=zbw ⟨s.toArray⟩ w p (by show s.toArray.size≤_;simp;omega);obtain⟨R,hR⟩:∃R,Hid (decP s=R):=⟨_,rfl⟩;rw[hR.out];go_enter func247,ntmps247;go_wp2_with fail;refine j.mono ?_;rintro e m ⟨x,r,rfl,a,o⟩;clear j;rcases o with ⟨rfl,b⟩|⟨⟨N,rfl⟩,b⟩
 ·have h:=Lib.parseIntB_bounds b;have k:=z88 x (by have:=h.1;omega) (by have:=h.2;omega) m (n.stays a);have d:=Hid.mk' (hR.out.symm.trans (decP_ok b));clear b h hR;go_wp2_with fail;refine k.mono ?_;rintro e q ⟨rfl,i⟩;have l:=a.trans (i.mono a.size);clear k i;cases hq:(Lib.itoa x==s)with
  |true=>
    have g:=Hid.mk' (d.out.trans (if_pos (by simpa using hq)));clear d;go_wp2;go_ret2;exact⟨by rw[g.out];rfl,l⟩
  |false=>
    have g:=Hid.mk' (d.out.trans (if_neg (by simpa using hq)));clear d;go_wp2;go_ret2;exact⟨by rw[g.out];rfl,l⟩
 ·have d:=Hid.mk' (hR.out.symm.trans (zgx b));clear b hR;go_wp2_with fail;go_ret2;exact⟨by rw[d.out];rfl,a⟩
def quDo (st:List UInt8)(o:OpV):List UInt8×Int×Int:=
 if o.name=[101,110,113]then(if st=[]then(Lib.itoa o.arg,0,0)else(st++[44]++Lib.itoa o.arg,0,0))
 else if o.name=[100,101,113]then(if(decP (Lib.cut st [44]).1).isSome then((Lib.cut st [44]).2.1,1,(decP (Lib.cut st [44]).1).getD 0)else(st,0,0))else(st,0,0)
theorem zUU (a:Array Value)(W:World)(b:Nat)(s d e:Value)(h:a[6]?.getD undef=s)(i:a[7]?.getD undef=.pointer (some ⟨b,0,none⟩))(g:W.heap[b]?=some (.cells #[d,e] 25 (0,0))):
 (results Tryz.f254 a).run prog W=.ok (.tuple #[s,.agg #[d,e]]) W:=by
 have c0:W.cell? ⟨b,0,none⟩=some d:=by rw[zBk g];rfl
 have c1:W.cell? ⟨b,1,none⟩=some e:=by rw[zBk g];rfl
 simp[results,results254,go_sem,h,i,c0,c1]
theorem ba3 (a c:List UInt8):(⟨a.toArray⟩:ByteArray)++⟨#[44]⟩++⟨c.toArray⟩=⟨(a++[44]++c).toArray⟩:=by
 apply ByteArray.ext;simp
theorem zQ4 (t:List UInt8):(Lib.cut t [44]).1.length≤t.length:=by
 unfold Lib.cut;split<;>simp;omega
theorem zhS (st:List UInt8)(o:OpV)(w:World)(ae:st.length≤30000000)(E: -9223372036854775808≤o.arg∧o.arg≤9223372036854775807)(hG:Glob w)(Z:Pow w):
 Calls prog 254 #[.agg #[],.string ⟨st.toArray⟩,opAg o] w fun e w'=>e=.returned (.tuple #[.string ⟨(quDo st o).1.toArray⟩,vAg (quDo st o).2.1 (quDo st o).2.2])∧Below w.heap.size w w':=by
 obtain⟨R,hR⟩:∃R,Hid (quDo st o=R):=⟨_,rfl⟩;rw[hR.out];unfold opAg vAg at*;obtain⟨h,ad,k,I,g⟩:∃h,((w.alloc (.cells #[] 135)).alloc (.cells #[.int .i64 o.id,.int .i64 o.cl,.string ⟨o.name.toArray⟩,.string ⟨o.key.toArray⟩,.int .i64 o.arg,.int .i64 o.exp,.int .i64 o.call,.int .i64 o.ret,.int .i64 o.vk,.int .i64 o.vn] 27)).alloc (.cells #[.int .i64 0,.int .i64 0] 25)=h∧Below w.heap.size w h∧h.heap[w.heap.size+1]?=some (.cells #[.int .i64 o.id,.int .i64 o.cl,.string ⟨o.name.toArray⟩,.string ⟨o.key.toArray⟩,.int .i64 o.arg,.int .i64 o.exp,.int .i64 o.call,.int .i64 o.ret,.int .i64 o.vk,.int .i64 o.vn] 27 (0,0))∧h.heap[w.heap.size+1+1]?=some (.cells #[.int .i64 0,.int .i64 0] 25 (0,0)):=by
  refine⟨_,rfl,((zA _ _).alloc (by simp) _).alloc (by simp;omega) _,?_,ziF _ _ _ (by simp)⟩;rw[zD1 _ _ _ (by simp)];exact ziF _ _ _ (by simp)
 have a2:h.cell? ⟨w.heap.size+1,2,none⟩=some (.string ⟨o.name.toArray⟩):=zBk I 2;have a4:h.cell? ⟨w.heap.size+1,4,none⟩=some (.int .i64 o.arg):=zBk I 4;have t:=k.size;have e0:h.cell? ⟨w.heap.size+1+1,0,none⟩=some (.int .i64 0):=zBk g 0;have e1:h.cell? ⟨w.heap.size+1+1,1,none⟩=some (.int .i64 0):=zBk g 1;have z0:=zBn g 0;have z1:=zBn g 1;have C:∀(W W':World) (x y M O:Value),Below w.heap.size w W→W.heap[w.heap.size+1+1]?=some (.cells #[x,y] 25 (0,0))→W'=(W.setCell ⟨w.heap.size+1+1,0,none⟩ M).setCell ⟨w.heap.size+1+1,1,none⟩ O→Below w.heap.size w W'∧W'.heap[w.heap.size+1+1]?=some (.cells #[M,O] 25 (0,0)):=by
  intro W W' x y M O v s z;subst z;exact⟨(v.setCell (p:=⟨w.heap.size+1+1,0,none⟩) (by show w.heap.size≤w.heap.size+1+1;omega) _).setCell (p:=⟨w.heap.size+1+1,1,none⟩) (by show w.heap.size≤w.heap.size+1+1;omega) _,vset s _ _⟩
 have A:=Hid.mk' C;have U:=Hid.mk' (And.intro g k);have G:=Z.stays k;have V:=hG.errs.lt;have B:Glob h:=hG.below (k.mono V);clear C;go_enter func254,ntmps254;cases v:(o.name==[101,110,113])with
 |true=>
   have X:=z88 o.arg E.1 E.2 h G;have ab:=Lib.itoa_length_le o.arg E.1 E.2;cases s:(st==[])with
   |true=>
     have j:Hid (R=(Lib.itoa o.arg,0,0)):=(by rw[←hR.out];unfold quDo;rw[if_pos (by simpa using v),if_pos (by simpa using s)];exact rfl);go_wp2_with fail;refine X.mono ?_;rintro e r ⟨rfl,b⟩;have a:=(b.block _ (zBq g)).trans g;have d:=k.trans (b.mono t);have c0:r.cell? ⟨w.heap.size+1+1,0,none⟩=some (.int .i64 0):=zBk a 0;have c1:r.cell? ⟨w.heap.size+1+1,1,none⟩=some (.int .i64 0):=zBk a 1;have P:=zBn a 0;have f1:=zBn a 1;have l:=Hid.mk' (And.intro a d);clear b a d;go_wp2;obtain⟨q,m⟩:=A.out _ _ _ _ _ _ l.out.2 l.out.1 rfl;refine bodyPost_ret (zUU _ _ (w.heap.size+1+1) (.string ⟨(Lib.itoa o.arg).toArray⟩) _ _ (by simp) (by simp) m) rfl ⟨by first|(rw[j.out];done)|(rw[j.out];rfl),q⟩
   |false=>
     have j:Hid (R=(st++[44]++Lib.itoa o.arg,0,0)):=(by rw[←hR.out];unfold quDo;rw[if_pos (by simpa using v),if_neg (by simpa using s)];exact rfl);go_wp2_with fail;refine X.mono ?_;rintro e r ⟨rfl,b⟩;have a:=(b.block _ (zBq g)).trans g;have d:=k.trans (b.mono t);have c0:r.cell? ⟨w.heap.size+1+1,0,none⟩=some (.int .i64 0):=zBk a 0;have c1:r.cell? ⟨w.heap.size+1+1,1,none⟩=some (.int .i64 0):=zBk a 1;have P:=zBn a 0;have f1:=zBn a 1;have l:=Hid.mk' (And.intro a d);clear b a d;go_wp2;obtain⟨q,m⟩:=A.out _ _ _ _ _ _ l.out.2 l.out.1 rfl;refine bodyPost_ret (zUU _ _ (w.heap.size+1+1) (.string (⟨st.toArray⟩++⟨#[44]⟩++⟨(Lib.itoa o.arg).toArray⟩)) _ _ (by simp) (by simp) m) rfl ⟨by rw[j.out,ba3],q⟩
 |false=>
   cases s:(o.name==[100,101,113])with
   |false=>
     have j:Hid (R=(st,0,0)):=(by rw[←hR.out];unfold quDo;rw[if_neg (by simpa using v),if_neg (by simpa using s)];exact rfl);clear hR;go_wp2;obtain⟨q,m⟩:=A.out _ _ _ _ _ _ U.out.2 U.out.1 rfl;refine bodyPost_ret (zUU _ _ (w.heap.size+1+1) (.string ⟨st.toArray⟩) _ _ (by simp) (by simp) m) rfl ⟨by first|(rw[j.out];done)|(rw[j.out];rfl),q⟩
   |true=>
     obtain⟨Y,S⟩:=B.mx;have Q:=Tryz.strings_Cut ⟨st.toArray⟩ ⟨#[44]⟩ Y h (by show st.toArray.size<_;simp;omega) S;have aa:=zQ4 st;go_wp2_with fail;refine Q.mono ?_;rintro e r ⟨rfl,n,H⟩;have b:Below h.heap.size h r:=(by rw[H];exact below_drewN (zD) _);clear H Q;have K:=zJf (Lib.cut st [44]).1 r (by omega) (B.errs.below (b.mono B.errs.lt)) (G.stays b);have u:Hid (R=if(decP (Lib.cut st [44]).1).isSome then((Lib.cut st [44]).2.1,1,(decP (Lib.cut st [44]).1).getD 0)else(st,0,0)):=(by rw[←hR.out];unfold quDo;rw[if_neg (by simpa using v),if_pos (by simpa using s)];exact rfl);generalize (Lib.cut st [44]).1=fst at*;generalize (Lib.cut st [44]).2.1=rst at*;generalize (Lib.cut st [44]).2.2=third at*;go_wp2_with fail;refine K.mono ?_;rintro e D ⟨rfl,J⟩;have i:Below h.heap.size h D:=b.trans (J.mono b.size);clear K J;cases z:(decP fst).isSome with
     |true=>
       have j:Hid (R=(rst,1,(decP fst).getD 0)):=(by rw[u.out,if_pos z];exact rfl);clear u z hR;generalize (decP fst).getD 0=nv at*;have N:=zl7 nv D;unfold vAg at N;go_wp2_with fail;refine N.mono ?_;rintro e L ⟨rfl,F⟩;have b:Below h.heap.size h L:=i.trans (F.mono i.size);have a:=(b.block _ (zBq g)).trans g;have d:=k.trans (b.mono t);have c0:L.cell? ⟨w.heap.size+1+1,0,none⟩=some (.int .i64 0):=zBk a 0;have c1:L.cell? ⟨w.heap.size+1+1,1,none⟩=some (.int .i64 0):=zBk a 1;have P:=zBn a 0;have f1:=zBn a 1;have l:=Hid.mk' (And.intro a d);clear b a d i F N;go_wp2;obtain⟨q,m⟩:=A.out _ _ _ _ _ _ l.out.2 l.out.1 rfl;refine bodyPost_ret (zUU _ _ (w.heap.size+1+1) (.string ⟨rst.toArray⟩) _ _ (by simp) (by simp) m) rfl ⟨by first|(rw[j.out];done)|(rw[j.out];rfl),q⟩
     |false=>
       have j:Hid (R=(st,0,0)):=(by rw[u.out,if_neg (by simp[z])];exact rfl);have a:=(i.block _ (zBq g)).trans g;have d:=k.trans (i.mono t);have c0:D.cell? ⟨w.heap.size+1+1,0,none⟩=some (.int .i64 0):=zBk a 0;have c1:D.cell? ⟨w.heap.size+1+1,1,none⟩=some (.int .i64 0):=zBk a 1;have P:=zBn a 0;have f1:=zBn a 1;have l:=Hid.mk' (And.intro a d);clear u hR a d i;go_wp2;obtain⟨q,m⟩:=A.out _ _ _ _ _ _ l.out.2 l.out.1 rfl;refine bodyPost_ret (zUU _ _ (w.heap.size+1+1) (.string ⟨st.toArray⟩) _ _ (by simp) (by simp) m) rfl ⟨by first|(rw[j.out];done)|(rw[j.out];rfl),q⟩
end Go.Proofs.YtoeoinpaidhmcaaGreatDoor.srch
