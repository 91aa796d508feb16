/- Several texts in one. -/
import Derived.Test.YtoeoinpaidhmcaaGreatDoorJdPh
import Derived.Laws.OwnMore
set_option maxHeartbeats 8000000
set_option maxRecDepth 100000
namespace Go.Proofs.YtoeoinpaidhmcaaGreatDoor.jd
open Go.RowKit
open srch (flt zD5 z4U z1b zPi zMI)
theorem zef (l:List OpV)(k:List UInt8):k∈zD5 l↔∃o∈l,o.key=k:=by
 unfold zD5;rw[List.mem_mergeSort,zPi];unfold flt;rw[ne_eq,List.filter_eq_nil_iff];simp
theorem zIv (l:List OpV):(zD5 l).Pairwise (fun x y=>x<y):=by
 have d:(zD5 l).Pairwise (fun x y=>decide (x≤y)=true):=by
  unfold zD5;exact List.pairwise_mergeSort (fun a b c d e=>by simp at *;exact List.le_trans d e) (fun a b=>by simp;exact List.le_total a b) _
 have e:=zH0 l;refine(d.and e).imp ?_;rintro a b ⟨g,i⟩;simp at g;by_cases h:a<b
 ·exact h
 ·exact absurd (List.le_antisymm g (List.not_lt.1 h)) i
theorem zx1 {l d:List (List UInt8)}(h:l.Pairwise (fun x y=>x<y))(i:d.Pairwise (fun x y=>x<y))(n:∀k,k∈l↔k∈d):l=d:=by
 have g:∀a b:List UInt8,a<b→a≠b:=fun a b h e=>by subst e;exact List.lt_irrefl _ h
 have m:l.Nodup:=h.imp (g _ _);have j:d.Nodup:=i.imp (g _ _);refine List.Perm.eq_of_pairwise (le:=fun x y=>x<y) (fun a b _ _ h1 h2=>absurd (List.lt_trans h1 h2) (List.lt_irrefl _)) h i ?_;exact(List.perm_ext_iff_of_nodup m j).2 n
open Tryz
open srch (vAg opAg tI OAt zOu idsT qKey z9l hexL hexB)
theorem zwn (k:List UInt8)(i:Nat)(c:UInt8)(h:k[i]?=some c):(⟨k.toArray⟩:ByteArray).extract i (i+1)=⟨#[c]⟩:=by
 rw[Lib.extract_eq];have d:=(zB h);obtain⟨a,b⟩:=d;have e:(k.drop i).take 1=[c]:=by
  rw[List.drop_eq_getElem_cons a,b];rfl
 simpa using e
theorem zba (n:Nat)(h:n<16):(⟨#[48,49,50,51,52,53,54,55,56,57,97,98,99,100,101,102]⟩:ByteArray).extract n (n+1)=⟨#[hexL.getD n 0]⟩:=by
 rcases n with _|_|_|_|_|_|_|_|_|_|_|_|_|_|_|_|n
 all_goals first|rfl|decide|omega
theorem zyq (k:List UInt8)(i:Nat)(c:UInt8)(h:k[i]?=some c):(k.take (i+1)).flatMap z9l=(k.take i).flatMap z9l++z9l c:=by
 obtain⟨a,b⟩:=zB h;rw[List.take_succ_eq_append_getElem a,List.flatMap_append,b];simp
theorem zth (k:List UInt8):(k.flatMap z9l).length≤6*k.length:=by
 induction k with
 |nil=>simp
 |cons c t ih=>
   have:(z9l c).length≤6:=by
    unfold z9l;split
    ·simp
    ·split<;>simp
   rw[List.flatMap_cons,zJ,List.length_cons];omega
theorem zz5 (k:List UInt8)(w:World)(Q:k.length≤10000000):
 Calls prog 81 #[.string ⟨k.toArray⟩] w fun e w'=>e=.returned (.string ⟨(qKey k).toArray⟩)∧Below w.heap.size w w':=by
 go_enter func81,ntmps81;go_wp2_with fail;go_loopw [3,5] (fun s3 s5 wr=>∃(i:Nat),s3=.string ⟨((k.take i).flatMap z9l).toArray⟩∧s5=.int .i64 (i:Int)∧i≤k.length∧Hid (Below w.heap.size w wr)) (fun _ s5 _=>k.length-(intOf s5).toNat)
 case atStart=>exact⟨0,rfl,rfl,by omega,zD⟩
 case round=>
  obtain⟨i,rfl,rfl,L,h⟩:=hrel;obtain⟨O,d⟩:∃O,(k.take i).flatMap z9l=O:=⟨_,rfl⟩;have F:O.length≤60000000:=by rw[←d];have:=zth (k.take i);rw[List.length_take]at this;omega
  by_cases hin:i<k.length
  ·have p:(i:Int)<(k.length:Int):=(by omega);obtain⟨c,o⟩:∃c,k[i]?=some c:=⟨_,zC hin⟩;have j:Hid (((k.take (i+1)).flatMap z9l)=O++z9l c):=(by rw[←d];exact zyq k i c o);have G:i<(⟨k.toArray⟩:ByteArray).size:=(by show i<k.toArray.size;simpa using hin);have A:(⟨k.toArray⟩:ByteArray)[i]'G=c:=by
    show k.toArray[i]'(by simpa using hin)=c;simp;exact(zB o).2
   have E:=zwn k i c o;have J:IntKind.i64.wrap ((i:Int)+1)=(i:Int)+1:=(by go_arith);have B:c.toNat<256:=c.toNat_lt;have C:IntKind.i64.wrap (c.toNat:Int)=(c.toNat:Int):=(by go_arith);rw[d];clear d;have l:((⟨O.toArray⟩:ByteArray)++⟨#[92]⟩)++⟨#[c]⟩=⟨(O++[92,c]).toArray⟩:=(by apply ByteArray.ext;simp);have H:(⟨#[c]⟩:ByteArray).size=1:=rfl;by_cases h1:c.toNat=34
   ·have g:Hid (z9l c=[92,c]):=(by unfold z9l;exact if_pos (.inl h1));have u:((c.toNat:Int)==34)=true:=(by rw[h1];rfl);go_wp2_with fail;go_round
    case rel=>exact⟨i+1,by rw[j.out,g.out,←l],by go_num,by omega,h.out⟩
    case measure=>simp[intOf];omega
   ·have u:((c.toNat:Int)==34)=false:=(by simp;omega);by_cases h2:c.toNat=92
    ·have g:Hid (z9l c=[92,c]):=(by unfold z9l;exact if_pos (.inr h2));have q:((c.toNat:Int)==92)=true:=(by rw[h2];rfl);go_wp2_with fail;go_round
     case rel=>exact⟨i+1,by rw[j.out,g.out,←l],by go_num,by omega,h.out⟩
     case measure=>simp[intOf];omega
    ·have q:((c.toNat:Int)==92)=false:=(by simp;omega);by_cases h3:c.toNat<32
     ·have t:(c.toNat:Int)<32:=(by omega);have N:Int.tdiv (c.toNat:Int) 16=((c.toNat/16:Nat):Int):=(by rw[Int.tdiv_eq_ediv_of_nonneg (by omega)];omega);have M:Int.tmod (c.toNat:Int) 16=((c.toNat%16:Nat):Int):=(by rw[Int.tmod_eq_emod_of_nonneg (by omega)];omega);have g:Hid (z9l c=[92,117,48,48,hexL.getD (c.toNat/16) 0,hexL.getD (c.toNat%16) 0]):=(by unfold z9l;rw[if_neg (by omega)];exact if_pos h3);have s:c.toNat/16<16:=(by omega);have r:c.toNat%16<16:=(by omega);generalize c.toNat/16=a at*;generalize c.toNat%16=b at*;have R:=zba a s;have P:=zba b r;have K:IntKind.i64.wrap ((a:Int)+1)=(a:Int)+1:=(by go_arith);have z:IntKind.i64.wrap ((b:Int)+1)=(b:Int)+1:=(by go_arith);have v:(a:Int)+1≤16:=(by omega);have x:(b:Int)+1≤16:=(by omega);generalize hexL.getD a 0=ya at*;generalize hexL.getD b 0=yb at*;have m:((((⟨O.toArray⟩:ByteArray)++⟨#[92,117,48,48]⟩)++⟨#[ya]⟩)++⟨#[yb]⟩)=⟨(O++[92,117,48,48,ya,yb]).toArray⟩:=(by apply ByteArray.ext;simp);have D:(⟨#[ya]⟩:ByteArray).size=1:=rfl;have I:(⟨#[yb]⟩:ByteArray).size=1:=rfl;go_wp2_with fail;go_quiet (fail);go_wp2_with fail;go_round
      case rel=>exact⟨i+1,by rw[j.out,g.out,←m],by go_num,by omega,zqh h.out _⟩
      case measure=>simp[intOf];omega
     ·have t:¬(c.toNat:Int)<32:=(by omega);have g:Hid (z9l c=[c]):=(by unfold z9l;rw[if_neg (by omega)];exact if_neg h3);have n:(⟨O.toArray⟩:ByteArray)++⟨#[c]⟩=⟨(O++[c]).toArray⟩:=(by apply ByteArray.ext;simp);go_wp2_with fail;go_round
      case rel=>exact⟨i+1,by rw[j.out,g.out,←n],by go_num,by omega,h.out⟩
      case measure=>simp[intOf];omega
  ·have p:¬(i:Int)<(k.length:Int):=(by omega);have y:Hid (qKey k=34::O++[34]):=(by show _=_;rw[←d,List.take_of_length_le (by omega)];rfl);rw[d];clear d;go_wp2_with fail;go_ret;exact⟨by rw[y.out];rfl,h.out⟩
def two2 (m:List UInt8):Prop:=m=sKv∨m=sSet
theorem two2.five {m:List UInt8}(h:two2 m):five m:=by
 rcases h with h|h
 ·exact .inr (.inl h)
 ·exact .inr (.inr (.inr (.inl h)))
theorem zeg (m:List UInt8)(a:two2 m)(w:World):
 Calls prog 73 #[.string ⟨m.toArray⟩] w fun e w'=>e=.returned (.bool true)∧w'=w:=by
 rcases a with rfl|rfl
 all_goals
  simp only [sKv,sSet];go_enter func73,ntmps73;go_wp2;go_ret;exact⟨rfl,rfl⟩
theorem z1z (m:List UInt8)(o:two2 m)(k:List UInt8)(h:Option Addr)(l g:Nat)(w:World)(p:k.length≤10000000):
 Calls prog 41 #[.string ⟨m.toArray⟩,.agg #[.string ⟨k.toArray⟩,.slice h l g]] w fun e w'=>e=.returned (.string ⟨(qKey k).toArray⟩)∧Below w.heap.size w w':=by
 have i:=fun w=>zeg m o w;obtain⟨a,q,b,c0⟩:∃a,w.alloc (.cells #[.string ⟨k.toArray⟩,.slice h l g] 103)=a∧Below w.heap.size w a∧a.cell? ⟨w.heap.size,0,none⟩=some (.string ⟨k.toArray⟩):=⟨_,rfl,zA _ _,zBk (ziF _ _ _ rfl) 0⟩;have j:=zz5 k a p;go_enter func41,ntmps41;go_wp2_with fail;refine(i _).mono ?_;rintro e s ⟨rfl,rfl⟩;go_wp2_with fail;refine j.mono ?_;rintro e r ⟨rfl,d⟩;have n:Hid _:=b.trans (d.mono b.size);clear j d c0;go_wp2_with fail;go_ret;exact⟨rfl,n.out⟩
open srch (Judged say ordO zNr okOp z7a zAl flt qKey zD5 zWP stDo zqY zCI quDo lkDo)
def zQk (m:List UInt8)(ops:List OpV):List (List UInt8):=if m=sKv∨m=sSet then zD5 ops else [[]]
def zQf (m k:List UInt8):List UInt8:=if m=sKv∨m=sSet then qKey k else [45]
theorem lone3.not {m:List UInt8}(h:lone3 m):¬(m=sKv∨m=sSet):=by
 rcases h with rfl|rfl|rfl<;>decide
theorem zOB (m:List UInt8)(a:List OpV):(zQk m a).Nodup:=by
 unfold zQk;split
 ·exact zH0 a
 ·simp
theorem zhm {m:List UInt8}{a:List OpV}{k:List UInt8}{n:Nat}(h:k∈zQk m a)(b:∀o∈a,o.key.length≤n):k.length≤n:=by
 unfold zQk at h;split at h
 ·obtain⟨o,d,rfl⟩:=(zef a k).1 h;exact b o d
 ·rw[List.mem_singleton]at h;rw[h];exact Nat.zero_le _
theorem zNR (m k:List UInt8):(zQf m k).length≤6*k.length+2:=by
 unfold zQf;split
 ·exact srch.qKey_len k
 ·simp
theorem zzr {m:List UInt8}{a:List OpV}{b:Int}{g:List UInt8}{n:Nat}(h:FitK m a (zQk m a) (zQf m) b g)(q:∀o∈a,wf64 o.id)(r:∀o∈a,o.key.length≤n)(j:n≤8000000):g.length≤70000000:=by
 have d:∀(Q:List OpV) (pl:List Nat),zrE a pl Q→∀o∈Q,wf64 o.id:=fun Q pl hQ o ho=>by
  obtain⟨i,s⟩:=List.mem_iff_getElem?.1 ho;obtain⟨p,_,l⟩:=hQ.2 i o s;exact q o (List.mem_of_getElem? l)
 cases h with
 |unk e _=>rw[e];decide
 |ok Q pl e hQ j hl ho ha=>
   have:=zXE Q (d Q pl hQ);rw[e];simp[sOrdJ];omega
 |ill K1 K2 k Q pl cE hK e hQ j hl ha hk' l=>
   have:=zXE Q (d Q pl hQ);have t:=zhm (k:=k) (by rw[hK];simp) r;have u:=zNR m k;rw[e];simp[zRS,z5z];omega
structure FitG (m t:List UInt8)(b:Int)(ops:List OpV)(ans:List UInt8):Prop where
 fit:FitK m ops (zQk m ops) (zQf m) b ans
 kn:Known ops
 klen:∀o∈ops,o.key.length≤8000000
 none:lone3 m→∀o∈ops,o.key=[]
 len:ans.length≤70000000
theorem zkr {a:List OpV}(h:∀o∈a,o.key=[]):flt [] a=a:=by
 unfold flt;rw[List.filter_eq_self];intro o b;simpa using h o b
theorem zrq (t m:List UInt8)(C:t.length≤2000000)(b:Int)(a:List OpV)(v:Nat×List UInt8×List (List OpV))(w:z9w m t=.inl a)(d:zNr m a (min b 1000000) v):FitG m t b a (say v):=by
 obtain⟨r,p⟩:=zpY w;have n:=z7a w;obtain⟨k,hR⟩:=zAl w;have y:∀o∈a,OkM m o:=fun o ho=>⟨r o ho,(n o ho).2.2.1,(n o ho).2.1⟩;have i:∀o∈a,0≤o.ret:=fun o ho=>by
  by_cases c:o.ret=0
  ·omega
  ·have A:=hR.ret o ho c;have B:=hR.call o ho;omega
 have j:∀o∈a,0<o.ret→o.call≤o.ret:=fun o ho h=>by
  have A:=hR.ret o ho (by omega);omega
 have g:∀x,∀o∈flt x a,OkM m o:=fun x o ho=>y o (zxU x a o ho).1;have u:∀o∈a,o.key.length≤8000000:=fun o ho=>by have:=(n o ho).2.2.2;omega
 have s:lone3 m→∀o∈a,o.key=[]:=fun hm o ho=>(r o ho).2.2 hm;have l:(m=sKv∨m=sSet)→zQk m a=zD5 a∧zQf m=qKey:=fun h=>⟨if_pos h,by funext x;exact if_pos h⟩;have one:lone3 m→zQk m a=[[]]∧[([45],a)]=([[]]:List (List UInt8)).map (fun k=>(zQf m k,flt k a)):=fun h=>⟨if_neg h.not,by
  rw[List.map_singleton,zkr (s h)];unfold zQf;rw[if_neg h.not]⟩
 have z:FitK m a (zQk m a) (zQf m) b (say v):=by
  have q:∀ {σ:Type} (doit:σ→OpV→σ×Int×Int) (s0:σ),DoneK doit s0 m a (min b 1000000) (min b 1000000) [] (fun _=>[]):=fun doit s0=>⟨fun k hk=>by simp at hk,fun f _ _=>by simp⟩;rcases d with ⟨e,d⟩|⟨e,d⟩|⟨e,d⟩|⟨e,d⟩|⟨e,d⟩
  ·rw[(one (.inl e)).2]at d;rw[(one (.inl e)).1];subst e;exact z1V (by simp) (fun x=>z28 _ (g x)) hR.nodup p i j [[]] [] _ (fun _=>[]) v rfl (q _ _) d
  ·rw[(l (.inl e)).1,(l (.inl e)).2];subst e;exact z1V (zH0 a) (fun x=>zpM _ (g x)) hR.nodup p i j (zD5 a) [] _ (fun _=>[]) v rfl (q _ _) d
  ·rw[(one (.inr (.inl e))).2]at d;rw[(one (.inr (.inl e))).1];subst e;exact z1V (by simp) (fun x=>zSZ _ (g x)) hR.nodup p i j [[]] [] _ (fun _=>[]) v rfl (q _ _) d
  ·rw[(l (.inr e)).1,(l (.inr e)).2];subst e;exact z1V (zH0 a) (fun x=>zuQ _ (g x)) hR.nodup p i j (zD5 a) [] _ (fun _=>[]) v rfl (q _ _) d
  ·rw[(one (.inr (.inr e))).2]at d;rw[(one (.inr (.inr e))).1];subst e;exact z1V (by simp) (fun x=>zFR _ (g x)) hR.nodup p i j [[]] [] _ (fun _=>[]) v rfl (q _ _) d
 exact⟨z,⟨by omega,fun o ho=>(n o ho).1,hR.ids,fun o ho=>⟨(r o ho).names,(y o ho).arg,(r o ho).2.1,(y o ho).cl⟩⟩,u,s,zzr z (fun o ho=>(n o ho).1) u zH⟩
open srch (vAg opAg tI OAt zOu idsT flt)
def PtAt (w:World)(a:Option Addr)(ops:List OpV)(K:List (List UInt8)):Prop:=
 ∀(i:Nat) (k:List UInt8),K[i]?=some k→∃g va vc,a=some ⟨g,0,none⟩∧g<w.heap.size∧w.cell? ⟨g,i*2,none⟩=some (.string ⟨k.toArray⟩)∧w.cell? ⟨g,i*2+1,none⟩=some (.slice va (plK ops k).length vc)∧IAt w va (plK ops k)
theorem PtAt.below {w w':World}{a:Option Addr}{b:List OpV}{K:List (List UInt8)}(h:PtAt w a b K)(k:Below w.heap.size w w'):PtAt w' a b K:=by
 intro i x o;obtain⟨g,l,n,e,d,m,q,j⟩:=h i x o;exact⟨g,l,n,e,zI d k.size,(k.cell (p:=⟨g,i*2,none⟩) d).trans m,(k.cell (p:=⟨g,i*2+1,none⟩) d).trans q,j.below k⟩
def upd {α:Type}(f:List UInt8→α)(k:List UInt8)(x:α):List UInt8→α:=fun k'=>if k'=k then x else f k'
theorem zur {α:Type}(f:List UInt8→α)(k:List UInt8)(x:α):upd f k x k=x:=if_pos rfl
theorem zX6 {α:Type}{K:List (List UInt8)}(l:K.Nodup){i:Nat}{k:List UInt8}(b:K[i]?=some k)(f:List UInt8→α)(x:α):∀k'∈K.take i,upd f k x k'=f k':=by
 intro k' a;unfold upd;rw[if_neg];rintro rfl;obtain⟨j,d,e⟩:=List.mem_iff_getElem.1 a;rw[List.length_take]at d;obtain⟨g,h⟩:=zB b;have:=List.pairwise_iff_getElem.1 l j i (by omega) g (by omega);rw[List.getElem_take]at e;exact this (e.trans h.symm)
theorem zoN {K:List (List UInt8)}{i:Nat}{k:List UInt8}(a:K[i]?=some k):K.take (i+1)=K.take i++[k]:=by rw[List.take_add_one,a];rfl
def vdOf (ops:List OpV)(f:List UInt8→List Cf×Bool)(k:List UInt8):List Value:=zf63 (f k).2 (isP (flt k ops) (f k).1) (mostP (f k).1) (f k).1.length
def manyK (K:List (List UInt8))(f:List UInt8→List Cf×Bool):Nat:=(K.map (fun k=>(f k).1.length)).sum
theorem zSq {a:List OpV}{K:List (List UInt8)}(g:K.Nodup){i:Nat}{k:List UInt8}(d:K[i]?=some k)(f:List UInt8→List Cf×Bool)(L:List Cf)(b:Bool):
 (K.take (i+1)).flatMap (vdOf a (upd f k (L,b)))=(K.take i).flatMap (vdOf a f)++zf63 b (isP (flt k a) L) (mostP L) L.length:=by
 have e:∀k'∈K.take i,vdOf a (upd f k (L,b)) k'=vdOf a f k':=fun k' h=>by unfold vdOf;rw[zX6 g d f (L,b) k' h]
 rw[zoN d,List.flatMap_append,List.flatMap_singleton,List.flatMap_def,List.map_congr_left e,←List.flatMap_def];congr 1;unfold vdOf;rw[zur]
theorem zXt {K:List (List UInt8)}(d:K.Nodup){i:Nat}{k:List UInt8}(b:K[i]?=some k)(f:List UInt8→List Cf×Bool)(L:List Cf)(a:Bool):
 manyK (K.take (i+1)) (upd f k (L,a))=manyK (K.take i) f+L.length:=by
 have e:∀k'∈K.take i,((upd f k (L,a)) k').1.length=(f k').1.length:=fun k' h=>by rw[zX6 d b f (L,a) k' h]
 unfold manyK;rw[zoN b,List.map_append,List.sum_append,List.map_singleton,List.sum_singleton,List.map_congr_left e,zur]
def CfK (m:List UInt8)(ops:List OpV)(K:List (List UInt8))(f:List UInt8→List Cf×Bool):Prop:=∀k∈K,Cfs m (flt k ops) (roomP ops.length) (f k).1 (f k).2∧(f k).1.length≤600000
theorem CfK.upd {m:List UInt8}{a:List OpV}{K:List (List UInt8)}(l:K.Nodup){i:Nat}{k:List UInt8}(e:K[i]?=some k){f:List UInt8→List Cf×Bool}(h:CfK m a (K.take i) f){L:List Cf}{d:Bool}(g:Cfs m (flt k a) (roomP a.length) L d)(j:L.length≤600000):CfK m a (K.take (i+1)) (upd f k (L,d)):=by
 intro k' b;rw[zoN e]at b;rcases List.mem_append.1 b with h1|h1
 ·rw[zX6 l e f (L,d) k' h1];exact h k' h1
 ·rw[List.mem_singleton]at h1;subst h1;rw[zur];exact⟨g,j⟩
theorem CfK.many {m:List UInt8}{a:List OpV}{K:List (List UInt8)}{f:List UInt8→List Cf×Bool}(h:CfK m a K f):manyK K f≤K.length*600000:=by
 unfold manyK
 induction K with
 |nil=>simp
 |cons k r ih=>
   have b:=ih (fun x hx=>h x (by simp[hx]));have d:=(h k (by simp)).2;rw[List.map_cons,List.sum_cons,List.length_cons];omega
theorem zOl {a:List OpV}(h:∀o∈a,okO o)(k:List UInt8):∀o∈flt k a,okO o:=fun o ho=>h o (zxU k a o ho).1
theorem z4A {a:List OpV}{n:Nat}(h:a.length≤n)(k:List UInt8):(flt k a).length≤n:=Nat.le_trans (List.length_filter_le _ _) h
def zgZ (m:List UInt8)(ops:List OpV)(K:List (List UInt8))(w:World)(e:Ending)(w':World):Prop:=
 ∃f a c,CfK m ops K f∧e=.returned (.tuple #[.slice a K.length c,.int .i64 (manyK K f:Int)])∧w'.ownsRow w.heap.size 106 4 (.slice a K.length c) K.length (K.flatMap (vdOf ops f))∧Below w.heap.size w w'
theorem zHE (m:List UInt8)(hm:five m)(U:Option Addr)(oc:Nat)(b:List OpV)(K:List (List UInt8))(J:K.Nodup)(al:K.length≤1000)(pa:Option Addr)(c:Nat)(w:World)(O:OAt w U b)(hP:PtAt w pa b K)(z:b.length≤1000)(af:∀o∈b,okO o):
 Calls Tryz.prog 38 #[.string ⟨m.toArray⟩,.slice U b.length oc,.slice pa K.length c] w (zgZ m b K w):=by
 have ai:=fun w=>zKP b.length z w;have Y:=zhE b.length;have hj:=fun k va vc w O hp=>znZ m hm U va oc vc b (flt k b) (plK b k) (roomP b.length) w O hp (zqz b k) (z4A z k) z (zOl af k) (by omega);have HP:Hid (PtAt w pa b K):=hP;have HO:Hid (OAt w U b):=O;clear hP O;go_enter Tryz.func38,Tryz.ntmps38;go_wp2_with fail;refine(ai _).mono ?_;rintro e n ⟨rfl,rfl⟩;have aj:Hid _:=Y;clear Y;have HJ:Hid _:=hj;clear hj;generalize hroom:roomP b.length=room at*;have P:Hid _:=hroom;clear hroom;go_wp2_with fail;go_loopw [8,10,11] (fun s8 s10 s11 wr=>∃(i:Nat) (a:Option Addr) (c:Nat) (f:List UInt8→List Cf×Bool),s11=.int .i64 (i:Int)∧s8=.slice a i c∧s10=.int .i64 ((manyK (K.take i) f:Nat):Int)∧i≤K.length∧Hid (CfK m b (K.take i) f)∧Hid (wr.ownsRow n.heap.size 106 4 (.slice a i c) i ((K.take i).flatMap (vdOf b f)))∧Hid (Below n.heap.size n wr)) (fun _ _ s11 _=>K.length-(intOf s11).toNat)
 case atStart=>exact⟨0,none,0,fun _=>([],false),rfl,rfl,rfl,by omega,fun k D=>by simp at D,World.ownsRow_nil _ _ _ _,zD⟩
 case round=>
  obtain⟨i,W,R,f,rfl,rfl,rfl,hi,Q,N,F⟩:=hrel;have hS:manyK (K.take i) f≤600000000:=by
   have M:=Q.out.many;rw[List.length_take]at M;omega
  have HS:Hid (manyK (K.take i) f=manyK (K.take i) f):=rfl;generalize hSe:manyK (K.take i) f=S at*;have G:Hid _:=hSe;clear hSe HS;by_cases hin:i<K.length
  ·have ad:(i:Int)<(K.length:Int):=(by omega);have an:IntKind.i64.wrap ((i:Int)+1)=(i:Int)+1:=(by go_arith);obtain⟨k,D⟩:∃k,K[i]?=some k:=⟨_,zC hin⟩;obtain⟨g,va,vc,rfl,hg,_,p1,aa⟩:=HP.out.below F.out i k D;have B:=HJ.out k va vc wr (HO.out.below F.out) aa;have HK:Hid _:=D;clear D aa;unfold zDK vdAg at B;go_wp2_with fail;refine B.mono ?_;rintro e l ⟨L,C,hC,ao,rfl,s⟩;obtain⟨v,x⟩:∃v,isP (flt k b) L=v:=⟨_,rfl⟩;obtain⟨u,A⟩:∃u,mostP L=u:=⟨_,rfl⟩;rw[x,A];have X:Hid _:=(⟨x,A⟩:_∧_);clear x A;obtain⟨d,am,Z,j⟩:∃d,l.alloc (.cells #[.bool C,.bool v,.int .i64 (u:Int),.int .i64 (L.length:Int)] 106)=d∧Below l.heap.size l d∧d.heap[l.heap.size]?=some (.cells #[.bool C,.bool v,.int .i64 (u:Int),.int .i64 (L.length:Int)] 106 (0,0)):=⟨_,rfl,zA _ _,ziF _ _ _ rfl⟩;have r:Below wr.heap.size wr d:=s.trans (Z.mono s.size);have p:Below n.heap.size n d:=F.out.trans (r.mono F.out.size);have v0:d.cell? ⟨l.heap.size,0,none⟩=some (.bool C):=zBk j 0;have v1:d.cell? ⟨l.heap.size,1,none⟩=some (.bool v):=zBk j 1;have v2:d.cell? ⟨l.heap.size,2,none⟩=some (.int .i64 (u:Int)):=zBk j 2;have v3:d.cell? ⟨l.heap.size,3,none⟩=some (.int .i64 (L.length:Int)):=zBk j 3;have I:=zmP N.out (Kept.of_below (S:=[]) r) (by simp);obtain⟨a7,c7,w7,ah,y,E⟩:=zxQ d n.heap.size W i R _ C v u L.length I (by omega) p.size;have ae:=zBq j;have t:l.heap.size∉(Value.slice W i R).ownBlock.toList:=by
    intro ab;have:=(N.out.lt _ (by simpa using ab)).2;have:=s.size;omega
   have v7:w7.cell? ⟨l.heap.size,3,none⟩=some (.int .i64 (L.length:Int)):=by
    have:=E.block _ ae t;exact zBk (this.trans j) 3
   have ag:L.length≤600000:=(by have:=aj.out;omega);have ak:IntKind.i64.wrap ((S:Int)+(L.length:Int))=(S:Int)+(L.length:Int):=j64 (by omega) (by omega);have H:Below n.heap.size n w7:=p.trans (E.below p.size (fun q hq=>(I.lt q (by simpa using hq)).1));have V:Hid _:=(⟨hC,ag,y,H⟩:_∧_∧_∧_);clear y E j s Z p H hC B I t r;go_wp2_with (at_builtin;refine zOu rfl _ _ 94 rfl _ _ _ _ rfl rfl ah ?_);go_roundw
   case rel=>
    refine⟨i+1,a7,c7,upd f k (L,C),by go_num,rfl,?_,by omega,?_,?_,V.out.2.2.2⟩
    ·rw[zXt J HK.out,G.out];push_cast;rfl
    ·have h:=V.out.1;rw[←P.out]at h;exact CfK.upd J HK.out Q.out h V.out.2.1
    ·show _;have h:=V.out.2.2.1;rw[zSq J HK.out,X.out.1,X.out.2];exact h
   case measure=>simp[intOf];omega
  ·have ad:¬(i:Int)<(K.length:Int):=(by omega);obtain rfl:i=K.length:=(by omega);have HF:Hid (CfK m b K f∧manyK K f=S∧wr.ownsRow n.heap.size 106 4 (.slice W K.length R) K.length (K.flatMap (vdOf b f))):=by
    have M:=Q.out;have h2:=G.out;have h3:=N.out;rw[List.take_length]at M h2 h3;exact⟨M,h2,h3⟩
   clear Q G N;go_wp2_with fail;go_ret2;exact⟨f,W,R,HF.out.1,(by rw[HF.out.2.1];rfl),HF.out.2.2,F.out⟩
open srch (vAg opAg tI OAt zOu idsT flt zD5)
structure PE where
 key:List UInt8
 va:Option Addr
 vc:Nat
 pl:List Nat
theorem zEa {a:List OpV}{i:Nat}{o:OpV}(h:a[i]?=some o)(k:List UInt8):plK (a.take (i+1)) k=plK (a.take i) k++(if o.key=k then [i]else []):=by
 obtain⟨b,d⟩:=zB h;have e:∀n,n≤a.length→plK (a.take n) k=(List.range n).filter (fun j=>decide ((a[j]?.map (·.key))=some k)):=fun n hn=>by
  unfold plK;rw[List.length_take,Nat.min_eq_left hn];refine List.filter_congr (fun j hj=>?_);rw[List.mem_range]at hj;rw[List.getElem?_take,if_pos hj]
 rw[e _ (by omega),e _ (by omega),List.range_succ,List.filter_append];by_cases c:o.key=k
 ·rw[List.filter_cons_of_pos (by simp[d,b,c]),if_pos c];rfl
 ·rw[List.filter_cons_of_neg (by simp[d,b,c]),if_neg c];rfl
structure KeyD (ops:List OpV)(i:Nat)(K0:List (List UInt8))(L:List PE):Prop where
 up:L.Pairwise (fun x y=>x.key<y.key)
 pl:∀x∈L,x.pl=plK (ops.take i) x.key
 mem:∀k,(∃x∈L,x.key=k)↔k∈K0∨∃o∈ops.take i,o.key=k
structure MidK (ops:List OpV)(i:Nat)(K0:List (List UInt8))(L1:List PE)(x:PE)(L2:List PE)(k:List UInt8):Prop where
 up:(L1++x::L2).Pairwise (fun x y=>x.key<y.key)
 pl:∀y∈L1++x::L2,y.pl=plK (ops.take i) y.key
 key:x.key=k
 mem:∀k',(∃y∈L1++x::L2,y.key=k')↔k'=k∨k'∈K0∨∃o∈ops.take i,o.key=k'
theorem z03 {a b:List UInt8}(h:a<b):a≠b:=fun e=>by subst e;exact List.lt_irrefl _ h
theorem zhX {a b:List UInt8}(h:¬b<a)(d:b≠a):a<b:=by
 by_cases c:a<b
 ·exact c
 ·exact absurd (List.le_antisymm (List.not_lt.1 c) (List.not_lt.1 h)) d
theorem KeyD.new {g:List OpV}{i:Nat}{s:List (List UInt8)}{q l:List PE}{k:List UInt8}(h:KeyD g i s (q++l))(u:∀x∈q,x.key<k)(t:∀y∈l.head?,¬y.key<k∧y.key≠k):MidK g i s q ⟨k,none,0,[]⟩ l k:=by
 have p:=List.pairwise_append.1 h.up;have v:∀y∈l,k<y.key:=by
  cases l with
  |nil=>intro y d;cases d
  |cons z r=>
    have w:k<z.key:=zhX (t z (by simp)).1 (t z (by simp)).2;intro y d;rcases List.mem_cons.1 d with rfl|d
    ·exact w
    ·exact List.lt_trans w ((List.pairwise_cons.1 p.2.1).1 y d)
 have A:¬ ∃x∈q++l,x.key=k:=by
  rintro⟨x,n,e⟩;rcases List.mem_append.1 n with n|n
  ·exact z03 (u x n) e
  ·exact z03 (v x n) e.symm
 refine⟨?_,?_,rfl,?_⟩
 ·rw[List.pairwise_append,List.pairwise_cons];refine⟨p.1,⟨v,p.2.1⟩,fun a ha b hb=>?_⟩;rcases List.mem_cons.1 hb with rfl|hb
  ·exact u a ha
  ·exact p.2.2 a ha b hb
 ·intro y d;rcases List.mem_append.1 d with d|d
  ·exact h.pl y (by simp[d])
  ·rcases List.mem_cons.1 d with rfl|d
   ·show []=plK (g.take i) k;symm;unfold plK;rw[List.filter_eq_nil_iff];intro j _ m;cases e:(g.take i)[j]? with
    |none=>rw[e]at m;simp at m
    |some o=>
      rw[e]at m;simp at m;exact A ((h.mem k).2 (.inr ⟨o,List.mem_of_getElem? e,m⟩))
   ·exact h.pl y (by simp[d])
 ·intro k';rw[←h.mem k'];constructor
  ·rintro⟨y,d,e⟩;rcases List.mem_append.1 d with d|d
   ·exact .inr ⟨y,by simp[d],e⟩
   ·rcases List.mem_cons.1 d with rfl|d
    ·exact .inl e.symm
    ·exact .inr ⟨y,by simp[d],e⟩
  ·rintro(rfl|⟨y,d,e⟩)
   ·exact⟨_,List.mem_append.2 (.inr (List.mem_cons_self ..)),rfl⟩
   ·rcases List.mem_append.1 d with d|d
    ·exact⟨y,by simp[d],e⟩
    ·exact⟨y,by simp[d],e⟩
theorem KeyD.old {a:List OpV}{i:Nat}{d:List (List UInt8)}{e b:List PE}{x:PE}(h:KeyD a i d (e++x::b)):MidK a i d e x b x.key:=
 ⟨h.up,h.pl,rfl,fun k'=>by
  rw[←h.mem k'];constructor
  ·exact .inr
  ·rintro(rfl|h)
   ·exact⟨x,by simp,rfl⟩
   ·exact h⟩
theorem MidK.next {j:List OpV}{i:Nat}{z:List (List UInt8)}{n m:List PE}{x r:PE}{k:List UInt8}{o:OpV}(h:MidK j i z n x m k)(A:j[i]?=some o)(t:o.key=k)(s:r.key=k)(B:r.pl=x.pl++[i]):KeyD j (i+1) z (n++r::m):=by
 have l:=List.pairwise_append.1 h.up;have p:=List.pairwise_cons.1 l.2.1;have w:∀y∈n,y.key≠k:=fun y d e=>z03 (l.2.2 y d x (by simp)) (by rw[h.key];exact e);have v:∀y∈m,y.key≠k:=fun y d e=>z03 (p.1 y d) (by rw[h.key];exact e.symm);have u:=fun k'=>zEa A k';have C:j.take (i+1)=j.take i++[o]:=by rw[List.take_add_one,A];rfl
 refine⟨?_,?_,?_⟩
 ·rw[List.pairwise_append,List.pairwise_cons];refine⟨l.1,⟨fun y d=>by rw[s,←h.key];exact p.1 y d,p.2⟩,fun a ha b hb=>?_⟩;rcases List.mem_cons.1 hb with rfl|hb
  ·rw[s,←h.key];exact l.2.2 a ha x (by simp)
  ·exact l.2.2 a ha b (by simp[hb])
 ·intro y d;rcases List.mem_append.1 d with d|d
  ·rw[u,if_neg (fun e=>w y d (by rw[←t];exact e.symm)),List.append_nil];exact h.pl y (by simp[d])
  ·rcases List.mem_cons.1 d with rfl|d
   ·rw[u,s,if_pos t,B,h.pl x (by simp),h.key]
   ·rw[u,if_neg (fun e=>v y d (by rw[←t];exact e.symm)),List.append_nil];exact h.pl y (by simp[d])
 ·intro k';have D:=h.mem k';have E:(∃y∈n++r::m,y.key=k')↔(∃y∈n++x::m,y.key=k'):=by
   constructor
   ·rintro⟨y,d,e⟩;rcases List.mem_append.1 d with d|d
    ·exact⟨y,by simp[d],e⟩
    ·rcases List.mem_cons.1 d with rfl|d
     ·exact⟨x,by simp,by rw[h.key,←e,s]⟩
     ·exact⟨y,by simp[d],e⟩
   ·rintro⟨y,d,e⟩;rcases List.mem_append.1 d with d|d
    ·exact⟨y,by simp[d],e⟩
    ·rcases List.mem_cons.1 d with rfl|d
     ·exact⟨r,by simp,by rw[s,←e,h.key]⟩
     ·exact⟨y,by simp[d],e⟩
  rw[E,D,C];constructor
  ·rintro(rfl|h|⟨q,g,e⟩)
   ·exact .inr ⟨o,by simp,t⟩
   ·exact .inl h
   ·exact .inr ⟨q,by simp[g],e⟩
  ·rintro(h|⟨q,g,e⟩)
   ·exact .inr (.inl h)
   ·rcases List.mem_append.1 g with g|g
    ·exact .inr (.inr ⟨q,g,e⟩)
    ·rw[List.mem_singleton]at g;subst g;exact .inl (by rw[←e,t])
theorem KeyD.ends {m:List UInt8}{a:List OpV}{L:List PE}(h:KeyD a a.length (if m=sKv∨m=sSet then []else [[]]) L)(j:¬(m=sKv∨m=sSet)→∀o∈a,o.key=[]):L.map (·.key)=zQk m a∧∀x∈L,x.pl=plK a x.key:=by
 obtain⟨i,d,b⟩:=h;rw[List.take_length]at d b;refine⟨?_,d⟩;have g:(L.map (·.key)).Pairwise (fun x y=>x<y):=by rw[List.pairwise_map];exact i
 unfold zQk;by_cases c:m=sKv∨m=sSet
 ·rw[if_pos c];refine zx1 g (zIv a) (fun k=>?_);rw[zef,List.mem_map,b k,if_pos c];simp
 ·rw[if_neg c];refine zx1 g (by simp) (fun k=>?_);rw[List.mem_map,b k,if_neg c];constructor
  ·rintro(h|⟨o,l,e⟩)
   ·exact h
   ·rw[←e,j c o l];simp
  ·exact .inl
theorem z9m (m:List UInt8){a:List OpV}(h:a.length≤1000):(zQk m a).length≤1000:=by
 unfold zQk;split
 ·have:=srch.sortedU_len a;omega
 ·simp
def zCEn (x:PE):List Value:=[.string ⟨x.key.toArray⟩,.slice x.va x.pl.length x.vc]
def peRow (L:List PE):List Value:=L.flatMap zCEn
def PE.own (x:PE):Option Nat:=(Value.slice x.va x.pl.length x.vc).ownBlock
theorem z4C (A B:List PE):peRow (A++B)=peRow A++peRow B:=by simp[peRow]
theorem zVr (L:List PE):(peRow L).length=L.length*2:=by
 induction L with
 |nil=>rfl
 |cons x r ih=>rw[show peRow (x::r)=zCEn x++peRow r by simp[peRow],zJ,ih];simp[zCEn];omega
theorem zI9 (L:List PE)(i:Nat)(x:PE)(h:L[i]?=some x):(peRow L)[i*2]?=some (.string ⟨x.key.toArray⟩)∧(peRow L)[i*2+1]?=some (.slice x.va x.pl.length x.vc):=by
 induction L generalizing i with
 |nil=>simp at h
 |cons y r ih=>
   rw[show peRow (y::r)=zCEn y++peRow r by simp[peRow]];have d:(zCEn y).length=2:=rfl;cases i with
   |zero=>
     simp at h;subst h;exact⟨rfl,rfl⟩
   |succ i=>
     obtain⟨a,b⟩:=ih i (by simpa using h);rw[List.getElem?_append_right (by omega),List.getElem?_append_right (by omega),d,show(i+1)*2-2=i*2 by omega,show(i+1)*2+1-2=i*2+1 by omega];exact⟨a,b⟩
structure PP (w:World)(base:Nat)(a:Option Addr)(c:Nat)(L:List PE):Prop where
 row:w.ownsRow base 103 2 (.slice a L.length c) L.length (peRow L)
 at_:∀x∈L,w.ownsRow base 3 1 (.slice x.va x.pl.length x.vc) x.pl.length (zea x.pl)
 sep:L.Pairwise (fun x y=>∀q,x.own=some q→y.own≠some q)
theorem PP.on {w w':World}{b:Nat}{a:Option Addr}{c:Nat}{L:List PE}(h:PP w b a c L)(k:Below w.heap.size w w'):PP w' b a c L:=
 ⟨zmP h.row (Kept.of_below (S:=[]) k) (by simp),fun x hx=>zmP (h.at_ x hx) (Kept.of_below (S:=[]) k) (by simp),h.sep⟩
theorem PP.cells {w:World}{d:Nat}{a:Option Addr}{c:Nat}{L:List PE}(h:PP w d a c L){i:Nat}{x:PE}(k:L[i]?=some x):∃g,a=some ⟨g,0,none⟩∧g<w.heap.size∧d≤g∧L.length≤c∧w.cell? ⟨g,i*2,none⟩=some (.string ⟨x.key.toArray⟩)∧w.cell? ⟨g,i*2+1,none⟩=some (.slice x.va x.pl.length x.vc)∧w.frozen? ⟨g,i*2+1,none⟩=false:=by
 have t:=(zB k).1;obtain⟨m,q⟩:=zI9 L i x k;rcases zzD h.row with ⟨_,e⟩|⟨g,s,e,p,o,l⟩
 ·omega
 ·injection e with e _ ec;subst e;subst ec;have c0:=h.row.cells (g:=g) rfl _ _ m;have c1:=h.row.cells (g:=g) rfl _ _ q;rw[Addr.add_lit,Nat.zero_add]at c0 c1;refine⟨g,rfl,l,o,p,c0,c1,?_⟩;rcases h.row.2 with ⟨b,_⟩|⟨u,n,r,b,_,j,_⟩
  ·cases b
  ·injection b with b;injection b with b;injection b with b;subst b;exact zBn j _
theorem PP.ends {w:World}{e:Nat}{a:Option Addr}{c:Nat}{L:List PE}{d:List OpV}{K:List (List UInt8)}(h:PP w e a c L)(hK:L.map (·.key)=K)(q:∀x∈L,x.pl=plK d x.key):PtAt w a d K:=by
 subst hK;intro i k b;rw[List.getElem?_map]at b;cases hx:L[i]? with
 |none=>rw[hx]at b;cases b
 |some x=>
   rw[hx]at b;injection b with b;subst b;obtain⟨g,o,n,_,_,p,l,_⟩:=h.cells hx;have m:=List.mem_of_getElem? hx;have j:=h.at_ x m;rw[q x m]at l j;exact⟨g,x.va,x.vc,o,n,p,l,z2d j⟩
theorem zFZ {w:World}{b a:Nat}{e:TypeId}{d:Nat}{v:Value}{n:Nat}{i:List Value}(j:b≤a)(h:w.ownsRow a e d v n i):w.ownsRow b e d v n i:=
 ⟨h.1,h.2.imp id (fun⟨g,cap,cur,hv,hbg,r⟩=>⟨g,cap,cur,hv,Nat.le_trans j hbg,r⟩)⟩
theorem zEg1 (L:List PE):∀u∈peRow L,u.oneCell'=true:=by
 intro u b;obtain⟨x,_,a⟩:=List.mem_flatMap.1 b;simp[zCEn]at a;rcases a with rfl|rfl<;>rfl
theorem PP.ins {W:World} {w:Nat} {a:Option Addr} {c:Nat} {b d:List PE} (k:List UInt8) (h:PP W w a c (b++d)) (hb:w≤W.heap.size) (hl:(b++d).length≤2000) (F H:Value)
 (aa:(b=[]∧F=.slice none 0 0)∨∃g c1,a=some ⟨g,0,none⟩∧F=.slice (some ⟨g,0,none⟩) b.length c1) (ag:(d=[]∧H=.slice none 0 0)∨∃q o,H=.slice (some q) d.length o∧(d≠[]→∃g,a=some ⟨g,0,none⟩∧q=⟨g,b.length*2,none⟩)):
 ∃s c1 e v B i A o m,(Builtin.append_ #[92,92] 92 #[.slice none 0 0,F]).run prog W=.ok (.slice s b.length c1) e∧Below W.heap.size W e∧
  (Builtin.append_ #[92,92] 92 #[.slice s b.length c1,.slice (some ⟨e.heap.size,0,none⟩) 1 1]).run prog (e.alloc (.cells #[.string ⟨k.toArray⟩,.slice none 0 0] 103))=.ok (.slice v (b.length+1) B) i∧
  (Builtin.append_ #[92,92] 92 #[.slice v (b.length+1) B,H]).run prog i=.ok (.slice A (b.length+1+d.length) o) m∧PP m w A o (b++⟨k,none,0,[]⟩::d)∧Below W.heap.size W m:=by
 obtain⟨G,l,J,L,K⟩:=info_parts zsv;rw[zJ]at hl;have C:∀g,a=some ⟨g,0,none⟩→g<W.heap.size∧(∀j u,(peRow b)[j]?=some u→W.cell? ⟨g,j,none⟩=some u)∧(∀j u,(peRow d)[j]?=some u→W.cell? ⟨g,b.length*2+j,none⟩=some u):=by
  rintro g rfl;refine⟨(h.row.lt g rfl).2,fun j u hj=>?_,fun j u hj=>?_⟩
  ·have:=h.row.cells (g:=g) rfl j u (by rw[z4C,List.getElem?_append_left (zB hj).1];exact hj);rw[Addr.add_lit,Nat.zero_add]at this;exact this
  ·have:=h.row.cells (g:=g) rfl (b.length*2+j) u (by rw[z4C,List.getElem?_append_right (by rw[zVr];omega),zVr,Nat.add_sub_cancel_left];exact hj);rw[Addr.add_lit,Nat.zero_add]at this;exact this
 obtain⟨s,c1,e,ab,M,D⟩:∃s c1 e,(Builtin.append_ #[92,92] 92 #[.slice none 0 0,F]).run prog W=.ok (.slice s b.length c1) e∧e.ownsRow W.heap.size 103 2 (.slice s b.length c1) b.length (peRow b)∧Below W.heap.size W e:=by
  rcases aa with ⟨rfl,rfl⟩|⟨g,Q,N,rfl⟩
  ·exact⟨none,0,W,run_append_owned_none (P:=prog) W W.heap.size 92 92 103 G 2 underlying92 l (.slice none 0 0) 0 [] (World.ownsRow_nil _ _ _ _),World.ownsRow_nil _ _ _ _,zD⟩
  ·obtain⟨v7,V,O,z,R,_⟩:=run_append_own (P:=prog) W W.heap.size 92 92 103 G _ 2 40 underlying92 l J L K rfl (by decide) (.slice none 0 0) 0 [] (World.ownsRow_nil _ _ _ _) ⟨g,0,none⟩ b.length Q (peRow b) (zVr b) (fun j u hj=>by rw[Addr.add_lit,Nat.zero_add];exact(C g N).2.1 j u hj) (zEg1 b) (by unfold maxLen;omega) (by omega) zH;rw[Nat.zero_add,List.nil_append]at z;obtain⟨a',c',rfl⟩:=zIW z;exact⟨a',c',V,O,z,((Kept.refl [] W).grownS R (fun g' hg'=>by simp[Value.ownBlock]at hg')).below zH (by simp)⟩
 obtain⟨v,B,i,ah,t,ad⟩:=zaZ e W.heap.size s b.length c1 (peRow b) k none 0 0 M (by omega) D.size;have r:Below W.heap.size W i:=D.trans (ad.below D.size (fun q hq=>(M.lt q (by simpa using hq)).1));have ae:peRow b++[.string ⟨k.toArray⟩,.slice none 0 0]=peRow (b++[⟨k,none,0,[]⟩]):=by rw[z4C];rfl
 rw[ae]at t;have Y:peRow (b++[⟨k,none,0,[]⟩])++peRow d=peRow (b++⟨k,none,0,[]⟩::d):=by rw[←z4C];simp
 have X:(b++(⟨k,none,0,[]⟩:PE)::d).length=b.length+1+d.length:=by simp;omega
 obtain⟨A,o,m,Z,af,E⟩:∃A o m,(Builtin.append_ #[92,92] 92 #[.slice v (b.length+1) B,H]).run prog i=.ok (.slice A (b.length+1+d.length) o) m∧m.ownsRow W.heap.size 103 2 (.slice A (b.length+1+d.length) o) (b.length+1+d.length) (peRow (b++⟨k,none,0,[]⟩::d))∧Below W.heap.size W m:=by
  rcases ag with ⟨rfl,rfl⟩|⟨q,Q,rfl,N⟩
  ·exact⟨v,B,i,run_append_owned_none (P:=prog) i W.heap.size 92 92 103 G 2 underlying92 l _ _ _ t,t,r⟩
  ·obtain⟨v7,V,O,z,R,_⟩:=run_append_own (P:=prog) i W.heap.size 92 92 103 G _ 2 40 underlying92 l J L K rfl (by decide) _ _ _ t q d.length Q (peRow d) (zVr d) (fun j u hj=>by
    obtain⟨g,I,rfl⟩:=N (by rintro rfl;simp[peRow]at hj);rw[Addr.add_lit];exact(r.cell (p:=⟨g,b.length*2+j,none⟩) (C g I).1).trans ((C g I).2.2 j u hj)) (zEg1 d) (by unfold maxLen;omega) (by omega) r.size
   rw[Y]at z;obtain⟨a',c',rfl⟩:=zIW z;exact⟨a',c',V,O,z,r.trans (((Kept.refl (Value.slice v (b.length+1) B).ownBlock.toList i).grownS R (fun g' hg'=>by rw[hg'];simp)).below r.size (fun q hq=>(t.lt q (by simpa using hq)).1))⟩
 refine⟨s,c1,e,v,B,i,A,o,m,ab,D,ah,Z,⟨?_,?_,?_⟩,E⟩
 ·rw[X];exact zFZ hb af
 ·intro x n;rcases List.mem_append.1 n with n|n
  ·exact zmP (h.at_ x (by simp[n])) (Kept.of_below (S:=[]) E) (by simp)
  ·rcases List.mem_cons.1 n with rfl|n
   ·exact World.ownsRow_nil _ _ _ _
   ·exact zmP (h.at_ x (by simp[n])) (Kept.of_below (S:=[]) E) (by simp)
 ·have U:=List.pairwise_append.1 h.sep;rw[List.pairwise_append,List.pairwise_cons];refine⟨U.1,⟨fun y _ q hq=>by simp[PE.own,Value.ownBlock]at hq,U.2.1⟩,fun x n y hy q hq=>?_⟩;rcases List.mem_cons.1 hy with rfl|hy
  ·simp[PE.own,Value.ownBlock]
  ·exact U.2.2 x n y hy q hq
theorem PP.put {W o:World}{n g c d:Nat}{j:Option Addr}{b m:List PE}{x:PE}{i:Nat}(h:PP W n (some ⟨g,0,none⟩) c (b++x::m))(J:Kept (Value.slice x.va x.pl.length x.vc).ownBlock.toList W o)(K:o.ownsRow n 3 1 (.slice j (x.pl.length+1) d) (x.pl.length+1) (zea x.pl++[.int .i64 (i:Int)]))(G:∀q,j=some q→x.own=some q.block∨W.heap.size≤q.block):
 o.cell? ⟨g,b.length*2+1,none⟩=some (.slice x.va x.pl.length x.vc)∧o.frozen? ⟨g,b.length*2+1,none⟩=false∧
 PP (o.setCell ⟨g,b.length*2+1,none⟩ (.slice j (x.pl.length+1) d)) n (some ⟨g,0,none⟩) c (b++⟨x.key,j,d,x.pl++[i]⟩::m):=by
 have P:x∈b++x::m:=by simp
 have H:=h.at_ x P;have r:=zmP h.row J (jne h.row H (by decide));have F:(b++x::m)[b.length]?=some x:=by simp
 have M:PP o n (some ⟨g,0,none⟩) c (b++x::m)∨True:=.inr trivial;obtain⟨R,L⟩:=zI9 _ _ _ F;have c1:=r.cells (g:=g) rfl _ _ L;rw[Addr.add_lit,Nat.zero_add]at c1;have I:o.frozen? ⟨g,b.length*2+1,none⟩=false:=by
  rcases r.2 with ⟨k,_⟩|⟨S,O,Q,k,_,D,_⟩
  ·cases k
  ·injection k with k;injection k with k;injection k with k;subst k;exact zBn D _
 have B:Kept [g] o (o.setCell ⟨g,b.length*2+1,none⟩ (.slice j (x.pl.length+1) d)):=(Kept.refl _ _).setCell (p:=⟨g,b.length*2+1,none⟩) (Or.inl (by simp)) _;have hR:=zUj r (b.length*2+1) (.slice j (x.pl.length+1) d) (zB L).1;have E:(peRow (b++x::m)).set (b.length*2+1) (.slice j (x.pl.length+1) d)=peRow (b++⟨x.key,j,d,x.pl++[i]⟩::m):=by
  rw[z4C,z4C,List.set_append_right _ _ (by rw[zVr];omega),zVr,Nat.add_sub_cancel_left];congr 1;show _=[Value.string ⟨x.key.toArray⟩,.slice j (x.pl++[i]).length d]++peRow m;rw[zJ];rfl
 rw[E]at hR;have w:=List.pairwise_append.1 h.sep;have C:=List.pairwise_cons.1 w.2.1;have s:∀y∈b++m,∀q,y.own=some q→(Value.slice j (x.pl.length+1) d).ownBlock≠some q∧x.own≠some q:=by
  intro y a q l;have v:y∈b++x::m:=by rcases List.mem_append.1 a with a|a<;>simp[a]
  have A:x.own≠some q:=by
   rcases List.mem_append.1 a with a|a
   ·exact w.2.2 y a x (by simp) q l
   ·intro e;exact C.1 y a q e l
  refine⟨fun e=>?_,A⟩;cases j with
  |none=>cases e
  |some q7=>
    injection e with e;rcases G q7 rfl with k|k
    ·rw[e]at k;exact A k
    ·have:=(h.at_ y v).lt q l;omega
 have t:∀y∈b++m,(o.setCell ⟨g,b.length*2+1,none⟩ (.slice j (x.pl.length+1) d)).ownsRow n 3 1 (.slice y.va y.pl.length y.vc) y.pl.length (zea y.pl):=by
  intro y a;have v:y∈b++x::m:=by rcases List.mem_append.1 a with a|a<;>simp[a]
  have k:=zmP (h.at_ y v) J (fun q l hm=>by
   rw[Option.mem_toList]at hm;exact(s y a q l).2 hm)
  exact zmP k B (fun q l=>by
   have:=jne k r (by decide) q l;simpa [Value.ownBlock]using this)
 refine⟨c1,I,?_,?_,?_⟩
 ·have N:(b++(⟨x.key,j,d,x.pl++[i]⟩:PE)::m).length=(b++x::m).length:=by simp
  rw[N];exact hR
 ·intro y a;rcases List.mem_append.1 a with a|a
  ·exact t y (by simp[a])
  ·rcases List.mem_cons.1 a with rfl|a
   ·show(o.setCell _ _).ownsRow n 3 1 (.slice j (x.pl++[i]).length d) (x.pl++[i]).length (zea (x.pl++[i]));rw[zyv,zJ];exact zmP K B (fun q l=>by
     have:=jne K r (by decide) q l;simpa [Value.ownBlock]using this)
   ·exact t y (by simp[a])
 ·rw[List.pairwise_append,List.pairwise_cons];have u:PE.own ⟨x.key,j,d,x.pl++[i]⟩=(Value.slice j (x.pl.length+1) d).ownBlock:=by cases j<;>rfl
  refine⟨w.1,⟨fun y a q l e=>?_,C.2⟩,fun y a z hz q l=>?_⟩
  ·rw[u]at l;exact(s y (by simp[a]) q e).1 l
  ·rcases List.mem_cons.1 hz with rfl|hz
   ·rw[u];exact(s y (by simp[a]) q l).1
   ·exact w.2.2 y a z (by simp[hz]) q l
theorem zyl (m:List UInt8)(hm:five m)(y n:Option Addr)(C s:Nat)(a Q:List OpV)(d:List UInt8)(h:List Nat)(t B:Bool)(b many:Nat)(O:Cf)(w:World)(v:OAt w y a)(Y:IAt w n (plK a d))(hK:Known a)(V:zrE a h Q)(S:h.Nodup)(M:Q.length≤1000)(E:t=true→B=false∧h.length=b)(P:zdl (plK a d) (flt d a) (cf0 m (flt d a)) h=some O):
 Calls prog 42 #[.string ⟨m.toArray⟩,.slice y a.length C,.agg #[.string ⟨d.toArray⟩,.slice n (plK a d).length s],vdAg t B b many,.string ⟨(idsT Q).toArray⟩] w fun e w'=>e=.returned (.bool true)∧Below w.heap.size w w':=by
 have H:=fun w v=>ids_any y C a Q h w v V S hK.few M hK.ids hK.uniq;have X:h.length≤1000:=by rw[V.1];exact M
 have I:=fun ra rc w v hp hr=>zi5 m hm y n ra C s rc a (flt d a) (plK a d) h w v hp hr (zqz a d) (z4A hK.few d) hK.few X (zOl hK.ok d) O P;generalize (plK a d).length=vn at*;unfold vdAg;obtain⟨u,ab,x,L,D⟩:∃u,(w.alloc (.cells #[.string ⟨d.toArray⟩,.slice n vn s] 103)).alloc (.cells #[.bool t,.bool B,.int .i64 (b:Int),.int .i64 (many:Int)] 106)=u∧Below w.heap.size w u∧u.heap[w.heap.size]?=some (.cells #[.string ⟨d.toArray⟩,.slice n vn s] 103 (0,0))∧u.heap[w.heap.size+1]?=some (.cells #[.bool t,.bool B,.int .i64 (b:Int),.int .i64 (many:Int)] 106 (0,0)):=by
  refine⟨_,rfl,(zA _ _).alloc (by simp) _,?_,ziF _ _ _ (by simp)⟩;rw[zD1 _ _ _ (by simp)];exact ziF _ _ _ rfl
 have l:Hid _:=(⟨x,L,D,v,Y⟩:_∧_∧_∧_∧_);have A:=H u (v.below x);clear x L D H;go_enter func42,ntmps42;go_wp2_with fail;refine A.mono ?_;rintro e o ⟨U,c1,rfl,K,r⟩;have p:=(r.block _ (zBq l.out.2.2.1)).trans l.out.2.2.1;have J:=(r.block _ (zBq l.out.2.1)).trans l.out.2.1;have v0:o.cell? ⟨w.heap.size+1,0,none⟩=some (.bool t):=zBk p 0;have v1:o.cell? ⟨w.heap.size+1,1,none⟩=some (.bool B):=zBk p 1;have v2:o.cell? ⟨w.heap.size+1,2,none⟩=some (.int .i64 (b:Int)):=zBk p 2;have z:Below w.heap.size w o:=l.out.1.trans (r.mono l.out.1.size);have i:Hid _:=(⟨J,z,z2d K⟩:_∧_∧_);clear p J z K r A;have key:∀W:World,Below o.heap.size o W→W.cell? ⟨w.heap.size,1,none⟩=some (.slice n vn s)∧Calls prog 79 #[.string ⟨m.toArray⟩,.slice y a.length C,.slice n vn s,.slice U h.length c1] W fun e w'=>e=.returned (.tuple #[cAg O,.bool true])∧Below W.heap.size W w':=fun W hW=>by
  have G:Below w.heap.size w W:=i.out.2.1.trans (hW.mono i.out.2.1.size);exact⟨zBk ((hW.block _ (zBq i.out.1)).trans i.out.1) 1,I U c1 W (l.out.2.2.2.1.below G) (l.out.2.2.2.2.below G) (i.out.2.2.below hW)⟩
 have F:Hid _:=key;clear key I;unfold cAg at F;obtain⟨R,j⟩:=F.out o (zD);cases t
 ·go_wp2_with fail;refine j.mono ?_;rintro e N ⟨rfl,k⟩;have g:Hid (Below w.heap.size w N):=i.out.2.1.trans (k.mono i.out.2.1.size);clear j k R;go_wp2_with fail;go_ret
  first|exact⟨rfl,g.out⟩|exact⟨rfl,g.out.trans (zA _ _ |>.mono g.out.size)⟩
 ·obtain⟨rfl,q⟩:=E rfl;have aa:((h.length:Int)==(b:Int))=true:=by simp[q]
  have Z:((h.length:Int) != (b:Int))=false:=by simp[q]
  have ad:Hid _:=q;clear q E;go_wp2_with fail;refine j.mono ?_;rintro e N ⟨rfl,k⟩;have g:Hid (Below w.heap.size w N):=i.out.2.1.trans (k.mono i.out.2.1.size);clear j k R;go_wp2_with fail;go_ret
  first|exact⟨rfl,g.out⟩|exact⟨rfl,g.out.trans (zA _ _ |>.mono g.out.size)⟩
theorem ztf {a:List Nat}{j x:Nat}(b:a[j]?=some x)(p:Nat→Bool):(a.take (j+1)).filter p=(a.take j).filter p++(if p x=true then [x]else []):=by
 rw[List.take_add_one,b,Option.toList_some,List.filter_append];cases h:p x
 ·rw[List.filter_cons_of_neg (by simp[h])];rfl
 ·rw[List.filter_cons_of_pos h];rfl
def zN8 (m:List UInt8)(oa:Option Addr)(oc:Nat)(ops:List OpV)(K:List (List UInt8)):Prop:=
 ∀w,OAt w oa ops→Calls prog 37 #[.string ⟨m.toArray⟩,.slice oa ops.length oc] w fun e w'=>∃a c,e=.returned (.slice a K.length c)∧PtAt w' a ops K∧Below w.heap.size w w'
theorem zgb (part:List Nat)(x:Nat):∃z,z04 part x=z∧((x∈part∧0≤z)∨(x∉part∧z<0)):=by
 refine⟨_,rfl,?_⟩;unfold z04;cases h:part.idxOf? x with
 |none=>exact .inr ⟨List.idxOf?_eq_none_iff.1 h,by simp⟩
 |some k=>
   have a:x∈part:=by
    apply Decidable.byContradiction;intro b;rw[List.idxOf?_eq_none_iff.2 b]at h;cases h
   exact .inl ⟨a,by simp⟩
theorem zJZ (m:List UInt8) (hm:five m) (E:Option Addr) (X:Nat) (b Q:List OpV) (K:List (List UInt8)) (bg:K.length≤1000) (aN:zN8 m E X b K) (d:List Nat) (w:World) (G:OAt w E b) (hK:Known b) (hQ:zrE b d Q) (a5:d.Nodup) (ar:Q.length≤1000) (aS:z8Z Q)
 (ha:∀k∈K,∃s,zdl (plK b k) (flt k b) (cf0 m (flt k b)) (d.filter (fun i=>decide (i∈plK b k)))=some s∧z0d (flt k b) s.1=true):
 Calls prog 40 #[.string ⟨m.toArray⟩,.slice E b.length X,.string ⟨(idsT Q).toArray⟩] w fun e w'=>e=.returned (.bool true)∧Below w.heap.size w w':=by
 have aA:=ids_any E X b Q d w G hQ a5 hK.few ar hK.ids hK.uniq;have bf:d.length≤1000:=by rw[hQ.1];exact ar
 have aE:=fun ra rc w G hr=>zS4 E ra X rc b Q d w G hr hQ ar aS;have av:Hid (OAt w E b):=G;have a2:Hid _:=aN;have HA:Hid _:=ha;have aa:Hid _:=hK;clear aN ha G hK;go_enter func40,ntmps40;go_wp2_with fail;refine aA.mono ?_;rintro e w1 ⟨a1,c1,rfl,ad,aq⟩;have ai:=aE a1 c1 w1 (av.out.below aq) (z2d ad);have H1:Hid (Below w.heap.size w w1∧IAt w1 a1 d):=⟨aq,z2d ad⟩;clear aA aE aq ad;go_wp2_with fail;refine ai.mono ?_;rintro e w2 ⟨rfl,ag⟩;have B2:Hid (Below w.heap.size w w2):=H1.out.1.trans (ag.mono H1.out.1.size);have R2:Hid (IAt w2 a1 d):=H1.out.2.below ag;have au:=a2.out w2 (av.out.below B2.out);clear ai ag H1;go_wp2_with fail;refine au.mono ?_;rintro e r ⟨a3,c3,rfl,aI,ak⟩;have B3:Hid (Below w.heap.size w r):=B2.out.trans (ak.mono B2.out.size);have R3:Hid (IAt r a1 d):=R2.out.below ak;have HP:Hid (PtAt r a3 b K):=aI;clear au ak aI R2 B2;go_wp2_with fail;go_loopw [11] (fun s11 wr=>∃(i:Nat),s11=.int .i64 (i:Int)∧i≤K.length∧Hid (Below r.heap.size r wr)) (fun s11 _=>K.length-(intOf s11).toNat)
 case atStart=>exact⟨0,rfl,by omega,zD⟩
 case round=>
  obtain⟨i,rfl,hi,HB⟩:=hrel;by_cases hin:i<K.length
  ·have aW:(i:Int)<(K.length:Int):=(by omega);have bi:IntKind.i64.wrap ((i:Int)+1)=(i:Int)+1:=(by go_arith);obtain⟨k,hk⟩:∃k,K[i]?=some k:=⟨_,zC hin⟩;obtain⟨s,Y,aF⟩:=HA.out k (List.mem_of_getElem? hk);obtain⟨g,A,D,rfl,hg,_,p1,aP⟩:=HP.out i k hk;have J:=zqz b k;have aw:=z4A aa.out.few k;have ah:=zOl aa.out.ok k;generalize plK b k=part at*;generalize flt k b=P at*;obtain⟨own,H⟩:∃own,d.filter (fun i=>decide (i∈part))=own:=⟨_,rfl⟩;rw[H]at Y;have a0:own.length≤1000:=(by rw[←H];have:=List.length_filter_le (fun i=>decide (i∈part)) d;omega);have aT:Hid _:=H;have aU:part.length≤1000:=(by rw[J.1];exact aw);have al:=fun x w hp=>zVC A D part x w hp aU;have ax:=fun ra rc w G hp hr=>zi5 m hm E A ra X D rc b P part own w G hp hr J aw aa.out.few a0 ah s Y;have am:okC P s:=(zPe J.1 _ _ rfl s Y).ok ah (z7m m P);have ae:=fun w G hp=>zu4 E A X D b P part s.1 w G hp J am.1 aw;rw[aF]at ae;unfold cAg at ax;have HC:Hid (∀V:World,Below r.heap.size r V→V.cell? ⟨g,i*2+1,none⟩=some (.slice A part.length D)∧IAt V A part∧OAt V E b∧IAt V a1 d):=fun V hV=>⟨(hV.cell (p:=⟨g,i*2+1,none⟩) hg).trans p1,aP.below hV,av.out.below (B3.out.trans (hV.mono B3.out.size)),R3.out.below hV⟩;have aY:Hid _:=ax;have a8:Hid _:=ae;have a6:Hid _:=al;clear Y aF H p1 aP J ah am ax ae al hk;generalize part.length=vn at*;obtain⟨u,rfl⟩:∃u:World,u=wr:=⟨_,rfl⟩;go_wp2_with fail;go_loopw [12,13] (fun s12 s13 wx=>∃(j n:Nat) (a:Option Addr) (c:Nat),s12=.slice a n c∧s13=.int .i64 (j:Int)∧j≤d.length∧n≤1000∧Hid (n=((d.take j).filter (fun i=>decide (i∈part))).length∧wx.ownsRow u.heap.size 3 1 (.slice a n c) n (zea ((d.take j).filter (fun i=>decide (i∈part)))))∧Hid (Below u.heap.size u wx)) (fun _ s13 _=>d.length-(intOf s13).toNat)
   case atStart=>exact⟨0,0,none,0,rfl,rfl,by omega,by omega,⟨rfl,World.ownsRow_nil _ _ _ _⟩,zD⟩
   case round=>
    obtain⟨j,n,a,c,rfl,rfl,hj,hn,HR,HX⟩:=hrel;have N:Hid (Below r.heap.size r wr):=HB.out.trans (HX.out.mono HB.out.size);obtain⟨p2,i2,o2,r2⟩:=HC.out wr N.out;by_cases hjl:j<d.length
    ·have aR:(j:Int)<(d.length:Int):=(by omega);have bh:IntKind.i64.wrap ((j:Int)+1)=(j:Int)+1:=(by go_arith);obtain⟨x,hx⟩:∃x,d[j]?=some x:=⟨_,zC hjl⟩;obtain⟨gr,rfl,bb,aC⟩:=r2 (by rintro rfl;simp at hx);have xk:=aC j x hx;have q:=ztf hx (fun i=>decide (i∈part));obtain⟨z,hz,aJ⟩:=zgb part x;have aK:Hid (∀V:World,Below wr.heap.size wr V→Calls prog 78 #[.slice A vn D,.int .i64 (x:Int)] V fun e w'=>e=.returned (.int .i64 z)∧Below V.heap.size V w'):=fun V hV=>by
      have h:=a6.out x V (i2.below hV);rw[hz]at h;exact h
     have aD:Hid (∀V:World,Below wr.heap.size wr V→V.cell? ⟨g,i*2+1,none⟩=some (.slice A vn D)∧V.cell? ⟨gr,j,none⟩=some (.int .i64 (x:Int))):=fun V hV=>⟨(HC.out V (N.out.trans (hV.mono N.out.size))).1,(hV.cell (p:=⟨gr,j,none⟩) bb).trans xk⟩;have M:Hid (Below wr.heap.size wr wr.drew):=(zD).drew;have F:=aK.out wr.drew M.out;have aM:Hid _:=q;have bc:Hid _:=aJ;clear aC r2 i2 o2 aK hz hx q aJ;go_wp2_with fail;go_cut [14] (fun a wx=>a=.int .i64 z∧Below wr.heap.size wr wx)
     case first=>
      go_region_held3 (fun w'=>w'.cell? ⟨g,i*2+1,none⟩=some (.slice A vn D)∧w'.cell? ⟨gr,j,none⟩=some (.int .i64 (x:Int))) (first|(with_reducible exact aj)|go_keep) (first
       | (go_at_call 78;refine F.mono ?_;rintro e C ⟨rfl,o⟩;have B:=M.out.trans o;have aj:=aD.out _ B;have bd:=srch.Hid.mk' B;clear o B F))
      go_wp2;go_meet;exact⟨rfl,bd.out⟩
     case rest=>
      obtain⟨rfl,o⟩:=hcut;obtain⟨s1,s2⟩:=aD.out wc o;obtain⟨v,hR⟩:=HR.out;have L:=zmP hR (Kept.of_below (S:=[]) o) (by simp);have t:Below u.heap.size u wc:=HX.out.trans (o.mono HX.out.size);rcases bc.out with ⟨y,af⟩|⟨y,af⟩
      ·have aX:decide (0≤z)=true:=(by simpa using af);obtain⟨a7,c7,w7,aB,R,aO⟩:=zla false wc u.heap.size a n c _ (x:Int) L (by omega) t.size;have aV:(Builtin.append_ #[101,101] 101 #[.slice a n c,.slice (some ⟨wc.heap.size,0,none⟩) 1 1]).run prog (wc.alloc (.cells #[.int .i64 (x:Int)] 3))=.ok (.slice a7 (n+1) c7) w7:=aB;have q:=aM.out;rw[if_pos (by simpa using y)]at q;rw[←zyv,←q]at R;have an:n+1≤1000∧n+1=((d.take (j+1)).filter (fun i=>decide (i∈part))).length:=by
        have h1:((d.take (j+1)).filter (fun i=>decide (i∈part))).length≤d.length:=Nat.le_trans (List.length_filter_le _ _) (by rw[List.length_take];omega);rw[q,zJ,←v]at h1⊢;simp at h1⊢;omega
       have ao:Hid _:=(⟨an.2,R⟩:_∧_);have aZ:=an.1;have I:Hid (Below u.heap.size u w7):=t.trans (aO.below t.size (fun g hg=>(L.lt g (by simpa using hg)).1));clear aB R aO o L t F p2 xk s1 q an v hR y;go_wp2_with (at_builtin;refine zOu rfl _ _ 101 rfl _ _ _ _ rfl rfl aV ?_);go_roundw
       case rel=>exact⟨j+1,n+1,a7,c7,rfl,by go_num,by omega,aZ,ao,I⟩
       case measure=>simp[intOf];omega
      ·have aX:decide (0≤z)=false:=(by simpa using af);have q:=aM.out;rw[if_neg (by simpa using y),List.append_nil]at q;have ao:Hid (n=((d.take (j+1)).filter (fun i=>decide (i∈part))).length∧wc.ownsRow u.heap.size 3 1 (.slice a n c) n (zea ((d.take (j+1)).filter (fun i=>decide (i∈part))))):=by
        show _∧_;rw[q];exact⟨v,L⟩
       have I:Hid (Below u.heap.size u wc):=t;clear o L t F p2 xk s1 q v hR y;go_wp2_with fail;go_roundw
       case rel=>exact⟨j+1,n,a,c,rfl,by go_num,by omega,hn,ao,I⟩
       case measure=>simp[intOf];omega
    ·obtain rfl:j=d.length:=(by omega);have aR:¬(d.length:Int)<(d.length:Int):=(by omega);obtain⟨v,az⟩:=HR.out;rw[List.take_length,aT.out]at v az;subst v;have aL:=aY.out a c wr o2 i2 (z2d az);clear r2 az;go_wp2_with fail;refine aL.mono ?_;rintro e C ⟨rfl,o⟩;have W:Below r.heap.size r C:=N.out.trans (o.mono N.out.size);obtain⟨l,be,aQ,ay⟩:∃l,C.alloc (.cells #[.string ⟨s.1.toArray⟩,.string ⟨s.2.toArray⟩] 160)=l∧Below C.heap.size C l∧l.heap[C.heap.size]?=some (.cells #[.string ⟨s.1.toArray⟩,.string ⟨s.2.toArray⟩] 160 (0,0)):=⟨_,rfl,zA _ _,ziF _ _ _ rfl⟩;have U:Below r.heap.size r l:=W.trans (aQ.mono W.size);obtain⟨p6,i6,o6,_⟩:=HC.out l U;have d0:l.cell? ⟨C.heap.size,0,none⟩=some (.string ⟨s.1.toArray⟩):=zBk ay 0;have Z:Hid _:=U;have aH:Hid (∀V:World,Below l.heap.size l V→Calls prog 80 #[.slice E b.length X,.slice A vn D,.string ⟨s.1.toArray⟩] V fun e w'=>e=.returned (.bool true)∧Below V.heap.size V w'):=fun V hV=>a8.out V (o6.below hV) (i6.below hV);have ba:=zBq ay;have a9:Hid (∀V:World,Below l.heap.size l V→V.cell? ⟨g,i*2+1,none⟩=some (.slice A vn D)∧V.cell? ⟨C.heap.size,0,none⟩=some (.string ⟨s.1.toArray⟩)):=fun V hV=>⟨(HC.out V (Z.out.trans (hV.mono Z.out.size))).1,(hV.cell (p:=⟨C.heap.size,0,none⟩) ba).trans d0⟩;have M:Hid (Below l.heap.size l l.drew):=(zD).drew;have ab:=aH.out l.drew M.out;clear aL o W aQ ay U i6 o6 i2 o2 aH;go_wp2_with fail;go_cut [17] (fun a wx=>a=.bool true∧Below l.heap.size l wx)
     case first=>
      go_region_held3 (fun w'=>w'.cell? ⟨g,i*2+1,none⟩=some (.slice A vn D)∧w'.cell? ⟨C.heap.size,0,none⟩=some (.string ⟨s.1.toArray⟩)) (first|(with_reducible exact aj)|go_keep) (first
       | (go_at_call 80;refine ab.mono ?_;rintro e w7 ⟨rfl,O⟩;have B:=M.out.trans O;have aj:=a9.out _ B;have I:=srch.Hid.mk' B;clear O B ab))
      go_wp2;go_meet;exact⟨rfl,I.out⟩
     case rest=>
      obtain⟨rfl,O⟩:=hcut;have a4:Hid (Below r.heap.size r wc):=Z.out.trans (O.mono Z.out.size);clear O ab p6 d0;go_wp2_with fail;go_roundw
      case rel=>exact⟨i+1,by go_num,by omega,a4⟩
      case measure=>simp[intOf];omega
  ·have aW:¬(i:Int)<(K.length:Int):=(by omega);go_wp2_with fail;go_ret;exact⟨rfl,B3.out.trans (HB.out.mono B3.out.size)⟩
end Go.Proofs.YtoeoinpaidhmcaaGreatDoor.jd
