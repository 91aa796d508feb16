/- Several texts in one. -/
import Derived.Test.YtbbkihekjdffpaaGreatDoorJdPh
import Derived.Laws.OwnMore
set_option maxHeartbeats 8000000
set_option maxRecDepth 100000
namespace Go.Proofs.YtbbkihekjdffpaaGreatDoor.jd
open Go.RowKit
open srch (flt zD5 z4U z1b zPi zMI)
theorem zef (l:List OpV)(k:List UInt8):k∈zD5 l↔∃o∈l,o.key=k:=by
 unfold zD5;rw[List.mem_mergeSort,zPi];unfold flt;rw[ne_eq,List.filter_eq_nil_iff];simp
theorem zIv (l:List OpV):(zD5 l).Pairwise (fun x y=>x<y):=by
 have h1:(zD5 l).Pairwise (fun x y=>decide (x≤y)=true):=by
  unfold zD5;exact List.pairwise_mergeSort (fun a b c h1 h2=>by simp at *;exact List.le_trans h1 h2) (fun a b=>by simp;exact List.le_total a b) _
 have h2:=zH0 l;refine(h1.and h2).imp ?_;rintro a b ⟨h3,h4⟩;simp at h3;by_cases h:a<b
 ·exact h
 ·exact absurd (List.le_antisymm h3 (List.not_lt.1 h)) h4
theorem zx1 {l l':List (List UInt8)}(h:l.Pairwise (fun x y=>x<y))(h':l'.Pairwise (fun x y=>x<y))(hm:∀k,k∈l↔k∈l'):l=l':=by
 have irr:∀a b:List UInt8,a<b→a≠b:=fun a b h e=>by subst e;exact List.lt_irrefl _ h
 have n1:l.Nodup:=h.imp (irr _ _);have n2:l'.Nodup:=h'.imp (irr _ _);refine List.Perm.eq_of_pairwise (le:=fun x y=>x<y) (fun a b _ _ h1 h2=>absurd (List.lt_trans h1 h2) (List.lt_irrefl _)) h h' ?_;exact(List.perm_ext_iff_of_nodup n1 n2).2 hm
open Tryz
open srch (vAg opAg tI OAt zOu idsT qKey z9l hexL hexB)
theorem zwn (k:List UInt8)(i:Nat)(c:UInt8)(h:k[i]?=some c):(⟨k.toArray⟩:ByteArray).extract i (i+1)=⟨#[c]⟩:=by
 rw[Lib.extract_eq];have h':=(zB h);obtain⟨hl,he⟩:=h';have e:(k.drop i).take 1=[c]:=by
  rw[List.drop_eq_getElem_cons hl,he];rfl
 simpa using e
theorem zba (n:Nat)(h:n<16):(⟨#[48,49,50,51,52,53,54,55,56,57,97,98,99,100,101,102]⟩:ByteArray).extract n (n+1)=⟨#[hexL.getD n 0]⟩:=by
 rcases n with _|_|_|_|_|_|_|_|_|_|_|_|_|_|_|_|n
 all_goals first|rfl|decide|omega
theorem zyq (k:List UInt8)(i:Nat)(c:UInt8)(h:k[i]?=some c):(k.take (i+1)).flatMap z9l=(k.take i).flatMap z9l++z9l c:=by
 obtain⟨hl,he⟩:=zB h;rw[List.take_succ_eq_append_getElem hl,List.flatMap_append,he];simp
theorem zth (k:List UInt8):(k.flatMap z9l).length≤6*k.length:=by
 induction k with
 |nil=>simp
 |cons c t ih=>
   have:(z9l c).length≤6:=by
    unfold z9l;split
    ·simp
    ·split<;>simp
   rw[List.flatMap_cons,zI,List.length_cons];omega
theorem zz5 (k:List UInt8)(w:World)(hk:k.length≤10000000):
 Calls prog 40 #[.string ⟨k.toArray⟩] w fun e w'=>e=.returned (.string ⟨(qKey k).toArray⟩)∧Below w.heap.size w w':=by
 go_enter func40,ntmps40;go_wp2_with fail;go_loopw [3,5] (fun s3 s5 wr=>∃(i:Nat),s3=.string ⟨((k.take i).flatMap z9l).toArray⟩∧s5=.int .i64 (i:Int)∧i≤k.length∧Hid (Below w.heap.size w wr)) (fun _ s5 _=>k.length-(intOf s5).toNat)
 case atStart=>exact⟨0,rfl,rfl,by omega,zD⟩
 case round=>
  obtain⟨i,rfl,rfl,hi,HB⟩:=hrel;obtain⟨O,hO⟩:∃O,(k.take i).flatMap z9l=O:=⟨_,rfl⟩;have hOl:O.length≤60000000:=by rw[←hO];have:=zth (k.take i);rw[List.length_take]at this;omega
  by_cases hin:i<k.length
  ·have hin':(i:Int)<(k.length:Int):=(by omega);obtain⟨c,hc⟩:∃c,k[i]?=some c:=⟨_,zC hin⟩;have HT:Hid (((k.take (i+1)).flatMap z9l)=O++z9l c):=(by rw[←hO];exact zyq k i c hc);have hsz:i<(⟨k.toArray⟩:ByteArray).size:=(by show i<k.toArray.size;simpa using hin);have hby:(⟨k.toArray⟩:ByteArray)[i]'hsz=c:=by
    show k.toArray[i]'(by simpa using hin)=c;simp;exact(zB hc).2
   have hex:=zwn k i c hc;have hwi:IntKind.i64.wrap ((i:Int)+1)=(i:Int)+1:=(by go_arith);have hcl:c.toNat<256:=c.toNat_lt;have hwc:IntKind.i64.wrap (c.toNat:Int)=(c.toNat:Int):=(by go_arith);rw[hO];clear hO;have hba:((⟨O.toArray⟩:ByteArray)++⟨#[92]⟩)++⟨#[c]⟩=⟨(O++[92,c]).toArray⟩:=(by apply ByteArray.ext;simp);have hsl:(⟨#[c]⟩:ByteArray).size=1:=rfl;by_cases h1:c.toNat=34
   ·have hq:Hid (z9l c=[92,c]):=(by unfold z9l;exact if_pos (.inl h1));have hb1:((c.toNat:Int)==34)=true:=(by rw[h1];rfl);go_wp2_with fail;go_round
    case rel=>exact⟨i+1,by rw[HT.out,hq.out,←hba],by go_num,by omega,HB.out⟩
    case measure=>simp[intOf];omega
   ·have hb1:((c.toNat:Int)==34)=false:=(by simp;omega);by_cases h2:c.toNat=92
    ·have hq:Hid (z9l c=[92,c]):=(by unfold z9l;exact if_pos (.inr h2));have hb2:((c.toNat:Int)==92)=true:=(by rw[h2];rfl);go_wp2_with fail;go_round
     case rel=>exact⟨i+1,by rw[HT.out,hq.out,←hba],by go_num,by omega,HB.out⟩
     case measure=>simp[intOf];omega
    ·have hb2:((c.toNat:Int)==92)=false:=(by simp;omega);by_cases h3:c.toNat<32
     ·have h3':(c.toNat:Int)<32:=(by omega);have hd:Int.tdiv (c.toNat:Int) 16=((c.toNat/16:Nat):Int):=(by rw[Int.tdiv_eq_ediv_of_nonneg (by omega)];omega);have hm:Int.tmod (c.toNat:Int) 16=((c.toNat%16:Nat):Int):=(by rw[Int.tmod_eq_emod_of_nonneg (by omega)];omega);have hq:Hid (z9l c=[92,117,48,48,hexL.getD (c.toNat/16) 0,hexL.getD (c.toNat%16) 0]):=(by unfold z9l;rw[if_neg (by omega)];exact if_pos h3);have hx1:c.toNat/16<16:=(by omega);have hx2:c.toNat%16<16:=(by omega);generalize c.toNat/16=a at*;generalize c.toNat%16=b at*;have e1:=zba a hx1;have e2:=zba b hx2;have hwa:IntKind.i64.wrap ((a:Int)+1)=(a:Int)+1:=(by go_arith);have hwb:IntKind.i64.wrap ((b:Int)+1)=(b:Int)+1:=(by go_arith);have ha16:(a:Int)+1≤16:=(by omega);have hb16:(b:Int)+1≤16:=(by omega);generalize hexL.getD a 0=ya at*;generalize hexL.getD b 0=yb at*;have hba3:((((⟨O.toArray⟩:ByteArray)++⟨#[92,117,48,48]⟩)++⟨#[ya]⟩)++⟨#[yb]⟩)=⟨(O++[92,117,48,48,ya,yb]).toArray⟩:=(by apply ByteArray.ext;simp);have hs1:(⟨#[ya]⟩:ByteArray).size=1:=rfl;have hs2:(⟨#[yb]⟩:ByteArray).size=1:=rfl;go_wp2_with fail;go_quiet (fail);go_wp2_with fail;go_round
      case rel=>exact⟨i+1,by rw[HT.out,hq.out,←hba3],by go_num,by omega,zqh HB.out _⟩
      case measure=>simp[intOf];omega
     ·have h3':¬(c.toNat:Int)<32:=(by omega);have hq:Hid (z9l c=[c]):=(by unfold z9l;rw[if_neg (by omega)];exact if_neg h3);have hba1:(⟨O.toArray⟩:ByteArray)++⟨#[c]⟩=⟨(O++[c]).toArray⟩:=(by apply ByteArray.ext;simp);go_wp2_with fail;go_round
      case rel=>exact⟨i+1,by rw[HT.out,hq.out,←hba1],by go_num,by omega,HB.out⟩
      case measure=>simp[intOf];omega
  ·have hin':¬(i:Int)<(k.length:Int):=(by omega);have hE:Hid (qKey k=34::O++[34]):=(by show _=_;rw[←hO,List.take_of_length_le (by omega)];rfl);rw[hO];clear hO;go_wp2_with fail;go_ret;exact⟨by rw[hE.out];rfl,HB.out⟩
def two2 (m:List UInt8):Prop:=m=sKv∨m=sSet
theorem two2.five {m:List UInt8}(h:two2 m):five m:=by
 rcases h with h|h
 ·exact .inr (.inl h)
 ·exact .inr (.inr (.inr (.inl h)))
theorem zeg (m:List UInt8)(hm:two2 m)(w:World):
 Calls prog 32 #[.string ⟨m.toArray⟩] w fun e w'=>e=.returned (.bool true)∧w'=w:=by
 rcases hm with rfl|rfl
 all_goals
  simp only [sKv,sSet];go_enter func32,ntmps32;go_wp2;go_ret;exact⟨rfl,rfl⟩
theorem z1z (m:List UInt8)(hm:two2 m)(k:List UInt8)(va:Option Addr)(vn vc:Nat)(w:World)(hk:k.length≤10000000):
 Calls prog 16 #[.string ⟨m.toArray⟩,.agg #[.string ⟨k.toArray⟩,.slice va vn vc]] w fun e w'=>e=.returned (.string ⟨(qKey k).toArray⟩)∧Below w.heap.size w w':=by
 have hky:=fun w=>zeg m hm w;obtain⟨W0,hW0,hb0,c0⟩:∃W0,w.alloc (.cells #[.string ⟨k.toArray⟩,.slice va vn vc] 45)=W0∧Below w.heap.size w W0∧W0.cell? ⟨w.heap.size,0,none⟩=some (.string ⟨k.toArray⟩):=⟨_,rfl,zA _ _,zBk (ziF _ _ _ rfl) 0⟩;have hQ:=zz5 k W0 hk;go_enter func16,ntmps16;go_wp2_with fail;refine(hky _).mono ?_;rintro e w1 ⟨rfl,rfl⟩;go_wp2_with fail;refine hQ.mono ?_;rintro e w2 ⟨rfl,hb2⟩;have HB:Hid _:=hb0.trans (hb2.mono hb0.size);clear hQ hb2 c0;go_wp2_with fail;go_ret;exact⟨rfl,HB.out⟩
open srch (Judged say ordO zNr okOp z7a zAl flt qKey zD5 zWP stDo zqY zCI quDo lkDo)
def zQk (m:List UInt8)(ops:List OpV):List (List UInt8):=if m=sKv∨m=sSet then zD5 ops else [[]]
def zQf (m k:List UInt8):List UInt8:=if m=sKv∨m=sSet then qKey k else [45]
theorem lone3.not {m:List UInt8}(h:lone3 m):¬(m=sKv∨m=sSet):=by
 rcases h with rfl|rfl|rfl<;>decide
theorem zOB (m:List UInt8)(ops:List OpV):(zQk m ops).Nodup:=by
 unfold zQk;split
 ·exact zH0 ops
 ·simp
theorem zhm {m:List UInt8}{ops:List OpV}{k:List UInt8}{n:Nat}(h:k∈zQk m ops)(hk:∀o∈ops,o.key.length≤n):k.length≤n:=by
 unfold zQk at h;split at h
 ·obtain⟨o,ho,rfl⟩:=(zef ops k).1 h;exact hk o ho
 ·rw[List.mem_singleton]at h;rw[h];exact Nat.zero_le _
theorem zNR (m k:List UInt8):(zQf m k).length≤6*k.length+2:=by
 unfold zQf;split
 ·exact srch.qKey_len k
 ·simp
theorem zzr {m:List UInt8}{ops:List OpV}{b:Int}{ans:List UInt8}{n:Nat}(h:FitK m ops (zQk m ops) (zQf m) b ans)(hid:∀o∈ops,wf64 o.id)(hk:∀o∈ops,o.key.length≤n)(hn:n≤8000000):ans.length≤70000000:=by
 have hsub:∀(Q:List OpV) (pl:List Nat),zrE ops pl Q→∀o∈Q,wf64 o.id:=fun Q pl hQ o ho=>by
  obtain⟨i,hi⟩:=List.mem_iff_getElem?.1 ho;obtain⟨p,_,hp⟩:=hQ.2 i o hi;exact hid o (List.mem_of_getElem? hp)
 cases h with
 |unk e _=>rw[e];decide
 |ok Q pl e hQ hn hl ho ha=>
   have:=zXE Q (hsub Q pl hQ);rw[e];simp[sOrdJ];omega
 |ill K1 K2 k Q pl cE hK e hQ hn hl ha hk' hp=>
   have:=zXE Q (hsub Q pl hQ);have h1:=zhm (k:=k) (by rw[hK];simp) hk;have h2:=zNR m k;rw[e];simp[zRS,z5z];omega
structure FitG (m t:List UInt8)(b:Int)(ops:List OpV)(ans:List UInt8):Prop where
 fit:FitK m ops (zQk m ops) (zQf m) b ans
 kn:Known ops
 klen:∀o∈ops,o.key.length≤8000000
 none:lone3 m→∀o∈ops,o.key=[]
 len:ans.length≤70000000
theorem zkr {ops:List OpV}(h:∀o∈ops,o.key=[]):flt [] ops=ops:=by
 unfold flt;rw[List.filter_eq_self];intro o ho;simpa using h o ho
theorem zrq (t m:List UInt8)(ht:t.length≤2000000)(b:Int)(ops:List OpV)(v:Nat×List UInt8×List (List OpV))(hr:z9w m t=.inl ops)(hj:zNr m ops (min b 1000000) v):FitG m t b ops (say v):=by
 obtain⟨hN,hl⟩:=zpY hr;have hO:=z7a hr;obtain⟨k,hR⟩:=zAl hr;have hM:∀o∈ops,OkM m o:=fun o ho=>⟨hN o ho,(hO o ho).2.2.1,(hO o ho).2.1⟩;have hret:∀o∈ops,0≤o.ret:=fun o ho=>by
  by_cases c:o.ret=0
  ·omega
  ·have h1:=hR.ret o ho c;have h2:=hR.call o ho;omega
 have hcl:∀o∈ops,0<o.ret→o.call≤o.ret:=fun o ho h=>by
  have h1:=hR.ret o ho (by omega);omega
 have hsub:∀x,∀o∈flt x ops,OkM m o:=fun x o ho=>hM o (zxU x ops o ho).1;have hkl:∀o∈ops,o.key.length≤8000000:=fun o ho=>by have:=(hO o ho).2.2.2;omega
 have hno:lone3 m→∀o∈ops,o.key=[]:=fun hm o ho=>(hN o ho).2.2 hm;have two:(m=sKv∨m=sSet)→zQk m ops=zD5 ops∧zQf m=qKey:=fun h=>⟨if_pos h,by funext x;exact if_pos h⟩;have one:lone3 m→zQk m ops=[[]]∧[([45],ops)]=([[]]:List (List UInt8)).map (fun k=>(zQf m k,flt k ops)):=fun h=>⟨if_neg h.not,by
  rw[List.map_singleton,zkr (hno h)];unfold zQf;rw[if_neg h.not]⟩
 have hF:FitK m ops (zQk m ops) (zQf m) b (say v):=by
  have dn:∀ {σ:Type} (doit:σ→OpV→σ×Int×Int) (s0:σ),DoneK doit s0 m ops (min b 1000000) (min b 1000000) [] (fun _=>[]):=fun doit s0=>⟨fun k hk=>by simp at hk,fun f _ _=>by simp⟩;rcases hj with ⟨e,hj⟩|⟨e,hj⟩|⟨e,hj⟩|⟨e,hj⟩|⟨e,hj⟩
  ·rw[(one (.inl e)).2]at hj;rw[(one (.inl e)).1];subst e;exact z1V (by simp) (fun x=>z28 _ (hsub x)) hR.nodup hl hret hcl [[]] [] _ (fun _=>[]) v rfl (dn _ _) hj
  ·rw[(two (.inl e)).1,(two (.inl e)).2];subst e;exact z1V (zH0 ops) (fun x=>zpM _ (hsub x)) hR.nodup hl hret hcl (zD5 ops) [] _ (fun _=>[]) v rfl (dn _ _) hj
  ·rw[(one (.inr (.inl e))).2]at hj;rw[(one (.inr (.inl e))).1];subst e;exact z1V (by simp) (fun x=>zSZ _ (hsub x)) hR.nodup hl hret hcl [[]] [] _ (fun _=>[]) v rfl (dn _ _) hj
  ·rw[(two (.inr e)).1,(two (.inr e)).2];subst e;exact z1V (zH0 ops) (fun x=>zuQ _ (hsub x)) hR.nodup hl hret hcl (zD5 ops) [] _ (fun _=>[]) v rfl (dn _ _) hj
  ·rw[(one (.inr (.inr e))).2]at hj;rw[(one (.inr (.inr e))).1];subst e;exact z1V (by simp) (fun x=>zFR _ (hsub x)) hR.nodup hl hret hcl [[]] [] _ (fun _=>[]) v rfl (dn _ _) hj
 exact⟨hF,⟨by omega,fun o ho=>(hO o ho).1,hR.ids,fun o ho=>⟨(hN o ho).names,(hM o ho).arg,(hN o ho).2.1,(hM o ho).cl⟩⟩,hkl,hno,zzr hF (fun o ho=>(hO o ho).1) hkl zG⟩
open srch (vAg opAg tI OAt zOu idsT flt)
def PtAt (w:World)(a:Option Addr)(ops:List OpV)(K:List (List UInt8)):Prop:=
 ∀(i:Nat) (k:List UInt8),K[i]?=some k→∃g va vc,a=some ⟨g,0,none⟩∧g<w.heap.size∧w.cell? ⟨g,i*2,none⟩=some (.string ⟨k.toArray⟩)∧w.cell? ⟨g,i*2+1,none⟩=some (.slice va (plK ops k).length vc)∧IAt w va (plK ops k)
theorem PtAt.below {w w':World}{a:Option Addr}{ops:List OpV}{K:List (List UInt8)}(h:PtAt w a ops K)(k:Below w.heap.size w w'):PtAt w' a ops K:=by
 intro i x hx;obtain⟨g,va,vc,h1,h2,h3,h4,h5⟩:=h i x hx;exact⟨g,va,vc,h1,zH h2 k.size,(k.cell (p:=⟨g,i*2,none⟩) h2).trans h3,(k.cell (p:=⟨g,i*2+1,none⟩) h2).trans h4,h5.below k⟩
def upd {α:Type}(f:List UInt8→α)(k:List UInt8)(x:α):List UInt8→α:=fun k'=>if k'=k then x else f k'
theorem zur {α:Type}(f:List UInt8→α)(k:List UInt8)(x:α):upd f k x k=x:=if_pos rfl
theorem zX6 {α:Type}{K:List (List UInt8)}(hn:K.Nodup){i:Nat}{k:List UInt8}(hk:K[i]?=some k)(f:List UInt8→α)(x:α):∀k'∈K.take i,upd f k x k'=f k':=by
 intro k' hk';unfold upd;rw[if_neg];rintro rfl;obtain⟨j,hj,e⟩:=List.mem_iff_getElem.1 hk';rw[List.length_take]at hj;obtain⟨hi,e2⟩:=zB hk;have:=List.pairwise_iff_getElem.1 hn j i (by omega) hi (by omega);rw[List.getElem_take]at e;exact this (e.trans e2.symm)
theorem zoN {K:List (List UInt8)}{i:Nat}{k:List UInt8}(hk:K[i]?=some k):K.take (i+1)=K.take i++[k]:=by rw[List.take_add_one,hk];rfl
def vdOf (ops:List OpV)(f:List UInt8→List Cf×Bool)(k:List UInt8):List Value:=zf63 (f k).2 (isP (flt k ops) (f k).1) (mostP (f k).1) (f k).1.length
def manyK (K:List (List UInt8))(f:List UInt8→List Cf×Bool):Nat:=(K.map (fun k=>(f k).1.length)).sum
theorem zSq {ops:List OpV}{K:List (List UInt8)}(hn:K.Nodup){i:Nat}{k:List UInt8}(hk:K[i]?=some k)(f:List UInt8→List Cf×Bool)(L:List Cf)(kn:Bool):
 (K.take (i+1)).flatMap (vdOf ops (upd f k (L,kn)))=(K.take i).flatMap (vdOf ops f)++zf63 kn (isP (flt k ops) L) (mostP L) L.length:=by
 have e:∀k'∈K.take i,vdOf ops (upd f k (L,kn)) k'=vdOf ops f k':=fun k' h=>by unfold vdOf;rw[zX6 hn hk f (L,kn) k' h]
 rw[zoN hk,List.flatMap_append,List.flatMap_singleton,List.flatMap_def,List.map_congr_left e,←List.flatMap_def];congr 1;unfold vdOf;rw[zur]
theorem zXt {K:List (List UInt8)}(hn:K.Nodup){i:Nat}{k:List UInt8}(hk:K[i]?=some k)(f:List UInt8→List Cf×Bool)(L:List Cf)(kn:Bool):
 manyK (K.take (i+1)) (upd f k (L,kn))=manyK (K.take i) f+L.length:=by
 have e:∀k'∈K.take i,((upd f k (L,kn)) k').1.length=(f k').1.length:=fun k' h=>by rw[zX6 hn hk f (L,kn) k' h]
 unfold manyK;rw[zoN hk,List.map_append,List.sum_append,List.map_singleton,List.sum_singleton,List.map_congr_left e,zur]
def CfK (m:List UInt8)(ops:List OpV)(K:List (List UInt8))(f:List UInt8→List Cf×Bool):Prop:=∀k∈K,Cfs m (flt k ops) (roomP ops.length) (f k).1 (f k).2∧(f k).1.length≤600000
theorem CfK.upd {m:List UInt8}{ops:List OpV}{K:List (List UInt8)}(hn:K.Nodup){i:Nat}{k:List UInt8}(hk:K[i]?=some k){f:List UInt8→List Cf×Bool}(h:CfK m ops (K.take i) f){L:List Cf}{kn:Bool}(hC:Cfs m (flt k ops) (roomP ops.length) L kn)(hL:L.length≤600000):CfK m ops (K.take (i+1)) (upd f k (L,kn)):=by
 intro k' hk';rw[zoN hk]at hk';rcases List.mem_append.1 hk' with h1|h1
 ·rw[zX6 hn hk f (L,kn) k' h1];exact h k' h1
 ·rw[List.mem_singleton]at h1;subst h1;rw[zur];exact⟨hC,hL⟩
theorem CfK.many {m:List UInt8}{ops:List OpV}{K:List (List UInt8)}{f:List UInt8→List Cf×Bool}(h:CfK m ops K f):manyK K f≤K.length*600000:=by
 unfold manyK
 induction K with
 |nil=>simp
 |cons k r ih=>
   have h1:=ih (fun x hx=>h x (by simp[hx]));have h2:=(h k (by simp)).2;rw[List.map_cons,List.sum_cons,List.length_cons];omega
theorem zOl {ops:List OpV}(h:∀o∈ops,okO o)(k:List UInt8):∀o∈flt k ops,okO o:=fun o ho=>h o (zxU k ops o ho).1
theorem z4A {ops:List OpV}{n:Nat}(h:ops.length≤n)(k:List UInt8):(flt k ops).length≤n:=Nat.le_trans (List.length_filter_le _ _) h
def zgZ (m:List UInt8)(ops:List OpV)(K:List (List UInt8))(w:World)(e:Ending)(w':World):Prop:=
 ∃f a c,CfK m ops K f∧e=.returned (.tuple #[.slice a K.length c,.int .i64 (manyK K f:Int)])∧w'.ownsRow w.heap.size 48 4 (.slice a K.length c) K.length (K.flatMap (vdOf ops f))∧Below w.heap.size w w'
theorem zHE (m:List UInt8)(hm:five m)(oa:Option Addr)(oc:Nat)(ops:List OpV)(K:List (List UInt8))(hKn:K.Nodup)(hKl:K.length≤1000)(pa:Option Addr)(c:Nat)(w:World)(ho:OAt w oa ops)(hP:PtAt w pa ops K)(hol:ops.length≤1000)(hok:∀o∈ops,okO o):
 Calls Tryz.prog 13 #[.string ⟨m.toArray⟩,.slice oa ops.length oc,.slice pa K.length c] w (zgZ m ops K w):=by
 have hrm:=fun w=>zKP ops.length hol w;have hrl:=zhE ops.length;have hj:=fun k va vc w ho hp=>znZ m hm oa va oc vc ops (flt k ops) (plK ops k) (roomP ops.length) w ho hp (zqz ops k) (z4A hol k) hol (zOl hok k) (by omega);have HP:Hid (PtAt w pa ops K):=hP;have HO:Hid (OAt w oa ops):=ho;clear hP ho;go_enter Tryz.func13,Tryz.ntmps13;go_wp2_with fail;refine(hrm _).mono ?_;rintro e w1 ⟨rfl,rfl⟩;have HRM:Hid _:=hrl;clear hrl;have HJ:Hid _:=hj;clear hj;generalize hroom:roomP ops.length=room at*;have HROOM:Hid _:=hroom;clear hroom;go_wp2_with fail;go_loopw [8,10,11] (fun s8 s10 s11 wr=>∃(i:Nat) (a:Option Addr) (c:Nat) (f:List UInt8→List Cf×Bool),s11=.int .i64 (i:Int)∧s8=.slice a i c∧s10=.int .i64 ((manyK (K.take i) f:Nat):Int)∧i≤K.length∧Hid (CfK m ops (K.take i) f)∧Hid (wr.ownsRow w1.heap.size 48 4 (.slice a i c) i ((K.take i).flatMap (vdOf ops f)))∧Hid (Below w1.heap.size w1 wr)) (fun _ _ s11 _=>K.length-(intOf s11).toNat)
 case atStart=>exact⟨0,none,0,fun _=>([],false),rfl,rfl,rfl,by omega,fun k hk=>by simp at hk,World.ownsRow_nil _ _ _ _,zD⟩
 case round=>
  obtain⟨i,a8,c8,f,rfl,rfl,rfl,hi,HC,HR,HB⟩:=hrel;have hS:manyK (K.take i) f≤600000000:=by
   have h1:=HC.out.many;rw[List.length_take]at h1;omega
  have HS:Hid (manyK (K.take i) f=manyK (K.take i) f):=rfl;generalize hSe:manyK (K.take i) f=S at*;have HSe:Hid _:=hSe;clear hSe HS;by_cases hin:i<K.length
  ·have hin':(i:Int)<(K.length:Int):=(by omega);have hwi:IntKind.i64.wrap ((i:Int)+1)=(i:Int)+1:=(by go_arith);obtain⟨k,hk⟩:∃k,K[i]?=some k:=⟨_,zC hin⟩;obtain⟨g,va,vc,rfl,hg,_,p1,hia⟩:=HP.out.below HB.out i k hk;have hj1:=HJ.out k va vc wr (HO.out.below HB.out) hia;have HK:Hid _:=hk;clear hk hia;unfold zDK vdAg at hj1;go_wp2_with fail;refine hj1.mono ?_;rintro e w2 ⟨L,kn,hC,hLl,rfl,hb2⟩;obtain⟨is,his⟩:∃is,isP (flt k ops) L=is:=⟨_,rfl⟩;obtain⟨mo,hmo⟩:∃mo,mostP L=mo:=⟨_,rfl⟩;rw[his,hmo];have HIM:Hid _:=(⟨his,hmo⟩:_∧_);clear his hmo;obtain⟨W3,hW3,hb3,hV3⟩:∃W3,w2.alloc (.cells #[.bool kn,.bool is,.int .i64 (mo:Int),.int .i64 (L.length:Int)] 48)=W3∧Below w2.heap.size w2 W3∧W3.heap[w2.heap.size]?=some (.cells #[.bool kn,.bool is,.int .i64 (mo:Int),.int .i64 (L.length:Int)] 48 (0,0)):=⟨_,rfl,zA _ _,ziF _ _ _ rfl⟩;have hbr3:Below wr.heap.size wr W3:=hb2.trans (hb3.mono hb2.size);have hb13:Below w1.heap.size w1 W3:=HB.out.trans (hbr3.mono HB.out.size);have v0:W3.cell? ⟨w2.heap.size,0,none⟩=some (.bool kn):=zBk hV3 0;have v1:W3.cell? ⟨w2.heap.size,1,none⟩=some (.bool is):=zBk hV3 1;have v2:W3.cell? ⟨w2.heap.size,2,none⟩=some (.int .i64 (mo:Int)):=zBk hV3 2;have v3:W3.cell? ⟨w2.heap.size,3,none⟩=some (.int .i64 (L.length:Int)):=zBk hV3 3;have hR3:=zmP HR.out (Kept.of_below (S:=[]) hbr3) (by simp);obtain⟨a7,c7,w7,hap,own7,hk7⟩:=zxQ W3 w1.heap.size a8 i c8 _ kn is mo L.length hR3 (by omega) hb13.size;have hlt2:=zBq hV3;have hnown:w2.heap.size∉(Value.slice a8 i c8).ownBlock.toList:=by
    intro hmem;have:=(HR.out.lt _ (by simpa using hmem)).2;have:=hb2.size;omega
   have v7:w7.cell? ⟨w2.heap.size,3,none⟩=some (.int .i64 (L.length:Int)):=by
    have:=hk7.block _ hlt2 hnown;exact zBk (this.trans hV3) 3
   have hLL:L.length≤600000:=(by have:=HRM.out;omega);have hwl:IntKind.i64.wrap ((S:Int)+(L.length:Int))=(S:Int)+(L.length:Int):=j64 (by omega) (by omega);have hb17:Below w1.heap.size w1 w7:=hb13.trans (hk7.below hb13.size (fun q hq=>(hR3.lt q (by simpa using hq)).1));have H7:Hid _:=(⟨hC,hLL,own7,hb17⟩:_∧_∧_∧_);clear own7 hk7 hV3 hb2 hb3 hb13 hb17 hC hj1 hR3 hnown hbr3;go_wp2_with (at_builtin;refine zOu rfl _ _ 36 rfl _ _ _ _ rfl rfl hap ?_);go_roundw
   case rel=>
    refine⟨i+1,a7,c7,upd f k (L,kn),by go_num,rfl,?_,by omega,?_,?_,H7.out.2.2.2⟩
    ·rw[zXt hKn HK.out,HSe.out];push_cast;rfl
    ·have h:=H7.out.1;rw[←HROOM.out]at h;exact CfK.upd hKn HK.out HC.out h H7.out.2.1
    ·show _;have h:=H7.out.2.2.1;rw[zSq hKn HK.out,HIM.out.1,HIM.out.2];exact h
   case measure=>simp[intOf];omega
  ·have hin':¬(i:Int)<(K.length:Int):=(by omega);obtain rfl:i=K.length:=(by omega);have HF:Hid (CfK m ops K f∧manyK K f=S∧wr.ownsRow w1.heap.size 48 4 (.slice a8 K.length c8) K.length (K.flatMap (vdOf ops f))):=by
    have h1:=HC.out;have h2:=HSe.out;have h3:=HR.out;rw[List.take_length]at h1 h2 h3;exact⟨h1,h2,h3⟩
   clear HC HSe HR;go_wp2_with fail;go_ret2;exact⟨f,a8,c8,HF.out.1,(by rw[HF.out.2.1];rfl),HF.out.2.2,HB.out⟩
open srch (vAg opAg tI OAt zOu idsT flt zD5)
structure PE where
 key:List UInt8
 va:Option Addr
 vc:Nat
 pl:List Nat
theorem zEa {ops:List OpV}{i:Nat}{o:OpV}(h:ops[i]?=some o)(k:List UInt8):plK (ops.take (i+1)) k=plK (ops.take i) k++(if o.key=k then [i]else []):=by
 obtain⟨hl,he⟩:=zB h;have e:∀n,n≤ops.length→plK (ops.take n) k=(List.range n).filter (fun j=>decide ((ops[j]?.map (·.key))=some k)):=fun n hn=>by
  unfold plK;rw[List.length_take,Nat.min_eq_left hn];refine List.filter_congr (fun j hj=>?_);rw[List.mem_range]at hj;rw[List.getElem?_take,if_pos hj]
 rw[e _ (by omega),e _ (by omega),List.range_succ,List.filter_append];by_cases c:o.key=k
 ·rw[List.filter_cons_of_pos (by simp[he,hl,c]),if_pos c];rfl
 ·rw[List.filter_cons_of_neg (by simp[he,hl,c]),if_neg c];rfl
structure KeyD (ops:List OpV)(i:Nat)(K0:List (List UInt8))(L:List PE):Prop where
 up:L.Pairwise (fun x y=>x.key<y.key)
 pl:∀x∈L,x.pl=plK (ops.take i) x.key
 mem:∀k,(∃x∈L,x.key=k)↔k∈K0∨∃o∈ops.take i,o.key=k
structure MidK (ops:List OpV)(i:Nat)(K0:List (List UInt8))(L1:List PE)(x:PE)(L2:List PE)(k:List UInt8):Prop where
 up:(L1++x::L2).Pairwise (fun x y=>x.key<y.key)
 pl:∀y∈L1++x::L2,y.pl=plK (ops.take i) y.key
 key:x.key=k
 mem:∀k',(∃y∈L1++x::L2,y.key=k')↔k'=k∨k'∈K0∨∃o∈ops.take i,o.key=k'
theorem z03 {a b:List UInt8}(h:a<b):a≠b:=fun e=>by subst e;exact List.lt_irrefl _ h
theorem zhX {a b:List UInt8}(h:¬b<a)(hn:b≠a):a<b:=by
 by_cases c:a<b
 ·exact c
 ·exact absurd (List.le_antisymm (List.not_lt.1 c) (List.not_lt.1 h)) hn
theorem KeyD.new {ops:List OpV}{i:Nat}{K0:List (List UInt8)}{L1 L2:List PE}{k:List UInt8}(h:KeyD ops i K0 (L1++L2))(h1:∀x∈L1,x.key<k)(h2:∀y∈L2.head?,¬y.key<k∧y.key≠k):MidK ops i K0 L1 ⟨k,none,0,[]⟩ L2 k:=by
 have hp:=List.pairwise_append.1 h.up;have h3:∀y∈L2,k<y.key:=by
  cases L2 with
  |nil=>intro y hy;cases hy
  |cons z r=>
    have hz:k<z.key:=zhX (h2 z (by simp)).1 (h2 z (by simp)).2;intro y hy;rcases List.mem_cons.1 hy with rfl|hy
    ·exact hz
    ·exact List.lt_trans hz ((List.pairwise_cons.1 hp.2.1).1 y hy)
 have hno:¬ ∃x∈L1++L2,x.key=k:=by
  rintro⟨x,hx,e⟩;rcases List.mem_append.1 hx with hx|hx
  ·exact z03 (h1 x hx) e
  ·exact z03 (h3 x hx) e.symm
 refine⟨?_,?_,rfl,?_⟩
 ·rw[List.pairwise_append,List.pairwise_cons];refine⟨hp.1,⟨h3,hp.2.1⟩,fun a ha b hb=>?_⟩;rcases List.mem_cons.1 hb with rfl|hb
  ·exact h1 a ha
  ·exact hp.2.2 a ha b hb
 ·intro y hy;rcases List.mem_append.1 hy with hy|hy
  ·exact h.pl y (by simp[hy])
  ·rcases List.mem_cons.1 hy with rfl|hy
   ·show []=plK (ops.take i) k;symm;unfold plK;rw[List.filter_eq_nil_iff];intro j _ hj;cases e:(ops.take i)[j]? with
    |none=>rw[e]at hj;simp at hj
    |some o=>
      rw[e]at hj;simp at hj;exact hno ((h.mem k).2 (.inr ⟨o,List.mem_of_getElem? e,hj⟩))
   ·exact h.pl y (by simp[hy])
 ·intro k';rw[←h.mem k'];constructor
  ·rintro⟨y,hy,e⟩;rcases List.mem_append.1 hy with hy|hy
   ·exact .inr ⟨y,by simp[hy],e⟩
   ·rcases List.mem_cons.1 hy with rfl|hy
    ·exact .inl e.symm
    ·exact .inr ⟨y,by simp[hy],e⟩
  ·rintro(rfl|⟨y,hy,e⟩)
   ·exact⟨_,List.mem_append.2 (.inr (List.mem_cons_self ..)),rfl⟩
   ·rcases List.mem_append.1 hy with hy|hy
    ·exact⟨y,by simp[hy],e⟩
    ·exact⟨y,by simp[hy],e⟩
theorem KeyD.old {ops:List OpV}{i:Nat}{K0:List (List UInt8)}{L1 L2:List PE}{x:PE}(h:KeyD ops i K0 (L1++x::L2)):MidK ops i K0 L1 x L2 x.key:=
 ⟨h.up,h.pl,rfl,fun k'=>by
  rw[←h.mem k'];constructor
  ·exact .inr
  ·rintro(rfl|h)
   ·exact⟨x,by simp,rfl⟩
   ·exact h⟩
theorem MidK.next {ops:List OpV}{i:Nat}{K0:List (List UInt8)}{L1 L2:List PE}{x x':PE}{k:List UInt8}{o:OpV}(h:MidK ops i K0 L1 x L2 k)(ho:ops[i]?=some o)(hk:o.key=k)(hx:x'.key=k)(hp:x'.pl=x.pl++[i]):KeyD ops (i+1) K0 (L1++x'::L2):=by
 have hu:=List.pairwise_append.1 h.up;have hu2:=List.pairwise_cons.1 hu.2.1;have hne1:∀y∈L1,y.key≠k:=fun y hy e=>z03 (hu.2.2 y hy x (by simp)) (by rw[h.key];exact e);have hne2:∀y∈L2,y.key≠k:=fun y hy e=>z03 (hu2.1 y hy) (by rw[h.key];exact e.symm);have hso:=fun k'=>zEa ho k';have ht:ops.take (i+1)=ops.take i++[o]:=by rw[List.take_add_one,ho];rfl
 refine⟨?_,?_,?_⟩
 ·rw[List.pairwise_append,List.pairwise_cons];refine⟨hu.1,⟨fun y hy=>by rw[hx,←h.key];exact hu2.1 y hy,hu2.2⟩,fun a ha b hb=>?_⟩;rcases List.mem_cons.1 hb with rfl|hb
  ·rw[hx,←h.key];exact hu.2.2 a ha x (by simp)
  ·exact hu.2.2 a ha b (by simp[hb])
 ·intro y hy;rcases List.mem_append.1 hy with hy|hy
  ·rw[hso,if_neg (fun e=>hne1 y hy (by rw[←hk];exact e.symm)),List.append_nil];exact h.pl y (by simp[hy])
  ·rcases List.mem_cons.1 hy with rfl|hy
   ·rw[hso,hx,if_pos hk,hp,h.pl x (by simp),h.key]
   ·rw[hso,if_neg (fun e=>hne2 y hy (by rw[←hk];exact e.symm)),List.append_nil];exact h.pl y (by simp[hy])
 ·intro k';have hm:=h.mem k';have e1:(∃y∈L1++x'::L2,y.key=k')↔(∃y∈L1++x::L2,y.key=k'):=by
   constructor
   ·rintro⟨y,hy,e⟩;rcases List.mem_append.1 hy with hy|hy
    ·exact⟨y,by simp[hy],e⟩
    ·rcases List.mem_cons.1 hy with rfl|hy
     ·exact⟨x,by simp,by rw[h.key,←e,hx]⟩
     ·exact⟨y,by simp[hy],e⟩
   ·rintro⟨y,hy,e⟩;rcases List.mem_append.1 hy with hy|hy
    ·exact⟨y,by simp[hy],e⟩
    ·rcases List.mem_cons.1 hy with rfl|hy
     ·exact⟨x',by simp,by rw[hx,←e,h.key]⟩
     ·exact⟨y,by simp[hy],e⟩
  rw[e1,hm,ht];constructor
  ·rintro(rfl|h|⟨q,hq,e⟩)
   ·exact .inr ⟨o,by simp,hk⟩
   ·exact .inl h
   ·exact .inr ⟨q,by simp[hq],e⟩
  ·rintro(h|⟨q,hq,e⟩)
   ·exact .inr (.inl h)
   ·rcases List.mem_append.1 hq with hq|hq
    ·exact .inr (.inr ⟨q,hq,e⟩)
    ·rw[List.mem_singleton]at hq;subst hq;exact .inl (by rw[←e,hk])
theorem KeyD.ends {m:List UInt8}{ops:List OpV}{L:List PE}(h:KeyD ops ops.length (if m=sKv∨m=sSet then []else [[]]) L)(hn:¬(m=sKv∨m=sSet)→∀o∈ops,o.key=[]):L.map (·.key)=zQk m ops∧∀x∈L,x.pl=plK ops x.key:=by
 obtain⟨h1,h2,h3⟩:=h;rw[List.take_length]at h2 h3;refine⟨?_,h2⟩;have hr:(L.map (·.key)).Pairwise (fun x y=>x<y):=by rw[List.pairwise_map];exact h1
 unfold zQk;by_cases c:m=sKv∨m=sSet
 ·rw[if_pos c];refine zx1 hr (zIv ops) (fun k=>?_);rw[zef,List.mem_map,h3 k,if_pos c];simp
 ·rw[if_neg c];refine zx1 hr (by simp) (fun k=>?_);rw[List.mem_map,h3 k,if_neg c];constructor
  ·rintro(h|⟨o,ho,e⟩)
   ·exact h
   ·rw[←e,hn c o ho];simp
  ·exact .inl
theorem z9m (m:List UInt8){ops:List OpV}(h:ops.length≤1000):(zQk m ops).length≤1000:=by
 unfold zQk;split
 ·have:=srch.sortedU_len ops;omega
 ·simp
def zCEn (x:PE):List Value:=[.string ⟨x.key.toArray⟩,.slice x.va x.pl.length x.vc]
def peRow (L:List PE):List Value:=L.flatMap zCEn
def PE.own (x:PE):Option Nat:=(Value.slice x.va x.pl.length x.vc).ownBlock
theorem z4C (A B:List PE):peRow (A++B)=peRow A++peRow B:=by simp[peRow]
theorem zVr (L:List PE):(peRow L).length=L.length*2:=by
 induction L with
 |nil=>rfl
 |cons x r ih=>rw[show peRow (x::r)=zCEn x++peRow r by simp[peRow],zI,ih];simp[zCEn];omega
theorem zI9 (L:List PE)(i:Nat)(x:PE)(h:L[i]?=some x):(peRow L)[i*2]?=some (.string ⟨x.key.toArray⟩)∧(peRow L)[i*2+1]?=some (.slice x.va x.pl.length x.vc):=by
 induction L generalizing i with
 |nil=>simp at h
 |cons y r ih=>
   rw[show peRow (y::r)=zCEn y++peRow r by simp[peRow]];have hy:(zCEn y).length=2:=rfl;cases i with
   |zero=>
     simp at h;subst h;exact⟨rfl,rfl⟩
   |succ i=>
     obtain⟨a,b⟩:=ih i (by simpa using h);rw[List.getElem?_append_right (by omega),List.getElem?_append_right (by omega),hy,show(i+1)*2-2=i*2 by omega,show(i+1)*2+1-2=i*2+1 by omega];exact⟨a,b⟩
structure PP (w:World)(base:Nat)(a:Option Addr)(c:Nat)(L:List PE):Prop where
 row:w.ownsRow base 45 2 (.slice a L.length c) L.length (peRow L)
 at_:∀x∈L,w.ownsRow base 3 1 (.slice x.va x.pl.length x.vc) x.pl.length (zea x.pl)
 sep:L.Pairwise (fun x y=>∀q,x.own=some q→y.own≠some q)
theorem PP.on {w w':World}{base:Nat}{a:Option Addr}{c:Nat}{L:List PE}(h:PP w base a c L)(k:Below w.heap.size w w'):PP w' base a c L:=
 ⟨zmP h.row (Kept.of_below (S:=[]) k) (by simp),fun x hx=>zmP (h.at_ x hx) (Kept.of_below (S:=[]) k) (by simp),h.sep⟩
theorem PP.cells {w:World}{base:Nat}{a:Option Addr}{c:Nat}{L:List PE}(h:PP w base a c L){i:Nat}{x:PE}(hx:L[i]?=some x):∃g,a=some ⟨g,0,none⟩∧g<w.heap.size∧base≤g∧L.length≤c∧w.cell? ⟨g,i*2,none⟩=some (.string ⟨x.key.toArray⟩)∧w.cell? ⟨g,i*2+1,none⟩=some (.slice x.va x.pl.length x.vc)∧w.frozen? ⟨g,i*2+1,none⟩=false:=by
 have hl:=(zB hx).1;obtain⟨e0,e1⟩:=zI9 L i x hx;rcases zzD h.row with ⟨_,e⟩|⟨g,cap,e,hc,hb,hg⟩
 ·omega
 ·injection e with e _ ec;subst e;subst ec;have c0:=h.row.cells (g:=g) rfl _ _ e0;have c1:=h.row.cells (g:=g) rfl _ _ e1;rw[Addr.add_lit,Nat.zero_add]at c0 c1;refine⟨g,rfl,hg,hb,hc,c0,c1,?_⟩;rcases h.row.2 with ⟨h1,_⟩|⟨g',cap',cur,h1,_,hgb',_⟩
  ·cases h1
  ·injection h1 with h1;injection h1 with h1;injection h1 with h1;subst h1;exact zBn hgb' _
theorem PP.ends {w:World}{base:Nat}{a:Option Addr}{c:Nat}{L:List PE}{ops:List OpV}{K:List (List UInt8)}(h:PP w base a c L)(hK:L.map (·.key)=K)(hp:∀x∈L,x.pl=plK ops x.key):PtAt w a ops K:=by
 subst hK;intro i k hk;rw[List.getElem?_map]at hk;cases hx:L[i]? with
 |none=>rw[hx]at hk;cases hk
 |some x=>
   rw[hx]at hk;injection hk with hk;subst hk;obtain⟨g,h1,h2,_,_,h3,h4,_⟩:=h.cells hx;have hm:=List.mem_of_getElem? hx;have ha:=h.at_ x hm;rw[hp x hm]at h4 ha;exact⟨g,x.va,x.vc,h1,h2,h3,h4,z2d ha⟩
theorem zFZ {w:World}{base base':Nat}{e:TypeId}{size:Nat}{v:Value}{n:Nat}{xs:List Value}(hb:base≤base')(h:w.ownsRow base' e size v n xs):w.ownsRow base e size v n xs:=
 ⟨h.1,h.2.imp id (fun⟨g,cap,cur,hv,hbg,r⟩=>⟨g,cap,cur,hv,Nat.le_trans hb hbg,r⟩)⟩
theorem zDg (L:List PE):∀u∈peRow L,u.oneCell'=true:=by
 intro u hu;obtain⟨x,_,hx⟩:=List.mem_flatMap.1 hu;simp[zCEn]at hx;rcases hx with rfl|rfl<;>rfl
theorem PP.ins {W:World} {base:Nat} {a:Option Addr} {c:Nat} {L1 L2:List PE} (k:List UInt8) (h:PP W base a c (L1++L2)) (hb:base≤W.heap.size) (hl:(L1++L2).length≤2000) (s1 s3:Value)
 (hs1:(L1=[]∧s1=.slice none 0 0)∨∃g c1,a=some ⟨g,0,none⟩∧s1=.slice (some ⟨g,0,none⟩) L1.length c1) (hs3:(L2=[]∧s3=.slice none 0 0)∨∃q c3,s3=.slice (some q) L2.length c3∧(L2≠[]→∃g,a=some ⟨g,0,none⟩∧q=⟨g,L1.length*2,none⟩)):
 ∃a1 c1 w1 a2 c2 w2 a3 c3 w3,(Builtin.append_ #[34,34] 34 #[.slice none 0 0,s1]).run prog W=.ok (.slice a1 L1.length c1) w1∧Below W.heap.size W w1∧
  (Builtin.append_ #[34,34] 34 #[.slice a1 L1.length c1,.slice (some ⟨w1.heap.size,0,none⟩) 1 1]).run prog (w1.alloc (.cells #[.string ⟨k.toArray⟩,.slice none 0 0] 45))=.ok (.slice a2 (L1.length+1) c2) w2∧
  (Builtin.append_ #[34,34] 34 #[.slice a2 (L1.length+1) c2,s3]).run prog w2=.ok (.slice a3 (L1.length+1+L2.length) c3) w3∧PP w3 base a3 c3 (L1++⟨k,none,0,[]⟩::L2)∧Below W.heap.size W w3:=by
 obtain⟨i0,hi0',hz0,hz1,hz2⟩:=info_parts zsv;rw[zI]at hl;have hold:∀g,a=some ⟨g,0,none⟩→g<W.heap.size∧(∀j u,(peRow L1)[j]?=some u→W.cell? ⟨g,j,none⟩=some u)∧(∀j u,(peRow L2)[j]?=some u→W.cell? ⟨g,L1.length*2+j,none⟩=some u):=by
  rintro g rfl;refine⟨(h.row.lt g rfl).2,fun j u hj=>?_,fun j u hj=>?_⟩
  ·have:=h.row.cells (g:=g) rfl j u (by rw[z4C,List.getElem?_append_left (zB hj).1];exact hj);rw[Addr.add_lit,Nat.zero_add]at this;exact this
  ·have:=h.row.cells (g:=g) rfl (L1.length*2+j) u (by rw[z4C,List.getElem?_append_right (by rw[zVr];omega),zVr,Nat.add_sub_cancel_left];exact hj);rw[Addr.add_lit,Nat.zero_add]at this;exact this
 obtain⟨a1,c1,w1,hr1,ho1,hb1⟩:∃a1 c1 w1,(Builtin.append_ #[34,34] 34 #[.slice none 0 0,s1]).run prog W=.ok (.slice a1 L1.length c1) w1∧w1.ownsRow W.heap.size 45 2 (.slice a1 L1.length c1) L1.length (peRow L1)∧Below W.heap.size W w1:=by
  rcases hs1 with ⟨rfl,rfl⟩|⟨g,cc,ha,rfl⟩
  ·exact⟨none,0,W,run_append_owned_none (P:=prog) W W.heap.size 34 34 45 i0 2 underlying34 hi0' (.slice none 0 0) 0 [] (World.ownsRow_nil _ _ _ _),World.ownsRow_nil _ _ _ _,zD⟩
  ·obtain⟨v7,w7,h1,h2,h3,_⟩:=run_append_own (P:=prog) W W.heap.size 34 34 45 i0 _ 2 40 underlying34 hi0' hz0 hz1 hz2 rfl (by decide) (.slice none 0 0) 0 [] (World.ownsRow_nil _ _ _ _) ⟨g,0,none⟩ L1.length cc (peRow L1) (zVr L1) (fun j u hj=>by rw[Addr.add_lit,Nat.zero_add];exact(hold g ha).2.1 j u hj) (zDg L1) (by unfold maxLen;omega) (by omega) zG;rw[Nat.zero_add,List.nil_append]at h2;obtain⟨a',c',rfl⟩:=zIW h2;exact⟨a',c',w7,h1,h2,((Kept.refl [] W).grownS h3 (fun g' hg'=>by simp[Value.ownBlock]at hg')).below zG (by simp)⟩
 obtain⟨a2,c2,w2,hr2,ho2,hk2⟩:=zaZ w1 W.heap.size a1 L1.length c1 (peRow L1) k none 0 0 ho1 (by omega) hb1.size;have hb2:Below W.heap.size W w2:=hb1.trans (hk2.below hb1.size (fun q hq=>(ho1.lt q (by simpa using hq)).1));have hro:peRow L1++[.string ⟨k.toArray⟩,.slice none 0 0]=peRow (L1++[⟨k,none,0,[]⟩]):=by rw[z4C];rfl
 rw[hro]at ho2;have hfin:peRow (L1++[⟨k,none,0,[]⟩])++peRow L2=peRow (L1++⟨k,none,0,[]⟩::L2):=by rw[←z4C];simp
 have hlen:(L1++(⟨k,none,0,[]⟩:PE)::L2).length=L1.length+1+L2.length:=by simp;omega
 obtain⟨a3,c3,w3,hr3,ho3,hb3⟩:∃a3 c3 w3,(Builtin.append_ #[34,34] 34 #[.slice a2 (L1.length+1) c2,s3]).run prog w2=.ok (.slice a3 (L1.length+1+L2.length) c3) w3∧w3.ownsRow W.heap.size 45 2 (.slice a3 (L1.length+1+L2.length) c3) (L1.length+1+L2.length) (peRow (L1++⟨k,none,0,[]⟩::L2))∧Below W.heap.size W w3:=by
  rcases hs3 with ⟨rfl,rfl⟩|⟨q,cc,rfl,ha⟩
  ·exact⟨a2,c2,w2,run_append_owned_none (P:=prog) w2 W.heap.size 34 34 45 i0 2 underlying34 hi0' _ _ _ ho2,ho2,hb2⟩
  ·obtain⟨v7,w7,h1,h2,h3,_⟩:=run_append_own (P:=prog) w2 W.heap.size 34 34 45 i0 _ 2 40 underlying34 hi0' hz0 hz1 hz2 rfl (by decide) _ _ _ ho2 q L2.length cc (peRow L2) (zVr L2) (fun j u hj=>by
    obtain⟨g,hag,rfl⟩:=ha (by rintro rfl;simp[peRow]at hj);rw[Addr.add_lit];exact(hb2.cell (p:=⟨g,L1.length*2+j,none⟩) (hold g hag).1).trans ((hold g hag).2.2 j u hj)) (zDg L2) (by unfold maxLen;omega) (by omega) hb2.size
   rw[hfin]at h2;obtain⟨a',c',rfl⟩:=zIW h2;exact⟨a',c',w7,h1,h2,hb2.trans (((Kept.refl (Value.slice a2 (L1.length+1) c2).ownBlock.toList w2).grownS h3 (fun g' hg'=>by rw[hg'];simp)).below hb2.size (fun q hq=>(ho2.lt q (by simpa using hq)).1))⟩
 refine⟨a1,c1,w1,a2,c2,w2,a3,c3,w3,hr1,hb1,hr2,hr3,⟨?_,?_,?_⟩,hb3⟩
 ·rw[hlen];exact zFZ hb ho3
 ·intro x hx;rcases List.mem_append.1 hx with hx|hx
  ·exact zmP (h.at_ x (by simp[hx])) (Kept.of_below (S:=[]) hb3) (by simp)
  ·rcases List.mem_cons.1 hx with rfl|hx
   ·exact World.ownsRow_nil _ _ _ _
   ·exact zmP (h.at_ x (by simp[hx])) (Kept.of_below (S:=[]) hb3) (by simp)
 ·have hs:=List.pairwise_append.1 h.sep;rw[List.pairwise_append,List.pairwise_cons];refine⟨hs.1,⟨fun y _ q hq=>by simp[PE.own,Value.ownBlock]at hq,hs.2.1⟩,fun x hx y hy q hq=>?_⟩;rcases List.mem_cons.1 hy with rfl|hy
  ·simp[PE.own,Value.ownBlock]
  ·exact hs.2.2 x hx y hy q hq
theorem PP.put {W w7:World}{base g c a7c:Nat}{a7:Option Addr}{L1 L2:List PE}{x:PE}{i:Nat}(h:PP W base (some ⟨g,0,none⟩) c (L1++x::L2))(hk:Kept (Value.slice x.va x.pl.length x.vc).ownBlock.toList W w7)(ho:w7.ownsRow base 3 1 (.slice a7 (x.pl.length+1) a7c) (x.pl.length+1) (zea x.pl++[.int .i64 (i:Int)]))(hne:∀q,a7=some q→x.own=some q.block∨W.heap.size≤q.block):
 w7.cell? ⟨g,L1.length*2+1,none⟩=some (.slice x.va x.pl.length x.vc)∧w7.frozen? ⟨g,L1.length*2+1,none⟩=false∧
 PP (w7.setCell ⟨g,L1.length*2+1,none⟩ (.slice a7 (x.pl.length+1) a7c)) base (some ⟨g,0,none⟩) c (L1++⟨x.key,a7,a7c,x.pl++[i]⟩::L2):=by
 have hx:x∈L1++x::L2:=by simp
 have hat:=h.at_ x hx;have hrow:=zmP h.row hk (jne h.row hat (by decide));have hget:(L1++x::L2)[L1.length]?=some x:=by simp
 have hrow':PP w7 base (some ⟨g,0,none⟩) c (L1++x::L2)∨True:=.inr trivial;obtain⟨e0,e1⟩:=zI9 _ _ _ hget;have c1:=hrow.cells (g:=g) rfl _ _ e1;rw[Addr.add_lit,Nat.zero_add]at c1;have hfr:w7.frozen? ⟨g,L1.length*2+1,none⟩=false:=by
  rcases hrow.2 with ⟨h1,_⟩|⟨g',cap',cur,h1,_,hgb',_⟩
  ·cases h1
  ·injection h1 with h1;injection h1 with h1;injection h1 with h1;subst h1;exact zBn hgb' _
 have hkE:Kept [g] w7 (w7.setCell ⟨g,L1.length*2+1,none⟩ (.slice a7 (x.pl.length+1) a7c)):=(Kept.refl _ _).setCell (p:=⟨g,L1.length*2+1,none⟩) (Or.inl (by simp)) _;have hR:=zUj hrow (L1.length*2+1) (.slice a7 (x.pl.length+1) a7c) (zB e1).1;have hset:(peRow (L1++x::L2)).set (L1.length*2+1) (.slice a7 (x.pl.length+1) a7c)=peRow (L1++⟨x.key,a7,a7c,x.pl++[i]⟩::L2):=by
  rw[z4C,z4C,List.set_append_right _ _ (by rw[zVr];omega),zVr,Nat.add_sub_cancel_left];congr 1;show _=[Value.string ⟨x.key.toArray⟩,.slice a7 (x.pl++[i]).length a7c]++peRow L2;rw[zI];rfl
 rw[hset]at hR;have hs:=List.pairwise_append.1 h.sep;have hs2:=List.pairwise_cons.1 hs.2.1;have hown7:∀y∈L1++L2,∀q,y.own=some q→(Value.slice a7 (x.pl.length+1) a7c).ownBlock≠some q∧x.own≠some q:=by
  intro y hy q hq;have hyw:y∈L1++x::L2:=by rcases List.mem_append.1 hy with hy|hy<;>simp[hy]
  have hxq:x.own≠some q:=by
   rcases List.mem_append.1 hy with hy|hy
   ·exact hs.2.2 y hy x (by simp) q hq
   ·intro e;exact hs2.1 y hy q e hq
  refine⟨fun e=>?_,hxq⟩;cases a7 with
  |none=>cases e
  |some q7=>
    injection e with e;rcases hne q7 rfl with h1|h1
    ·rw[e]at h1;exact hxq h1
    ·have:=(h.at_ y hyw).lt q hq;omega
 have keep:∀y∈L1++L2,(w7.setCell ⟨g,L1.length*2+1,none⟩ (.slice a7 (x.pl.length+1) a7c)).ownsRow base 3 1 (.slice y.va y.pl.length y.vc) y.pl.length (zea y.pl):=by
  intro y hy;have hyw:y∈L1++x::L2:=by rcases List.mem_append.1 hy with hy|hy<;>simp[hy]
  have h1:=zmP (h.at_ y hyw) hk (fun q hq hm=>by
   rw[Option.mem_toList]at hm;exact(hown7 y hy q hq).2 hm)
  exact zmP h1 hkE (fun q hq=>by
   have:=jne h1 hrow (by decide) q hq;simpa [Value.ownBlock]using this)
 refine⟨c1,hfr,?_,?_,?_⟩
 ·have hl:(L1++(⟨x.key,a7,a7c,x.pl++[i]⟩:PE)::L2).length=(L1++x::L2).length:=by simp
  rw[hl];exact hR
 ·intro y hy;rcases List.mem_append.1 hy with hy|hy
  ·exact keep y (by simp[hy])
  ·rcases List.mem_cons.1 hy with rfl|hy
   ·show(w7.setCell _ _).ownsRow base 3 1 (.slice a7 (x.pl++[i]).length a7c) (x.pl++[i]).length (zea (x.pl++[i]));rw[zyv,zI];exact zmP ho hkE (fun q hq=>by
     have:=jne ho hrow (by decide) q hq;simpa [Value.ownBlock]using this)
   ·exact keep y (by simp[hy])
 ·rw[List.pairwise_append,List.pairwise_cons];have hown:PE.own ⟨x.key,a7,a7c,x.pl++[i]⟩=(Value.slice a7 (x.pl.length+1) a7c).ownBlock:=by cases a7<;>rfl
  refine⟨hs.1,⟨fun y hy q hq e=>?_,hs2.2⟩,fun y hy z hz q hq=>?_⟩
  ·rw[hown]at hq;exact(hown7 y (by simp[hy]) q e).1 hq
  ·rcases List.mem_cons.1 hz with rfl|hz
   ·rw[hown];exact(hown7 y (by simp[hy]) q hq).1
   ·exact hs.2.2 y hy z (by simp[hz]) q hq
theorem zyl (m:List UInt8)(hm:five m)(oa va:Option Addr)(oc vc:Nat)(ops Q:List OpV)(kk:List UInt8)(pl:List Nat)(kn is:Bool)(most many:Nat)(cE:Cf)(w:World)(ho:OAt w oa ops)(hv:IAt w va (plK ops kk))(hK:Known ops)(hQ:zrE ops pl Q)(hnd:pl.Nodup)(hQl:Q.length≤1000)(hkn:kn=true→is=false∧pl.length=most)(hal:zdl (plK ops kk) (flt kk ops) (cf0 m (flt kk ops)) pl=some cE):
 Calls prog 17 #[.string ⟨m.toArray⟩,.slice oa ops.length oc,.agg #[.string ⟨kk.toArray⟩,.slice va (plK ops kk).length vc],vdAg kn is most many,.string ⟨(idsT Q).toArray⟩] w fun e w'=>e=.returned (.bool true)∧Below w.heap.size w w':=by
 have hid:=fun w ho=>ids_any oa oc ops Q pl w ho hQ hnd hK.few hQl hK.ids hK.uniq;have hpl:pl.length≤1000:=by rw[hQ.1];exact hQl
 have hav:=fun ra rc w ho hp hr=>zi5 m hm oa va ra oc vc rc ops (flt kk ops) (plK ops kk) pl w ho hp hr (zqz ops kk) (z4A hK.few kk) hK.few hpl (zOl hK.ok kk) cE hal;generalize (plK ops kk).length=vn at*;unfold vdAg;obtain⟨W0,hW0,hb0,hP0,hV0⟩:∃W0,(w.alloc (.cells #[.string ⟨kk.toArray⟩,.slice va vn vc] 45)).alloc (.cells #[.bool kn,.bool is,.int .i64 (most:Int),.int .i64 (many:Int)] 48)=W0∧Below w.heap.size w W0∧W0.heap[w.heap.size]?=some (.cells #[.string ⟨kk.toArray⟩,.slice va vn vc] 45 (0,0))∧W0.heap[w.heap.size+1]?=some (.cells #[.bool kn,.bool is,.int .i64 (most:Int),.int .i64 (many:Int)] 48 (0,0)):=by
  refine⟨_,rfl,(zA _ _).alloc (by simp) _,?_,ziF _ _ _ (by simp)⟩;rw[zD1 _ _ _ (by simp)];exact ziF _ _ _ rfl
 have H0:Hid _:=(⟨hb0,hP0,hV0,ho,hv⟩:_∧_∧_∧_∧_);have hid0:=hid W0 (ho.below hb0);clear hb0 hP0 hV0 hid;go_enter func17,ntmps17;go_wp2_with fail;refine hid0.mono ?_;rintro e w1 ⟨a1,c1,rfl,hr1,hb1⟩;have hV1:=(hb1.block _ (zBq H0.out.2.2.1)).trans H0.out.2.2.1;have hP1:=(hb1.block _ (zBq H0.out.2.1)).trans H0.out.2.1;have v0:w1.cell? ⟨w.heap.size+1,0,none⟩=some (.bool kn):=zBk hV1 0;have v1:w1.cell? ⟨w.heap.size+1,1,none⟩=some (.bool is):=zBk hV1 1;have v2:w1.cell? ⟨w.heap.size+1,2,none⟩=some (.int .i64 (most:Int)):=zBk hV1 2;have hb01:Below w.heap.size w w1:=H0.out.1.trans (hb1.mono H0.out.1.size);have H1:Hid _:=(⟨hP1,hb01,z2d hr1⟩:_∧_∧_);clear hV1 hP1 hb01 hr1 hb1 hid0;have key:∀W:World,Below w1.heap.size w1 W→W.cell? ⟨w.heap.size,1,none⟩=some (.slice va vn vc)∧Calls prog 38 #[.string ⟨m.toArray⟩,.slice oa ops.length oc,.slice va vn vc,.slice a1 pl.length c1] W fun e w'=>e=.returned (.tuple #[cAg cE,.bool true])∧Below W.heap.size W w':=fun W hW=>by
  have hbw:Below w.heap.size w W:=H1.out.2.1.trans (hW.mono H1.out.2.1.size);exact⟨zBk ((hW.block _ (zBq H1.out.1)).trans H1.out.1) 1,hav a1 c1 W (H0.out.2.2.2.1.below hbw) (H0.out.2.2.2.2.below hbw) (H1.out.2.2.below hW)⟩
 have KEY:Hid _:=key;clear key hav;unfold cAg at KEY;obtain⟨p1,hal1⟩:=KEY.out w1 (zD);cases kn
 ·go_wp2_with fail;refine hal1.mono ?_;rintro e w2 ⟨rfl,hb2⟩;have HB2:Hid (Below w.heap.size w w2):=H1.out.2.1.trans (hb2.mono H1.out.2.1.size);clear hal1 hb2 p1;go_wp2_with fail;go_ret
  first|exact⟨rfl,HB2.out⟩|exact⟨rfl,HB2.out.trans (zA _ _ |>.mono HB2.out.size)⟩
 ·obtain⟨rfl,hpm⟩:=hkn rfl;have hpm':((pl.length:Int)==(most:Int))=true:=by simp[hpm]
  have hpn':((pl.length:Int) != (most:Int))=false:=by simp[hpm]
  have HPM:Hid _:=hpm;clear hpm hkn;go_wp2_with fail;refine hal1.mono ?_;rintro e w2 ⟨rfl,hb2⟩;have HB2:Hid (Below w.heap.size w w2):=H1.out.2.1.trans (hb2.mono H1.out.2.1.size);clear hal1 hb2 p1;go_wp2_with fail;go_ret
  first|exact⟨rfl,HB2.out⟩|exact⟨rfl,HB2.out.trans (zA _ _ |>.mono HB2.out.size)⟩
theorem ztf {pl:List Nat}{j x:Nat}(hx:pl[j]?=some x)(p:Nat→Bool):(pl.take (j+1)).filter p=(pl.take j).filter p++(if p x=true then [x]else []):=by
 rw[List.take_add_one,hx,Option.toList_some,List.filter_append];cases h:p x
 ·rw[List.filter_cons_of_neg (by simp[h])];rfl
 ·rw[List.filter_cons_of_pos h];rfl
def zN8 (m:List UInt8)(oa:Option Addr)(oc:Nat)(ops:List OpV)(K:List (List UInt8)):Prop:=
 ∀w,OAt w oa ops→Calls prog 12 #[.string ⟨m.toArray⟩,.slice oa ops.length oc] w fun e w'=>∃a c,e=.returned (.slice a K.length c)∧PtAt w' a ops K∧Below w.heap.size w w'
theorem zgb (part:List Nat)(x:Nat):∃z,z04 part x=z∧((x∈part∧0≤z)∨(x∉part∧z<0)):=by
 refine⟨_,rfl,?_⟩;unfold z04;cases h:part.idxOf? x with
 |none=>exact .inr ⟨List.idxOf?_eq_none_iff.1 h,by simp⟩
 |some k=>
   have hm:x∈part:=by
    apply Decidable.byContradiction;intro hn;rw[List.idxOf?_eq_none_iff.2 hn]at h;cases h
   exact .inl ⟨hm,by simp⟩
theorem zJZ (m:List UInt8) (hm:five m) (oa:Option Addr) (oc:Nat) (ops Q:List OpV) (K:List (List UInt8)) (hKl:K.length≤1000) (hPO:zN8 m oa oc ops K) (pl:List Nat) (w:World) (ho:OAt w oa ops) (hK:Known ops) (hQ:zrE ops pl Q) (hnd:pl.Nodup) (hQl:Q.length≤1000) (hord:z8Z Q)
 (ha:∀k∈K,∃cE,zdl (plK ops k) (flt k ops) (cf0 m (flt k ops)) (pl.filter (fun i=>decide (i∈plK ops k)))=some cE∧z0d (flt k ops) cE.1=true):
 Calls prog 15 #[.string ⟨m.toArray⟩,.slice oa ops.length oc,.string ⟨(idsT Q).toArray⟩] w fun e w'=>e=.returned (.bool true)∧Below w.heap.size w w':=by
 have hid:=ids_any oa oc ops Q pl w ho hQ hnd hK.few hQl hK.ids hK.uniq;have hpl:pl.length≤1000:=by rw[hQ.1];exact hQl
 have hor:=fun ra rc w ho hr=>zS4 oa ra oc rc ops Q pl w ho hr hQ hQl hord;have HAT:Hid (OAt w oa ops):=ho;have HPO:Hid _:=hPO;have HA:Hid _:=ha;have HKN:Hid _:=hK;clear hPO ha ho hK;go_enter func15,ntmps15;go_wp2_with fail;refine hid.mono ?_;rintro e w1 ⟨a1,c1,rfl,hr1,hb1⟩;have hor1:=hor a1 c1 w1 (HAT.out.below hb1) (z2d hr1);have H1:Hid (Below w.heap.size w w1∧IAt w1 a1 pl):=⟨hb1,z2d hr1⟩;clear hid hor hb1 hr1;go_wp2_with fail;refine hor1.mono ?_;rintro e w2 ⟨rfl,hb2⟩;have B2:Hid (Below w.heap.size w w2):=H1.out.1.trans (hb2.mono H1.out.1.size);have R2:Hid (IAt w2 a1 pl):=H1.out.2.below hb2;have hpt2:=HPO.out w2 (HAT.out.below B2.out);clear hor1 hb2 H1;go_wp2_with fail;refine hpt2.mono ?_;rintro e w3 ⟨a3,c3,rfl,hP3,hb3⟩;have B3:Hid (Below w.heap.size w w3):=B2.out.trans (hb3.mono B2.out.size);have R3:Hid (IAt w3 a1 pl):=R2.out.below hb3;have HP:Hid (PtAt w3 a3 ops K):=hP3;clear hpt2 hb3 hP3 R2 B2;go_wp2_with fail;go_loopw [11] (fun s11 wr=>∃(i:Nat),s11=.int .i64 (i:Int)∧i≤K.length∧Hid (Below w3.heap.size w3 wr)) (fun s11 _=>K.length-(intOf s11).toNat)
 case atStart=>exact⟨0,rfl,by omega,zD⟩
 case round=>
  obtain⟨i,rfl,hi,HB⟩:=hrel;by_cases hin:i<K.length
  ·have hin':(i:Int)<(K.length:Int):=(by omega);have hwi:IntKind.i64.wrap ((i:Int)+1)=(i:Int)+1:=(by go_arith);obtain⟨k,hk⟩:∃k,K[i]?=some k:=⟨_,zC hin⟩;obtain⟨cE,hal,hwh⟩:=HA.out k (List.mem_of_getElem? hk);obtain⟨g,va,vc,rfl,hg,_,p1,hia⟩:=HP.out i k hk;have hPT:=zqz ops k;have hPl:=z4A HKN.out.few k;have hPk:=zOl HKN.out.ok k;generalize plK ops k=part at*;generalize flt k ops=P at*;obtain⟨own,hown⟩:∃own,pl.filter (fun i=>decide (i∈part))=own:=⟨_,rfl⟩;rw[hown]at hal;have hol:own.length≤1000:=(by rw[←hown];have:=List.length_filter_le (fun i=>decide (i∈part)) pl;omega);have HOWN:Hid _:=hown;have hpl1:part.length≤1000:=(by rw[hPT.1];exact hPl);have hplc:=fun x w hp=>zVC va vc part x w hp hpl1;have hav:=fun ra rc w ho hp hr=>zi5 m hm oa va ra oc vc rc ops P part own w ho hp hr hPT hPl HKN.out.few hol hPk cE hal;have hokE:okC P cE:=(zPe hPT.1 _ _ rfl cE hal).ok hPk (z7m m P);have hwl:=fun w ho hp=>zu4 oa va oc vc ops P part cE.1 w ho hp hPT hokE.1 hPl;rw[hwh]at hwl;unfold cAg at hav;have HC:Hid (∀V:World,Below w3.heap.size w3 V→V.cell? ⟨g,i*2+1,none⟩=some (.slice va part.length vc)∧IAt V va part∧OAt V oa ops∧IAt V a1 pl):=fun V hV=>⟨(hV.cell (p:=⟨g,i*2+1,none⟩) hg).trans p1,hia.below hV,HAT.out.below (B3.out.trans (hV.mono B3.out.size)),R3.out.below hV⟩;have HAV:Hid _:=hav;have HWL:Hid _:=hwl;have HPL:Hid _:=hplc;clear hal hwh hown p1 hia hPT hPk hokE hav hwl hplc hk;generalize part.length=vn at*;obtain⟨wy,rfl⟩:∃wy:World,wy=wr:=⟨_,rfl⟩;go_wp2_with fail;go_loopw [12,13] (fun s12 s13 wx=>∃(j n:Nat) (a:Option Addr) (c:Nat),s12=.slice a n c∧s13=.int .i64 (j:Int)∧j≤pl.length∧n≤1000∧Hid (n=((pl.take j).filter (fun i=>decide (i∈part))).length∧wx.ownsRow wy.heap.size 3 1 (.slice a n c) n (zea ((pl.take j).filter (fun i=>decide (i∈part)))))∧Hid (Below wy.heap.size wy wx)) (fun _ s13 _=>pl.length-(intOf s13).toNat)
   case atStart=>exact⟨0,0,none,0,rfl,rfl,by omega,by omega,⟨rfl,World.ownsRow_nil _ _ _ _⟩,zD⟩
   case round=>
    obtain⟨j,n,a,c,rfl,rfl,hj,hn,HR,HX⟩:=hrel;have HX3:Hid (Below w3.heap.size w3 wr):=HB.out.trans (HX.out.mono HB.out.size);obtain⟨p2,i2,o2,r2⟩:=HC.out wr HX3.out;by_cases hjl:j<pl.length
    ·have hjl':(j:Int)<(pl.length:Int):=(by omega);have hwk:IntKind.i64.wrap ((j:Int)+1)=(j:Int)+1:=(by go_arith);obtain⟨x,hx⟩:∃x,pl[j]?=some x:=⟨_,zC hjl⟩;obtain⟨gr,rfl,hgr,hrc⟩:=r2 (by rintro rfl;simp at hx);have xk:=hrc j x hx;have hsn:=ztf hx (fun i=>decide (i∈part));obtain⟨z,hz,hzs⟩:=zgb part x;have HPC:Hid (∀V:World,Below wr.heap.size wr V→Calls prog 37 #[.slice va vn vc,.int .i64 (x:Int)] V fun e w'=>e=.returned (.int .i64 z)∧Below V.heap.size V w'):=fun V hV=>by
      have h:=HPL.out x V (i2.below hV);rw[hz]at h;exact h
     have HSS:Hid (∀V:World,Below wr.heap.size wr V→V.cell? ⟨g,i*2+1,none⟩=some (.slice va vn vc)∧V.cell? ⟨gr,j,none⟩=some (.int .i64 (x:Int))):=fun V hV=>⟨(HC.out V (HX3.out.trans (hV.mono HX3.out.size))).1,(hV.cell (p:=⟨gr,j,none⟩) hgr).trans xk⟩;have HBD:Hid (Below wr.heap.size wr wr.drew):=(zD).drew;have hpcd:=HPC.out wr.drew HBD.out;have HSN:Hid _:=hsn;have HZS:Hid _:=hzs;clear hrc r2 i2 o2 HPC hz hx hsn hzs;go_wp2_with fail;go_cut [14] (fun a wx=>a=.int .i64 z∧Below wr.heap.size wr wx)
     case first=>
      go_region_held3 (fun w'=>w'.cell? ⟨g,i*2+1,none⟩=some (.slice va vn vc)∧w'.cell? ⟨gr,j,none⟩=some (.int .i64 (x:Int))) (first|(with_reducible exact hS5)|go_keep) (first
       | (go_at_call 37;refine hpcd.mono ?_;rintro e w5 ⟨rfl,hb5⟩;have hk5:=HBD.out.trans hb5;have hS5:=HSS.out _ hk5;have HB5:=srch.Hid.mk' hk5;clear hb5 hk5 hpcd))
      go_wp2;go_meet;exact⟨rfl,HB5.out⟩
     case rest=>
      obtain⟨rfl,hb5⟩:=hcut;obtain⟨s1,s2⟩:=HSS.out wc hb5;obtain⟨hne,hR⟩:=HR.out;have hR5:=zmP hR (Kept.of_below (S:=[]) hb5) (by simp);have hbw5:Below wy.heap.size wy wc:=HX.out.trans (hb5.mono HX.out.size);rcases HZS.out with ⟨hxin,hz0⟩|⟨hxin,hz0⟩
      ·have hz0':decide (0≤z)=true:=(by simpa using hz0);obtain⟨a7,c7,w7,hap,own7,hk7⟩:=zla false wc wy.heap.size a n c _ (x:Int) hR5 (by omega) hbw5.size;have hap':(Builtin.append_ #[43,43] 43 #[.slice a n c,.slice (some ⟨wc.heap.size,0,none⟩) 1 1]).run prog (wc.alloc (.cells #[.int .i64 (x:Int)] 3))=.ok (.slice a7 (n+1) c7) w7:=hap;have hsn:=HSN.out;rw[if_pos (by simpa using hxin)]at hsn;rw[←zyv,←hsn]at own7;have hn1:n+1≤1000∧n+1=((pl.take (j+1)).filter (fun i=>decide (i∈part))).length:=by
        have h1:((pl.take (j+1)).filter (fun i=>decide (i∈part))).length≤pl.length:=Nat.le_trans (List.length_filter_le _ _) (by rw[List.length_take];omega);rw[hsn,zI,←hne]at h1⊢;simp at h1⊢;omega
       have HO7:Hid _:=(⟨hn1.2,own7⟩:_∧_);have hn2:=hn1.1;have HB7:Hid (Below wy.heap.size wy w7):=hbw5.trans (hk7.below hbw5.size (fun g hg=>(hR5.lt g (by simpa using hg)).1));clear hap own7 hk7 hb5 hR5 hbw5 hpcd p2 xk s1 hsn hn1 hne hR hxin;go_wp2_with (at_builtin;refine zOu rfl _ _ 43 rfl _ _ _ _ rfl rfl hap' ?_);go_roundw
       case rel=>exact⟨j+1,n+1,a7,c7,rfl,by go_num,by omega,hn2,HO7,HB7⟩
       case measure=>simp[intOf];omega
      ·have hz0':decide (0≤z)=false:=(by simpa using hz0);have hsn:=HSN.out;rw[if_neg (by simpa using hxin),List.append_nil]at hsn;have HO7:Hid (n=((pl.take (j+1)).filter (fun i=>decide (i∈part))).length∧wc.ownsRow wy.heap.size 3 1 (.slice a n c) n (zea ((pl.take (j+1)).filter (fun i=>decide (i∈part))))):=by
        show _∧_;rw[hsn];exact⟨hne,hR5⟩
       have HB7:Hid (Below wy.heap.size wy wc):=hbw5;clear hb5 hR5 hbw5 hpcd p2 xk s1 hsn hne hR hxin;go_wp2_with fail;go_roundw
       case rel=>exact⟨j+1,n,a,c,rfl,by go_num,by omega,hn,HO7,HB7⟩
       case measure=>simp[intOf];omega
    ·obtain rfl:j=pl.length:=(by omega);have hjl':¬(pl.length:Int)<(pl.length:Int):=(by omega);obtain⟨hne,hRo⟩:=HR.out;rw[List.take_length,HOWN.out]at hne hRo;subst hne;have ha1:=HAV.out a c wr o2 i2 (z2d hRo);clear r2 hRo;go_wp2_with fail;refine ha1.mono ?_;rintro e w5 ⟨rfl,hb5⟩;have hb35:Below w3.heap.size w3 w5:=HX3.out.trans (hb5.mono HX3.out.size);obtain⟨W6,hW6,hb6,hC6⟩:∃W6,w5.alloc (.cells #[.string ⟨cE.1.toArray⟩,.string ⟨cE.2.toArray⟩] 82)=W6∧Below w5.heap.size w5 W6∧W6.heap[w5.heap.size]?=some (.cells #[.string ⟨cE.1.toArray⟩,.string ⟨cE.2.toArray⟩] 82 (0,0)):=⟨_,rfl,zA _ _,ziF _ _ _ rfl⟩;have hb36:Below w3.heap.size w3 W6:=hb35.trans (hb6.mono hb35.size);obtain⟨p6,i6,o6,_⟩:=HC.out W6 hb36;have d0:W6.cell? ⟨w5.heap.size,0,none⟩=some (.string ⟨cE.1.toArray⟩):=zBk hC6 0;have HB6:Hid _:=hb36;have HW6:Hid (∀V:World,Below W6.heap.size W6 V→Calls prog 39 #[.slice oa ops.length oc,.slice va vn vc,.string ⟨cE.1.toArray⟩] V fun e w'=>e=.returned (.bool true)∧Below V.heap.size V w'):=fun V hV=>HWL.out V (o6.below hV) (i6.below hV);have hl5:=zBq hC6;have HS6:Hid (∀V:World,Below W6.heap.size W6 V→V.cell? ⟨g,i*2+1,none⟩=some (.slice va vn vc)∧V.cell? ⟨w5.heap.size,0,none⟩=some (.string ⟨cE.1.toArray⟩)):=fun V hV=>⟨(HC.out V (HB6.out.trans (hV.mono HB6.out.size))).1,(hV.cell (p:=⟨w5.heap.size,0,none⟩) hl5).trans d0⟩;have HBD:Hid (Below W6.heap.size W6 W6.drew):=(zD).drew;have hwd:=HW6.out W6.drew HBD.out;clear ha1 hb5 hb35 hb6 hC6 hb36 i6 o6 i2 o2 HW6;go_wp2_with fail;go_cut [17] (fun a wx=>a=.bool true∧Below W6.heap.size W6 wx)
     case first=>
      go_region_held3 (fun w'=>w'.cell? ⟨g,i*2+1,none⟩=some (.slice va vn vc)∧w'.cell? ⟨w5.heap.size,0,none⟩=some (.string ⟨cE.1.toArray⟩)) (first|(with_reducible exact hS5)|go_keep) (first
       | (go_at_call 39;refine hwd.mono ?_;rintro e w7 ⟨rfl,hb7⟩;have hk5:=HBD.out.trans hb7;have hS5:=HS6.out _ hk5;have HB7:=srch.Hid.mk' hk5;clear hb7 hk5 hwd))
      go_wp2;go_meet;exact⟨rfl,HB7.out⟩
     case rest=>
      obtain⟨rfl,hb7⟩:=hcut;have HBE:Hid (Below w3.heap.size w3 wc):=HB6.out.trans (hb7.mono HB6.out.size);clear hb7 hwd p6 d0;go_wp2_with fail;go_roundw
      case rel=>exact⟨i+1,by go_num,by omega,HBE⟩
      case measure=>simp[intOf];omega
  ·have hin':¬(i:Int)<(K.length:Int):=(by omega);go_wp2_with fail;go_ret;exact⟨rfl,B3.out.trans (HB.out.mono B3.out.size)⟩
end Go.Proofs.YtbbkihekjdffpaaGreatDoor.jd
