/- Several texts in one. -/
import Derived.Test.YtbbkihekjdffpaaGreatDoorPureY
set_option maxHeartbeats 4000000
set_option maxRecDepth 100000
namespace Go.Proofs.YtbbkihekjdffpaaGreatDoor.jd
open Tryz
open Go.RowKit
theorem japp (a b:List UInt8):((⟨a.toArray⟩:ByteArray)++⟨b.toArray⟩)=⟨(a++b).toArray⟩:=by
 apply ByteArray.ext;simp
theorem j64 {n:Int}(h0: -9223372036854775808≤n)(h1:n≤9223372036854775807):IntKind.i64.wrap n=n:=by rw[IntKind.wrap_i64];omega
def dg1 (z:Nat):List UInt8:=[UInt8.ofNat (48+z)]
theorem zgG (U:World)(b:Nat)(z:Nat)(h:U.cell? ⟨b,0,none⟩=some (.int .u8 (48+(z:Int)))):
 (convert 130 9 (.slice (some ⟨b,0,none⟩) 1 1)).run prog U=.ok (.string ⟨(dg1 z).toArray⟩) U:=by
 have hcv:=run_convert_bytes_arg (P:=prog) U 130 5 underlying130 underlying5 b 0 1 1 [((48+z:Nat):Int)] rfl (fun i hi=>by
  obtain rfl:i=0:=by omega
  exact h) 9 underlying9
 rw[hcv];have:strOfNums [((48+z:Nat):Int)]=⟨(dg1 z).toArray⟩:=rfl;rw[this]
theorem zuK (U:World)(z:Nat):
 (convert 130 9 (.slice (some ⟨U.heap.size,0,none⟩) 1 1)).run prog (U.alloc (.cells #[.int .u8 (48+(z:Int))] 5))=.ok (.string ⟨(dg1 z).toArray⟩) (U.alloc (.cells #[.int .u8 (48+(z:Int))] 5)):=
 zgG _ _ z (by rw[zBk (ziF U _ _ rfl)];rfl)
theorem z8n (m:Nat)(h:m≤9223372036854775808):(Lib.decDigits m).length≤19:=by
 have key:∀k m,m<10 ^ (k+1)→(Lib.decDigits m).length≤k+1:=by
  intro k
  induction k with
  |zero=>intro m hm;rw[Lib.decDigits,dif_pos (by omega)];simp
  |succ k ih=>
    intro m hm;rw[Lib.decDigits];split
    ·simp
    ·have:=ih (m/10) (by rw[Nat.div_lt_iff_lt_mul (by omega)];rw[Nat.pow_succ]at hm;exact hm);simp;omega
 exact key 18 m (by omega)
theorem ziD (m:Nat):∀(w:World),m≤9223372036854775808→
 Calls prog 31 #[.int .i64 (-(m:Int))] w fun e w'=>e=.returned (.string ⟨(Lib.decDigits m).toArray⟩)∧Below w.heap.size w w':=by
 induction m using Nat.strongRecOn with
 |ind m ih=>
   intro w hm;have hmod:Int.tmod (-(m:Int)) 10= -((m%10:Nat):Int):=(by rw[Int.neg_tmod,Int.tmod_eq_emod_of_nonneg (by omega)];omega);have hr10:m%10<10:=Nat.mod_lt _ (by omega);by_cases h:m<10
   ·have h': -10 < -(m:Int):=(by omega);have hd:Hid (Lib.decDigits m=dg1 m):=(by rw[Lib.decDigits,dif_pos h];exact rfl);have hmm:m%10=m:=Nat.mod_eq_of_lt h;rw[hmm]at hmod hr10;have hw2:IntKind.i64.wrap (48+(m:Int))=48+(m:Int):=j64 (by omega) (by omega);have hw3:IntKind.u8.wrap (48+(m:Int))=48+(m:Int):=(by rw[IntKind.wrap_u8];omega);have hcv:=zuK w m;clear ih hmm;go_enter func31,ntmps31;go_wp2;go_ret;exact⟨by rw[hd.out];rfl,zA _ _⟩
   ·have h':¬ -10 < -(m:Int):=(by omega);have hd:Hid (Lib.decDigits m=Lib.decDigits (m/10)++dg1 (m%10)):=(by rw[Lib.decDigits,dif_neg h];exact rfl);have hl:=z8n (m/10) (by omega);have hih:=fun w=>ih (m/10) (by omega) w (by omega);have hq:Int.tdiv (-(m:Int)) 10= -((m/10:Nat):Int):=(by rw[Int.neg_tdiv,Int.tdiv_eq_ediv_of_nonneg (by omega)];omega);have hqm:m/10≤922337203685477580:=(by omega);clear ih;generalize m%10=r at*;generalize Lib.decDigits (m/10)=dl at*;generalize m/10=q at*;have hdl:(dg1 r).length=1:=rfl;have hw1:IntKind.i64.wrap (-(q:Int))= -(q:Int):=j64 (by omega) (by omega);have hw2:IntKind.i64.wrap (48+(r:Int))=48+(r:Int):=j64 (by omega) (by omega);have hw3:IntKind.u8.wrap (48+(r:Int))=48+(r:Int):=(by rw[IntKind.wrap_u8];omega);have hcv:=zuK w r;go_enter func31,ntmps31;go_wp2_with fail;refine(hih _).mono ?_;rintro e w1 ⟨rfl,hb⟩;go_wp2;go_ret;exact⟨by rw[hd.out,←japp];rfl,(zA _ _).trans (hb.mono (by simp))⟩
theorem zCU (n:Int)(h0: -9223372036854775808≤n)(h1:n≤9223372036854775807):(Lib.itoa n).length≤20:=by
 unfold Lib.itoa;split
 ·have:=z8n n.natAbs (by omega);simp;omega
 ·have:=z8n n.toNat (by omega);omega
theorem zM7 (n:Int)(w:World)(h0: -9223372036854775808≤n)(h1:n≤9223372036854775807):
 Calls prog 11 #[.int .i64 n] w fun e w'=>e=.returned (.string ⟨(Lib.itoa n).toArray⟩)∧Below w.heap.size w w':=by
 by_cases h:n<0
 ·have hd:Hid (Lib.itoa n=[45]++Lib.decDigits n.natAbs):=by unfold Lib.itoa;rw[if_pos h];exact rfl
  have hl:=z8n n.natAbs (by omega);have hb:=fun w=>ziD n.natAbs w (by omega);rw[show -((n.natAbs:Nat):Int)=n by omega]at hb;generalize Lib.decDigits n.natAbs=dl at*;go_enter func11,ntmps11;go_wp2_with fail;refine(hb _).mono ?_;rintro e w1 ⟨rfl,hb1⟩;go_wp2;go_ret;exact⟨by rw[hd.out,←japp];rfl,hb1⟩
 ·have hd:Hid (Lib.itoa n=Lib.decDigits n.toNat):=by unfold Lib.itoa;rw[if_neg h];exact rfl
  have hb:=fun w=>ziD n.toNat w (by omega);rw[show -((n.toNat:Nat):Int)= -n by omega]at hb;have hw:IntKind.i64.wrap (-n)= -n:=j64 (by omega) (by omega);generalize Lib.decDigits n.toNat=dl at*;go_enter func11,ntmps11;go_wp2_with fail;refine(hb _).mono ?_;rintro e w1 ⟨rfl,hb1⟩;go_wp2;go_ret;exact⟨by rw[hd.out];rfl,hb1⟩
def z7y (s:List UInt8):Int×Bool:=((zyu (nats s)).1,(zyu (nats s)).2&&decide (s=Lib.itoa (zyu (nats s)).1))
theorem zEn (l:List Nat):∀(n x:Int),zlt n l=some x→ -9223372036854775808≤n→n≤0→ -9223372036854775808≤x∧x≤0:=by
 induction l with
 |nil=>intro n x h h0 h1;simp only [zlt]at h;injection h with h;omega
 |cons c t ih=>
   intro n x h h0 h1;simp only [zlt]at h;split at h
   ·cases h
   ·split at h
    ·cases h
    ·rename_i hc hd;refine ih _ _ h ?_ (by omega);have e:(-9223372036854775808+((c:Int)-48)).tdiv 10= -((9223372036854775808-((c:Int)-48))/10):=by
      rw[show -9223372036854775808+((c:Int)-48)= -(9223372036854775808-((c:Int)-48)) by omega,Int.neg_tdiv,Int.tdiv_eq_ediv_of_nonneg (by omega)]
     rw[e]at hd;omega
theorem zaH (b:Bool)(l:List Nat): -9223372036854775808≤(z8T b l).1∧(z8T b l).1≤9223372036854775807:=by
 unfold z8T;split
 ·exact⟨by decide,by decide⟩
 ·split
  ·exact⟨by decide,by decide⟩
  ·rename_i n hn;have:=zEn l 0 n hn (by decide) (by decide);split
   ·exact⟨this.1,by show n≤_;omega⟩
   ·dsimp only;split<;>omega
theorem zMZc (l:List Nat): -9223372036854775808≤(zyu l).1∧(zyu l).1≤9223372036854775807:=by
 unfold zyu;split<;>exact zaH _ _
theorem zku (s:List UInt8)(w:World)(hs:s.length≤9000000):
 Calls prog 62 #[.string ⟨s.toArray⟩] w fun e w'=>e=.returned (.tuple #[.int .i64 (z7y s).1,.bool (z7y s).2])∧Below w.heap.size w w':=by
 have hW:=whole_any ⟨s.toArray⟩ w (by show s.toArray.size≤_;simpa using hs);have hr:=zMZc (nats s);rw[show lets (⟨s.toArray⟩:ByteArray)=nats s from rfl]at hW;have hE:Hid (z7y s=((zyu (nats s)).1,(zyu (nats s)).2&&decide (s=Lib.itoa (zyu (nats s)).1))):=rfl;rw[hE.out];generalize zyu (nats s)=q at*;have hD:=fun w=>zM7 q.1 w hr.1 hr.2;generalize Lib.itoa q.1=z at*;clear hE hs;go_enter func62,ntmps62;go_wp2_with fail;refine hW.mono ?_;rintro e w1 ⟨rfl,rfl⟩;go_wp2_with fail;refine(hD _).mono ?_;rintro e w2 ⟨rfl,hb⟩;clear hD hW;by_cases hz:s=z
 ·subst hz;cases hq:q.2
  all_goals
   go_wp2_with fail;go_ret2;exact⟨by simp,hb⟩
 ·have hz':(s==z)=false:=by simpa using hz
  cases hq:q.2
  all_goals
   go_wp2_with fail;go_ret2;exact⟨by simp[hz],hb⟩
open srch (vAg opAg tI)
theorem zqh {B:Nat}{a w:World}(h:Below B a w)(n:Nat):Below B a (w.drewN n):=⟨h.os,h.tape,h.output,h.size,h.block⟩
def zN3:List UInt8→List UInt8×List UInt8
 | []=>([],[])
 |c::t=>if c=44 then([],t)else(c::(zN3 t).1,(zN3 t).2)
theorem znE (s:List UInt8)(i:Nat)(h:∀c∈s.take i,c≠44)(hi:s[i]?=some 44):zN3 s=(s.take i,s.drop (i+1)):=by
 induction s generalizing i with
 |nil=>simp at hi
 |cons c t ih=>
   cases i with
   |zero=>simp at hi;subst hi;simp[zN3]
   |succ i=>
     have h1:c≠44:=h c (by simp);rw[zN3,if_neg h1,ih i (fun x hx=>h x (by simp[hx])) (by simpa using hi)];simp
theorem zPM (s:List UInt8)(h:∀c∈s,c≠44):zN3 s=(s,[]):=by
 induction s with
 |nil=>rfl
 |cons c t ih=>rw[zN3,if_neg (h c (by simp)),ih (fun x hx=>h x (by simp[hx]))]
theorem zGM (s:List UInt8):(zN3 s).1.length≤s.length∧(zN3 s).2.length≤s.length:=by
 induction s with
 |nil=>simp[zN3]
 |cons c t ih=>rw[zN3];split<;>simp<;>omega
theorem zS3 (l:List UInt8)(w:World)(hl:l.length≤9000000):
 Calls prog 61 #[.string ⟨l.toArray⟩] w fun e w'=>e=.returned (.tuple #[.string ⟨(zN3 l).1.toArray⟩,.string ⟨(zN3 l).2.toArray⟩])∧Below w.heap.size w w':=by
 obtain⟨RES,hRES⟩:∃RES,RES=zN3 l:=⟨_,rfl⟩;rw[←hRES];have HRES:Hid _:=hRES;clear hRES;go_enter func61,ntmps61;go_wp2_with fail;go_loop [4] (fun i=>∃(j:Nat),i=.int .i64 (j:Int)∧j≤l.length∧Hid (∀c∈l.take j,c≠44)) (fun i=>l.length-(intOf i).toNat)
 case atStart=>exact⟨0,rfl,by omega,by intro c hc;simp at hc⟩
 case round=>
  obtain⟨j,rfl,hj,hnl⟩:=hrel;by_cases hin:j<l.length
  ·have hin':(j:Int)<(l.length:Int):=(by omega);have hsz1:j<(⟨l.toArray⟩:ByteArray).size:=(by show j<l.toArray.size;simpa using hin);have hby:(⟨l.toArray⟩:ByteArray)[j]'hsz1=l[j]:=(by show l.toArray[j]'(by simpa using hin)=l[j];simp);have hwj:IntKind.i64.wrap ((j:Int)+1)=(j:Int)+1:=(by go_arith);have hj1:(j:Int)+1≤(l.length:Int):=(by omega);by_cases hc:l[j]=44
   ·have hW:Hid (RES=(l.take j,l.drop (j+1))):=(by show _=_;rw[HRES.out];exact znE l j hnl.out (by rw[zC hin,hc]));have hex:(⟨l.toArray⟩:ByteArray).extract 0 j=⟨(l.take j).toArray⟩:=by
     rw[Lib.extract_eq];simp
    have hex2:(⟨l.toArray⟩:ByteArray).extract (j+1) l.length=⟨(l.drop (j+1)).toArray⟩:=by
     rw[Lib.extract_eq];show(⟨(List.take (l.length-(j+1)) (List.drop (j+1) l)).toArray⟩:ByteArray)=_;rw[List.take_of_length_le (by simp)]
    have hc':(((((⟨l.toArray⟩:ByteArray)[j]'hsz1).toNat:Int)==44))=true:=(by rw[hby,hc];decide);clear hby hc;go_wp2_with fail;go_quiet (fail);go_wp2_with fail;go_ret2;exact⟨by rw[hW.out];rfl,zqh (zD) _⟩
   ·have hc':(((((⟨l.toArray⟩:ByteArray)[j]'hsz1).toNat:Int)==44))=false:=by
     rw[hby];have:l[j].toNat≠44:=fun e=>hc (UInt8.toNat_inj.1 e);simp;omega
    have hN:Hid (∀c∈l.take (j+1),c≠44):=by
     intro c hcm;rw[List.take_succ_eq_append_getElem hin]at hcm;rcases List.mem_append.1 hcm with hcm|hcm
     ·exact hnl.out c hcm
     ·rw[List.mem_singleton]at hcm;subst hcm;exact hc
    clear hby hc;go_wp2_with fail;go_round
    case rel=>exact⟨j+1,by go_num,by omega,hN⟩
    case measure=>simp[intOf];omega
  ·have hin':¬(j:Int)<(l.length:Int):=(by omega);have hW:Hid (RES=(l,[])):=by
    show _=_;rw[HRES.out];have h:=hnl.out;rw[List.take_of_length_le (by omega)]at h;exact zPM l h
   go_wp2_with fail;go_ret2;exact⟨by rw[hW.out];rfl,zD⟩
theorem z0b (tm:Array Value)(W:World)(b:Nat)(v0 v1:Value)(hb:W.heap[b]?=some (.cells #[v0,v1] 72 (0,0))):
 (tm[2]?.getD undef=.pointer (some ⟨b,0,none⟩)→(results Tryz.f138 tm).run prog W=.ok (.agg #[v0,v1]) W∧(results Tryz.f136 tm).run prog W=.ok (.agg #[v0,v1]) W)∧(tm[0]?.getD undef=.pointer (some ⟨b,0,none⟩)→(results Tryz.f137 tm).run prog W=.ok (.agg #[v0,v1]) W):=by
 have c0:W.cell? ⟨b,0,none⟩=some v0:=by rw[zBk hb];rfl
 have c1:W.cell? ⟨b,1,none⟩=some v1:=by rw[zBk hb];rfl
 refine⟨fun h=>⟨?_,?_⟩,fun h=>?_⟩
 ·simp[results,results138,go_sem,h,c0,c1]
 ·simp[results,results136,go_sem,h,c0,c1]
 ·simp[results,results137,go_sem,h,c0,c1]
theorem zrhV (b:Bool)(w:World):
 Calls prog 138 #[.bool b] w fun e w'=>e=.returned (vAg 2 (tI b))∧Below w.heap.size w w':=by
 unfold vAg tI;cases b
 all_goals
  go_enter func138,ntmps138;go_wp2;refine bodyPost_ret ((z0b _ _ w.heap.size _ _ (ziF _ _ _ rfl)).1 (by simp)).1 rfl ⟨rfl,zA _ _⟩
theorem zPG (w:World):
 Calls prog 137 #[] w fun e w'=>e=.returned (vAg 0 0)∧Below w.heap.size w w':=by
 unfold vAg;go_enter func137,ntmps137;go_wp2;refine bodyPost_ret ((z0b _ _ w.heap.size _ _ (ziF _ _ _ rfl)).2 (by simp)) rfl ⟨rfl,zA _ _⟩
def numV (s:List UInt8):Int×Int:=if(z7y s).2=true then(1,(z7y s).1)else(0,0)
theorem z4Y (s:List UInt8)(w:World)(hs:s.length≤9000000):
 Calls prog 136 #[.string ⟨s.toArray⟩] w fun e w'=>e=.returned (vAg (numV s).1 (numV s).2)∧Below w.heap.size w w':=by
 obtain⟨W0,hW0,hb0,hB0⟩:∃W0,w.alloc (.cells #[.int .i64 0,.int .i64 0] 72)=W0∧Below w.heap.size w W0∧W0.heap[w.heap.size]?=some (.cells #[.int .i64 0,.int .i64 0] 72 (0,0)):=⟨_,rfl,zA _ _,ziF _ _ _ rfl⟩;have hX:=zku s W0 hs;have hN:=zPG;have hV:Hid (numV s=if(z7y s).2=true then(1,(z7y s).1)else(0,0)):=rfl;rw[hV.out];generalize z7y s=q at*;have hfin:∀(W W':World) (x y v0 v1:Value),Below w.heap.size w W→W.heap[w.heap.size]?=some (.cells #[x,y] 72 (0,0))→W'=(W.setCell ⟨w.heap.size,0,none⟩ v0).setCell ⟨w.heap.size,1,none⟩ v1→Below w.heap.size w W'∧W'.heap[w.heap.size]?=some (.cells #[v0,v1] 72 (0,0)):=by
  intro W W' x y v0 v1 h1 h2 h3;subst h3;exact⟨(h1.setCell (p:=⟨w.heap.size,0,none⟩) zG _).setCell (p:=⟨w.heap.size,1,none⟩) zG _,srch.vset h2 _ _⟩
 have HF:=srch.Hid.mk' hfin;have H0:=srch.Hid.mk' (And.intro hb0 hB0);unfold vAg at*;clear hV hfin hb0 hB0;go_enter func136,ntmps136;cases hq:q.2
 ·rw[hq]at hX;go_wp2_with fail;refine hX.mono ?_;rintro e w1 ⟨rfl,hb1⟩;have H1:=srch.Hid.mk' hb1;clear hb1;go_wp2_with fail;refine(hN _).mono ?_;rintro e w2 ⟨rfl,hb2⟩;have hB2:=((H1.out.trans (hb2.mono H1.out.size)).block _ (zBq H0.out.2)).trans H0.out.2;have hb02:=H0.out.1.trans ((H1.out.trans (hb2.mono H1.out.size)).mono H0.out.1.size);have e0:w2.cell? ⟨w.heap.size,0,none⟩=some (.int .i64 0):=zBk hB2 0;have e1:w2.cell? ⟨w.heap.size,1,none⟩=some (.int .i64 0):=zBk hB2 1;have z0:=zBn hB2 0;have z1:=zBn hB2 1;have H2:=srch.Hid.mk' (And.intro hb02 hB2);clear hB2 hb02 hb2 hN hX;go_wp2_with fail;obtain⟨f1,f2⟩:=HF.out _ _ _ _ _ _ H2.out.1 H2.out.2 rfl;exact bodyPost_ret ((z0b _ _ w.heap.size _ _ f2).1 (by simp)).2 rfl ⟨rfl,f1⟩
 ·rw[hq]at hX;go_wp2_with fail;refine hX.mono ?_;rintro e w1 ⟨rfl,hb1⟩;have hB2:=(hb1.block _ (zBq H0.out.2)).trans H0.out.2;have hb02:=H0.out.1.trans (hb1.mono H0.out.1.size);have e0:w1.cell? ⟨w.heap.size,0,none⟩=some (.int .i64 0):=zBk hB2 0;have e1:w1.cell? ⟨w.heap.size,1,none⟩=some (.int .i64 0):=zBk hB2 1;have z0:=zBn hB2 0;have z1:=zBn hB2 1;have H2:=srch.Hid.mk' (And.intro hb02 hB2);clear hB2 hb02 hb1 hN hX;go_wp2_with fail;obtain⟨f1,f2⟩:=HF.out _ _ _ _ _ _ H2.out.1 H2.out.2 rfl;exact bodyPost_ret ((z0b _ _ w.heap.size _ _ f2).1 (by simp)).2 rfl ⟨rfl,f1⟩
theorem jba3 (a c:List UInt8):(⟨a.toArray⟩:ByteArray)++⟨#[44]⟩++⟨c.toArray⟩=⟨(a++[44]++c).toArray⟩:=by
 show((⟨a.toArray⟩:ByteArray)++⟨[44].toArray⟩++⟨c.toArray⟩)=_;rw[japp,japp]
def zKM (m:List UInt8):List UInt8:=if m=sReg∨m=sSet then [48]else if m=zsK then []else [45]
def five (m:List UInt8):Prop:=m=sReg∨m=sKv∨m=zsK∨m=sSet∨m=zyy
theorem zpZ (m:List UInt8)(hm:five m)(w:World):
 Calls prog 63 #[.string ⟨m.toArray⟩] w fun e w'=>e=.returned (.string ⟨(zKM m).toArray⟩)∧w'=w:=by
 rcases hm with rfl|rfl|rfl|rfl|rfl
 all_goals
  simp only [sReg,sKv,zsK,sSet,zyy];go_enter func63,ntmps63;go_wp2;go_ret;exact⟨rfl,rfl⟩
def zxX:List UInt8:=[114,101,97,100]
def zus:List UInt8:=[119,114,105,116,101]
def nCas:List UInt8:=[99,97,115]
def nGet:List UInt8:=[103,101,116]
def nPut:List UInt8:=[112,117,116]
def nDel:List UInt8:=[100,101,108]
def nEnq:List UInt8:=[101,110,113]
def nDeq:List UInt8:=[100,101,113]
def nAdd:List UInt8:=[97,100,100]
def nRem:List UInt8:=[114,101,109]
def nHas:List UInt8:=[104,97,115]
def nAcq:List UInt8:=[97,99,113]
def nRel:List UInt8:=[114,101,108]
def ztI (st:List UInt8)(o:OpV):List UInt8×Int×Int:=
 if o.name=zxX∨o.name=nGet then(st,numV st)
 else if o.name=zus∨o.name=nPut then(Lib.itoa o.arg,0,0)
 else if o.name=nCas then(if st=Lib.itoa o.exp then(Lib.itoa o.arg,2,1)else(st,2,0))
 else if o.name=nDel then([45],2,tI (st != [45]))
 else if o.name=nEnq then((if st=[]then Lib.itoa o.arg else st++[44]++Lib.itoa o.arg),0,0)
 else if o.name=nDeq then((zN3 st).2,numV (zN3 st).1)
 else if o.name=nAdd then([49],2,tI (st==[48]))
 else if o.name=nRem then([48],2,tI (st==[49]))
 else if o.name=nHas then(st,2,tI (st==[49]))
 else if o.name=nAcq then(if st=[45]then(Lib.itoa o.cl,2,1)else(st,2,0))
 else if o.name=nRel then(if st=Lib.itoa o.cl then([45],2,1)else(st,2,0))
 else(st,2,0)
def names (n:List UInt8):Prop:=n=zxX∨n=nGet∨n=zus∨n=nPut∨n=nCas∨n=nDel∨n=nEnq∨n=nDeq∨n=nAdd∨n=nRem∨n=nHas∨n=nAcq∨n=nRel
theorem zmc (tm:Array Value)(W:World)(b:Nat)(s v0 v1:Value)(h6:tm[6]?.getD undef=s)(h7:tm[7]?.getD undef=.pointer (some ⟨b,0,none⟩))(hb:W.heap[b]?=some (.cells #[v0,v1] 72 (0,0))):
 (results Tryz.f108 tm).run prog W=.ok (.tuple #[s,.agg #[v0,v1]]) W:=by
 have c0:W.cell? ⟨b,0,none⟩=some v0:=by rw[zBk hb];rfl
 have c1:W.cell? ⟨b,1,none⟩=some v1:=by rw[zBk hb];rfl
 simp[results,results108,go_sem,h6,h7,c0,c1]
theorem zPE {n m:List UInt8}(h:n=m):(n==[114,101,97,100])=(m==[114,101,97,100])∧(n==[103,101,116])=(m==[103,101,116])∧(n==[119,114,105,116,101])=(m==[119,114,105,116,101])∧(n==[112,117,116])=(m==[112,117,116])∧(n==[99,97,115])=(m==[99,97,115])∧(n==[100,101,108])=(m==[100,101,108])∧(n==[101,110,113])=(m==[101,110,113])∧(n==[100,101,113])=(m==[100,101,113])∧(n==[97,100,100])=(m==[97,100,100])∧(n==[114,101,109])=(m==[114,101,109])∧(n==[104,97,115])=(m==[104,97,115])∧(n==[97,99,113])=(m==[97,99,113])∧(n==[114,101,108])=(m==[114,101,108]):=by
 subst h;exact⟨rfl,rfl,rfl,rfl,rfl,rfl,rfl,rfl,rfl,rfl,rfl,rfl,rfl⟩
theorem zCs (m st:List UInt8)(o:OpV)(w:World)(hst:st.length≤8000000)(hn:names o.name)(ha: -9223372036854775808≤o.arg∧o.arg≤9223372036854775807)(he: -9223372036854775808≤o.exp∧o.exp≤9223372036854775807)(hc: -9223372036854775808≤o.cl∧o.cl≤9223372036854775807):
 Calls prog 108 #[.string ⟨m.toArray⟩,.string ⟨st.toArray⟩,opAg o] w fun e w'=>e=.returned (.tuple #[.string ⟨(ztI st o).1.toArray⟩,vAg (ztI st o).2.1 (ztI st o).2.2])∧Below w.heap.size w w':=by
 obtain⟨W0,hW0,hb0,hOB,hVB⟩:∃W0,(w.alloc (.cells #[.int .i64 o.id,.int .i64 o.cl,.string ⟨o.name.toArray⟩,.string ⟨o.key.toArray⟩,.int .i64 o.arg,.int .i64 o.exp,.int .i64 o.call,.int .i64 o.ret,.int .i64 o.vk,.int .i64 o.vn] 74)).alloc (.cells #[.int .i64 0,.int .i64 0] 72)=W0∧Below w.heap.size w W0∧W0.heap[w.heap.size]?=some (.cells #[.int .i64 o.id,.int .i64 o.cl,.string ⟨o.name.toArray⟩,.string ⟨o.key.toArray⟩,.int .i64 o.arg,.int .i64 o.exp,.int .i64 o.call,.int .i64 o.ret,.int .i64 o.vk,.int .i64 o.vn] 74 (0,0))∧W0.heap[w.heap.size+1]?=some (.cells #[.int .i64 0,.int .i64 0] 72 (0,0)):=by
  refine⟨_,rfl,(zA _ _).alloc (by simp) _,?_,ziF _ _ _ (by simp)⟩;rw[zD1 _ _ _ (by simp)];exact ziF _ _ _ rfl
 obtain⟨R,hR⟩:∃R,Hid (ztI st o=R):=⟨_,rfl⟩;rw[hR.out];have HB:Hid (∀W:World,Below W0.heap.size W0 W→Below w.heap.size w W∧W.heap[w.heap.size+1]?=some (.cells #[.int .i64 0,.int .i64 0] 72 (0,0))∧W.cell? ⟨w.heap.size+1,0,none⟩=some (.int .i64 0)∧W.cell? ⟨w.heap.size+1,1,none⟩=some (.int .i64 0)∧W.frozen? ⟨w.heap.size+1,0,none⟩=false∧W.frozen? ⟨w.heap.size+1,1,none⟩=false):=fun W hW=>by
  have h:=(hW.block _ (zBq hVB)).trans hVB;exact⟨hb0.trans (hW.mono hb0.size),h,zBk h 0,zBk h 1,zBn h 0,zBn h 1⟩
 have HO:Hid (∀W:World,Below W0.heap.size W0 W→W.cell? ⟨w.heap.size,1,none⟩=some (.int .i64 o.cl)∧W.cell? ⟨w.heap.size,2,none⟩=some (.string ⟨o.name.toArray⟩)∧W.cell? ⟨w.heap.size,5,none⟩=some (.int .i64 o.exp)):=fun W hW=>by
  have h:=(hW.block _ (zBq hOB)).trans hOB;exact⟨zBk h 1,zBk h 2,zBk h 5⟩
 have HF:Hid (∀(W W':World) (x y v0 v1:Value),Below w.heap.size w W→W.heap[w.heap.size+1]?=some (.cells #[x,y] 72 (0,0))→W'=(W.setCell ⟨w.heap.size+1,0,none⟩ v0).setCell ⟨w.heap.size+1,1,none⟩ v1→Below w.heap.size w W'∧W'.heap[w.heap.size+1]?=some (.cells #[v0,v1] 72 (0,0))):=by
  intro W W' x y v0 v1 h1 h2 h3;subst h3;exact⟨(h1.setCell (p:=⟨w.heap.size+1,0,none⟩) (by show w.heap.size≤w.heap.size+1;omega) _).setCell (p:=⟨w.heap.size+1,1,none⟩) (by show w.heap.size≤w.heap.size+1;omega) _,srch.vset h2 _ _⟩
 have a4:W0.cell? ⟨w.heap.size,4,none⟩=some (.int .i64 o.arg):=zBk hOB 4;have hDa:=fun W=>zM7 o.arg W ha.1 ha.2;have hDe:=fun W=>zM7 o.exp W he.1 he.2;have hDc:=fun W=>zM7 o.cl W hc.1 hc.2;have hla:=zCU o.arg ha.1 ha.2;have hN:=fun W=>z4Y st W (by omega);have hH:=fun W=>zS3 st W (by omega);have hNH:=fun W=>z4Y (zN3 st).1 W (by have:=(zGM st).1;omega);have hT:=zrhV;have hO:=zPG;unfold opAg vAg at*;go_enter func108,ntmps108;clear hb0 hOB hVB;have hd:Hid (ztI st o=ztI st o):=rfl;rcases hn with hn|hn|hn|hn|hn|hn|hn|hn|hn|hn|hn|hn|hn
 all_goals
  obtain⟨t0,t1,t2,t3,t4,t5,t6,t7,t8,t9,t10,t11,t12⟩:=zPE hn
  first|change _=true at t0|change _=false at t0
  first|change _=true at t1|change _=false at t1
  first|change _=true at t2|change _=false at t2
  first|change _=true at t3|change _=false at t3
  first|change _=true at t4|change _=false at t4
  first|change _=true at t5|change _=false at t5
  first|change _=true at t6|change _=false at t6
  first|change _=true at t7|change _=false at t7
  first|change _=true at t8|change _=false at t8
  first|change _=true at t9|change _=false at t9
  first|change _=true at t10|change _=false at t10
  first|change _=true at t11|change _=false at t11
  first|change _=true at t12|change _=false at t12
  have HN:=srch.Hid.mk' hn;clear hn;have B_W0:Hid (Below W0.heap.size W0 W0):=zD;go_wp2_with fail;refine(hDa _).mono ?_;rintro e w1 ⟨rfl,hb⟩;have B_w1:Hid (Below W0.heap.size W0 w1):=hb;clear hb;obtain⟨c1,c2,c5⟩:=HO.out _ B_w1.out
 ·have hE:Hid (R=(st,numV st)):=by show _=_;rw[←hR.out,ztI,HN.out];rfl
  go_wp2_with fail;refine(hN _).mono ?_;rintro e w2 ⟨rfl,hb⟩;have B_w2:Hid (Below W0.heap.size W0 w2):=B_w1.out.trans (hb.mono B_w1.out.size);clear hb;obtain⟨q1,q2,e0,e1,z0,z1⟩:=HB.out _ B_w2.out;have HV:Hid _:=And.intro q1 q2;clear q1 q2;go_wp2_with fail;obtain⟨f1,f2⟩:=HF.out _ _ _ _ _ _ HV.out.1 HV.out.2 rfl;exact bodyPost_ret (zmc _ _ (w.heap.size+1) _ _ _ rfl (by simp) f2) rfl ⟨by rw[hE.out];rfl,f1⟩
 ·have hE:Hid (R=(st,numV st)):=by show _=_;rw[←hR.out,ztI,HN.out];rfl
  go_wp2_with fail;refine(hN _).mono ?_;rintro e w2 ⟨rfl,hb⟩;have B_w2:Hid (Below W0.heap.size W0 w2):=B_w1.out.trans (hb.mono B_w1.out.size);clear hb;obtain⟨q1,q2,e0,e1,z0,z1⟩:=HB.out _ B_w2.out;have HV:Hid _:=And.intro q1 q2;clear q1 q2;go_wp2_with fail;obtain⟨f1,f2⟩:=HF.out _ _ _ _ _ _ HV.out.1 HV.out.2 rfl;exact bodyPost_ret (zmc _ _ (w.heap.size+1) _ _ _ rfl (by simp) f2) rfl ⟨by rw[hE.out];rfl,f1⟩
 ·have hE:Hid (R=(Lib.itoa o.arg,0,0)):=by show _=_;rw[←hR.out,ztI,HN.out];rfl
  go_wp2_with fail;refine(hO _).mono ?_;rintro e w2 ⟨rfl,hb⟩;have B_w2:Hid (Below W0.heap.size W0 w2):=B_w1.out.trans (hb.mono B_w1.out.size);clear hb;obtain⟨q1,q2,e0,e1,z0,z1⟩:=HB.out _ B_w2.out;have HV:Hid _:=And.intro q1 q2;clear q1 q2;go_wp2_with fail;obtain⟨f1,f2⟩:=HF.out _ _ _ _ _ _ HV.out.1 HV.out.2 rfl;exact bodyPost_ret (zmc _ _ (w.heap.size+1) _ _ _ rfl (by simp) f2) rfl ⟨by rw[hE.out];rfl,f1⟩
 ·have hE:Hid (R=(Lib.itoa o.arg,0,0)):=by show _=_;rw[←hR.out,ztI,HN.out];rfl
  go_wp2_with fail;refine(hO _).mono ?_;rintro e w2 ⟨rfl,hb⟩;have B_w2:Hid (Below W0.heap.size W0 w2):=B_w1.out.trans (hb.mono B_w1.out.size);clear hb;obtain⟨q1,q2,e0,e1,z0,z1⟩:=HB.out _ B_w2.out;have HV:Hid _:=And.intro q1 q2;clear q1 q2;go_wp2_with fail;obtain⟨f1,f2⟩:=HF.out _ _ _ _ _ _ HV.out.1 HV.out.2 rfl;exact bodyPost_ret (zmc _ _ (w.heap.size+1) _ _ _ rfl (by simp) f2) rfl ⟨by rw[hE.out];rfl,f1⟩
 ·by_cases hx:st=Lib.itoa o.exp
  ·have hE:Hid (R=(Lib.itoa o.arg,2,1)):=(by show _=_;rw[←hR.out,ztI,HN.out];show(if st=Lib.itoa o.exp then(Lib.itoa o.arg,(2:Int),(1:Int))else(st,2,0))=_;exact if_pos hx);have hx':(st==Lib.itoa o.exp)=true:=(by simpa using hx);have hle:=zCU o.exp he.1 he.2;clear hx;generalize Lib.itoa o.exp=ex at*;go_wp2_with fail;refine(hDe _).mono ?_;rintro e w2 ⟨rfl,hb⟩;have B_w2:Hid (Below W0.heap.size W0 w2):=B_w1.out.trans (hb.mono B_w1.out.size);clear hb;obtain⟨c1,c2,c5⟩:=HO.out _ B_w2.out;go_wp2_with fail;refine(hT true _).mono ?_;rintro e w3 ⟨rfl,hb⟩;have B_w3:Hid (Below W0.heap.size W0 w3):=B_w2.out.trans (hb.mono B_w2.out.size);clear hb;obtain⟨q1,q2,e0,e1,z0,z1⟩:=HB.out _ B_w3.out;have HV:Hid _:=And.intro q1 q2;clear q1 q2;go_wp2_with fail;obtain⟨f1,f2⟩:=HF.out _ _ _ _ _ _ HV.out.1 HV.out.2 rfl;exact bodyPost_ret (zmc _ _ (w.heap.size+1) _ _ _ rfl (by simp) f2) rfl ⟨by rw[hE.out];rfl,f1⟩
  ·have hE:Hid (R=(st,2,0)):=(by show _=_;rw[←hR.out,ztI,HN.out];show(if st=Lib.itoa o.exp then(Lib.itoa o.arg,(2:Int),(1:Int))else(st,2,0))=_;exact if_neg hx);have hx':(st==Lib.itoa o.exp)=false:=(by simpa using hx);have hle:=zCU o.exp he.1 he.2;clear hx;generalize Lib.itoa o.exp=ex at*;go_wp2_with fail;refine(hDe _).mono ?_;rintro e w2 ⟨rfl,hb⟩;have B_w2:Hid (Below W0.heap.size W0 w2):=B_w1.out.trans (hb.mono B_w1.out.size);clear hb;obtain⟨c1,c2,c5⟩:=HO.out _ B_w2.out;go_wp2_with fail;refine(hT false _).mono ?_;rintro e w3 ⟨rfl,hb⟩;have B_w3:Hid (Below W0.heap.size W0 w3):=B_w2.out.trans (hb.mono B_w2.out.size);clear hb;obtain⟨q1,q2,e0,e1,z0,z1⟩:=HB.out _ B_w3.out;have HV:Hid _:=And.intro q1 q2;clear q1 q2;go_wp2_with fail;obtain⟨f1,f2⟩:=HF.out _ _ _ _ _ _ HV.out.1 HV.out.2 rfl;exact bodyPost_ret (zmc _ _ (w.heap.size+1) _ _ _ rfl (by simp) f2) rfl ⟨by rw[hE.out];rfl,f1⟩
 ·have hE:Hid (R=([45],2,tI (st != [45]))):=by show _=_;rw[←hR.out,ztI,HN.out];rfl
  go_wp2_with fail;refine(hT _ _).mono ?_;rintro e w2 ⟨rfl,hb⟩;have B_w2:Hid (Below W0.heap.size W0 w2):=B_w1.out.trans (hb.mono B_w1.out.size);clear hb;obtain⟨q1,q2,e0,e1,z0,z1⟩:=HB.out _ B_w2.out;have HV:Hid _:=And.intro q1 q2;clear q1 q2;go_wp2_with fail;obtain⟨f1,f2⟩:=HF.out _ _ _ _ _ _ HV.out.1 HV.out.2 rfl;exact bodyPost_ret (zmc _ _ (w.heap.size+1) _ _ _ rfl (by simp) f2) rfl ⟨by rw[hE.out];rfl,f1⟩
 ·by_cases hx:st=[]
  ·have hE:Hid (R=(Lib.itoa o.arg,0,0)):=(by show _=_;rw[←hR.out,ztI,HN.out];show((if st=[]then Lib.itoa o.arg else st++[44]++Lib.itoa o.arg),(0:Int),(0:Int))=_;rw[if_pos hx]);have hx':st.isEmpty=true:=(by simp[hx]);clear hx;go_wp2_with fail;refine(hO _).mono ?_;rintro e w2 ⟨rfl,hb⟩;have B_w2:Hid (Below W0.heap.size W0 w2):=B_w1.out.trans (hb.mono B_w1.out.size);clear hb;obtain⟨q1,q2,e0,e1,z0,z1⟩:=HB.out _ B_w2.out;have HV:Hid _:=And.intro q1 q2;clear q1 q2;go_wp2_with fail;obtain⟨f1,f2⟩:=HF.out _ _ _ _ _ _ HV.out.1 HV.out.2 rfl;exact bodyPost_ret (zmc _ _ (w.heap.size+1) _ _ _ rfl (by simp) f2) rfl ⟨by rw[hE.out];rfl,f1⟩
  ·have hE:Hid (R=(st++[44]++Lib.itoa o.arg,0,0)):=(by show _=_;rw[←hR.out,ztI,HN.out];show((if st=[]then Lib.itoa o.arg else st++[44]++Lib.itoa o.arg),(0:Int),(0:Int))=_;rw[if_neg hx]);have hx':st.isEmpty=false:=(by simpa using hx);clear hx;go_wp2_with fail;refine(hO _).mono ?_;rintro e w2 ⟨rfl,hb⟩;have B_w2:Hid (Below W0.heap.size W0 w2):=B_w1.out.trans (hb.mono B_w1.out.size);clear hb;obtain⟨q1,q2,e0,e1,z0,z1⟩:=HB.out _ B_w2.out;have HV:Hid _:=And.intro q1 q2;clear q1 q2;go_wp2_with fail;obtain⟨f1,f2⟩:=HF.out _ _ _ _ _ _ HV.out.1 HV.out.2 rfl;exact bodyPost_ret (zmc _ _ (w.heap.size+1) _ _ _ rfl (by simp) f2) rfl ⟨by rw[hE.out];dsimp only;rw[←jba3];rfl,f1⟩
 ·have hE:Hid (R=((zN3 st).2,numV (zN3 st).1)):=by show _=_;rw[←hR.out,ztI,HN.out];rfl
  go_wp2_with fail;refine(hH _).mono ?_;rintro e w2 ⟨rfl,hb⟩;have B_w2:Hid (Below W0.heap.size W0 w2):=B_w1.out.trans (hb.mono B_w1.out.size);clear hb;go_wp2_with fail;refine(hNH _).mono ?_;rintro e w3 ⟨rfl,hb⟩;have B_w3:Hid (Below W0.heap.size W0 w3):=B_w2.out.trans (hb.mono B_w2.out.size);clear hb;obtain⟨q1,q2,e0,e1,z0,z1⟩:=HB.out _ B_w3.out;have HV:Hid _:=And.intro q1 q2;clear q1 q2;go_wp2_with fail;obtain⟨f1,f2⟩:=HF.out _ _ _ _ _ _ HV.out.1 HV.out.2 rfl;exact bodyPost_ret (zmc _ _ (w.heap.size+1) _ _ _ rfl (by simp) f2) rfl ⟨by rw[hE.out];rfl,f1⟩
 ·have hE:Hid (R=([49],2,tI (st==[48]))):=by show _=_;rw[←hR.out,ztI,HN.out];rfl
  go_wp2_with fail;refine(hT _ _).mono ?_;rintro e w2 ⟨rfl,hb⟩;have B_w2:Hid (Below W0.heap.size W0 w2):=B_w1.out.trans (hb.mono B_w1.out.size);clear hb;obtain⟨q1,q2,e0,e1,z0,z1⟩:=HB.out _ B_w2.out;have HV:Hid _:=And.intro q1 q2;clear q1 q2;go_wp2_with fail;obtain⟨f1,f2⟩:=HF.out _ _ _ _ _ _ HV.out.1 HV.out.2 rfl;exact bodyPost_ret (zmc _ _ (w.heap.size+1) _ _ _ rfl (by simp) f2) rfl ⟨by rw[hE.out];rfl,f1⟩
 ·have hE:Hid (R=([48],2,tI (st==[49]))):=by show _=_;rw[←hR.out,ztI,HN.out];rfl
  go_wp2_with fail;refine(hT _ _).mono ?_;rintro e w2 ⟨rfl,hb⟩;have B_w2:Hid (Below W0.heap.size W0 w2):=B_w1.out.trans (hb.mono B_w1.out.size);clear hb;obtain⟨q1,q2,e0,e1,z0,z1⟩:=HB.out _ B_w2.out;have HV:Hid _:=And.intro q1 q2;clear q1 q2;go_wp2_with fail;obtain⟨f1,f2⟩:=HF.out _ _ _ _ _ _ HV.out.1 HV.out.2 rfl;exact bodyPost_ret (zmc _ _ (w.heap.size+1) _ _ _ rfl (by simp) f2) rfl ⟨by rw[hE.out];rfl,f1⟩
 ·have hE:Hid (R=(st,2,tI (st==[49]))):=by show _=_;rw[←hR.out,ztI,HN.out];rfl
  go_wp2_with fail;refine(hT _ _).mono ?_;rintro e w2 ⟨rfl,hb⟩;have B_w2:Hid (Below W0.heap.size W0 w2):=B_w1.out.trans (hb.mono B_w1.out.size);clear hb;obtain⟨q1,q2,e0,e1,z0,z1⟩:=HB.out _ B_w2.out;have HV:Hid _:=And.intro q1 q2;clear q1 q2;go_wp2_with fail;obtain⟨f1,f2⟩:=HF.out _ _ _ _ _ _ HV.out.1 HV.out.2 rfl;exact bodyPost_ret (zmc _ _ (w.heap.size+1) _ _ _ rfl (by simp) f2) rfl ⟨by rw[hE.out];rfl,f1⟩
 ·by_cases hx:st=[45]
  ·have hE:Hid (R=(Lib.itoa o.cl,2,1)):=(by show _=_;rw[←hR.out,ztI,HN.out];show(if st=[45]then(Lib.itoa o.cl,(2:Int),(1:Int))else(st,2,0))=_;exact if_pos hx);have hx':(st==[45])=true:=(by simpa using hx);clear hx;go_wp2_with fail;refine(hDc _).mono ?_;rintro e w2 ⟨rfl,hb⟩;have B_w2:Hid (Below W0.heap.size W0 w2):=B_w1.out.trans (hb.mono B_w1.out.size);clear hb;go_wp2_with fail;refine(hT true _).mono ?_;rintro e w3 ⟨rfl,hb⟩;have B_w3:Hid (Below W0.heap.size W0 w3):=B_w2.out.trans (hb.mono B_w2.out.size);clear hb;obtain⟨q1,q2,e0,e1,z0,z1⟩:=HB.out _ B_w3.out;have HV:Hid _:=And.intro q1 q2;clear q1 q2;go_wp2_with fail;obtain⟨f1,f2⟩:=HF.out _ _ _ _ _ _ HV.out.1 HV.out.2 rfl;exact bodyPost_ret (zmc _ _ (w.heap.size+1) _ _ _ rfl (by simp) f2) rfl ⟨by rw[hE.out];rfl,f1⟩
  ·have hE:Hid (R=(st,2,0)):=(by show _=_;rw[←hR.out,ztI,HN.out];show(if st=[45]then(Lib.itoa o.cl,(2:Int),(1:Int))else(st,2,0))=_;exact if_neg hx);have hx':(st==[45])=false:=(by simpa using hx);clear hx;go_wp2_with fail;refine(hT false _).mono ?_;rintro e w2 ⟨rfl,hb⟩;have B_w2:Hid (Below W0.heap.size W0 w2):=B_w1.out.trans (hb.mono B_w1.out.size);clear hb;obtain⟨q1,q2,e0,e1,z0,z1⟩:=HB.out _ B_w2.out;have HV:Hid _:=And.intro q1 q2;clear q1 q2;go_wp2_with fail;obtain⟨f1,f2⟩:=HF.out _ _ _ _ _ _ HV.out.1 HV.out.2 rfl;exact bodyPost_ret (zmc _ _ (w.heap.size+1) _ _ _ rfl (by simp) f2) rfl ⟨by rw[hE.out];rfl,f1⟩
 ·by_cases hx:st=Lib.itoa o.cl
  ·have hE:Hid (R=([45],2,1)):=(by show _=_;rw[←hR.out,ztI,HN.out];show(if st=Lib.itoa o.cl then([45],(2:Int),(1:Int))else(st,2,0))=_;exact if_pos hx);have hx':(st==Lib.itoa o.cl)=true:=(by simpa using hx);clear hx;generalize Lib.itoa o.cl=ex at*;go_wp2_with fail;refine(hDc _).mono ?_;rintro e w2 ⟨rfl,hb⟩;have B_w2:Hid (Below W0.heap.size W0 w2):=B_w1.out.trans (hb.mono B_w1.out.size);clear hb;go_wp2_with fail;refine(hT true _).mono ?_;rintro e w3 ⟨rfl,hb⟩;have B_w3:Hid (Below W0.heap.size W0 w3):=B_w2.out.trans (hb.mono B_w2.out.size);clear hb;obtain⟨q1,q2,e0,e1,z0,z1⟩:=HB.out _ B_w3.out;have HV:Hid _:=And.intro q1 q2;clear q1 q2;go_wp2_with fail;obtain⟨f1,f2⟩:=HF.out _ _ _ _ _ _ HV.out.1 HV.out.2 rfl;exact bodyPost_ret (zmc _ _ (w.heap.size+1) _ _ _ rfl (by simp) f2) rfl ⟨by rw[hE.out];rfl,f1⟩
  ·have hE:Hid (R=(st,2,0)):=(by show _=_;rw[←hR.out,ztI,HN.out];show(if st=Lib.itoa o.cl then([45],(2:Int),(1:Int))else(st,2,0))=_;exact if_neg hx);have hx':(st==Lib.itoa o.cl)=false:=(by simpa using hx);clear hx;generalize Lib.itoa o.cl=ex at*;go_wp2_with fail;refine(hDc _).mono ?_;rintro e w2 ⟨rfl,hb⟩;have B_w2:Hid (Below W0.heap.size W0 w2):=B_w1.out.trans (hb.mono B_w1.out.size);clear hb;go_wp2_with fail;refine(hT false _).mono ?_;rintro e w3 ⟨rfl,hb⟩;have B_w3:Hid (Below W0.heap.size W0 w3):=B_w2.out.trans (hb.mono B_w2.out.size);clear hb;obtain⟨q1,q2,e0,e1,z0,z1⟩:=HB.out _ B_w3.out;have HV:Hid _:=And.intro q1 q2;clear q1 q2;go_wp2_with fail;obtain⟨f1,f2⟩:=HF.out _ _ _ _ _ _ HV.out.1 HV.out.2 rfl;exact bodyPost_ret (zmc _ _ (w.heap.size+1) _ _ _ rfl (by simp) f2) rfl ⟨by rw[hE.out];rfl,f1⟩
open srch (vAg opAg tI OAt)
def IAt (w:World)(oa:Option Addr)(l:List Nat):Prop:=l≠[]→∃g,oa=some ⟨g,0,none⟩∧g<w.heap.size∧∀(j x:Nat),l[j]?=some x→w.cell? ⟨g,j,none⟩=some (.int .i64 (x:Int))
theorem IAt.below {w w':World}{oa:Option Addr}{l:List Nat}(h:IAt w oa l)(k:Below w.heap.size w w'):IAt w' oa l:=by
 intro hne;obtain⟨g,h1,h2,h3⟩:=h hne;exact⟨g,h1,zH h2 k.size,fun j u hj=>(k.cell (p:=⟨g,j,none⟩) h2).trans (h3 j u hj)⟩
def zrE (ops:List OpV)(part:List Nat)(P:List OpV):Prop:=part.length=P.length∧∀(i:Nat) (o:OpV),P[i]?=some o→∃p,part[i]?=some p∧ops[p]?=some o
theorem zRO {w:World}{oa:Option Addr}{ops:List OpV}(h:OAt w oa ops){p:Nat}{o:OpV}(hp:ops[p]?=some o):∃g,oa=some ⟨g,0,none⟩∧g<w.heap.size∧p<ops.length∧∀c u,c<10→(opvCells o)[c]?=some u→w.cell? ⟨g,p*10+c,none⟩=some u:=by
 obtain⟨hl,he⟩:=zB hp;obtain⟨g,h1,h2,h3⟩:=h (by rintro rfl;simp at hl);exact⟨g,h1,h2,hl,fun c u hc hu=>h3 _ _ ((zvc ops p hl c hc).trans (by rw[he];exact hu))⟩
def z5E (done:List UInt8)(P:List OpV)(k i:Nat):Bool:=done[i]?.getD 0==48&&decide (0<(P[i]?.getD z1u).ret)&&decide ((P[i]?.getD z1u).ret<(P[k]?.getD z1u).call)
def mayP (P:List OpV)(done:List UInt8)(k:Nat):Bool:=!(done[k]?.getD 0==49)&&!(List.range P.length).any (z5E done P k)
theorem zBy (oa pa:Option Addr)(oc pc:Nat)(ops P:List OpV)(part:List Nat)(done:List UInt8)(k:Nat)(w:World)(ho:OAt w oa ops)(hp:IAt w pa part)(hP:zrE ops part P)(hd:done.length=P.length)(hk:k<P.length)(hl:P.length≤1000)(_hol:ops.length≤1000):
 Calls Tryz.prog 107 #[.slice oa ops.length oc,.slice pa part.length pc,.string ⟨done.toArray⟩,.int .i64 (k:Int)] w fun e w'=>e=.returned (.bool (mayP P done k))∧Below w.heap.size w w':=by
 obtain⟨RES,hRES⟩:∃RES,RES=mayP P done k:=⟨_,rfl⟩;rw[←hRES];have HRES:Hid _:=hRES;have HPL:Hid _:=hP.1;rw[hP.1];obtain⟨ok,hok⟩:∃o,P[k]?=some o:=⟨_,zC hk⟩;obtain⟨pk,hpk,hopk⟩:=hP.2 k ok hok;obtain⟨gp,rfl,hgp,hpc⟩:=hp (by rintro rfl;simp at hpk);obtain⟨go,rfl,hgo,hpkl,hkc⟩:=zRO ho hopk;have hkd:k<done.length:=by omega
 have hkd':(k:Int)<(done.length:Int):=by omega
 have hsz1:k<(⟨done.toArray⟩:ByteArray).size:=by show k<done.toArray.size;simpa using hkd
 have hby:(⟨done.toArray⟩:ByteArray)[k]'hsz1=done[k]:=by show done.toArray[k]'(by simpa using hkd)=done[k];simp
 have hkq:done[k]?.getD 0=done[k]:=by rw[zC hkd];rfl
 clear hRES;go_enter Tryz.func107,Tryz.ntmps107;by_cases h49:done[k]=49
 ·have hc':(((((⟨done.toArray⟩:ByteArray)[k]'hsz1).toNat:Int)==49))=true:=by rw[hby,h49];decide
  have hE:Hid (RES=false):=by show _=_;rw[HRES.out,mayP,hkq,h49];rfl
  clear hby
  go_wp2_with fail;go_ret;exact⟨by rw[hE.out];rfl,zD⟩
 ·have hc':(((((⟨done.toArray⟩:ByteArray)[k]'hsz1).toNat:Int)==49))=false:=by
   rw[hby];have:done[k].toNat≠49:=fun e=>h49 (UInt8.toNat_inj.1 e);simp;omega
  have hE:Hid (RES=!(List.range P.length).any (z5E done P k)):=by
   show _=_;rw[HRES.out,mayP,hkq,show(done[k]==49)=false by simpa using h49];rfl
  clear hby
  go_wp2_with fail;go_loopw [9] (fun i wr=>∃(j:Nat),i=.int .i64 (j:Int)∧j≤P.length∧Hid (∀q,q<j→z5E done P k q=false)∧Hid (Below w.heap.size w wr)) (fun i _=>P.length-(intOf i).toNat)
  case atStart=>exact⟨0,rfl,by omega,fun q hq=>absurd hq (by omega),zD⟩
  case round=>
   obtain⟨j,rfl,hj,HL,HB⟩:=hrel;by_cases hin:j<P.length
   ·have hinP:(j:Int)<(P.length:Int):=(by omega);have hkP:(k:Int)<(P.length:Int):=(by omega);obtain⟨y,hy⟩:∃y,P[j]?=some y:=⟨_,zC hin⟩;obtain⟨p,hpj,hpo⟩:=hP.2 j y hy;obtain⟨go',hgo',_,hpol,hyc⟩:=zRO ho hpo;obtain rfl:go=go':=(by injection hgo' with e;injection e);have hpi:(p:Int)<(ops.length:Int):=(by omega);have hpki:(pk:Int)<(ops.length:Int):=(by omega);have xj:wr.cell? ⟨gp,j,none⟩=some (.int .i64 (p:Int)):=(HB.out.cell (p:=⟨gp,j,none⟩) hgp).trans (hpc j p hpj);have hq:∀c u,c<10→(opvCells y)[c]?=some u→wr.cell? ⟨go,p*10+c,none⟩=some u:=fun c u hc hu=>(HB.out.cell (p:=⟨go,p*10+c,none⟩) hgo).trans (hyc c u hc hu);have q0:wr.cell? ⟨go,p*10,none⟩=some (.int .i64 y.id):=hq 0 _ (by decide) rfl;have q1:wr.cell? ⟨go,p*10+1,none⟩=some (.int .i64 y.cl):=hq 1 _ (by decide) rfl;have q2:wr.cell? ⟨go,p*10+2,none⟩=some (.string ⟨y.name.toArray⟩):=hq 2 _ (by decide) rfl;have q3:wr.cell? ⟨go,p*10+3,none⟩=some (.string ⟨y.key.toArray⟩):=hq 3 _ (by decide) rfl;have q4:wr.cell? ⟨go,p*10+4,none⟩=some (.int .i64 y.arg):=hq 4 _ (by decide) rfl;have q5:wr.cell? ⟨go,p*10+5,none⟩=some (.int .i64 y.exp):=hq 5 _ (by decide) rfl;have q6:wr.cell? ⟨go,p*10+6,none⟩=some (.int .i64 y.call):=hq 6 _ (by decide) rfl;have q7:wr.cell? ⟨go,p*10+7,none⟩=some (.int .i64 y.ret):=hq 7 _ (by decide) rfl;have q8:wr.cell? ⟨go,p*10+8,none⟩=some (.int .i64 y.vk):=hq 8 _ (by decide) rfl;have q9:wr.cell? ⟨go,p*10+9,none⟩=some (.int .i64 y.vn):=hq 9 _ (by decide) rfl;obtain⟨W2,hW2,hb2,hY2⟩:∃W2,wr.alloc (.cells #[.int .i64 y.id,.int .i64 y.cl,.string ⟨y.name.toArray⟩,.string ⟨y.key.toArray⟩,.int .i64 y.arg,.int .i64 y.exp,.int .i64 y.call,.int .i64 y.ret,.int .i64 y.vk,.int .i64 y.vn] 74)=W2∧Below wr.heap.size wr W2∧W2.heap[wr.heap.size]?=some (.cells #[.int .i64 y.id,.int .i64 y.cl,.string ⟨y.name.toArray⟩,.string ⟨y.key.toArray⟩,.int .i64 y.arg,.int .i64 y.exp,.int .i64 y.call,.int .i64 y.ret,.int .i64 y.vk,.int .i64 y.vn] 74 (0,0)):=⟨_,rfl,zA _ _,ziF _ _ _ rfl⟩;have y7:W2.cell? ⟨wr.heap.size,7,none⟩=some (.int .i64 y.ret):=zBk hY2 7;have HB2:Hid (Below w.heap.size w W2):=HB.out.trans (hb2.mono HB.out.size);have x2:W2.cell? ⟨gp,k,none⟩=some (.int .i64 (pk:Int)):=(HB2.out.cell (p:=⟨gp,k,none⟩) hgp).trans (hpc k pk hpk);have x6:W2.cell? ⟨go,pk*10+6,none⟩=some (.int .i64 ok.call):=(HB2.out.cell (p:=⟨go,pk*10+6,none⟩) hgo).trans (hkc 6 _ (by decide) rfl);have hdj:j<done.length:=(by omega);have hdj':(j:Int)<(done.length:Int):=(by omega);have hsz2:j<(⟨done.toArray⟩:ByteArray).size:=(by show j<done.toArray.size;simpa using hdj);have hby2:(⟨done.toArray⟩:ByteArray)[j]'hsz2=done[j]:=(by show done.toArray[j]'(by simpa using hdj)=done[j];simp);have hlate:Hid (z5E done P k j=(done[j]==48&&decide (0<y.ret)&&decide (y.ret<ok.call))):=by
     show _=_;unfold z5E;rw[hy,hok,zC hdj];rfl
    have hwj:IntKind.i64.wrap ((j:Int)+1)=(j:Int)+1:=(by go_arith);have HD:Hid _:=And.intro hY2 hb2;have hb48:((((⟨done.toArray⟩:ByteArray)[j]'hsz2).toNat:Int)==48)=(done[j]==48):=by
     rw[hby2,Bool.eq_iff_iff];simp only [beq_iff_eq];constructor
     ·intro e;exact UInt8.toNat_inj.1 (by show done[j].toNat=48;omega)
     ·intro e;rw[e];rfl
    clear hY2 hb2 hq hyc hkc hpc hby2;generalize hdd:(done[j]==48)=d48 at hb48 hlate;clear hdd;have hgo:∀b:Bool,(d48&&decide (0<y.ret)&&decide (y.ret<ok.call))=b→Hid (z5E done P k j=b):=fun b h=>(by show _=_;rw[hlate.out];exact h);have HG:Hid _:=hgo;clear hgo hlate;by_cases c1:d48=true
    ·subst c1;by_cases c2:0<y.ret
     ·by_cases c3:y.ret<ok.call
      ·have hE2:Hid (RES=false):=by
        show _=_;rw[hE.out,Bool.not_eq_false',List.any_eq_true];exact⟨j,by simpa using hin,HG.out true (by simp[c2,c3])⟩
       clear hE HG;go_wp2_with fail;go_quiet (fail);go_wp2_with fail;go_ret;exact⟨by rw[hE2.out];rfl,zqh HB2.out _⟩
      ·have hN:=HG.out false (by simp[c3]);have c2':decide (0<y.ret)=true:=(by simpa using c2);have c3':decide (y.ret<ok.call)=false:=(by simpa using c3);clear HG c2 c3;go_wp2_with fail;go_quiet (fail);go_wp2_with fail;go_roundw
       case rel=>exact⟨j+1,by go_num,by omega,fun q hq=>by
        by_cases e:q=j
        ·subst e;exact hN.out
        ·exact HL.out q (by omega),zqh HB2.out _⟩
       case measure=>simp[intOf];omega
     ·have hN:=HG.out false (by simp[c2]);have c2':decide (0<y.ret)=false:=(by simpa using c2);clear HG c2;go_wp2_with fail;go_quiet (fail);go_wp2_with fail;go_roundw
      case rel=>exact⟨j+1,by go_num,by omega,fun q hq=>by
       by_cases e:q=j
       ·subst e;exact hN.out
       ·exact HL.out q (by omega),zqh HB2.out _⟩
      case measure=>simp[intOf];omega
    ·have c1':d48=false:=(by simpa using c1);subst c1';have hN:=HG.out false (by simp);clear HG;go_wp2_with fail;go_quiet (fail);go_wp2_with fail;go_roundw
     case rel=>exact⟨j+1,by go_num,by omega,fun q hq=>by
      by_cases e:q=j
      ·subst e;exact hN.out
      ·exact HL.out q (by omega),zqh HB2.out _⟩
     case measure=>simp[intOf];omega
   ·have hinP:¬(j:Int)<(P.length:Int):=(by omega);have hE2:Hid (RES=true):=by
     show _=_;rw[hE.out,Bool.not_eq_true',List.any_eq_false];intro q hq;rw[HL.out q (by have:=List.mem_range.1 hq;omega)];simp
    clear hE;go_wp2_with fail;go_ret;exact⟨by rw[hE2.out];rfl,HB.out⟩
theorem jb49 (a c:List UInt8):(⟨a.toArray⟩:ByteArray)++⟨#[49]⟩++⟨c.toArray⟩=⟨(a++[49]++c).toArray⟩:=by
 show((⟨a.toArray⟩:ByteArray)++⟨[49].toArray⟩++⟨c.toArray⟩)=_;rw[japp,japp]
abbrev Cf:=List UInt8×List UInt8
def cAg (c:Cf):Value:=.agg #[.string ⟨c.1.toArray⟩,.string ⟨c.2.toArray⟩]
def zsj (P:List OpV)(c:Cf)(k:Nat):Option Cf:=
 if mayP P c.1 k=true then
  (if 0<(P[k]?.getD z1u).ret∧(ztI c.2 (P[k]?.getD z1u)).2≠((P[k]?.getD z1u).vk,(P[k]?.getD z1u).vn)then none
   else some (c.1.take k++[49]++c.1.drop (k+1),(ztI c.2 (P[k]?.getD z1u)).1))
 else none
def okO (o:OpV):Prop:=names o.name∧(-9223372036854775808≤o.arg∧o.arg≤9223372036854775807)∧(-9223372036854775808≤o.exp∧o.exp≤9223372036854775807)∧(-9223372036854775808≤o.cl∧o.cl≤9223372036854775807)
theorem zne {w':World}{b:Nat}{y:OpV}(h:w'.heap[b]?=some (.cells #[.int .i64 y.id,.int .i64 y.cl,.string ⟨y.name.toArray⟩,.string ⟨y.key.toArray⟩,.int .i64 y.arg,.int .i64 y.exp,.int .i64 y.call,.int .i64 y.ret,.int .i64 y.vk,.int .i64 y.vn] 74 (0,0))):
 w'.cell? ⟨b,0,none⟩=some (.int .i64 y.id)∧w'.cell? ⟨b,1,none⟩=some (.int .i64 y.cl)∧w'.cell? ⟨b,2,none⟩=some (.string ⟨y.name.toArray⟩)∧w'.cell? ⟨b,3,none⟩=some (.string ⟨y.key.toArray⟩)∧w'.cell? ⟨b,4,none⟩=some (.int .i64 y.arg)∧w'.cell? ⟨b,5,none⟩=some (.int .i64 y.exp)∧w'.cell? ⟨b,6,none⟩=some (.int .i64 y.call)∧w'.cell? ⟨b,7,none⟩=some (.int .i64 y.ret)∧w'.cell? ⟨b,8,none⟩=some (.int .i64 y.vk)∧w'.cell? ⟨b,9,none⟩=some (.int .i64 y.vn):=
 ⟨zBk h 0,zBk h 1,zBk h 2,zBk h 3,zBk h 4,zBk h 5,zBk h 6,zBk h 7,zBk h 8,zBk h 9⟩
theorem zDn (tm:Array Value)(W:World)(b:Nat)(v0 v1 x:Value)(h6:tm[10]?.getD undef=.pointer (some ⟨b,0,none⟩))(h7:tm[11]?.getD undef=x)(hb:W.heap[b]?=some (.cells #[v0,v1] 82 (0,0))):
 (results Tryz.f64 tm).run prog W=.ok (.tuple #[.agg #[v0,v1],x]) W:=by
 have c0:W.cell? ⟨b,0,none⟩=some v0:=by rw[zBk hb];rfl
 have c1:W.cell? ⟨b,1,none⟩=some v1:=by rw[zBk hb];rfl
 simp[results,results64,go_sem,h6,h7,c0,c1]
theorem cset {W:World}{b:Nat}{x y:Value}(h:W.heap[b]?=some (.cells #[x,y] 82 (0,0)))(v0 v1:Value):((W.setCell ⟨b,0,none⟩ v0).setCell ⟨b,1,none⟩ v1).heap[b]?=some (.cells #[v0,v1] 82 (0,0)):=by
 rw[zFg (zFg h 0 _) 1 _];rfl
theorem zvs (m:List UInt8)(oa pa:Option Addr)(oc pc:Nat)(ops P:List OpV)(part:List Nat)(c:Cf)(k:Nat)(w:World)(ho:OAt w oa ops)(hp:IAt w pa part)(hP:zrE ops part P)(hd:c.1.length=P.length)(hk:k<P.length)(hl:P.length≤1000)(hol:ops.length≤1000)(hst:c.2.length≤8000000)(hok:∀o∈P,okO o):
 Calls prog 64 #[.string ⟨m.toArray⟩,.slice oa ops.length oc,.slice pa part.length pc,cAg c,.int .i64 (k:Int)] w fun e w'=>Below w.heap.size w w'∧((∃c',zsj P c k=some c'∧e=.returned (.tuple #[cAg c',.bool true]))∨(zsj P c k=none∧e=.returned (.tuple #[cAg c,.bool false]))):=by
 have hmay:=fun w ho hp=>zBy oa pa oc pc ops P part c.1 k w ho hp hP hd hk hl hol;obtain⟨ok,hok1⟩:∃o,P[k]?=some o:=⟨_,zC hk⟩;obtain⟨pk,hpk,hopk⟩:=hP.2 k ok hok1;have hBP:zsj P c k=if mayP P c.1 k=true then(if 0<ok.ret∧(ztI c.2 ok).2≠(ok.vk,ok.vn)then none else some (c.1.take k++[49]++c.1.drop (k+1),(ztI c.2 ok).1))else none:=by
  unfold zsj;rw[hok1];rfl
 obtain⟨hn1,hn2,hn3,hn4⟩:=hok ok (List.mem_of_getElem? hok1);have hdo:=fun w=>zCs m c.2 ok w hst hn1 hn2 hn3 hn4;rw[hP.1]at hmay⊢;rw[hBP];have HAt:Hid _:=And.intro ho hp;obtain⟨gp,rfl,hgp,hpc⟩:=hp (by rintro rfl;simp at hpk);obtain⟨go,rfl,hgo,hpkl,hkc⟩:=zRO ho hopk;generalize mayP P c.1 k=mb at*;generalize ztI c.2 ok=R at*;obtain⟨rs,ra,rb⟩:=R;dsimp only at hdo hBP⊢;obtain⟨W0,hW0,hb0,hC0,hR0⟩:∃W0,(w.alloc (.cells #[.string ⟨c.1.toArray⟩,.string ⟨c.2.toArray⟩] 82)).alloc (.cells #[.string ⟨#[]⟩,.string ⟨#[]⟩] 82)=W0∧Below w.heap.size w W0∧W0.heap[w.heap.size]?=some (.cells #[.string ⟨c.1.toArray⟩,.string ⟨c.2.toArray⟩] 82 (0,0))∧W0.heap[w.heap.size+1]?=some (.cells #[.string ⟨#[]⟩,.string ⟨#[]⟩] 82 (0,0)):=by
  refine⟨_,rfl,(zA _ _).alloc (by simp) _,?_,ziF _ _ _ (by simp)⟩;rw[zD1 _ _ _ (by simp)];exact ziF _ _ _ rfl
 have HB:Hid (∀W:World,Below W0.heap.size W0 W→Below w.heap.size w W∧W.heap[w.heap.size+1]?=some (.cells #[.string ⟨#[]⟩,.string ⟨#[]⟩] 82 (0,0))∧W.cell? ⟨w.heap.size,0,none⟩=some (.string ⟨c.1.toArray⟩)∧W.cell? ⟨w.heap.size,1,none⟩=some (.string ⟨c.2.toArray⟩)∧W.cell? ⟨w.heap.size+1,0,none⟩=some (.string ⟨#[]⟩)∧W.cell? ⟨w.heap.size+1,1,none⟩=some (.string ⟨#[]⟩)∧W.frozen? ⟨w.heap.size+1,0,none⟩=false∧W.frozen? ⟨w.heap.size+1,1,none⟩=false):=fun W hW=>by
  have h:=(hW.block _ (zBq hR0)).trans hR0;have h':=(hW.block _ (zBq hC0)).trans hC0;exact⟨hb0.trans (hW.mono hb0.size),h,zBk h' 0,zBk h' 1,zBk h 0,zBk h 1,zBn h 0,zBn h 1⟩
 have HF:Hid (∀(W W':World) (x y v0 v1:Value),Below w.heap.size w W→W.heap[w.heap.size+1]?=some (.cells #[x,y] 82 (0,0))→W'=(W.setCell ⟨w.heap.size+1,0,none⟩ v0).setCell ⟨w.heap.size+1,1,none⟩ v1→Below w.heap.size w W'∧W'.heap[w.heap.size+1]?=some (.cells #[v0,v1] 82 (0,0))):=by
  intro W W' x y v0 v1 h1 h2 h3;subst h3;exact⟨(h1.setCell (p:=⟨w.heap.size+1,0,none⟩) (by show w.heap.size≤w.heap.size+1;omega) _).setCell (p:=⟨w.heap.size+1,1,none⟩) (by show w.heap.size≤w.heap.size+1;omega) _,cset h2 _ _⟩
 have c00:W0.cell? ⟨w.heap.size,0,none⟩=some (.string ⟨c.1.toArray⟩):=zBk hC0 0;have hm0:=hmay W0 (HAt.out.1.below hb0) (HAt.out.2.below hb0);have HPC:Hid _:=And.intro hpc hkc;have HBP:Hid _:=hBP;obtain⟨RES,hRES⟩:∃RES:Option Cf,Hid ((if mb=true then(if 0<ok.ret∧(ra,rb)≠(ok.vk,ok.vn)then none else some (c.1.take k++[49]++c.1.drop (k+1),rs))else none)=RES):=⟨_,srch.Hid.mk' rfl⟩;rw[hRES.out];unfold cAg opAg vAg at*;clear hb0 hC0 hR0 hmay hpc hkc hBP HBP;go_enter func64,ntmps64;go_wp2_with fail;refine hm0.mono ?_;rintro e w1 ⟨rfl,hb1⟩;have B1:Hid _:=hb1;clear hb1 hm0 c00;cases mb
 ·have hE:Hid (RES=none):=by rw[←hRES.out];exact rfl
  obtain⟨q1,q2,c0,c1,r0,r1,z0,z1⟩:=HB.out _ B1.out;have HV:Hid _:=And.intro q1 q2;clear q1 q2 hdo;go_wp2_with fail;obtain⟨f1,f2⟩:=HF.out _ _ _ _ _ _ HV.out.1 HV.out.2 rfl;exact bodyPost_ret (zDn _ _ (w.heap.size+1) _ _ _ (by simp) rfl f2) rfl ⟨f1,.inr ⟨hE.out,rfl⟩⟩
 ·have B1w:Below w.heap.size w w1:=(HB.out _ B1.out).1;have hki:(k:Int)<(P.length:Int):=by omega
  have hpki:(pk:Int)<(ops.length:Int):=by omega
  have xk:w1.cell? ⟨gp,k,none⟩=some (.int .i64 (pk:Int)):=(B1w.cell (p:=⟨gp,k,none⟩) hgp).trans (HPC.out.1 k pk hpk);have hq:∀c u,c<10→(opvCells ok)[c]?=some u→w1.cell? ⟨go,pk*10+c,none⟩=some u:=fun c u hc hu=>(B1w.cell (p:=⟨go,pk*10+c,none⟩) hgo).trans (HPC.out.2 c u hc hu);have q0:w1.cell? ⟨go,pk*10,none⟩=some (.int .i64 ok.id):=hq 0 _ (by decide) rfl;have q1:w1.cell? ⟨go,pk*10+1,none⟩=some (.int .i64 ok.cl):=hq 1 _ (by decide) rfl;have q2:w1.cell? ⟨go,pk*10+2,none⟩=some (.string ⟨ok.name.toArray⟩):=hq 2 _ (by decide) rfl;have q3:w1.cell? ⟨go,pk*10+3,none⟩=some (.string ⟨ok.key.toArray⟩):=hq 3 _ (by decide) rfl;have q4:w1.cell? ⟨go,pk*10+4,none⟩=some (.int .i64 ok.arg):=hq 4 _ (by decide) rfl;have q5:w1.cell? ⟨go,pk*10+5,none⟩=some (.int .i64 ok.exp):=hq 5 _ (by decide) rfl;have q6:w1.cell? ⟨go,pk*10+6,none⟩=some (.int .i64 ok.call):=hq 6 _ (by decide) rfl;have q7:w1.cell? ⟨go,pk*10+7,none⟩=some (.int .i64 ok.ret):=hq 7 _ (by decide) rfl;have q8:w1.cell? ⟨go,pk*10+8,none⟩=some (.int .i64 ok.vk):=hq 8 _ (by decide) rfl;have q9:w1.cell? ⟨go,pk*10+9,none⟩=some (.int .i64 ok.vn):=hq 9 _ (by decide) rfl;obtain⟨W2,hW2,hb2,hY2⟩:∃W2,w1.alloc (.cells #[.int .i64 ok.id,.int .i64 ok.cl,.string ⟨ok.name.toArray⟩,.string ⟨ok.key.toArray⟩,.int .i64 ok.arg,.int .i64 ok.exp,.int .i64 ok.call,.int .i64 ok.ret,.int .i64 ok.vk,.int .i64 ok.vn] 74)=W2∧Below w1.heap.size w1 W2∧W2.heap[w1.heap.size]?=some (.cells #[.int .i64 ok.id,.int .i64 ok.cl,.string ⟨ok.name.toArray⟩,.string ⟨ok.key.toArray⟩,.int .i64 ok.arg,.int .i64 ok.exp,.int .i64 ok.call,.int .i64 ok.ret,.int .i64 ok.vk,.int .i64 ok.vn] 74 (0,0)):=⟨_,rfl,zA _ _,ziF _ _ _ rfl⟩;have B2:Hid (Below W0.heap.size W0 W2):=B1.out.trans (hb2.mono B1.out.size);obtain⟨_,_,_,c1,_,_,_,_⟩:=HB.out _ B2.out;obtain⟨y0,y1,y2,y3,y4,y5,y6,y7,y8,y9⟩:=zne hY2;have HY2:Hid _:=hY2;clear hq hY2 hb2 B1w;go_wp2_with fail;refine(hdo _).mono ?_;rintro e w3 ⟨rfl,hb3⟩;clear q0 q1 q2 q3 q4 q5 q6 q7 q8 q9 xk c1 y0 y1 y2 y3 y4 y5 y6 y7 y8 y9;have hka:k<c.1.length:=by omega
  have hex1:(⟨c.1.toArray⟩:ByteArray).extract 0 k=⟨(c.1.take k).toArray⟩:=by
   rw[Lib.extract_eq];simp
  have hex2:(⟨c.1.toArray⟩:ByteArray).extract (k+1) c.1.length=⟨(c.1.drop (k+1)).toArray⟩:=by
   rw[Lib.extract_eq];show(⟨(List.take (c.1.length-(k+1)) (List.drop (k+1) c.1)).toArray⟩:ByteArray)=_;rw[List.take_of_length_le (by simp)]
  have hl1:(c.1.take k).length≤1000:=by rw[List.length_take];omega
  have hl2:(c.1.drop (k+1)).length≤1000:=by simp;omega
  have hwk:IntKind.i64.wrap ((k:Int)+1)=(k:Int)+1:=by go_arith
  have hk0:(0:Int)≤(k:Int):=by omega
  have hk1:(k:Int)≤(c.1.length:Int):=by omega
  have hk2:(k:Int)+1≤(c.1.length:Int):=by omega
  have hk3:(0:Int)≤(k:Int)+1:=by omega
  have hk4:((k:Int)+1).toNat=k+1:=by omega
  generalize c.1.take k=T1 at*;generalize c.1.drop (k+1)=T2 at*;have hs1:(9223372036854775807<T1.length+1)=False:=by simp;omega
  have hs2:(9223372036854775807<T1.length+1+T2.length)=False:=by simp;omega
  have HDL:Hid _:=hd;clear hd;by_cases d1:0<ok.ret
  ·by_cases a1:ra=ok.vk
   ·by_cases a2:rb=ok.vn
    ·have hE:Hid (RES=some (T1++[49]++T2,rs)):=(by show _=_;rw[←hRES.out,if_pos trivial,if_neg (fun h=>h.2 (Prod.ext a1 a2))]);subst a1 a2;have B3:Hid (Below W0.heap.size W0 w3):=B2.out.trans (hb3.mono B2.out.size);have hY3:=(hb3.block _ (zBq HY2.out)).trans HY2.out;obtain⟨W4,hW4,hb4,hV4⟩:∃W4,w3.alloc (.cells #[.int .i64 ok.vk,.int .i64 ok.vn] 72)=W4∧Below w3.heap.size w3 W4∧W4.heap[w3.heap.size]?=some (.cells #[.int .i64 ok.vk,.int .i64 ok.vn] 72 (0,0)):=⟨_,rfl,zA _ _,ziF _ _ _ rfl⟩;have B4:Hid (Below W0.heap.size W0 W4):=B3.out.trans (hb4.mono B3.out.size);have hY4:=(hb4.block _ (zBq hY3)).trans hY3;have y7:W4.cell? ⟨w1.heap.size,7,none⟩=some (.int .i64 ok.ret):=zBk hY4 7;have y8:W4.cell? ⟨w1.heap.size,8,none⟩=some (.int .i64 ok.vk):=zBk hY4 8;have y9:W4.cell? ⟨w1.heap.size,9,none⟩=some (.int .i64 ok.vn):=zBk hY4 9;have v0:W4.cell? ⟨w3.heap.size,0,none⟩=some (.int .i64 ok.vk):=zBk hV4 0;have v1:W4.cell? ⟨w3.heap.size,1,none⟩=some (.int .i64 ok.vn):=zBk hV4 1;obtain⟨q1,q2,c0,c1,r0,r1,z0,z1⟩:=HB.out _ B4.out;have HV:Hid _:=And.intro q1 q2;clear q1 q2 hb3 hb4 hY3 hY4 hV4;go_wp2_with fail;go_region_held3 (fun w'=>w'.cell? ⟨w.heap.size,0,none⟩=some (.string ⟨c.1.toArray⟩)) (first|go_keep) (fail);go_wp2_with fail;obtain⟨f1,f2⟩:=HF.out _ _ _ _ (.string (⟨T1.toArray⟩++⟨#[49]⟩++⟨T2.toArray⟩)) (.string ⟨rs.toArray⟩) HV.out.1 HV.out.2 rfl;exact bodyPost_ret (zDn _ _ (w.heap.size+1) _ _ _ (by simp) rfl f2) rfl ⟨f1.drew,.inl ⟨_,hE.out,by dsimp only;rw[←jb49];rfl⟩⟩
    ·have hE:Hid (RES=none):=(by show _=_;rw[←hRES.out,if_pos trivial,if_pos ⟨d1,fun e=>a2 (Prod.ext_iff.1 e).2⟩]);subst a1;have B3:Hid (Below W0.heap.size W0 w3):=B2.out.trans (hb3.mono B2.out.size);have hY3:=(hb3.block _ (zBq HY2.out)).trans HY2.out;obtain⟨W4,hW4,hb4,hV4⟩:∃W4,w3.alloc (.cells #[.int .i64 ok.vk,.int .i64 rb] 72)=W4∧Below w3.heap.size w3 W4∧W4.heap[w3.heap.size]?=some (.cells #[.int .i64 ok.vk,.int .i64 rb] 72 (0,0)):=⟨_,rfl,zA _ _,ziF _ _ _ rfl⟩;have B4:Hid (Below W0.heap.size W0 W4):=B3.out.trans (hb4.mono B3.out.size);have hY4:=(hb4.block _ (zBq hY3)).trans hY3;have y7:W4.cell? ⟨w1.heap.size,7,none⟩=some (.int .i64 ok.ret):=zBk hY4 7;have y8:W4.cell? ⟨w1.heap.size,8,none⟩=some (.int .i64 ok.vk):=zBk hY4 8;have y9:W4.cell? ⟨w1.heap.size,9,none⟩=some (.int .i64 ok.vn):=zBk hY4 9;have v0:W4.cell? ⟨w3.heap.size,0,none⟩=some (.int .i64 ok.vk):=zBk hV4 0;have v1:W4.cell? ⟨w3.heap.size,1,none⟩=some (.int .i64 rb):=zBk hV4 1;obtain⟨q1,q2,c0,c1,r0,r1,z0,z1⟩:=HB.out _ B4.out;have HV:Hid _:=And.intro q1 q2;clear q1 q2 hb3 hb4 hY3 hY4 hV4;go_wp2_with fail;obtain⟨f1,f2⟩:=HF.out _ _ _ _ _ _ HV.out.1 HV.out.2 rfl;exact bodyPost_ret (zDn _ _ (w.heap.size+1) _ _ _ (by simp) rfl f2) rfl ⟨f1,.inr ⟨hE.out,rfl⟩⟩
   ·have hE:Hid (RES=none):=(by show _=_;rw[←hRES.out,if_pos trivial,if_pos ⟨d1,fun e=>a1 (Prod.ext_iff.1 e).1⟩]);have B3:Hid (Below W0.heap.size W0 w3):=B2.out.trans (hb3.mono B2.out.size);have hY3:=(hb3.block _ (zBq HY2.out)).trans HY2.out;obtain⟨W4,hW4,hb4,hV4⟩:∃W4,w3.alloc (.cells #[.int .i64 ra,.int .i64 rb] 72)=W4∧Below w3.heap.size w3 W4∧W4.heap[w3.heap.size]?=some (.cells #[.int .i64 ra,.int .i64 rb] 72 (0,0)):=⟨_,rfl,zA _ _,ziF _ _ _ rfl⟩;have B4:Hid (Below W0.heap.size W0 W4):=B3.out.trans (hb4.mono B3.out.size);have hY4:=(hb4.block _ (zBq hY3)).trans hY3;have y7:W4.cell? ⟨w1.heap.size,7,none⟩=some (.int .i64 ok.ret):=zBk hY4 7;have y8:W4.cell? ⟨w1.heap.size,8,none⟩=some (.int .i64 ok.vk):=zBk hY4 8;have y9:W4.cell? ⟨w1.heap.size,9,none⟩=some (.int .i64 ok.vn):=zBk hY4 9;have v0:W4.cell? ⟨w3.heap.size,0,none⟩=some (.int .i64 ra):=zBk hV4 0;have v1:W4.cell? ⟨w3.heap.size,1,none⟩=some (.int .i64 rb):=zBk hV4 1;obtain⟨q1,q2,c0,c1,r0,r1,z0,z1⟩:=HB.out _ B4.out;have HV:Hid _:=And.intro q1 q2;clear q1 q2 hb3 hb4 hY3 hY4 hV4;go_wp2_with fail;obtain⟨f1,f2⟩:=HF.out _ _ _ _ _ _ HV.out.1 HV.out.2 rfl;exact bodyPost_ret (zDn _ _ (w.heap.size+1) _ _ _ (by simp) rfl f2) rfl ⟨f1,.inr ⟨hE.out,rfl⟩⟩
  ·have hE:Hid (RES=some (T1++[49]++T2,rs)):=(by show _=_;rw[←hRES.out,if_pos trivial,if_neg (fun h=>d1 h.1)]);have d1':decide (0<ok.ret)=false:=(by simpa using d1);clear d1;have B3:Hid (Below W0.heap.size W0 w3):=B2.out.trans (hb3.mono B2.out.size);have hY3:=(hb3.block _ (zBq HY2.out)).trans HY2.out;obtain⟨W4,hW4,hb4,hV4⟩:∃W4,w3.alloc (.cells #[.int .i64 ra,.int .i64 rb] 72)=W4∧Below w3.heap.size w3 W4∧W4.heap[w3.heap.size]?=some (.cells #[.int .i64 ra,.int .i64 rb] 72 (0,0)):=⟨_,rfl,zA _ _,ziF _ _ _ rfl⟩;have B4:Hid (Below W0.heap.size W0 W4):=B3.out.trans (hb4.mono B3.out.size);have hY4:=(hb4.block _ (zBq hY3)).trans hY3;have y7:W4.cell? ⟨w1.heap.size,7,none⟩=some (.int .i64 ok.ret):=zBk hY4 7;have y8:W4.cell? ⟨w1.heap.size,8,none⟩=some (.int .i64 ok.vk):=zBk hY4 8;have y9:W4.cell? ⟨w1.heap.size,9,none⟩=some (.int .i64 ok.vn):=zBk hY4 9;have v0:W4.cell? ⟨w3.heap.size,0,none⟩=some (.int .i64 ra):=zBk hV4 0;have v1:W4.cell? ⟨w3.heap.size,1,none⟩=some (.int .i64 rb):=zBk hV4 1;obtain⟨q1,q2,c0,c1,r0,r1,z0,z1⟩:=HB.out _ B4.out;have HV:Hid _:=And.intro q1 q2;clear q1 q2 hb3 hb4 hY3 hY4 hV4;go_wp2_with fail;go_region_held3 (fun w'=>w'.cell? ⟨w.heap.size,0,none⟩=some (.string ⟨c.1.toArray⟩)) (first|go_keep) (fail);go_wp2_with fail;obtain⟨f1,f2⟩:=HF.out _ _ _ _ (.string (⟨T1.toArray⟩++⟨#[49]⟩++⟨T2.toArray⟩)) (.string ⟨rs.toArray⟩) HV.out.1 HV.out.2 rfl;exact bodyPost_ret (zDn _ _ (w.heap.size+1) _ _ _ (by simp) rfl f2) rfl ⟨f1.drew,.inl ⟨_,hE.out,by dsimp only;rw[←jb49];rfl⟩⟩
end Go.Proofs.YtbbkihekjdffpaaGreatDoor.jd
