/- Several texts in one. -/
import Derived.Test.YtoeoinpaidhmcaaGreatDoorPureY
import Derived.Test.YtoeoinpaidhmcaaGreatDoorSrchAA
import Derived.Lib.ItoaLen
set_option maxHeartbeats 4000000
set_option maxRecDepth 100000
namespace Go.Proofs.YtoeoinpaidhmcaaGreatDoor.jd
open Tryz
open Go.RowKit
theorem japp (a b:List UInt8):((⟨a.toArray⟩:ByteArray)++⟨b.toArray⟩)=⟨(a++b).toArray⟩:=by
 apply ByteArray.ext;simp
theorem j64 {n:Int}(a: -9223372036854775808≤n)(b:n≤9223372036854775807):IntKind.i64.wrap n=n:=by rw[IntKind.wrap_i64];omega
def dg1 (z:Nat):List UInt8:=[UInt8.ofNat (48+z)]
theorem zgG (U:World)(b:Nat)(z:Nat)(h:U.cell? ⟨b,0,none⟩=some (.int .u8 (48+(z:Int)))):
 (convert 216 9 (.slice (some ⟨b,0,none⟩) 1 1)).run prog U=.ok (.string ⟨(dg1 z).toArray⟩) U:=by
 have a:=run_convert_bytes_arg (P:=prog) U 216 5 underlying216 underlying5 b 0 1 1 [((48+z:Nat):Int)] rfl (fun i hi=>by
  obtain rfl:i=0:=by omega
  exact h) 9 underlying9
 rw[a];have:strOfNums [((48+z:Nat):Int)]=⟨(dg1 z).toArray⟩:=rfl;rw[this]
theorem zuK (U:World)(z:Nat):
 (convert 216 9 (.slice (some ⟨U.heap.size,0,none⟩) 1 1)).run prog (U.alloc (.cells #[.int .u8 (48+(z:Int))] 5))=.ok (.string ⟨(dg1 z).toArray⟩) (U.alloc (.cells #[.int .u8 (48+(z:Int))] 5)):=
 zgG _ _ z (by rw[zBk (ziF U _ _ rfl)];rfl)
theorem z8n (m:Nat)(h:m≤9223372036854775808):(Lib.decDigits m).length≤19:=by
 have key:∀k m,m<10 ^ (k+1)→(Lib.decDigits m).length≤k+1:=by
  intro k
  induction k with
  |zero=>intro m a;rw[Lib.decDigits,dif_pos (by omega)];simp
  |succ k ih=>
    intro m a;rw[Lib.decDigits];split
    ·simp
    ·have:=ih (m/10) (by rw[Nat.div_lt_iff_lt_mul (by omega)];rw[Nat.pow_succ]at a;exact a);simp;omega
 exact key 18 m (by omega)
theorem ziD (m:Nat):∀(w:World),m≤9223372036854775808→
 Calls prog 72 #[.int .i64 (-(m:Int))] w fun e w'=>e=.returned (.string ⟨(Lib.decDigits m).toArray⟩)∧Below w.heap.size w w':=by
 induction m using Nat.strongRecOn with
 |ind m ih=>
   intro w x;have b:Int.tmod (-(m:Int)) 10= -((m%10:Nat):Int):=(by rw[Int.neg_tmod,Int.tmod_eq_emod_of_nonneg (by omega)];omega);have g:m%10<10:=Nat.mod_lt _ (by omega);by_cases h:m<10
   ·have n: -10 < -(m:Int):=(by omega);have d:Hid (Lib.decDigits m=dg1 m):=(by rw[Lib.decDigits,dif_pos h];exact rfl);have a:m%10=m:=Nat.mod_eq_of_lt h;rw[a]at b g;have l:IntKind.i64.wrap (48+(m:Int))=48+(m:Int):=j64 (by omega) (by omega);have k:IntKind.u8.wrap (48+(m:Int))=48+(m:Int):=(by rw[IntKind.wrap_u8];omega);have i:=zuK w m;clear ih a;go_enter func72,ntmps72;go_wp2;go_ret;exact⟨by rw[d.out];rfl,zA _ _⟩
   ·have n:¬ -10 < -(m:Int):=(by omega);have d:Hid (Lib.decDigits m=Lib.decDigits (m/10)++dg1 (m%10)):=(by rw[Lib.decDigits,dif_neg h];exact rfl);have v:=z8n (m/10) (by omega);have j:=fun w=>ih (m/10) (by omega) w (by omega);have u:Int.tdiv (-(m:Int)) 10= -((m/10:Nat):Int):=(by rw[Int.neg_tdiv,Int.tdiv_eq_ediv_of_nonneg (by omega)];omega);have p:m/10≤922337203685477580:=(by omega);clear ih;generalize m%10=r at*;generalize Lib.decDigits (m/10)=dl at*;generalize m/10=q at*;have t:(dg1 r).length=1:=rfl;have s:IntKind.i64.wrap (-(q:Int))= -(q:Int):=j64 (by omega) (by omega);have l:IntKind.i64.wrap (48+(r:Int))=48+(r:Int):=j64 (by omega) (by omega);have k:IntKind.u8.wrap (48+(r:Int))=48+(r:Int):=(by rw[IntKind.wrap_u8];omega);have i:=zuK w r;go_enter func72,ntmps72;go_wp2_with fail;refine(j _).mono ?_;rintro e y ⟨rfl,o⟩;go_wp2;go_ret;exact⟨by rw[d.out,←japp];rfl,(zA _ _).trans (o.mono (by simp))⟩
theorem zCU (n:Int)(a: -9223372036854775808≤n)(b:n≤9223372036854775807):(Lib.itoa n).length≤20:=by
 unfold Lib.itoa;split
 ·have:=z8n n.natAbs (by omega);simp;omega
 ·have:=z8n n.toNat (by omega);omega
theorem zM7 (n:Int)(w:World)(l: -9223372036854775808≤n)(i:n≤9223372036854775807):
 Calls prog 36 #[.int .i64 n] w fun e w'=>e=.returned (.string ⟨(Lib.itoa n).toArray⟩)∧Below w.heap.size w w':=by
 by_cases h:n<0
 ·have d:Hid (Lib.itoa n=[45]++Lib.decDigits n.natAbs):=by unfold Lib.itoa;rw[if_pos h];exact rfl
  have k:=z8n n.natAbs (by omega);have a:=fun w=>ziD n.natAbs w (by omega);rw[show -((n.natAbs:Nat):Int)=n by omega]at a;generalize Lib.decDigits n.natAbs=dl at*;go_enter func36,ntmps36;go_wp2_with fail;refine(a _).mono ?_;rintro e g ⟨rfl,b⟩;go_wp2;go_ret;exact⟨by rw[d.out,←japp];rfl,b⟩
 ·have d:Hid (Lib.itoa n=Lib.decDigits n.toNat):=by unfold Lib.itoa;rw[if_neg h];exact rfl
  have a:=fun w=>ziD n.toNat w (by omega);rw[show -((n.toNat:Nat):Int)= -n by omega]at a;have j:IntKind.i64.wrap (-n)= -n:=j64 (by omega) (by omega);generalize Lib.decDigits n.toNat=dl at*;go_enter func36,ntmps36;go_wp2_with fail;refine(a _).mono ?_;rintro e g ⟨rfl,b⟩;go_wp2;go_ret;exact⟨by rw[d.out];rfl,b⟩
def z7y (s:List UInt8):Int×Bool:=((zyu (nats s)).1,(zyu (nats s)).2&&decide (s=Lib.itoa (zyu (nats s)).1))
theorem zEn (l:List Nat):∀(n x:Int),zlt n l=some x→ -9223372036854775808≤n→n≤0→ -9223372036854775808≤x∧x≤0:=by
 induction l with
 |nil=>intro n x h b a;simp only [zlt]at h;injection h with h;omega
 |cons c t ih=>
   intro n x h b a;simp only [zlt]at h;split at h
   ·cases h
   ·split at h
    ·cases h
    ·rename_i hc hd;refine ih _ _ h ?_ (by omega);have e:(-9223372036854775808+((c:Int)-48)).tdiv 10= -((9223372036854775808-((c:Int)-48))/10):=by
      rw[show -9223372036854775808+((c:Int)-48)= -(9223372036854775808-((c:Int)-48)) by omega,Int.neg_tdiv,Int.tdiv_eq_ediv_of_nonneg (by omega)]
     rw[e]at hd;omega
theorem zaH (b:Bool)(l:List Nat): -9223372036854775808≤(z8T b l).1∧(z8T b l).1≤9223372036854775807:=by
 unfold z8T;split
 ·exact⟨by decide,by decide⟩
 ·split
  ·exact⟨by decide,by decide⟩
  ·rename_i n hn;have:=zEn l 0 n hn (by decide) (by decide);split
   ·exact⟨this.1,by show n≤_;omega⟩
   ·dsimp only;split<;>omega
theorem zMZc (l:List Nat): -9223372036854775808≤(zyu l).1∧(zyu l).1≤9223372036854775807:=by
 unfold zyu;split<;>exact zaH _ _
theorem zku (s:List UInt8)(w:World)(g:s.length≤9000000):
 Calls prog 60 #[.string ⟨s.toArray⟩] w fun e w'=>e=.returned (.tuple #[.int .i64 (z7y s).1,.bool (z7y s).2])∧Below w.heap.size w w':=by
 have a:=whole_any ⟨s.toArray⟩ w (by show s.toArray.size≤_;simpa using g);have i:=zMZc (nats s);rw[show lets (⟨s.toArray⟩:ByteArray)=nats s from rfl]at a;have h:Hid (z7y s=((zyu (nats s)).1,(zyu (nats s)).2&&decide (s=Lib.itoa (zyu (nats s)).1))):=rfl;rw[h.out];generalize zyu (nats s)=q at*;have d:=fun w=>zM7 q.1 w i.1 i.2;generalize Lib.itoa q.1=z at*;clear h g;go_enter func60,ntmps60;go_wp2_with fail;refine a.mono ?_;rintro e l ⟨rfl,rfl⟩;go_wp2_with fail;refine(d _).mono ?_;rintro e k ⟨rfl,b⟩;clear d a;by_cases hz:s=z
 ·subst hz;cases hq:q.2
  all_goals
   go_wp2_with fail;go_ret2;exact⟨by simp,b⟩
 ·have j:(s==z)=false:=by simpa using hz
  cases hq:q.2
  all_goals
   go_wp2_with fail;go_ret2;exact⟨by simp[hz],b⟩
open srch (vAg opAg tI)
theorem zqh {B:Nat}{a w:World}(h:Below B a w)(n:Nat):Below B a (w.drewN n):=⟨h.os,h.tape,h.output,h.size,h.block⟩
def headR:List UInt8→List UInt8×List UInt8
 | []=>([],[])
 |c::t=>if c=44 then([],t)else(c::(headR t).1,(headR t).2)
theorem znE (s:List UInt8)(i:Nat)(h:∀c∈s.take i,c≠44)(a:s[i]?=some 44):headR s=(s.take i,s.drop (i+1)):=by
 induction s generalizing i with
 |nil=>simp at a
 |cons c t ih=>
   cases i with
   |zero=>simp at a;subst a;simp[headR]
   |succ i=>
     have b:c≠44:=h c (by simp);rw[headR,if_neg b,ih i (fun x hx=>h x (by simp[hx])) (by simpa using a)];simp
theorem zPM (s:List UInt8)(h:∀c∈s,c≠44):headR s=(s,[]):=by
 induction s with
 |nil=>rfl
 |cons c t ih=>rw[headR,if_neg (h c (by simp)),ih (fun x hx=>h x (by simp[hx]))]
theorem zGM (s:List UInt8):(headR s).1.length≤s.length∧(headR s).2.length≤s.length:=by
 induction s with
 |nil=>simp[headR]
 |cons c t ih=>rw[headR];split<;>simp<;>omega
theorem zS3 (l:List UInt8)(w:World)(y:l.length≤9000000):
 Calls prog 61 #[.string ⟨l.toArray⟩] w fun e w'=>e=.returned (.tuple #[.string ⟨(headR l).1.toArray⟩,.string ⟨(headR l).2.toArray⟩])∧Below w.heap.size w w':=by
 obtain⟨k,d⟩:∃k,k=headR l:=⟨_,rfl⟩;rw[←d];have m:Hid _:=d;clear d;go_enter func61,ntmps61;go_wp2_with fail;go_loop [4] (fun i=>∃(j:Nat),i=.int .i64 (j:Int)∧j≤l.length∧Hid (∀c∈l.take j,c≠44)) (fun i=>l.length-(intOf i).toNat)
 case atStart=>exact⟨0,rfl,by omega,by intro c b;simp at b⟩
 case round=>
  obtain⟨j,rfl,z,n⟩:=hrel;by_cases hin:j<l.length
  ·have p:(j:Int)<(l.length:Int):=(by omega);have r:j<(⟨l.toArray⟩:ByteArray).size:=(by show j<l.toArray.size;simpa using hin);have g:(⟨l.toArray⟩:ByteArray)[j]'r=l[j]:=(by show l.toArray[j]'(by simpa using hin)=l[j];simp);have v:IntKind.i64.wrap ((j:Int)+1)=(j:Int)+1:=(by go_arith);have u:(j:Int)+1≤(l.length:Int):=(by omega);by_cases b:l[j]=44
   ·have o:Hid (k=(l.take j,l.drop (j+1))):=(by show _=_;rw[m.out];exact znE l j n.out (by rw[zC hin,b]));have x:(⟨l.toArray⟩:ByteArray).extract 0 j=⟨(l.take j).toArray⟩:=by
     rw[Lib.extract_eq];simp
    have t:(⟨l.toArray⟩:ByteArray).extract (j+1) l.length=⟨(l.drop (j+1)).toArray⟩:=by
     rw[Lib.extract_eq];show(⟨(List.take (l.length-(j+1)) (List.drop (j+1) l)).toArray⟩:ByteArray)=_;rw[List.take_of_length_le (by simp)]
    have q:(((((⟨l.toArray⟩:ByteArray)[j]'r).toNat:Int)==44))=true:=(by rw[g,b];decide);clear g b;go_wp2_with fail;go_quiet (fail);go_wp2_with fail;go_ret2;exact⟨by rw[o.out];rfl,zqh (zD) _⟩
   ·have q:(((((⟨l.toArray⟩:ByteArray)[j]'r).toNat:Int)==44))=false:=by
     rw[g];have:l[j].toNat≠44:=fun e=>b (UInt8.toNat_inj.1 e);simp;omega
    have s:Hid (∀c∈l.take (j+1),c≠44):=by
     intro c a;rw[List.take_succ_eq_append_getElem hin]at a;rcases List.mem_append.1 a with a|a
     ·exact n.out c a
     ·rw[List.mem_singleton]at a;subst a;exact b
    clear g b;go_wp2_with fail;go_round
    case rel=>exact⟨j+1,by go_num,by omega,s⟩
    case measure=>simp[intOf];omega
  ·have p:¬(j:Int)<(l.length:Int):=(by omega);have o:Hid (k=(l,[])):=by
    show _=_;rw[m.out];have h:=n.out;rw[List.take_of_length_le (by omega)]at h;exact zPM l h
   go_wp2_with fail;go_ret2;exact⟨by rw[o.out];rfl,zD⟩
theorem z0b (a:Array Value)(W:World)(b:Nat)(d e:Value)(g:W.heap[b]?=some (.cells #[d,e] 25 (0,0))):
 (a[2]?.getD undef=.pointer (some ⟨b,0,none⟩)→(results Tryz.f63 a).run prog W=.ok (.agg #[d,e]) W∧(results Tryz.f62 a).run prog W=.ok (.agg #[d,e]) W)∧(a[0]?.getD undef=.pointer (some ⟨b,0,none⟩)→(results Tryz.f30 a).run prog W=.ok (.agg #[d,e]) W):=by
 have c0:W.cell? ⟨b,0,none⟩=some d:=by rw[zBk g];rfl
 have c1:W.cell? ⟨b,1,none⟩=some e:=by rw[zBk g];rfl
 refine⟨fun h=>⟨?_,?_⟩,fun h=>?_⟩
 ·simp[results,results63,go_sem,h,c0,c1]
 ·simp[results,results62,go_sem,h,c0,c1]
 ·simp[results,results30,go_sem,h,c0,c1]
theorem zrhV (b:Bool)(w:World):
 Calls prog 63 #[.bool b] w fun e w'=>e=.returned (vAg 2 (tI b))∧Below w.heap.size w w':=by
 unfold vAg tI;cases b
 all_goals
  go_enter func63,ntmps63;go_wp2;refine bodyPost_ret ((z0b _ _ w.heap.size _ _ (ziF _ _ _ rfl)).1 (by simp)).1 rfl ⟨rfl,zA _ _⟩
theorem zPG (w:World):
 Calls prog 30 #[] w fun e w'=>e=.returned (vAg 0 0)∧Below w.heap.size w w':=by
 unfold vAg;go_enter func30,ntmps30;go_wp2;refine bodyPost_ret ((z0b _ _ w.heap.size _ _ (ziF _ _ _ rfl)).2 (by simp)) rfl ⟨rfl,zA _ _⟩
def numV (s:List UInt8):Int×Int:=if(z7y s).2=true then(1,(z7y s).1)else(0,0)
theorem z4Y (s:List UInt8)(w:World)(J:s.length≤9000000):
 Calls prog 62 #[.string ⟨s.toArray⟩] w fun e w'=>e=.returned (vAg (numV s).1 (numV s).2)∧Below w.heap.size w w':=by
 obtain⟨k,L,n,o⟩:∃k,w.alloc (.cells #[.int .i64 0,.int .i64 0] 25)=k∧Below w.heap.size w k∧k.heap[w.heap.size]?=some (.cells #[.int .i64 0,.int .i64 0] 25 (0,0)):=⟨_,rfl,zA _ _,ziF _ _ _ rfl⟩;have h:=zku s k J;have t:=zPG;have C:Hid (numV s=if(z7y s).2=true then(1,(z7y s).1)else(0,0)):=rfl;rw[C.out];generalize z7y s=q at*;have l:∀(W W':World) (x y r v:Value),Below w.heap.size w W→W.heap[w.heap.size]?=some (.cells #[x,y] 25 (0,0))→W'=(W.setCell ⟨w.heap.size,0,none⟩ r).setCell ⟨w.heap.size,1,none⟩ v→Below w.heap.size w W'∧W'.heap[w.heap.size]?=some (.cells #[r,v] 25 (0,0)):=by
  intro W W' x y r v F D H;subst H;exact⟨(F.setCell (p:=⟨w.heap.size,0,none⟩) zH _).setCell (p:=⟨w.heap.size,1,none⟩) zH _,srch.vset D _ _⟩
 have B:=srch.Hid.mk' l;have g:=srch.Hid.mk' (And.intro n o);unfold vAg at*;clear C l n o;go_enter func62,ntmps62;cases hq:q.2
 ·rw[hq]at h;go_wp2_with fail;refine h.mono ?_;rintro e z ⟨rfl,d⟩;have m:=srch.Hid.mk' d;clear d;go_wp2_with fail;refine(t _).mono ?_;rintro e A ⟨rfl,j⟩;have a:=((m.out.trans (j.mono m.out.size)).block _ (zBq g.out.2)).trans g.out.2;have b:=g.out.1.trans ((m.out.trans (j.mono m.out.size)).mono g.out.1.size);have G:A.cell? ⟨w.heap.size,0,none⟩=some (.int .i64 0):=zBk a 0;have K:A.cell? ⟨w.heap.size,1,none⟩=some (.int .i64 0):=zBk a 1;have E:=zBn a 0;have I:=zBn a 1;have i:=srch.Hid.mk' (And.intro b a);clear a b j t h;go_wp2_with fail;obtain⟨f1,u⟩:=B.out _ _ _ _ _ _ i.out.1 i.out.2 rfl;exact bodyPost_ret ((z0b _ _ w.heap.size _ _ u).1 (by simp)).2 rfl ⟨rfl,f1⟩
 ·rw[hq]at h;go_wp2_with fail;refine h.mono ?_;rintro e z ⟨rfl,d⟩;have a:=(d.block _ (zBq g.out.2)).trans g.out.2;have b:=g.out.1.trans (d.mono g.out.1.size);have G:z.cell? ⟨w.heap.size,0,none⟩=some (.int .i64 0):=zBk a 0;have K:z.cell? ⟨w.heap.size,1,none⟩=some (.int .i64 0):=zBk a 1;have E:=zBn a 0;have I:=zBn a 1;have i:=srch.Hid.mk' (And.intro b a);clear a b d t h;go_wp2_with fail;obtain⟨f1,u⟩:=B.out _ _ _ _ _ _ i.out.1 i.out.2 rfl;exact bodyPost_ret ((z0b _ _ w.heap.size _ _ u).1 (by simp)).2 rfl ⟨rfl,f1⟩
theorem jba3 (a c:List UInt8):(⟨a.toArray⟩:ByteArray)++⟨#[44]⟩++⟨c.toArray⟩=⟨(a++[44]++c).toArray⟩:=by
 show((⟨a.toArray⟩:ByteArray)++⟨[44].toArray⟩++⟨c.toArray⟩)=_;rw[japp,japp]
def zKM (m:List UInt8):List UInt8:=if m=sReg∨m=sSet then [48]else if m=zsK then []else [45]
def five (m:List UInt8):Prop:=m=sReg∨m=sKv∨m=zsK∨m=sSet∨m=zyy
theorem zpZ (m:List UInt8)(a:five m)(w:World):
 Calls prog 105 #[.string ⟨m.toArray⟩] w fun e w'=>e=.returned (.string ⟨(zKM m).toArray⟩)∧w'=w:=by
 rcases a with rfl|rfl|rfl|rfl|rfl
 all_goals
  simp only [sReg,sKv,zsK,sSet,zyy];go_enter func105,ntmps105;go_wp2;go_ret;exact⟨rfl,rfl⟩
def zxX:List UInt8:=[114,101,97,100]
def zus:List UInt8:=[119,114,105,116,101]
def nCas:List UInt8:=[99,97,115]
def nGet:List UInt8:=[103,101,116]
def nPut:List UInt8:=[112,117,116]
def nDel:List UInt8:=[100,101,108]
def nEnq:List UInt8:=[101,110,113]
def nDeq:List UInt8:=[100,101,113]
def nAdd:List UInt8:=[97,100,100]
def nRem:List UInt8:=[114,101,109]
def nHas:List UInt8:=[104,97,115]
def nAcq:List UInt8:=[97,99,113]
def nRel:List UInt8:=[114,101,108]
def ztI (st:List UInt8)(o:OpV):List UInt8×Int×Int:=
 if o.name=zxX∨o.name=nGet then(st,numV st)
 else if o.name=zus∨o.name=nPut then(Lib.itoa o.arg,0,0)
 else if o.name=nCas then(if st=Lib.itoa o.exp then(Lib.itoa o.arg,2,1)else(st,2,0))
 else if o.name=nDel then([45],2,tI (st != [45]))
 else if o.name=nEnq then((if st=[]then Lib.itoa o.arg else st++[44]++Lib.itoa o.arg),0,0)
 else if o.name=nDeq then((headR st).2,numV (headR st).1)
 else if o.name=nAdd then([49],2,tI (st==[48]))
 else if o.name=nRem then([48],2,tI (st==[49]))
 else if o.name=nHas then(st,2,tI (st==[49]))
 else if o.name=nAcq then(if st=[45]then(Lib.itoa o.cl,2,1)else(st,2,0))
 else if o.name=nRel then(if st=Lib.itoa o.cl then([45],2,1)else(st,2,0))
 else(st,2,0)
def names (n:List UInt8):Prop:=n=zxX∨n=nGet∨n=zus∨n=nPut∨n=nCas∨n=nDel∨n=nEnq∨n=nDeq∨n=nAdd∨n=nRem∨n=nHas∨n=nAcq∨n=nRel
theorem zmc (a:Array Value)(W:World)(b:Nat)(s d e:Value)(h:a[6]?.getD undef=s)(i:a[7]?.getD undef=.pointer (some ⟨b,0,none⟩))(g:W.heap[b]?=some (.cells #[d,e] 25 (0,0))):
 (results Tryz.f33 a).run prog W=.ok (.tuple #[s,.agg #[d,e]]) W:=by
 have c0:W.cell? ⟨b,0,none⟩=some d:=by rw[zBk g];rfl
 have c1:W.cell? ⟨b,1,none⟩=some e:=by rw[zBk g];rfl
 simp[results,results33,go_sem,h,i,c0,c1]
theorem zPE {n m:List UInt8}(h:n=m):(n==[114,101,97,100])=(m==[114,101,97,100])∧(n==[103,101,116])=(m==[103,101,116])∧(n==[119,114,105,116,101])=(m==[119,114,105,116,101])∧(n==[112,117,116])=(m==[112,117,116])∧(n==[99,97,115])=(m==[99,97,115])∧(n==[100,101,108])=(m==[100,101,108])∧(n==[101,110,113])=(m==[101,110,113])∧(n==[100,101,113])=(m==[100,101,113])∧(n==[97,100,100])=(m==[97,100,100])∧(n==[114,101,109])=(m==[114,101,109])∧(n==[104,97,115])=(m==[104,97,115])∧(n==[97,99,113])=(m==[97,99,113])∧(n==[114,101,108])=(m==[114,101,108]):=by
 subst h;exact⟨rfl,rfl,rfl,rfl,rfl,rfl,rfl,rfl,rfl,rfl,rfl,rfl,rfl⟩
theorem zCs (m st:List UInt8)(o:OpV)(w:World)(ag:st.length≤8000000)(t:names o.name)(L: -9223372036854775808≤o.arg∧o.arg≤9223372036854775807)(H: -9223372036854775808≤o.exp∧o.exp≤9223372036854775807)(hc: -9223372036854775808≤o.cl∧o.cl≤9223372036854775807):
 Calls prog 33 #[.string ⟨m.toArray⟩,.string ⟨st.toArray⟩,opAg o] w fun e w'=>e=.returned (.tuple #[.string ⟨(ztI st o).1.toArray⟩,vAg (ztI st o).2.1 (ztI st o).2.2])∧Below w.heap.size w w':=by
 obtain⟨g,af,I,G,J⟩:∃g,(w.alloc (.cells #[.int .i64 o.id,.int .i64 o.cl,.string ⟨o.name.toArray⟩,.string ⟨o.key.toArray⟩,.int .i64 o.arg,.int .i64 o.exp,.int .i64 o.call,.int .i64 o.ret,.int .i64 o.vk,.int .i64 o.vn] 27)).alloc (.cells #[.int .i64 0,.int .i64 0] 25)=g∧Below w.heap.size w g∧g.heap[w.heap.size]?=some (.cells #[.int .i64 o.id,.int .i64 o.cl,.string ⟨o.name.toArray⟩,.string ⟨o.key.toArray⟩,.int .i64 o.arg,.int .i64 o.exp,.int .i64 o.call,.int .i64 o.ret,.int .i64 o.vk,.int .i64 o.vn] 27 (0,0))∧g.heap[w.heap.size+1]?=some (.cells #[.int .i64 0,.int .i64 0] 25 (0,0)):=by
  refine⟨_,rfl,(zA _ _).alloc (by simp) _,?_,ziF _ _ _ (by simp)⟩;rw[zD1 _ _ _ (by simp)];exact ziF _ _ _ rfl
 obtain⟨R,hR⟩:∃R,Hid (ztI st o=R):=⟨_,rfl⟩;rw[hR.out];have u:Hid (∀W:World,Below g.heap.size g W→Below w.heap.size w W∧W.heap[w.heap.size+1]?=some (.cells #[.int .i64 0,.int .i64 0] 25 (0,0))∧W.cell? ⟨w.heap.size+1,0,none⟩=some (.int .i64 0)∧W.cell? ⟨w.heap.size+1,1,none⟩=some (.int .i64 0)∧W.frozen? ⟨w.heap.size+1,0,none⟩=false∧W.frozen? ⟨w.heap.size+1,1,none⟩=false):=fun W hW=>by
  have h:=(hW.block _ (zBq J)).trans J;exact⟨I.trans (hW.mono I.size),h,zBk h 0,zBk h 1,zBn h 0,zBn h 1⟩
 have S:Hid (∀W:World,Below g.heap.size g W→W.cell? ⟨w.heap.size,1,none⟩=some (.int .i64 o.cl)∧W.cell? ⟨w.heap.size,2,none⟩=some (.string ⟨o.name.toArray⟩)∧W.cell? ⟨w.heap.size,5,none⟩=some (.int .i64 o.exp)):=fun W hW=>by
  have h:=(hW.block _ (zBq G)).trans G;exact⟨zBk h 1,zBk h 2,zBk h 5⟩
 have v:Hid (∀(W W':World) (x y U V:Value),Below w.heap.size w W→W.heap[w.heap.size+1]?=some (.cells #[x,y] 25 (0,0))→W'=(W.setCell ⟨w.heap.size+1,0,none⟩ U).setCell ⟨w.heap.size+1,1,none⟩ V→Below w.heap.size w W'∧W'.heap[w.heap.size+1]?=some (.cells #[U,V] 25 (0,0))):=by
  intro W W' x y U V h1 h2 h3;subst h3;exact⟨(h1.setCell (p:=⟨w.heap.size+1,0,none⟩) (by show w.heap.size≤w.heap.size+1;omega) _).setCell (p:=⟨w.heap.size+1,1,none⟩) (by show w.heap.size≤w.heap.size+1;omega) _,srch.vset h2 _ _⟩
 have a4:g.cell? ⟨w.heap.size,4,none⟩=some (.int .i64 o.arg):=zBk G 4;have aa:=fun W=>zM7 o.arg W L.1 L.2;have O:=fun W=>zM7 o.exp W H.1 H.2;have K:=fun W=>zM7 o.cl W hc.1 hc.2;have ah:=zCU o.arg L.1 L.2;have hN:=fun W=>z4Y st W (by omega);have hH:=fun W=>zS3 st W (by omega);have ad:=fun W=>z4Y (headR st).1 W (by have:=(zGM st).1;omega);have F:=zrhV;have M:=zPG;unfold opAg vAg at*;go_enter func33,ntmps33;clear I G J;have hd:Hid (ztI st o=ztI st o):=rfl;rcases t with t|t|t|t|t|t|t|t|t|t|t|t|t
 all_goals
  obtain⟨t0,t1,t2,t3,t4,t5,t6,Y,t8,X,N,Q,P⟩:=zPE t
  first|change _=true at t0|change _=false at t0
  first|change _=true at t1|change _=false at t1
  first|change _=true at t2|change _=false at t2
  first|change _=true at t3|change _=false at t3
  first|change _=true at t4|change _=false at t4
  first|change _=true at t5|change _=false at t5
  first|change _=true at t6|change _=false at t6
  first|change _=true at Y|change _=false at Y
  first|change _=true at t8|change _=false at t8
  first|change _=true at X|change _=false at X
  first|change _=true at N|change _=false at N
  first|change _=true at Q|change _=false at Q
  first|change _=true at P|change _=false at P
  have s:=srch.Hid.mk' t;clear t;have ae:Hid (Below g.heap.size g g):=zD;go_wp2_with fail;refine(aa _).mono ?_;rintro e w1 ⟨rfl,d⟩;have b:Hid (Below g.heap.size g w1):=d;clear d;obtain⟨c1,c2,Z⟩:=S.out _ b.out
 ·have q:Hid (R=(st,numV st)):=by show _=_;rw[←hR.out,ztI,s.out];rfl
  go_wp2_with fail;refine(hN _).mono ?_;rintro e l ⟨rfl,d⟩;have a:Hid (Below g.heap.size g l):=b.out.trans (d.mono b.out.size);clear d;obtain⟨i,j,B,z,A,C⟩:=u.out _ a.out;have k:Hid _:=And.intro i j;clear i j;go_wp2_with fail;obtain⟨f1,n⟩:=v.out _ _ _ _ _ _ k.out.1 k.out.2 rfl;exact bodyPost_ret (zmc _ _ (w.heap.size+1) _ _ _ rfl (by simp) n) rfl ⟨by rw[q.out];rfl,f1⟩
 ·have q:Hid (R=(st,numV st)):=by show _=_;rw[←hR.out,ztI,s.out];rfl
  go_wp2_with fail;refine(hN _).mono ?_;rintro e l ⟨rfl,d⟩;have a:Hid (Below g.heap.size g l):=b.out.trans (d.mono b.out.size);clear d;obtain⟨i,j,B,z,A,C⟩:=u.out _ a.out;have k:Hid _:=And.intro i j;clear i j;go_wp2_with fail;obtain⟨f1,n⟩:=v.out _ _ _ _ _ _ k.out.1 k.out.2 rfl;exact bodyPost_ret (zmc _ _ (w.heap.size+1) _ _ _ rfl (by simp) n) rfl ⟨by rw[q.out];rfl,f1⟩
 ·have q:Hid (R=(Lib.itoa o.arg,0,0)):=by show _=_;rw[←hR.out,ztI,s.out];rfl
  go_wp2_with fail;refine(M _).mono ?_;rintro e l ⟨rfl,d⟩;have a:Hid (Below g.heap.size g l):=b.out.trans (d.mono b.out.size);clear d;obtain⟨i,j,B,z,A,C⟩:=u.out _ a.out;have k:Hid _:=And.intro i j;clear i j;go_wp2_with fail;obtain⟨f1,n⟩:=v.out _ _ _ _ _ _ k.out.1 k.out.2 rfl;exact bodyPost_ret (zmc _ _ (w.heap.size+1) _ _ _ rfl (by simp) n) rfl ⟨by rw[q.out];rfl,f1⟩
 ·have q:Hid (R=(Lib.itoa o.arg,0,0)):=by show _=_;rw[←hR.out,ztI,s.out];rfl
  go_wp2_with fail;refine(M _).mono ?_;rintro e l ⟨rfl,d⟩;have a:Hid (Below g.heap.size g l):=b.out.trans (d.mono b.out.size);clear d;obtain⟨i,j,B,z,A,C⟩:=u.out _ a.out;have k:Hid _:=And.intro i j;clear i j;go_wp2_with fail;obtain⟨f1,n⟩:=v.out _ _ _ _ _ _ k.out.1 k.out.2 rfl;exact bodyPost_ret (zmc _ _ (w.heap.size+1) _ _ _ rfl (by simp) n) rfl ⟨by rw[q.out];rfl,f1⟩
 ·by_cases hx:st=Lib.itoa o.exp
  ·have q:Hid (R=(Lib.itoa o.arg,2,1)):=(by show _=_;rw[←hR.out,ztI,s.out];show(if st=Lib.itoa o.exp then(Lib.itoa o.arg,(2:Int),(1:Int))else(st,2,0))=_;exact if_pos hx);have E:(st==Lib.itoa o.exp)=true:=(by simpa using hx);have ab:=zCU o.exp H.1 H.2;clear hx;generalize Lib.itoa o.exp=ex at*;go_wp2_with fail;refine(O _).mono ?_;rintro e l ⟨rfl,d⟩;have a:Hid (Below g.heap.size g l):=b.out.trans (d.mono b.out.size);clear d;obtain⟨c1,c2,Z⟩:=S.out _ a.out;go_wp2_with fail;refine(F true _).mono ?_;rintro e D ⟨rfl,d⟩;have r:Hid (Below g.heap.size g D):=a.out.trans (d.mono a.out.size);clear d;obtain⟨i,j,B,z,A,C⟩:=u.out _ r.out;have k:Hid _:=And.intro i j;clear i j;go_wp2_with fail;obtain⟨f1,n⟩:=v.out _ _ _ _ _ _ k.out.1 k.out.2 rfl;exact bodyPost_ret (zmc _ _ (w.heap.size+1) _ _ _ rfl (by simp) n) rfl ⟨by rw[q.out];rfl,f1⟩
  ·have q:Hid (R=(st,2,0)):=(by show _=_;rw[←hR.out,ztI,s.out];show(if st=Lib.itoa o.exp then(Lib.itoa o.arg,(2:Int),(1:Int))else(st,2,0))=_;exact if_neg hx);have E:(st==Lib.itoa o.exp)=false:=(by simpa using hx);have ab:=zCU o.exp H.1 H.2;clear hx;generalize Lib.itoa o.exp=ex at*;go_wp2_with fail;refine(O _).mono ?_;rintro e l ⟨rfl,d⟩;have a:Hid (Below g.heap.size g l):=b.out.trans (d.mono b.out.size);clear d;obtain⟨c1,c2,Z⟩:=S.out _ a.out;go_wp2_with fail;refine(F false _).mono ?_;rintro e D ⟨rfl,d⟩;have r:Hid (Below g.heap.size g D):=a.out.trans (d.mono a.out.size);clear d;obtain⟨i,j,B,z,A,C⟩:=u.out _ r.out;have k:Hid _:=And.intro i j;clear i j;go_wp2_with fail;obtain⟨f1,n⟩:=v.out _ _ _ _ _ _ k.out.1 k.out.2 rfl;exact bodyPost_ret (zmc _ _ (w.heap.size+1) _ _ _ rfl (by simp) n) rfl ⟨by rw[q.out];rfl,f1⟩
 ·have q:Hid (R=([45],2,tI (st != [45]))):=by show _=_;rw[←hR.out,ztI,s.out];rfl
  go_wp2_with fail;refine(F _ _).mono ?_;rintro e l ⟨rfl,d⟩;have a:Hid (Below g.heap.size g l):=b.out.trans (d.mono b.out.size);clear d;obtain⟨i,j,B,z,A,C⟩:=u.out _ a.out;have k:Hid _:=And.intro i j;clear i j;go_wp2_with fail;obtain⟨f1,n⟩:=v.out _ _ _ _ _ _ k.out.1 k.out.2 rfl;exact bodyPost_ret (zmc _ _ (w.heap.size+1) _ _ _ rfl (by simp) n) rfl ⟨by rw[q.out];rfl,f1⟩
 ·by_cases hx:st=[]
  ·have q:Hid (R=(Lib.itoa o.arg,0,0)):=(by show _=_;rw[←hR.out,ztI,s.out];show((if st=[]then Lib.itoa o.arg else st++[44]++Lib.itoa o.arg),(0:Int),(0:Int))=_;rw[if_pos hx]);have E:st.isEmpty=true:=(by simp[hx]);clear hx;go_wp2_with fail;refine(M _).mono ?_;rintro e l ⟨rfl,d⟩;have a:Hid (Below g.heap.size g l):=b.out.trans (d.mono b.out.size);clear d;obtain⟨i,j,B,z,A,C⟩:=u.out _ a.out;have k:Hid _:=And.intro i j;clear i j;go_wp2_with fail;obtain⟨f1,n⟩:=v.out _ _ _ _ _ _ k.out.1 k.out.2 rfl;exact bodyPost_ret (zmc _ _ (w.heap.size+1) _ _ _ rfl (by simp) n) rfl ⟨by rw[q.out];rfl,f1⟩
  ·have q:Hid (R=(st++[44]++Lib.itoa o.arg,0,0)):=(by show _=_;rw[←hR.out,ztI,s.out];show((if st=[]then Lib.itoa o.arg else st++[44]++Lib.itoa o.arg),(0:Int),(0:Int))=_;rw[if_neg hx]);have E:st.isEmpty=false:=(by simpa using hx);clear hx;go_wp2_with fail;refine(M _).mono ?_;rintro e l ⟨rfl,d⟩;have a:Hid (Below g.heap.size g l):=b.out.trans (d.mono b.out.size);clear d;obtain⟨i,j,B,z,A,C⟩:=u.out _ a.out;have k:Hid _:=And.intro i j;clear i j;go_wp2_with fail;obtain⟨f1,n⟩:=v.out _ _ _ _ _ _ k.out.1 k.out.2 rfl;exact bodyPost_ret (zmc _ _ (w.heap.size+1) _ _ _ rfl (by simp) n) rfl ⟨by rw[q.out];dsimp only;rw[←jba3];rfl,f1⟩
 ·have q:Hid (R=((headR st).2,numV (headR st).1)):=by show _=_;rw[←hR.out,ztI,s.out];rfl
  go_wp2_with fail;refine(hH _).mono ?_;rintro e l ⟨rfl,d⟩;have a:Hid (Below g.heap.size g l):=b.out.trans (d.mono b.out.size);clear d;go_wp2_with fail;refine(ad _).mono ?_;rintro e D ⟨rfl,d⟩;have r:Hid (Below g.heap.size g D):=a.out.trans (d.mono a.out.size);clear d;obtain⟨i,j,B,z,A,C⟩:=u.out _ r.out;have k:Hid _:=And.intro i j;clear i j;go_wp2_with fail;obtain⟨f1,n⟩:=v.out _ _ _ _ _ _ k.out.1 k.out.2 rfl;exact bodyPost_ret (zmc _ _ (w.heap.size+1) _ _ _ rfl (by simp) n) rfl ⟨by rw[q.out];rfl,f1⟩
 ·have q:Hid (R=([49],2,tI (st==[48]))):=by show _=_;rw[←hR.out,ztI,s.out];rfl
  go_wp2_with fail;refine(F _ _).mono ?_;rintro e l ⟨rfl,d⟩;have a:Hid (Below g.heap.size g l):=b.out.trans (d.mono b.out.size);clear d;obtain⟨i,j,B,z,A,C⟩:=u.out _ a.out;have k:Hid _:=And.intro i j;clear i j;go_wp2_with fail;obtain⟨f1,n⟩:=v.out _ _ _ _ _ _ k.out.1 k.out.2 rfl;exact bodyPost_ret (zmc _ _ (w.heap.size+1) _ _ _ rfl (by simp) n) rfl ⟨by rw[q.out];rfl,f1⟩
 ·have q:Hid (R=([48],2,tI (st==[49]))):=by show _=_;rw[←hR.out,ztI,s.out];rfl
  go_wp2_with fail;refine(F _ _).mono ?_;rintro e l ⟨rfl,d⟩;have a:Hid (Below g.heap.size g l):=b.out.trans (d.mono b.out.size);clear d;obtain⟨i,j,B,z,A,C⟩:=u.out _ a.out;have k:Hid _:=And.intro i j;clear i j;go_wp2_with fail;obtain⟨f1,n⟩:=v.out _ _ _ _ _ _ k.out.1 k.out.2 rfl;exact bodyPost_ret (zmc _ _ (w.heap.size+1) _ _ _ rfl (by simp) n) rfl ⟨by rw[q.out];rfl,f1⟩
 ·have q:Hid (R=(st,2,tI (st==[49]))):=by show _=_;rw[←hR.out,ztI,s.out];rfl
  go_wp2_with fail;refine(F _ _).mono ?_;rintro e l ⟨rfl,d⟩;have a:Hid (Below g.heap.size g l):=b.out.trans (d.mono b.out.size);clear d;obtain⟨i,j,B,z,A,C⟩:=u.out _ a.out;have k:Hid _:=And.intro i j;clear i j;go_wp2_with fail;obtain⟨f1,n⟩:=v.out _ _ _ _ _ _ k.out.1 k.out.2 rfl;exact bodyPost_ret (zmc _ _ (w.heap.size+1) _ _ _ rfl (by simp) n) rfl ⟨by rw[q.out];rfl,f1⟩
 ·by_cases hx:st=[45]
  ·have q:Hid (R=(Lib.itoa o.cl,2,1)):=(by show _=_;rw[←hR.out,ztI,s.out];show(if st=[45]then(Lib.itoa o.cl,(2:Int),(1:Int))else(st,2,0))=_;exact if_pos hx);have E:(st==[45])=true:=(by simpa using hx);clear hx;go_wp2_with fail;refine(K _).mono ?_;rintro e l ⟨rfl,d⟩;have a:Hid (Below g.heap.size g l):=b.out.trans (d.mono b.out.size);clear d;go_wp2_with fail;refine(F true _).mono ?_;rintro e D ⟨rfl,d⟩;have r:Hid (Below g.heap.size g D):=a.out.trans (d.mono a.out.size);clear d;obtain⟨i,j,B,z,A,C⟩:=u.out _ r.out;have k:Hid _:=And.intro i j;clear i j;go_wp2_with fail;obtain⟨f1,n⟩:=v.out _ _ _ _ _ _ k.out.1 k.out.2 rfl;exact bodyPost_ret (zmc _ _ (w.heap.size+1) _ _ _ rfl (by simp) n) rfl ⟨by rw[q.out];rfl,f1⟩
  ·have q:Hid (R=(st,2,0)):=(by show _=_;rw[←hR.out,ztI,s.out];show(if st=[45]then(Lib.itoa o.cl,(2:Int),(1:Int))else(st,2,0))=_;exact if_neg hx);have E:(st==[45])=false:=(by simpa using hx);clear hx;go_wp2_with fail;refine(F false _).mono ?_;rintro e l ⟨rfl,d⟩;have a:Hid (Below g.heap.size g l):=b.out.trans (d.mono b.out.size);clear d;obtain⟨i,j,B,z,A,C⟩:=u.out _ a.out;have k:Hid _:=And.intro i j;clear i j;go_wp2_with fail;obtain⟨f1,n⟩:=v.out _ _ _ _ _ _ k.out.1 k.out.2 rfl;exact bodyPost_ret (zmc _ _ (w.heap.size+1) _ _ _ rfl (by simp) n) rfl ⟨by rw[q.out];rfl,f1⟩
 ·by_cases hx:st=Lib.itoa o.cl
  ·have q:Hid (R=([45],2,1)):=(by show _=_;rw[←hR.out,ztI,s.out];show(if st=Lib.itoa o.cl then([45],(2:Int),(1:Int))else(st,2,0))=_;exact if_pos hx);have E:(st==Lib.itoa o.cl)=true:=(by simpa using hx);clear hx;generalize Lib.itoa o.cl=ex at*;go_wp2_with fail;refine(K _).mono ?_;rintro e l ⟨rfl,d⟩;have a:Hid (Below g.heap.size g l):=b.out.trans (d.mono b.out.size);clear d;go_wp2_with fail;refine(F true _).mono ?_;rintro e D ⟨rfl,d⟩;have r:Hid (Below g.heap.size g D):=a.out.trans (d.mono a.out.size);clear d;obtain⟨i,j,B,z,A,C⟩:=u.out _ r.out;have k:Hid _:=And.intro i j;clear i j;go_wp2_with fail;obtain⟨f1,n⟩:=v.out _ _ _ _ _ _ k.out.1 k.out.2 rfl;exact bodyPost_ret (zmc _ _ (w.heap.size+1) _ _ _ rfl (by simp) n) rfl ⟨by rw[q.out];rfl,f1⟩
  ·have q:Hid (R=(st,2,0)):=(by show _=_;rw[←hR.out,ztI,s.out];show(if st=Lib.itoa o.cl then([45],(2:Int),(1:Int))else(st,2,0))=_;exact if_neg hx);have E:(st==Lib.itoa o.cl)=false:=(by simpa using hx);clear hx;generalize Lib.itoa o.cl=ex at*;go_wp2_with fail;refine(K _).mono ?_;rintro e l ⟨rfl,d⟩;have a:Hid (Below g.heap.size g l):=b.out.trans (d.mono b.out.size);clear d;go_wp2_with fail;refine(F false _).mono ?_;rintro e D ⟨rfl,d⟩;have r:Hid (Below g.heap.size g D):=a.out.trans (d.mono a.out.size);clear d;obtain⟨i,j,B,z,A,C⟩:=u.out _ r.out;have k:Hid _:=And.intro i j;clear i j;go_wp2_with fail;obtain⟨f1,n⟩:=v.out _ _ _ _ _ _ k.out.1 k.out.2 rfl;exact bodyPost_ret (zmc _ _ (w.heap.size+1) _ _ _ rfl (by simp) n) rfl ⟨by rw[q.out];rfl,f1⟩
open srch (vAg opAg tI OAt)
def IAt (w:World)(oa:Option Addr)(l:List Nat):Prop:=l≠[]→∃g,oa=some ⟨g,0,none⟩∧g<w.heap.size∧∀(j x:Nat),l[j]?=some x→w.cell? ⟨g,j,none⟩=some (.int .i64 (x:Int))
theorem IAt.below {w w':World}{a:Option Addr}{l:List Nat}(h:IAt w a l)(k:Below w.heap.size w w'):IAt w' a l:=by
 intro d;obtain⟨g,e,b,i⟩:=h d;exact⟨g,e,zI b k.size,fun j u hj=>(k.cell (p:=⟨g,j,none⟩) b).trans (i j u hj)⟩
def zrE (ops:List OpV)(part:List Nat)(P:List OpV):Prop:=part.length=P.length∧∀(i:Nat) (o:OpV),P[i]?=some o→∃p,part[i]?=some p∧ops[p]?=some o
theorem zRO {w:World}{d:Option Addr}{a:List OpV}(h:OAt w d a){p:Nat}{o:OpV}(k:a[p]?=some o):∃g,d=some ⟨g,0,none⟩∧g<w.heap.size∧p<a.length∧∀c u,c<10→(opvCells o)[c]?=some u→w.cell? ⟨g,p*10+c,none⟩=some u:=by
 obtain⟨b,l⟩:=zB k;obtain⟨g,e,i,j⟩:=h (by rintro rfl;simp at b);exact⟨g,e,i,b,fun c u hc hu=>j _ _ ((zvc a p b c hc).trans (by rw[l];exact hu))⟩
def z5E (done:List UInt8)(P:List OpV)(k i:Nat):Bool:=done[i]?.getD 0==48&&decide (0<(P[i]?.getD z1u).ret)&&decide ((P[i]?.getD z1u).ret<(P[k]?.getD z1u).call)
def mayP (P:List OpV)(done:List UInt8)(k:Nat):Bool:=!(done[k]?.getD 0==49)&&!(List.range P.length).any (z5E done P k)
theorem zBy (oa pa:Option Addr)(oc pc:Nat)(n P:List OpV)(part:List Nat)(a:List UInt8)(k:Nat)(w:World)(ho:OAt w oa n)(hp:IAt w pa part)(M:zrE n part P)(hd:a.length=P.length)(hk:k<P.length)(hl:P.length≤1000)(_hol:n.length≤1000):
 Calls Tryz.prog 145 #[.slice oa n.length oc,.slice pa part.length pc,.string ⟨a.toArray⟩,.int .i64 (k:Int)] w fun e w'=>e=.returned (.bool (mayP P a k))∧Below w.heap.size w w':=by
 obtain⟨l,x⟩:∃l,l=mayP P a k:=⟨_,rfl⟩;rw[←x];have E:Hid _:=x;have ar:Hid _:=M.1;rw[M.1];obtain⟨ok,O⟩:∃o,P[k]?=some o:=⟨_,zC hk⟩;obtain⟨L,V,X⟩:=M.2 k ok O;obtain⟨N,rfl,Q,G⟩:=hp (by rintro rfl;simp at V);obtain⟨g,rfl,v,al,R⟩:=zRO ho X;have C:k<a.length:=by omega
 have an:(k:Int)<(a.length:Int):=by omega
 have ah:k<(⟨a.toArray⟩:ByteArray).size:=by show k<a.toArray.size;simpa using C
 have z:(⟨a.toArray⟩:ByteArray)[k]'ah=a[k]:=by show a.toArray[k]'(by simpa using C)=a[k];simp
 have S:a[k]?.getD 0=a[k]:=by rw[zC C];rfl
 clear x;go_enter Tryz.func145,Tryz.ntmps145;by_cases h49:a[k]=49
 ·have ae:(((((⟨a.toArray⟩:ByteArray)[k]'ah).toNat:Int)==49))=true:=by rw[z,h49];decide
  have A:Hid (l=false):=by show _=_;rw[E.out,mayP,S,h49];rfl
  clear z
  go_wp2_with fail;go_ret;exact⟨by rw[A.out];rfl,zD⟩
 ·have ae:(((((⟨a.toArray⟩:ByteArray)[k]'ah).toNat:Int)==49))=false:=by
   rw[z];have:a[k].toNat≠49:=fun e=>h49 (UInt8.toNat_inj.1 e);simp;omega
  have A:Hid (l=!(List.range P.length).any (z5E a P k)):=by
   show _=_;rw[E.out,mayP,S,show(a[k]==49)=false by simpa using h49];rfl
  clear z
  go_wp2_with fail;go_loopw [9] (fun i wr=>∃(j:Nat),i=.int .i64 (j:Int)∧j≤P.length∧Hid (∀q,q<j→z5E a P k q=false)∧Hid (Below w.heap.size w wr)) (fun i _=>P.length-(intOf i).toNat)
  case atStart=>exact⟨0,rfl,by omega,fun q d=>absurd d (by omega),zD⟩
  case round=>
   obtain⟨j,rfl,hj,HL,J⟩:=hrel;by_cases hin:j<P.length
   ·have W:(j:Int)<(P.length:Int):=(by omega);have au:(k:Int)<(P.length:Int):=(by omega);obtain⟨y,hy⟩:∃y,P[j]?=some y:=⟨_,zC hin⟩;obtain⟨p,ab,ag⟩:=M.2 j y hy;obtain⟨ad,Z,_,ak,U⟩:=zRO ho ag;obtain rfl:g=ad:=(by injection Z with e;injection e);have aq:(p:Int)<(n.length:Int):=(by omega);have ai:(L:Int)<(n.length:Int):=(by omega);have xj:wr.cell? ⟨N,j,none⟩=some (.int .i64 (p:Int)):=(J.out.cell (p:=⟨N,j,none⟩) Q).trans (G j p ab);have d:∀c u,c<10→(opvCells y)[c]?=some u→wr.cell? ⟨g,p*10+c,none⟩=some u:=fun c u hc hu=>(J.out.cell (p:=⟨g,p*10+c,none⟩) v).trans (U c u hc hu);have q0:wr.cell? ⟨g,p*10,none⟩=some (.int .i64 y.id):=d 0 _ (by decide) rfl;have q1:wr.cell? ⟨g,p*10+1,none⟩=some (.int .i64 y.cl):=d 1 _ (by decide) rfl;have q2:wr.cell? ⟨g,p*10+2,none⟩=some (.string ⟨y.name.toArray⟩):=d 2 _ (by decide) rfl;have q3:wr.cell? ⟨g,p*10+3,none⟩=some (.string ⟨y.key.toArray⟩):=d 3 _ (by decide) rfl;have q4:wr.cell? ⟨g,p*10+4,none⟩=some (.int .i64 y.arg):=d 4 _ (by decide) rfl;have q5:wr.cell? ⟨g,p*10+5,none⟩=some (.int .i64 y.exp):=d 5 _ (by decide) rfl;have q6:wr.cell? ⟨g,p*10+6,none⟩=some (.int .i64 y.call):=d 6 _ (by decide) rfl;have q7:wr.cell? ⟨g,p*10+7,none⟩=some (.int .i64 y.ret):=d 7 _ (by decide) rfl;have q8:wr.cell? ⟨g,p*10+8,none⟩=some (.int .i64 y.vk):=d 8 _ (by decide) rfl;have q9:wr.cell? ⟨g,p*10+9,none⟩=some (.int .i64 y.vn):=d 9 _ (by decide) rfl;obtain⟨t,ao,D,I⟩:∃t,wr.alloc (.cells #[.int .i64 y.id,.int .i64 y.cl,.string ⟨y.name.toArray⟩,.string ⟨y.key.toArray⟩,.int .i64 y.arg,.int .i64 y.exp,.int .i64 y.call,.int .i64 y.ret,.int .i64 y.vk,.int .i64 y.vn] 27)=t∧Below wr.heap.size wr t∧t.heap[wr.heap.size]?=some (.cells #[.int .i64 y.id,.int .i64 y.cl,.string ⟨y.name.toArray⟩,.string ⟨y.key.toArray⟩,.int .i64 y.arg,.int .i64 y.exp,.int .i64 y.call,.int .i64 y.ret,.int .i64 y.vk,.int .i64 y.vn] 27 (0,0)):=⟨_,rfl,zA _ _,ziF _ _ _ rfl⟩;have y7:t.cell? ⟨wr.heap.size,7,none⟩=some (.int .i64 y.ret):=zBk I 7;have m:Hid (Below w.heap.size w t):=J.out.trans (D.mono J.out.size);have x2:t.cell? ⟨N,k,none⟩=some (.int .i64 (L:Int)):=(m.out.cell (p:=⟨N,k,none⟩) Q).trans (G k L V);have x6:t.cell? ⟨g,L*10+6,none⟩=some (.int .i64 ok.call):=(m.out.cell (p:=⟨g,L*10+6,none⟩) v).trans (R 6 _ (by decide) rfl);have K:j<a.length:=(by omega);have am:(j:Int)<(a.length:Int):=(by omega);have aj:j<(⟨a.toArray⟩:ByteArray).size:=(by show j<a.toArray.size;simpa using K);have H:(⟨a.toArray⟩:ByteArray)[j]'aj=a[j]:=(by show a.toArray[j]'(by simpa using K)=a[j];simp);have r:Hid (z5E a P k j=(a[j]==48&&decide (0<y.ret)&&decide (y.ret<ok.call))):=by
     show _=_;unfold z5E;rw[hy,O,zC K];rfl
    have av:IntKind.i64.wrap ((j:Int)+1)=(j:Int)+1:=(by go_arith);have HD:Hid _:=And.intro I D;have Y:((((⟨a.toArray⟩:ByteArray)[j]'aj).toNat:Int)==48)=(a[j]==48):=by
     rw[H,Bool.eq_iff_iff];simp only [beq_iff_eq];constructor
     ·intro e;exact UInt8.toNat_inj.1 (by show a[j].toNat=48;omega)
     ·intro e;rw[e];rfl
    clear I D d U R G H;generalize hdd:(a[j]==48)=d48 at Y r;clear hdd;have v:∀b:Bool,(d48&&decide (0<y.ret)&&decide (y.ret<ok.call))=b→Hid (z5E a P k j=b):=fun b h=>(by show _=_;rw[r.out];exact h);have s:Hid _:=v;clear v r;by_cases c1:d48=true
    ·subst c1;by_cases c2:0<y.ret
     ·by_cases c3:y.ret<ok.call
      ·have B:Hid (l=false):=by
        show _=_;rw[A.out,Bool.not_eq_false',List.any_eq_true];exact⟨j,by simpa using hin,s.out true (by simp[c2,c3])⟩
       clear A s;go_wp2_with fail;go_quiet (fail);go_wp2_with fail;go_ret;exact⟨by rw[B.out];rfl,zqh m.out _⟩
      ·have F:=s.out false (by simp[c3]);have aa:decide (0<y.ret)=true:=(by simpa using c2);have aw:decide (y.ret<ok.call)=false:=(by simpa using c3);clear s c2 c3;go_wp2_with fail;go_quiet (fail);go_wp2_with fail;go_roundw
       case rel=>exact⟨j+1,by go_num,by omega,fun q d=>by
        by_cases e:q=j
        ·subst e;exact F.out
        ·exact HL.out q (by omega),zqh m.out _⟩
       case measure=>simp[intOf];omega
     ·have F:=s.out false (by simp[c2]);have aa:decide (0<y.ret)=false:=(by simpa using c2);clear s c2;go_wp2_with fail;go_quiet (fail);go_wp2_with fail;go_roundw
      case rel=>exact⟨j+1,by go_num,by omega,fun q d=>by
       by_cases e:q=j
       ·subst e;exact F.out
       ·exact HL.out q (by omega),zqh m.out _⟩
      case measure=>simp[intOf];omega
    ·have af:d48=false:=(by simpa using c1);subst af;have F:=s.out false (by simp);clear s;go_wp2_with fail;go_quiet (fail);go_wp2_with fail;go_roundw
     case rel=>exact⟨j+1,by go_num,by omega,fun q d=>by
      by_cases e:q=j
      ·subst e;exact F.out
      ·exact HL.out q (by omega),zqh m.out _⟩
     case measure=>simp[intOf];omega
   ·have W:¬(j:Int)<(P.length:Int):=(by omega);have B:Hid (l=true):=by
     show _=_;rw[A.out,Bool.not_eq_true',List.any_eq_false];intro q d;rw[HL.out q (by have:=List.mem_range.1 d;omega)];simp
    clear A;go_wp2_with fail;go_ret;exact⟨by rw[B.out];rfl,J.out⟩
theorem jb49 (a c:List UInt8):(⟨a.toArray⟩:ByteArray)++⟨#[49]⟩++⟨c.toArray⟩=⟨(a++[49]++c).toArray⟩:=by
 show((⟨a.toArray⟩:ByteArray)++⟨[49].toArray⟩++⟨c.toArray⟩)=_;rw[japp,japp]
abbrev Cf:=List UInt8×List UInt8
def cAg (c:Cf):Value:=.agg #[.string ⟨c.1.toArray⟩,.string ⟨c.2.toArray⟩]
def zsj (P:List OpV)(c:Cf)(k:Nat):Option Cf:=
 if mayP P c.1 k=true then
  (if 0<(P[k]?.getD z1u).ret∧(ztI c.2 (P[k]?.getD z1u)).2≠((P[k]?.getD z1u).vk,(P[k]?.getD z1u).vn)then none
   else some (c.1.take k++[49]++c.1.drop (k+1),(ztI c.2 (P[k]?.getD z1u)).1))
 else none
def okO (o:OpV):Prop:=names o.name∧(-9223372036854775808≤o.arg∧o.arg≤9223372036854775807)∧(-9223372036854775808≤o.exp∧o.exp≤9223372036854775807)∧(-9223372036854775808≤o.cl∧o.cl≤9223372036854775807)
theorem zne {w':World}{b:Nat}{y:OpV}(h:w'.heap[b]?=some (.cells #[.int .i64 y.id,.int .i64 y.cl,.string ⟨y.name.toArray⟩,.string ⟨y.key.toArray⟩,.int .i64 y.arg,.int .i64 y.exp,.int .i64 y.call,.int .i64 y.ret,.int .i64 y.vk,.int .i64 y.vn] 27 (0,0))):
 w'.cell? ⟨b,0,none⟩=some (.int .i64 y.id)∧w'.cell? ⟨b,1,none⟩=some (.int .i64 y.cl)∧w'.cell? ⟨b,2,none⟩=some (.string ⟨y.name.toArray⟩)∧w'.cell? ⟨b,3,none⟩=some (.string ⟨y.key.toArray⟩)∧w'.cell? ⟨b,4,none⟩=some (.int .i64 y.arg)∧w'.cell? ⟨b,5,none⟩=some (.int .i64 y.exp)∧w'.cell? ⟨b,6,none⟩=some (.int .i64 y.call)∧w'.cell? ⟨b,7,none⟩=some (.int .i64 y.ret)∧w'.cell? ⟨b,8,none⟩=some (.int .i64 y.vk)∧w'.cell? ⟨b,9,none⟩=some (.int .i64 y.vn):=
 ⟨zBk h 0,zBk h 1,zBk h 2,zBk h 3,zBk h 4,zBk h 5,zBk h 6,zBk h 7,zBk h 8,zBk h 9⟩
theorem zDn (a:Array Value)(W:World)(b:Nat)(d e x:Value)(h:a[10]?.getD undef=.pointer (some ⟨b,0,none⟩))(i:a[11]?.getD undef=x)(g:W.heap[b]?=some (.cells #[d,e] 160 (0,0))):
 (results Tryz.f106 a).run prog W=.ok (.tuple #[.agg #[d,e],x]) W:=by
 have c0:W.cell? ⟨b,0,none⟩=some d:=by rw[zBk g];rfl
 have c1:W.cell? ⟨b,1,none⟩=some e:=by rw[zBk g];rfl
 simp[results,results106,go_sem,h,i,c0,c1]
theorem cset {W:World}{b:Nat}{x y:Value}(h:W.heap[b]?=some (.cells #[x,y] 160 (0,0)))(a d:Value):((W.setCell ⟨b,0,none⟩ a).setCell ⟨b,1,none⟩ d).heap[b]?=some (.cells #[a,d] 160 (0,0)):=by
 rw[zFg (zFg h 0 _) 1 _];rfl
theorem zvs (m:List UInt8)(oa pa:Option Addr)(oc pc:Nat)(G P:List OpV)(part:List Nat)(c:Cf)(k:Nat)(w:World)(ho:OAt w oa G)(hp:IAt w pa part)(hP:zrE G part P)(hd:c.1.length=P.length)(hk:k<P.length)(hl:P.length≤1000)(au:G.length≤1000)(ay:c.2.length≤8000000)(aq:∀o∈P,okO o):
 Calls prog 106 #[.string ⟨m.toArray⟩,.slice oa G.length oc,.slice pa part.length pc,cAg c,.int .i64 (k:Int)] w fun e w'=>Below w.heap.size w w'∧((∃c',zsj P c k=some c'∧e=.returned (.tuple #[cAg c',.bool true]))∨(zsj P c k=none∧e=.returned (.tuple #[cAg c,.bool false]))):=by
 have S:=fun w ho hp=>zBy oa pa oc pc G P part c.1 k w ho hp hP hd hk hl au;obtain⟨ok,M⟩:∃o,P[k]?=some o:=⟨_,zC hk⟩;obtain⟨t,al,am⟩:=hP.2 k ok M;have V:zsj P c k=if mayP P c.1 k=true then(if 0<ok.ret∧(ztI c.2 ok).2≠(ok.vk,ok.vn)then none else some (c.1.take k++[49]++c.1.drop (k+1),(ztI c.2 ok).1))else none:=by
  unfold zsj;rw[M];rfl
 obtain⟨aw,ao,an,ax⟩:=aq ok (List.mem_of_getElem? M);have aa:=fun w=>zCs m c.2 ok w ay aw ao an ax;rw[hP.1]at S⊢;rw[V];have HAt:Hid _:=And.intro ho hp;obtain⟨gp,rfl,ar,ai⟩:=hp (by rintro rfl;simp at al);obtain⟨B,rfl,aA,aD,ag⟩:=zRO ho am;generalize mayP P c.1 k=mb at*;generalize ztI c.2 ok=R at*;obtain⟨rs,L,E⟩:=R;dsimp only at aa V⊢;obtain⟨i,aF,K,X,ab⟩:∃i,(w.alloc (.cells #[.string ⟨c.1.toArray⟩,.string ⟨c.2.toArray⟩] 160)).alloc (.cells #[.string ⟨#[]⟩,.string ⟨#[]⟩] 160)=i∧Below w.heap.size w i∧i.heap[w.heap.size]?=some (.cells #[.string ⟨c.1.toArray⟩,.string ⟨c.2.toArray⟩] 160 (0,0))∧i.heap[w.heap.size+1]?=some (.cells #[.string ⟨#[]⟩,.string ⟨#[]⟩] 160 (0,0)):=by
  refine⟨_,rfl,(zA _ _).alloc (by simp) _,?_,ziF _ _ _ (by simp)⟩;rw[zD1 _ _ _ (by simp)];exact ziF _ _ _ rfl
 have Q:Hid (∀W:World,Below i.heap.size i W→Below w.heap.size w W∧W.heap[w.heap.size+1]?=some (.cells #[.string ⟨#[]⟩,.string ⟨#[]⟩] 160 (0,0))∧W.cell? ⟨w.heap.size,0,none⟩=some (.string ⟨c.1.toArray⟩)∧W.cell? ⟨w.heap.size,1,none⟩=some (.string ⟨c.2.toArray⟩)∧W.cell? ⟨w.heap.size+1,0,none⟩=some (.string ⟨#[]⟩)∧W.cell? ⟨w.heap.size+1,1,none⟩=some (.string ⟨#[]⟩)∧W.frozen? ⟨w.heap.size+1,0,none⟩=false∧W.frozen? ⟨w.heap.size+1,1,none⟩=false):=fun W hW=>by
  have h:=(hW.block _ (zBq ab)).trans ab;have h':=(hW.block _ (zBq X)).trans X;exact⟨K.trans (hW.mono K.size),h,zBk h' 0,zBk h' 1,zBk h 0,zBk h 1,zBn h 0,zBn h 1⟩
 have HF:Hid (∀(W W':World) (x y O U:Value),Below w.heap.size w W→W.heap[w.heap.size+1]?=some (.cells #[x,y] 160 (0,0))→W'=(W.setCell ⟨w.heap.size+1,0,none⟩ O).setCell ⟨w.heap.size+1,1,none⟩ U→Below w.heap.size w W'∧W'.heap[w.heap.size+1]?=some (.cells #[O,U] 160 (0,0))):=by
  intro W W' x y O U h1 h2 h3;subst h3;exact⟨(h1.setCell (p:=⟨w.heap.size+1,0,none⟩) (by show w.heap.size≤w.heap.size+1;omega) _).setCell (p:=⟨w.heap.size+1,1,none⟩) (by show w.heap.size≤w.heap.size+1;omega) _,cset h2 _ _⟩
 have av:i.cell? ⟨w.heap.size,0,none⟩=some (.string ⟨c.1.toArray⟩):=zBk X 0;have af:=S i (HAt.out.1.below K) (HAt.out.2.below K);have aj:Hid _:=And.intro ai ag;have az:Hid _:=V;obtain⟨D,z⟩:∃D:Option Cf,Hid ((if mb=true then(if 0<ok.ret∧(L,E)≠(ok.vk,ok.vn)then none else some (c.1.take k++[49]++c.1.drop (k+1),rs))else none)=D):=⟨_,srch.Hid.mk' rfl⟩;rw[z.out];unfold cAg opAg vAg at*;clear K X ab S ai ag V az;go_enter func106,ntmps106;go_wp2_with fail;refine af.mono ?_;rintro e b ⟨rfl,ak⟩;have B1:Hid _:=ak;clear ak af av;cases mb
 ·have I:Hid (D=none):=by rw[←z.out];exact rfl
  obtain⟨r,s,c0,c1,r0,r1,z0,z1⟩:=Q.out _ B1.out;have v:Hid _:=And.intro r s;clear r s aa;go_wp2_with fail;obtain⟨f1,H⟩:=HF.out _ _ _ _ _ _ v.out.1 v.out.2 rfl;exact bodyPost_ret (zDn _ _ (w.heap.size+1) _ _ _ (by simp) rfl H) rfl ⟨f1,.inr ⟨I.out,rfl⟩⟩
 ·have ad:Below w.heap.size w b:=(Q.out _ B1.out).1;have aN:(k:Int)<(P.length:Int):=by omega
  have aB:(t:Int)<(G.length:Int):=by omega
  have xk:b.cell? ⟨gp,k,none⟩=some (.int .i64 (t:Int)):=(ad.cell (p:=⟨gp,k,none⟩) ar).trans (aj.out.1 k t al);have C:∀c u,c<10→(opvCells ok)[c]?=some u→b.cell? ⟨B,t*10+c,none⟩=some u:=fun c u hc hu=>(ad.cell (p:=⟨B,t*10+c,none⟩) aA).trans (aj.out.2 c u hc hu);have q0:b.cell? ⟨B,t*10,none⟩=some (.int .i64 ok.id):=C 0 _ (by decide) rfl;have r:b.cell? ⟨B,t*10+1,none⟩=some (.int .i64 ok.cl):=C 1 _ (by decide) rfl;have s:b.cell? ⟨B,t*10+2,none⟩=some (.string ⟨ok.name.toArray⟩):=C 2 _ (by decide) rfl;have q3:b.cell? ⟨B,t*10+3,none⟩=some (.string ⟨ok.key.toArray⟩):=C 3 _ (by decide) rfl;have q4:b.cell? ⟨B,t*10+4,none⟩=some (.int .i64 ok.arg):=C 4 _ (by decide) rfl;have q5:b.cell? ⟨B,t*10+5,none⟩=some (.int .i64 ok.exp):=C 5 _ (by decide) rfl;have q6:b.cell? ⟨B,t*10+6,none⟩=some (.int .i64 ok.call):=C 6 _ (by decide) rfl;have q7:b.cell? ⟨B,t*10+7,none⟩=some (.int .i64 ok.ret):=C 7 _ (by decide) rfl;have q8:b.cell? ⟨B,t*10+8,none⟩=some (.int .i64 ok.vk):=C 8 _ (by decide) rfl;have q9:b.cell? ⟨B,t*10+9,none⟩=some (.int .i64 ok.vn):=C 9 _ (by decide) rfl;obtain⟨W2,aH,ah,ae⟩:∃W2,b.alloc (.cells #[.int .i64 ok.id,.int .i64 ok.cl,.string ⟨ok.name.toArray⟩,.string ⟨ok.key.toArray⟩,.int .i64 ok.arg,.int .i64 ok.exp,.int .i64 ok.call,.int .i64 ok.ret,.int .i64 ok.vk,.int .i64 ok.vn] 27)=W2∧Below b.heap.size b W2∧W2.heap[b.heap.size]?=some (.cells #[.int .i64 ok.id,.int .i64 ok.cl,.string ⟨ok.name.toArray⟩,.string ⟨ok.key.toArray⟩,.int .i64 ok.arg,.int .i64 ok.exp,.int .i64 ok.call,.int .i64 ok.ret,.int .i64 ok.vk,.int .i64 ok.vn] 27 (0,0)):=⟨_,rfl,zA _ _,ziF _ _ _ rfl⟩;have J:Hid (Below i.heap.size i W2):=B1.out.trans (ah.mono B1.out.size);obtain⟨_,_,_,c1,_,_,_,_⟩:=Q.out _ J.out;obtain⟨y0,y1,y2,y3,y4,y5,y6,Y,y8,y9⟩:=zne ae;have A:Hid _:=ae;clear C ae ah ad;go_wp2_with fail;refine(aa _).mono ?_;rintro e g ⟨rfl,q⟩;clear q0 r s q3 q4 q5 q6 q7 q8 q9 xk c1 y0 y1 y2 y3 y4 y5 y6 Y y8 y9;have aM:k<c.1.length:=by omega
  have aC:(⟨c.1.toArray⟩:ByteArray).extract 0 k=⟨(c.1.take k).toArray⟩:=by
   rw[Lib.extract_eq];simp
  have aE:(⟨c.1.toArray⟩:ByteArray).extract (k+1) c.1.length=⟨(c.1.drop (k+1)).toArray⟩:=by
   rw[Lib.extract_eq];show(⟨(List.take (c.1.length-(k+1)) (List.drop (k+1) c.1)).toArray⟩:ByteArray)=_;rw[List.take_of_length_le (by simp)]
  have aJ:(c.1.take k).length≤1000:=by rw[List.length_take];omega
  have aU:(c.1.drop (k+1)).length≤1000:=by simp;omega
  have aS:IntKind.i64.wrap ((k:Int)+1)=(k:Int)+1:=by go_arith
  have aV:(0:Int)≤(k:Int):=by omega
  have aQ:(k:Int)≤(c.1.length:Int):=by omega
  have aI:(k:Int)+1≤(c.1.length:Int):=by omega
  have aT:(0:Int)≤(k:Int)+1:=by omega
  have aL:((k:Int)+1).toNat=k+1:=by omega
  generalize c.1.take k=T1 at*;generalize c.1.drop (k+1)=T2 at*;have aK:(9223372036854775807<T1.length+1)=False:=by simp;omega
  have aP:(9223372036854775807<T1.length+1+T2.length)=False:=by simp;omega
  have aO:Hid _:=hd;clear hd;by_cases d1:0<ok.ret
  ·by_cases a1:L=ok.vk
   ·by_cases a2:E=ok.vn
    ·have I:Hid (D=some (T1++[49]++T2,rs)):=(by show _=_;rw[←z.out,if_pos trivial,if_neg (fun h=>h.2 (Prod.ext a1 a2))]);subst a1 a2;have F:Hid (Below i.heap.size i g):=J.out.trans (q.mono J.out.size);have l:=(q.block _ (zBq A.out)).trans A.out;obtain⟨a,Z,n,j⟩:∃a,g.alloc (.cells #[.int .i64 ok.vk,.int .i64 ok.vn] 25)=a∧Below g.heap.size g a∧a.heap[g.heap.size]?=some (.cells #[.int .i64 ok.vk,.int .i64 ok.vn] 25 (0,0)):=⟨_,rfl,zA _ _,ziF _ _ _ rfl⟩;have N:Hid (Below i.heap.size i a):=F.out.trans (n.mono F.out.size);have d:=(n.block _ (zBq l)).trans l;have Y:a.cell? ⟨b.heap.size,7,none⟩=some (.int .i64 ok.ret):=zBk d 7;have y8:a.cell? ⟨b.heap.size,8,none⟩=some (.int .i64 ok.vk):=zBk d 8;have y9:a.cell? ⟨b.heap.size,9,none⟩=some (.int .i64 ok.vn):=zBk d 9;have O:a.cell? ⟨g.heap.size,0,none⟩=some (.int .i64 ok.vk):=zBk j 0;have U:a.cell? ⟨g.heap.size,1,none⟩=some (.int .i64 ok.vn):=zBk j 1;obtain⟨r,s,c0,c1,r0,r1,z0,z1⟩:=Q.out _ N.out;have v:Hid _:=And.intro r s;clear r s q n l d j;go_wp2_with fail;go_region_held3 (fun w'=>w'.cell? ⟨w.heap.size,0,none⟩=some (.string ⟨c.1.toArray⟩)) (first|go_keep) (fail);go_wp2_with fail;obtain⟨f1,H⟩:=HF.out _ _ _ _ (.string (⟨T1.toArray⟩++⟨#[49]⟩++⟨T2.toArray⟩)) (.string ⟨rs.toArray⟩) v.out.1 v.out.2 rfl;exact bodyPost_ret (zDn _ _ (w.heap.size+1) _ _ _ (by simp) rfl H) rfl ⟨f1.drew,.inl ⟨_,I.out,by dsimp only;rw[←jb49];rfl⟩⟩
    ·have I:Hid (D=none):=(by show _=_;rw[←z.out,if_pos trivial,if_pos ⟨d1,fun e=>a2 (Prod.ext_iff.1 e).2⟩]);subst a1;have F:Hid (Below i.heap.size i g):=J.out.trans (q.mono J.out.size);have l:=(q.block _ (zBq A.out)).trans A.out;obtain⟨a,Z,n,j⟩:∃a,g.alloc (.cells #[.int .i64 ok.vk,.int .i64 E] 25)=a∧Below g.heap.size g a∧a.heap[g.heap.size]?=some (.cells #[.int .i64 ok.vk,.int .i64 E] 25 (0,0)):=⟨_,rfl,zA _ _,ziF _ _ _ rfl⟩;have N:Hid (Below i.heap.size i a):=F.out.trans (n.mono F.out.size);have d:=(n.block _ (zBq l)).trans l;have Y:a.cell? ⟨b.heap.size,7,none⟩=some (.int .i64 ok.ret):=zBk d 7;have y8:a.cell? ⟨b.heap.size,8,none⟩=some (.int .i64 ok.vk):=zBk d 8;have y9:a.cell? ⟨b.heap.size,9,none⟩=some (.int .i64 ok.vn):=zBk d 9;have O:a.cell? ⟨g.heap.size,0,none⟩=some (.int .i64 ok.vk):=zBk j 0;have U:a.cell? ⟨g.heap.size,1,none⟩=some (.int .i64 E):=zBk j 1;obtain⟨r,s,c0,c1,r0,r1,z0,z1⟩:=Q.out _ N.out;have v:Hid _:=And.intro r s;clear r s q n l d j;go_wp2_with fail;obtain⟨f1,H⟩:=HF.out _ _ _ _ _ _ v.out.1 v.out.2 rfl;exact bodyPost_ret (zDn _ _ (w.heap.size+1) _ _ _ (by simp) rfl H) rfl ⟨f1,.inr ⟨I.out,rfl⟩⟩
   ·have I:Hid (D=none):=(by show _=_;rw[←z.out,if_pos trivial,if_pos ⟨d1,fun e=>a1 (Prod.ext_iff.1 e).1⟩]);have F:Hid (Below i.heap.size i g):=J.out.trans (q.mono J.out.size);have l:=(q.block _ (zBq A.out)).trans A.out;obtain⟨a,Z,n,j⟩:∃a,g.alloc (.cells #[.int .i64 L,.int .i64 E] 25)=a∧Below g.heap.size g a∧a.heap[g.heap.size]?=some (.cells #[.int .i64 L,.int .i64 E] 25 (0,0)):=⟨_,rfl,zA _ _,ziF _ _ _ rfl⟩;have N:Hid (Below i.heap.size i a):=F.out.trans (n.mono F.out.size);have d:=(n.block _ (zBq l)).trans l;have Y:a.cell? ⟨b.heap.size,7,none⟩=some (.int .i64 ok.ret):=zBk d 7;have y8:a.cell? ⟨b.heap.size,8,none⟩=some (.int .i64 ok.vk):=zBk d 8;have y9:a.cell? ⟨b.heap.size,9,none⟩=some (.int .i64 ok.vn):=zBk d 9;have O:a.cell? ⟨g.heap.size,0,none⟩=some (.int .i64 L):=zBk j 0;have U:a.cell? ⟨g.heap.size,1,none⟩=some (.int .i64 E):=zBk j 1;obtain⟨r,s,c0,c1,r0,r1,z0,z1⟩:=Q.out _ N.out;have v:Hid _:=And.intro r s;clear r s q n l d j;go_wp2_with fail;obtain⟨f1,H⟩:=HF.out _ _ _ _ _ _ v.out.1 v.out.2 rfl;exact bodyPost_ret (zDn _ _ (w.heap.size+1) _ _ _ (by simp) rfl H) rfl ⟨f1,.inr ⟨I.out,rfl⟩⟩
  ·have I:Hid (D=some (T1++[49]++T2,rs)):=(by show _=_;rw[←z.out,if_pos trivial,if_neg (fun h=>d1 h.1)]);have aR:decide (0<ok.ret)=false:=(by simpa using d1);clear d1;have F:Hid (Below i.heap.size i g):=J.out.trans (q.mono J.out.size);have l:=(q.block _ (zBq A.out)).trans A.out;obtain⟨a,Z,n,j⟩:∃a,g.alloc (.cells #[.int .i64 L,.int .i64 E] 25)=a∧Below g.heap.size g a∧a.heap[g.heap.size]?=some (.cells #[.int .i64 L,.int .i64 E] 25 (0,0)):=⟨_,rfl,zA _ _,ziF _ _ _ rfl⟩;have N:Hid (Below i.heap.size i a):=F.out.trans (n.mono F.out.size);have d:=(n.block _ (zBq l)).trans l;have Y:a.cell? ⟨b.heap.size,7,none⟩=some (.int .i64 ok.ret):=zBk d 7;have y8:a.cell? ⟨b.heap.size,8,none⟩=some (.int .i64 ok.vk):=zBk d 8;have y9:a.cell? ⟨b.heap.size,9,none⟩=some (.int .i64 ok.vn):=zBk d 9;have O:a.cell? ⟨g.heap.size,0,none⟩=some (.int .i64 L):=zBk j 0;have U:a.cell? ⟨g.heap.size,1,none⟩=some (.int .i64 E):=zBk j 1;obtain⟨r,s,c0,c1,r0,r1,z0,z1⟩:=Q.out _ N.out;have v:Hid _:=And.intro r s;clear r s q n l d j;go_wp2_with fail;go_region_held3 (fun w'=>w'.cell? ⟨w.heap.size,0,none⟩=some (.string ⟨c.1.toArray⟩)) (first|go_keep) (fail);go_wp2_with fail;obtain⟨f1,H⟩:=HF.out _ _ _ _ (.string (⟨T1.toArray⟩++⟨#[49]⟩++⟨T2.toArray⟩)) (.string ⟨rs.toArray⟩) v.out.1 v.out.2 rfl;exact bodyPost_ret (zDn _ _ (w.heap.size+1) _ _ _ (by simp) rfl H) rfl ⟨f1.drew,.inl ⟨_,I.out,by dsimp only;rw[←jb49];rfl⟩⟩
end Go.Proofs.YtoeoinpaidhmcaaGreatDoor.jd
