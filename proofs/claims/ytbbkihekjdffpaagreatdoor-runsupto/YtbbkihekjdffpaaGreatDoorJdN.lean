/- Several texts in one. -/
import Derived.Test.YtbbkihekjdffpaaGreatDoorJdH
import Derived.Test.YtbbkihekjdffpaaGreatDoorSrchBX
set_option maxHeartbeats 8000000
set_option maxRecDepth 100000
namespace Go.Proofs.YtbbkihekjdffpaaGreatDoor.jd
open Tryz
open Go.RowKit
open srch (vAg opAg tI OAt zOu)
def zy1 (done:List UInt8)(P:List OpV)(i:Nat):Bool:=done[i]?.getD 0==48&&decide (0<(P[i]?.getD z1u).ret)
def z0d (P:List OpV)(done:List UInt8):Bool:=!(List.range P.length).any (zy1 done P)
theorem zu4 (oa pa:Option Addr)(oc pc:Nat)(ops P:List OpV)(part:List Nat)(done:List UInt8)(w:World)(ho:OAt w oa ops)(hp:IAt w pa part)(hP:zrE ops part P)(hd:done.length=P.length)(hl:P.length≤1000):
 Calls prog 39 #[.slice oa ops.length oc,.slice pa part.length pc,.string ⟨done.toArray⟩] w fun e w'=>e=.returned (.bool (z0d P done))∧Below w.heap.size w w':=by
 obtain⟨RES,hRES⟩:∃RES,RES=z0d P done:=⟨_,rfl⟩;rw[←hRES];have HRES:Hid _:=hRES;have HPL:Hid _:=hP.1;rw[hP.1];clear hRES;go_enter func39,ntmps39;go_wp2_with fail;go_loopw [7] (fun i wr=>∃(j:Nat),i=.int .i64 (j:Int)∧j≤P.length∧Hid (∀q,q<j→zy1 done P q=false)∧Hid (Below w.heap.size w wr)) (fun i _=>P.length-(intOf i).toNat)
 case atStart=>exact⟨0,rfl,by omega,fun q hq=>absurd hq (by omega),zD⟩
 case round=>
  obtain⟨j,rfl,hj,HL,HB⟩:=hrel;by_cases hin:j<P.length
  ·have hinP:(j:Int)<(P.length:Int):=(by omega);obtain⟨y,hy⟩:∃y,P[j]?=some y:=⟨_,zC hin⟩;obtain⟨p,hpj,hpo⟩:=hP.2 j y hy;obtain⟨gp,rfl,hgp,hpc⟩:=hp (by rintro rfl;simp at hpj);obtain⟨go,rfl,hgo,hpol,hyc⟩:=zRO ho hpo;have hpi:(p:Int)<(ops.length:Int):=(by omega);have xj:wr.cell? ⟨gp,j,none⟩=some (.int .i64 (p:Int)):=(HB.out.cell (p:=⟨gp,j,none⟩) hgp).trans (hpc j p hpj);have q7:wr.cell? ⟨go,p*10+7,none⟩=some (.int .i64 y.ret):=(HB.out.cell (p:=⟨go,p*10+7,none⟩) hgo).trans (hyc 7 _ (by decide) rfl);have hdj:j<done.length:=(by omega);have hdj':(j:Int)<(done.length:Int):=(by omega);have hsz2:j<(⟨done.toArray⟩:ByteArray).size:=(by show j<done.toArray.size;simpa using hdj);have hby2:(⟨done.toArray⟩:ByteArray)[j]'hsz2=done[j]:=(by show done.toArray[j]'(by simpa using hdj)=done[j];simp);have hb48:((((⟨done.toArray⟩:ByteArray)[j]'hsz2).toNat:Int)==48)=(done[j]==48):=by
    rw[hby2,Bool.eq_iff_iff];simp only [beq_iff_eq];constructor
    ·intro e;exact UInt8.toNat_inj.1 (by show done[j].toNat=48;omega)
    ·intro e;rw[e];rfl
   have hlack:zy1 done P j=(done[j]==48&&decide (0<y.ret)):=by
    unfold zy1;rw[hy,zC hdj];rfl
   have hwj:IntKind.i64.wrap ((j:Int)+1)=(j:Int)+1:=(by go_arith);generalize hdd:(done[j]==48)=d48 at hb48 hlack;have HDL:Hid _:=hd;clear hdd hby2 hyc hpc hd;cases d48
   ·have hN:Hid (zy1 done P j=false):=(by show _=_;rw[hlack];rfl);clear hlack;go_wp2_with fail;go_roundw
    case rel=>exact⟨j+1,by go_num,by omega,fun q hq=>by
     by_cases e:q=j
     ·subst e;exact hN.out
     ·exact HL.out q (by omega),HB.out⟩
    case measure=>simp[intOf];omega
   ·by_cases c2:0<y.ret
    ·have c2':decide (0<y.ret)=true:=(by simpa using c2);have hE2:Hid (RES=false):=by
      show _=_;rw[HRES.out,z0d,Bool.not_eq_false',List.any_eq_true];exact⟨j,by simpa using hin,by rw[hlack,c2'];rfl⟩
     clear hlack;go_wp2_with fail;go_ret;exact⟨by rw[hE2.out];rfl,HB.out⟩
    ·have c2':decide (0<y.ret)=false:=(by simpa using c2);have hN:Hid (zy1 done P j=false):=(by show _=_;rw[hlack,c2'];rfl);clear hlack c2;go_wp2_with fail;go_roundw
     case rel=>exact⟨j+1,by go_num,by omega,fun q hq=>by
      by_cases e:q=j
      ·subst e;exact hN.out
      ·exact HL.out q (by omega),HB.out⟩
     case measure=>simp[intOf];omega
  ·have hinP:¬(j:Int)<(P.length:Int):=(by omega);have hE2:Hid (RES=true):=by
    show _=_;rw[HRES.out,z0d,Bool.not_eq_true',List.any_eq_false];intro q hq;rw[HL.out q (by have:=List.mem_range.1 hq;omega)];simp
   go_wp2_with fail;go_ret;exact⟨by rw[hE2.out];rfl,HB.out⟩
theorem zhR (done:List UInt8)(w:World)(hl:done.length≤1000):
 Calls prog 60 #[.string ⟨done.toArray⟩] w fun e w'=>e=.returned (.int .i64 ((done.count 49:Nat):Int))∧w'=w:=by
 go_enter func60,ntmps60;go_wp2_with fail;go_loop [3,4] (fun n i=>∃(x j:Nat),n=.int .i64 (x:Int)∧i=.int .i64 (j:Int)∧j≤done.length∧x≤j∧Hid (x=(done.take j).count 49)) (fun _ i=>done.length-(intOf i).toNat)
 case atStart=>exact⟨0,0,rfl,rfl,by omega,by omega,by exact rfl⟩
 case round=>
  obtain⟨x,j,rfl,rfl,hj,hx,HX⟩:=hrel;by_cases hin:j<done.length
  ·have hin':(j:Int)<(done.length:Int):=(by omega);have hsz2:j<(⟨done.toArray⟩:ByteArray).size:=(by show j<done.toArray.size;simpa using hin);have hby2:(⟨done.toArray⟩:ByteArray)[j]'hsz2=done[j]:=(by show done.toArray[j]'(by simpa using hin)=done[j];simp);have hwj:IntKind.i64.wrap ((j:Int)+1)=(j:Int)+1:=(by go_arith);have hwx:IntKind.i64.wrap ((x:Int)+1)=(x:Int)+1:=(by go_arith);have ht:(done.take (j+1)).count 49=(done.take j).count 49+(if done[j]=49 then 1 else 0):=by
    rw[List.take_succ_eq_append_getElem hin,List.count_append,List.count_singleton];simp
   by_cases h:done[j]=49
   ·have hb:((((⟨done.toArray⟩:ByteArray)[j]'hsz2).toNat:Int)==49)=true:=(by rw[hby2,h];decide);rw[if_pos h]at ht;have HT:Hid _:=ht;clear hby2 ht;go_wp2_with fail;go_round
    case rel=>exact⟨x+1,j+1,by go_num,by go_num,by omega,by omega,by show x+1=_;rw[HT.out,←HX.out]⟩
    case measure=>simp[intOf];omega
   ·have hb:((((⟨done.toArray⟩:ByteArray)[j]'hsz2).toNat:Int)==49)=false:=by
     rw[hby2];have:done[j].toNat≠49:=fun e=>h (UInt8.toNat_inj.1 e);simp;omega
    rw[if_neg h]at ht;have HT:Hid _:=ht;clear hby2 ht;go_wp2_with fail;go_round
    case rel=>exact⟨x,j+1,by go_num,by go_num,by omega,by omega,by show x=_;rw[HT.out,←HX.out];rfl⟩
    case measure=>simp[intOf];omega
  ·have hin':¬(j:Int)<(done.length:Int):=(by omega);have hE:Hid (x=done.count 49):=(by show _=_;rw[HX.out,List.take_of_length_le (by omega)]);go_wp2_with fail;go_ret;exact⟨by rw[←hE.out];rfl,rfl⟩
def isP (P:List OpV)(L:List Cf):Bool:=L.any (fun c=>z0d P c.1)
def mostP (L:List Cf):Nat:=L.foldl (fun n c=>max n (c.1.count 49)) 0
theorem zxN (P:List OpV)(L:List Cf)(c:Cf):isP P (L++[c])=(isP P L||z0d P c.1):=by simp[isP]
theorem z1Q (L:List Cf)(c:Cf):mostP (L++[c])=max (mostP L) (c.1.count 49):=by simp[mostP]
def vdAg (kn is:Bool)(most many:Nat):Value:=.agg #[.bool kn,.bool is,.int .i64 (most:Int),.int .i64 (many:Int)]
def zDK (m:List UInt8)(P:List OpV)(room:Nat)(w:World)(e:Ending)(w':World):Prop:=
 ∃L kn,Cfs m P room L kn∧L.length≤room+2000∧e=.returned (vdAg kn (isP P L) (mostP L) L.length)∧Below w.heap.size w w'
theorem zXf {w:World}{base g cap:Nat}{L:List Cf}(h:w.ownsRow base 82 2 (.slice (some ⟨g,0,none⟩) L.length cap) L.length (zKT L)){i:Nat}{c:Cf}(hi:L[i]?=some c):w.cell? ⟨g,i*2,none⟩=some (.string ⟨c.1.toArray⟩)∧w.cell? ⟨g,i*2+1,none⟩=some (.string ⟨c.2.toArray⟩):=by
 obtain⟨h0,h1⟩:=zaw L i c hi;have a:=h.cells (g:=g) rfl _ _ h0;have b:=h.cells (g:=g) rfl _ _ h1;rw[Addr.add_lit,Nat.zero_add]at a b;exact⟨a,b⟩
theorem vd4 {W:World}{b:Nat}{x0 x1 x2 x3:Value}(h:W.heap[b]?=some (.cells #[x0,x1,x2,x3] 48 (0,0)))(v0 v1 v2 v3:Value):
 ((((W.setCell ⟨b,0,none⟩ v0).setCell ⟨b,1,none⟩ v1).setCell ⟨b,2,none⟩ v2).setCell ⟨b,3,none⟩ v3).heap[b]?=some (.cells #[v0,v1,v2,v3] 48 (0,0))∧Kept [b] W ((((W.setCell ⟨b,0,none⟩ v0).setCell ⟨b,1,none⟩ v1).setCell ⟨b,2,none⟩ v2).setCell ⟨b,3,none⟩ v3):=by
 refine⟨by rw[zFg (zFg (zFg (zFg h 0 _) 1 _) 2 _) 3 _];rfl,?_⟩;exact((((Kept.refl _ _).setCell (p:=⟨b,0,none⟩) (Or.inl (by simp)) _).setCell (p:=⟨b,1,none⟩) (Or.inl (by simp)) _).setCell (p:=⟨b,2,none⟩) (Or.inl (by simp)) _).setCell (p:=⟨b,3,none⟩) (Or.inl (by simp)) _
theorem zM5 (tm:Array Value)(W:World)(b:Nat)(v0 v1 v2 v3:Value)(h7:tm[8]?.getD undef=.pointer (some ⟨b,0,none⟩))(hb:W.heap[b]?=some (.cells #[v0,v1,v2,v3] 48 (0,0))):
 (results Tryz.f34 tm).run prog W=.ok (.agg #[v0,v1,v2,v3]) W:=by
 have c0:W.cell? ⟨b,0,none⟩=some v0:=by rw[zBk hb];rfl
 have c1:W.cell? ⟨b,1,none⟩=some v1:=by rw[zBk hb];rfl
 have c2:W.cell? ⟨b,2,none⟩=some v2:=by rw[zBk hb];rfl
 have c3:W.cell? ⟨b,3,none⟩=some v3:=by rw[zBk hb];rfl
 simp[results,results34,go_sem,h7,c0,c1,c2,c3]
theorem znZ (m:List UInt8)(hm:five m)(oa pa:Option Addr)(oc pc:Nat)(ops P:List OpV)(part:List Nat)(room:Nat)(w:World)(ho:OAt w oa ops)(hp:IAt w pa part)(hP:zrE ops part P)(hl:P.length≤1000)(hol:ops.length≤1000)(hok:∀o∈P,okO o)(hroom:room≤900000):
 Calls prog 34 #[.string ⟨m.toArray⟩,.slice oa ops.length oc,.slice pa part.length pc,.int .i64 (room:Int)] w (zDK m P room w):=by
 have HPL:Hid _:=hP.1;have hcf:=fun w ho hp=>zxq m hm oa pa oc pc ops P part room w ho hp hP hl hol hok hroom;have hwh:=fun done w ho hp hd=>zu4 oa pa oc pc ops P part done w ho hp hP hd hl;rw[hP.1]at hcf hwh⊢;obtain⟨W0,hW0,hb0,hR0⟩:∃W0,w.alloc (.cells #[.bool false,.bool false,.int .i64 0,.int .i64 0] 48)=W0∧Below w.heap.size w W0∧W0.heap[w.heap.size]?=some (.cells #[.bool false,.bool false,.int .i64 0,.int .i64 0] 48 (0,0)):=⟨_,rfl,zA _ _,ziF _ _ _ rfl⟩;have hcf0:=hcf W0 (ho.below hb0) (hp.below hb0);have H0:Hid _:=(⟨hb0,hR0,ho,hp⟩:_∧_∧_∧_);clear hb0 hR0 ho hp hcf;go_enter func34,ntmps34;go_wp2_with fail;refine hcf0.mono ?_;rintro e w1 ⟨L,la,lc,kn,rfl,hLr,hb1,hLl,hC⟩;have HC:Hid _:=hC;obtain⟨W2,hW2,hb2,hV2⟩:∃W2,w1.alloc (.cells #[.bool kn,.bool false,.int .i64 0,.int .i64 (L.length:Int)] 48)=W2∧Below w1.heap.size w1 W2∧W2.heap[w1.heap.size]?=some (.cells #[.bool kn,.bool false,.int .i64 0,.int .i64 (L.length:Int)] 48 (0,0)):=⟨_,rfl,zA _ _,ziF _ _ _ rfl⟩;have hL2:=zmP hLr (Kept.of_below (S:=[]) hb2) (by simp);have hb02:Below W0.heap.size W0 W2:=hb1.trans (hb2.mono hb1.size);have H2:Hid _:=(⟨hV2,hL2,hb02,hb1.size⟩:_∧_∧_∧_);clear hV2 hL2 hb02 hb1 hb2 hLr hC hcf0;go_wp2_with fail;go_loopw [12] (fun s12 wr=>∃(i:Nat),s12=.int .i64 (i:Int)∧i≤L.length∧Hid (wr.heap[w1.heap.size]?=some (.cells #[.bool kn,.bool (isP P (L.take i)),.int .i64 (mostP (L.take i):Int),.int .i64 (L.length:Int)] 48 (0,0)))∧Hid (Kept [w1.heap.size] W2 wr)) (fun s12 _=>L.length-(intOf s12).toNat)
 case atStart=>exact⟨0,rfl,by omega,H2.out.1,Kept.refl _ _⟩
 case round=>
  obtain⟨i,rfl,hi,HV,HK⟩:=hrel;have hz1:=H2.out.2.2.2;have hz0:w.heap.size<W0.heap.size:=zBq H0.out.2.1;have HBw:Hid (Below W0.heap.size W0 wr):=H2.out.2.2.1.trans (HK.out.below H2.out.2.2.1.size (by simp;exact hz1));have HBww:Hid (Below w.heap.size w wr):=H0.out.1.trans (HBw.out.mono H0.out.1.size);by_cases hin:i<L.length
  ·have hin':(i:Int)<(L.length:Int):=(by omega);obtain⟨c,hci⟩:∃c,L[i]?=some c:=⟨_,zC hin⟩;have hokc:okC P c:=(HC.out.all c (List.mem_of_getElem? hci)).ok hok (z7m m P);obtain⟨gl,rfl,hgl⟩:∃g,la=some ⟨g,0,none⟩∧g≠w1.heap.size:=by
    rcases zzD H2.out.2.1 with ⟨_,e⟩|⟨g,cap,e,_⟩
    ·omega
    ·injection e with e;refine⟨g,e,fun e2=>?_⟩;subst e2;rcases H2.out.2.1.2 with ⟨e3,_⟩|⟨g',cap',cur,h1,_,hgb',_⟩
     ·rw[e]at e3;cases e3
     ·rw[e]at h1;injection h1 with h1;injection h1 with h1;injection h1 with h1;subst h1;rw[H2.out.1]at hgb';injection hgb' with hgb';injection hgb' with _ h3 _;exact absurd h3 (by decide)
   have hLr:=zmP H2.out.2.1 HK.out (fun g hg=>by simp[Value.ownBlock]at hg;subst hg;simpa using hgl);obtain⟨r0,r1⟩:=zXf hLr hci;have hw:=hwh c.1 wr (H0.out.2.2.1.below HBww.out) (H0.out.2.2.2.below HBww.out) hokc.1;have hcn:=fun w=>zhR c.1 w (hokc.few hl).1;have hwi:IntKind.i64.wrap ((i:Int)+1)=(i:Int)+1:=(by go_arith);clear hLr;go_wp2_with fail;refine hw.mono ?_;rintro e w3 ⟨rfl,hb3⟩;have hV3:=(hb3.block _ (zBq HV.out)).trans HV.out;have hK3:Kept [w1.heap.size] W2 w3:=HK.out.trans (Kept.of_below (S:=[w1.heap.size]) hb3);have ht:L.take (i+1)=L.take i++[c]:=(by rw[List.take_add_one,hci];rfl);have hsn1:=zxN P (L.take i) c;have hsn2:=z1Q (L.take i) c;rw[←ht]at hsn1 hsn2;generalize isP P (L.take i)=b1 at*;generalize mostP (L.take i)=mo at*;generalize z0d P c.1=b2 at*;have v1:w3.cell? ⟨w1.heap.size,1,none⟩=some (.bool b1):=zBk hV3 1;have z1:w3.frozen? ⟨w1.heap.size,1,none⟩=false:=zBn hV3 1;have H3:Hid _:=(⟨hV3,hK3⟩:_∧_);clear hw hV3 hK3 hb3 ht;have H3':Hid _:=(⟨H3.out.1,H3.out.2,trivial⟩:_∧_∧True);clear H3;have H3:=H3';clear H3';cases b1
   ·have HN:Hid _:=And.intro hsn1 hsn2;clear hsn1 hsn2;obtain⟨W4,hW4⟩:∃W4,w3.setCell ⟨w1.heap.size,1,none⟩ (.bool b2)=W4:=⟨_,rfl⟩;have hV4:W4.heap[w1.heap.size]?=some (.cells #[.bool kn,.bool b2,.int .i64 (mo:Int),.int .i64 (L.length:Int)] 48 (0,0)):=(by rw[←hW4,zFg H3.out.1 1 _];rfl);have hK4:Kept [w1.heap.size] W2 W4:=(by rw[←hW4];exact H3.out.2.1.setCell (p:=⟨w1.heap.size,1,none⟩) (Or.inl (by simp)) _);have hL4:=zmP H2.out.2.1 hK4 (fun g hg=>by simp[Value.ownBlock]at hg;subst hg;simpa using hgl);have r4:=(zXf hL4 hci).1;have v2:W4.cell? ⟨w1.heap.size,2,none⟩=some (.int .i64 (mo:Int)):=zBk hV4 2;have z2:W4.frozen? ⟨w1.heap.size,2,none⟩=false:=zBn hV4 2;have H4:Hid _:=And.intro hV4 hK4;clear hV4 hK4 hL4;go_wp2_with fail;go_region_law (first
     | (go_simp;go_at_call 60;refine(hcn _).mono ?_;rintro e w5 ⟨rfl,rfl⟩))
    all_goals
     go_wp2_with fail;go_roundw
     case rel=>exact⟨i+1,by go_num,by omega,by
      show _=_;rw[HN.out.1,HN.out.2];show(W4.setCell ⟨w1.heap.size,2,none⟩ (.int .i64 (max (mo:Int) (c.1.count 49:Nat)))).heap[w1.heap.size]?=_;rw[zFg H4.out.1 2 _];simp;omega,(H4.out.2.setCell (p:=⟨w1.heap.size,2,none⟩) (Or.inl (by simp)) _).drew⟩
     case measure=>simp[intOf];omega
   ·have HN:Hid _:=And.intro hsn1 hsn2;clear hsn1 hsn2;obtain⟨W4,hW4⟩:∃W4,w3.setCell ⟨w1.heap.size,1,none⟩ (.bool true)=W4:=⟨_,rfl⟩;have hV4:W4.heap[w1.heap.size]?=some (.cells #[.bool kn,.bool true,.int .i64 (mo:Int),.int .i64 (L.length:Int)] 48 (0,0)):=(by rw[←hW4,zFg H3.out.1 1 _];rfl);have hK4:Kept [w1.heap.size] W2 W4:=(by rw[←hW4];exact H3.out.2.1.setCell (p:=⟨w1.heap.size,1,none⟩) (Or.inl (by simp)) _);have hL4:=zmP H2.out.2.1 hK4 (fun g hg=>by simp[Value.ownBlock]at hg;subst hg;simpa using hgl);have r4:=(zXf hL4 hci).1;have v2:W4.cell? ⟨w1.heap.size,2,none⟩=some (.int .i64 (mo:Int)):=zBk hV4 2;have z2:W4.frozen? ⟨w1.heap.size,2,none⟩=false:=zBn hV4 2;have H4:Hid _:=And.intro hV4 hK4;clear hV4 hK4 hL4;go_wp2_with fail;go_region_law (first
     | (go_simp;go_at_call 60;refine(hcn _).mono ?_;rintro e w5 ⟨rfl,rfl⟩))
    all_goals
     go_wp2_with fail;go_roundw
     case rel=>exact⟨i+1,by go_num,by omega,by
      show _=_;rw[HN.out.1,HN.out.2];show(W4.setCell ⟨w1.heap.size,2,none⟩ (.int .i64 (max (mo:Int) (c.1.count 49:Nat)))).heap[w1.heap.size]?=_;rw[zFg H4.out.1 2 _];simp;omega,(H4.out.2.setCell (p:=⟨w1.heap.size,2,none⟩) (Or.inl (by simp)) _).drew⟩
     case measure=>simp[intOf];omega
  ·obtain rfl:i=L.length:=(by omega);have hin':¬(L.length:Int)<(L.length:Int):=(by omega);rw[List.take_length]at HV;have r0:=H0.out.2.1;have hR:=(HBw.out.block _ hz0).trans H0.out.2.1;have r0:wr.cell? ⟨w.heap.size,0,none⟩=some (.bool false):=zBk hR 0;have r1:wr.cell? ⟨w.heap.size,1,none⟩=some (.bool false):=zBk hR 1;have r2:wr.cell? ⟨w.heap.size,2,none⟩=some (.int .i64 0):=zBk hR 2;have r3:wr.cell? ⟨w.heap.size,3,none⟩=some (.int .i64 0):=zBk hR 3;have z0:=zBn hR 0;have z1:=zBn hR 1;have z2:=zBn hR 2;have z3:=zBn hR 3;have v0:wr.cell? ⟨w1.heap.size,0,none⟩=some (.bool kn):=zBk HV.out 0;have v1:wr.cell? ⟨w1.heap.size,1,none⟩=some (.bool (isP P L)):=zBk HV.out 1;have v2:wr.cell? ⟨w1.heap.size,2,none⟩=some (.int .i64 (mostP L:Int)):=zBk HV.out 2;have v3:wr.cell? ⟨w1.heap.size,3,none⟩=some (.int .i64 (L.length:Int)):=zBk HV.out 3;have HR:Hid _:=hR;clear hR;go_wp2_with fail;obtain⟨f1,f2⟩:=vd4 HR.out (.bool kn) (.bool (isP P L)) (.int .i64 (mostP L:Int)) (.int .i64 (L.length:Int));exact bodyPost_ret (zM5 _ _ w.heap.size _ _ _ _ (by simp) f1) rfl ⟨L,kn,HC.out,hLl,rfl,HBww.out.trans (f2.below HBww.out.size (by simp))⟩
def z04 (part:List Nat)(x:Nat):Int:=match part.idxOf? x with
 |some k=>(k:Int)
 |none=> -1
theorem ze4 {part:List Nat}{x k:Nat}(h:part[k]?=some x)(hn:∀q,q<k→part[q]?≠some x):part.idxOf? x=some k:=by
 induction part generalizing k with
 |nil=>simp at h
 |cons y t ih=>
   cases k with
   |zero=>simp at h;subst h;simp[List.idxOf?_cons]
   |succ k=>
     have hy:y≠x:=fun e=>hn 0 (by omega) (by simp[e]);rw[List.idxOf?_cons,if_neg (by simpa using hy),ih (by simpa using h) (fun q hq=>by simpa using hn (q+1) (by omega))];rfl
theorem zZd {part:List Nat}{x:Nat}(hn:∀q:Nat,part[q]?≠some x):part.idxOf? x=none:=by
 rw[List.idxOf?_eq_none_iff];intro hm;obtain⟨q,hq⟩:=List.mem_iff_getElem?.1 hm;exact hn q hq
theorem zVC (pa:Option Addr)(pc:Nat)(part:List Nat)(x:Nat)(w:World)(hp:IAt w pa part)(hl:part.length≤1000):
 Calls prog 37 #[.slice pa part.length pc,.int .i64 (x:Int)] w fun e w'=>e=.returned (.int .i64 (z04 part x))∧Below w.heap.size w w':=by
 obtain⟨RES,hRES⟩:∃RES,RES=z04 part x:=⟨_,rfl⟩;rw[←hRES];have HRES:Hid _:=hRES;clear hRES;go_enter func37,ntmps37;go_wp2_with fail;go_loopw [5] (fun i wr=>∃(j:Nat),i=.int .i64 (j:Int)∧j≤part.length∧Hid (∀q,q<j→part[q]?≠some x)∧Hid (Below w.heap.size w wr)) (fun i _=>part.length-(intOf i).toNat)
 case atStart=>exact⟨0,rfl,by omega,fun q hq=>absurd hq (by omega),zD⟩
 case round=>
  obtain⟨j,rfl,hj,HL,HB⟩:=hrel;by_cases hin:j<part.length
  ·have hinP:(j:Int)<(part.length:Int):=(by omega);obtain⟨y,hy⟩:∃y,part[j]?=some y:=⟨_,zC hin⟩;obtain⟨gp,rfl,hgp,hpc⟩:=hp (by rintro rfl;simp at hy);have xj:wr.cell? ⟨gp,j,none⟩=some (.int .i64 (y:Int)):=(HB.out.cell (p:=⟨gp,j,none⟩) hgp).trans (hpc j y hy);have hwj:IntKind.i64.wrap ((j:Int)+1)=(j:Int)+1:=(by go_arith);by_cases hyx:y=x
   ·have hyx':((y:Int)==(x:Int))=true:=(by simp[hyx]);have hE:Hid (RES=(j:Int)):=(by show _=_;rw[HRES.out,z04,ze4 (k:=j) (by rw[hy,hyx]) HL.out]);clear hyx;go_wp2_with fail;go_ret;exact⟨by rw[hE.out];rfl,HB.out⟩
   ·have hyx':((y:Int)==(x:Int))=false:=(by rw[beq_eq_false_iff_ne];omega);have HN:Hid (∀q,q<j+1→part[q]?≠some x):=fun q hq=>by
     by_cases e:q=j
     ·subst e;rw[hy];intro h;injection h with h;exact hyx h
     ·exact HL.out q (by omega)
    clear hyx;go_wp2_with fail;go_roundw
    case rel=>exact⟨j+1,by go_num,by omega,HN,HB⟩
    case measure=>simp[intOf];omega
  ·have hinP:¬(j:Int)<(part.length:Int):=(by omega);have hE:Hid (RES= -1):=by
    show _=_;rw[HRES.out,z04,zZd];intro q hq;exact HL.out q (by have:=(zB hq).1;omega) hq
   go_wp2_with fail;go_ret;exact⟨by rw[hE.out];rfl,HB.out⟩
theorem zKV {w:World}{g p:Nat}{o:OpV}(h:∀c u,c<10→(opvCells o)[c]?=some u→w.cell? ⟨g,p*10+c,none⟩=some u):w.cell? ⟨g,p*10,none⟩=some (.int .i64 o.id)∧w.cell? ⟨g,p*10+1,none⟩=some (.int .i64 o.cl)∧w.cell? ⟨g,p*10+2,none⟩=some (.string ⟨o.name.toArray⟩)∧w.cell? ⟨g,p*10+3,none⟩=some (.string ⟨o.key.toArray⟩)∧w.cell? ⟨g,p*10+4,none⟩=some (.int .i64 o.arg)∧w.cell? ⟨g,p*10+5,none⟩=some (.int .i64 o.exp)∧w.cell? ⟨g,p*10+6,none⟩=some (.int .i64 o.call)∧w.cell? ⟨g,p*10+7,none⟩=some (.int .i64 o.ret)∧w.cell? ⟨g,p*10+8,none⟩=some (.int .i64 o.vk)∧w.cell? ⟨g,p*10+9,none⟩=some (.int .i64 o.vn):=
 ⟨h 0 _ (by decide) rfl,h 1 _ (by decide) rfl,h 2 _ (by decide) rfl,h 3 _ (by decide) rfl,h 4 _ (by decide) rfl,h 5 _ (by decide) rfl,h 6 _ (by decide) rfl,h 7 _ (by decide) rfl,h 8 _ (by decide) rfl,h 9 _ (by decide) rfl⟩
def z8Z (Q:List OpV):Prop:=∀(i k:Nat) (a b:OpV),k<i→Q[i]?=some a→Q[k]?=some b→¬(0<a.ret∧a.ret<b.call)
theorem zS4 (oa ra:Option Addr)(oc rc:Nat)(ops Q:List OpV)(order:List Nat)(w:World)(ho:OAt w oa ops)(hr:IAt w ra order)(hQ:zrE ops order Q)(hl:Q.length≤1000)(hok:z8Z Q):
 Calls prog 36 #[.slice oa ops.length oc,.slice ra order.length rc] w fun e w'=>e=.returned (.bool true)∧Below w.heap.size w w':=by
 rw[hQ.1];have HQ:Hid _:=hQ;go_enter func36,ntmps36;go_wp2_with fail;go_loopw [5] (fun i wr=>∃(j:Nat),i=.int .i64 (j:Int)∧j≤Q.length∧Hid (Below w.heap.size w wr)) (fun i _=>Q.length-(intOf i).toNat)
 case atStart=>exact⟨0,rfl,by omega,zD⟩
 case round=>
  obtain⟨j,rfl,hj,HB⟩:=hrel;by_cases hin:j<Q.length
  ·have hinP:(j:Int)<(Q.length:Int):=(by omega);have hwj:IntKind.i64.wrap ((j:Int)+1)=(j:Int)+1:=(by go_arith);go_wp2_with fail;go_loopw [6] (fun i wx=>∃(k:Nat),i=.int .i64 (k:Int)∧k≤j∧Hid (Below w.heap.size w wx)) (fun i _=>j-(intOf i).toNat)
   case atStart=>exact⟨0,rfl,by omega,HB⟩
   case round=>
    clear HB;obtain⟨k,rfl,hk,HB⟩:=hrel;by_cases hkin:k<j
    ·have hkin':(k:Int)<(j:Int):=(by omega);have hkQ:(k:Int)<(Q.length:Int):=(by omega);have hwk:IntKind.i64.wrap ((k:Int)+1)=(k:Int)+1:=(by go_arith);obtain⟨a,ha⟩:∃a,Q[j]?=some a:=⟨_,zC hin⟩;obtain⟨b,hb⟩:∃b,Q[k]?=some b:=⟨_,zC (by omega)⟩;have hno:=hok j k a b hkin ha hb;obtain⟨pa,hpa,hoa⟩:=hQ.2 j a ha;obtain⟨pb,hpb,hob⟩:=hQ.2 k b hb;obtain⟨gr,rfl,hgr,hrc⟩:=hr (by rintro rfl;simp at hpa);obtain⟨go,rfl,hgo,hpal,hac⟩:=zRO ho hoa;obtain⟨go',hgo',_,hpbl,hbc⟩:=zRO ho hob;obtain rfl:go=go':=(by injection hgo' with e;injection e);have hpai:(pa:Int)<(ops.length:Int):=(by omega);have hpbi:(pb:Int)<(ops.length:Int):=(by omega);have HRC:Hid (∀V:World,Below w.heap.size w V→V.cell? ⟨gr,j,none⟩=some (.int .i64 (pa:Int))∧V.cell? ⟨gr,k,none⟩=some (.int .i64 (pb:Int))):=fun V hV=>⟨(hV.cell (p:=⟨gr,j,none⟩) hgr).trans (hrc j pa hpa),(hV.cell (p:=⟨gr,k,none⟩) hgr).trans (hrc k pb hpb)⟩;have HAC:Hid (∀V:World,Below w.heap.size w V→∀c u,c<10→(opvCells a)[c]?=some u→V.cell? ⟨go,pa*10+c,none⟩=some u):=fun V hV c u hc hu=>(hV.cell (p:=⟨go,pa*10+c,none⟩) hgo).trans (hac c u hc hu);have HBC:Hid (∀V:World,Below w.heap.size w V→∀c u,c<10→(opvCells b)[c]?=some u→V.cell? ⟨go,pb*10+c,none⟩=some u):=fun V hV c u hc hu=>(hV.cell (p:=⟨go,pb*10+c,none⟩) hgo).trans (hbc c u hc hu);obtain⟨x1,_⟩:=HRC.out wr HB.out;obtain⟨q0,q1,q2,q3,q4,q5,q6,q7,q8,q9⟩:=zKV (HAC.out wr HB.out);obtain⟨W2,hW2,hb2,hY2⟩:∃W2,wr.alloc (.cells #[.int .i64 a.id,.int .i64 a.cl,.string ⟨a.name.toArray⟩,.string ⟨a.key.toArray⟩,.int .i64 a.arg,.int .i64 a.exp,.int .i64 a.call,.int .i64 a.ret,.int .i64 a.vk,.int .i64 a.vn] 74)=W2∧Below wr.heap.size wr W2∧W2.heap[wr.heap.size]?=some (.cells #[.int .i64 a.id,.int .i64 a.cl,.string ⟨a.name.toArray⟩,.string ⟨a.key.toArray⟩,.int .i64 a.arg,.int .i64 a.exp,.int .i64 a.call,.int .i64 a.ret,.int .i64 a.vk,.int .i64 a.vn] 74 (0,0)):=⟨_,rfl,zA _ _,ziF _ _ _ rfl⟩;have HB2:Hid (Below w.heap.size w W2):=HB.out.trans (hb2.mono HB.out.size);obtain⟨_,x2⟩:=HRC.out W2 HB2.out;obtain⟨p0,p1,p2,p3,p4,p5,p6,p7,p8,p9⟩:=zKV (HBC.out W2 HB2.out);obtain⟨W3,hW3,hb3,hY3⟩:∃W3,W2.alloc (.cells #[.int .i64 b.id,.int .i64 b.cl,.string ⟨b.name.toArray⟩,.string ⟨b.key.toArray⟩,.int .i64 b.arg,.int .i64 b.exp,.int .i64 b.call,.int .i64 b.ret,.int .i64 b.vk,.int .i64 b.vn] 74)=W3∧Below W2.heap.size W2 W3∧W3.heap[W2.heap.size]?=some (.cells #[.int .i64 b.id,.int .i64 b.cl,.string ⟨b.name.toArray⟩,.string ⟨b.key.toArray⟩,.int .i64 b.arg,.int .i64 b.exp,.int .i64 b.call,.int .i64 b.ret,.int .i64 b.vk,.int .i64 b.vn] 74 (0,0)):=⟨_,rfl,zA _ _,ziF _ _ _ rfl⟩;have HB3:Hid (Below w.heap.size w W3):=HB2.out.trans (hb3.mono HB2.out.size);have y7:W3.cell? ⟨wr.heap.size,7,none⟩=some (.int .i64 a.ret):=zBk ((hb3.block _ (zBq hY2)).trans hY2) 7;have y6:W3.cell? ⟨W2.heap.size,6,none⟩=some (.int .i64 b.call):=zBk hY3 6;clear hY2 hY3 hb2 hb3 hac hbc hrc HRC HAC HBC;by_cases d1:0<a.ret
     ·have d2:¬a.ret<b.call:=fun h=>hno ⟨d1,h⟩;have d1':decide (0<a.ret)=true:=(by simpa using d1);have d2':decide (a.ret<b.call)=false:=(by simpa using d2);clear hno;go_wp2_with fail;go_roundw
      case rel=>exact⟨k+1,by go_num,by omega,HB3⟩
      case measure=>simp[intOf];omega
     ·have d1':decide (0<a.ret)=false:=(by simpa using d1);clear hno d1;go_wp2_with fail;go_roundw
      case rel=>exact⟨k+1,by go_num,by omega,HB3⟩
      case measure=>simp[intOf];omega
    ·obtain rfl:k=j:=(by omega);have hkin':¬(k:Int)<(k:Int):=(by omega);go_wp2_with fail;go_roundw
     case rel=>exact⟨k+1,by go_num,by omega,HB⟩
     case measure=>simp[intOf];omega
  ·have hinP:¬(j:Int)<(Q.length:Int):=(by omega);go_wp2_with fail;go_ret;exact⟨rfl,HB.out⟩
def zbm (part:List Nat)(P:List OpV)(x:Nat)(c:Cf):Option Cf:=(part.idxOf? x).bind (fun k=>zsj P c k)
def zdl (part:List Nat)(P:List OpV)(c0:Cf)(l:List Nat):Option Cf:=l.foldl (fun o x=>o.bind (zbm part P x)) (some c0)
theorem zDH (part:List Nat)(P:List OpV)(c0:Cf)(l:List Nat)(x:Nat):zdl part P c0 (l++[x])=(zdl part P c0 l).bind (zbm part P x):=by simp[zdl]
theorem zI2 (part:List Nat)(P:List OpV)(l:List Nat):l.foldl (fun o x=>o.bind (zbm part P x)) none=none:=by
 induction l with
 |nil=>rfl
 |cons x r ih=>exact ih
theorem zYm {part:List Nat}{P:List OpV}{c0 cE:Cf}{l:List Nat}(h:zdl part P c0 l=some cE)(i:Nat):∃c,zdl part P c0 (l.take i)=some c:=by
 cases e:zdl part P c0 (l.take i)with
 |some c=>exact⟨c,rfl⟩
 |none=>
   rw[←List.take_append_drop i l]at h;unfold zdl at h e;rw[List.foldl_append,e,zI2]at h;cases h
theorem zOw {part:List Nat}{x k:Nat}(h:part.idxOf? x=some k):k<part.length:=by
 have:=List.idxOf?_eq_some_iff.1 h;exact this.1
theorem zPe {part:List Nat}{P:List OpV}(hl:part.length=P.length){c0:Cf}(n:Nat):∀(l:List Nat),l.length=n→∀c,zdl part P c0 l=some c→RR P c0 c:=by
 induction n with
 |zero=>intro l hn c h;rw[List.length_eq_zero_iff.1 hn]at h;injection h with h;subst h;exact .start
 |succ n ih=>
   intro l hn c h;rcases List.eq_nil_or_concat l with rfl|⟨r,x,rfl⟩
   ·simp at hn
   rw[List.concat_eq_append]at hn h;rw[zDH]at h;cases e:zdl part P c0 r with
   |none=>rw[e]at h;cases h
   |some d=>
     rw[e]at h;unfold zbm at h;cases e2:part.idxOf? x with
     |none=>rw[e2]at h;cases h
     |some k=>
       rw[e2]at h;exact .step (ih r (by simpa using hn) d e) k (by rw[←hl];exact zOw e2) h
theorem zcq (tm:Array Value)(W:World)(b:Nat)(v0 v1 x:Value)(h6:tm[8]?.getD undef=.pointer (some ⟨b,0,none⟩))(h7:tm[9]?.getD undef=x)(hb:W.heap[b]?=some (.cells #[v0,v1] 82 (0,0))):
 (results Tryz.f38 tm).run prog W=.ok (.tuple #[.agg #[v0,v1],x]) W:=by
 have c0:W.cell? ⟨b,0,none⟩=some v0:=by rw[zBk hb];rfl
 have c1:W.cell? ⟨b,1,none⟩=some v1:=by rw[zBk hb];rfl
 simp[results,results38,go_sem,h6,h7,c0,c1]
theorem zi5 (m:List UInt8)(hm:five m)(oa pa ra:Option Addr)(oc pc rc:Nat)(ops P:List OpV)(part order:List Nat)(w:World)(ho:OAt w oa ops)(hp:IAt w pa part)(hr:IAt w ra order)(hP:zrE ops part P)(hl:P.length≤1000)(hol:ops.length≤1000)(hrl:order.length≤1000)(hok:∀o∈P,okO o)(cE:Cf)(hE:zdl part P (cf0 m P) order=some cE):
 Calls prog 38 #[.string ⟨m.toArray⟩,.slice oa ops.length oc,.slice pa part.length pc,.slice ra order.length rc] w fun e w'=>e=.returned (.tuple #[cAg cE,.bool true])∧Below w.heap.size w w':=by
 have HPL:Hid _:=hP.1;have hfst:=fun w=>zpZ m hm w;have hplc:=fun x w hp=>zVC pa pc part x w hp (by rw[hP.1];exact hl);have hbeh:=fun c k w ho hp hc hk hst=>zvs m oa pa oc pc ops P part c k w ho hp hP hc hk hl hol hst hok;rw[hP.1]at hbeh hplc⊢;obtain⟨W0,hW0,hb0,hR0⟩:∃W0,w.alloc (.cells #[.string ⟨#[]⟩,.string ⟨#[]⟩] 82)=W0∧Below w.heap.size w W0∧W0.heap[w.heap.size]?=some (.cells #[.string ⟨#[]⟩,.string ⟨#[]⟩] 82 (0,0)):=⟨_,rfl,zA _ _,ziF _ _ _ rfl⟩;obtain⟨W1,hW1,hb1,hC1⟩:∃W1,W0.alloc (.cells #[.string ⟨#[]⟩,.string ⟨(zKM m).toArray⟩] 82)=W1∧Below W0.heap.size W0 W1∧W1.heap[W0.heap.size]?=some (.cells #[.string ⟨#[]⟩,.string ⟨(zKM m).toArray⟩] 82 (0,0)):=⟨_,rfl,zA _ _,ziF _ _ _ rfl⟩;have H0:Hid _:=(⟨hb0,hR0,ho,hp,hr,hb1,hC1⟩:_∧_∧_∧_∧_∧_∧_);clear hb0 hR0 ho hp hr hb1 hC1;unfold cAg at*;go_enter func38,ntmps38;go_wp2_with fail;refine(hfst _).mono ?_;rintro e w1 ⟨rfl,rfl⟩;go_wp2_with fail;go_loopw [11] (fun i wr=>∃(j:Nat),i=.int .i64 (j:Int)∧j≤P.length∧Hid (wr.heap[w1.heap.size]?=some (.cells #[.string ⟨(zYN j).toArray⟩,.string ⟨(zKM m).toArray⟩] 82 (0,0)))∧Hid (Kept [w1.heap.size] W1 wr)) (fun i _=>P.length-(intOf i).toNat)
 case atStart=>exact⟨0,rfl,by omega,H0.out.2.2.2.2.2.2,Kept.refl _ _⟩
 case round=>
  obtain⟨j,rfl,hj,HC,HK⟩:=hrel;have hzl:(zYN j).length=j:=by simp[zYN]
  by_cases hin:j<P.length
  ·have hin':(j:Int)<(P.length:Int):=(by omega);have hwj:IntKind.i64.wrap ((j:Int)+1)=(j:Int)+1:=(by go_arith);have c0:wr.cell? ⟨w1.heap.size,0,none⟩=some (.string ⟨(zYN j).toArray⟩):=zBk HC.out 0;have z0:=zBn HC.out 0;have hz:=zFG j;go_wp2_with fail;go_roundw
   case rel=>exact⟨j+1,by go_num,by omega,by show _=_;rw[zFg HC.out 0 _];rfl,HK.out.setCell (p:=⟨w1.heap.size,0,none⟩) (Or.inl (by simp)) _⟩
   case measure=>simp[intOf];omega
  ·obtain rfl:j=P.length:=(by omega);have hin':¬(P.length:Int)<(P.length:Int):=(by omega);have hzw:w.heap.size<w1.heap.size:=zBq H0.out.2.1;have HW:Hid (∀V:World,Kept [w1.heap.size] W1 V→Below w.heap.size w V):=fun V hV=>by
    have h1:Below w.heap.size w W1:=H0.out.1.trans (H0.out.2.2.2.2.2.1.mono H0.out.1.size);exact h1.trans (hV.below h1.size (by simp;omega))
   have HR1:Hid (∀V:World,Kept [w1.heap.size] W1 V→V.heap[w.heap.size]?=some (.cells #[.string ⟨#[]⟩,.string ⟨#[]⟩] 82 (0,0))):=fun V hV=>by
    have h1:=(H0.out.2.2.2.2.2.1.block _ hzw).trans H0.out.2.1;exact(hV.block _ (zBq h1) (by simp;omega)).trans h1
   go_wp2_with fail;go_loopw [12] (fun i wx=>∃(j:Nat) (c:Cf),i=.int .i64 (j:Int)∧j≤order.length∧Hid (wx.heap[w1.heap.size]?=some (.cells #[.string ⟨c.1.toArray⟩,.string ⟨c.2.toArray⟩] 82 (0,0)))∧Hid (zdl part P (cf0 m P) (order.take j)=some c)∧Hid (Kept [w1.heap.size] W1 wx)) (fun i _=>order.length-(intOf i).toNat)
   case atStart=>exact⟨0,cf0 m P,rfl,by omega,HC,rfl,HK⟩
   case round=>
    clear HC HK;obtain⟨j,c,rfl,hj,HC,HA,HK⟩:=hrel;by_cases hin:j<order.length
    ·have hin':(j:Int)<(order.length:Int):=(by omega);have hwj:IntKind.i64.wrap ((j:Int)+1)=(j:Int)+1:=(by go_arith);obtain⟨x,hx⟩:∃x,order[j]?=some x:=⟨_,zC hin⟩;obtain⟨gr,rfl,hgr,hrc⟩:=H0.out.2.2.2.2.1 (by rintro rfl;simp at hx);have hbw:=HW.out wr HK.out;have xj:wr.cell? ⟨gr,j,none⟩=some (.int .i64 (x:Int)):=(hbw.cell (p:=⟨gr,j,none⟩) hgr).trans (hrc j x hx);obtain⟨c',hc'⟩:=zYm hE (j+1);have ht:order.take (j+1)=order.take j++[x]:=(by rw[List.take_add_one,hx];rfl);have hc2:=hc';rw[ht,zDH,HA.out]at hc2;obtain⟨k,hk1,hk2⟩:∃k,part.idxOf? x=some k∧zsj P c k=some c':=by
      unfold zbm at hc2;cases e:part.idxOf? x with
      |none=>rw[e]at hc2;cases hc2
      |some k=>rw[e]at hc2;exact⟨k,rfl,hc2⟩
     have hkP:k<P.length:=(by rw[←HPL.out];exact zOw hk1);have hokc:okC P c:=(zPe HPL.out _ _ rfl c HA.out).ok hok (z7m m P);have hpl:=hplc x wr (H0.out.2.2.2.1.below hbw);rw[show z04 part x=(k:Int) by unfold z04;rw[hk1]]at hpl;have hk0:¬(k:Int)<0:=(by omega);have HN:Hid _:=(⟨hc',hk2⟩:_∧_);clear hc' hc2 ht hk1 hk2 hrc;go_wp2_with fail;refine hpl.mono ?_;rintro e w3 ⟨rfl,hb3⟩;have hK3:Kept [w1.heap.size] W1 w3:=HK.out.trans (Kept.of_below (S:=[w1.heap.size]) hb3);have hC3:=(hb3.block _ (zBq HC.out)).trans HC.out;have c0:w3.cell? ⟨w1.heap.size,0,none⟩=some (.string ⟨c.1.toArray⟩):=zBk hC3 0;have c1:w3.cell? ⟨w1.heap.size,1,none⟩=some (.string ⟨c.2.toArray⟩):=zBk hC3 1;have hb3w:=HW.out w3 hK3;have hbq:=hbeh c k w3 (H0.out.2.2.1.below hb3w) (H0.out.2.2.2.1.below hb3w) hokc.1 hkP (hokc.few hl).2;have H3:Hid _:=(⟨hK3,hC3⟩:_∧_);clear hK3 hC3 hb3w hb3 hpl hbw xj;go_wp2_with fail;refine hbq.mono ?_;rintro e w4 ⟨hb4,hres⟩;obtain rfl:e=.returned (.tuple #[.agg #[.string ⟨c'.1.toArray⟩,.string ⟨c'.2.toArray⟩],.bool true]):=by
      rcases hres with ⟨d,h1,h2⟩|⟨h1,_⟩
      ·rw[HN.out.2]at h1;injection h1 with h1;subst h1;exact h2
      ·rw[HN.out.2]at h1;cases h1
     obtain⟨W5,hW5,hb5,hT5⟩:∃W5,w4.alloc (.cells #[.string ⟨c'.1.toArray⟩,.string ⟨c'.2.toArray⟩] 82)=W5∧Below w4.heap.size w4 W5∧W5.heap[w4.heap.size]?=some (.cells #[.string ⟨c'.1.toArray⟩,.string ⟨c'.2.toArray⟩] 82 (0,0)):=⟨_,rfl,zA _ _,ziF _ _ _ rfl⟩;have hb35:Below w3.heap.size w3 W5:=hb4.trans (hb5.mono hb4.size);have hK5:Kept [w1.heap.size] W1 W5:=H3.out.1.trans (Kept.of_below (S:=[w1.heap.size]) hb35);have hC5:=(hb35.block _ (zBq H3.out.2)).trans H3.out.2;have d0:W5.cell? ⟨w4.heap.size,0,none⟩=some (.string ⟨c'.1.toArray⟩):=zBk hT5 0;have d1:W5.cell? ⟨w4.heap.size,1,none⟩=some (.string ⟨c'.2.toArray⟩):=zBk hT5 1;have e0:W5.cell? ⟨w1.heap.size,0,none⟩=some (.string ⟨c.1.toArray⟩):=zBk hC5 0;have e1:W5.cell? ⟨w1.heap.size,1,none⟩=some (.string ⟨c.2.toArray⟩):=zBk hC5 1;have z0:=zBn hC5 0;have z1:=zBn hC5 1;have H5:Hid _:=(⟨hK5,hC5⟩:_∧_);clear hb4 hres hb5 hT5 hb35 hK5 hC5 hbq c0 c1;go_wp2_with fail;go_roundw
     case rel=>exact⟨j+1,c',by go_num,by omega,cset H5.out.2 _ _,HN.out.1,(H5.out.1.setCell (p:=⟨w1.heap.size,0,none⟩) (Or.inl (by simp)) _).setCell (p:=⟨w1.heap.size,1,none⟩) (Or.inl (by simp)) _⟩
     case measure=>simp[intOf];omega
    ·obtain rfl:j=order.length:=(by omega);have hin':¬(order.length:Int)<(order.length:Int):=(by omega);obtain rfl:c=cE:=by
      have:=HA.out;rw[List.take_length,hE]at this;injection this with this;exact this.symm
     have hR:=HR1.out wr HK.out;have c0:wr.cell? ⟨w1.heap.size,0,none⟩=some (.string ⟨c.1.toArray⟩):=zBk HC.out 0;have c1:wr.cell? ⟨w1.heap.size,1,none⟩=some (.string ⟨c.2.toArray⟩):=zBk HC.out 1;have r0:wr.cell? ⟨w.heap.size,0,none⟩=some (.string ⟨#[]⟩):=zBk hR 0;have r1:wr.cell? ⟨w.heap.size,1,none⟩=some (.string ⟨#[]⟩):=zBk hR 1;have z0:=zBn hR 0;have z1:=zBn hR 1;have HRR:Hid _:=hR;clear hR;go_wp2_with fail;have f1:=cset HRR.out (.string ⟨c.1.toArray⟩) (.string ⟨c.2.toArray⟩);have hbw:=HW.out wr HK.out;exact bodyPost_ret (zcq _ _ w.heap.size _ _ _ (by simp) rfl f1) rfl ⟨rfl,(hbw.setCell (p:=⟨w.heap.size,0,none⟩) zG _).setCell (p:=⟨w.heap.size,1,none⟩) zG _⟩
open srch (vAg opAg tI OAt zOu idsT)
theorem zMo (a b:List Nat):∀n:Int,zlt n (a++b)=(zlt n a).bind (fun x=>zlt x b):=by
 induction a with
 |nil=>intro n;rfl
 |cons c t ih=>
   intro n;simp only [List.cons_append,zlt];split
   ·rfl
   ·split
    ·rfl
    ·exact ih _
theorem zDc (m:Nat):Lib.decDigits m=if m<10 then [UInt8.ofNat (48+m)]else Lib.decDigits (m/10)++[UInt8.ofNat (48+m%10)]:=by
 rw[Lib.decDigits];split<;>rfl
theorem zfI (a b:List UInt8):nats (a++b)=nats a++nats b:=by simp[nats]
theorem zNL (z:Nat)(h:z<10):nats [UInt8.ofNat (48+z)]=[48+z]:=by unfold nats;simp;omega
theorem zyb (m:Nat):m≤9223372036854775808→zlt 0 (nats (Lib.decDigits m))=some (-(m:Int)):=by
 induction m using Nat.strongRecOn with
 |ind m ih=>
   intro hm;rw[zDc];by_cases h:m<10
   ·rw[if_pos h,zNL m h];simp only [zlt];rw[if_neg (by omega),if_neg (by
     have e:(-9223372036854775808+(((48+m:Nat):Int)-48)).tdiv 10= -((9223372036854775808-(m:Int))/10):=by
      rw[show -9223372036854775808+(((48+m:Nat):Int)-48)= -(9223372036854775808-(m:Int)) by omega,Int.neg_tdiv,Int.tdiv_eq_ediv_of_nonneg (by omega)]
     rw[e];omega)]
    congr 1;omega
   ·rw[if_neg h,zfI,zMo,ih (m/10) (by omega) (by omega),zNL _ (Nat.mod_lt _ (by omega))];simp only [Option.bind_some,zlt];rw[if_neg (by omega),if_neg (by
     have e:(-9223372036854775808+(((48+m%10:Nat):Int)-48)).tdiv 10= -((9223372036854775808-((m%10:Nat):Int))/10):=by
      rw[show -9223372036854775808+(((48+m%10:Nat):Int)-48)= -(9223372036854775808-((m%10:Nat):Int)) by omega,Int.neg_tdiv,Int.tdiv_eq_ediv_of_nonneg (by omega)]
     rw[e];omega)]
    congr 1;omega
theorem zot (m:Nat):Lib.decDigits m≠[]∧(m≠0→(nats (Lib.decDigits m)).headD 0≠48)∧(nats (Lib.decDigits m)).headD 0≠45∧∀c∈Lib.decDigits m,c≠44:=by
 induction m using Nat.strongRecOn with
 |ind m ih=>
   rw[zDc];by_cases h:m<10
   ·rw[if_pos h,zNL m h];refine⟨by simp,fun h0=>by show 48+m≠48;omega,by show 48+m≠45;omega,fun c hc e=>?_⟩;simp at hc;subst hc;have:=congrArg UInt8.toNat e;simp at this;omega
   ·rw[if_neg h];obtain⟨i1,i2,i3,i4⟩:=ih (m/10) (by omega);have hd:∀d,(nats (Lib.decDigits (m/10)++[UInt8.ofNat (48+m%10)])).headD d=(nats (Lib.decDigits (m/10))).headD d:=by
     intro d;rw[zfI];cases e:nats (Lib.decDigits (m/10))with
     |nil=>exact absurd (by simpa [nats]using e) i1
     |cons x t=>rfl
    refine⟨by simp,fun h0=>by rw[hd];exact i2 (by omega),by rw[hd];exact i3,fun c hc e=>?_⟩;rcases List.mem_append.1 hc with hc|hc
    ·exact i4 c hc e
    ·simp at hc;subst hc;have:=congrArg UInt8.toNat e;simp at this;omega
theorem zTn (l:List UInt8):(nats l).length=l.length:=by simp[nats]
theorem zCf (m:Nat)(hm:m≤9223372036854775808):¬((nats (Lib.decDigits m)).length<1∨19<(nats (Lib.decDigits m)).length∨(1<(nats (Lib.decDigits m)).length∧(nats (Lib.decDigits m)).headD 0=48)):=by
 obtain⟨h1,h2,h3,_⟩:=zot m;have hl:=z8n m hm;rw[zTn];rintro(h|h|⟨h,h'⟩)
 ·have:(Lib.decDigits m).length≠0:=by simpa using h1
  omega
 ·omega
 ·by_cases h0:m=0
  ·subst h0;rw[zDc]at h;simp at h
  ·exact h2 h0 h'
theorem zxM (m:Nat)(hm:m≤9223372036854775808):z8T true (nats (Lib.decDigits m))=(-(m:Int),true):=by
 unfold z8T;rw[if_neg (zCf m hm),zyb m hm];rfl
theorem z4k (m:Nat)(hm:m<9223372036854775808):z8T false (nats (Lib.decDigits m))=((m:Int),true):=by
 unfold z8T;rw[if_neg (zCf m (by omega)),zyb m (by omega)];simp only [Bool.false_eq_true,if_false];rw[if_neg (by omega),decide_eq_true (by omega),Int.neg_neg]
theorem zmn (n:Int)(h0: -9223372036854775808≤n)(h1:n≤9223372036854775807):z7y (Lib.itoa n)=(n,true):=by
 have hw:zyu (nats (Lib.itoa n))=(n,true):=by
  unfold Lib.itoa;by_cases hn:n<0
  ·rw[if_pos hn];have e:nats (45::Lib.decDigits n.natAbs)=45::nats (Lib.decDigits n.natAbs):=rfl;rw[e];unfold zyu;rw[if_pos (show(45::nats (Lib.decDigits n.natAbs)).headD 0=45 from rfl),List.tail_cons,zxM _ (by omega),show -((n.natAbs:Nat):Int)=n by omega]
  ·rw[if_neg hn];unfold zyu;rw[if_neg (zot _).2.2.1,z4k _ (by omega),show((n.toNat:Nat):Int)=n by omega]
 unfold z7y;rw[hw];simp
theorem zs4 (n:Int):Lib.itoa n≠[]∧∀c∈Lib.itoa n,c≠44:=by
 unfold Lib.itoa;split
 ·refine⟨by simp,fun c hc=>?_⟩;rcases List.mem_cons.1 hc with rfl|hc
  ·decide
  ·exact(zot _).2.2.2 c hc
 ·exact⟨(zot _).1,(zot _).2.2.2⟩
theorem zu8 (a t:List UInt8)(h:∀c∈a,c≠44):zN3 (a++44::t)=(a,t):=by
 induction a with
 |nil=>simp[zN3]
 |cons c r ih=>rw[List.cons_append,zN3,if_neg (h c (by simp)),ih (fun x hx=>h x (by simp[hx]))]
theorem zGB (o:OpV)(r:List OpV):idsT (o::r)=if r=[]then Lib.itoa o.id else Lib.itoa o.id++44::idsT r:=by
 unfold idsT Lib.join;cases r with
 |nil=>simp[List.intercalate]
 |cons p t=>rw[if_neg (by simp)];simp[List.intercalate]
theorem zA4 (o:OpV)(r:List OpV):zN3 (idsT (o::r))=(Lib.itoa o.id,idsT r):=by
 rw[zGB];split
 ·rename_i h;subst h;rw[zPM _ (zs4 _).2];simp[idsT,Lib.join,List.intercalate]
 ·exact zu8 _ _ (zs4 _).2
theorem zA3 (o:OpV)(r:List OpV):idsT (o::r)≠[]:=by
 rw[zGB];have:=(zs4 o.id).1;split<;>simp[this]
theorem zhq (l:List OpV):∀(h:idsT l≠[]),(idsT l).getLast h≠44:=by
 induction l with
 |nil=>intro h;exact absurd (by simp[idsT,Lib.join,List.intercalate]) h
 |cons o r ih=>
   intro h;have e:=zGB o r;by_cases hr:r=[]
   ·rw[if_pos hr]at e;have:=(zs4 o.id).2 ((idsT (o::r)).getLast h) (by rw[←e];exact List.getLast_mem h);exact this
   ·rw[if_neg hr]at e;have hne:idsT r≠[]:=by cases r with
     |nil=>exact absurd rfl hr
     |cons p t=>exact zA3 p t
    have e2:(idsT (o::r)).getLast h=(idsT r).getLast hne:=by
     have h3:(Lib.itoa o.id++44::idsT r)≠[]:=(by simp);rw[show(idsT (o::r)).getLast h=(Lib.itoa o.id++44::idsT r).getLast h3 from by congr 1];rw[List.getLast_append_of_ne_nil h3 (List.cons_ne_nil _ _),List.getLast_cons hne]
    rw[e2];exact ih hne
theorem zXE (l:List OpV)(h:∀o∈l,-9223372036854775808≤o.id∧o.id≤9223372036854775807):(idsT l).length≤21*l.length:=by
 induction l with
 |nil=>simp[idsT,Lib.join,List.intercalate]
 |cons o r ih=>
   have h1:=ih (fun x hx=>h x (by simp[hx]));have h2:=zCU o.id (h o (by simp)).1 (h o (by simp)).2;rw[zGB];split<;>simp<;>omega
def wf64 (n:Int):Prop:= -9223372036854775808≤n∧n≤9223372036854775807
theorem z99 {w:World}{base g cap:Nat}{l:List Nat}(h:w.ownsRow base 3 1 (.slice (some ⟨g,0,none⟩) l.length cap) l.length (zea l)){i x:Nat}(hi:l[i]?=some x):w.cell? ⟨g,i,none⟩=some (.int .i64 (x:Int)):=by
 have a:=h.cells (g:=g) rfl i (.int .i64 (x:Int)) (by unfold zea;rw[List.getElem?_map,hi];rfl);rw[Addr.add_lit,Nat.zero_add]at a;exact a
def zpr (pl:List Nat)(w:World)(e:Ending)(w':World):Prop:=
 ∃a c,e=.returned (.tuple #[.slice a pl.length c,.bool true])∧w'.ownsRow w.heap.size 3 1 (.slice a pl.length c) pl.length (zea pl)∧Below w.heap.size w w'
theorem ids_any (oa:Option Addr)(oc:Nat)(ops Q:List OpV)(pl:List Nat)(w:World)(ho:OAt w oa ops)(hQ:zrE ops pl Q)(hnd:pl.Nodup)(hol:ops.length≤1000)(hQl:Q.length≤1000)(hid:∀o∈ops,wf64 o.id)(huq:∀(i j:Nat) (o o':OpV),ops[i]?=some o→ops[j]?=some o'→o.id=o'.id→i=j):
 Calls prog 35 #[.slice oa ops.length oc,.string ⟨(idsT Q).toArray⟩] w (zpr pl w):=by
 go_enter func35,ntmps35;go_wp2_with fail;go_loopw [1,6] (fun s1 s6 wr=>∃(j:Nat) (a:Option Addr) (c:Nat),s1=.string ⟨(idsT (Q.drop j)).toArray⟩∧s6=.slice a j c∧j≤Q.length∧Hid (wr.ownsRow w.heap.size 3 1 (.slice a j c) j (zea (pl.take j)))∧Hid (Below w.heap.size w wr)) (fun _ s6 _=>Q.length-(match s6 with|.slice _ n _=>n|_=>0))
 case atStart=>exact⟨0,none,0,rfl,rfl,by omega,World.ownsRow_nil _ _ _ _,zD⟩
 case round=>
  obtain⟨j,a,c,rfl,rfl,hj,HR,HB⟩:=hrel;have hpll:=hQ.1;by_cases hin:j<Q.length
  ·obtain⟨o,ho1⟩:∃o,Q[j]?=some o:=⟨_,zC hin⟩;obtain⟨p,hp1,hp2⟩:=hQ.2 j o ho1;obtain⟨go,rfl,hgo,hpl,hoc⟩:=zRO ho hp2;have hido:=hid o (List.mem_of_getElem? hp2);have hdrop:Q.drop j=o::Q.drop (j+1):=(by rw[List.drop_eq_getElem_cons hin];congr 1;exact(zB ho1).2);have hidQ:∀x∈Q,wf64 x.id:=fun x hx=>by
    obtain⟨q,hq⟩:=List.mem_iff_getElem?.1 hx;obtain⟨p',_,h2⟩:=hQ.2 q x hq;exact hid x (List.mem_of_getElem? h2)
   have hsl:(idsT (Q.drop j)).length≤21000:=by
    have h1:=zXE (Q.drop j) (fun x hx=>hidQ x (List.mem_of_mem_drop hx));have h2:(Q.drop j).length≤1000:=(by simp;omega);omega
   have hhd:=zA4 o (Q.drop (j+1));have hne:=zA3 o (Q.drop (j+1));have hlast:=zhq (o::Q.drop (j+1)) hne;rw[hdrop]at hsl⊢;have hxa:=zmn o.id hido.1 hido.2;have hil:=zCU o.id hido.1 hido.2;generalize idsT (o::Q.drop (j+1))=s at*;have hse:s.isEmpty=false:=(by simpa using hne);have hspos:0<s.length:=List.length_pos_iff.2 hne;obtain⟨q1,hq1⟩:∃q1,s.length=q1+1:=⟨s.length-1,by omega⟩;have hwq:IntKind.i64.wrap ((s.length:Int)-1)=(q1:Int):=(by rw[j64 (by omega) (by omega)];omega);have hql:(q1:Int)<(s.length:Int):=(by omega);have hsz1:q1<(⟨s.toArray⟩:ByteArray).size:=(by show q1<s.toArray.size;simp;omega);have hby:((((⟨s.toArray⟩:ByteArray)[q1]'hsz1).toNat:Int)==44)=false:=by
    have e1:(⟨s.toArray⟩:ByteArray)[q1]'hsz1=s[q1]'(by omega):=(by show s.toArray[q1]'(by simp;omega)=_;simp);have e2:s.getLast hne=s[q1]'(by omega):=(by rw[List.getLast_eq_getElem];congr 1;omega);rw[e1];have:(s[q1]'(by omega)).toNat≠44:=fun e=>hlast (by rw[e2];exact UInt8.toNat_inj.1 e);simp;omega
   have hH:=zS3 s wr (by omega);rw[hhd]at hH;have hX:=fun W=>zku (Lib.itoa o.id) W (by omega);rw[hxa]at hX;dsimp only at hX hH;have HQ1:Hid _:=hq1;clear hq1 hne hlast hhd hxa hil hspos;generalize Lib.itoa o.id=sa at*;go_wp2_with fail;refine hH.mono ?_;rintro e w1 ⟨rfl,hb1⟩;clear hH;go_wp2_with fail;refine(hX _).mono ?_;rintro e w2 ⟨rfl,hb2⟩;have HB2:Hid (Below wr.heap.size wr w2):=hb1.trans (hb2.mono hb1.size);clear hX hb1 hb2;have HBw:Hid (Below w.heap.size w w2):=HB.out.trans (HB2.out.mono HB.out.size);have HR2:Hid (w2.ownsRow w.heap.size 3 1 (.slice a j c) j (zea (pl.take j))):=zmP HR.out (Kept.of_below (S:=[]) HB2.out) (by simp);have hj1:j<pl.length:=(by omega);clear HB HR HB2;go_wp2_with fail;go_loop [11,12] (fun s11 s12=>∃(i:Nat) (z:Int),s11=.int .i64 z∧s12=.int .i64 (i:Int)∧i≤ops.length∧Hid (z=if p<i then(p:Int)else -1)) (fun _ s12=>ops.length-(intOf s12).toNat)
   case atStart=>exact⟨0,-1,rfl,rfl,by omega,by exact rfl⟩
   case round=>
    obtain⟨i,z,rfl,rfl,hi,HZ⟩:=hrel;by_cases hio:i<ops.length
    ·have hio':(i:Int)<(ops.length:Int):=(by omega);have hwi:IntKind.i64.wrap ((i:Int)+1)=(i:Int)+1:=(by go_arith);obtain⟨x,hx⟩:∃x,ops[i]?=some x:=⟨_,zC hio⟩;obtain⟨go',hgo',_,_,hxc⟩:=zRO ho hx;obtain rfl:go=go':=(by injection hgo' with e;injection e);have x0:w2.cell? ⟨go,i*10,none⟩=some (.int .i64 x.id):=(HBw.out.cell (p:=⟨go,i*10,none⟩) hgo).trans (hxc 0 _ (by decide) rfl);clear hxc;by_cases hxe:x.id=o.id
     ·have HIP:Hid (i=p):=huq i p x o hx hp2 hxe;have hxe':(x.id==o.id)=true:=(by simpa using hxe);clear hxe;go_wp2_with fail;go_round
      case rel=>exact⟨i+1,(i:Int),rfl,by go_num,by omega,by show(i:Int)=_;rw[if_pos (by have:=HIP.out;omega),HIP.out]⟩
      case measure=>simp[intOf];omega
     ·have hip:i≠p:=fun e=>hxe (by subst e;rw[hp2]at hx;injection hx with hx;rw[hx]);have hxe':(x.id==o.id)=false:=(by simpa using hxe);clear hxe;go_wp2_with fail;go_round
      case rel=>exact⟨i+1,z,rfl,by go_num,by omega,by
       show z=_;rw[HZ.out];by_cases h:p<i
       ·rw[if_pos h,if_pos (by omega)]
       ·rw[if_neg h,if_neg (by omega)]⟩
      case measure=>simp[intOf];omega
    ·have hio':¬(i:Int)<(ops.length:Int):=(by omega);obtain rfl:z=(p:Int):=(by rw[HZ.out,if_pos (by omega)]);clear HZ;go_wp2_with fail;go_loop [13] (fun s13=>∃(i:Nat),s13=.int .i64 (i:Int)∧i≤j) (fun s13=>j-(intOf s13).toNat)
     case atStart=>exact⟨0,rfl,by omega⟩
     case round=>
      obtain⟨k,rfl,hk⟩:=hrel;by_cases hkj:k<j
      ·have hkj':(k:Int)<(j:Int):=(by omega);have hwk:IntKind.i64.wrap ((k:Int)+1)=(k:Int)+1:=(by go_arith);obtain⟨y,hy⟩:∃y,pl[k]?=some y:=⟨_,zC (by omega)⟩;have hyp:y≠p:=fun e=>by
        subst e;obtain⟨hk1,hk2⟩:=zB hy;obtain⟨hj1,hj2⟩:=zB hp1;exact List.pairwise_iff_getElem.1 hnd k j hk1 hj1 hkj (hk2.trans hj2.symm)
       have hyp':((y:Int)==(p:Int))=false:=(by rw[beq_eq_false_iff_ne];omega);obtain⟨g,rfl⟩:∃g,a=some ⟨g,0,none⟩:=by
        rcases zzD HR2.out with ⟨_,e⟩|⟨g,cap,e,_⟩
        ·omega
        ·injection e with e;exact⟨g,e⟩
       have hlen:(pl.take j).length=j:=(by rw[List.length_take];omega);have y0:w2.cell? ⟨g,k,none⟩=some (.int .i64 (y:Int)):=by
        have h:=HR2.out.cells (g:=g) rfl k (.int .i64 (y:Int)) (by unfold zea;rw[List.getElem?_map,List.getElem?_take,if_pos (by omega),hy];rfl);rw[Addr.add_lit,Nat.zero_add]at h;exact h
       clear hlen hyp;go_wp2_with fail;go_round
       case rel=>exact⟨k+1,by go_num,by omega⟩
       case measure=>simp[intOf];omega
      ·obtain rfl:k=j:=(by omega);have hkj':¬(k:Int)<(k:Int):=(by omega);have hp0:¬(p:Int)<0:=(by omega);obtain⟨a7,c7,w7,hap,own7,hk7⟩:=zla false w2 w.heap.size a k c (zea (pl.take k)) (p:Int) HR2.out (by omega) HBw.out.size;have hap':(Builtin.append_ #[43,43] 43 #[.slice a k c,.slice (some ⟨w2.heap.size,0,none⟩) 1 1]).run prog (w2.alloc (.cells #[.int .i64 (p:Int)] 3))=.ok (.slice a7 (k+1) c7) w7:=hap;have ht:pl.take (k+1)=pl.take k++[p]:=(by rw[List.take_add_one,hp1];rfl);rw[←zyv,←ht]at own7;have HO7:Hid _:=own7;have HB7:Hid (Below w.heap.size w w7):=HBw.out.trans (hk7.below HBw.out.size (fun g hg=>(HR2.out.lt g (by simpa using hg)).1));clear hap own7 hk7 ht;go_wp2_with (at_builtin;refine zOu rfl _ _ 43 rfl _ _ _ _ rfl rfl hap' ?_);go_roundw
       case rel=>exact⟨k+1,a7,c7,rfl,rfl,by omega,HO7,HB7⟩
       case measure=>simp;omega
  ·obtain rfl:j=Q.length:=(by omega);rw[List.drop_length];have HR':Hid (wr.ownsRow w.heap.size 3 1 (.slice a pl.length c) pl.length (zea pl)):=by
    have h:=HR.out;rw[←hpll,List.take_length]at h;exact h
   rw[←hpll];rw[show idsT ([]:List OpV)=[] by simp[idsT,Lib.join,List.intercalate]];go_wp2_with fail;go_ret2;exact⟨a,c,rfl,HR'.out,HB.out⟩
def lone3 (m:List UInt8):Prop:=m=sReg∨m=zsK∨m=zyy
theorem lone3.five {m:List UInt8}(h:lone3 m):five m:=by
 rcases h with h|h|h
 ·exact .inl h
 ·exact .inr (.inr (.inl h))
 ·exact .inr (.inr (.inr (.inr h)))
theorem zYt (m:List UInt8)(hm:lone3 m)(w:World):
 Calls prog 32 #[.string ⟨m.toArray⟩] w fun e w'=>e=.returned (.bool false)∧w'=w:=by
 rcases hm with rfl|rfl|rfl
 all_goals
  simp only [sReg,zsK,zyy];go_enter func32,ntmps32;go_wp2;go_ret;exact⟨rfl,rfl⟩
theorem zsv:(prog.info? 45).map (fun i=>(i.zero,i.size,i.bytes))=some (some (.agg #[.string ⟨#[]⟩,.slice none 0 0]),2,40):=by kernel_rfl
theorem zaZ (W:World)(base:Nat)(a:Option Addr)(n c:Nat)(xs:List Value)(k:List UInt8)(va:Option Addr)(vn vc:Nat)(h:W.ownsRow base 45 2 (.slice a n c) n xs)(hn:n≤3000000)(hb:base≤W.heap.size):
 ∃a' c' w',(Builtin.append_ #[34,34] 34 #[.slice a n c,.slice (some ⟨W.heap.size,0,none⟩) 1 1]).run prog (W.alloc (.cells #[.string ⟨k.toArray⟩,.slice va vn vc] 45))=.ok (.slice a' (n+1) c') w'∧w'.ownsRow base 45 2 (.slice a' (n+1) c') (n+1) (xs++[.string ⟨k.toArray⟩,.slice va vn vc])∧Kept (Value.slice a n c).ownBlock.toList W w':=by
 obtain⟨i0,hi0',hz0,hz1,hz2⟩:=info_parts zsv;obtain⟨v7,w7,h1,h2,h3,_⟩:=run_append_own (P:=prog) (W.alloc (.cells ([.string ⟨k.toArray⟩,.slice va vn vc]:List Value).toArray 45)) base 34 34 45 i0 _ 2 40 underlying34 hi0' hz0 hz1 hz2 rfl (by decide) (.slice a n c) n xs (h.alloc _) ⟨W.heap.size,0,none⟩ 1 1 [.string ⟨k.toArray⟩,.slice va vn vc] rfl (z9R W _ _) (by intro u hu;simp at hu;rcases hu with rfl|rfl<;>rfl) (by unfold maxLen;omega) (by omega) (by simp;omega);obtain⟨a',c',rfl⟩:=zIW h2;exact⟨a',c',w7,h1,h2,((Kept.refl _ W).alloc _).grownS h3 (fun g' hg'=>by rw[hg'];simp)⟩
theorem zUm (s wth t:List UInt8)(hs:s=wth++t++[10])(hl:s.length≤90000000)(w:World):
 Calls prog 14 #[.string ⟨s.toArray⟩,.string ⟨wth.toArray⟩] w fun e w'=>e=.returned (.tuple #[.string ⟨t.toArray⟩,.bool true])∧Below w.heap.size w w':=by
 have hsl:s.length=wth.length+t.length+1:=by rw[hs];simp;omega
 have h1:¬(s.length:Int)<(wth.length:Int)+1:=by omega
 have h1':decide ((s.length:Int)<(wth.length:Int)+1)=false:=by simpa using h1
 have hw1:IntKind.i64.wrap ((wth.length:Int)+1)=(wth.length:Int)+1:=j64 (by omega) (by omega);obtain⟨q,hq⟩:∃q,s.length=q+1:=⟨wth.length+t.length,by omega⟩;have hwq:IntKind.i64.wrap ((s.length:Int)-1)=(q:Int):=by rw[j64 (by omega) (by omega)];omega
 have hqs:(q:Int)<(s.length:Int):=by omega
 have hqs2:(q:Int)≤(s.length:Int):=by omega
 have hlw:(wth.length:Int)≤(s.length:Int):=by omega
 have hlq:(wth.length:Int)≤(q:Int):=by omega
 have hex:(⟨s.toArray⟩:ByteArray).extract 0 wth.length=⟨wth.toArray⟩:=by
  rw[Lib.extract_eq,hs];simp
 have hex2:(⟨s.toArray⟩:ByteArray).extract wth.length q=⟨t.toArray⟩:=by
  rw[Lib.extract_eq];have:List.take (q-wth.length) (List.drop wth.length s)=t:=by
   rw[hs,List.append_assoc,List.drop_left];exact List.take_left' (by omega)
  rw[←this]
 have hsz1:q<(⟨s.toArray⟩:ByteArray).size:=by show q<s.toArray.size;simp;omega
 have hby:((((⟨s.toArray⟩:ByteArray)[q]'hsz1).toNat:Int)==10)=true:=by
  have e1:(⟨s.toArray⟩:ByteArray)[q]'hsz1=s[q]'(by omega):=by show s.toArray[q]'(by simp;omega)=_;simp
  have e2:s[q]?=some 10:=by rw[hs,List.getElem?_append_right (by simp;omega),show q-(wth++t).length=0 by simp;omega];rfl
  rw[zC (by omega)]at e2;injection e2 with e2;rw[e1,e2];decide
 have hbn:((((⟨s.toArray⟩:ByteArray)[q]'hsz1).toNat:Int) != 10)=false:=by rw[bne,hby];rfl
 have HQ:Hid _:=(⟨hs,hq,hsl⟩:_∧_∧_);clear hs hq hsl h1;go_enter func14,ntmps14;go_wp2_with fail;go_ret2;exact⟨rfl,zD⟩
theorem zgE (s wth:List UInt8)(h:s.take wth.length≠wth)(_hl:s.length≤90000000)(hwl:wth.length≤90000000)(w:World):
 Calls prog 14 #[.string ⟨s.toArray⟩,.string ⟨wth.toArray⟩] w fun e w'=>e=.returned (.tuple #[.string ⟨#[]⟩,.bool false])∧Below w.heap.size w w':=by
 have hw1:IntKind.i64.wrap ((wth.length:Int)+1)=(wth.length:Int)+1:=j64 (by omega) (by omega);by_cases h0:s.length<wth.length+1
 ·have h1:decide ((s.length:Int)<(wth.length:Int)+1)=true:=by simp;omega
  clear h;go_enter func14,ntmps14;go_wp2_with fail;go_ret2;exact⟨rfl,zD⟩
 ·have h1:decide ((s.length:Int)<(wth.length:Int)+1)=false:=by simp;omega
  have hlw:(wth.length:Int)≤(s.length:Int):=by omega
  have hex:(⟨s.toArray⟩:ByteArray).extract 0 wth.length=⟨(s.take wth.length).toArray⟩:=by
   rw[Lib.extract_eq];simp
  have hne:(s.take wth.length==wth)=false:=by simpa using h
  have hnn:(s.take wth.length != wth)=true:=by simpa using h
  generalize s.take wth.length=z at*;clear h;go_enter func14,ntmps14;go_wp2_with fail;go_ret2;exact⟨rfl,zD⟩
def roomP (k:Nat):Nat:=1000000/(2*(k+1))
theorem zhE (k:Nat):roomP k≤500000:=by
 unfold roomP;have:1000000/(2*(k+1))≤1000000/2:=Nat.div_le_div_left (by omega) (by decide);omega
theorem zKP (k:Nat)(hk:k≤1000)(w:World):
 Calls prog 33 #[.int .i64 (k:Int)] w fun e w'=>e=.returned (.int .i64 (roomP k:Int))∧w'=w:=by
 have h1:IntKind.i64.wrap ((k:Int)+1)=(k:Int)+1:=j64 (by omega) (by omega);have h2:IntKind.i64.wrap (2*((k:Int)+1))=2*((k:Int)+1):=j64 (by omega) (by omega);have h3:Int.tdiv 1000000 (2*((k:Int)+1))=(roomP k:Int):=by
  rw[Int.tdiv_eq_ediv_of_nonneg (by omega)];unfold roomP;simp
 have h4:(2*((k:Int)+1)==0)=false:=by rw[beq_eq_false_iff_ne];omega
 have hr:=zhE k;have h5:IntKind.i64.wrap (roomP k:Int)=(roomP k:Int):=j64 (by omega) (by omega);generalize roomP k=r at*;go_enter func33,ntmps33;go_wp2_with fail;go_ret;exact⟨rfl,rfl⟩
open srch (qKey z9l hexL)
theorem zTU:∀a b:Fin 16,hexL.getD a.val 0=hexL.getD b.val 0→a=b:=by decide
theorem zjY {c c':UInt8}{r r':List UInt8}(h:z9l c++r=z9l c'++r'):c=c'∧r=r':=by
 have key:∀(c:UInt8),(z9l c=[92,c]∧(c.toNat=34∨c.toNat=92))∨(z9l c=[92,117,48,48,hexL.getD (c.toNat/16) 0,hexL.getD (c.toNat%16) 0]∧c.toNat<32)∨(z9l c=[c]∧c.toNat≠34∧c.toNat≠92∧¬c.toNat<32):=by
  intro c;unfold z9l;by_cases h1:c.toNat=34∨c.toNat=92
  ·rw[if_pos h1];exact .inl ⟨rfl,h1⟩
  ·rw[if_neg h1];by_cases h2:c.toNat<32
   ·rw[if_pos h2];exact .inr (.inl ⟨rfl,h2⟩)
   ·rw[if_neg h2];exact .inr (.inr ⟨rfl,by omega,by omega,h2⟩)
 have t92:∀c:UInt8,92=c→c.toNat=92:=fun c e=>by rw[←e];rfl
 have t117:∀c:UInt8,c=117→c.toNat=117:=fun c e=>by rw[e];rfl
 rcases key c with ⟨e,h1⟩|⟨e,h1⟩|⟨e,h1,h2,h3⟩<;>rcases key c' with ⟨e',h1'⟩|⟨e',h1'⟩|⟨e',h1',h2',h3'⟩<;>rw[e,e']at h<;>simp only [List.cons_append,List.nil_append,List.cons.injEq]at h
 ·exact⟨h.2.1,h.2.2⟩
 ·have:=t117 c h.2.1;omega
 ·have:=t92 c' h.1;omega
 ·have:=t117 c' h.2.1.symm;omega
 ·obtain⟨_,_,_,_,g1,g2,g3⟩:=h;have a1:=zTU ⟨c.toNat/16,by omega⟩ ⟨c'.toNat/16,by omega⟩ g1;have a2:=zTU ⟨c.toNat%16,by omega⟩ ⟨c'.toNat%16,by omega⟩ g2;simp only [Fin.mk.injEq]at a1 a2;exact⟨UInt8.toNat_inj.1 (by omega),g3⟩
 ·have:=t92 c' h.1;omega
 ·have:=t92 c h.1.symm;omega
 ·have:=t92 c h.1.symm;omega
 ·exact h
theorem zga (c:UInt8)(r y:List UInt8):z9l c++r≠34::y:=by
 intro h;unfold z9l at h;split at h
 ·simp at h
 ·rename_i h1;split at h
  ·simp at h
  ·simp at h;exact h1 (.inl (by rw[h.1];rfl))
theorem zSOC {k k' x y:List UInt8}(h:qKey k++x=qKey k'++y):k=k'∧x=y:=by
 have key:∀k k':List UInt8,k.flatMap z9l++34::x=k'.flatMap z9l++34::y→k=k'∧x=y:=by
  intro k
  induction k with
  |nil=>
    intro k' h;cases k' with
    |nil=>simpa using h
    |cons c t=>
      rw[List.flatMap_cons,List.append_assoc]at h;exact absurd h.symm (zga _ _ _)
  |cons c t ih=>
    intro k' h;cases k' with
    |nil=>
      rw[List.flatMap_cons,List.append_assoc]at h;exact absurd h (zga _ _ _)
    |cons c' t'=>
      rw[List.flatMap_cons,List.flatMap_cons,List.append_assoc,List.append_assoc]at h;obtain⟨rfl,h2⟩:=zjY h;obtain⟨rfl,h3⟩:=ih t' h2;exact⟨rfl,h3⟩
 refine key k k' ?_;unfold qKey at h;simp only [List.cons_append,List.cons.injEq,true_and,List.append_assoc,List.nil_append]at h;exact h
theorem zwj {part:List Nat}(hn:part.Nodup){k:Nat}(hk:k<part.length):part.idxOf? part[k]=some k:=by
 unfold List.idxOf?;rw[List.findIdx?_eq_some_iff_getElem];refine⟨hk,by simp,fun j hj=>?_⟩;simp only [beq_iff_eq];intro e;have:=List.pairwise_iff_getElem.1 hn j k (by omega) hk hj;exact this e
theorem z0W {part:List Nat}(hn:part.Nodup){P:List OpV}(hl:part.length=P.length)(c0:Cf)(loc:List Nat)(hloc:∀k∈loc,k<P.length):
 zdl part P c0 (loc.map (fun k=>part[k]?.getD 0))=zdl (List.range P.length) P c0 loc:=by
 unfold zdl;rw[List.foldl_map];have key:∀(loc:List Nat) (o:Option Cf),(∀k∈loc,k<P.length)→loc.foldl (fun o k=>o.bind (zbm part P (part[k]?.getD 0))) o=loc.foldl (fun o x=>o.bind (zbm (List.range P.length) P x)) o:=by
  intro loc
  induction loc with
  |nil=>intro o _;rfl
  |cons k r ih=>
    intro o h;rw[List.foldl_cons,List.foldl_cons];have hk:k<part.length:=(by rw[hl];exact h k (by simp));have e1:part.idxOf? (part[k]?.getD 0)=some k:=by
     rw[zC hk];exact zwj hn hk
    have e2:(List.range P.length).idxOf? k=some k:=by
     have:=zwj (part:=List.range P.length) List.nodup_range (k:=k) (by simpa using h k (by simp));simpa using this
    have e:zbm part P (part[k]?.getD 0)=zbm (List.range P.length) P k:=by
     funext c;unfold zbm;rw[e1,e2]
    rw[e];exact ih _ (fun x hx=>h x (by simp[hx]))
 exact key loc _ hloc
end Go.Proofs.YtbbkihekjdffpaaGreatDoor.jd
