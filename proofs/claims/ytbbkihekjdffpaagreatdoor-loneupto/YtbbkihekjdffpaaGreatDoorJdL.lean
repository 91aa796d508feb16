/- Several texts in one. -/
import Derived.Test.YtbbkihekjdffpaaGreatDoorJdJ
set_option maxHeartbeats 8000000
set_option maxRecDepth 100000
namespace Go.Proofs.YtbbkihekjdffpaaGreatDoor.jd
open Go.RowKit
open srch (vAg opAg tI OAt zOu)
def zy1 (done:List UInt8) (P:List OpV) (i:Nat):Bool:=done[i]?.getD 0 == 48&&decide (0 < (P[i]?.getD z1u).ret)
def z0d (P:List OpV) (done:List UInt8):Bool:=!(List.range P.length).any (zy1 done P)
theorem zu4 (oa pa:Option Addr) (oc pc:Nat) (ops P:List OpV) (part:List Nat) (done:List UInt8) (w:World) (ho:OAt w oa ops) (hp:IAt w pa part) (hP:zrE ops part P) (hd:done.length=P.length) (hl:P.length≤1000):
 Calls Tryz.prog 39 #[.slice oa ops.length oc,.slice pa part.length pc,.string ⟨done.toArray⟩] w fun e w'=>e=.returned (.bool (z0d P done))∧Below w.heap.size w w':=by
 obtain ⟨RES,hRES⟩:∃ RES,RES=z0d P done:=⟨_,rfl⟩
 rw [←hRES]
 have HRES:Hid _:=hRES
 have HPL:Hid _:=hP.1
 rw [hP.1]
 clear hRES
 go_enter Tryz.func39,Tryz.ntmps39
 go_wp2_with fail
 go_loopw [7] (fun i wr=>∃ (j:Nat),i=.int .i64 (j:Int)∧j≤P.length∧Hid (∀ q,q < j→zy1 done P q=false)∧Hid (Below w.heap.size w wr)) (fun i _=>P.length - (intOf i).toNat)
 case atStart=>exact ⟨0,rfl,by omega,fun q hq=>absurd hq (by omega),Below.refl _ _⟩
 case round=>
  obtain ⟨j,rfl,hj,HL,HB⟩:=hrel
  by_cases hin:j < P.length
  · have hinP:(j:Int) < (P.length:Int):=by omega
    obtain ⟨y,hy⟩:∃ y,P[j]?=some y:=⟨_,List.getElem?_eq_getElem hin⟩
    obtain ⟨p,hpj,hpo⟩:=hP.2 j y hy
    obtain ⟨gp,rfl,hgp,hpc⟩:=hp (by rintro rfl;simp at hpj)
    obtain ⟨go,rfl,hgo,hpol,hyc⟩:=zQO ho hpo
    have hpi:(p:Int) < (ops.length:Int):=by omega
    have xj:wr.cell? ⟨gp,j,none⟩=some (.int .i64 (p:Int)):=(HB.out.cell (p:=⟨gp,j,none⟩) hgp).trans (hpc j p hpj)
    have q7:wr.cell? ⟨go,p*10+7,none⟩=some (.int .i64 y.ret):=(HB.out.cell (p:=⟨go,p*10+7,none⟩) hgo).trans (hyc 7 _ (by decide) rfl)
    have hdj:j < done.length:=by omega
    have hdj':(j:Int) < (done.length:Int):=by omega
    have hsz2:j < (⟨done.toArray⟩:ByteArray).size:=by show j < done.toArray.size;simpa using hdj
    have hby2:(⟨done.toArray⟩:ByteArray)[j]'hsz2=done[j]:=by show done.toArray[j]'(by simpa using hdj)=done[j];simp
    have hb48:((((⟨done.toArray⟩:ByteArray)[j]'hsz2).toNat:Int) == 48)=(done[j] == 48):=by
     rw [hby2,Bool.eq_iff_iff]
     simp only [beq_iff_eq]
     constructor
     · intro e;exact UInt8.toNat_inj.1 (by show done[j].toNat=48;omega)
     · intro e;rw [e];rfl
    have hlack:zy1 done P j=(done[j] == 48&&decide (0 < y.ret)):=by
     unfold zy1
     rw [hy,List.getElem?_eq_getElem hdj];rfl
    have hwj:IntKind.i64.wrap ((j:Int)+1)=(j:Int)+1:=by go_arith
    generalize hdd:(done[j] == 48)=d48 at hb48 hlack
    have HDL:Hid _:=hd
    clear hdd hby2 hyc hpc hd
    cases d48
    · have hN:Hid (zy1 done P j=false):=by show _=_;rw [hlack];rfl
      clear hlack
      go_wp2_with fail
      go_roundw
      case rel=>exact ⟨j+1,by go_num,by omega,fun q hq=>by
       by_cases e:q=j
       · subst e;exact hN.out
       · exact HL.out q (by omega),HB.out⟩
      case measure=>simp [intOf];omega
    · by_cases c2:0 < y.ret
      · have c2':decide (0 < y.ret)=true:=by simpa using c2
        have hE2:Hid (RES=false):=by
         show _=_
         rw [HRES.out,z0d,Bool.not_eq_false',List.any_eq_true]
         exact ⟨j,by simpa using hin,by rw [hlack,c2'];rfl⟩
        clear hlack
        go_wp2_with fail
        go_ret
        exact ⟨by rw [hE2.out];rfl,HB.out⟩
      · have c2':decide (0 < y.ret)=false:=by simpa using c2
        have hN:Hid (zy1 done P j=false):=by show _=_;rw [hlack,c2'];rfl
        clear hlack c2
        go_wp2_with fail
        go_roundw
        case rel=>exact ⟨j+1,by go_num,by omega,fun q hq=>by
         by_cases e:q=j
         · subst e;exact hN.out
         · exact HL.out q (by omega),HB.out⟩
        case measure=>simp [intOf];omega
  · have hinP:¬ (j:Int) < (P.length:Int):=by omega
    have hE2:Hid (RES=true):=by
     show _=_
     rw [HRES.out,z0d,Bool.not_eq_true',List.any_eq_false]
     intro q hq
     rw [HL.out q (by have:=List.mem_range.1 hq;omega)];simp
    go_wp2_with fail
    go_ret
    exact ⟨by rw [hE2.out];rfl,HB.out⟩
theorem zhR (done:List UInt8) (w:World) (hl:done.length≤1000):
 Calls Tryz.prog 60 #[.string ⟨done.toArray⟩] w fun e w'=>e=.returned (.int .i64 ((done.count 49:Nat):Int))∧w'=w:=by
 go_enter Tryz.func60,Tryz.ntmps60
 go_wp2_with fail
 go_loop [3,4] (fun n i=>∃ (x j:Nat),n=.int .i64 (x:Int)∧i=.int .i64 (j:Int)∧j≤done.length∧x≤j∧Hid (x=(done.take j).count 49)) (fun _ i=>done.length - (intOf i).toNat)
 case atStart=>exact ⟨0,0,rfl,rfl,by omega,by omega,by exact rfl⟩
 case round=>
  obtain ⟨x,j,rfl,rfl,hj,hx,HX⟩:=hrel
  by_cases hin:j < done.length
  · have hin':(j:Int) < (done.length:Int):=by omega
    have hsz2:j < (⟨done.toArray⟩:ByteArray).size:=by show j < done.toArray.size;simpa using hin
    have hby2:(⟨done.toArray⟩:ByteArray)[j]'hsz2=done[j]:=by show done.toArray[j]'(by simpa using hin)=done[j];simp
    have hwj:IntKind.i64.wrap ((j:Int)+1)=(j:Int)+1:=by go_arith
    have hwx:IntKind.i64.wrap ((x:Int)+1)=(x:Int)+1:=by go_arith
    have ht:(done.take (j+1)).count 49=(done.take j).count 49+(if done[j]=49 then 1 else 0):=by
     rw [List.take_succ_eq_append_getElem hin,List.count_append,List.count_singleton]
     simp
    by_cases h:done[j]=49
    · have hb:((((⟨done.toArray⟩:ByteArray)[j]'hsz2).toNat:Int) == 49)=true:=by rw [hby2,h];decide
      rw [if_pos h] at ht
      have HT:Hid _:=ht
      clear hby2 ht
      go_wp2_with fail
      go_round
      case rel=>exact ⟨x+1,j+1,by go_num,by go_num,by omega,by omega,by show x+1=_;rw [HT.out,←HX.out]⟩
      case measure=>simp [intOf];omega
    · have hb:((((⟨done.toArray⟩:ByteArray)[j]'hsz2).toNat:Int) == 49)=false:=by
       rw [hby2]
       have:done[j].toNat≠49:=fun e=>h (UInt8.toNat_inj.1 e)
       simp;omega
      rw [if_neg h] at ht
      have HT:Hid _:=ht
      clear hby2 ht
      go_wp2_with fail
      go_round
      case rel=>exact ⟨x,j+1,by go_num,by go_num,by omega,by omega,by show x=_;rw [HT.out,←HX.out];rfl⟩
      case measure=>simp [intOf];omega
  · have hin':¬ (j:Int) < (done.length:Int):=by omega
    have hE:Hid (x=done.count 49):=by show _=_;rw [HX.out,List.take_of_length_le (by omega)]
    go_wp2_with fail
    go_ret
    exact ⟨by rw [←hE.out];rfl,rfl⟩
def isP (P:List OpV) (L:List Cf):Bool:=L.any (fun c=>z0d P c.1)
def mostP (L:List Cf):Nat:=L.foldl (fun n c=>max n (c.1.count 49)) 0
theorem zxN (P:List OpV) (L:List Cf) (c:Cf):isP P (L++[c])=(isP P L||z0d P c.1):=by simp [isP]
theorem z1Q (L:List Cf) (c:Cf):mostP (L++[c])=max (mostP L) (c.1.count 49):=by simp [mostP]
def vdAg (kn is:Bool) (most many:Nat):Value:=.agg #[.bool kn,.bool is,.int .i64 (most:Int),.int .i64 (many:Int)]
def zDK (m:List UInt8) (P:List OpV) (room:Nat) (w:World) (e:Ending) (w':World):Prop:=
 ∃ L kn,Cfs m P room L kn∧L.length≤room+2000∧e=.returned (vdAg kn (isP P L) (mostP L) L.length)∧Below w.heap.size w w'
theorem zWf {w:World} {base g cap:Nat} {L:List Cf} (h:w.ownsRow base 82 2 (.slice (some ⟨g,0,none⟩) L.length cap) L.length (zKT L)) {i:Nat} {c:Cf} (hi:L[i]?=some c):w.cell? ⟨g,i*2,none⟩=some (.string ⟨c.1.toArray⟩)∧w.cell? ⟨g,i*2+1,none⟩=some (.string ⟨c.2.toArray⟩):=by
 obtain ⟨h0,h1⟩:=zaw L i c hi
 have a:=h.cells (g:=g) rfl _ _ h0
 have b:=h.cells (g:=g) rfl _ _ h1
 rw [Addr.add_lit,Nat.zero_add] at a b
 exact ⟨a,b⟩
theorem vd4 {W:World} {b:Nat} {x0 x1 x2 x3:Value} (h:W.heap[b]?=some (.cells #[x0,x1,x2,x3] 48 (0,0))) (v0 v1 v2 v3:Value):
 ((((W.setCell ⟨b,0,none⟩ v0).setCell ⟨b,1,none⟩ v1).setCell ⟨b,2,none⟩ v2).setCell ⟨b,3,none⟩ v3).heap[b]?=some (.cells #[v0,v1,v2,v3] 48 (0,0))∧Kept [b] W ((((W.setCell ⟨b,0,none⟩ v0).setCell ⟨b,1,none⟩ v1).setCell ⟨b,2,none⟩ v2).setCell ⟨b,3,none⟩ v3):=by
 refine ⟨by rw [zFg (zFg (zFg (zFg h 0 _) 1 _) 2 _) 3 _];rfl,?_⟩
 exact ((((Kept.refl _ _).setCell (p:=⟨b,0,none⟩) (Or.inl (by simp)) _).setCell (p:=⟨b,1,none⟩) (Or.inl (by simp)) _).setCell (p:=⟨b,2,none⟩) (Or.inl (by simp)) _).setCell (p:=⟨b,3,none⟩) (Or.inl (by simp)) _
theorem zM5 (tm:Array Value) (W:World) (b:Nat) (v0 v1 v2 v3:Value) (h7:tm[8]?.getD undef=.pointer (some ⟨b,0,none⟩)) (hb:W.heap[b]?=some (.cells #[v0,v1,v2,v3] 48 (0,0))):
 (results Tryz.f34 tm).run Tryz.prog W=.ok (.agg #[v0,v1,v2,v3]) W:=by
 have c0:W.cell? ⟨b,0,none⟩=some v0:=by rw [zBk hb];rfl
 have c1:W.cell? ⟨b,1,none⟩=some v1:=by rw [zBk hb];rfl
 have c2:W.cell? ⟨b,2,none⟩=some v2:=by rw [zBk hb];rfl
 have c3:W.cell? ⟨b,3,none⟩=some v3:=by rw [zBk hb];rfl
 simp [results,Tryz.results34,go_sem,h7,c0,c1,c2,c3]
theorem znZ (m:List UInt8) (hm:five m) (oa pa:Option Addr) (oc pc:Nat) (ops P:List OpV) (part:List Nat) (room:Nat) (w:World) (ho:OAt w oa ops) (hp:IAt w pa part) (hP:zrE ops part P) (hl:P.length≤1000) (hol:ops.length≤1000) (hok:∀ o∈P,okO o) (hroom:room≤900000):
 Calls Tryz.prog 34 #[.string ⟨m.toArray⟩,.slice oa ops.length oc,.slice pa part.length pc,.int .i64 (room:Int)] w (zDK m P room w):=by
 have HPL:Hid _:=hP.1
 have hcf:=fun w ho hp=>zxq m hm oa pa oc pc ops P part room w ho hp hP hl hol hok hroom
 have hwh:=fun done w ho hp hd=>zu4 oa pa oc pc ops P part done w ho hp hP hd hl
 rw [hP.1] at hcf hwh ⊢
 obtain ⟨W0,hW0,hb0,hR0⟩:∃ W0,w.alloc (.cells #[.bool false,.bool false,.int .i64 0,.int .i64 0] 48)=W0∧Below w.heap.size w W0∧W0.heap[w.heap.size]?=some (.cells #[.bool false,.bool false,.int .i64 0,.int .i64 0] 48 (0,0)):=⟨_,rfl,(Below.refl _ _).alloc (Nat.le_refl _) _,ziF _ _ _ rfl⟩
 have hcf0:=hcf W0 (ho.below hb0) (hp.below hb0)
 have H0:Hid _:=(⟨hb0,hR0,ho,hp⟩:_∧_∧_∧_)
 clear hb0 hR0 ho hp hcf
 go_enter Tryz.func34,Tryz.ntmps34
 go_wp2_with fail
 refine hcf0.mono ?_
 rintro e w1 ⟨L,la,lc,kn,rfl,hLr,hb1,hLl,hC⟩
 have HC:Hid _:=hC
 obtain ⟨W2,hW2,hb2,hV2⟩:∃ W2,w1.alloc (.cells #[.bool kn,.bool false,.int .i64 0,.int .i64 (L.length:Int)] 48)=W2∧Below w1.heap.size w1 W2∧W2.heap[w1.heap.size]?=some (.cells #[.bool kn,.bool false,.int .i64 0,.int .i64 (L.length:Int)] 48 (0,0)):=⟨_,rfl,(Below.refl _ _).alloc (Nat.le_refl _) _,ziF _ _ _ rfl⟩
 have hL2:=zmP hLr (Kept.of_below (S:=[]) hb2) (by simp)
 have hb02:Below W0.heap.size W0 W2:=hb1.trans (hb2.mono hb1.size)
 have H2:Hid _:=(⟨hV2,hL2,hb02,hb1.size⟩:_∧_∧_∧_)
 clear hV2 hL2 hb02 hb1 hb2 hLr hC hcf0
 go_wp2_with fail
 go_loopw [12] (fun s12 wr=>∃ (i:Nat),s12=.int .i64 (i:Int)∧i≤L.length∧Hid (wr.heap[w1.heap.size]?=some (.cells #[.bool kn,.bool (isP P (L.take i)),.int .i64 (mostP (L.take i):Int),.int .i64 (L.length:Int)] 48 (0,0)))∧Hid (Kept [w1.heap.size] W2 wr)) (fun s12 _=>L.length - (intOf s12).toNat)
 case atStart=>exact ⟨0,rfl,by omega,H2.out.1,Kept.refl _ _⟩
 case round=>
  obtain ⟨i,rfl,hi,HV,HK⟩:=hrel
  have hz1:=H2.out.2.2.2
  have hz0:w.heap.size < W0.heap.size:=zBq H0.out.2.1
  have HBw:Hid (Below W0.heap.size W0 wr):=H2.out.2.2.1.trans (HK.out.below H2.out.2.2.1.size (by simp;exact hz1))
  have HBww:Hid (Below w.heap.size w wr):=H0.out.1.trans (HBw.out.mono H0.out.1.size)
  by_cases hin:i < L.length
  · have hin':(i:Int) < (L.length:Int):=by omega
    obtain ⟨c,hci⟩:∃ c,L[i]?=some c:=⟨_,List.getElem?_eq_getElem hin⟩
    have hokc:okC P c:=(HC.out.all c (List.mem_of_getElem? hci)).ok hok (z7m m P)
    obtain ⟨gl,rfl,hgl⟩:∃ g,la=some ⟨g,0,none⟩∧g≠w1.heap.size:=by
     rcases zzD H2.out.2.1 with ⟨_,e⟩ | ⟨g,cap,e,_⟩
     · omega
     · injection e with e
       refine ⟨g,e,fun e2=>?_⟩
       subst e2
       rcases H2.out.2.1.2 with ⟨e3,_⟩ | ⟨g',cap',cur,h1,_,hgb',_⟩
       · rw [e] at e3;cases e3
       · rw [e] at h1;injection h1 with h1;injection h1 with h1;injection h1 with h1
         subst h1
         rw [H2.out.1] at hgb'
         injection hgb' with hgb'
         injection hgb' with _ h3 _
         exact absurd h3 (by decide)
    have hLr:=zmP H2.out.2.1 HK.out (fun g hg=>by simp [Value.ownBlock] at hg;subst hg;simpa using hgl)
    obtain ⟨r0,r1⟩:=zWf hLr hci
    have hw:=hwh c.1 wr (H0.out.2.2.1.below HBww.out) (H0.out.2.2.2.below HBww.out) hokc.1
    have hcn:=fun w=>zhR c.1 w (hokc.few hl).1
    have hwi:IntKind.i64.wrap ((i:Int)+1)=(i:Int)+1:=by go_arith
    clear hLr
    go_wp2_with fail
    refine hw.mono ?_
    rintro e w3 ⟨rfl,hb3⟩
    have hV3:=(hb3.block _ (zBq HV.out)).trans HV.out
    have hK3:Kept [w1.heap.size] W2 w3:=HK.out.trans (Kept.of_below (S:=[w1.heap.size]) hb3)
    have ht:L.take (i+1)=L.take i++[c]:=by rw [List.take_add_one,hci];rfl
    have hsn1:=zxN P (L.take i) c
    have hsn2:=z1Q (L.take i) c
    rw [←ht] at hsn1 hsn2
    generalize isP P (L.take i)=b1 at*
    generalize mostP (L.take i)=mo at*
    generalize z0d P c.1=b2 at*
    have v1:w3.cell? ⟨w1.heap.size,1,none⟩=some (.bool b1):=zBk hV3 1
    have z1:w3.frozen? ⟨w1.heap.size,1,none⟩=false:=zBn hV3 1
    have H3:Hid _:=(⟨hV3,hK3⟩:_∧_)
    clear hw hV3 hK3 hb3 ht
    have H3':Hid _:=(⟨H3.out.1,H3.out.2,trivial⟩:_∧_∧True)
    clear H3
    have H3:=H3'
    clear H3'
    cases b1
    · have HN:Hid _:=And.intro hsn1 hsn2
      clear hsn1 hsn2
      obtain ⟨W4,hW4⟩:∃ W4,w3.setCell ⟨w1.heap.size,1,none⟩ (.bool b2)=W4:=⟨_,rfl⟩
      have hV4:W4.heap[w1.heap.size]?=some (.cells #[.bool kn,.bool b2,.int .i64 (mo:Int),.int .i64 (L.length:Int)] 48 (0,0)):=by rw [←hW4,zFg H3.out.1 1 _];rfl
      have hK4:Kept [w1.heap.size] W2 W4:=by rw [←hW4];exact H3.out.2.1.setCell (p:=⟨w1.heap.size,1,none⟩) (Or.inl (by simp)) _
      have hL4:=zmP H2.out.2.1 hK4 (fun g hg=>by simp [Value.ownBlock] at hg;subst hg;simpa using hgl)
      have r4:=(zWf hL4 hci).1
      have v2:W4.cell? ⟨w1.heap.size,2,none⟩=some (.int .i64 (mo:Int)):=zBk hV4 2
      have z2:W4.frozen? ⟨w1.heap.size,2,none⟩=false:=zBn hV4 2
      have H4:Hid _:=And.intro hV4 hK4
      clear hV4 hK4 hL4
      go_wp2_with fail
      go_region_law (first
       | (go_simp;go_at_call 60;refine (hcn _).mono ?_;rintro e w5 ⟨rfl,rfl⟩))
      all_goals
       go_wp2_with fail
       go_roundw
       case rel=>exact ⟨i+1,by go_num,by omega,by
        show _=_
        rw [HN.out.1,HN.out.2]
        show (W4.setCell ⟨w1.heap.size,2,none⟩ (.int .i64 (max (mo:Int) (c.1.count 49:Nat)))).heap[w1.heap.size]?=_
        rw [zFg H4.out.1 2 _]
        simp
        omega,(H4.out.2.setCell (p:=⟨w1.heap.size,2,none⟩) (Or.inl (by simp)) _).drew⟩
       case measure=>simp [intOf];omega
    · have HN:Hid _:=And.intro hsn1 hsn2
      clear hsn1 hsn2
      obtain ⟨W4,hW4⟩:∃ W4,w3.setCell ⟨w1.heap.size,1,none⟩ (.bool true)=W4:=⟨_,rfl⟩
      have hV4:W4.heap[w1.heap.size]?=some (.cells #[.bool kn,.bool true,.int .i64 (mo:Int),.int .i64 (L.length:Int)] 48 (0,0)):=by rw [←hW4,zFg H3.out.1 1 _];rfl
      have hK4:Kept [w1.heap.size] W2 W4:=by rw [←hW4];exact H3.out.2.1.setCell (p:=⟨w1.heap.size,1,none⟩) (Or.inl (by simp)) _
      have hL4:=zmP H2.out.2.1 hK4 (fun g hg=>by simp [Value.ownBlock] at hg;subst hg;simpa using hgl)
      have r4:=(zWf hL4 hci).1
      have v2:W4.cell? ⟨w1.heap.size,2,none⟩=some (.int .i64 (mo:Int)):=zBk hV4 2
      have z2:W4.frozen? ⟨w1.heap.size,2,none⟩=false:=zBn hV4 2
      have H4:Hid _:=And.intro hV4 hK4
      clear hV4 hK4 hL4
      go_wp2_with fail
      go_region_law (first
       | (go_simp;go_at_call 60;refine (hcn _).mono ?_;rintro e w5 ⟨rfl,rfl⟩))
      all_goals
       go_wp2_with fail
       go_roundw
       case rel=>exact ⟨i+1,by go_num,by omega,by
        show _=_
        rw [HN.out.1,HN.out.2]
        show (W4.setCell ⟨w1.heap.size,2,none⟩ (.int .i64 (max (mo:Int) (c.1.count 49:Nat)))).heap[w1.heap.size]?=_
        rw [zFg H4.out.1 2 _]
        simp
        omega,(H4.out.2.setCell (p:=⟨w1.heap.size,2,none⟩) (Or.inl (by simp)) _).drew⟩
       case measure=>simp [intOf];omega
  · obtain rfl:i=L.length:=by omega
    have hin':¬ (L.length:Int) < (L.length:Int):=by omega
    rw [List.take_length] at HV
    have r0:=H0.out.2.1
    have hR:=(HBw.out.block _ hz0).trans H0.out.2.1
    have r0:wr.cell? ⟨w.heap.size,0,none⟩=some (.bool false):=zBk hR 0
    have r1:wr.cell? ⟨w.heap.size,1,none⟩=some (.bool false):=zBk hR 1
    have r2:wr.cell? ⟨w.heap.size,2,none⟩=some (.int .i64 0):=zBk hR 2
    have r3:wr.cell? ⟨w.heap.size,3,none⟩=some (.int .i64 0):=zBk hR 3
    have z0:=zBn hR 0
    have z1:=zBn hR 1
    have z2:=zBn hR 2
    have z3:=zBn hR 3
    have v0:wr.cell? ⟨w1.heap.size,0,none⟩=some (.bool kn):=zBk HV.out 0
    have v1:wr.cell? ⟨w1.heap.size,1,none⟩=some (.bool (isP P L)):=zBk HV.out 1
    have v2:wr.cell? ⟨w1.heap.size,2,none⟩=some (.int .i64 (mostP L:Int)):=zBk HV.out 2
    have v3:wr.cell? ⟨w1.heap.size,3,none⟩=some (.int .i64 (L.length:Int)):=zBk HV.out 3
    have HR:Hid _:=hR
    clear hR
    go_wp2_with fail
    obtain ⟨f1,f2⟩:=vd4 HR.out (.bool kn) (.bool (isP P L)) (.int .i64 (mostP L:Int)) (.int .i64 (L.length:Int))
    exact bodyPost_ret (zM5 _ _ w.heap.size _ _ _ _ (by simp) f1) rfl ⟨L,kn,HC.out,hLl,rfl,HBww.out.trans (f2.below HBww.out.size (by simp))⟩
end Go.Proofs.YtbbkihekjdffpaaGreatDoor.jd
