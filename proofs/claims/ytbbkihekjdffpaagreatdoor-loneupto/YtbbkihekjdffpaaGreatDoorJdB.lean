/- Several texts in one. -/
import Derived.Test.YtbbkihekjdffpaaGreatDoorPureY
set_option maxHeartbeats 2000000
set_option maxRecDepth 100000
namespace Go.Proofs.YtbbkihekjdffpaaGreatDoor.jd
open Go.RowKit
theorem japp (a b:List UInt8):((⟨a.toArray⟩:ByteArray)++⟨b.toArray⟩)=⟨(a++b).toArray⟩:=by
 apply ByteArray.ext
 simp
theorem j64 {n:Int} (h0: -9223372036854775808≤n) (h1:n≤9223372036854775807):IntKind.i64.wrap n=n:=by rw [IntKind.wrap_i64];omega
def dg1 (z:Nat):List UInt8:=[UInt8.ofNat (48+z)]
theorem zgG (U:World) (b:Nat) (z:Nat) (h:U.cell? ⟨b,0,none⟩=some (.int .u8 (48+(z:Int)))):
 (convert 130 9 (.slice (some ⟨b,0,none⟩) 1 1)).run Tryz.prog U=.ok (.string ⟨(dg1 z).toArray⟩) U:=by
 have hcv:=run_convert_bytes_arg (P:=Tryz.prog) U 130 5 Tryz.underlying130 Tryz.underlying5 b 0 1 1 [((48+z:Nat):Int)] rfl (fun i hi=>by
  obtain rfl:i=0:=by omega
  exact h) 9 Tryz.underlying9
 rw [hcv]
 have:strOfNums [((48+z:Nat):Int)]=⟨(dg1 z).toArray⟩:=rfl
 rw [this]
theorem zuK (U:World) (z:Nat):
 (convert 130 9 (.slice (some ⟨U.heap.size,0,none⟩) 1 1)).run Tryz.prog (U.alloc (.cells #[.int .u8 (48+(z:Int))] 5))=.ok (.string ⟨(dg1 z).toArray⟩) (U.alloc (.cells #[.int .u8 (48+(z:Int))] 5)):=
 zgG _ _ z (by rw [zBk (ziF U _ _ rfl)];rfl)
theorem z8n (m:Nat) (h:m≤9223372036854775808):(Lib.decDigits m).length≤19:=by
 have key:∀ k m,m < 10 ^ (k+1)→(Lib.decDigits m).length≤k+1:=by
  intro k
  induction k with
  | zero=>intro m hm;rw [Lib.decDigits,dif_pos (by omega)];simp
  | succ k ih=>
    intro m hm
    rw [Lib.decDigits]
    split
    · simp
    · have:=ih (m / 10) (by rw [Nat.div_lt_iff_lt_mul (by omega)];rw [Nat.pow_succ] at hm;exact hm)
      simp;omega
 exact key 18 m (by omega)
theorem ziD (m:Nat):∀ (w:World),m≤9223372036854775808→
 Calls Tryz.prog 31 #[.int .i64 (-(m:Int))] w fun e w'=>e=.returned (.string ⟨(Lib.decDigits m).toArray⟩)∧Below w.heap.size w w':=by
 induction m using Nat.strongRecOn with
 | ind m ih=>
   intro w hm
   have hmod:Int.tmod (-(m:Int)) 10= -((m % 10:Nat):Int):=by rw [Int.neg_tmod,Int.tmod_eq_emod_of_nonneg (by omega)];omega
   have hr10:m % 10 < 10:=Nat.mod_lt _ (by omega)
   by_cases h:m < 10
   · have h': -10 < -(m:Int):=by omega
     have hd:Hid (Lib.decDigits m=dg1 m):=by rw [Lib.decDigits,dif_pos h];exact rfl
     have hmm:m % 10=m:=Nat.mod_eq_of_lt h
     rw [hmm] at hmod hr10
     have hw2:IntKind.i64.wrap (48+(m:Int))=48+(m:Int):=j64 (by omega) (by omega)
     have hw3:IntKind.u8.wrap (48+(m:Int))=48+(m:Int):=by rw [IntKind.wrap_u8];omega
     have hcv:=zuK w m
     clear ih hmm
     go_enter Tryz.func31,Tryz.ntmps31
     go_wp2
     go_ret
     exact ⟨by rw [hd.out];rfl,(Below.refl _ _).alloc (Nat.le_refl _) _⟩
   · have h':¬ -10 < -(m:Int):=by omega
     have hd:Hid (Lib.decDigits m=Lib.decDigits (m / 10)++dg1 (m % 10)):=by rw [Lib.decDigits,dif_neg h];exact rfl
     have hl:=z8n (m / 10) (by omega)
     have hih:=fun w=>ih (m / 10) (by omega) w (by omega)
     have hq:Int.tdiv (-(m:Int)) 10= -((m / 10:Nat):Int):=by rw [Int.neg_tdiv,Int.tdiv_eq_ediv_of_nonneg (by omega)];omega
     have hqm:m / 10≤922337203685477580:=by omega
     clear ih
     generalize m % 10=r at*
     generalize Lib.decDigits (m / 10)=dl at*
     generalize m / 10=q at*
     have hdl:(dg1 r).length=1:=rfl
     have hw1:IntKind.i64.wrap (-(q:Int))= -(q:Int):=j64 (by omega) (by omega)
     have hw2:IntKind.i64.wrap (48+(r:Int))=48+(r:Int):=j64 (by omega) (by omega)
     have hw3:IntKind.u8.wrap (48+(r:Int))=48+(r:Int):=by rw [IntKind.wrap_u8];omega
     have hcv:=zuK w r
     go_enter Tryz.func31,Tryz.ntmps31
     go_wp2_with fail
     refine (hih _).mono ?_
     rintro e w1 ⟨rfl,hb⟩
     go_wp2
     go_ret
     exact ⟨by rw [hd.out,←japp];rfl,((Below.refl _ _).alloc (Nat.le_refl _) _).trans (hb.mono (by simp))⟩
theorem zCU (n:Int) (h0: -9223372036854775808≤n) (h1:n≤9223372036854775807):(Lib.itoa n).length≤20:=by
 unfold Lib.itoa
 split
 · have:=z8n n.natAbs (by omega);simp;omega
 · have:=z8n n.toNat (by omega);omega
theorem zM7 (n:Int) (w:World) (h0: -9223372036854775808≤n) (h1:n≤9223372036854775807):
 Calls Tryz.prog 11 #[.int .i64 n] w fun e w'=>e=.returned (.string ⟨(Lib.itoa n).toArray⟩)∧Below w.heap.size w w':=by
 by_cases h:n < 0
 · have hd:Hid (Lib.itoa n=[45]++Lib.decDigits n.natAbs):=by unfold Lib.itoa;rw [if_pos h];exact rfl
   have hl:=z8n n.natAbs (by omega)
   have hb:=fun w=>ziD n.natAbs w (by omega)
   rw [show -((n.natAbs:Nat):Int)=n by omega] at hb
   generalize Lib.decDigits n.natAbs=dl at*
   go_enter Tryz.func11,Tryz.ntmps11
   go_wp2_with fail
   refine (hb _).mono ?_
   rintro e w1 ⟨rfl,hb1⟩
   go_wp2
   go_ret
   exact ⟨by rw [hd.out,←japp];rfl,hb1⟩
 · have hd:Hid (Lib.itoa n=Lib.decDigits n.toNat):=by unfold Lib.itoa;rw [if_neg h];exact rfl
   have hb:=fun w=>ziD n.toNat w (by omega)
   rw [show -((n.toNat:Nat):Int)= -n by omega] at hb
   have hw:IntKind.i64.wrap (-n)= -n:=j64 (by omega) (by omega)
   generalize Lib.decDigits n.toNat=dl at*
   go_enter Tryz.func11,Tryz.ntmps11
   go_wp2_with fail
   refine (hb _).mono ?_
   rintro e w1 ⟨rfl,hb1⟩
   go_wp2
   go_ret
   exact ⟨by rw [hd.out];rfl,hb1⟩
def z7y (s:List UInt8):Int×Bool:=((zyu (nats s)).1,(zyu (nats s)).2&&decide (s=Lib.itoa (zyu (nats s)).1))
theorem zEn (l:List Nat):∀ (n x:Int),zlt n l=some x→ -9223372036854775808≤n→n≤0→ -9223372036854775808≤x∧x≤0:=by
 induction l with
 | nil=>intro n x h h0 h1;simp only [zlt] at h;injection h with h;omega
 | cons c t ih=>
   intro n x h h0 h1
   simp only [zlt] at h
   split at h
   · cases h
   · split at h
     · cases h
     · rename_i hc hd
       refine ih _ _ h ?_ (by omega)
       have e:(-9223372036854775808+((c:Int) - 48)).tdiv 10= -((9223372036854775808 - ((c:Int) - 48)) / 10):=by
        rw [show -9223372036854775808+((c:Int) - 48)= -(9223372036854775808 - ((c:Int) - 48)) by omega,Int.neg_tdiv,Int.tdiv_eq_ediv_of_nonneg (by omega)]
       rw [e] at hd
       omega
theorem zaH (b:Bool) (l:List Nat): -9223372036854775808≤(z8T b l).1∧(z8T b l).1≤9223372036854775807:=by
 unfold z8T
 split
 · exact ⟨by decide,by decide⟩
 · split
   · exact ⟨by decide,by decide⟩
   · rename_i n hn
     have:=zEn l 0 n hn (by decide) (by decide)
     split
     · exact ⟨this.1,by show n≤_;omega⟩
     · dsimp only
       split <;> omega
theorem zMZc (l:List Nat): -9223372036854775808≤(zyu l).1∧(zyu l).1≤9223372036854775807:=by
 unfold zyu
 split <;> exact zaH _ _
theorem zku (s:List UInt8) (w:World) (hs:s.length≤9000000):
 Calls Tryz.prog 62 #[.string ⟨s.toArray⟩] w fun e w'=>e=.returned (.tuple #[.int .i64 (z7y s).1,.bool (z7y s).2])∧Below w.heap.size w w':=by
 have hW:=whole_any ⟨s.toArray⟩ w (by show s.toArray.size≤_;simpa using hs)
 have hr:=zMZc (nats s)
 rw [show lets (⟨s.toArray⟩:ByteArray)=nats s from rfl] at hW
 have hE:Hid (z7y s=((zyu (nats s)).1,(zyu (nats s)).2&&decide (s=Lib.itoa (zyu (nats s)).1))):=rfl
 rw [hE.out]
 generalize zyu (nats s)=q at*
 have hD:=fun w=>zM7 q.1 w hr.1 hr.2
 generalize Lib.itoa q.1=z at*
 clear hE hs
 go_enter Tryz.func62,Tryz.ntmps62
 go_wp2_with fail
 refine hW.mono ?_
 rintro e w1 ⟨rfl,rfl⟩
 go_wp2_with fail
 refine (hD _).mono ?_
 rintro e w2 ⟨rfl,hb⟩
 clear hD hW
 by_cases hz:s=z
 · subst hz
   cases hq:q.2
   all_goals
    go_wp2_with fail
    go_ret2
    exact ⟨by simp,hb⟩
 · have hz':(s == z)=false:=by simpa using hz
   cases hq:q.2
   all_goals
    go_wp2_with fail
    go_ret2
    exact ⟨by simp [hz],hb⟩
end Go.Proofs.YtbbkihekjdffpaaGreatDoor.jd
namespace Go.Proofs.YtbbkihekjdffpaaGreatDoor.jd
open Go.RowKit
open srch (vAg opAg tI)
theorem zqh {B:Nat} {a w:World} (h:Below B a w) (n:Nat):Below B a (w.drewN n):=⟨h.os,h.tape,h.output,h.size,h.block⟩
def zN3:List UInt8→List UInt8×List UInt8
 | []=>([],[])
 | c::t=>if c=44 then ([],t) else (c::(zN3 t).1,(zN3 t).2)
theorem znE (s:List UInt8) (i:Nat) (h:∀ c∈s.take i,c≠44) (hi:s[i]?=some 44):zN3 s=(s.take i,s.drop (i+1)):=by
 induction s generalizing i with
 | nil=>simp at hi
 | cons c t ih=>
   cases i with
   | zero=>simp at hi;subst hi;simp [zN3]
   | succ i=>
     have h1:c≠44:=h c (by simp)
     rw [zN3,if_neg h1,ih i (fun x hx=>h x (by simp [hx])) (by simpa using hi)]
     simp
theorem zPM (s:List UInt8) (h:∀ c∈s,c≠44):zN3 s=(s,[]):=by
 induction s with
 | nil=>rfl
 | cons c t ih=>rw [zN3,if_neg (h c (by simp)),ih (fun x hx=>h x (by simp [hx]))]
theorem zGM (s:List UInt8):(zN3 s).1.length≤s.length∧(zN3 s).2.length≤s.length:=by
 induction s with
 | nil=>simp [zN3]
 | cons c t ih=>rw [zN3];split <;> simp <;> omega
theorem zS3 (l:List UInt8) (w:World) (hl:l.length≤9000000):
 Calls Tryz.prog 61 #[.string ⟨l.toArray⟩] w fun e w'=>e=.returned (.tuple #[.string ⟨(zN3 l).1.toArray⟩,.string ⟨(zN3 l).2.toArray⟩])∧Below w.heap.size w w':=by
 obtain ⟨RES,hRES⟩:∃ RES,RES=zN3 l:=⟨_,rfl⟩
 rw [←hRES]
 have HRES:Hid _:=hRES
 clear hRES
 go_enter Tryz.func61,Tryz.ntmps61
 go_wp2_with fail
 go_loop [4] (fun i=>∃ (j:Nat),i=.int .i64 (j:Int)∧j≤l.length∧Hid (∀ c∈l.take j,c≠44)) (fun i=>l.length - (intOf i).toNat)
 case atStart=>exact ⟨0,rfl,by omega,by intro c hc;simp at hc⟩
 case round=>
  obtain ⟨j,rfl,hj,hnl⟩:=hrel
  by_cases hin:j < l.length
  · have hin':(j:Int) < (l.length:Int):=by omega
    have hsz1:j < (⟨l.toArray⟩:ByteArray).size:=by show j < l.toArray.size;simpa using hin
    have hby:(⟨l.toArray⟩:ByteArray)[j]'hsz1=l[j]:=by show l.toArray[j]'(by simpa using hin)=l[j];simp
    have hwj:IntKind.i64.wrap ((j:Int)+1)=(j:Int)+1:=by go_arith
    have hj1:(j:Int)+1≤(l.length:Int):=by omega
    by_cases hc:l[j]=44
    · have hW:Hid (RES=(l.take j,l.drop (j+1))):=by show _=_;rw [HRES.out];exact znE l j hnl.out (by rw [List.getElem?_eq_getElem hin,hc])
      have hex:(⟨l.toArray⟩:ByteArray).extract 0 j=⟨(l.take j).toArray⟩:=by
       rw [Lib.extract_eq];simp
      have hex2:(⟨l.toArray⟩:ByteArray).extract (j+1) l.length=⟨(l.drop (j+1)).toArray⟩:=by
       rw [Lib.extract_eq]
       show (⟨(List.take (l.length - (j+1)) (List.drop (j+1) l)).toArray⟩:ByteArray)=_
       rw [List.take_of_length_le (by simp)]
      have hc':(((((⟨l.toArray⟩:ByteArray)[j]'hsz1).toNat:Int) == 44))=true:=by rw [hby,hc];decide
      clear hby hc
      go_wp2_with fail
      go_quiet (fail)
      go_wp2_with fail
      go_ret2
      exact ⟨by rw [hW.out];rfl,zqh (Below.refl _ _) _⟩
    · have hc':(((((⟨l.toArray⟩:ByteArray)[j]'hsz1).toNat:Int) == 44))=false:=by
       rw [hby]
       have:l[j].toNat≠44:=fun e=>hc (UInt8.toNat_inj.1 e)
       simp;omega
      have hN:Hid (∀ c∈l.take (j+1),c≠44):=by
       intro c hcm
       rw [List.take_succ_eq_append_getElem hin] at hcm
       rcases List.mem_append.1 hcm with hcm | hcm
       · exact hnl.out c hcm
       · rw [List.mem_singleton] at hcm;subst hcm;exact hc
      clear hby hc
      go_wp2_with fail
      go_round
      case rel=>exact ⟨j+1,by go_num,by omega,hN⟩
      case measure=>simp [intOf];omega
  · have hin':¬ (j:Int) < (l.length:Int):=by omega
    have hW:Hid (RES=(l,[])):=by
     show _=_
     rw [HRES.out]
     have h:=hnl.out
     rw [List.take_of_length_le (by omega)] at h
     exact zPM l h
    go_wp2_with fail
    go_ret2
    exact ⟨by rw [hW.out];rfl,Below.refl _ _⟩
theorem z0b (tm:Array Value) (W:World) (b:Nat) (v0 v1:Value) (hb:W.heap[b]?=some (.cells #[v0,v1] 72 (0,0))):
 (tm[2]?.getD undef=.pointer (some ⟨b,0,none⟩)→(results Tryz.f138 tm).run Tryz.prog W=.ok (.agg #[v0,v1]) W∧(results Tryz.f136 tm).run Tryz.prog W=.ok (.agg #[v0,v1]) W)∧(tm[0]?.getD undef=.pointer (some ⟨b,0,none⟩)→(results Tryz.f137 tm).run Tryz.prog W=.ok (.agg #[v0,v1]) W):=by
 have c0:W.cell? ⟨b,0,none⟩=some v0:=by rw [zBk hb];rfl
 have c1:W.cell? ⟨b,1,none⟩=some v1:=by rw [zBk hb];rfl
 refine ⟨fun h=>⟨?_,?_⟩,fun h=>?_⟩
 · simp [results,Tryz.results138,go_sem,h,c0,c1]
 · simp [results,Tryz.results136,go_sem,h,c0,c1]
 · simp [results,Tryz.results137,go_sem,h,c0,c1]
theorem zrhV (b:Bool) (w:World):
 Calls Tryz.prog 138 #[.bool b] w fun e w'=>e=.returned (vAg 2 (tI b))∧Below w.heap.size w w':=by
 unfold vAg tI
 cases b
 all_goals
  go_enter Tryz.func138,Tryz.ntmps138
  go_wp2
  refine bodyPost_ret ((z0b _ _ w.heap.size _ _ (ziF _ _ _ rfl)).1 (by simp)).1 rfl ⟨rfl,(Below.refl _ _).alloc (Nat.le_refl _) _⟩
theorem zPG (w:World):
 Calls Tryz.prog 137 #[] w fun e w'=>e=.returned (vAg 0 0)∧Below w.heap.size w w':=by
 unfold vAg
 go_enter Tryz.func137,Tryz.ntmps137
 go_wp2
 refine bodyPost_ret ((z0b _ _ w.heap.size _ _ (ziF _ _ _ rfl)).2 (by simp)) rfl ⟨rfl,(Below.refl _ _).alloc (Nat.le_refl _) _⟩
def numV (s:List UInt8):Int×Int:=if (z7y s).2=true then (1,(z7y s).1) else (0,0)
theorem z4Y (s:List UInt8) (w:World) (hs:s.length≤9000000):
 Calls Tryz.prog 136 #[.string ⟨s.toArray⟩] w fun e w'=>e=.returned (vAg (numV s).1 (numV s).2)∧Below w.heap.size w w':=by
 obtain ⟨W0,hW0,hb0,hB0⟩:∃ W0,w.alloc (.cells #[.int .i64 0,.int .i64 0] 72)=W0∧Below w.heap.size w W0∧W0.heap[w.heap.size]?=some (.cells #[.int .i64 0,.int .i64 0] 72 (0,0)):=⟨_,rfl,(Below.refl _ _).alloc (Nat.le_refl _) _,ziF _ _ _ rfl⟩
 have hX:=zku s W0 hs
 have hN:=zPG
 have hV:Hid (numV s=if (z7y s).2=true then (1,(z7y s).1) else (0,0)):=rfl
 rw [hV.out]
 generalize z7y s=q at*
 have hfin:∀ (W W':World) (x y v0 v1:Value),Below w.heap.size w W→W.heap[w.heap.size]?=some (.cells #[x,y] 72 (0,0))→W'=(W.setCell ⟨w.heap.size,0,none⟩ v0).setCell ⟨w.heap.size,1,none⟩ v1→Below w.heap.size w W'∧W'.heap[w.heap.size]?=some (.cells #[v0,v1] 72 (0,0)):=by
  intro W W' x y v0 v1 h1 h2 h3
  subst h3
  exact ⟨(h1.setCell (p:=⟨w.heap.size,0,none⟩) (Nat.le_refl _) _).setCell (p:=⟨w.heap.size,1,none⟩) (Nat.le_refl _) _,srch.vset h2 _ _⟩
 have HF:=srch.Hid.mk' hfin
 have H0:=srch.Hid.mk' (And.intro hb0 hB0)
 unfold vAg at*
 clear hV hfin hb0 hB0
 go_enter Tryz.func136,Tryz.ntmps136
 cases hq:q.2
 · rw [hq] at hX
   go_wp2_with fail
   refine hX.mono ?_
   rintro e w1 ⟨rfl,hb1⟩
   have H1:=srch.Hid.mk' hb1
   clear hb1
   go_wp2_with fail
   refine (hN _).mono ?_
   rintro e w2 ⟨rfl,hb2⟩
   have hB2:=((H1.out.trans (hb2.mono H1.out.size)).block _ (zBq H0.out.2)).trans H0.out.2
   have hb02:=H0.out.1.trans ((H1.out.trans (hb2.mono H1.out.size)).mono H0.out.1.size)
   have e0:w2.cell? ⟨w.heap.size,0,none⟩=some (.int .i64 0):=zBk hB2 0
   have e1:w2.cell? ⟨w.heap.size,1,none⟩=some (.int .i64 0):=zBk hB2 1
   have z0:=zBn hB2 0
   have z1:=zBn hB2 1
   have H2:=srch.Hid.mk' (And.intro hb02 hB2)
   clear hB2 hb02 hb2 hN hX
   go_wp2_with fail
   obtain ⟨f1,f2⟩:=HF.out _ _ _ _ _ _ H2.out.1 H2.out.2 rfl
   exact bodyPost_ret ((z0b _ _ w.heap.size _ _ f2).1 (by simp)).2 rfl ⟨rfl,f1⟩
 · rw [hq] at hX
   go_wp2_with fail
   refine hX.mono ?_
   rintro e w1 ⟨rfl,hb1⟩
   have hB2:=(hb1.block _ (zBq H0.out.2)).trans H0.out.2
   have hb02:=H0.out.1.trans (hb1.mono H0.out.1.size)
   have e0:w1.cell? ⟨w.heap.size,0,none⟩=some (.int .i64 0):=zBk hB2 0
   have e1:w1.cell? ⟨w.heap.size,1,none⟩=some (.int .i64 0):=zBk hB2 1
   have z0:=zBn hB2 0
   have z1:=zBn hB2 1
   have H2:=srch.Hid.mk' (And.intro hb02 hB2)
   clear hB2 hb02 hb1 hN hX
   go_wp2_with fail
   obtain ⟨f1,f2⟩:=HF.out _ _ _ _ _ _ H2.out.1 H2.out.2 rfl
   exact bodyPost_ret ((z0b _ _ w.heap.size _ _ f2).1 (by simp)).2 rfl ⟨rfl,f1⟩
end Go.Proofs.YtbbkihekjdffpaaGreatDoor.jd
