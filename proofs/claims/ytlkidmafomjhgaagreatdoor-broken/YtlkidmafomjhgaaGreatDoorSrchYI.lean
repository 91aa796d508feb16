/- Several texts in one. -/
import Derived.Test.YtlkidmafomjhgaaGreatDoorSrchY
set_option maxHeartbeats 4000000
set_option maxRecDepth 1000000
namespace Go.Proofs.YtlkidmafomjhgaaGreatDoor.srch
open Go.RowKit Go.Maps
theorem zkG (l:List (Stp Int)) (i:Nat) (h:i < l.length):∀ c,c < 4→(l.flatMap (stpC csI))[i*4+c]?=(stpC csI l[i])[c]?:=by
 induction l generalizing i with
 | nil=>simp at h
 | cons x t ih=>
   intro c hc
   have hx:(stpC csI x).length=4:=rfl
   rw [List.flatMap_cons]
   cases i with
   | zero=>rw [List.getElem?_append_left (by omega)];simp
   | succ i=>
     rw [List.getElem?_append_right (by omega),show (i+1)*4+c - (stpC csI x).length=i*4+c by omega]
     exact ih i (by simpa using h) c hc
theorem zvR {W:World} {base:Nat} {wa:Option Addr} {c:Nat} {l:List (Stp Int)} (h:W.ownsRow base 165 4 (.slice wa l.length c) l.length (l.flatMap (stpC csI))):WAt 4 scI W wa l:=by
 intro hne
 obtain ⟨h1,⟨h2,h3⟩ | ⟨g,cap,cur,h2,hg,hb,_,_,_,h4⟩⟩:=h
 · exact absurd (List.eq_nil_of_length_eq_zero h3) hne
 · injection h2 with h2
   subst h2
   refine ⟨g,rfl,zCqB hb,fun j hj i u hi hu=>?_⟩
   have e:=zkG l j hj i hi
   rw [←h4,List.getElem?_take_of_lt (by omega)] at e
   rw [zBk hb,←Array.getElem?_toList,e]
   exact hu
theorem forthI_any (w:World) (part:List OpV) (pa:Option Addr) (pc:Nat) (r:Out) (hl:part.length≤128) (hdo:∀ s o,o∈ordO part→wfI s→wfI (zCI s o).1) (N n:Nat) (a:Act) (W:World) (hN:n≤N) (hJ:PJI w part pa pc r 0 n a W):
 ∃ tail,findLabel zg4 0=some (.seq .skip tail)∧tail.wp Tryz.prog (zLM (fun l a' w'=>∃ n',n' < N∧PJI w part pa pc r l n' a' w') (QI w r)) a W:=by
 obtain ⟨b,m,b9,bm,b11,ga,oa,wa,la,oc,yc,lc,⟨hP,hS,hb,_⟩,u,rfl⟩:=hJ
 refine ⟨_,rfl,?_⟩
 have hlen:=zZVs part
 have P1:Hid _:=hP
 have S1:Hid (srun zCI (ordO part) n b true m=some r):=hS
 have LH:Hid _:=hlen
 have BK:Hid _:=fun n' (hn:n'≤N) a' W'=>backI_any w part pa pc r hl hdo N n' a' W' hn
 clear hP hS hlen hdo
 obtain ⟨g,rfl⟩:∃ g,n=g+1:=by
  cases n with
  | zero=>exact absurd S1.out (by simp [srun])
  | succ g=>exact ⟨g,rfl⟩
 generalize hJK:(fun (l:Nat) (a':Act) (w':World)=>∃ n',n' < N∧PJI w part pa pc r l n' a' w')=JK at BK ⊢
 have JH:Hid _:=hJK
 clear hJK
 generalize hQK:QI w r=QK at BK ⊢
 have QH:Hid _:=hQK
 clear hQK
 obtain ⟨x6,y6,z6,hB6⟩:=P1.out.res
 have hB9:=P1.out.must
 have hB11:=P1.out.here
 have g0:W.cell? ⟨b11,0,none⟩=some (.int .u64 m.here.1.1):=zBk hB11 0
 have g1:W.cell? ⟨b11,1,none⟩=some (.int .u64 m.here.1.2):=zBk hB11 1
 obtain ⟨M,hM⟩:∃ M,M=retG (ordO part) 0 (0,0):=⟨_,rfl⟩
 rw [←hM] at hB9
 have q0:W.cell? ⟨b9,0,none⟩=some (.int .u64 M.1):=zBk hB9 0
 have q1:W.cell? ⟨b9,1,none⟩=some (.int .u64 M.2):=zBk hB9 1
 have HM:Hid _:=hM
 have hwit:=fun W=>zlR M m.here.1 W
 unfold grAg at hwit
 have hmw:m.way.length≤1000000:=by have h:m.way.length+b.toNat≤1000000:=P1.out.wf.2.2.2.1;omega
 have hlt6:=zCqB hB6
 have htk:=fun W' (hb':Below W.heap.size W W')=>zsi oa wa oc yc (ordO part) m.way W' (P1.out.on hb').row.1 (zvR (P1.out.on hb').way) (by omega) (fun s hs=>((P1.out.on hb').wf.2.2.2.2 s hs).2.2)
 rw [LH.out] at htk
 have TK:=Hid.mk' htk
 clear htk hM hB9 hB11
 cases hA:zJn M m.here.1 with
 | true=>
   have hr:Hid (r=⟨1,takenL (ordO part) m.way,b⟩):=by
    have h:=S1.out
    unfold srun at h
    rw [←HM.out,if_pos hA] at h
    injection h with h
    exact h.symm
   simp only [hA] at hwit
   clear S1 hA
   go_wp2_with (go_at_call 82;refine (hwit _).mono ?_;rintro e w2 ⟨rfl,hb2⟩;have ht2:=TK.out w2 hb2;have hB62:w2.heap[w.heap.size+1]?=_:=(hb2.block _ hlt6).trans hB6;have HB2:=Hid.mk' hb2)
   refine ht2.mono ?_
   rintro e w3 ⟨a,c,rfl,hown,hb3⟩
   have hlt62:=zCqB hB62
   have hB63:w3.heap[w.heap.size+1]?=some (.cells #[x6,y6,z6] 117 (0,0)):=(hb3.block _ hlt62).trans hB62
   have c60:w3.cell? ⟨w.heap.size+1,0,none⟩=some x6:=zBk hB63 0
   have c61:w3.cell? ⟨w.heap.size+1,1,none⟩=some y6:=zBk hB63 1
   have c62:w3.cell? ⟨w.heap.size+1,2,none⟩=some z6:=zBk hB63 2
   have f60:=zBn hB63 0
   have f61:=zBn hB63 1
   have f62:=zBn hB63 2
   have hlT:=zTx (ordO part) m.way (fun s hs=>(P1.out.wf.2.2.2.2 s hs).2.2)
   rw [←hlT] at hown
   have hO:=z6a hown
   have hnn:∀ g',a=some ⟨g',0,none⟩→takenL (ordO part) m.way≠[]→g'≠w.heap.size+1:=fun g' e1 _ e2=>by
    have h:=(hown.lt g' (by rw [e1];rfl)).1
    omega
   have hgg:∀ g',a=some ⟨g',0,none⟩→w.heap.size≤g':=fun g' e1=>by
    have h:=(hown.lt g' (by rw [e1];rfl)).1
    omega
   have HGG:=Hid.mk' hgg
   have hbl:Below w.heap.size w w3:=(P1.out.on HB2.out).below.trans (hb3.mono ((P1.out.on HB2.out).below.size))
   have HX:=Hid.mk' (And.intro hO (And.intro hbl (And.intro hB63 hlT)))
   clear hO hbl hown hb3 hB62 hlT hB63 hgg
   go_wp2
   rw [zcM,←QH.out]
   unfold QI
   have ho:=out3 (Nat.le_succ _) HX.out.2.1 a (takenL (ordO part) m.way) HX.out.1 hnn (.int .i64 1) (.slice a m.way.length c) (.int .i64 b)
   refine bodyPost_ret (z8S _ _ (w.heap.size+1) _ _ _ (by simp) (set3 HX.out.2.2.1 _ _ _)) rfl ?_
   exact ⟨a,c,by rw [hr.out,HX.out.2.2.2];rfl,by rw [hr.out];exact ho.1,ho.2,(fun g' e1 _=>HGG.out g' e1)⟩
 | false=>
   have hr:Hid (srun zCI (ordO part) g b false ⟨m.here,m.way,if m.longest.length < m.way.length then takenL (ordO part) m.way else m.longest,0,m.seen⟩=some r):=by
    have h:=S1.out
    unfold srun at h
    rw [←HM.out,if_neg (by rw [hA];simp)] at h
    exact h
   simp only [hA] at hwit
   clear S1 hA
   have hll:m.longest.length≤9223372036854775807:=by
    obtain ⟨_,⟨_,h2⟩ | ⟨_,_,_,_,_,_,h2,h3,_⟩⟩:=P1.out.lng
    · omega
    · unfold maxLen at h3;omega
   by_cases hgt:m.longest.length < m.way.length
   · have hgz:(m.longest.length:Int) < (m.way.length:Int):=by omega
     go_wp2_with (go_at_call 82;refine (hwit _).mono ?_;rintro e w2 ⟨rfl,hb2⟩;have ht2:=TK.out w2 hb2;have HB2:=Hid.mk' hb2;clear hb2)
     refine ht2.mono ?_
     rintro e w3 ⟨a,c,rfl,hown,hb3⟩
     have HX:=Hid.mk' (And.intro hown hb3)
     clear hown hb3
     go_wp2
     go_step3
     go_step
     go_step
     have hlT:=zTx (ordO part) m.way (fun s hs=>(P1.out.wf.2.2.2.2 s hs).2.2)
     have hown:=HX.out.1
     rw [←hlT] at hown
     have h:=hr.out
     rw [if_pos hgt] at h
     refine z7c (BK.out g (by omega) _ _ ?_) rfl
     exact ⟨b,(⟨m.here,m.way,takenL (ordO part) m.way,0,m.seen⟩:Mch Int),b9,bm,b11,ga,oa,wa,a,oc,yc,c,⟨((P1.out.on HB2.out).long HX.out.2 _ a c hown).at_ b (Int.le_refl _) 0 (Nat.zero_le _),h,hb,Nat.le_refl _⟩,exU _ _ (by rw [hlT];rfl)⟩
   · have hgz:¬ (m.longest.length:Int) < (m.way.length:Int):=by omega
     go_wp2_with (go_at_call 82;refine (hwit _).mono ?_;rintro e w2 ⟨rfl,hb2⟩;have HB2:=Hid.mk' hb2;clear hb2)
     go_step3
     go_step
     go_step
     have h:=hr.out
     rw [if_neg hgt] at h
     refine z7c (BK.out g (by omega) _ _ ?_) rfl
     exact ⟨b,(⟨m.here,m.way,m.longest,0,m.seen⟩:Mch Int),b9,bm,b11,ga,oa,wa,la,oc,yc,lc,⟨(P1.out.on HB2.out).at_ b (Int.le_refl _) 0 (Nat.zero_le _),h,hb,Nat.le_refl _⟩,exU _ _ rfl⟩
theorem zOx (pa:Option Addr) (pc:Nat) (part:List OpV) (b:Int) (w:World) (hr:OAt w pa part) (hl:part.length≤128) (hb: -9223372036854775808≤b∧b≤1000000) (hdo:∀ s o,o∈ordO part→wfI s→wfI (zCI s o).1)
 (r:Out) (f0:Nat) (hf0:srun zCI (ordO part) f0 b true ⟨((0,0),0),[],[],0,[]⟩=some r):
 Calls Tryz.prog 57 #[.agg #[],.slice pa part.length pc,.int .i64 b] w fun e w'=>∃ a c,e=.returned (.agg #[.int .i64 (r.verdict:Int),.slice a r.order.length c,.int .i64 r.left])∧OAt w' a r.order∧Below w.heap.size w w'∧∀ g,a=some ⟨g,0,none⟩→r.order≠[]→w.heap.size≤g:=by
 obtain ⟨W0,hW0⟩:∃ W0,W0=(w.alloc (.cells #[] 85)).alloc (.cells #[.int .i64 0,.slice none 0 0,.int .i64 0] 117):=⟨_,rfl⟩
 have hb0:Below w.heap.size w W0:=by rw [hW0];exact ((Below.refl _ _).alloc (Nat.le_refl _) _).alloc (by simp) _
 have hs0:W0.heap.size=w.heap.size+2:=by rw [hW0];simp
 have hB6:W0.heap[w.heap.size+1]?=some (.cells #[.int .i64 0,.slice none 0 0,.int .i64 0] 117 (0,0)):=by rw [hW0];exact ziF _ _ _ (by simp)
 have hby:=zWm pa pc part W0 (hr.below hb0) hl
 have hle:=zZVs part
 have hah:=fun oa oc W (h:OAt W oa (ordO part))=>zYL oa oc (ordO part) W h (by omega)
 have hre:=fun oa oc W (h:OAt W oa (ordO part))=>ztU oa oc (ordO part) W h (by omega)
 rw [hle] at hah hre
 unfold grAg at hre
 have AH:=Hid.mk' hah
 have RE:=Hid.mk' hre
 have BY:=Hid.mk' hby
 have FW:=Hid.mk' (forthI_any w part pa pc r hl hdo (f0+1) f0)
 have FB:=Hid.mk' (fun n=>And.intro (forthI_any w part pa pc r hl hdo n n) (backI_any w part pa pc r hl hdo n n))
 have HB0:=Hid.mk' (And.intro hb0 (And.intro hs0 hB6))
 have HF:=Hid.mk' hf0
 have HL:=Hid.mk' hle
 have hmm:=@run_makeMap Tryz.prog
 clear hah hre hby hdo hr hf0 hb0 hB6 hle
 go_enter Tryz.func57,Tryz.ntmps57
 go_wp2
 rw [←hW0]
 clear hW0
 refine z1v (PJI w part pa pc r) ?first ?pass
 case pass=>
  intro l n a W hJ
  have hl1:l=0∨l=1:=by obtain ⟨_,_,_,_,_,_,_,_,_,_,_,_,⟨_,_,_,h⟩,_⟩:=hJ;omega
  rcases hl1 with rfl | rfl
  · obtain ⟨tail,hf,hw⟩:=(FB.out n).1 a W (Nat.le_refl _) hJ
    exact ⟨_,hf,wp_seq (wp_skip hw)⟩
  · obtain ⟨tail,hf,hw⟩:=(FB.out n).2 a W (Nat.le_refl _) hJ
    exact ⟨_,hf,wp_seq (wp_skip hw)⟩
 case first=>
  go_wp2_with (go_at_call 79;refine BY.out.mono ?_;rintro e w1 ⟨oa,oc,rfl,hO,hb1,hgo⟩;have hA1:=AH.out oa oc w1 hO;have H1:=Hid.mk' (And.intro hO (And.intro hb1 hgo));clear hO hb1 hgo)
  refine hA1.mono ?_
  rintro e w2 ⟨rfl,⟨ac,hac,hgr⟩,hb2⟩
  have hR2:=RE.out oa oc w2 (H1.out.1.below hb2)
  have H2:=Hid.mk' (And.intro hac (And.intro hgr hb2))
  clear hac hgr hb2 hA1
  go_wp2_with (go_at_call 81;refine hR2.mono ?_;rintro e w3 ⟨rfl,hb3⟩;have H3:=Hid.mk' hb3;clear hb3)
  obtain ⟨W5,hW5⟩:∃ W5,W5=((w3.alloc (.cells #[.int .u64 (retG (ordO part) 0 (0,0)).1,.int .u64 (retG (ordO part) 0 (0,0)).2] 151)).alloc (.map #[] 0)).alloc (.cells #[.int .u64 0,.int .u64 0,.int .i64 0] 155):=⟨_,rfl⟩
  rw [←hW5]
  obtain ⟨hb0,_,hB6⟩:=HB0.out
  obtain ⟨hO,hb1,hgo⟩:=H1.out
  obtain ⟨hac,hgr,hb2⟩:=H2.out
  have hb3:=H3.out
  have hga:=zCqB hac
  have hz1:=hb1.size
  have hz2:=hb2.size
  have hz3:=hb3.size
  have hb35:Below w3.heap.size w3 W5:=by rw [hW5];exact (((Below.refl _ _).alloc (Nat.le_refl _) _).alloc (by simp) _).alloc (by simp;omega) _
  have hz5:W5.heap.size=w3.heap.size+3:=by rw [hW5];simp
  have hm9:W5.heap[w3.heap.size]?=some (.cells #[.int .u64 (retG (ordO part) 0 (0,0)).1,.int .u64 (retG (ordO part) 0 (0,0)).2] 151 (0,0)):=by
   rw [hW5,zD1 _ _ _ (by simp;omega),zD1 _ _ _ (by simp)]
   exact ziF _ _ _ rfl
  have hm10:SeenAt 155 csI wfI W5 (w3.heap.size+1) 0 []:=by
   have h:=SeenAt.made 155 csI wfI (w3.alloc (.cells #[.int .u64 (retG (ordO part) 0 (0,0)).1,.int .u64 (retG (ordO part) 0 (0,0)).2] 151))
   rw [show (w3.alloc (.cells #[.int .u64 (retG (ordO part) 0 (0,0)).1,.int .u64 (retG (ordO part) 0 (0,0)).2] 151)).heap.size=w3.heap.size+1 by simp] at h
   exact h.same _ _ _ (by rw [hW5];exact zD1 _ _ _ (by simp))
  have hm11:W5.heap[w3.heap.size+1+1]?=some (.cells #[.int .u64 0,.int .u64 0,.int .i64 0] 155 (0,0)):=by
   rw [hW5]
   exact ziF _ _ _ (by simp)
  have hb25:Below w2.heap.size w2 W5:=hb3.trans (hb35.mono hz3)
  have hb15:Below w1.heap.size w1 W5:=hb2.trans (hb25.mono hz2)
  have hb05:Below W0.heap.size W0 W5:=hb1.trans (hb15.mono hz1)
  have hPM:PM 155 165 3 csI wfI w w.heap.size (w.heap.size+1) w3.heap.size (w3.heap.size+1) (w3.heap.size+1+1) w1.heap.size oa (ordO part) b ⟨((0,0),0),[],[],0,[]⟩ none none 0 0 W5:=by
   refine ⟨hb0.trans (hb05.mono (by omega)),⟨by omega,by omega,by omega,by omega,by omega,by omega,by omega⟩,⟨_,_,_,(hb05.block _ (by omega)).trans hB6⟩,⟨hO.below hb15,fun g e hne=>?_⟩,⟨ac,(hb25.block _ (by omega)).trans hac,by rw [HL.out];exact hgr⟩,hm9,⟨0,hm10,by omega⟩,hm11,World.ownsRow_nil _ _ _ _,World.ownsRow_nil _ _ _ _,(fun g e=>by cases e),⟨⟨by decide,by decide⟩,⟨by decide,by decide⟩⟩,⟨by decide,by decide⟩,Nat.zero_le _,by show 0+_≤_;omega,(fun s hs=>by cases hs)⟩
   obtain ⟨g2,e2,h2,_⟩:=hO hne
   rw [e] at e2
   injection e2 with e2
   injection e2 with e2
   have:=hgo g e
   omega
  go_step3
  go_step
  go_step
  refine zwL (J:=fun l a' w'=>∃ n',n' < f0+1∧PJI w part pa pc r l n' a' w') (z7c (FW.out _ _ (Nat.le_succ _) ?_) rfl) (fun l a w ⟨n,_,h⟩=>⟨n,h⟩)
  exact ⟨b,(⟨((0,0),0),[],[],0,[]⟩:Mch Int),w3.heap.size,w3.heap.size+1,w3.heap.size+1+1,w1.heap.size,oa,none,none,oc,0,0,⟨hPM,HF.out,hb,Nat.zero_le _⟩,exU _ _ rfl⟩
theorem ztm (pa:Option Addr) (pc:Nat) (part:List OpV) (b:Int) (w:World) (hr:OAt w pa part) (hl:part.length≤128) (hb: -9223372036854775808≤b∧b≤1000000) (hdo:∀ s o,o∈ordO part→wfI s→wfI (zCI s o).1):
 Calls Tryz.prog 57 #[.agg #[],.slice pa part.length pc,.int .i64 b] w fun e w'=>∃ r a c,Found zCI (ordO part) 0 b r∧e=.returned (.agg #[.int .i64 (r.verdict:Int),.slice a r.order.length c,.int .i64 r.left])∧OAt w' a r.order∧Below w.heap.size w w'∧∀ g,a=some ⟨g,0,none⟩→r.order≠[]→w.heap.size≤g:=by
 obtain ⟨r,f0,hf0⟩:=Found.ends zCI (ordO part) 0 b
 refine (zOx pa pc part b w hr hl hb hdo r f0 hf0).mono ?_
 rintro e w' ⟨a,c,h1,h2,h3,h4⟩
 exact ⟨r,a,c,⟨f0,hf0⟩,h1,h2,h3,h4⟩
end Go.Proofs.YtlkidmafomjhgaaGreatDoor.srch
