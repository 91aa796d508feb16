/- One text. -/
import Derived.Test.YtlkidmafomjhgaaGreatDoorScanV
import Derived.Laws.Cover4
import Derived.Lib.AtoiErrMem
namespace Go.Proofs.YtlkidmafomjhgaaGreatDoor
open Go.RowKit

structure Errs (w:World):Prop where
 syn:∃ tp p,w.var? Tryz.prog "strconv.ErrSyntax"=some #[.iface tp p]
 rng:∃ tp p,w.var? Tryz.prog "strconv.ErrRange"=some #[.iface tp p]
 lt:9≤w.heap.size
theorem Errs.below {w w':World} (h:Errs w) (k:Below 9 w w'):Errs w':=by
 obtain ⟨tp,p,h1⟩:=h.syn
 obtain ⟨tq,q,h2⟩:=h.rng
 exact ⟨⟨tp,p,var?_below k (show Tryz.prog.globalNamed "strconv.ErrSyntax"=some 7 by kernel_rfl) (by omega) h1⟩,
  ⟨tq,q,var?_below k (show Tryz.prog.globalNamed "strconv.ErrRange"=some 8 by kernel_rfl) (by omega) h2⟩,Nat.le_trans h.lt k.size⟩
theorem Errs.kept {S:List Nat} {w w':World} (h:Errs w) (k:Kept S w w') (hS:∀ x∈S,9≤x):Errs w':=h.below (k.below h.lt hS)

def zDE (l:List Nat):List Nat:=
 let m:=if zEH l=45 then l.tail else l
 if zEH m=48 then m.tail else zva m
def zcA (l:List Nat):List Nat:=l.take (l.length - (zDE l).length)
def intP (l:List Nat):Option (Int×List Nat):=
 match Lib.parseIntB 64 (runesBytes ((zcA l).map Int.ofNat)).data.toList with
 | .ok v=>some (v,zDE l)
 | _=>none

theorem tail_drop (rs:List Nat) (k:Nat):(rs.drop k).tail=rs.drop (k+1):=by rw [List.tail_drop]

theorem zUY {rs:List Nat} {k k':Nat} (hk:k≤k') (hk':k'≤rs.length) (h:rs.drop k'=zDE (rs.drop k)):zcA (rs.drop k)=(rs.drop k).take (k' - k):=by
 unfold zcA
 rw [←h]
 congr 1
 simp
 omega


theorem zXi {w:World} {b rb cap k:Nat} {rs:List Nat} (hs:Scan w b rb cap rs k) (j n:Nat) (hj:j+n≤rs.length):
 ∀ i,i < (((rs.drop j).take n).map Int.ofNat).length→w.cell? ((⟨rb,j,none⟩:Addr).add i)=some (.int .i32 ((((rs.drop j).take n).map Int.ofNat).getD i 0)):=by
 intro i hi
 have hi':i < n:=by simp at hi;omega
 have h1:=hs.cr (i:=j+i) (by omega)
 have e:(⟨rb,j,none⟩:Addr).add i=⟨rb,j+i,none⟩:=by simp [Addr.add]
 rw [e,h1]
 simp [List.getD,List.getElem?_map,hi',List.getElem?_eq_getElem (show j+i < rs.length by omega)]


theorem zaw (s:ByteArray) (W:World) (hE:Errs W) (hs:s.size≤281474976710656):
 Calls Tryz.prog 178 #[.string s,.int .i64 10,.int .i64 64] W fun e w'=>∃ (x:Int) (ev:Value),e=.returned (.tuple #[.int .i64 x,ev])∧Below W.heap.size W w'∧
  ((ev=.nilIface∧Lib.parseIntB 64 s.data.toList=.ok x)∨((∃ N,ev=.iface 298 (.pointer (some ⟨N,0,none⟩)))∧∀ v,Lib.parseIntB 64 s.data.toList≠.ok v)):=by
 obtain ⟨tp,p,h1⟩:=hE.syn
 obtain ⟨tq,q,h2⟩:=hE.rng
 cases h:Lib.parseIntB 64 s.data.toList with
 | ok v=>
   refine (Tryz.strconv_ParseInt_10_at64_ok s (by omega) v h W).mono ?_
   rintro e w' ⟨rfl,rfl | ⟨t,rfl⟩⟩
   · exact ⟨v,.nilIface,rfl,Below.refl _ _,Or.inl ⟨rfl,rfl⟩⟩
   · exact ⟨v,.nilIface,rfl,Lib.bytesWorld_below _ _ _,Or.inl ⟨rfl,rfl⟩⟩
 | «syntax»=>
   refine (Tryz.strconv_ParseInt_10_at64_syntax_var s hs h tp p W h1).mono ?_
   rintro e w' ⟨N,rfl,_,_,hb⟩
   exact ⟨_,_,rfl,hb,Or.inr ⟨⟨N,rfl⟩,fun v hv=>by cases hv⟩⟩
 | range=>
   refine (Tryz.strconv_ParseInt_10_at64_range_var s hs h tq q W h2).mono ?_
   rintro e w' ⟨N,rfl,_,_,hb⟩
   exact ⟨_,_,rfl,hb,Or.inr ⟨⟨N,rfl⟩,fun v hv=>by cases hv⟩⟩

set_option maxHeartbeats 1000000 in
theorem z8e (b rb cap k:Nat) (rs:List Nat) (w:World) (hs:Scan w b rb cap rs k) (he:Errs w) (hb:9≤b):
 Calls Tryz.prog 171 #[.pointer (some ⟨b,0,none⟩)] w fun e w'=>
  ∃ k',Scan w' b rb cap rs k'∧Kept [b] w w'∧((∃ v,intP (rs.drop k)=some (v,rs.drop k')∧e=.returned (.tuple #[.int .i64 v,.bool true]))∨
   (intP (rs.drop k)=none∧e=.returned (.tuple #[.int .i64 0,.bool false]))):=by
 have c1:=hs.c1
 -- the sign
 have hsgn:∃ k1:Nat,k≤k1∧k1≤rs.length∧(if zEH (rs.drop k)=45 then (rs.drop k).tail else rs.drop k)=rs.drop k1∧(zEH (rs.drop k)=45→k1=k+1)∧(zEH (rs.drop k)≠45→k1=k):=by
  by_cases h:zEH (rs.drop k)=45
  · have:=znY h (by omega)
    exact ⟨k+1,by omega,by omega,by rw [if_pos h,tail_drop],fun _=>rfl,fun h'=>absurd h h'⟩
  · exact ⟨k,by omega,hs.le,by rw [if_neg h],fun h'=>absurd h' h,fun _=>rfl⟩
 obtain ⟨k1,hk1,hk1l,hm,hy,hn⟩:=hsgn
 go_enter Tryz.func171,Tryz.ntmps171
 go_wp2_with fail
 have H1:Hid (Calls Tryz.prog 131 #[.pointer (some ⟨b,0,none⟩),.int .i32 45] w fun e w'=>∃ x,e=.returned (.bool x)∧Scan w' b rb cap rs k1∧Kept [b] w w'):=by
  by_cases h:zEH (rs.drop k)=45
  · refine (z8M b rb cap k rs 45 _ hs h (by omega)).mono ?_
    rintro e w1 ⟨rfl,g1,g2⟩
    exact ⟨_,rfl,by rw [hy h];exact g1,g2⟩
  · refine (zZ5 b rb cap k rs 45 _ hs h).mono ?_
    rintro e w1 ⟨rfl,n,rfl⟩
    exact ⟨_,rfl,by rw [hn h];exact hs.drewN n,(Kept.refl _ _).drewN n⟩
 have HM:Hid ((if zEH (rs.drop k)=45 then (rs.drop k).tail else rs.drop k)=rs.drop k1):=hm
 clear hm hy hn c1
 refine H1.out.mono ?_
 rintro e w1 ⟨x,rfl,g1,g2⟩
 clear H1
 have H2:Hid (Calls Tryz.prog 131 #[.pointer (some ⟨b,0,none⟩),.int .i32 48] w1 fun e w'=>(e=.returned (.bool true)∧zEH (rs.drop k1)=48∧Scan w' b rb cap rs (k1+1)∧Kept [b] w w')∨(e=.returned (.bool false)∧zEH (rs.drop k1)≠48∧Scan w' b rb cap rs k1∧Kept [b] w w')):=by
  by_cases h:zEH (rs.drop k1)=48
  · refine (z8M b rb cap k1 rs 48 _ g1 h (by omega)).mono ?_
    rintro e w1 ⟨rfl,g3,g4⟩
    exact Or.inl ⟨rfl,h,g3,g2.trans g4⟩
  · refine (zZ5 b rb cap k1 rs 48 _ g1 h).mono ?_
    rintro e w1 ⟨rfl,n,rfl⟩
    exact Or.inr ⟨rfl,h,g1.drewN n,g2.drewN n⟩
 go_wp2_with fail
 refine H2.out.mono ?_
 clear H2
 rintro e w2 (⟨rfl,hp,g3,g4⟩ | ⟨rfl,hp,g3,g4⟩)
 · have HR:Hid (rs.drop (k1+1)=zDE (rs.drop k)):=by
    unfold zDE;rw [HM.out];simp [hp,Hid]
   have hkk:k≤k1+1:=by omega
   have hkl:k < k1+1:=by omega
   clear HM hp g1 g2 hk1 hk1l
   generalize k1+1=k' at*
   have c0:=g3.c0
   have c1:=g3.c1
   have hle:=g3.le
   have hsm:=g3.small
   have hcp:=g3.room
   have hA:(k:Int)≤(k':Int):=by omega
   have hB:(k':Int)≤(cap:Int):=by omega
   have hcv:=run_convert_runes (P:=Tryz.prog) w2.drew 211 9 21 ⟨rb,k,none⟩ (k' - k) (cap - k) (((rs.drop k).take (k' - k)).map Int.ofNat) (by simp;omega) Tryz.underlying211 Tryz.underlying21 Tryz.underlying9 (zXi (w:=w2.drew) (g3.drewN 1) k (k' - k) (by omega))
   have htk:=zUY hkk hle HR.out
   rw [List.take_of_length_le (l:=((rs.drop k).take (k' - k)).map Int.ofNat) (by simp;omega)] at hcv
   have hsz:=runesBytes_size_le (((rs.drop k).take (k' - k)).map Int.ofNat)
   have HI:Hid (intP (rs.drop k)=(match Lib.parseIntB 64 (runesBytes (((rs.drop k).take (k' - k)).map Int.ofNat)).data.toList with | .ok v=>some (v,rs.drop k') | _=>none)):=by
    unfold intP;rw [htk,HR.out];exact rfl
   have hsz':(runesBytes (((rs.drop k).take (k' - k)).map Int.ofNat)).size≤281474976710656:=Nat.le_trans hsz (by simp;omega)
   clear hsz htk HR
   generalize runesBytes (((rs.drop k).take (k' - k)).map Int.ofNat)=TS at*
   have hE2:Errs w2.drew:=(he.kept g4 (by simpa using hb)).below ⟨rfl,rfl,rfl,Nat.le_refl _,fun _ _=>rfl⟩
   have hbW:=g3.bLt
   have hrW:=g3.rbLt
   have hW0:=g4.size
   go_wp2_with fail
   set_option maxRecDepth 100000 in
   go_region_with (go_at_call 178;refine (zaw TS _ hE2 hsz').mono ?_;rintro e w9 ⟨x9,ev,rfl,hbl,hev⟩)
   all_goals
    have HV:Hid ((ev=.nilIface∧Lib.parseIntB 64 TS.data.toList=.ok x9)∨((∃ N,ev=.iface 298 (.pointer (some ⟨N,0,none⟩)))∧∀ v,Lib.parseIntB 64 TS.data.toList≠.ok v)):=hev
    clear hev hcv hsz'
    have g8:Scan w9 b rb cap rs k':=(g3.drewN 1).below hbl hbW hrW
    have g9:Kept [b] w w9:=(g4.drewN 1).step hbl hW0
    clear hbl
    rcases HV with ⟨rfl,hok⟩ | ⟨⟨N,rfl⟩,hno⟩
    · have HX:Hid (intP (rs.drop k)=some (x9,rs.drop k')):=by rw [HI.out,hok];exact rfl
      clear HI hok
      go_wp2
      go_ret2
      exact ⟨k',g8,g9,Or.inl ⟨x9,HX.out,rfl⟩⟩
    · have HX:Hid (intP (rs.drop k)=none):=by
       rw [HI.out]
       cases hq:Lib.parseIntB 64 TS.data.toList with
       | ok v=>exact absurd hq (hno v)
       | «syntax»=>exact rfl
       | range=>exact rfl
      clear HI hno
      go_wp2
      go_ret2
      exact ⟨k',g8,g9,Or.inr ⟨HX.out,rfl⟩⟩
 · have HN:Hid (zva (rs.drop k1)=zDE (rs.drop k)):=by
    unfold zDE;rw [HM.out];simp [hp,Hid]
   clear HM hp g1 g2
   go_wp2_with fail
   refine (zHI b rb cap k1 rs _ g3).mono ?_
   rintro e w3 ⟨rfl,k',hk',hkk1,g5,g6⟩
   have HR:Hid (rs.drop k'=zDE (rs.drop k)):=by rw [←HN.out,hk'];exact rfl
   have hkk:k≤k':=by omega
   have g7:=g4.trans g6
   clear HN hk' hkk1 g3 g4 g6 hk1 hk1l
   by_cases hkc:k < cap
   · have c0:=g5.c0
     have c1:=g5.c1
     have hle:=g5.le
     have hsm:=g5.small
     have hcp:=g5.room
     have hA:(k:Int)≤(k':Int):=by omega
     have hB:(k':Int)≤(cap:Int):=by omega
     have hcv:=run_convert_runes (P:=Tryz.prog) w3.drew 211 9 21 ⟨rb,k,none⟩ (k' - k) (cap - k) (((rs.drop k).take (k' - k)).map Int.ofNat) (by simp;omega) Tryz.underlying211 Tryz.underlying21 Tryz.underlying9 (zXi (w:=w3.drew) (g5.drewN 1) k (k' - k) (by omega))
     have htk:=zUY hkk hle HR.out
     rw [List.take_of_length_le (l:=((rs.drop k).take (k' - k)).map Int.ofNat) (by simp;omega)] at hcv
     have hsz:=runesBytes_size_le (((rs.drop k).take (k' - k)).map Int.ofNat)
     have HI:Hid (intP (rs.drop k)=(match Lib.parseIntB 64 (runesBytes (((rs.drop k).take (k' - k)).map Int.ofNat)).data.toList with | .ok v=>some (v,rs.drop k') | _=>none)):=by
      unfold intP;rw [htk,HR.out];exact rfl
     have hsz':(runesBytes (((rs.drop k).take (k' - k)).map Int.ofNat)).size≤281474976710656:=Nat.le_trans hsz (by simp;omega)
     clear hsz htk HR
     generalize runesBytes (((rs.drop k).take (k' - k)).map Int.ofNat)=TS at*
     have hE2:Errs w3.drew:=(he.kept g7 (by simpa using hb)).below ⟨rfl,rfl,rfl,Nat.le_refl _,fun _ _=>rfl⟩
     have hbW:=g5.bLt
     have hrW:=g5.rbLt
     have hW0:=g7.size
     go_wp2_with fail
     set_option maxRecDepth 100000 in
     go_region_with (go_at_call 178;refine (zaw TS _ hE2 hsz').mono ?_;rintro e w9 ⟨x9,ev,rfl,hbl,hev⟩)
     all_goals
      have HV:Hid ((ev=.nilIface∧Lib.parseIntB 64 TS.data.toList=.ok x9)∨((∃ N,ev=.iface 298 (.pointer (some ⟨N,0,none⟩)))∧∀ v,Lib.parseIntB 64 TS.data.toList≠.ok v)):=hev
      clear hev hcv hsz'
      have g8:Scan w9 b rb cap rs k':=(g5.drewN 1).below hbl hbW hrW
      have g9:Kept [b] w w9:=(g7.drewN 1).step hbl hW0
      clear hbl
      rcases HV with ⟨rfl,hok⟩ | ⟨⟨N,rfl⟩,hno⟩
      · have HX:Hid (intP (rs.drop k)=some (x9,rs.drop k')):=by rw [HI.out,hok];exact rfl
        clear HI hok
        go_wp2
        go_ret2
        exact ⟨k',g8,g9,Or.inl ⟨x9,HX.out,rfl⟩⟩
      · have HX:Hid (intP (rs.drop k)=none):=by
         rw [HI.out]
         cases hq:Lib.parseIntB 64 TS.data.toList with
         | ok v=>exact absurd hq (hno v)
         | «syntax»=>exact rfl
         | range=>exact rfl
        clear HI hno
        go_wp2
        go_ret2
        exact ⟨k',g8,g9,Or.inr ⟨HX.out,rfl⟩⟩
   · have c0:=g5.c0
     have c1:=g5.c1
     have hle:=g5.le
     have hsm:=g5.small
     have hcp:=g5.room
     obtain rfl:cap=k:=by have:=hs.le;omega
     obtain rfl:cap=k':=by omega
     have hcv:=run_convert_runes (P:=Tryz.prog) w3.drew 211 9 21 ⟨rb,0,none⟩ 0 0 [] (by simp) Tryz.underlying211 Tryz.underlying21 Tryz.underlying9 (fun j hj=>by cases hj)
     have htk:=zUY hkk hle HR.out
     rw [show ([]:List Int).take 0=((rs.drop cap).take (cap - cap)).map Int.ofNat by simp] at hcv
     have hsz:=runesBytes_size_le (((rs.drop cap).take (cap - cap)).map Int.ofNat)
     have HI:Hid (intP (rs.drop cap)=(match Lib.parseIntB 64 (runesBytes (((rs.drop cap).take (cap - cap)).map Int.ofNat)).data.toList with | .ok v=>some (v,rs.drop cap) | _=>none)):=by
      unfold intP;rw [htk,←HR.out];exact rfl
     have hsz':(runesBytes (((rs.drop cap).take (cap - cap)).map Int.ofNat)).size≤281474976710656:=Nat.le_trans hsz (by simp)
     clear hsz htk HR
     generalize runesBytes (((rs.drop cap).take (cap - cap)).map Int.ofNat)=TS at*
     have hE2:Errs w3.drew:=(he.kept g7 (by simpa using hb)).below ⟨rfl,rfl,rfl,Nat.le_refl _,fun _ _=>rfl⟩
     have hbW:=g5.bLt
     have hrW:=g5.rbLt
     have hW0:=g7.size
     go_wp2_with fail
     set_option maxRecDepth 100000 in
     go_region_with (go_at_call 178;refine (zaw TS _ hE2 hsz').mono ?_;rintro e w9 ⟨x9,ev,rfl,hbl,hev⟩)
     all_goals
      have HV:Hid ((ev=.nilIface∧Lib.parseIntB 64 TS.data.toList=.ok x9)∨((∃ N,ev=.iface 298 (.pointer (some ⟨N,0,none⟩)))∧∀ v,Lib.parseIntB 64 TS.data.toList≠.ok v)):=hev
      clear hev hcv hsz'
      have g8:Scan w9 b rb cap rs cap:=(g5.drewN 1).below hbl hbW hrW
      have g9:Kept [b] w w9:=(g7.drewN 1).step hbl hW0
      clear hbl
      rcases HV with ⟨rfl,hok⟩ | ⟨⟨N,rfl⟩,hno⟩
      · have HX:Hid (intP (rs.drop cap)=some (x9,rs.drop cap)):=by rw [HI.out,hok];exact rfl
        clear HI hok
        go_wp2
        go_ret2
        exact ⟨cap,g8,g9,Or.inl ⟨x9,HX.out,rfl⟩⟩
      · have HX:Hid (intP (rs.drop cap)=none):=by
         rw [HI.out]
         cases hq:Lib.parseIntB 64 TS.data.toList with
         | ok v=>exact absurd hq (hno v)
         | «syntax»=>exact rfl
         | range=>exact rfl
        clear HI hno
        go_wp2
        go_ret2
        exact ⟨cap,g8,g9,Or.inr ⟨HX.out,rfl⟩⟩
end Go.Proofs.YtlkidmafomjhgaaGreatDoor
