/- Several texts in one. -/
import Derived.Test.YtlkidmafomjhgaaGreatDoorKeepXM
import Derived.Test.YtlkidmafomjhgaaGreatDoorKeepXd
set_option maxHeartbeats 8000000
set_option maxRecDepth 100000
namespace Go.Proofs.YtlkidmafomjhgaaGreatDoor.keep
open Go.RowKit
open srch (flt LinP ahB stDo zqY znu)
theorem TellsG.lines_in {i:Nat} {ops:List OpV} {lines:List (List UInt8)} (h:TellsG i ops lines):∀ o∈ops,1≤o.call∧o.call≤(lines.length:Int)∧0≤o.ret∧o.ret≤(lines.length:Int):=by
 induction h with
 | nil=>simp
 | @call ops lines h k kk id cl arg exp d hk hkk h0 hc ha he harg hexp hid hf ih=>
   intro o ho
   rw [List.length_append,List.length_singleton]
   rcases List.mem_append.1 ho with ho | ho
   · have:=ih o ho;exact ⟨this.1,by omega,this.2.2.1,by omega⟩
   · rw [List.mem_singleton] at ho
     subst ho
     exact ⟨by show 1≤(lines.length:Int)+1;omega,by show (lines.length:Int)+1≤_;omega,by show (0:Int)≤0;omega,by show (0:Int)≤_;omega⟩
 | @ret ops lines h j k o vk vn d hj hr hk hn hv ih=>
   intro x hx
   rw [List.length_append,List.length_singleton]
   rcases List.mem_or_eq_of_mem_set hx with hx | rfl
   · have:=ih x hx;exact ⟨this.1,by omega,this.2.2.1,by omega⟩
   · have:=ih o (List.mem_of_getElem? hj)
     exact ⟨this.1,by show o.call≤_;omega,by show 0≤(lines.length:Int)+1;omega,by show (lines.length:Int)+1≤_;omega⟩
end Go.Proofs.YtlkidmafomjhgaaGreatDoor.keep
namespace Go.Proofs.YtlkidmafomjhgaaGreatDoor.keep
open Go.RowKit
open srch (flt LinP ahB stDo zqY ordO Judged JudgedOf byKeyP sortedU z4U zPi zMI qKey zl7 zUH z4A zqr zYh zmY LinedM z9L sumL say zkp zAl Legal)
theorem TellsG.keys {i:Nat} (hkd:zSt i=true) {ops:List OpV} {lines:List (List UInt8)} (h:TellsG i ops lines):∀ o∈ops,∃ k,k < 3∧o.key=keyS k:=by
 induction h with
 | nil=>simp
 | @call ops lines h ko kk id cl arg exp d hk hkk h0 hc ha he harg hexp hid hf ih=>
   intro o ho
   rcases List.mem_append.1 ho with ho | ho
   · exact ih o ho
   · rw [List.mem_singleton] at ho
     subst ho
     exact ⟨kk,hkk,by show (if zSt i=true then keyS kk else [])=_;rw [if_pos hkd]⟩
 | @ret ops lines h j k o vk vn d hj hr hk hn hv ih=>
   intro x hx
   rcases List.mem_or_eq_of_mem_set hx with hx | rfl
   · exact ih x hx
   · exact ih o (List.mem_of_getElem? hj)
end Go.Proofs.YtlkidmafomjhgaaGreatDoor.keep
namespace Go.Proofs.YtlkidmafomjhgaaGreatDoor.keep
open Go.RowKit
open srch (qKey)
theorem zUk (t r:List UInt8) (s:List UInt8) (hs:s=t++r) (w:World):
 Calls Tryz.prog 17 #[.string ⟨s.toArray⟩,.string ⟨t.toArray⟩] w fun e w'=>e=.returned (.bool true)∧w'=w:=by
 have h1:(t.length:Int)≤(s.length:Int):=by rw [hs,List.length_append];omega
 have hex:(⟨s.toArray⟩:ByteArray).extract 0 t.length=⟨t.toArray⟩:=by
  rw [Lib.extract_eq,hs];simp
 clear hs
 go_enter Tryz.func17,Tryz.ntmps17
 go_wp2_with fail
 go_ret
 exact ⟨rfl,rfl⟩
end Go.Proofs.YtlkidmafomjhgaaGreatDoor.keep
namespace Go.Proofs.YtlkidmafomjhgaaGreatDoor.keep
open Go.RowKit
open srch (zkp Pow zVT zqC)
theorem zgf (w:World):
 Calls Tryz.prog 17 #[.string ⟨#[85,78,75,78,79,87,78,10]⟩,.string ⟨#[79,75,32,111,114,100,101,114,61]⟩] w fun e w'=>e=.returned (.bool false)∧w'=w:=by
 go_enter Tryz.func17,Tryz.ntmps17
 go_wp2_with fail
 go_ret
 exact ⟨rfl,rfl⟩
theorem zRM (which:Int) (hw64:zRK which) (sv:Value) (code:List Int) (ct:Int) (hct:zRK ct) (W:World) (hg:Glob W) (hp:Pow W)
 (hrow:∃ oa cap,sv=.slice oa code.length cap∧(code≠[]→∃ g off,oa=some ⟨g,off,none⟩∧g < W.heap.size∧∀ j x,code[j]?=some x→W.cell? ⟨g,off+j,none⟩=some (.int .i64 x))) (hlen:code.length≤9223372036854775807) (hwf:∀ x∈code,zRK x):
 Calls Tryz.prog 5 #[.int .i64 which,sv,.int .i64 ct] W fun e W'=>Below W.heap.size W W'∧e=.returned (.bool true):=by
 have hng:=hg.errs.lt
 have hi:pickP which 5 < 5:=zdA _ (by omega)
 go_enter Tryz.func5,Tryz.ntmps5
 go_wp2_with fail
 refine (zWy which W hw64).mono ?_
 rintro e w1 ⟨rfl,rfl⟩
 generalize pickP which 5=i at*
 have hMd:=z90 false i hi sv code 18 (by omega) w1 hrow hlen hwf
 go_wp2_with fail
 refine hMd.mono ?_
 rintro e w2 ⟨vo,vl,ops,lines,base,vk,keys,ls,dn,rfl,hT,hll,hO,hL,hbs,hb2,hKL,hK⟩
 clear hMd hrow hKL
 obtain ⟨lo,lc,rfl⟩:=zIW hL
 obtain ⟨oo,oc,rfl⟩:=zIW hO
 obtain ⟨ko,kc,rfl⟩:=zIW hK
 obtain ⟨W3,hW3,hb3,hB3⟩:∃ W3,w2.alloc (.cells #[.string ⟨(modS i).toArray⟩,.slice oo ops.length oc,.slice lo lines.length lc,.slice ko keys.length kc] 26)=W3∧Below w2.heap.size w2 W3∧W3.heap[w2.heap.size]?=some (.cells #[.string ⟨(modS i).toArray⟩,.slice oo ops.length oc,.slice lo lines.length lc,.slice ko keys.length kc] 26 (0,0)):=⟨_,rfl,(Below.refl _ _).alloc (Nat.le_refl _) _,ziF _ _ _ rfl⟩
 have hL3:=zzF hL (Kept.of_below (S:=[]) hb3) (by simp)
 have hb13:Below w1.heap.size w1 W3:=hb2.trans (hb3.mono hb2.size)
 have hg2:=hT.tells.g (by omega)
 have hsh:=zkM i hg2
 have htl:=(zGe i hi hg2 (by omega)).2
 have haw:=zqC W3 (hg.below (hb13.mono hng)) (hp.stays hb13)
 have HC:Hid _:=(⟨hT,hL3,hb13,hB3,hsh,htl⟩:_∧_∧_∧_∧_∧_)
 clear hT hL3 hb13 hB3 hsh htl hg2 hL hO hK hb3 hb2
 go_wp2_with fail
 refine haw.mono ?_
 rintro e w5 ⟨rfl,hb5⟩
 obtain ⟨hT,hL,hb1,hB,hsh,htl⟩:=HC.out
 have hB5:=(hb5.block _ (zBq hB)).trans hB
 have hL5:=zzF hL (Kept.of_below (S:=[]) hb5) (by simp)
 have hb15:Below w1.heap.size w1 w5:=hb1.trans (hb5.mono hb1.size)
 have c0:w5.cell? ⟨w2.heap.size,0,none⟩=some (.string ⟨(modS i).toArray⟩):=zBk hB5 0
 have c2:w5.cell? ⟨w2.heap.size,2,none⟩=some (.slice lo lines.length lc):=zBk hB5 2
 have hTx:∀ c:Nat,∀ V:World,Below w5.heap.size w5 V→_:=fun c V hV=>text_any lo lc (lines.take c) V (fun hne=>by
  obtain ⟨g,e,h1,h2⟩:=zVUv (zzF hL5 (Kept.of_below (S:=[]) hV) (by simp)) (by rintro rfl;simp at hne)
  exact ⟨g,e,h1,fun j x hj=>h2 j x (by rw [List.getElem?_take] at hj;split at hj;exact hj;cases hj)⟩) (by simp;omega) (fun l hl=>by have:=hsh l (List.mem_of_mem_take hl);omega)
 have hRu:∀ (t:List UInt8),t.length≤100000→∀ V:World,Below w5.heap.size w5 V→_:=fun t ht V hV=>zVT t (modS i) 1099511627776 V (hg.below ((hb15.trans (hV.mono hb15.size)).mono hng)) (hp.stays (hb15.trans (hV.mono hb15.size))) (by omega) (by decide)
 have hRc:∀ (t:List UInt8),t.length≤1000000→∀ V:World,Below w5.heap.size w5 V→_:=fun t ht V hV=>zVT t (modS 0) 1099511627776 V (hg.below ((hb15.trans (hV.mono hb15.size)).mono hng)) (hp.stays (hb15.trans (hV.mono hb15.size))) (by omega) (by decide)
 have hlT:=zBq hB5
 have hS:∀ w':World,Below w5.heap.size w5 w'→(w'.cell? ⟨w2.heap.size,0,none⟩=some (.string ⟨(modS i).toArray⟩)∧w'.cell? ⟨w2.heap.size,2,none⟩=some (.slice lo lines.length lc)):=fun w' k=>⟨(k.cell (p:=⟨w2.heap.size,0,none⟩) hlT).trans c0,(k.cell (p:=⟨w2.heap.size,2,none⟩) hlT).trans c2⟩
 have hcl:∀ c,(zhe (lines.take c)).length≤100000:=fun c=>by
  have h:=zvL (lines.take c) (fun l hl=>hsh l (List.mem_of_mem_take hl))
  have h2:(lines.take c).length≤18:=by simp;omega
  have h3:1001*(lines.take c).length≤1001*18:=Nat.mul_le_mul_left _ h2
  omega
 have hc1:pickP ct (lines.length+1)≤lines.length:=by have:=zdA ct (n:=lines.length+1) (by omega);omega
 have hPk:∀ V:World,Calls Tryz.prog 15 #[.int .i64 ct,.int .i64 ((lines.length:Int)+1)] V fun e w'=>e=.returned (.int .i64 (pickP ct (lines.length+1):Int))∧w'=V:=fun V=>by have:=z5u ct (lines.length+1) V hct.1 hct.2 (by omega);rw [show (((lines.length+1:Nat)):Int)=(lines.length:Int)+1 by omega] at this;exact this
 generalize hce:pickP ct (lines.length+1)=c at hc1 hPk
 obtain ⟨tx,hx1⟩:∃ tx,tx=zhe (lines.take lines.length):=⟨_,rfl⟩
 obtain ⟨ty,hy1⟩:∃ ty,ty=zhe (lines.take c):=⟨_,rfl⟩
 have HTX:Hid (∀ V:World,Below w5.heap.size w5 V→Calls Tryz.prog 12 #[.slice lo lines.length lc] V fun e w'=>e=.returned (.string ⟨tx.toArray⟩)∧Below V.heap.size V w'):=fun V hV=>by
  have h:=hTx lines.length V hV
  rw [←hx1,show (lines.take lines.length).length=lines.length by simp] at h
  exact h
 have HTY:Hid (∀ V:World,Below w5.heap.size w5 V→Calls Tryz.prog 12 #[.slice lo c lc] V fun e w'=>e=.returned (.string ⟨ty.toArray⟩)∧Below V.heap.size V w'):=fun V hV=>by
  have h:=hTx c V hV
  rw [←hy1,show (lines.take c).length=c by simp;omega] at h
  exact h
 have HRU:Hid (∀ V:World,Below w5.heap.size w5 V→Calls Tryz.prog 11 #[.string ⟨tx.toArray⟩,.string ⟨(modS i).toArray⟩,.int .i64 1099511627776] V fun e w'=>∃ out,zkp (modS i) tx 1099511627776 out∧e=.returned (.string ⟨out.toArray⟩)∧Below V.heap.size V w'):=fun V hV=>hRu tx (by rw [hx1];exact hcl _) V hV
 have HRY:Hid (∀ V:World,Below w5.heap.size w5 V→Calls Tryz.prog 11 #[.string ⟨ty.toArray⟩,.string ⟨(modS i).toArray⟩,.int .i64 1099511627776] V fun e w'=>∃ out,zkp (modS i) ty 1099511627776 out∧e=.returned (.string ⟨out.toArray⟩)∧Below V.heap.size V w'):=fun V hV=>hRu ty (by rw [hy1];exact hcl _) V hV
 have HPK:Hid _:=hPk
 have HXE:Hid (tx=zhe lines):=by rw [List.take_length] at hx1;exact hx1
 have HYE:Hid _:=hy1
 have hcap:lines.length≤lc:=by
  rcases zzD hL5 with ⟨h1,h0⟩ | ⟨g,cap,h1,h2,_,_⟩
  · omega
  · injection h1 with _ _ h;omega
 have HS:Hid _:=hS
 have HRC:Hid _:=hRc
 have H15:Hid _:=hb15
 have HBD:Hid (Below w5.heap.size w5 w5.drew):=(Below.refl _ _).drew
 have HT:Hid _:=hT
 clear hT hL hb1 hB hsh htl hB5 hL5 hb15 hTx hRu hRc hlT hS hcl haw hb5 HC hx1 hy1 hce hPk
 go_wp2_with fail
 go_cut [9] (fun a wx=>∃ x,a=.string ⟨x.toArray⟩∧zkp (modS i) tx 1099511627776 x∧Below w5.heap.size w5 wx)
 case first=>
  have hTx:=HTX.out _ HBD.out
  go_region_held3 (fun w'=>w'.cell? ⟨w2.heap.size,0,none⟩=some (.string ⟨(modS i).toArray⟩)∧w'.cell? ⟨w2.heap.size,2,none⟩=some (.slice lo lines.length lc)) (first | (with_reducible exact hS6) | (with_reducible exact hS7) | go_keep) (first
   | (go_at_call 12;refine hTx.mono ?_;rintro e w6 ⟨rfl,hb6⟩;have hk6:=HBD.out.trans hb6;have hS6:=HS.out _ hk6;have hR:=HRU.out _ hk6;have HB6:=srch.Hid.mk' hk6;clear hb6 hk6 hTx)
   | (go_at_call 11;refine hR.mono ?_;rintro e w7 ⟨x,hx,rfl,hb7⟩;have hk7:=HB6.out.trans (hb7.mono HB6.out.size);have hS7:=HS.out _ hk7;have HX:=srch.Hid.mk' (And.intro hx hk7);clear hx hb7 hk7 hR))
  go_wp2
  go_meet
  exact ⟨x,rfl,HX.out.1,HX.out.2⟩
 case rest=>
  obtain ⟨x,rfl,hx,hb6⟩:=hcut
  obtain ⟨r1,hr1⟩:=zcl hi HT.out hll (b:=1099511627776) (by decide) (by rw [←HXE.out];exact hx)
  have HX:Hid (x=sOrd++r1):=hr1
  have HS6:Hid (∀ V:World,Below wc.heap.size wc V→(V.cell? ⟨w2.heap.size,0,none⟩=some (.string ⟨(modS i).toArray⟩)∧V.cell? ⟨w2.heap.size,2,none⟩=some (.slice lo lines.length lc))):=fun V hV=>HS.out V (hb6.trans (hV.mono hb6.size))
  obtain ⟨d0,d2⟩:=HS6.out wc (Below.refl _ _)
  have HB6:Hid _:=hb6
  have HBD6:Hid (Below wc.heap.size wc wc.drew):=(Below.refl _ _).drew
  have hci:(c:Int)≤(lc:Int):=by omega
  have hc0:(0:Int)≤(c:Int):=by omega
  clear hx hr1 c0 c2 HTX HRU HS hb6 HBD
  obtain ⟨wd,rfl⟩:∃ wd:World,wd=wc:=⟨_,rfl⟩
  have HTY6:Hid (∀ V:World,Below wd.heap.size wd V→Calls Tryz.prog 12 #[.slice lo c lc] V fun e w'=>e=.returned (.string ⟨ty.toArray⟩)∧Below V.heap.size V w'):=fun V hV=>HTY.out V (HB6.out.trans (hV.mono HB6.out.size))
  have HRY6:Hid (∀ V:World,Below wd.heap.size wd V→Calls Tryz.prog 11 #[.string ⟨ty.toArray⟩,.string ⟨(modS i).toArray⟩,.int .i64 1099511627776] V fun e w'=>∃ out,zkp (modS i) ty 1099511627776 out∧e=.returned (.string ⟨out.toArray⟩)∧Below V.heap.size V w'):=fun V hV=>HRY.out V (HB6.out.trans (hV.mono HB6.out.size))
  have hwrap:IntKind.i64.wrap ((lines.length:Int)+1)=(lines.length:Int)+1:=by go_arith
  clear HTY HRY
  go_wp2_with fail
  go_cut [10] (fun a wx=>∃ y,a=.string ⟨y.toArray⟩∧zkp (modS i) ty 1099511627776 y∧Below wd.heap.size wd wx)
  case first=>
   have hPk:=HPK.out wd.drew
   go_region_held3 (fun w'=>w'.cell? ⟨w2.heap.size,0,none⟩=some (.string ⟨(modS i).toArray⟩)∧w'.cell? ⟨w2.heap.size,2,none⟩=some (.slice lo lines.length lc)) (first | (with_reducible exact hS5) | (with_reducible exact hS6) | (with_reducible exact hS7) | go_keep) (first
    | (go_at_call 15;refine hPk.mono ?_;rintro e w5' ⟨rfl,rfl⟩;have hS5:=HS6.out _ HBD6.out;have hTx:=HTY6.out _ HBD6.out;clear hPk)
    | (go_at_call 12;refine hTx.mono ?_;rintro e w6 ⟨rfl,hb6⟩;have hk6:=HBD6.out.trans hb6;have hS6:=HS6.out _ hk6;have hR:=HRY6.out _ hk6;have HB7:=srch.Hid.mk' hk6;clear hb6 hk6 hTx)
    | (go_at_call 11;refine hR.mono ?_;rintro e w7 ⟨y,hy,rfl,hb7⟩;have hk7:=HB7.out.trans (hb7.mono HB7.out.size);have hS7:=HS6.out _ hk7;have HY:=srch.Hid.mk' (And.intro hy hk7);clear hy hb7 hk7 hR))
   go_wp2
   go_meet
   exact ⟨y,rfl,HY.out.1,HY.out.2⟩
  case rest=>
   obtain ⟨y,rfl,hy,hb7⟩:=hcut
   obtain ⟨r2,hr2⟩:∃ r2,y=sOrd++r2:=by
    obtain ⟨ops',keys',ls',dn',h'⟩:=HT.out.cut c hc1
    exact zcl hi h' (by simp;omega) (b:=1099511627776) (by decide) (by rw [←HYE.out];exact hy)
   have hB7:Below w5.heap.size w5 wc:=HB6.out.trans (hb7.mono HB6.out.size)
   have hx:=zUk sOrd r1 x HX.out
   have hy:=zUk sOrd r2 y hr2
   have hpk:=z5u ct 50 wc hct.1 hct.2 (by decide)
   have hp50:=zdA ct (show 0 < 50 by decide)
   generalize pickP ct 50=p at hpk hp50
   obtain ⟨tc,htc⟩:∃ tc,tc=zhe (z5j (12+p) (12+p)):=⟨_,rfl⟩
   have hcr:=zKc (12+p) (by omega) wc
   rw [←htc,show (((12+p:Nat)):Int)=12+(p:Int) by omega] at hcr
   have htl:tc.length≤1000000:=by
    have h:=(zGe 0 (by decide) (znQ (12+p) (by omega) (12+p) (Nat.le_refl _)) (by simp [z5j];omega)).2
    rw [←htc] at h
    have h2:(z5j (12+p) (12+p)).length=2*(12+p):=by simp [z5j];omega
    rw [h2] at h
    omega
   have HRM:Hid (∀ V:World,Below wc.heap.size wc V→Calls Tryz.prog 11 #[.string ⟨tc.toArray⟩,.string ⟨#[114,101,103,105,115,116,101,114]⟩,.int .i64 1099511627776] V fun e w'=>∃ out,zkp (modS 0) tc 1099511627776 out∧e=.returned (.string ⟨out.toArray⟩)∧Below V.heap.size V w'):=fun V hV=>HRC.out tc htl V (hB7.trans (hV.mono hB7.size))
   have HTC:Hid _:=htc
   have H17:Hid (Below w1.heap.size w1 wc):=H15.out.trans (hB7.mono H15.out.size)
   have hwrap2:IntKind.i64.wrap (12+(p:Int))=12+(p:Int):=by go_arith
   have HP:Hid (p < 50):=hp50
   unfold sOrd at hx hy
   clear hr2 hb7 hB7 htl htc HRC HB6 H15 HTY6 HRY6 HS6 d0 d2 HPK HX
   go_wp2_with fail
   refine (hx _).mono ?_
   rintro e w8 ⟨rfl,rfl⟩
   go_wp2_with fail
   refine (hy _).mono ?_
   rintro e w9 ⟨rfl,rfl⟩
   go_wp2_with fail
   refine hpk.mono ?_
   rintro e w10 ⟨rfl,rfl⟩
   go_wp2_with fail
   refine hcr.mono ?_
   rintro e w11 ⟨rfl,hb11⟩
   have hR:=HRM.out _ hb11
   have HB11:Hid _:=hb11
   clear hx hy hpk hcr hb11 HRM
   go_wp2_with fail
   refine hR.mono ?_
   rintro e w12 ⟨z,hz,rfl,hb12⟩
   have hv:=zvE (12+p) (by have:=HP.out;omega) (b:=1099511627776) (by rw [←HTC.out];exact hz)
   have HB12:Hid (Below w1.heap.size w1 w12):=(H17.out.trans (HB11.out.mono H17.out.size)).trans (hb12.mono (Nat.le_trans H17.out.size HB11.out.size))
   clear hR hz hb12
   rcases hv with ⟨r3,hr3⟩ | rfl
   · have hzb:=zUk sOrd r3 z hr3
     unfold sOrd at hzb
     clear hr3
     go_wp2_with fail
     refine (hzb _).mono ?_
     rintro e w13 ⟨rfl,rfl⟩
     go_wp2_with fail
     go_ret
     exact ⟨HB12.out,rfl⟩
   · go_wp2_with fail
     refine (zgf _).mono ?_
     rintro e w13 ⟨rfl,rfl⟩
     go_wp2_with fail
     go_ret
     exact ⟨HB12.out,rfl⟩
end Go.Proofs.YtlkidmafomjhgaaGreatDoor.keep
