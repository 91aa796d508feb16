/- One text. -/
import Derived.Test.YtlkidmafomjhgaaGreatDoorKeepLY
namespace Go.Proofs.YtlkidmafomjhgaaGreatDoor.keep
open Go.RowKit
open srch (zkp Pow zVT zqC sOK sIll stDo zqY JudgedOf qKey)
theorem zoU {i:Nat} (hi:i=1∨i=3) {ops:List OpV} {lines:List (List UInt8)} (h:TellsG i ops lines) (hl:lines.length≤18) (hn:ops.length≤10) (hcl:∀ o∈ops,o.cl∈[-1,0,1]) {b:Int} (hb:1000000≤b):∃ L:Nat→Prop,
 (∀ k,k < 3→∀ a,zkp (modS i) (zhe (onL k ops lines)) b a→(L k∧∃ r,a=sOK++32::r)∨(¬ L k∧∃ r,a=sIll++32::r))∧
 ∀ s,zkp (modS i) (zhe lines) b s→((∀ k,k < 3→L k)→∃ r,s=sOK++32::r)∧
  ∀ k,k < 3→¬ L k→(∀ j,j < k→L j)→∃ r,s=[73,76,76,69,71,65,76,32,112,97,114,116,61]++qKey (keyS k)++[32,108,111,110,103,101,115,116,61]++r:=by
 rcases hi with rfl | rfl
 · exact ⟨_,zt1 stDo (false,0) (fun _ _ _ _=>rfl) (by decide) rfl (fun ops v hj=>by
    rcases hj with ⟨e,_⟩ | ⟨_,hj⟩ | ⟨e,_⟩ | ⟨e,_⟩ | ⟨e,_⟩
    · exact absurd e (by decide)
    · exact hj
    · exact absurd e (by decide)
    · exact absurd e (by decide)
    · exact absurd e (by decide)) h hl hn hcl hb⟩
 · exact ⟨_,zt1 zqY false (fun _ _ _ _=>rfl) (by decide) rfl (fun ops v hj=>by
    rcases hj with ⟨e,_⟩ | ⟨e,_⟩ | ⟨e,_⟩ | ⟨_,hj⟩ | ⟨e,_⟩
    · exact absurd e (by decide)
    · exact absurd e (by decide)
    · exact absurd e (by decide)
    · exact hj
    · exact absurd e (by decide)) h hl hn hcl hb⟩
def BadAt (L:Nat→Prop) (kn:Nat) (bd:Int):Prop:=(bd= -1∧∀ j,kn≤j→j < 3→L j)∨∃ j:Nat,bd=(j:Int)∧kn≤j∧j < 3∧¬ L j∧∀ q,kn≤q→q < j→L q
theorem BadAt.yes {L:Nat→Prop} {kn:Nat} {bd:Int} (h:BadAt L (kn+1) bd) (hl:L kn):BadAt L kn bd:=by
 rcases h with ⟨e,h⟩ | ⟨j,e,h1,h2,h3,h4⟩
 · refine .inl ⟨e,fun j h1 h2=>?_⟩
   by_cases ej:j=kn
   · subst ej;exact hl
   · exact h j (by omega) h2
 · refine .inr ⟨j,e,by omega,h2,h3,fun q h5 h6=>?_⟩
   by_cases eq:q=kn
   · subst eq;exact hl
   · exact h4 q (by omega) h6
theorem BadAt.no {L:Nat→Prop} {kn:Nat} (h3:kn < 3) (hl:¬ L kn):BadAt L kn (kn:Int):=.inr ⟨kn,rfl,Nat.le_refl _,h3,hl,fun q h1 h2=>absurd h1 (by omega)⟩
set_option maxHeartbeats 8000000 in
set_option maxRecDepth 100000 in
theorem zJ2 (which:Int) (hw64:zRK which) (sv:Value) (code:List Int) (n:Int) (hn:zRK n) (tw:Bool) (W:World) (hg:Glob W) (hp:Pow W)
 (hrow:∃ oa cap,sv=.slice oa code.length cap∧(code≠[]→∃ g off,oa=some ⟨g,off,none⟩∧g < W.heap.size∧∀ j x,code[j]?=some x→W.cell? ⟨g,off+j,none⟩=some (.int .i64 x))) (hlen:code.length≤9223372036854775807) (hwf:∀ x∈code,zRK x):
 Calls Tryz.prog 4 #[.int .i64 which,sv,.int .i64 n,.bool tw] W fun e W'=>Below W.heap.size W W'∧e=.returned (.bool true):=by
 have hng:=hg.errs.lt
 have hpk:=z5u which 2 W hw64.1 hw64.2 (by decide)
 have hp2:=zdA which (show 0 < 2 by decide)
 obtain ⟨i,hi13,hpm⟩:∃ i,(i=1∨i=3)∧((pickP which 2=1∧i=3)∨(pickP which 2=0∧i=1)):=by
  rcases (show pickP which 2=0∨pickP which 2=1 by omega) with e | e
  · exact ⟨1,.inl rfl,.inr ⟨e,rfl⟩⟩
  · exact ⟨3,.inr rfl,.inl ⟨e,rfl⟩⟩
 have hi:i < 5:=by omega
 have hkd:zSt i=true:=by rcases hi13 with rfl | rfl <;> rfl
 have HM:Hid _:=(⟨hi13,hpm,hkd⟩:_∧_∧_)
 clear hp2 hpm hi13 hkd
 generalize hpe:pickP which 2=pw at hpk HM
 clear hpe
 go_enter Tryz.func4,Tryz.ntmps4
 go_wp2_with fail
 refine hpk.mono ?_
 rintro e w1 ⟨rfl,rfl⟩
 go_upto_if 19 with fail
 go_cut [9] (fun a wx=>a=.string ⟨(modS i).toArray⟩∧w1=wx)
 case first=>
  obtain ⟨-,hpm,-⟩:=HM.out
  rcases hpm with ⟨rfl,rfl⟩ | ⟨rfl,rfl⟩
  · go_wp2_with fail
    go_meet
    exact ⟨rfl,rfl⟩
  · go_wp2_with fail
    go_meet
    exact ⟨rfl,rfl⟩
 case rest=>
  obtain ⟨rfl,rfl⟩:=hcut
  have hMd:=zzi i hi sv code 18 (by omega) w1 hrow hlen hwf
  clear hpk
  go_wp2_with fail
  refine hMd.mono ?_
  rintro e w2 ⟨vo,vl,ops,lines,base,vk,keys,rfl,hT,hll,hO,hL,hbs,hb2,hKL,hK⟩
  clear hMd hrow
  obtain ⟨lo,lc,rfl⟩:=zIW hL
  obtain ⟨oo,oc,rfl⟩:=zIW hO
  obtain ⟨ko,kc,rfl⟩:=zIW hK
  obtain ⟨W3,hW3,hb3,hB3⟩:∃ W3,w2.alloc (.cells #[.string ⟨(modS i).toArray⟩,.slice oo ops.length oc,.slice lo lines.length lc,.slice ko keys.length kc] 26)=W3∧Below w2.heap.size w2 W3∧W3.heap[w2.heap.size]?=some (.cells #[.string ⟨(modS i).toArray⟩,.slice oo ops.length oc,.slice lo lines.length lc,.slice ko keys.length kc] 26 (0,0)):=⟨_,rfl,(Below.refl _ _).alloc (Nat.le_refl _) _,ziF _ _ _ rfl⟩
  have hL3:=zzF hL (Kept.of_below (S:=[]) hb3) (by simp)
  have hO3:=zzF hO (Kept.of_below (S:=[]) hb3) (by simp)
  have hK3:=zzF hK (Kept.of_below (S:=[]) hb3) (by simp)
  have hb13:Below w1.heap.size w1 W3:=hb2.trans (hb3.mono hb2.size)
  have t0:W3.cell? ⟨w2.heap.size,0,none⟩=some (.string ⟨(modS i).toArray⟩):=zBk hB3 0
  have t1:W3.cell? ⟨w2.heap.size,1,none⟩=some (.slice oo ops.length oc):=zBk hB3 1
  have t2:W3.cell? ⟨w2.heap.size,2,none⟩=some (.slice lo lines.length lc):=zBk hB3 2
  have t3:W3.cell? ⟨w2.heap.size,3,none⟩=some (.slice ko keys.length kc):=zBk hB3 3
  have hTw:=zPuu i hi (.slice oo ops.length oc) (.slice lo lines.length lc) ko keys.length kc ops lines n hn base W3 hT (by omega) hO3 hL3
  have HZ:Hid _:=hb2.size
  have HA:Hid _:=(⟨hL3,hO3,hK3,hB3,hb13,hT,hKL⟩:_∧_∧_∧_∧_∧_∧_)
  clear hL3 hO3 hK3 hb13 hKL hL hO hK hb2 hb3 hT hB3
  go_upto_if 23 with fail
  go_cut [24] (fun a wx=>∃ (ops':List OpV) (lines':List (List UInt8)) (oo' lo':Option Addr) (oc' lc':Nat),Turned ops ops' lines lines'∧wx.heap[w2.heap.size]?=some (.cells #[.string ⟨(modS i).toArray⟩,.slice oo' ops'.length oc',.slice lo' lines'.length lc',.slice ko keys.length kc] 26 (0,0))∧
   wx.ownsRow base 48 10 (.slice oo' ops'.length oc') ops'.length (opsRow ops')∧wx.ownsRow base 9 1 (.slice lo' lines'.length lc') lines'.length (strCells lines')∧wx.ownsRow base 3 1 (.slice ko keys.length kc) keys.length (zXD keys)∧Below w1.heap.size w1 wx)
  case first=>
   obtain ⟨hL3,hO3,hK3,hB3,hb13,hT,hKL⟩:=HA.out
   cases tw
   · clear hL3 hO3 hK3 hB3 hb13 hT hKL
     go_wp2_with fail
     go_meet
     obtain ⟨hL3,hO3,hK3,hB3,hb13,hT,hKL⟩:=HA.out
     exact ⟨ops,lines,oo,lo,oc,lc,.inl ⟨rfl,rfl⟩,hB3,hO3,hL3,hK3,hb13⟩
   · clear hL3 hO3 hK3 hB3 hb13 hT hKL
     go_wp2_with fail
     refine hTw.mono ?_
     rintro e w4 ⟨vo',vl',ops',lines',rfl,hTu,hO4,hL4,hb4⟩
     obtain ⟨lo',lc',rfl⟩:=zIW hL4
     obtain ⟨oo',oc',rfl⟩:=zIW hO4
     obtain ⟨hL3,hO3,hK3,hB3,hb13,hT,hKL⟩:=HA.out
     have hB4:=(hb4.block _ (zBq hB3)).trans hB3
     have r0:=zBk hB4 0
     have r1:=zBk hB4 1
     have r2:=zBk hB4 2
     have r3:=zBk hB4 3
     have z0:=zBn hB4 0
     have z1:=zBn hB4 1
     have z2:=zBn hB4 2
     have z3:=zBn hB4 3
     have HX:Hid _:=(⟨hTu,hO4,hL4,hb4,hB4⟩:_∧_∧_∧_∧_)
     clear hTu hO4 hL4 hb4 hB4 hL3 hO3 hK3 hB3 hb13 hT hKL hTw t0 t1 t2 t3
     go_wp2_with fail
     go_meet
     obtain ⟨hTu,hO4,hL4,hb4,hB4⟩:=HX.out
     obtain ⟨hL3,hO3,hK3,hB3,hb13,hT,hKL⟩:=HA.out
     obtain ⟨f1,f2⟩:=zPn hB4 (.string ⟨(modS i).toArray⟩) (.slice oo' ops'.length oc') (.slice lo' lines'.length lc') (.slice ko keys.length kc)
     have hK4:=zzF hK3 (Kept.of_below (S:=[]) hb4) (by simp)
     have hw12:w1.heap.size≤w2.heap.size:=HZ.out
     exact ⟨ops',lines',oo',lo',oc',lc',hTu,f1,z1O hO4 f2 (zOE hO4 hB4 (by decide)),z1O hL4 f2 (zOE hL4 hB4 (by decide)),z1O hK4 f2 (zOE hK4 hB4 (by decide)),(hb13.trans (hb4.mono hb13.size)).trans (f2.below (by have:=hb13.size;have:=hb4.size;omega) (by simp;omega))⟩
  case rest=>
   clear hTw t0 t1 t2 t3
   obtain ⟨ops',lines',oo',lo',oc',lc',hTu,hB,hO,hL,hK,hb1⟩:=hcut
   obtain ⟨-,-,-,-,-,hT,hKL⟩:=HA.out
   obtain ⟨hi13,-,hkd⟩:=HM.out
   obtain ⟨fl,fo,f3⟩:=hTu.form hi hT
   have hself:=hTu.self hi hT hll
   have hsh:=zkM i hself
   obtain ⟨hrd,htl⟩:=zGe i hi hself (by omega)
   have hten:ops'.length≤10:=by rw [fo];exact hT.few hll
   have hcl:∀ o∈ops',o.cl∈[-1,0,1]:=by
    intro o ho
    obtain ⟨j,hj⟩:=List.mem_iff_getElem?.1 ho
    obtain ⟨_,_,_,_,h1,_⟩:=(hTu.ok1 hi hT (by omega) hKL).1 j o hj
    have:o.cl= -1∨o.cl=0∨o.cl=1:=by omega
    rcases this with e | e | e <;> simp [e]
   obtain ⟨L,hL1,hL2⟩:=zoU hi13 hself (by omega) hten hcl (b:=1099511627776) (by decide)
   have hon:∀ k,k < 3→TellsG i ((srch.flt (keyS k) ops').map (reO k ops')) (onL k ops' lines')∧(onL k ops' lines').length≤18∧outP ops' keys lines' k lines'.length=onL k ops' lines':=fun k hk=>⟨zI1 hkd k hk hself,by
    rw [zmd]
    unfold onC
    exact Nat.le_trans (List.length_filter_le _ _) (by rw [List.length_range];omega),znG hi hkd hT (by omega) hTu hKL k hk⟩
   have haw:=zqC wc (hg.below (hb1.mono hng)) (hp.stays hb1)
   have HC:Hid _:=(⟨hO,hL,hK,hb1,hB⟩:_∧_∧_∧_∧_)
   have HTE:Hid (ops'.length≤100):=by show _≤_;omega
   have HT:Hid _:=(⟨hsh,htl,fl,fo,hKL.1⟩:_∧_∧_∧_∧_)
   have HL:Hid _:=(⟨hL1,hL2,hon,hkd⟩:_∧_∧_∧_)
   clear hTu hO hL hK hb1 fl fo f3 hB hT hKL hsh htl hrd hself HA hL1 hL2 hon hten hcl hi13 hkd HM
   go_wp2_with fail
   refine haw.mono ?_
   rintro e w5 ⟨rfl,hb5⟩
   obtain ⟨hO,hL,hK,hb1,hB⟩:=HC.out
   have hB5:=(hb5.block _ (zBq hB)).trans hB
   have hL5:=zzF hL (Kept.of_below (S:=[]) hb5) (by simp)
   have hO5:=zzF hO (Kept.of_below (S:=[]) hb5) (by simp)
   have hK5:=zzF hK (Kept.of_below (S:=[]) hb5) (by simp)
   have hb15:Below w1.heap.size w1 w5:=hb1.trans (hb5.mono hb1.size)
   have c2:w5.cell? ⟨w2.heap.size,2,none⟩=some (.slice lo' lines'.length lc'):=zBk hB5 2
   have hlT:=zBq hB5
   have H5:Hid _:=(⟨hB5,hL5,hO5,hK5,hb15⟩:_∧_∧_∧_∧_)
   clear hO hL hK hb1 hB hB5 hL5 hO5 hK5 hb15 haw hb5
   have hTx:=text_any lo' lc' lines' w5 (fun hne=>zVUv H5.out.2.1 hne) (by have:=HT.out.2.2.1;omega) (fun l hl=>by have:=HT.out.1 l hl;omega)
   have HRU:Hid (∀ (tx:List UInt8) (V:World),tx.length≤2000000→Below w5.heap.size w5 V→Calls Tryz.prog 11 #[.string ⟨tx.toArray⟩,.string ⟨(modS i).toArray⟩,.int .i64 1099511627776] V fun e w'=>∃ out,zkp (modS i) tx 1099511627776 out∧e=.returned (.string ⟨out.toArray⟩)∧Below V.heap.size V w'):=by
    intro tx V h1 h2
    have hb15:=H5.out.2.2.2.2
    exact zVT tx (modS i) 1099511627776 V (hg.below ((hb15.trans (h2.mono hb15.size)).mono hng)) (hp.stays (hb15.trans (h2.mono hb15.size))) h1 (by decide)
   have HTL:Hid ((zhe lines').length≤2000000):=by have:=HT.out.2.1;have:=HT.out.2.2.1;show _≤_;omega
   go_wp2_with fail
   refine hTx.mono ?_
   rintro e w6 ⟨rfl,hb6⟩
   have hR6:=HRU.out (zhe lines') w6 HTL.out hb6
   have HB6:Hid _:=hb6
   clear hTx hb6
   go_wp2_with fail
   refine hR6.mono ?_
   rintro e w7 ⟨s,hs,rfl,hb7⟩
   have HB7:Hid (Below w5.heap.size w5 w7):=HB6.out.trans (hb7.mono HB6.out.size)
   have HSS:Hid _:=HL.out.2.1 s hs
   clear hs hb7 hR6 c2
   go_wp2_with fail
   go_loopw [13,14] (fun s13 s14 wr=>∃ (kn:Nat) (bd x:Int),s13=.int .i64 bd∧s14=.int .i64 x∧kn≤3∧ -1≤bd∧bd≤2∧Hid (x=(kn:Int) - 1)∧Hid (BadAt L kn bd)∧Hid (Below w5.heap.size w5 wr)) (fun _ s14 _=>(intOf s14+1).toNat)
   case atStart=>exact ⟨3,-1,2,rfl,rfl,by omega,by omega,by omega,by show (2:Int)=_;omega,.inl ⟨rfl,fun j h1 h2=>absurd h1 (by omega)⟩,HB7⟩
   case round=>
    clear HB7
    obtain ⟨kn,bd,x,rfl,rfl,hkn,hbd1,hbd2,HX,HBd,HBl⟩:=hrel
    cases kn with
    | zero=>
      have hx:x= -1:=by rw [HX.out];rfl
      subst hx
      have hb1:Hid (Below w1.heap.size w1 wr):=H5.out.2.2.2.2.trans (HBl.out.mono H5.out.2.2.2.2.size)
      clear HX
      rcases HBd.out with ⟨rfl,hall⟩ | ⟨j,rfl,-,hj3,hnl,hlt⟩
      · obtain ⟨r,es⟩:=HSS.out.1 (fun k hk=>hall k (by omega) hk)
        have hws:=zYT s r es
        clear es hall HBd HBl
        go_wp2_with fail
        refine (hws _).mono ?_
        rintro e w11 ⟨rfl,rfl⟩
        go_wp2_with fail
        go_ret
        exact ⟨hb1.out,rfl⟩
      · obtain ⟨r,es⟩:=HSS.out.2 j hj3 hnl (fun q hq=>hlt q (by omega) hq)
        have hqt:=fun V=>zy5 i hi HL.out.2.2.2 j hj3 V
        have hql:(qKey (keyS j)).length≤20:=by
         obtain rfl | rfl | rfl:j=0∨j=1∨j=2:=by omega
         all_goals decide
        have hj0:¬ (j:Int) < 0:=by omega
        generalize qKey (keyS j)=qq at hqt es hql
        have hbg:=fun V=>zUk ([73,76,76,69,71,65,76,32,112,97,114,116,61]++qq++[32,108,111,110,103,101,115,116,61]) r s es V
        have s1:(9223372036854775807 < 13+qq.length)=False:=by simp;omega
        have s2:(9223372036854775807 < 13+qq.length+9)=False:=by simp;omega
        have HB0:Hid _:=HBl.out
        have e3:(⟨#[73,76,76,69,71,65,76,32,112,97,114,116,61]⟩:ByteArray)++⟨qq.toArray⟩++⟨#[32,108,111,110,103,101,115,116,61]⟩=⟨([73,76,76,69,71,65,76,32,112,97,114,116,61]++qq++[32,108,111,110,103,101,115,116,61]).toArray⟩:=by
         rw [←zAs,←zAs]
        rw [←e3] at hbg
        clear es hlt hnl HBd HBl e3
        go_wp2_with fail
        refine (hqt _).mono ?_
        rintro e w11 ⟨rfl,hb11⟩
        have hb12:Hid (Below w1.heap.size w1 w11):=hb1.out.trans (hb11.mono hb1.out.size)
        clear hb11 hqt
        go_wp2_with fail
        refine (hbg _).mono ?_
        rintro e w12 ⟨rfl,rfl⟩
        go_wp2_with fail
        go_ret
        exact ⟨hb12.out,rfl⟩
    | succ km=>
      have hx:x=(km:Int):=by rw [HX.out];omega
      subst hx
      clear HX
      have hk3:km < 3:=by omega
      have hx0:(0:Int)≤(km:Int):=by omega
      obtain ⟨ht3,hl3,ho3⟩:=HL.out.2.2.1 km hk3
      have hT:=(HBl.out.block _ hlT).trans H5.out.1
      have c0:wr.cell? ⟨w2.heap.size,0,none⟩=some (.string ⟨(modS i).toArray⟩):=zBk hT 0
      have c1:wr.cell? ⟨w2.heap.size,1,none⟩=some (.slice oo' ops'.length oc'):=zBk hT 1
      have c2:wr.cell? ⟨w2.heap.size,2,none⟩=some (.slice lo' lines'.length lc'):=zBk hT 2
      have c3:wr.cell? ⟨w2.heap.size,3,none⟩=some (.slice ko keys.length kc):=zBk hT 3
      have hkB:=Kept.of_below (S:=[]) HBl.out
      have hon:=zGt i _ _ _ ops' lines' keys base km wr (by have:=HT.out.2.2.1;omega) HTE.out (by rw [HT.out.2.2.2.2,HT.out.2.2.2.1]) (zzF H5.out.2.2.1 hkB (by simp)) (zzF H5.out.2.1 hkB (by simp)) (zzF H5.out.2.2.2.1 hkB (by simp))
      rw [ho3] at hon
      have hsh3:=zkM i ht3
      have hrd3:=(zGe i hi ht3 (by omega)).2
      have hLk:=HL.out.1 km hk3
      generalize onL km ops' lines'=ls at hon hsh3 hrd3 hLk hl3
      clear ho3 ht3 hT hkB
      go_wp2_with fail
      refine hon.mono ?_
      rintro e w8 ⟨a8,c8,rfl,hown8,hb8⟩
      have HB8:Hid (Below w5.heap.size w5 w8):=HBl.out.trans (hb8.mono HBl.out.size)
      have hTx:=text_any a8 c8 ls w8 (fun hne=>zVUv hown8 hne) (by omega) (fun l hl=>by have:=hsh3 l hl;omega)
      clear hon hown8 hb8 hsh3 c0 c1 c2 c3
      go_wp2_with fail
      refine hTx.mono ?_
      rintro e w9 ⟨rfl,hb9⟩
      have HB9:Hid (Below w5.heap.size w5 w9):=HB8.out.trans (hb9.mono HB8.out.size)
      have hR:=HRU.out (zhe ls) w9 (by omega) HB9.out
      clear hTx hb9 HB8
      go_wp2_with fail
      refine hR.mono ?_
      rintro e w10 ⟨y,hy,rfl,hb10⟩
      have HB10:Hid (Below w5.heap.size w5 w10):=HB9.out.trans (hb10.mono HB9.out.size)
      have hv:=hLk y hy
      clear hR hb10 HB9 hy hLk hrd3 hl3
      rcases hv with ⟨hLy,r,ey⟩ | ⟨hLn,r,ey⟩
      · have hwy:=zYT y r ey
        have HN:Hid _:=HBd.out.yes hLy
        clear ey hLy HBd
        go_wp2_with fail
        refine (hwy _).mono ?_
        rintro e w11 ⟨rfl,rfl⟩
        go_wp2_with fail
        go_roundw
        case rel=>exact ⟨km,bd,_,rfl,rfl,by omega,hbd1,hbd2,rfl,HN,HB10⟩
        case measure=>simp [intOf]
      · have hwy:=z5Y y r ey
        have HN:Hid _:=BadAt.no hk3 hLn
        clear ey hLn HBd
        go_wp2_with fail
        refine (hwy _).mono ?_
        rintro e w11 ⟨rfl,rfl⟩
        go_wp2_with fail
        go_roundw
        case rel=>exact ⟨km,(km:Int),_,rfl,rfl,by omega,by omega,by omega,rfl,HN,HB10⟩
        case measure=>simp [intOf]
end Go.Proofs.YtlkidmafomjhgaaGreatDoor.keep
