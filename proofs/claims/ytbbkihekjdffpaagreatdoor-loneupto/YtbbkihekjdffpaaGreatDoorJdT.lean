/- Several texts in one. -/
import Derived.Test.YtbbkihekjdffpaaGreatDoorJdR
set_option maxHeartbeats 8000000
set_option maxRecDepth 100000
namespace Go.Proofs.YtbbkihekjdffpaaGreatDoor.jd
open Go.RowKit
open srch (vAg opAg tI OAt zOu idsT)
theorem zTT:(Tryz.prog.info? 48).map (fun i=>(i.zero,i.size,i.bytes))=some (some (.agg #[.bool false,.bool false,.int .i64 0,.int .i64 0]),4,24):=by kernel_rfl
def zf63 (kn is:Bool) (most many:Nat):List Value:=[.bool kn,.bool is,.int .i64 (most:Int),.int .i64 (many:Int)]
theorem zxQ (W:World) (base:Nat) (a:Option Addr) (n c:Nat) (xs:List Value) (kn is:Bool) (most many:Nat) (h:W.ownsRow base 48 4 (.slice a n c) n xs) (hn:n≤3000000) (hb:base≤W.heap.size):
 ∃ a' c' w',(Builtin.append_ #[36,36] 36 #[.slice a n c,.slice (some ⟨W.heap.size,0,none⟩) 1 1]).run Tryz.prog (W.alloc (.cells #[.bool kn,.bool is,.int .i64 (most:Int),.int .i64 (many:Int)] 48))=.ok (.slice a' (n+1) c') w'∧w'.ownsRow base 48 4 (.slice a' (n+1) c') (n+1) (xs++zf63 kn is most many)∧Kept (Value.slice a n c).ownBlock.toList W w':=by
 obtain ⟨i0,hi0',hz0,hz1,hz2⟩:=info_parts zTT
 obtain ⟨v7,w7,h1,h2,h3,_⟩:=run_append_own (P:=Tryz.prog) (W.alloc (.cells (zf63 kn is most many).toArray 48)) base 36 36 48 i0 _ 4 24 Tryz.underlying36 hi0' hz0 hz1 hz2 rfl (by decide) (.slice a n c) n xs (h.alloc _) ⟨W.heap.size,0,none⟩ 1 1 (zf63 kn is most many) rfl (z9R W _ _) (by intro u hu;simp [zf63] at hu;rcases hu with rfl | rfl | rfl | rfl <;> rfl) (by unfold maxLen;omega) (by omega) (by simp;omega)
 obtain ⟨a',c',rfl⟩:=zIW h2
 exact ⟨a',c',w7,h1,h2,((Kept.refl _ W).alloc _).grownS h3 (fun g' hg'=>by rw [hg'];simp)⟩
def zC4 (m:List UInt8) (ops:List OpV) (w:World) (e:Ending) (w':World):Prop:=
 ∃ L kn a c,Cfs m ops (roomP ops.length) L kn∧L.length≤600000∧e=.returned (.tuple #[.slice a 1 c,.int .i64 (L.length:Int)])∧w'.ownsRow w.heap.size 48 4 (.slice a 1 c) 1 (zf63 kn (isP ops L) (mostP L) L.length)∧Below w.heap.size w w'
theorem zT9 (m:List UInt8) (hm:five m) (oa:Option Addr) (oc:Nat) (ops:List OpV) (base:Nat) (a va:Option Addr) (c vc:Nat) (w:World) (ho:OAt w oa ops) (hP:OneP w base a c va vc (List.range ops.length)) (hol:ops.length≤1000) (hok:∀ o∈ops,okO o):
 Calls Tryz.prog 13 #[.string ⟨m.toArray⟩,.slice oa ops.length oc,.slice a 1 c] w (zC4 m ops w):=by
 have hrm:=fun w=>zKP ops.length hol w
 have hrl:=zhE ops.length
 have hj:=fun w ho hp=>znZ m hm oa va oc vc ops ops (List.range ops.length) (roomP ops.length) w ho hp (zOA ops) hol hol hok (by omega)
 rw [List.length_range] at hj
 have HP:Hid _:=hP
 obtain ⟨g,rfl,hg,hgb,_,p1,_⟩:=hP.cells
 rw [List.length_range] at p1
 go_enter Tryz.func13,Tryz.ntmps13
 go_wp2_with fail
 refine (hrm _).mono ?_
 rintro e w1 ⟨rfl,rfl⟩
 have hj1:=hj w1 ho hP.iat
 have HRM:Hid _:=hrl
 unfold zDK vdAg at hj1
 go_wp2_with fail
 go_loopw [8,10,11] (fun s8 s10 s11 wr=>(s11=.int .i64 0∧s8=.slice none 0 0∧s10=.int .i64 0∧w1=wr)∨(∃ L kn a c,s11=.int .i64 1∧s8=.slice a 1 c∧s10=.int .i64 ((L.length:Nat):Int)∧Hid (Cfs m ops (roomP ops.length) L kn∧L.length≤600000∧wr.ownsRow w1.heap.size 48 4 (.slice a 1 c) 1 (zf63 kn (isP ops L) (mostP L) L.length)∧Below w1.heap.size w1 wr))) (fun _ _ s11 _=>1 - (intOf s11).toNat)
 case atStart=>exact .inl ⟨rfl,rfl,rfl,rfl⟩
 case round=>
  rcases hrel with ⟨rfl,rfl,rfl,rfl⟩ | ⟨L,kn,a1,c1,rfl,rfl,rfl,HL⟩
  · go_wp2_with fail
    refine hj1.mono ?_
    rintro e w2 ⟨L,kn,hC,hLl,rfl,hb2⟩
    obtain ⟨W3,hW3,hb3,hV3⟩:∃ W3,w2.alloc (.cells #[.bool kn,.bool (isP ops L),.int .i64 (mostP L:Int),.int .i64 (L.length:Int)] 48)=W3∧Below w2.heap.size w2 W3∧W3.heap[w2.heap.size]?=some (.cells #[.bool kn,.bool (isP ops L),.int .i64 (mostP L:Int),.int .i64 (L.length:Int)] 48 (0,0)):=⟨_,rfl,(Below.refl _ _).alloc (Nat.le_refl _) _,ziF _ _ _ rfl⟩
    have hb13:Below w1.heap.size w1 W3:=hb2.trans (hb3.mono hb2.size)
    have v0:W3.cell? ⟨w2.heap.size,0,none⟩=some (.bool kn):=zBk hV3 0
    have v1:W3.cell? ⟨w2.heap.size,1,none⟩=some (.bool (isP ops L)):=zBk hV3 1
    have v2:W3.cell? ⟨w2.heap.size,2,none⟩=some (.int .i64 (mostP L:Int)):=zBk hV3 2
    have v3:W3.cell? ⟨w2.heap.size,3,none⟩=some (.int .i64 (L.length:Int)):=zBk hV3 3
    obtain ⟨a7,c7,w7,hap,own7,hk7⟩:=zxQ W3 w1.heap.size none 0 0 [] kn (isP ops L) (mostP L) L.length (World.ownsRow_nil _ _ _ _) (by omega) hb13.size
    have hap':(Builtin.append_ #[36,36] 36 #[.slice none 0 0,.slice (some ⟨W3.heap.size,0,none⟩) 1 1]).run Tryz.prog (W3.alloc (.cells #[.bool kn,.bool (isP ops L),.int .i64 (mostP L:Int),.int .i64 (L.length:Int)] 48))=.ok (.slice a7 1 c7) w7:=hap
    have hb37:Below W3.heap.size W3 w7:=hk7.below (Nat.le_refl _) (by simp [Value.ownBlock])
    have v7:w7.cell? ⟨w2.heap.size,3,none⟩=some (.int .i64 (L.length:Int)):=(hb37.cell (p:=⟨w2.heap.size,3,none⟩) (zBq hV3)).trans v3
    have hLL:L.length≤600000:=by have:=HRM.out;omega
    have hwl:IntKind.i64.wrap (L.length:Int)=(L.length:Int):=j64 (by omega) (by omega)
    have H7:Hid _:=(⟨hC,hLL,own7,hb13.trans (hb37.mono hb13.size)⟩:_∧_∧_∧_)
    clear hap own7 hk7 hV3 hb2 hb3 hb13 hb37 hC hj1
    go_wp2_with (at_builtin;refine zOu rfl _ _ 36 rfl _ _ _ _ rfl rfl hap' ?_)
    go_roundw
    case rel=>exact .inr ⟨L,kn,a7,c7,by go_num,rfl,rfl,H7⟩
    case measure=>simp [intOf]
  · go_wp2_with fail
    go_ret2
    exact ⟨L,kn,a1,c1,HL.out.1,HL.out.2.1,rfl,HL.out.2.2.1,HL.out.2.2.2⟩
theorem z2d {w:World} {base:Nat} {a:Option Addr} {c:Nat} {l:List Nat} (h:w.ownsRow base 3 1 (.slice a l.length c) l.length (zea l)):IAt w a l:=by
 intro hne
 rcases zzD h with ⟨_,e⟩ | ⟨g,cap,e,_,hb,hg⟩
 · exact absurd (List.length_eq_zero_iff.1 e) hne
 · injection e with e
   subst e
   exact ⟨g,rfl,hg,fun j x hj=>z99 h hj⟩
structure Known (ops:List OpV):Prop where
 few:ops.length≤1000
 ids:∀ o∈ops,wf64 o.id
 uniq:∀ (i j:Nat) (o o':OpV),ops[i]?=some o→ops[j]?=some o'→o.id=o'.id→i=j
 ok:∀ o∈ops,okO o
theorem zNB (m:List UInt8) (hm:five m) (oa va:Option Addr) (oc vc:Nat) (ops Q:List OpV) (pl:List Nat) (kn is:Bool) (most many:Nat) (cE:Cf) (w:World) (ho:OAt w oa ops) (hv:IAt w va (List.range ops.length)) (hK:Known ops) (hQ:zrE ops pl Q) (hnd:pl.Nodup) (hQl:Q.length≤1000) (hkn:kn=true→is=false∧pl.length=most) (hal:zdl (List.range ops.length) ops (cf0 m ops) pl=some cE):
 Calls Tryz.prog 17 #[.string ⟨m.toArray⟩,.slice oa ops.length oc,.agg #[.string ⟨#[]⟩,.slice va ops.length vc],vdAg kn is most many,.string ⟨(idsT Q).toArray⟩] w fun e w'=>e=.returned (.bool true)∧Below w.heap.size w w':=by
 have hid:=fun w ho=>ids_any oa oc ops Q pl w ho hQ hnd hK.few hQl hK.ids hK.uniq
 have hpl:pl.length≤1000:=by rw [hQ.1];exact hQl
 have hav:=fun ra rc w ho hp hr=>zi5 m hm oa va ra oc vc rc ops ops (List.range ops.length) pl w ho hp hr (zOA ops) hK.few hK.few hpl hK.ok cE hal
 rw [List.length_range] at hav
 unfold vdAg
 obtain ⟨W0,hW0,hb0,hP0,hV0⟩:∃ W0,(w.alloc (.cells #[.string ⟨#[]⟩,.slice va ops.length vc] 45)).alloc (.cells #[.bool kn,.bool is,.int .i64 (most:Int),.int .i64 (many:Int)] 48)=W0∧Below w.heap.size w W0∧W0.heap[w.heap.size]?=some (.cells #[.string ⟨#[]⟩,.slice va ops.length vc] 45 (0,0))∧W0.heap[w.heap.size+1]?=some (.cells #[.bool kn,.bool is,.int .i64 (most:Int),.int .i64 (many:Int)] 48 (0,0)):=by
  refine ⟨_,rfl,((Below.refl _ _).alloc (Nat.le_refl _) _).alloc (by simp) _,?_,ziF _ _ _ (by simp)⟩
  rw [zD1 _ _ _ (by simp)];exact ziF _ _ _ rfl
 have H0:Hid _:=(⟨hb0,hP0,hV0,ho,hv⟩:_∧_∧_∧_∧_)
 have hid0:=hid W0 (ho.below hb0)
 clear hb0 hP0 hV0 hid
 go_enter Tryz.func17,Tryz.ntmps17
 go_wp2_with fail
 refine hid0.mono ?_
 rintro e w1 ⟨a1,c1,rfl,hr1,hb1⟩
 have hV1:=(hb1.block _ (zBq H0.out.2.2.1)).trans H0.out.2.2.1
 have hP1:=(hb1.block _ (zBq H0.out.2.1)).trans H0.out.2.1
 have v0:w1.cell? ⟨w.heap.size+1,0,none⟩=some (.bool kn):=zBk hV1 0
 have v1:w1.cell? ⟨w.heap.size+1,1,none⟩=some (.bool is):=zBk hV1 1
 have v2:w1.cell? ⟨w.heap.size+1,2,none⟩=some (.int .i64 (most:Int)):=zBk hV1 2
 have hb01:Below w.heap.size w w1:=H0.out.1.trans (hb1.mono H0.out.1.size)
 have H1:Hid _:=(⟨hP1,hb01,z2d hr1⟩:_∧_∧_)
 clear hV1 hP1 hb01 hr1 hb1 hid0
 have key:∀ W:World,Below w1.heap.size w1 W→W.cell? ⟨w.heap.size,1,none⟩=some (.slice va ops.length vc)∧Calls Tryz.prog 38 #[.string ⟨m.toArray⟩,.slice oa ops.length oc,.slice va ops.length vc,.slice a1 pl.length c1] W fun e w'=>e=.returned (.tuple #[cAg cE,.bool true])∧Below W.heap.size W w':=fun W hW=>by
  have hbw:Below w.heap.size w W:=H1.out.2.1.trans (hW.mono H1.out.2.1.size)
  exact ⟨zBk ((hW.block _ (zBq H1.out.1)).trans H1.out.1) 1,hav a1 c1 W (H0.out.2.2.2.1.below hbw) (H0.out.2.2.2.2.below hbw) (H1.out.2.2.below hW)⟩
 have KEY:Hid _:=key
 clear key hav
 unfold cAg at KEY
 obtain ⟨p1,hal1⟩:=KEY.out w1 (Below.refl _ _)
 cases kn
 · go_wp2_with fail
   refine hal1.mono ?_
   rintro e w2 ⟨rfl,hb2⟩
   have HB2:Hid (Below w.heap.size w w2):=H1.out.2.1.trans (hb2.mono H1.out.2.1.size)
   clear hal1 hb2 p1
   go_wp2_with fail
   go_ret
   first | exact ⟨rfl,HB2.out⟩ | exact ⟨rfl,HB2.out.trans ((Below.refl _ _).alloc (Nat.le_refl _) _ |>.mono HB2.out.size)⟩
 · obtain ⟨rfl,hpm⟩:=hkn rfl
   have hpm':((pl.length:Int) == (most:Int))=true:=by simp [hpm]
   have hpn':((pl.length:Int) != (most:Int))=false:=by simp [hpm]
   have HPM:Hid _:=hpm
   clear hpm hkn
   go_wp2_with fail
   refine hal1.mono ?_
   rintro e w2 ⟨rfl,hb2⟩
   have HB2:Hid (Below w.heap.size w w2):=H1.out.2.1.trans (hb2.mono H1.out.2.1.size)
   clear hal1 hb2 p1
   go_wp2_with fail
   go_ret
   first | exact ⟨rfl,HB2.out⟩ | exact ⟨rfl,HB2.out.trans ((Below.refl _ _).alloc (Nat.le_refl _) _ |>.mono HB2.out.size)⟩
theorem zHO {part:List Nat} {P:List OpV} {c0 cE:Cf} {l:List Nat} (h:zdl part P c0 l=some cE):∀ (j x:Nat),l[j]?=some x→∃ k,part.idxOf? x=some k:=by
 intro j x hx
 obtain ⟨c',hc'⟩:=zYm h (j+1)
 have ht:l.take (j+1)=l.take j++[x]:=by rw [List.take_add_one,hx];rfl
 rw [ht,zDH] at hc'
 cases e:zdl part P c0 (l.take j) with
 | none=>rw [e] at hc';cases hc'
 | some d=>
   rw [e] at hc'
   unfold zam at hc'
   cases e2:part.idxOf? x with
   | none=>simp [e2] at hc'
   | some k=>exact ⟨k,rfl⟩
theorem zMx (m:List UInt8) (hm:lone3 m) (oa:Option Addr) (oc:Nat) (ops Q:List OpV) (pl:List Nat) (cE:Cf) (w:World) (ho:OAt w oa ops) (hK:Known ops) (hkey:∀ o∈ops,o.key=[]) (hQ:zrE ops pl Q) (hnd:pl.Nodup) (hQl:Q.length≤1000) (hord:z8Z Q) (hal:zdl (List.range ops.length) ops (cf0 m ops) pl=some cE) (hwh:z0d ops cE.1=true):
 Calls Tryz.prog 15 #[.string ⟨m.toArray⟩,.slice oa ops.length oc,.string ⟨(idsT Q).toArray⟩] w fun e w'=>e=.returned (.bool true)∧Below w.heap.size w w':=by
 have hid:=ids_any oa oc ops Q pl w ho hQ hnd hK.few hQl hK.ids hK.uniq
 have hpl:pl.length≤1000:=by rw [hQ.1];exact hQl
 have hor:=fun ra rc w ho hr=>zS4 oa ra oc rc ops Q pl w ho hr hQ hQl hord
 have hpt:=fun w ho=>zYO m hm oa oc ops w ho hK.few hkey
 have hplc:=fun va vc x w hp=>zVC va vc (List.range ops.length) x w hp (by rw [List.length_range];exact hK.few)
 have hav:=fun va vc ra rc w ho hp hr=>zi5 m hm.five oa va ra oc vc rc ops ops (List.range ops.length) pl w ho hp hr (zOA ops) hK.few hK.few hpl hK.ok cE hal
 have hokE:okC ops cE:=(zPe (by simp) _ _ rfl cE hal).ok hK.ok (z7m m ops)
 have hwl:=fun va vc w ho hp=>zu4 oa va oc vc ops ops (List.range ops.length) cE.1 w ho hp (zOA ops) hokE.1 hK.few
 rw [List.length_range] at hplc hav hwl
 rw [hwh] at hwl
 have HAT:Hid (OAt w oa ops):=ho
 have hin:=zHO hal
 unfold cAg at hav
 go_enter Tryz.func15,Tryz.ntmps15
 go_wp2_with fail
 refine hid.mono ?_
 rintro e w1 ⟨a1,c1,rfl,hr1,hb1⟩
 have hor1:=hor a1 c1 w1 (HAT.out.below hb1) (z2d hr1)
 have H1:Hid (Below w.heap.size w w1∧IAt w1 a1 pl):=⟨hb1,z2d hr1⟩
 clear hid hor hb1 hr1
 go_wp2_with fail
 refine hor1.mono ?_
 rintro e w2 ⟨rfl,hb2⟩
 have B2:Hid (Below w.heap.size w w2):=H1.out.1.trans (hb2.mono H1.out.1.size)
 have R2:Hid (IAt w2 a1 pl):=H1.out.2.below hb2
 have hpt2:=hpt w2 (HAT.out.below B2.out)
 clear hor1 hb2 H1 hpt
 go_wp2_with fail
 refine hpt2.mono ?_
 rintro e w3 ⟨a3,c3,va,vc,rfl,hP3,hb3⟩
 have B3:Hid (Below w.heap.size w w3):=B2.out.trans (hb3.mono B2.out.size)
 have R3:Hid (IAt w3 a1 pl):=R2.out.below hb3
 have HP:Hid _:=hP3
 obtain ⟨g,rfl,hg,hgb,_,p1,_⟩:=hP3.cells
 rw [List.length_range] at p1
 have HC:Hid (∀ V:World,Below w3.heap.size w3 V→V.cell? ⟨g,1,none⟩=some (.slice va ops.length vc)∧IAt V va (List.range ops.length)∧OAt V oa ops∧IAt V a1 pl):=fun V hV=>⟨(hV.cell (p:=⟨g,1,none⟩) hg).trans p1,HP.out.iat.below hV,HAT.out.below (B3.out.trans (hV.mono B3.out.size)),R3.out.below hV⟩
 clear hpt2 hb3 hP3 R2 B2 hgb
 go_wp2_with fail
 go_loopw [11] (fun s11 wr=>(s11=.int .i64 0∨s11=.int .i64 1)∧Hid (Below w3.heap.size w3 wr)) (fun s11 _=>1 - (intOf s11).toNat)
 case atStart=>exact ⟨.inl rfl,Below.refl _ _⟩
 case round=>
  obtain ⟨h01,HB⟩:=hrel
  rcases h01 with rfl | rfl
  · obtain ⟨wy,rfl⟩:∃ wy:World,wy=wr:=⟨_,rfl⟩
    go_wp2_with fail
    go_loopw [12,13] (fun s12 s13 wx=>∃ (k:Nat) (a:Option Addr) (c:Nat),s12=.slice a k c∧s13=.int .i64 (k:Int)∧k≤pl.length∧Hid (wx.ownsRow wy.heap.size 3 1 (.slice a k c) k (zea (pl.take k)))∧Hid (Below wy.heap.size wy wx)) (fun _ s13 _=>pl.length - (intOf s13).toNat)
    case atStart=>exact ⟨0,none,0,rfl,rfl,by omega,World.ownsRow_nil _ _ _ _,Below.refl _ _⟩
    case round=>
     obtain ⟨k,a,c,rfl,rfl,hk,HR,HX⟩:=hrel
     have HX3:Hid (Below w3.heap.size w3 wr):=HB.out.trans (HX.out.mono HB.out.size)
     obtain ⟨p2,i2,o2,r2⟩:=HC.out wr HX3.out
     by_cases hkl:k < pl.length
     · have hkl':(k:Int) < (pl.length:Int):=by omega
       have hwk:IntKind.i64.wrap ((k:Int)+1)=(k:Int)+1:=by go_arith
       obtain ⟨x,hx⟩:∃ x,pl[k]?=some x:=⟨_,List.getElem?_eq_getElem hkl⟩
       obtain ⟨q,hq⟩:=hin k x hx
       obtain ⟨gr,rfl,hgr,hrc⟩:=r2 (by rintro rfl;simp at hx)
       have xk:=hrc k x hx
       have HPC:Hid (∀ V:World,Below wr.heap.size wr V→Calls Tryz.prog 37 #[.slice va ops.length vc,.int .i64 (x:Int)] V fun e w'=>e=.returned (.int .i64 (q:Int))∧Below V.heap.size V w'):=fun V hV=>by
        have h:=hplc va vc x V (i2.below hV)
        rw [show z04 (List.range ops.length) x=(q:Int) by unfold z04;rw [hq]] at h
        exact h
       have hq0:(0:Int)≤(q:Int):=by omega
       have HSS:Hid (∀ V:World,Below wr.heap.size wr V→V.cell? ⟨g,1,none⟩=some (.slice va ops.length vc)∧V.cell? ⟨gr,k,none⟩=some (.int .i64 (x:Int))):=fun V hV=>⟨(HC.out V (HX3.out.trans (hV.mono HX3.out.size))).1,(hV.cell (p:=⟨gr,k,none⟩) hgr).trans xk⟩
       have HBD:Hid (Below wr.heap.size wr wr.drew):=(Below.refl _ _).drew
       have hpcd:=HPC.out wr.drew HBD.out
       clear hrc r2 i2 o2 HPC
       go_wp2_with fail
       go_cut [14] (fun a wx=>a=.int .i64 (q:Int)∧Below wr.heap.size wr wx)
       case first=>
        go_region_held3 (fun w'=>w'.cell? ⟨g,1,none⟩=some (.slice va ops.length vc)∧w'.cell? ⟨gr,k,none⟩=some (.int .i64 (x:Int))) (first | (with_reducible exact hS5) | go_keep) (first
         | (go_at_call 37;refine hpcd.mono ?_;rintro e w5 ⟨rfl,hb5⟩;have hk5:=HBD.out.trans hb5;have hS5:=HSS.out _ hk5;have HB5:=srch.Hid.mk' hk5;clear hb5 hk5 hpcd))
        go_wp2
        go_meet
        exact ⟨rfl,HB5.out⟩
       case rest=>
        obtain ⟨rfl,hb5⟩:=hcut
        obtain ⟨s1,s2⟩:=HSS.out wc hb5
        have hR5:=zmP HR.out (Kept.of_below (S:=[]) hb5) (by simp)
        have hbw5:Below wy.heap.size wy wc:=HX.out.trans (hb5.mono HX.out.size)
        obtain ⟨a7,c7,w7,hap,own7,hk7⟩:=zla false wc wy.heap.size a k c (zea (pl.take k)) (x:Int) hR5 (by omega) hbw5.size
        have hap':(Builtin.append_ #[43,43] 43 #[.slice a k c,.slice (some ⟨wc.heap.size,0,none⟩) 1 1]).run Tryz.prog (wc.alloc (.cells #[.int .i64 (x:Int)] 3))=.ok (.slice a7 (k+1) c7) w7:=hap
        have ht:pl.take (k+1)=pl.take k++[x]:=by rw [List.take_add_one,hx];rfl
        rw [←zyv,←ht] at own7
        have HO7:Hid _:=own7
        have HB7:Hid (Below wy.heap.size wy w7):=hbw5.trans (hk7.below hbw5.size (fun g hg=>(hR5.lt g (by simpa using hg)).1))
        clear hap own7 hk7 ht hb5 hR5 hbw5 hpcd p2 xk s1
        go_wp2_with (at_builtin;refine zOu rfl _ _ 43 rfl _ _ _ _ rfl rfl hap' ?_)
        go_roundw
        case rel=>exact ⟨k+1,a7,c7,rfl,by go_num,by omega,HO7,HB7⟩
        case measure=>simp [intOf];omega
     · obtain rfl:k=pl.length:=by omega
       have hkl':¬ (pl.length:Int) < (pl.length:Int):=by omega
       have hRo:=HR.out
       rw [List.take_length] at hRo
       have ha1:=hav va vc a c wr o2 i2 (z2d hRo)
       clear r2 hRo
       go_wp2_with fail
       refine ha1.mono ?_
       rintro e w5 ⟨rfl,hb5⟩
       have hb35:Below w3.heap.size w3 w5:=HX3.out.trans (hb5.mono HX3.out.size)
       obtain ⟨W6,hW6,hb6,hC6⟩:∃ W6,w5.alloc (.cells #[.string ⟨cE.1.toArray⟩,.string ⟨cE.2.toArray⟩] 82)=W6∧Below w5.heap.size w5 W6∧W6.heap[w5.heap.size]?=some (.cells #[.string ⟨cE.1.toArray⟩,.string ⟨cE.2.toArray⟩] 82 (0,0)):=⟨_,rfl,(Below.refl _ _).alloc (Nat.le_refl _) _,ziF _ _ _ rfl⟩
       have hb36:Below w3.heap.size w3 W6:=hb35.trans (hb6.mono hb35.size)
       obtain ⟨p6,i6,o6,_⟩:=HC.out W6 hb36
       have d0:W6.cell? ⟨w5.heap.size,0,none⟩=some (.string ⟨cE.1.toArray⟩):=zBk hC6 0
       have HB6:Hid _:=hb36
       have HW6:Hid (∀ V:World,Below W6.heap.size W6 V→Calls Tryz.prog 39 #[.slice oa ops.length oc,.slice va ops.length vc,.string ⟨cE.1.toArray⟩] V fun e w'=>e=.returned (.bool true)∧Below V.heap.size V w'):=fun V hV=>hwl va vc V (o6.below hV) (i6.below hV)
       have hl5:=zBq hC6
       have HS6:Hid (∀ V:World,Below W6.heap.size W6 V→V.cell? ⟨g,1,none⟩=some (.slice va ops.length vc)∧V.cell? ⟨w5.heap.size,0,none⟩=some (.string ⟨cE.1.toArray⟩)):=fun V hV=>⟨(HC.out V (HB6.out.trans (hV.mono HB6.out.size))).1,(hV.cell (p:=⟨w5.heap.size,0,none⟩) hl5).trans d0⟩
       have HBD:Hid (Below W6.heap.size W6 W6.drew):=(Below.refl _ _).drew
       have hwd:=HW6.out W6.drew HBD.out
       clear ha1 hb5 hb35 hb6 hC6 hb36 i6 o6 i2 o2 HW6
       go_wp2_with fail
       go_cut [17] (fun a wx=>a=.bool true∧Below W6.heap.size W6 wx)
       case first=>
        go_region_held3 (fun w'=>w'.cell? ⟨g,1,none⟩=some (.slice va ops.length vc)∧w'.cell? ⟨w5.heap.size,0,none⟩=some (.string ⟨cE.1.toArray⟩)) (first | (with_reducible exact hS5) | go_keep) (first
         | (go_at_call 39;refine hwd.mono ?_;rintro e w7 ⟨rfl,hb7⟩;have hk5:=HBD.out.trans hb7;have hS5:=HS6.out _ hk5;have HB7:=srch.Hid.mk' hk5;clear hb7 hk5 hwd))
        go_wp2
        go_meet
        exact ⟨rfl,HB7.out⟩
       case rest=>
        obtain ⟨rfl,hb7⟩:=hcut
        have HBE:Hid (Below w3.heap.size w3 wc):=HB6.out.trans (hb7.mono HB6.out.size)
        clear hb7 hwd p6 d0
        go_wp2_with fail
        go_roundw
        case rel=>exact ⟨.inr (by go_num),HBE⟩
        case measure=>simp [intOf]
  · go_wp2_with fail
    go_ret
    exact ⟨rfl,B3.out.trans (HB.out.mono B3.out.size)⟩
end Go.Proofs.YtbbkihekjdffpaaGreatDoor.jd
