/- Several texts in one. -/
import Derived.Test.YtlkidmafomjhgaaGreatDoorKeepZc
set_option maxHeartbeats 8000000
set_option maxRecDepth 100000
namespace Go.Proofs.YtlkidmafomjhgaaGreatDoor.keep
open Go.RowKit
theorem zzZ (n:Nat) (hn:n≤1000) (w:World):(Instr.makeSlice 24 (.int .i64 (n:Int)) (.int .i64 (n:Int))).run Tryz.prog w=.ok (.slice (some ⟨w.heap.size,0,none⟩) n n) (w.alloc (.cells (madeCells #[.string ⟨#[]⟩] n) 9)):=by
 obtain ⟨i0,hi0',hz0,hz1,hz2⟩:=info_parts strInfo
 have h:=run_makeSlice (P:=Tryz.prog) w 24 9 i0 _ Tryz.underlying24 hi0' hz0 .i64 .i64 (n:Int) (n:Int) (by omega) (Int.le_refl _) (by rw [hz1];omega) (by rw [hz2];omega) (by omega)
 rw [hz1,show ((n:Int)).toNat=n by omega,Nat.mul_one] at h
 exact h
theorem z9N (n:Nat):(madeCells #[.string ⟨#[]⟩] n).toList=strCells (List.replicate n []):=by
 apply List.ext_getElem?
 intro j
 unfold strCells
 rw [Array.getElem?_toList,List.getElem?_map,List.getElem?_replicate]
 by_cases h:j < n
 · have:j % 1=0:=Nat.mod_one j
   simp [madeCells,h,this]
 · simp [madeCells,h]
def RN (F C:Int→Int) (i:Nat) (ops:List OpV) (keys:List Nat) (j:Nat) (ls:List (List UInt8)):Prop:=∀ (a:Nat) (o:OpV) (kk:Nat),a < j→ops[a]?=some o→keys[a]?=some kk→
 (∃ d,ls[(o.call - 1).toNat]?=some (zdF (zSt i) (F o.id) (C o.cl) o.name o.arg o.exp kk d).1)∧(o.ret≠0→∃ d,ls[(o.ret - 1).toNat]?=some (zZ7 (F o.id) o.vk o.vn d).1)
def zq9 (ops:List OpV):Prop:=∀ (a b:Nat) (x y:OpV),ops[a]?=some x→ops[b]?=some y→(x.call=y.call→a=b)∧(x.ret≠0→x.ret≠y.call∧(x.ret=y.ret→a=b))
theorem RN.call {F C:Int→Int} {i:Nat} {ops:List OpV} {keys:List Nat} {j:Nat} {ls:List (List UInt8)} (h:RN F C i ops keys j ls) (hap:zq9 ops) (hin:∀ o∈ops,1≤o.call∧(o.ret≠0→1≤o.ret)) {o:OpV} (hj:ops[j]?=some o) (l:List UInt8):RN F C i ops keys j (ls.set (o.call - 1).toNat l):=by
 intro a x kk ha hx hk
 obtain ⟨⟨d,h1⟩,h2⟩:=h a x kk ha hx hk
 have e1:=hap a j x o hx hj
 have b1:=hin x (List.mem_of_getElem? hx)
 have b2:=hin o (List.mem_of_getElem? hj)
 refine ⟨⟨d,?_⟩,fun hz=>?_⟩
 · rw [List.getElem?_set_ne (by have:=fun e=>Nat.ne_of_lt ha (e1.1 e);omega)];exact h1
 · obtain ⟨d',h3⟩:=h2 hz
   refine ⟨d',?_⟩
   rw [List.getElem?_set_ne (by have:=(e1.2 hz).1;have:=b1.2 hz;omega)];exact h3
theorem RN.ret {F C:Int→Int} {i:Nat} {ops:List OpV} {keys:List Nat} {j:Nat} {ls:List (List UInt8)} (h:RN F C i ops keys j ls) (hap:zq9 ops) (hin:∀ o∈ops,1≤o.call∧(o.ret≠0→1≤o.ret)) {o:OpV} (hj:ops[j]?=some o) (hz:o.ret≠0) (l:List UInt8):RN F C i ops keys j (ls.set (o.ret - 1).toNat l):=by
 intro a x kk ha hx hk
 obtain ⟨⟨d,h1⟩,h2⟩:=h a x kk ha hx hk
 have e1:=hap a j x o hx hj
 have e2:=hap j a o x hj hx
 have b1:=hin x (List.mem_of_getElem? hx)
 have b2:=(hin o (List.mem_of_getElem? hj)).2 hz
 refine ⟨⟨d,?_⟩,fun hz'=>?_⟩
 · rw [List.getElem?_set_ne (by have:=(e2.2 hz).1;omega)];exact h1
 · obtain ⟨d',h3⟩:=h2 hz'
   refine ⟨d',?_⟩
   rw [List.getElem?_set_ne (by have:=fun e=>Nat.ne_of_lt ha ((e1.2 hz').2 e);have:=b1.2 hz';omega)];exact h3
theorem RN.next {F C:Int→Int} {i:Nat} {ops:List OpV} {keys:List Nat} {j:Nat} {ls:List (List UInt8)} (h:RN F C i ops keys j ls) {o:OpV} {kk:Nat} (hj:ops[j]?=some o) (hk:keys[j]?=some kk)
 (h1:∃ d,ls[(o.call - 1).toNat]?=some (zdF (zSt i) (F o.id) (C o.cl) o.name o.arg o.exp kk d).1) (h2:o.ret≠0→∃ d,ls[(o.ret - 1).toNat]?=some (zZ7 (F o.id) o.vk o.vn d).1):RN F C i ops keys (j+1) ls:=by
 intro a x kq ha hx hq
 by_cases e:a=j
 · subst e
   rw [hj] at hx;injection hx with hx;subst hx
   rw [hk] at hq;injection hq with hq;subst hq
   exact ⟨h1,h2⟩
 · exact h a x kq (by omega) hx hq
theorem zf6H {W:World} {G:Nat} {cur:Array Value} {ls:List (List UInt8)} (h:W.heap[G]?=some (.cells cur 9 (0,0))) (hc:cur.toList=strCells ls) (x:Nat) (l:List UInt8):
 ∃ cur',(W.setCell ⟨G,x,none⟩ (.string ⟨l.toArray⟩)).heap[G]?=some (.cells cur' 9 (0,0))∧cur'.toList=strCells (ls.set x l):=by
 refine ⟨_,zFg h x _,?_⟩
 rw [Array.toList_setIfInBounds,hc]
 unfold strCells
 rw [List.map_set]
structure RI (w W1:World) (F C:Int→Int) (i b G:Nat) (sv:Value) (code:List Int) (ops:List OpV) (keys:List Nat) (n j:Nat) (ls:List (List UInt8)) (dd:List Int) (cur:Array Value) (wr:World):Prop where
 len:ls.length=n
 row:wr.heap[G]?=some (.cells cur 9 (0,0))
 txt:cur.toList=strCells ls
 rn:RN F C i ops keys j ls
 dice:Dice wr b sv code dd
 kept:Kept [b,G] W1 wr
def OK1 (n:Nat) (keys:List Nat) (ops:List OpV):Prop:=∀ (j:Nat) (o:OpV),ops[j]?=some o→∃ kk,keys[j]?=some kk∧kk < 3∧(-20≤o.id∧o.id≤1000)∧(-1≤o.cl∧o.cl≤1)∧small o.arg∧small o.exp∧o.name.length≤5∧(1≤o.call∧o.call≤(n:Int))∧(o.ret≠0→1≤o.ret∧o.ret≤(n:Int)∧zVP o.vk o.vn)
theorem Turned.ok1 {i:Nat} (hi:i < 5) {ops0 ops:List OpV} {lines0 lines:List (List UInt8)} {keys:List Nat} (h:Tells i ops0 lines0) (hl:lines0.length≤100) (t:Turned ops0 ops lines0 lines) (hk:KL i keys ops0):OK1 lines.length keys ops∧zq9 ops:=by
 obtain ⟨f1,f2,f3⟩:=t.form hi h
 have back:∀ (j:Nat) (o:OpV),ops[j]?=some o→∃ o0,ops0[j]?=some o0∧∃ vk vn,o={ o0 with vk:=vk,vn:=vn }:=by
  intro j o hj
  cases hj0:ops0[j]? with
  | none=>rw [List.getElem?_eq_none (by rw [f2];exact List.getElem?_eq_none_iff.1 hj0)] at hj;cases hj
  | some o0=>
    obtain ⟨vk,vn,e,_⟩:=f3 j o0 hj0
    rw [hj] at e
    injection e with e
    exact ⟨o0,rfl,vk,vn,e⟩
 constructor
 · intro j o hj
   obtain ⟨o0,hj0,vk,vn,rfl⟩:=back j o hj
   obtain ⟨vk',vn',e,_,g,_⟩:=f3 j o0 hj0
   rw [hj] at e
   injection e with e
   injection e with _ _ _ _ _ _ _ _ e1 e2
   subst e1;subst e2
   obtain ⟨kk,hk1,hk2,_⟩:=hk.2 j o0 hj0
   have hid:=h.ids j o0 hj0
   have hlt:=(List.getElem?_eq_some_iff.1 hj0).1
   have hle:=h.len
   have hin:=h.lines_in o0 (List.mem_of_getElem? hj0)
   obtain ⟨⟨k,hk',hn⟩,ha,he,_,_⟩:=h.gives hi o0 (List.mem_of_getElem? hj0)
   refine ⟨kk,hk1,hk2,⟨by show -20≤o0.id;omega,by show o0.id≤1000;omega⟩,hin.2.2.2,ha,he,by show o0.name.length≤5;rw [hn];exact z1j i k,⟨hin.1,by rw [f1];exact hin.2.1⟩,fun hz=>⟨(hin.2.2.1 hz).1,by rw [f1];exact (hin.2.2.1 hz).2,z3e ((g hz).1 k hk' hn)⟩⟩
 · intro a b' x y hx hy
   obtain ⟨x0,hx0,_,_,rfl⟩:=back a x hx
   obtain ⟨y0,hy0,_,_,rfl⟩:=back b' y hy
   exact h.apart a b' x0 y0 hx0 hy0
theorem zPX {M x a c:Int} (h0:1≤M) (h1:M≤50) (ha: -a≤x) (hc:x≤c) (ha0:0≤a) (hc0:0≤c): -(50*a)≤M*x∧M*x≤50*c:=by
 have e1:M*x≤M*c:=Int.mul_le_mul_of_nonneg_left hc (by omega)
 have e2:M*c≤50*c:=Int.mul_le_mul_of_nonneg_right h1 hc0
 have e3:M*(-a)≤M*x:=Int.mul_le_mul_of_nonneg_left ha (by omega)
 have e4:M*a≤50*a:=Int.mul_le_mul_of_nonneg_right h1 ha0
 rw [Int.mul_neg] at e3
 exact ⟨by omega,by omega⟩
theorem zD7 (i:Nat) (hi:i < 5) (vo vl vk:Value) (ops:List OpV) (lines:List (List UInt8)) (keys:List Nat) (n:Int) (hn:zRK n) (base:Nat) (w:World) (hl:lines.length≤100) (hok1:OK1 lines.length keys ops) (hapo:zq9 ops) (hkl:keys.length=ops.length) (hol:ops.length≤100)
 (ho:w.ownsRow base 48 10 vo ops.length (opsRow ops)) (hln:w.ownsRow base 9 1 vl lines.length (strCells lines)) (hky:w.ownsRow base 3 1 vk keys.length (zXD keys)) (b:Nat) (sv:Value) (code d:List Int) (hd:Dice w b sv code d):
 Calls Tryz.prog 13 #[.agg #[.string ⟨(modS i).toArray⟩,vo,vl,vk],.pointer (some ⟨b,0,none⟩),.int .i64 n] w fun e w'=>∃ g,e=.returned (.slice (some ⟨g,0,none⟩) lines.length lines.length)∧∃ ls,SRow w' g ls∧ls.length=lines.length∧
  RN (fun x=>3 - (1+(pickP n 50:Int))*x) (fun x=>(1+(pickP n 50:Int))*x+11) i ops keys ops.length ls∧Kept [b] w w':=by
 obtain ⟨lo,lc,rfl⟩:=zIW hln
 obtain ⟨oo,oc,rfl⟩:=zIW ho
 obtain ⟨ko,kc,rfl⟩:=zIW hky
 have hpk:=fun W=>z5u n 50 W hn.1 hn.2 (by decide)
 have hmk:=zzZ lines.length (by omega)
 have hm50:=zdA n (show 0 < 50 by decide)
 generalize pickP n 50=m at hpk hm50
 obtain ⟨M,hM⟩:∃ M:Int,M=1+(m:Int):=⟨_,rfl⟩
 have hw0:IntKind.i64.wrap (1+(m:Int))=M:=by rw [z6Xb (by omega) (by omega)];exact hM.symm
 have hM1:1≤M∧M≤50:=⟨by omega,by omega⟩
 rw [←hM]
 obtain ⟨F,hF⟩:∃ F:Int→Int,F=fun x=>3 - M*x:=⟨_,rfl⟩
 obtain ⟨C,hC⟩:∃ C:Int→Int,C=fun x=>M*x+11:=⟨_,rfl⟩
 rw [←hF,←hC]
 obtain ⟨W1,hW1,hb1,hT1,hG1⟩:∃ W1,(w.alloc (.cells #[.string ⟨(modS i).toArray⟩,.slice oo ops.length oc,.slice lo lines.length lc,.slice ko keys.length kc] 26)).alloc (.cells (madeCells #[.string ⟨#[]⟩] lines.length) 9)=W1∧Below w.heap.size w W1∧
  W1.heap[w.heap.size]?=some (.cells #[.string ⟨(modS i).toArray⟩,.slice oo ops.length oc,.slice lo lines.length lc,.slice ko keys.length kc] 26 (0,0))∧W1.heap[w.heap.size+1]?=some (.cells (madeCells #[.string ⟨#[]⟩] lines.length) 9 (0,0)):=by
  refine ⟨_,rfl,((Below.refl _ _).alloc (Nat.le_refl _) _).alloc (by simp) _,?_,ziF _ _ _ (by simp)⟩
  rw [zD1 _ _ _ (by simp)];exact ziF _ _ _ rfl
 have hbw:=hd.lt
 have hI0:Hid (RI w W1 F C i b (w.heap.size+1) sv code ops keys lines.length 0 (List.replicate lines.length []) d (madeCells #[.string ⟨#[]⟩] lines.length) W1):=
  ⟨by simp,hG1,z9N _,fun a o kk ha=>absurd ha (by omega),hd.below hb1,Kept.refl _ _⟩
 have HA:Hid _:=(⟨hok1,hapo,hM1,hF,hC,hkl⟩:_∧_∧_∧_∧_∧_)
 have HB:Hid _:=(⟨ho,hky,hd,hb1,hT1⟩:_∧_∧_∧_∧_)
 clear hok1 hapo hM1 hF hC hkl ho hky hd hb1 hT1 hG1 hM hm50 hln
 go_enter Tryz.func13,Tryz.ntmps13
 go_wp2_with fail
 refine (hpk _).mono ?_
 rintro e W0 ⟨rfl,rfl⟩
 go_wp2_with fail
 obtain ⟨G,hGe⟩:∃ G,G=w.heap.size+1:=⟨_,rfl⟩
 rw [←hGe] at hI0 ⊢
 have HGE:Hid _:=hGe
 clear hGe
 go_loopw [9] (fun s9 wr=>∃ (j:Nat) (ls:List (List UInt8)) (dd:List Int) (cur:Array Value),s9=.int .i64 (j:Int)∧j≤ops.length∧Hid (RI w W1 F C i b G sv code ops keys lines.length j ls dd cur wr)) (fun s9 _=>ops.length - (intOf s9).toNat)
 case atStart=>exact ⟨0,_,_,_,rfl,by omega,hI0⟩
 case round=>
  clear hI0
  obtain ⟨j,ls,dd,cur,rfl,hj,HI⟩:=hrel
  have hGe:=HGE.out
  have hT:=(HI.out.kept.block w.heap.size (zBq HB.out.2.2.2.2) (by simp;omega)).trans HB.out.2.2.2.2
  have t1:wr.cell? ⟨w.heap.size,1,none⟩=some (.slice oo ops.length oc):=zBk hT 1
  by_cases hin:j < ops.length
  · have hin':(j:Int) < (ops.length:Int):=by omega
    obtain ⟨o,hoj⟩:∃ o,ops[j]?=some o:=⟨_,List.getElem?_eq_getElem hin⟩
    have hoe:ops[j]=o:=by rw [List.getElem?_eq_getElem hin] at hoj;injection hoj
    obtain ⟨kk,hkj,hk3,hid,hcl,hsa,hse,hnl,hcall,hret⟩:=HA.out.1 j o hoj
    have hM1:=HA.out.2.2.1
    have hr1:=zPX (x:=o.id) (a:=20) (c:=1000) hM1.1 hM1.2 hid.1 hid.2 (by decide) (by decide)
    have hr2:=zPX (x:=o.cl) (a:=1) (c:=1) hM1.1 hM1.2 hcl.1 hcl.2 (by decide) (by decide)
    obtain ⟨P1,hP1⟩:∃ P1,M*o.id=P1:=⟨_,rfl⟩
    obtain ⟨P2,hP2⟩:∃ P2,M*o.cl=P2:=⟨_,rfl⟩
    rw [hP1] at hr1
    rw [hP2] at hr2
    obtain ⟨N1,hN1⟩:∃ N1,3 - P1=N1:=⟨_,rfl⟩
    obtain ⟨N2,hN2⟩:∃ N2,P2+11=N2:=⟨_,rfl⟩
    have hw1:IntKind.i64.wrap (M*o.id)=P1:=by rw [hP1];exact z6Xb (by omega) (by omega)
    have hw2:IntKind.i64.wrap (3 - P1)=N1:=by rw [hN1];exact z6Xb (by omega) (by omega)
    have hw3:IntKind.i64.wrap (M*o.cl)=P2:=by rw [hP2];exact z6Xb (by omega) (by omega)
    have hw4:IntKind.i64.wrap (P2+11)=N2:=by rw [hN2];exact z6Xb (by omega) (by omega)
    have hn1: -1000000 < N1∧N1 < 1000000:=⟨by omega,by omega⟩
    have hn2:small N2:=⟨by omega,by omega⟩
    have HFN:Hid (F o.id=N1∧C o.cl=N2):=⟨by rw [HA.out.2.2.2.1];show 3 - M*o.id=N1;rw [hP1,hN1],by rw [HA.out.2.2.2.2.1];show M*o.cl+11=N2;rw [hP2,hN2]⟩
    have hbw':=hbw
    obtain ⟨g,rfl,hg,hgb⟩:∃ g,oo=some ⟨g,0,none⟩∧g < w.heap.size∧g≠b:=by
     rcases HB.out.1.2 with ⟨_,e⟩ | ⟨g,cap,cu,e,_,hgb,_⟩
     · omega
     · injection e with e
       obtain ⟨kd,_,_,hdb⟩:=HB.out.2.2.1.blk
       refine ⟨g,e,zBq hgb,fun e2=>?_⟩
       rw [e2,hdb] at hgb
       injection hgb with hgb
       injection hgb with _ hgb
       revert hgb;decide
    obtain ⟨gk,rfl,hgk,hgkb⟩:∃ g,ko=some ⟨g,0,none⟩∧g < w.heap.size∧g≠b:=by
     have hkl:=HA.out.2.2.2.2.2
     rcases HB.out.2.1.2 with ⟨_,e⟩ | ⟨g,cap,cu,e,_,hgb,_⟩
     · omega
     · injection e with e
       obtain ⟨kd,_,_,hdb⟩:=HB.out.2.2.1.blk
       refine ⟨g,e,zBq hgb,fun e2=>?_⟩
       rw [e2,hdb] at hgb
       injection hgb with hgb
       injection hgb with _ hgb
       revert hgb;decide
    have hz1:=HB.out.2.2.2.1.size
    have hkw:∀ (p:Addr),p.block < w.heap.size→p.block≠b→wr.cell? p=w.cell? p:=fun p h1 h2=>(HI.out.kept.cell (p:=p) (by omega) (by simp;omega)).trans (HB.out.2.2.2.1.cell (p:=p) h1)
    have q:∀ c u,c < 10→(opvCells o)[c]?=some u→wr.cell? ⟨g,j*10+c,none⟩=some u:=fun c u hc hu=>(hkw ⟨g,j*10+c,none⟩ hg hgb).trans (zDA HB.out.1 _ _ ((zvc ops j hin c hc).trans (by rw [hoe];exact hu)))
    have q0:wr.cell? ⟨g,j*10,none⟩=some (.int .i64 o.id):=q 0 _ (by decide) rfl
    have q1:wr.cell? ⟨g,j*10+1,none⟩=some (.int .i64 o.cl):=q 1 _ (by decide) rfl
    have q2:wr.cell? ⟨g,j*10+2,none⟩=some (.string ⟨o.name.toArray⟩):=q 2 _ (by decide) rfl
    have q3:wr.cell? ⟨g,j*10+3,none⟩=some (.string ⟨o.key.toArray⟩):=q 3 _ (by decide) rfl
    have q4:wr.cell? ⟨g,j*10+4,none⟩=some (.int .i64 o.arg):=q 4 _ (by decide) rfl
    have q5:wr.cell? ⟨g,j*10+5,none⟩=some (.int .i64 o.exp):=q 5 _ (by decide) rfl
    have q6:wr.cell? ⟨g,j*10+6,none⟩=some (.int .i64 o.call):=q 6 _ (by decide) rfl
    have q7:wr.cell? ⟨g,j*10+7,none⟩=some (.int .i64 o.ret):=q 7 _ (by decide) rfl
    have q8:wr.cell? ⟨g,j*10+8,none⟩=some (.int .i64 o.vk):=q 8 _ (by decide) rfl
    have q9:wr.cell? ⟨g,j*10+9,none⟩=some (.int .i64 o.vn):=q 9 _ (by decide) rfl
    have qk:wr.cell? ⟨gk,j,none⟩=some (.int .i64 (kk:Int)):=by
     refine (hkw ⟨gk,j,none⟩ hgk hgkb).trans ?_
     have:=HB.out.2.1.cells (g:=gk) rfl j (.int .i64 (kk:Int)) (by unfold zXD;rw [List.getElem?_map,hkj];rfl)
     rw [Addr.add_lit,Nat.zero_add] at this
     exact this
    obtain ⟨W3,hW3,hb3,hO3⟩:∃ W3,wr.alloc (.cells #[.int .i64 N1,.int .i64 N2,.string ⟨o.name.toArray⟩,.string ⟨o.key.toArray⟩,.int .i64 o.arg,.int .i64 o.exp,.int .i64 o.call,.int .i64 o.ret,.int .i64 o.vk,.int .i64 o.vn] 48)=W3∧Below wr.heap.size wr W3∧W3.heap[wr.heap.size]?=some (.cells #[.int .i64 N1,.int .i64 N2,.string ⟨o.name.toArray⟩,.string ⟨o.key.toArray⟩,.int .i64 o.arg,.int .i64 o.exp,.int .i64 o.call,.int .i64 o.ret,.int .i64 o.vk,.int .i64 o.vn] 48 (0,0)):=⟨_,rfl,(Below.refl _ _).alloc (Nat.le_refl _) _,ziF _ _ _ rfl⟩
    clear hoe hP1 hP2 hN1 hN2 hr1 hr2 q hid hcl hkw
    have HGE':=hGe
    clear HGE' hGe
    go_wp2_with fail
    have hGe:=HGE.out
    have hsz1:w.heap.size+1 < wr.heap.size:=by have:=zBq HI.out.row;omega
    have hT3:=(hb3.block _ (zBq hT)).trans hT
    have hG3:=(hb3.block _ (zBq HI.out.row)).trans HI.out.row
    have hK3:=(hb3.cell (p:=⟨gk,j,none⟩) (by show gk < wr.heap.size;omega)).trans qk
    have hD3:=HI.out.dice.below hb3
    have hD3d:=hD3.below ((Below.refl _ _).drew)
    have hlB:=zBq hO3
    obtain ⟨B,hBe⟩:∃ B,B=wr.heap.size:=⟨_,rfl⟩
    rw [←hBe] at hO3 hlB ⊢
    have hS:∀ w':World,Kept [b,G] W3 w'→(w'.cell? ⟨B,0,none⟩=some (.int .i64 N1)∧w'.cell? ⟨B,1,none⟩=some (.int .i64 N2)∧w'.cell? ⟨B,2,none⟩=some (.string ⟨o.name.toArray⟩)∧w'.cell? ⟨B,3,none⟩=some (.string ⟨o.key.toArray⟩)∧w'.cell? ⟨B,4,none⟩=some (.int .i64 o.arg)∧w'.cell? ⟨B,5,none⟩=some (.int .i64 o.exp)∧w'.cell? ⟨B,6,none⟩=some (.int .i64 o.call)∧w'.cell? ⟨B,7,none⟩=some (.int .i64 o.ret)∧w'.cell? ⟨B,8,none⟩=some (.int .i64 o.vk)∧w'.cell? ⟨B,9,none⟩=some (.int .i64 o.vn)∧w'.cell? ⟨w.heap.size,0,none⟩=some (.string ⟨(modS i).toArray⟩)∧w'.cell? ⟨w.heap.size,3,none⟩=some (.slice (some ⟨gk,0,none⟩) keys.length kc)∧w'.cell? ⟨gk,j,none⟩=some (.int .i64 (kk:Int))):=fun w' k=>by
     obtain ⟨c0,c1,c2,c3,c4,c5,c6,c7,c8,c9⟩:=ze6 ((k.block B hlB (by simp;omega)).trans hO3)
     have hTw:=(k.block w.heap.size (zBq hT3) (by simp;omega)).trans hT3
     exact ⟨c0,c1,c2,c3,c4,c5,c6,c7,c8,c9,zBk hTw 0,zBk hTw 3,(k.cell (p:=⟨gk,j,none⟩) (by show gk < W3.heap.size;omega) (by simp;omega)).trans hK3⟩
    have HS:Hid _:=hS
    obtain ⟨x0,x1,x2,x3,x4,x5,x6,x7,x8,x9,xm,xk,xj⟩:=hS W3 (Kept.refl _ _)
    obtain ⟨cn,hcn⟩:∃ cn:Nat,o.call=(cn:Int)+1:=⟨(o.call - 1).toNat,by omega⟩
    have hcl:cn < lines.length:=by omega
    have hwc:IntKind.i64.wrap (o.call - 1)=(cn:Int):=by rw [z6Xb (by omega) (by omega)];omega
    have hca:=fun W (hd:Dice W b sv code dd)=>zLA b sv code dd i hi N1 N2 o.name o.key o.arg o.exp o.call o.ret o.vk o.vn kk hk3 W hd hn1.1 hn1.2 hn2 hsa hse hnl
    unfold opA at hca
    generalize hCL:zdF (zSt i) N1 N2 o.name o.arg o.exp kk dd=CL at hca
    have hjk:j < keys.length:=by have:=HA.out.2.2.2.2.2;omega
    have hjk':(j:Int) < (keys.length:Int):=by omega
    have hlen:=HI.out.len
    have hcur:∃ u,cur[cn]?=some u:=by
     rw [←Array.getElem?_toList,HI.out.txt]
     unfold strCells
     rw [List.getElem?_map,List.getElem?_eq_getElem (show cn < ls.length by omega)]
     exact ⟨_,rfl⟩
    obtain ⟨u0,hcur⟩:=hcur
    have hlG:=zBq hG3
    have hnG:G∉[b]:=by simp;omega
    have hm0:∀ x,x < W3.heap.size→x∈[b]→x∈[b,G]:=fun x _ h=>by simp at h ⊢;exact .inl h
    have hGm:G∈[b,G]:=by simp
    have HRN:Hid _:=hn1
    have HC:Hid _:=(⟨hCL,hcn,hG3,hcall,hret,hD3,hO3,hlB⟩:_∧_∧_∧_∧_∧_∧_∧_)
    have HE:Hid _:=(⟨hGe,hBe,hoj,hkj,hb3,hT,hsz1⟩:_∧_∧_∧_∧_∧_∧_)
    have HBW:Hid _:=hbw
    clear hCL hcn hcall hret hS hGe hBe hD3 hK3 hT3 hw1 hw2 hw3 hw4 hn1 hn2 q0 q1 q2 q3 q4 q5 q6 q7 q8 q9 qk t1 hW3 hoj hkj hsz1 hbw' hbw hz1 hT hb3 hO3 hg hgb hgk hgkb hlen
    go_cut [55] (fun a wx=>∃ cur',wx.heap[G]?=some (.cells cur' 9 (0,0))∧cur'.toList=strCells (ls.set cn CL.1)∧Dice wx b sv code CL.2∧Kept [b,G] W3 wx)
    case first=>
     go_region_held3 (fun w'=>w'.cell? ⟨B,0,none⟩=some (.int .i64 N1)∧w'.cell? ⟨B,1,none⟩=some (.int .i64 N2)∧w'.cell? ⟨B,2,none⟩=some (.string ⟨o.name.toArray⟩)∧w'.cell? ⟨B,3,none⟩=some (.string ⟨o.key.toArray⟩)∧w'.cell? ⟨B,4,none⟩=some (.int .i64 o.arg)∧w'.cell? ⟨B,5,none⟩=some (.int .i64 o.exp)∧w'.cell? ⟨B,6,none⟩=some (.int .i64 o.call)∧w'.cell? ⟨B,7,none⟩=some (.int .i64 o.ret)∧w'.cell? ⟨B,8,none⟩=some (.int .i64 o.vk)∧w'.cell? ⟨B,9,none⟩=some (.int .i64 o.vn)∧w'.cell? ⟨w.heap.size,0,none⟩=some (.string ⟨(modS i).toArray⟩)∧w'.cell? ⟨w.heap.size,3,none⟩=some (.slice (some ⟨gk,0,none⟩) keys.length kc)∧w'.cell? ⟨gk,j,none⟩=some (.int .i64 (kk:Int))) (first | (with_reducible exact hS5) | (with_reducible exact hS6 _) | go_keep) (first
      | (go_at_call 30;refine (hca _ hD3d).mono ?_;rintro e w5 ⟨rfl,hd5,hk5⟩;have hk6:=((Kept.refl [b] W3).drew).trans hk5;have hk7:=hk6.mono hm0;have hS5:=HS.out _ hk7;have hS6:=fun v=>HS.out _ (hk7.setCell (p:=⟨G,cn,none⟩) (Or.inl hGm) v);have vb:=(hk6.block G hlG hnG).trans hG3;have v0:=(zBk vb cn).trans hcur;have v1:=zBn vb cn;have HV:=srch.Hid.mk' (And.intro hd5 (And.intro hk7 vb));clear hd5 hk5 hk6 hk7 vb))
     go_wp2
     go_meet
     obtain ⟨hd5,hk7,vb⟩:=HV.out
     obtain ⟨cur',r1,r2⟩:=zf6H vb HI.out.txt cn CL.1
     exact ⟨cur',r1,r2,hd5.kept ((Kept.refl [G] _).setCell (p:=⟨G,cn,none⟩) (Or.inl (by simp)) _) (by have:=HBW.out;have:=HE.out.1;simp;omega),hk7.setCell (p:=⟨G,cn,none⟩) (Or.inl (by simp)) _⟩
    case rest=>
     clear HS x0 x1 x2 x3 x4 x5 x6 x7 x8 x9 xm xk xj hca hD3d hlG hm0 hcur hwc
     obtain ⟨cur',r1,r2,hd6,hk6⟩:=hcut
     obtain ⟨hCL,hcn,hG3,hcall,hret,hD3,hO3,hlB'⟩:=HC.out
     obtain ⟨hGe,hBe,hoj,hkj,hb3,hT,hsz1⟩:=HE.out
     have hbw:=HBW.out
     have hO6:=(hk6.block B hlB' (by simp;omega)).trans hO3
     have hkW:Kept [b,G] W1 wc:=by exact (HI.out.kept.trans (Kept.of_below hb3)).trans hk6
     have hmem:=List.mem_of_getElem? hoj
     have hin1:∀ p∈ops,1≤p.call∧(p.ret≠0→1≤p.ret):=fun p hp=>by
      obtain ⟨a,ha⟩:=List.mem_iff_getElem?.1 hp
      obtain ⟨_,_,_,_,_,_,_,_,h1,h2⟩:=HA.out.1 a p ha
      exact ⟨h1.1,fun hz=>(h2 hz).1⟩
     have hrn1:=HI.out.rn.call HA.out.2.1 hin1 hoj CL.1
     rw [show (o.call - 1).toNat=cn by omega] at hrn1
     have hls:=HI.out.len
     have hself:(ls.set cn CL.1)[(o.call - 1).toNat]?=some (zdF (zSt i) (F o.id) (C o.cl) o.name o.arg o.exp kk dd).1:=by
      rw [show (o.call - 1).toNat=cn by omega,List.getElem?_set_self (by omega),HFN.out.1,HFN.out.2,hCL]
     have e7:wc.cell? ⟨B,7,none⟩=some (.int .i64 o.ret):=zBk hO6 7
     by_cases hz:o.ret=0
     · have hzd:decide (0 < o.ret)=false:=by rw [hz];rfl
       have HN:Hid (RI w W1 F C i b G sv code ops keys lines.length (j+1) (ls.set cn CL.1) CL.2 cur' wc):=
        ⟨by simpa using hls,r1,r2,hrn1.next hoj hkj ⟨dd,hself⟩ (fun h=>absurd hz h),hd6,hkW⟩
       clear hz hself hls hrn1 hin1 hkW hO6 hO3 hD3 hG3 hret hcall hcn hCL hb3 hT hk6 hd6 r1 r2 hGe hBe hoj hkj hbw
       go_wp2_with fail
       go_roundw
       case rel=>exact ⟨j+1,_,_,_,by go_num,by omega,HN⟩
       case measure=>simp [intOf];omega
     · obtain ⟨hr1,hr2,hvok⟩:=hret hz
       have hzd:decide (0 < o.ret)=true:=by simp;omega
       obtain ⟨rm,hrm⟩:∃ rm:Nat,o.ret=(rm:Int)+1:=⟨(o.ret - 1).toNat,by omega⟩
       have hrl:rm < lines.length:=by omega
       have hwr:IntKind.i64.wrap (o.ret - 1)=(rm:Int):=by rw [z6Xb (by omega) (by omega)];omega
       have hne:=((HA.out.2.1 j j o o hoj hoj).2 hz).1
       have hrng:=HRN.out
       have han:=fun W (hd:Dice W b sv code CL.2)=>zRZ b sv code CL.2 N1 N2 o.name o.key o.arg o.exp o.call o.ret o.vk o.vn W hd hrng.1 hrng.2 hvok
       unfold opA at han
       generalize hAL:zZ7 N1 o.vk o.vn CL.2=AL at han
       have hrn2:=hrn1.ret HA.out.2.1 hin1 hoj hz AL.1
       rw [show (o.ret - 1).toNat=rm by omega] at hrn2
       have hself2:((ls.set cn CL.1).set rm AL.1)[(o.call - 1).toNat]?=some (zdF (zSt i) (F o.id) (C o.cl) o.name o.arg o.exp kk dd).1:=by
        rw [List.getElem?_set_ne (by omega)];exact hself
       have hself3:((ls.set cn CL.1).set rm AL.1)[(o.ret - 1).toNat]?=some (zZ7 (F o.id) o.vk o.vn CL.2).1:=by
        rw [show (o.ret - 1).toNat=rm by omega,List.getElem?_set_self (by simp;omega),HFN.out.1,hAL]
       have hrn3:=hrn2.next hoj hkj ⟨dd,hself2⟩ (fun _=>⟨CL.2,hself3⟩)
       have hS:∀ w':World,Kept [b,G] wc w'→(w'.cell? ⟨B,0,none⟩=some (.int .i64 N1)∧w'.cell? ⟨B,1,none⟩=some (.int .i64 N2)∧w'.cell? ⟨B,2,none⟩=some (.string ⟨o.name.toArray⟩)∧w'.cell? ⟨B,3,none⟩=some (.string ⟨o.key.toArray⟩)∧w'.cell? ⟨B,4,none⟩=some (.int .i64 o.arg)∧w'.cell? ⟨B,5,none⟩=some (.int .i64 o.exp)∧w'.cell? ⟨B,6,none⟩=some (.int .i64 o.call)∧w'.cell? ⟨B,7,none⟩=some (.int .i64 o.ret)∧w'.cell? ⟨B,8,none⟩=some (.int .i64 o.vk)∧w'.cell? ⟨B,9,none⟩=some (.int .i64 o.vn)):=fun w' k=>ze6 ((k.block B (zBq hO6) (by simp;omega)).trans hO6)
       have HS:Hid _:=hS
       obtain ⟨x0,x1,x2,x3,x4,x5,x6,x7,x8,x9⟩:=hS wc (Kept.refl _ _)
       have hcur:∃ u,cur'[rm]?=some u:=by
        rw [←Array.getElem?_toList,r2]
        unfold strCells
        rw [List.getElem?_map,List.getElem?_eq_getElem (show rm < (ls.set cn CL.1).length by simp;omega)]
        exact ⟨_,rfl⟩
       obtain ⟨u1,hcur⟩:=hcur
       have hlG:=zBq r1
       have hm0:∀ x,x < wc.heap.size→x∈[b]→x∈[b,G]:=fun x _ h=>by simp at h ⊢;exact .inl h
       have hD6d:=hd6.below ((Below.refl _ _).drew)
       have HN:Hid (∀ W cu,W.heap[G]?=some (.cells cu 9 (0,0))→cu.toList=strCells ((ls.set cn CL.1).set rm AL.1)→Dice W b sv code AL.2→Kept [b,G] wc W→RI w W1 F C i b G sv code ops keys lines.length (j+1) ((ls.set cn CL.1).set rm AL.1) AL.2 cu W):=by
        intro W cu k1 k2 k3 k4
        exact ⟨by simpa using hls,k1,k2,hrn3,k3,hkW.trans k4⟩
       have HR:Hid _:=r2
       clear hz hself hself2 hself3 hls hrn1 hrn2 hrn3 hin1 hkW hO6 hO3 hD3 hG3 hret hcall hcn hCL hb3 hT hk6 hd6 r2 hoj hkj hbw hS e7 hr1 hr2 hrm hne hAL hrng hvok hGe hBe
       have e7:=x7
       go_wp2_with fail
       go_region_held3 (fun w'=>w'.cell? ⟨B,0,none⟩=some (.int .i64 N1)∧w'.cell? ⟨B,1,none⟩=some (.int .i64 N2)∧w'.cell? ⟨B,2,none⟩=some (.string ⟨o.name.toArray⟩)∧w'.cell? ⟨B,3,none⟩=some (.string ⟨o.key.toArray⟩)∧w'.cell? ⟨B,4,none⟩=some (.int .i64 o.arg)∧w'.cell? ⟨B,5,none⟩=some (.int .i64 o.exp)∧w'.cell? ⟨B,6,none⟩=some (.int .i64 o.call)∧w'.cell? ⟨B,7,none⟩=some (.int .i64 o.ret)∧w'.cell? ⟨B,8,none⟩=some (.int .i64 o.vk)∧w'.cell? ⟨B,9,none⟩=some (.int .i64 o.vn)) (first | (with_reducible exact hS5) | (with_reducible exact hS6 _) | go_keep) (first
        | (go_at_call 21;refine (han _ hD6d).mono ?_;rintro e w5 ⟨rfl,hd5,hk5⟩;have hk6:=((Kept.refl [b] wc).drew).trans hk5;have hk7:=hk6.mono hm0;have hS5:=HS.out _ hk7;have hS6:=fun v=>HS.out _ (hk7.setCell (p:=⟨G,rm,none⟩) (Or.inl hGm) v);have vb:=(hk6.block G hlG hnG).trans r1;have v0:=(zBk vb rm).trans hcur;have v1:=zBn vb rm;have HV:=srch.Hid.mk' (And.intro hd5 (And.intro hk7 vb));clear hd5 hk5 hk6 hk7 vb))
       obtain ⟨cu,HI2⟩:∃ cu,Hid (RI w W1 F C i b G sv code ops keys lines.length (j+1) ((ls.set cn CL.1).set rm AL.1) AL.2 cu (w5.setCell ⟨G,rm,none⟩ (.string ⟨AL.1.toArray⟩))):=by
        obtain ⟨hd5,hk7,vb⟩:=HV.out
        obtain ⟨cu,k1,k2⟩:=zf6H vb HR.out rm AL.1
        exact ⟨cu,HN.out _ cu k1 k2 (hd5.kept ((Kept.refl [G] _).setCell (p:=⟨G,rm,none⟩) (Or.inl (by simp)) _) (by have:=HBW.out;have:=HE.out.1;simp;omega)) (hk7.setCell (p:=⟨G,rm,none⟩) (Or.inl (by simp)) _)⟩
       clear HN HS x0 x1 x2 x3 x4 x5 x6 x7 x8 x9 e7 han hD6d hlG hm0 hcur hwr r1 hS5 hS6 v0 v1
       go_wp2_with fail
       go_roundw
       case rel=>exact ⟨j+1,_,_,_,by go_num,by omega,HI2⟩
       case measure=>simp [intOf];omega
  · have hin':¬ (j:Int) < (ops.length:Int):=by omega
    obtain rfl:j=ops.length:=by omega
    have HE:Hid (SRow wr G ls∧ls.length=lines.length∧RN F C i ops keys ops.length ls∧Kept [b] w wr):=by
     have k:=HI.out.kept
     refine ⟨⟨zBq HI.out.row,fun a x hx=>?_⟩,HI.out.len,HI.out.rn,?_⟩
     · rw [zBk HI.out.row,←Array.getElem?_toList,HI.out.txt]
       unfold strCells
       rw [List.getElem?_map,hx]
       rfl
     · exact ((Kept.of_below (S:=[b,G]) HB.out.2.2.2.1).trans k).mono (fun x hx h=>by simp at h ⊢;omega)
    clear hGe
    go_wp2_with fail
    go_ret
    exact ⟨_,rfl,ls,HE.out⟩
end Go.Proofs.YtlkidmafomjhgaaGreatDoor.keep
namespace Go.Proofs.YtlkidmafomjhgaaGreatDoor.keep
open Go.RowKit
open srch (renO zkp Pow zVT zqC sOK sIll)
theorem Turned.self {i:Nat} (hi:i < 5) {ops0 ops:List OpV} {lines0 lines:List (List UInt8)} (h:Tells i ops0 lines0) (hl:lines0.length≤18) (t:Turned ops0 ops lines0 lines):TellsG i ops lines:=by
 obtain ⟨f1,f2,f3⟩:=t.form hi h
 have back:∀ (j:Nat) (o:OpV),ops[j]?=some o→∃ o0,ops0[j]?=some o0∧∃ vk vn,o={ o0 with vk:=vk,vn:=vn }:=by
  intro j o hj
  cases hj0:ops0[j]? with
  | none=>rw [List.getElem?_eq_none (by rw [f2];exact List.getElem?_eq_none_iff.1 hj0)] at hj;cases hj
  | some o0=>
    obtain ⟨vk,vn,e,_⟩:=f3 j o0 hj0
    rw [hj] at e
    injection e with e
    exact ⟨o0,rfl,vk,vn,e⟩
 have g1:=t.again hi h (fun n=>n) (fun n=>n) (fun _ _ h=>h) (fun n hn=>⟨by omega,by omega⟩) (fun _ _ h=>h) (fun c hc=>⟨by omega,by omega⟩) lines (by omega) f1
  (fun j o hj kk h1 h2 h3=>by
   obtain ⟨o0,hj0,vk,vn,rfl⟩:=back j o hj
   obtain ⟨_,_,_,_,_,g⟩:=f3 j o0 hj0
   exact g kk h1 h2 h3)
  (fun j o hj hz=>by
   obtain ⟨o0,hj0,vk,vn,rfl⟩:=back j o hj
   obtain ⟨vk',vn',e,_,g,_⟩:=f3 j o0 hj0
   rw [hj] at e
   injection e with e
   injection e with _ _ _ _ _ _ _ _ e1 e2
   subst e1;subst e2
   exact (g hz).2)
 have e0:ops.map (renO (fun n=>n) (fun n=>n))=ops:=List.map_id'' (fun o=>rfl) ops
 rw [e0] at g1
 exact g1
theorem zOE {W:World} {base b:Nat} {e t:TypeId} {size:Nat} {v:Value} {n:Nat} {xs:List Value} {c:Array Value} (h:W.ownsRow base e size v n xs) (hB:W.heap[b]?=some (.cells c t (0,0))) (hne:e≠t):∀ g,v.ownBlock=some g→g∉[b]:=by
 intro g hg hm
 rw [List.mem_singleton] at hm
 subst hm
 rcases h.2 with ⟨rfl,_⟩ | ⟨g1,cap,cur,rfl,_,hb1,_⟩
 · cases hg
 · injection hg with hg
   subst hg
   rw [hB] at hb1
   injection hb1 with hb1
   injection hb1 with _ h2
   exact hne h2.symm
theorem RN.told {i:Nat} (hi:i < 5) {ops0 ops:List OpV} {lines0 lines:List (List UInt8)} {keys:List Nat} (h:Tells i ops0 lines0) (t:Turned ops0 ops lines0 lines) (hk:KL i keys ops0) {F C:Int→Int} {ls:List (List UInt8)} (hr:RN F C i ops keys ops.length ls):
 (∀ (j:Nat) (o:OpV),ops[j]?=some o→∀ kk,kk < 3→(o.key=if zSt i=true then keyS kk else [])→(zSt i=false→kk=0)→∃ d,ls[(o.call - 1).toNat]?=some (zdF (zSt i) (F o.id) (C o.cl) o.name o.arg o.exp kk d).1)∧
 (∀ (j:Nat) (o:OpV),ops[j]?=some o→o.ret≠0→∃ d,ls[(o.ret - 1).toNat]?=some (zZ7 (F o.id) o.vk o.vn d).1):=by
 obtain ⟨f1,f2,f3⟩:=t.form hi h
 have key:∀ (j:Nat) (o:OpV),ops[j]?=some o→∃ kk,keys[j]?=some kk∧kk < 3∧(zSt i=false→kk=0)∧o.key=(if zSt i=true then keyS kk else []):=by
  intro j o hj
  cases hj0:ops0[j]? with
  | none=>rw [List.getElem?_eq_none (by rw [f2];exact List.getElem?_eq_none_iff.1 hj0)] at hj;cases hj
  | some o0=>
    obtain ⟨vk,vn,e,_⟩:=f3 j o0 hj0
    rw [hj] at e
    injection e with e
    obtain ⟨kk,h1,h2,h3,h4⟩:=hk.2 j o0 hj0
    exact ⟨kk,h1,h2,h3,by rw [e];exact h4⟩
 refine ⟨fun j o hj kk h1 h2 h3=>?_,fun j o hj hz=>?_⟩
 · obtain ⟨kq,k1,k2,k3,k4⟩:=key j o hj
   have e:kk=kq:=by
    cases hkd:zSt i with
    | false=>rw [h3 hkd,k3 hkd]
    | true=>
      rw [h2,if_pos hkd,if_pos hkd] at k4
      exact zpF h1 k2 k4
   subst e
   exact (hr j o kk (List.getElem?_eq_some_iff.1 hj).1 hj k1).1
 · obtain ⟨kq,k1,_⟩:=key j o hj
   exact (hr j o kq (List.getElem?_eq_some_iff.1 hj).1 hj k1).2 hz
theorem zWr (n:Int):(∀ a b:Int,3 - (1+(pickP n 50:Int))*a=3 - (1+(pickP n 50:Int))*b→a=b)∧(∀ x:Int,-20≤x∧x≤1000→ -1000000 < 3 - (1+(pickP n 50:Int))*x∧3 - (1+(pickP n 50:Int))*x < 1000000)∧(∀ a b:Int,(1+(pickP n 50:Int))*a+11=(1+(pickP n 50:Int))*b+11→a=b)∧∀ c:Int,-1≤c∧c≤1→small ((1+(pickP n 50:Int))*c+11):=by
 have hm:=zdA n (show 0 < 50 by decide)
 obtain ⟨M,hM⟩:∃ M:Int,M=1+(pickP n 50:Int):=⟨_,rfl⟩
 rw [←hM]
 have h1:1≤M:=by omega
 have h2:M≤50:=by omega
 refine ⟨fun a b e=>?_,fun x hx=>?_,fun a b e=>?_,fun c hc=>?_⟩
 · exact Int.eq_of_mul_eq_mul_left (a:=M) (by omega) (by omega)
 · have:=zPX (x:=x) (a:=20) (c:=1000) h1 h2 hx.1 hx.2 (by decide) (by decide)
   exact ⟨by omega,by omega⟩
 · exact Int.eq_of_mul_eq_mul_left (a:=M) (by omega) (by omega)
 · have:=zPX (x:=c) (a:=1) (c:=1) h1 h2 hc.1 hc.2 (by decide) (by decide)
   exact ⟨by omega,by omega⟩
theorem zYT (x r:List UInt8) (e:x=sOK++32::r) (w:World):Calls Tryz.prog 14 #[.string ⟨x.toArray⟩] w fun e w'=>e=.returned (.string ⟨#[79,75]⟩)∧w'=w:=by
 subst e
 have h:=zJWR (sOK++32::r) w 2 (by decide) (by simp [sOK]) (.inl rfl)
 rw [zwzb] at h
 exact h
theorem z5Y (x r:List UInt8) (e:x=sIll++32::r) (w:World):Calls Tryz.prog 14 #[.string ⟨x.toArray⟩] w fun e w'=>e=.returned (.string ⟨#[73,76,76,69,71,65,76]⟩)∧w'=w:=by
 subst e
 have h:=zJWR (sIll++32::r) w 7 (by decide) (by simp [sIll]) (.inl rfl)
 rw [zhr] at h
 exact h
theorem zRq (which:Int) (hw64:zRK which) (sv sv2:Value) (code ways:List Int) (n:Int) (hn:zRK n) (tw:Bool) (W:World) (hg:Glob W) (hp:Pow W)
 (hrow:∃ oa cap,sv=.slice oa code.length cap∧(code≠[]→∃ g off,oa=some ⟨g,off,none⟩∧g < W.heap.size∧∀ j x,code[j]?=some x→W.cell? ⟨g,off+j,none⟩=some (.int .i64 x))) (hlen:code.length≤9223372036854775807) (hwf:∀ x∈code,zRK x)
 (hrow2:∃ oa cap,sv2=.slice oa ways.length cap∧(ways≠[]→∃ g off,oa=some ⟨g,off,none⟩∧g < W.heap.size∧∀ j x,ways[j]?=some x→W.cell? ⟨g,off+j,none⟩=some (.int .i64 x))) (hlen2:ways.length≤9223372036854775807) (hwf2:∀ x∈ways,zRK x):
 Calls Tryz.prog 3 #[.int .i64 which,sv,.int .i64 n,.bool tw,sv2] W fun e W'=>Below W.heap.size W W'∧e=.returned (.bool true):=by
 obtain ⟨oa2,cap2,rfl,hc2⟩:=hrow2
 have hng:=hg.errs.lt
 have hi:pickP which 5 < 5:=zdA _ (by omega)
 go_enter Tryz.func3,Tryz.ntmps3
 go_wp2_with fail
 refine (zWy which W hw64).mono ?_
 rintro e w1 ⟨rfl,rfl⟩
 generalize pickP which 5=i at*
 have hMd:=zzi i hi sv code 18 (by omega) w1 hrow hlen hwf
 go_wp2_with fail
 refine hMd.mono ?_
 rintro e w2 ⟨vo,vl,ops,lines,base,vk,keys,rfl,hT,hll,hO,hL,hbs,hb2,hKL,hK⟩
 clear hMd hrow
 obtain ⟨lo,lc,rfl⟩:=zIW hL
 obtain ⟨oo,oc,rfl⟩:=zIW hO
 obtain ⟨ko,kc,rfl⟩:=zIW hK
 obtain ⟨W3,hW3,hb3,hB3⟩:∃ W3,w2.alloc (.cells #[.string ⟨(modS i).toArray⟩,.slice oo ops.length oc,.slice lo lines.length lc,.slice ko keys.length kc] 26)=W3∧Below w2.heap.size w2 W3∧W3.heap[w2.heap.size]?=some (.cells #[.string ⟨(modS i).toArray⟩,.slice oo ops.length oc,.slice lo lines.length lc,.slice ko keys.length kc] 26 (0,0)):=⟨_,rfl,(Below.refl _ _).alloc (Nat.le_refl _) _,ziF _ _ _ rfl⟩
 have hL3:=zzF hL (Kept.of_below (S:=[]) hb3) (by simp)
 have hO3:=zzF hO (Kept.of_below (S:=[]) hb3) (by simp)
 have hK3:=zzF hK (Kept.of_below (S:=[]) hb3) (by simp)
 have hb13:Below w1.heap.size w1 W3:=hb2.trans (hb3.mono hb2.size)
 have t0:W3.cell? ⟨w2.heap.size,0,none⟩=some (.string ⟨(modS i).toArray⟩):=zBk hB3 0
 have t1:W3.cell? ⟨w2.heap.size,1,none⟩=some (.slice oo ops.length oc):=zBk hB3 1
 have t2:W3.cell? ⟨w2.heap.size,2,none⟩=some (.slice lo lines.length lc):=zBk hB3 2
 have t3:W3.cell? ⟨w2.heap.size,3,none⟩=some (.slice ko keys.length kc):=zBk hB3 3
 have hTw:=zPuu i hi (.slice oo ops.length oc) (.slice lo lines.length lc) ko keys.length kc ops lines n hn base W3 hT (by omega) hO3 hL3
 have HZ:Hid _:=hb2.size
 have HA:Hid _:=(⟨hL3,hO3,hK3,hB3,hb13,hT,hKL⟩:_∧_∧_∧_∧_∧_∧_)
 have HC2:Hid _:=hc2
 clear hL3 hO3 hK3 hb13 hKL hL hO hK hb2 hb3 hT hB3 hc2
 go_upto_if 21 with fail
 go_cut [22] (fun a wx=>∃ (ops':List OpV) (lines':List (List UInt8)) (oo' lo':Option Addr) (oc' lc':Nat),Turned ops ops' lines lines'∧wx.heap[w2.heap.size]?=some (.cells #[.string ⟨(modS i).toArray⟩,.slice oo' ops'.length oc',.slice lo' lines'.length lc',.slice ko keys.length kc] 26 (0,0))∧
  wx.ownsRow base 48 10 (.slice oo' ops'.length oc') ops'.length (opsRow ops')∧wx.ownsRow base 9 1 (.slice lo' lines'.length lc') lines'.length (strCells lines')∧wx.ownsRow base 3 1 (.slice ko keys.length kc) keys.length (zXD keys)∧Below w1.heap.size w1 wx)
 case first=>
  obtain ⟨hL3,hO3,hK3,hB3,hb13,hT,hKL⟩:=HA.out
  cases tw
  · clear hL3 hO3 hK3 hB3 hb13 hT hKL
    go_wp2_with fail
    go_meet
    obtain ⟨hL3,hO3,hK3,hB3,hb13,hT,hKL⟩:=HA.out
    exact ⟨ops,lines,oo,lo,oc,lc,.inl ⟨rfl,rfl⟩,hB3,hO3,hL3,hK3,hb13⟩
  · clear hL3 hO3 hK3 hB3 hb13 hT hKL
    go_wp2_with fail
    refine hTw.mono ?_
    rintro e w4 ⟨vo',vl',ops',lines',rfl,hTu,hO4,hL4,hb4⟩
    obtain ⟨lo',lc',rfl⟩:=zIW hL4
    obtain ⟨oo',oc',rfl⟩:=zIW hO4
    obtain ⟨hL3,hO3,hK3,hB3,hb13,hT,hKL⟩:=HA.out
    have hB4:=(hb4.block _ (zBq hB3)).trans hB3
    have r0:=zBk hB4 0
    have r1:=zBk hB4 1
    have r2:=zBk hB4 2
    have r3:=zBk hB4 3
    have z0:=zBn hB4 0
    have z1:=zBn hB4 1
    have z2:=zBn hB4 2
    have z3:=zBn hB4 3
    have HX:Hid _:=(⟨hTu,hO4,hL4,hb4,hB4⟩:_∧_∧_∧_∧_)
    clear hTu hO4 hL4 hb4 hB4 hL3 hO3 hK3 hB3 hb13 hT hKL hTw t0 t1 t2 t3
    go_wp2_with fail
    go_meet
    obtain ⟨hTu,hO4,hL4,hb4,hB4⟩:=HX.out
    obtain ⟨hL3,hO3,hK3,hB3,hb13,hT,hKL⟩:=HA.out
    obtain ⟨f1,f2⟩:=zPn hB4 (.string ⟨(modS i).toArray⟩) (.slice oo' ops'.length oc') (.slice lo' lines'.length lc') (.slice ko keys.length kc)
    have hK4:=zzF hK3 (Kept.of_below (S:=[]) hb4) (by simp)
    have hw12:w1.heap.size≤w2.heap.size:=HZ.out
    exact ⟨ops',lines',oo',lo',oc',lc',hTu,f1,z1O hO4 f2 (zOE hO4 hB4 (by decide)),z1O hL4 f2 (zOE hL4 hB4 (by decide)),z1O hK4 f2 (zOE hK4 hB4 (by decide)),(hb13.trans (hb4.mono hb13.size)).trans (f2.below (by have:=hb13.size;have:=hb4.size;omega) (by simp;omega))⟩
 case rest=>
  clear hTw t0 t1 t2 t3
  obtain ⟨ops',lines',oo',lo',oc',lc',hTu,hB,hO,hL,hK,hb1⟩:=hcut
  obtain ⟨-,-,-,-,-,hT,hKL⟩:=HA.out
  obtain ⟨fl,fo,-⟩:=hTu.form hi hT
  have hself:=hTu.self hi hT hll
  have hsh:=zkM i hself
  obtain ⟨hrd,htl⟩:=zGe i hi hself (by omega)
  have haw:=zqC wc (hg.below (hb1.mono hng)) (hp.stays hb1)
  have HC:Hid _:=(⟨hTu,hO,hL,hK,hb1,fl,fo,hB⟩:_∧_∧_∧_∧_∧_∧_∧_)
  have HT:Hid _:=(⟨hT,hKL,hsh,htl⟩:_∧_∧_∧_)
  clear hTu hO hL hK hb1 fl fo hB hT hKL hsh htl hrd hself HA
  go_wp2_with fail
  refine haw.mono ?_
  rintro e w5 ⟨rfl,hb5⟩
  obtain ⟨hTu,hO,hL,hK,hb1,fl,fo,hB⟩:=HC.out
  have hB5:=(hb5.block _ (zBq hB)).trans hB
  have hL5:=zzF hL (Kept.of_below (S:=[]) hb5) (by simp)
  have hO5:=zzF hO (Kept.of_below (S:=[]) hb5) (by simp)
  have hK5:=zzF hK (Kept.of_below (S:=[]) hb5) (by simp)
  have hb15:Below w1.heap.size w1 w5:=hb1.trans (hb5.mono hb1.size)
  have c0:w5.cell? ⟨w2.heap.size,0,none⟩=some (.string ⟨(modS i).toArray⟩):=zBk hB5 0
  have c2:w5.cell? ⟨w2.heap.size,2,none⟩=some (.slice lo' lines'.length lc'):=zBk hB5 2
  have hTx:∀ V:World,Below w5.heap.size w5 V→_:=fun V hV=>text_any lo' lc' lines' V (fun hne=>zVUv (zzF hL5 (Kept.of_below (S:=[]) hV) (by simp)) hne) (by have:=hll;omega) (fun l hl=>by have:=HT.out.2.2.1 l hl;omega)
  have htl:=HT.out.2.2.2
  have hRu:∀ V:World,Below w5.heap.size w5 V→_:=fun V hV=>zVT (zhe lines') (modS i) 1099511627776 V (hg.below ((hb15.trans (hV.mono hb15.size)).mono hng)) (hp.stays (hb15.trans (hV.mono hb15.size))) (by omega) (by decide)
  have hlT:=zBq hB5
  have hS:∀ w':World,Below w5.heap.size w5 w'→(w'.cell? ⟨w2.heap.size,0,none⟩=some (.string ⟨(modS i).toArray⟩)∧w'.cell? ⟨w2.heap.size,2,none⟩=some (.slice lo' lines'.length lc')):=fun w' k=>⟨(k.cell (p:=⟨w2.heap.size,0,none⟩) hlT).trans c0,(k.cell (p:=⟨w2.heap.size,2,none⟩) hlT).trans c2⟩
  have H5:Hid _:=(⟨hB5,hL5,hO5,hK5,hb15⟩:_∧_∧_∧_∧_)
  have HS:Hid _:=hS
  have HTX:Hid _:=hTx
  have HRU:Hid _:=hRu
  have HBD:Hid (Below w5.heap.size w5 w5.drew):=(Below.refl _ _).drew
  clear hTu hO hL hK hb1 fl fo hB hB5 hL5 hO5 hK5 hb15 haw hb5 htl hS hTx hRu
  generalize htx:zhe lines'=tx at HTX HRU HT
  have HTE:Hid _:=htx
  clear htx
  go_wp2_with fail
  go_cut [13] (fun a wx=>∃ x,a=.string ⟨x.toArray⟩∧zkp (modS i) tx 1099511627776 x∧Below w5.heap.size w5 wx)
  case first=>
   have hTx:=HTX.out _ HBD.out
   go_region_held3 (fun w'=>w'.cell? ⟨w2.heap.size,0,none⟩=some (.string ⟨(modS i).toArray⟩)∧w'.cell? ⟨w2.heap.size,2,none⟩=some (.slice lo' lines'.length lc')) (first | (with_reducible exact hS6) | (with_reducible exact hS7) | go_keep) (first
    | (go_at_call 12;refine hTx.mono ?_;rintro e w6 ⟨rfl,hb6⟩;have hk6:=HBD.out.trans hb6;have hS6:=HS.out _ hk6;have hR:=HRU.out _ hk6;have HB6:=srch.Hid.mk' hk6;clear hb6 hk6 hTx)
    | (go_at_call 11;refine hR.mono ?_;rintro e w7 ⟨x,hx,rfl,hb7⟩;have hk7:=HB6.out.trans (hb7.mono HB6.out.size);have hS7:=HS.out _ hk7;have HX:=srch.Hid.mk' (And.intro hx hk7);clear hx hb7 hk7 hR))
   go_wp2
   go_meet
   exact ⟨x,rfl,HX.out.1,HX.out.2⟩
  case rest=>
   clear HTX HRU HS c0 c2
   obtain ⟨x,rfl,hx,hb6⟩:=hcut
   obtain ⟨hB5,hL5,hO5,hK5,hb15⟩:=H5.out
   obtain ⟨hTu,-,-,-,-,fl,fo,-⟩:=HC.out
   obtain ⟨hT,hKL,-⟩:=HT.out
   obtain ⟨ok1,apo⟩:=hTu.ok1 hi hT (by omega) hKL
   obtain ⟨q1,q2,q3,q4⟩:=zWr n
   obtain ⟨F,hF⟩:∃ F:Int→Int,F=fun x=>3 - (1+(pickP n 50:Int))*x:=⟨_,rfl⟩
   obtain ⟨C,hC⟩:∃ C:Int→Int,C=fun x=>(1+(pickP n 50:Int))*x+11:=⟨_,rfl⟩
   obtain ⟨W7,hW7,hb7,hD7⟩:∃ W7,wc.alloc (.cells #[.slice oa2 ways.length cap2,.int .i64 0] 35)=W7∧Below wc.heap.size wc W7∧W7.heap[wc.heap.size]?=some (.cells #[.slice oa2 ways.length cap2,.int .i64 0] 35 (0,0)):=⟨_,rfl,(Below.refl _ _).alloc (Nat.le_refl _) _,ziF _ _ _ rfl⟩
   have hb16:Below w1.heap.size w1 wc:=hb15.trans (hb6.mono hb15.size)
   have hb17:Below w1.heap.size w1 W7:=hb16.trans (hb7.mono hb16.size)
   have hb57:Below w5.heap.size w5 W7:=hb6.trans (hb7.mono hb6.size)
   have hsz16:=hb16.size
   have hDi:Dice W7 wc.heap.size (.slice oa2 ways.length cap2) ways ways:=by
    refine ⟨⟨0,Nat.zero_le _,rfl,hD7⟩,⟨oa2,cap2,rfl,fun hne=>?_⟩,hlen2,hwf2⟩
    obtain ⟨g,off,e,h1,h2⟩:=HC2.out hne
    exact ⟨g,off,e,by omega,fun a y hy=>(hb17.cell (p:=⟨g,off+a,none⟩) h1).trans (h2 a y hy)⟩
   have hsz57:=hb57.size
   have hlT:=zBq hB5
   have hB7:=(hb57.block _ hlT).trans hB5
   have hDl:=hDi.lt
   have HREN:Hid (∀ V:World,Kept [wc.heap.size] W7 V→Dice V wc.heap.size (.slice oa2 ways.length cap2) ways ways→Calls Tryz.prog 13 #[.agg #[.string ⟨(modS i).toArray⟩,.slice oo' ops'.length oc',.slice lo' lines'.length lc',.slice ko keys.length kc],.pointer (some ⟨wc.heap.size,0,none⟩),.int .i64 n] V fun e w'=>∃ g,e=.returned (.slice (some ⟨g,0,none⟩) lines'.length lines'.length)∧∃ ls,SRow w' g ls∧ls.length=lines'.length∧
    RN F C i ops' keys ops'.length ls∧Kept [wc.heap.size] V w'):=by
    intro V hV hd
    rw [hF,hC]
    have hkV:=(Kept.of_below (S:=[wc.heap.size]) hb57).trans hV
    have hD5:∀ {e:TypeId} {size:Nat} {v:Value} {m:Nat} {xs:List Value},w5.ownsRow base e size v m xs→V.ownsRow base e size v m xs:=fun h=>z1O h hkV (fun g hg=>by have:=(h.lt g hg).2;have:=hb6.size;simp;omega)
    exact zD7 i hi _ _ _ ops' lines' keys n hn base V (by omega) ok1 apo (by rw [hKL.1,fo]) (by have:=hT.len;omega) (hD5 hO5) (hD5 hL5) (hD5 hK5) wc.heap.size _ ways ways hd
   have HTG:Hid (∀ ls,ls.length=lines'.length→RN F C i ops' keys ops'.length ls→(∀ l∈ls,l.length≤1000)∧(zhe ls).length≤2000000):=by
    intro ls h1 h2
    obtain ⟨k1,k2⟩:=h2.told hi hT hTu hKL
    rw [hF,hC] at k1
    rw [hF] at k2
    have g2:=hTu.again hi hT _ _ q1 q2 q3 q4 ls (by omega) (by omega) k1 k2
    refine ⟨zkM i g2,?_⟩
    have:=(zGe i hi g2 (by omega)).2
    omega
   have HT2:Hid (∀ (V:World) (g:Nat) (ls:List (List UInt8)),SRow V g ls→ls.length=lines'.length→RN F C i ops' keys ops'.length ls→Calls Tryz.prog 12 #[.slice (some ⟨g,0,none⟩) lines'.length lines'.length] V fun e w'=>e=.returned (.string ⟨(zhe ls).toArray⟩)∧Below V.heap.size V w'):=by
    intro V g ls h1 h2 h3
    have h:=text_any (some ⟨g,0,none⟩) lines'.length ls V (fun _=>⟨g,rfl,h1⟩) (by omega) (fun l hl=>by have:=(HTG.out ls h2 h3).1 l hl;omega)
    rw [h2] at h
    exact h
   have HR2:Hid (∀ (V:World) (ls:List (List UInt8)),Below w1.heap.size w1 V→ls.length=lines'.length→RN F C i ops' keys ops'.length ls→Calls Tryz.prog 11 #[.string ⟨(zhe ls).toArray⟩,.string ⟨(modS i).toArray⟩,.int .i64 1099511627776] V fun e w'=>∃ out,zkp (modS i) (zhe ls) 1099511627776 out∧e=.returned (.string ⟨out.toArray⟩)∧Below V.heap.size V w'):=by
    intro V ls h1 h2 h3
    exact zVT (zhe ls) (modS i) 1099511627776 V (hg.below (h1.mono hng)) (hp.stays h1) (HTG.out ls h2 h3).2 (by decide)
   have hS:∀ w':World,Kept [wc.heap.size] W7 w'→(w'.cell? ⟨w2.heap.size,0,none⟩=some (.string ⟨(modS i).toArray⟩)∧w'.cell? ⟨w2.heap.size,1,none⟩=some (.slice oo' ops'.length oc')∧w'.cell? ⟨w2.heap.size,2,none⟩=some (.slice lo' lines'.length lc')∧w'.cell? ⟨w2.heap.size,3,none⟩=some (.slice ko keys.length kc)):=fun w' k=>by
    have hTw:=(k.block w2.heap.size (zBq hB7) (by have:=hb6.size;simp;omega)).trans hB7
    exact ⟨zBk hTw 0,zBk hTw 1,zBk hTw 2,zBk hTw 3⟩
   have HS:Hid _:=hS
   obtain ⟨c0,c1,c2,c3⟩:=hS W7 (Kept.refl _ _)
   have HBK:Hid (∀ V:World,Kept [wc.heap.size] W7 V→Below w1.heap.size w1 V):=fun V k=>hb17.trans (k.below hb17.size (by simp;omega))
   have hDd:=hDi.below ((Below.refl _ _).drew)
   have HKD:Hid (Kept [wc.heap.size] W7 W7.drew):=(Kept.refl _ _).drew
   have HFIN:Hid _:=(⟨hx,hF,hC,hT,hTu,hKL⟩:_∧_∧_∧_∧_∧_)
   have hrc:=HREN.out _ HKD.out hDd
   clear hx hF hC hT hTu hKL hS hDi hD7 hb7 hb16 hb17 hb57 hB5 hL5 hO5 hK5 hb15 fl fo ok1 apo q1 q2 q3 q4 hB7 hb6 HTG HREN hsz16 hsz57 hlT hDl
   go_wp2_with fail
   go_cut [15] (fun a wx=>∃ y ls,a=.string ⟨y.toArray⟩∧ls.length=lines'.length∧RN F C i ops' keys ops'.length ls∧zkp (modS i) (zhe ls) 1099511627776 y∧Below w1.heap.size w1 wx)
   case first=>
    go_region_held3 (fun w'=>w'.cell? ⟨w2.heap.size,0,none⟩=some (.string ⟨(modS i).toArray⟩)∧w'.cell? ⟨w2.heap.size,1,none⟩=some (.slice oo' ops'.length oc')∧w'.cell? ⟨w2.heap.size,2,none⟩=some (.slice lo' lines'.length lc')∧w'.cell? ⟨w2.heap.size,3,none⟩=some (.slice ko keys.length kc)) (first | (with_reducible exact hS8) | (with_reducible exact hS9) | (with_reducible exact hS10) | go_keep) (first
     | (go_at_call 13;refine hrc.mono ?_;rintro e w8 ⟨g8,rfl,ls,k1,k2,k3,k4⟩;have hk8:=HKD.out.trans k4;have hS8:=HS.out _ hk8;have hT8:=HT2.out w8 g8 ls k1 k2 k3;have H8:=srch.Hid.mk' (And.intro k2 (And.intro k3 hk8));clear k1 k2 k3 k4 hk8 hrc)
     | (go_at_call 12;refine hT8.mono ?_;rintro e w9 ⟨rfl,hb9⟩;have hk9:=H8.out.2.2.trans (Kept.of_below (S:=[wc.heap.size]) hb9);have hS9:=HS.out _ hk9;have hR9:=HR2.out w9 ls (HBK.out _ hk9) H8.out.1 H8.out.2.1;have H9:=srch.Hid.mk' hk9;clear hb9 hk9 hT8)
     | (go_at_call 11;refine hR9.mono ?_;rintro e w10 ⟨y,hy,rfl,hb10⟩;have hk10:=H9.out.trans (Kept.of_below (S:=[wc.heap.size]) hb10);have hS10:=HS.out _ hk10;have H10:=srch.Hid.mk' (And.intro hy hk10);clear hy hb10 hk10 hR9))
    go_wp2
    go_meet
    exact ⟨y,ls,rfl,H8.out.1,H8.out.2.1,H10.out.1,HBK.out _ H10.out.2⟩
   case rest=>
    clear HS HT2 HR2 hrc c0 c1 c2 c3 hDd
    obtain ⟨y,ls,rfl,h1,h2,hy,hbf⟩:=hcut
    obtain ⟨hx,hF,hC,hT,hTu,hKL⟩:=HFIN.out
    obtain ⟨q1,q2,q3,q4⟩:=zWr n
    obtain ⟨k1,k2⟩:=h2.told hi hT hTu hKL
    rw [←HTE.out] at hx
    have hl2:=(hTu.form hi hT).1
    have hfin:=zU2 hi hT hll hTu F C (by rw [hF];exact q1) (by rw [hF];exact q2) (by rw [hC];exact q3) (by rw [hC];exact q4) ls (by omega) k1 k2 (by decide) hx hy
    have HB9:Hid _:=hbf
    clear hx hF hC hT hTu hKL q1 q2 q3 q4 k1 k2 hl2 h1 h2 hy HFIN HTE hbf
    rcases hfin with ⟨r,r',ex,ey⟩ | ⟨r,r',ex,ey⟩
    · have hwx:=zYT x r ex
      have hwy:=zYT y r' ey
      clear ex ey
      go_wp2_with fail
      refine (hwx _).mono ?_
      rintro e w11 ⟨rfl,rfl⟩
      go_wp2_with fail
      refine (hwy _).mono ?_
      rintro e w12 ⟨rfl,rfl⟩
      go_wp2_with fail
      go_ret
      exact ⟨HB9.out,rfl⟩
    · have hwx:=z5Y x r ex
      have hwy:=z5Y y r' ey
      clear ex ey
      go_wp2_with fail
      refine (hwx _).mono ?_
      rintro e w11 ⟨rfl,rfl⟩
      go_wp2_with fail
      refine (hwy _).mono ?_
      rintro e w12 ⟨rfl,rfl⟩
      go_wp2_with fail
      go_ret
      exact ⟨HB9.out,rfl⟩
end Go.Proofs.YtlkidmafomjhgaaGreatDoor.keep
