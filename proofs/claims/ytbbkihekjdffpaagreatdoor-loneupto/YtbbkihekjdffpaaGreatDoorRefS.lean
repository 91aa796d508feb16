/- One text. -/
import Derived.Test.YtbbkihekjdffpaaGreatDoorRefR
set_option maxHeartbeats 4000000
set_option maxRecDepth 100000
namespace Go.Proofs.YtbbkihekjdffpaaGreatDoor
open Go.RowKit

def vBlk (w:World) (b:Nat) (k n:Int):Prop:=w.heap[b]?=some (.cells #[.int .i64 k,.int .i64 n] 72 (0,0))
theorem vBlk.below {w w':World} {b:Nat} {x y:Int} (h:vBlk w b x y) (k:Below w.heap.size w w'):vBlk w' b x y:=(k.block b (zBq h)).trans h
theorem vBlk.set {w:World} {b:Nat} {x y:Int} (h:vBlk w b x y) (k n:Int):vBlk ((w.setCell ⟨b,0,none⟩ (.int .i64 k)).setCell ⟨b,1,none⟩ (.int .i64 n)) b k n:=by
 unfold vBlk at*
 rw [zFg (zFg h 0 _) 1 _]
 simp
theorem vBlk.other {w:World} {b c:Nat} {x y:Int} (h:vBlk w b x y) (hn:b≠c) (u v:Value):vBlk ((w.setCell ⟨c,0,none⟩ u).setCell ⟨c,1,none⟩ v) b x y:=by
 unfold vBlk at*
 rw [zRA hn,zRA hn];exact h
theorem z7J {B b:Nat} {w W:World} (h:Below B w W) (hb:B≤b) (v0 v1:Value):Below B w ((W.setCell ⟨b,0,none⟩ v0).setCell ⟨b,1,none⟩ v1):=(h.setCell (p:=⟨b,0,none⟩) hb v0).setCell (p:=⟨b,1,none⟩) hb v1
theorem zM4 (tm:Array Value) (W:World) (b:Nat) (a k n r:Int) (h6:tm[6]?.getD undef=.int .i64 a) (h7:tm[7]?.getD undef=.pointer (some ⟨b,0,none⟩)) (h8:tm[8]?.getD undef=.int .i64 r) (hb:vBlk W b k n):
 (results Tryz.f58 tm).run Tryz.prog W=.ok (.tuple #[.int .i64 a,.agg #[.int .i64 k,.int .i64 n],.int .i64 r]) W:=by
 have c0:W.cell? ⟨b,0,none⟩=some (.int .i64 k):=by rw [zBk hb];rfl
 have c1:W.cell? ⟨b,1,none⟩=some (.int .i64 n):=by rw [zBk hb];rfl
 simp [results,Tryz.results58,go_sem,h6,h7,h8,c0,c1]

def atOf:Option Nat→Int
 | none=> -1
 | some k=>k
def zDq (q:Int×Option (Nat×Int×Int)) (w:World) (e:Ending) (w':World):Prop:=
 Below w.heap.size w w'∧∃ a k n:Int,(∀ p,q.2=some p→a=(p.1:Int)∧k=p.2.1∧n=p.2.2)∧e=.returned (.tuple #[.int .i64 a,.agg #[.int .i64 k,.int .i64 n],.int .i64 q.1])

theorem zub (model:ByteArray) (o:Option Addr) (cap:Nat) (ms:List RM) (oa:Option Addr) (capa:Nat) (ops:List OpV) (w:World) (hr:RRow w o ms) (ho:ORow w oa ops) (hl:ms.length≤2000000) (hol:ops.length≤1000) (hk:∀ m∈ms,rmOk m) (hml:model.size≤2000000) (hon:∀ p∈ops,p.name.length≤8000000):
 Calls Tryz.prog 58 #[.string model,.slice o ms.length cap,.slice oa ops.length capa] w fun e w'=>zDq (zty model.data.toList ms ops) w e w':=by
 go_enter Tryz.func58,Tryz.ntmps58
 go_wp2_with fail
 have hZ:∃ W,((w.alloc (.cells #[.int .i64 0,.int .i64 0] 72)).alloc (.cells #[.int .i64 0,.int .i64 0] 72))=W∧Below w.heap.size w W∧vBlk W w.heap.size 0 0∧vBlk W (w.heap.size+1) 0 0:=
  ⟨_,rfl,((Below.refl _ _).alloc (Nat.le_refl _) _).alloc (by simp) _,(zD1 _ _ _ (by simp)).trans (ziF _ _ _ rfl),ziF _ _ _ (by simp)⟩
 obtain ⟨W0,hW0,hb0,z0,z1⟩:=hZ
 rw [hW0]
 skip
 refine (zAO o cap ms sRet W0 (hr.below hb0) hl).mono ?_
 rintro e w1 ⟨hs1,rfl⟩
 rw [show memR sRet zB6 0 ms=cR sRet ms from rfl]
 obtain ⟨i1,i2,i3,i4,ic,Hi⟩:∃ a b c d n,Hid (cR sRet ms=((a,b,c,d),n)):=⟨_,_,_,_,_,rfl⟩
 rw [Hi.out]
 unfold zF5
 dsimp only
 obtain ⟨W1,hW1,hb1,ht1,ri⟩:∃ W,w1.alloc (.cells #[.string ⟨i1.toArray⟩,.int .u8 (i2:Int),.string ⟨i3.toArray⟩,.int .i64 i4] 123)=W∧Below w.heap.size w W∧Below W0.heap.size W0 W∧rmBlk W w1.heap.size (i1,i2,i3,i4):=
  ⟨_,rfl,(hb0.trans (hs1.mono hb0.size)).alloc (Nat.le_trans hb0.size hs1.size) _,hs1.alloc hs1.size _,rmBlk.new _ (i1,i2,i3,i4)⟩
 replace z0:=z0.below ht1
 replace z1:=z1.below ht1
 go_wp2_with fail
 refine (zAO o cap ms sVal W1 (hr.below hb1) hl).mono ?_
 rintro e w2 ⟨hs2,rfl⟩
 rw [show memR sVal zB6 0 ms=cR sVal ms from rfl]
 obtain ⟨x1,x2,x3,x4,xc,Hx⟩:∃ a b c d n,Hid (cR sVal ms=((a,b,c,d),n)):=⟨_,_,_,_,_,rfl⟩
 rw [Hx.out]
 unfold zF5
 dsimp only
 obtain ⟨W2,hW2,hb2,ht2,rx⟩:∃ W,w2.alloc (.cells #[.string ⟨x1.toArray⟩,.int .u8 (x2:Int),.string ⟨x3.toArray⟩,.int .i64 x4] 123)=W∧Below w.heap.size w W∧Below W1.heap.size W1 W∧rmBlk W w2.heap.size (x1,x2,x3,x4):=
  ⟨_,rfl,(hb1.trans (hs2.mono hb1.size)).alloc (Nat.le_trans hb1.size hs2.size) _,hs2.alloc hs2.size _,rmBlk.new _ (x1,x2,x3,x4)⟩
 replace z0:=z0.below ht2
 replace z1:=z1.below ht2
 replace ri:=ri.below ht2
 go_wp2_with fail
 refine (z51 o cap ms false W2 (hr.below hb2) hl (fun m hm=>(hk m hm).2.1)).mono ?_
 rintro e W3 ⟨ht3,rfl⟩
 have hb3:Below w.heap.size w W3:=hb2.trans (ht3.mono hb2.size)
 replace z0:=z0.below ht3
 replace z1:=z1.below ht3
 replace ri:=ri.below ht3
 replace rx:=rx.below ht3
 have hff:=(zJz false ms 0).1
 obtain ⟨ff,Hff⟩:∃ x,Hid (fitsR false 0 ms=x):=⟨_,rfl⟩
 rw [Hff.out] at hff ⊢
 have hsz:=hb3.size
 have zc0:W3.cell? ⟨w.heap.size+1,0,none⟩=some (.int .i64 0):=by rw [zBk z1];rfl
 have zc1:W3.cell? ⟨w.heap.size+1,1,none⟩=some (.int .i64 0):=by rw [zBk z1];rfl
 have f0:W3.frozen? ⟨w.heap.size,0,none⟩=false:=zBn z0 0
 have f1:W3.frozen? ⟨w.heap.size,1,none⟩=false:=zBn z0 1
 have d0:W3.cell? ⟨w.heap.size,0,none⟩=some (.int .i64 0):=by rw [zBk z0];rfl
 have d1:W3.cell? ⟨w.heap.size,1,none⟩=some (.int .i64 0):=by rw [zBk z0];rfl
 by_cases h3:ff < ms.length∨ic=0∨xc=0
 · have hE:Hid (zty model.data.toList ms ops=(3,none)):=by
    unfold zty;rw [Hi.out,Hx.out,Hff.out,if_pos h3];exact rfl
   by_cases h31:ff < ms.length
   · have h31':(ff:Int) < (ms.length:Int):=by omega
     go_wp2
     go_cut [6,8] (fun a r wx=>a=.int .i64 0∧r=.int .i64 3∧wx=((W3.setCell ⟨w.heap.size,0,none⟩ (.int .i64 0)).setCell ⟨w.heap.size,1,none⟩ (.int .i64 0)).drew)
     case first=>
      go_region
      all_goals
       go_wp2_with fail
       go_meet
       exact ⟨rfl,rfl,rfl⟩
     case rest=>
      obtain ⟨rfl,rfl,rfl⟩:=hcut
      go_wp2
      refine bodyPost_ret (v:=.tuple #[.int .i64 0,.agg #[.int .i64 0,.int .i64 0],.int .i64 3]) ?_ rfl ⟨?_,0,0,0,?_,?_⟩
      · exact zM4 _ _ w.heap.size 0 0 0 3 (by simp) (by simp) (by simp) (vBlk.set z0 _ _)
      · exact (z7J hb3 (Nat.le_refl _) _ _).drew
      · rw [hE.out];intro p h;cases h
      · rw [hE.out]
   · have h31':decide ((ff:Int) < (ms.length:Int))=false:=by simp only [decide_eq_false_iff_not];omega
     by_cases h32:ic=0
     · have h32':((ic:Int) == 0)=true:=by simp;omega
       clear h3 h32
       go_wp2
       go_cut [6,8] (fun a r wx=>a=.int .i64 0∧r=.int .i64 3∧wx=((W3.setCell ⟨w.heap.size,0,none⟩ (.int .i64 0)).setCell ⟨w.heap.size,1,none⟩ (.int .i64 0)).drew)
       case first=>
        go_region
        all_goals
         go_wp2_with fail
         go_meet
         exact ⟨rfl,rfl,rfl⟩
       case rest=>
        obtain ⟨rfl,rfl,rfl⟩:=hcut
        go_wp2
        refine bodyPost_ret (v:=.tuple #[.int .i64 0,.agg #[.int .i64 0,.int .i64 0],.int .i64 3]) ?_ rfl ⟨?_,0,0,0,?_,?_⟩
        · exact zM4 _ _ w.heap.size 0 0 0 3 (by simp) (by simp) (by simp) (vBlk.set z0 _ _)
        · exact (z7J hb3 (Nat.le_refl _) _ _).drew
        · rw [hE.out];intro p h;cases h
        · rw [hE.out]
     · have h32':((ic:Int) == 0)=false:=by simp;omega
       have h33':((xc:Int) == 0)=true:=by simp;omega
       clear h3 h32
       go_wp2
       go_cut [6,8] (fun a r wx=>a=.int .i64 0∧r=.int .i64 3∧wx=((W3.setCell ⟨w.heap.size,0,none⟩ (.int .i64 0)).setCell ⟨w.heap.size,1,none⟩ (.int .i64 0)).drew)
       case first=>
        go_region
        all_goals
         go_wp2_with fail
         go_meet
         exact ⟨rfl,rfl,rfl⟩
       case rest=>
        obtain ⟨rfl,rfl,rfl⟩:=hcut
        go_wp2
        refine bodyPost_ret (v:=.tuple #[.int .i64 0,.agg #[.int .i64 0,.int .i64 0],.int .i64 3]) ?_ rfl ⟨?_,0,0,0,?_,?_⟩
        · exact zM4 _ _ w.heap.size 0 0 0 3 (by simp) (by simp) (by simp) (vBlk.set z0 _ _)
        · exact (z7J hb3 (Nat.le_refl _) _ _).drew
        · rw [hE.out];intro p h;cases h
        · rw [hE.out]
 have g1:decide ((ff:Int) < (ms.length:Int))=false:=by simp only [decide_eq_false_iff_not];omega
 have g0:ms.length≤ff:=by omega
 have g2:((ic:Int) == 0)=false:=by simp;omega
 have g3:((xc:Int) == 0)=false:=by simp;omega
 have hC:Hid (zty model.data.toList ms ops=match zrZ i4 ops 0 none with
  | none=>(7,none)
  | some i=>match ops[i]? with
    | none=>(7,none)
    | some o=>if hasP (zxo x2) (nats (zyw (model.data.toList++[32]++o.name)).2.1)=false then (8,none) else (0,some (i,valR (x1,x2,x3,x4)))):=by
  unfold zty;rw [Hi.out,Hx.out,Hff.out,if_neg h3];exact rfl
 have hx2:x2 < 256:=by have:=(zLS hk sVal).2.1;rw [Hx.out] at this;exact this
 have ho3:=ho.below hb3
 have ri3:W3.cell? ⟨w1.heap.size,3,none⟩=some (.int .i64 i4):=by rw [zBk ri];rfl
 have rx1:W3.cell? ⟨w2.heap.size,1,none⟩=some (.int .u8 (x2:Int)):=by rw [zBk rx];rfl
 have rx3:W3.cell? ⟨w2.heap.size,3,none⟩=some (.int .i64 x4):=by rw [zBk rx];rfl
 clear Hi Hx Hff ri rx hr ho hk h3 hff
 go_wp2
 go_loopw [15,16] (fun a i wr=>∃ (j n:Nat) (r:Option Nat),a=.int .i64 (atOf r)∧i=.int .i64 (j:Int)∧j≤ops.length∧(∀ k,r=some k→k < j)∧zrZ i4 (ops.drop j) j r=zrZ i4 ops 0 none∧wr=W3.drewN n) (fun _ i _=>ops.length - (intOf i).toNat)
 case atStart=>exact ⟨0,0,none,rfl,rfl,by omega,by simp,rfl,rfl⟩
 case round=>
  obtain ⟨j,n,r,rfl,rfl,hj,hrj,HJ,rfl⟩:=hrel
  have hJ:Hid (zrZ i4 (ops.drop j) j r=zrZ i4 ops 0 none):=HJ
  clear HJ
  by_cases hlt:j < ops.length
  · obtain ⟨g,rfl,hg,hcells⟩:=ho3 (fun e=>by rw [e] at hlt;simp at hlt)
    have hcell:∀ c u,c < 10→(opvCells ops[j])[c]?=some u→W3.cell? ⟨g,j*10+c,none⟩=some u:=fun c u hc hu=>hcells _ _ ((zvc ops j hlt c hc).trans hu)
    have c0:=hcell 0 _ (by omega) rfl
    rw [Nat.add_zero] at c0
    have c7:=hcell 7 _ (by omega) rfl
    have hji:(j:Int) < (ops.length:Int):=by omega
    have hD:Hid (zrZ i4 (ops.drop (j+1)) (j+1) (if ops[j].id=i4∧ops[j].ret=0 then some j else r)=zrZ i4 ops 0 none):=by rw [←hJ.out,List.drop_eq_getElem_cons hlt];exact rfl
    clear hcell hcells hJ
    go_wp2
    go_cut [68] (fun a wx=>a=.bool (ops[j].id == i4&&ops[j].ret == 0)∧wx=W3.drewN (n+1))
    case first=>
     cases hcq:(ops[j].id == i4)
     all_goals
      go_region
      all_goals
       go_wp2_with fail
       go_meet
       exact ⟨by simp [hcq],rfl⟩
    case rest=>
     obtain ⟨rfl,rfl⟩:=hcut
     cases hq:(ops[j].id == i4&&ops[j].ret == 0) with
     | true=>
       have hJ2:Hid (zrZ i4 (ops.drop (j+1)) (j+1) (some j)=zrZ i4 ops 0 none):=by rw [←hD.out,if_pos (by simpa using hq)];exact rfl
       clear hD
       go_wp2
       go_roundw
       case rel=>exact ⟨j+1,n+1,some j,rfl,by go_num,by omega,by intro k h;injection h with h;omega,hJ2.out,rfl⟩
       case measure=>simp [intOf];omega
     | false=>
       have hJ2:Hid (zrZ i4 (ops.drop (j+1)) (j+1) r=zrZ i4 ops 0 none):=by rw [←hD.out,if_neg (by simpa using hq)];exact rfl
       clear hD
       go_wp2
       go_roundw
       case rel=>exact ⟨j+1,n+1,r,rfl,by go_num,by omega,fun k h=>by have:=hrj k h;omega,hJ2.out,rfl⟩
       case measure=>simp [intOf];omega
  · have hji:¬ (j:Int) < (ops.length:Int):=by omega
    have hL:Hid (zrZ i4 ops 0 none=r):=by rw [←hJ.out,List.drop_eq_nil_of_le (by omega)];exact rfl
    clear hJ
    cases r with
    | none=>
      have hE:Hid (zty model.data.toList ms ops=(7,none)):=by rw [hC.out,hL.out];exact rfl
      clear hC hL
      rw [show atOf none= -1 from rfl]
      go_wp2
      go_cut [6,8] (fun a r wx=>a=.int .i64 0∧r=.int .i64 7∧wx=((W3.drewN (n+1)).setCell ⟨w.heap.size,0,none⟩ (.int .i64 0)).setCell ⟨w.heap.size,1,none⟩ (.int .i64 0))
      case first=>
       go_region
       all_goals
        go_wp2_with fail
        go_meet
        exact ⟨rfl,rfl,rfl⟩
      case rest=>
       obtain ⟨rfl,rfl,rfl⟩:=hcut
       go_wp2
       refine bodyPost_ret (v:=.tuple #[.int .i64 0,.agg #[.int .i64 0,.int .i64 0],.int .i64 7]) ?_ rfl ⟨?_,0,0,0,?_,?_⟩
       · exact zM4 _ _ w.heap.size 0 0 0 7 (by simp) (by simp) (by simp) (vBlk.set (show vBlk (W3.drewN (n+1)) w.heap.size 0 0 from z0) _ _)
       · exact z7J (Go.below_drewN hb3 (n+1)) (Nat.le_refl _) _ _
       · rw [hE.out];intro p h;cases h
       · rw [hE.out]
    | some q=>
      have hq:q < ops.length:=by have:=hrj q rfl;omega
      obtain ⟨g,rfl,hg,hcells⟩:=ho3 (fun e=>by rw [e] at hq;simp at hq)
      have hcell:∀ c u,c < 10→(opvCells ops[q])[c]?=some u→W3.cell? ⟨g,q*10+c,none⟩=some u:=fun c u hc hu=>hcells _ _ ((zvc ops q hq c hc).trans hu)
      have c2:=hcell 2 _ (by omega) rfl
      have hqi:(q:Int) < (ops.length:Int):=by omega
      have hq0:¬ (q:Int) < 0:=by omega
      have hnm:ops[q].name.length≤8000000:=hon _ (List.getElem_mem hq)
      have hC2:Hid (zty model.data.toList ms ops=if hasP (zxo x2) (nats (zyw (model.data.toList++[32]++ops[q].name)).2.1)=false then (8,none) else (0,some (q,valR (x1,x2,x3,x4)))):=by
       rw [hC.out,hL.out];dsimp only;rw [List.getElem?_eq_getElem hq];exact rfl
      clear hC hL hcell hcells hrj
      generalize ops[q].name=nm at*
      rw [show atOf (some q)=(q:Int) from rfl]
      go_wp2_with fail
      refine (zf4 model ⟨nm.toArray⟩ _ (by omega) (by show nm.toArray.size≤9000000;simp;omega)).mono ?_
      rintro e w8 ⟨hw,rfl⟩
      have hw':=hw.symm
      clear hw
      subst hw'
      rw [show (model++(⟨#[32]⟩:ByteArray)++⟨nm.toArray⟩).toList=model.data.toList++[32]++nm by rw [ByteArray.toList_eq];simp]
      have hnl:=zjM (model.data.toList++[32]++nm)
      obtain ⟨n1,n2,nb,Hn⟩:∃ a b c,Hid (zyw (model.data.toList++[32]++nm)=(a,b,c)):=⟨(zyw (model.data.toList++[32]++nm)).1,(zyw (model.data.toList++[32]++nm)).2.1,(zyw (model.data.toList++[32]++nm)).2.2,(rfl:zyw (model.data.toList++[32]++nm)=_)⟩
      have hC3:Hid (zty model.data.toList ms ops=if hasP (zxo x2) (lets ⟨n2.toArray⟩)=false then (8,none) else (0,some (q,valR (x1,x2,x3,x4)))):=by
       rw [hC2.out,Hn.out];dsimp only;rw [show nats n2=lets ⟨n2.toArray⟩ by unfold nats lets;simp];exact rfl
      rw [Hn.out] at hnl ⊢
      unfold zu1
      dsimp only at hnl ⊢
      clear hC2 Hn
      have y0:W3.frozen? ⟨w.heap.size+1,0,none⟩=false:=zBn z1 0
      have y1:W3.frozen? ⟨w.heap.size+1,1,none⟩=false:=zBn z1 1
      by_cases k1:x2=105
      · subst k1
        have hC4:Hid (zty model.data.toList ms ops=if hasP 105 (lets ⟨n2.toArray⟩)=false then (8,none) else (0,some (q,1,x4))):=by
         rw [hC3.out];exact rfl
        clear hC3
        go_wp2_with fail
        refine (has_any ⟨n2.toArray⟩ 105 _ (by show n2.toArray.size≤9000000;simp;omega) (by first | decide | omega)).mono ?_
        rintro e w9 ⟨rfl,hw⟩
        have hw':=hw.symm
        clear hw
        subst hw'
        obtain ⟨Wv,HWv,hbv,v0,v1⟩:∃ W,((W3.drewN n).setCell ⟨w.heap.size+1,0,none⟩ (.int .i64 1)).setCell ⟨w.heap.size+1,1,none⟩ (.int .i64 x4)=W∧Below w.heap.size w W∧vBlk W w.heap.size 0 0∧vBlk W (w.heap.size+1) 1 x4:=⟨_,rfl,z7J (Go.below_drewN hb3 n) (by omega) _ _,vBlk.other (show vBlk (W3.drewN n) w.heap.size 0 0 from z0) (by omega) _ _,vBlk.set (show vBlk (W3.drewN n) (w.heap.size+1) 0 0 from z1) _ _⟩
        rw [HWv]
        clear HWv zc0 zc1 f0 f1 d0 d1 y0 y1 z0 z1
        have p0:Wv.cell? ⟨w.heap.size+1,0,none⟩=some (.int .i64 1):=by rw [zBk v1];rfl
        have p1:Wv.cell? ⟨w.heap.size+1,1,none⟩=some (.int .i64 x4):=by rw [zBk v1];rfl
        have p2:Wv.frozen? ⟨w.heap.size,0,none⟩=false:=zBn v0 0
        have p3:Wv.frozen? ⟨w.heap.size,1,none⟩=false:=zBn v0 1
        have p4:Wv.cell? ⟨w.heap.size,0,none⟩=some (.int .i64 0):=by rw [zBk v0];rfl
        have p5:Wv.cell? ⟨w.heap.size,1,none⟩=some (.int .i64 0):=by rw [zBk v0];rfl
        cases hh:hasP 105 (lets ⟨n2.toArray⟩) with
        | false=>
          have hE:Hid (zty model.data.toList ms ops=(8,none)):=by rw [hC4.out,hh];exact rfl
          clear hC4 hh
          go_wp2
          go_cut [6,8] (fun a r wx=>a=.int .i64 0∧r=.int .i64 8∧wx=((Wv.setCell ⟨w.heap.size,0,none⟩ (.int .i64 1)).setCell ⟨w.heap.size,1,none⟩ (.int .i64 x4)).drew)
          case first=>
           go_region
           all_goals
            go_wp2_with fail
            go_meet
            exact ⟨rfl,rfl,rfl⟩
          case rest=>
           obtain ⟨rfl,rfl,rfl⟩:=hcut
           go_wp2
           refine bodyPost_ret (v:=.tuple #[.int .i64 0,.agg #[.int .i64 1,.int .i64 x4],.int .i64 8]) ?_ rfl ⟨?_,0,1,x4,?_,?_⟩
           · exact zM4 _ _ w.heap.size 0 1 x4 8 (by simp) (by simp) (by simp) (vBlk.set v0 _ _)
           · exact (z7J hbv (Nat.le_refl _) _ _).drew
           · rw [hE.out];intro p h;cases h
           · rw [hE.out]
        | true=>
          have hE:Hid (zty model.data.toList ms ops=(0,some (q,1,x4))):=by rw [hC4.out,hh];exact rfl
          clear hC4 hh
          go_wp2
          go_cut [6,8] (fun a r wx=>a=.int .i64 (q:Int)∧r=.int .i64 0∧wx=((Wv.setCell ⟨w.heap.size,0,none⟩ (.int .i64 1)).setCell ⟨w.heap.size,1,none⟩ (.int .i64 x4)).drew)
          case first=>
           go_region
           all_goals
            go_wp2_with fail
            go_meet
            exact ⟨rfl,rfl,rfl⟩
          case rest=>
           obtain ⟨rfl,rfl,rfl⟩:=hcut
           go_wp2
           refine bodyPost_ret (v:=.tuple #[.int .i64 (q:Int),.agg #[.int .i64 1,.int .i64 x4],.int .i64 0]) ?_ rfl ⟨?_,(q:Int),1,x4,?_,?_⟩
           · exact zM4 _ _ w.heap.size (q:Int) 1 x4 0 (by simp) (by simp) (by simp) (vBlk.set v0 _ _)
           · exact (z7J hbv (Nat.le_refl _) _ _).drew
           · rw [hE.out];intro p h;injection h with h;subst h;exact ⟨rfl,rfl,rfl⟩
           · rw [hE.out]
      · by_cases k2:x2=116
        · subst k2
          have hC4:Hid (zty model.data.toList ms ops=if hasP 98 (lets ⟨n2.toArray⟩)=false then (8,none) else (0,some (q,2,1))):=by
           rw [hC3.out];exact rfl
          clear hC3
          go_wp2_with fail
          refine (has_any ⟨n2.toArray⟩ 98 _ (by show n2.toArray.size≤9000000;simp;omega) (by first | decide | omega)).mono ?_
          rintro e w9 ⟨rfl,hw⟩
          have hw':=hw.symm
          clear hw
          subst hw'
          obtain ⟨Wv,HWv,hbv,v0,v1⟩:∃ W,((W3.drewN n).setCell ⟨w.heap.size+1,0,none⟩ (.int .i64 2)).setCell ⟨w.heap.size+1,1,none⟩ (.int .i64 1)=W∧Below w.heap.size w W∧vBlk W w.heap.size 0 0∧vBlk W (w.heap.size+1) 2 1:=⟨_,rfl,z7J (Go.below_drewN hb3 n) (by omega) _ _,vBlk.other (show vBlk (W3.drewN n) w.heap.size 0 0 from z0) (by omega) _ _,vBlk.set (show vBlk (W3.drewN n) (w.heap.size+1) 0 0 from z1) _ _⟩
          rw [HWv]
          clear HWv zc0 zc1 f0 f1 d0 d1 y0 y1 z0 z1
          have p0:Wv.cell? ⟨w.heap.size+1,0,none⟩=some (.int .i64 2):=by rw [zBk v1];rfl
          have p1:Wv.cell? ⟨w.heap.size+1,1,none⟩=some (.int .i64 1):=by rw [zBk v1];rfl
          have p2:Wv.frozen? ⟨w.heap.size,0,none⟩=false:=zBn v0 0
          have p3:Wv.frozen? ⟨w.heap.size,1,none⟩=false:=zBn v0 1
          have p4:Wv.cell? ⟨w.heap.size,0,none⟩=some (.int .i64 0):=by rw [zBk v0];rfl
          have p5:Wv.cell? ⟨w.heap.size,1,none⟩=some (.int .i64 0):=by rw [zBk v0];rfl
          cases hh:hasP 98 (lets ⟨n2.toArray⟩) with
          | false=>
            have hE:Hid (zty model.data.toList ms ops=(8,none)):=by rw [hC4.out,hh];exact rfl
            clear hC4 hh
            go_wp2
            go_cut [6,8] (fun a r wx=>a=.int .i64 0∧r=.int .i64 8∧wx=((Wv.setCell ⟨w.heap.size,0,none⟩ (.int .i64 2)).setCell ⟨w.heap.size,1,none⟩ (.int .i64 1)).drew)
            case first=>
             go_region
             all_goals
              go_wp2_with fail
              go_meet
              exact ⟨rfl,rfl,rfl⟩
            case rest=>
             obtain ⟨rfl,rfl,rfl⟩:=hcut
             go_wp2
             refine bodyPost_ret (v:=.tuple #[.int .i64 0,.agg #[.int .i64 2,.int .i64 1],.int .i64 8]) ?_ rfl ⟨?_,0,2,1,?_,?_⟩
             · exact zM4 _ _ w.heap.size 0 2 1 8 (by simp) (by simp) (by simp) (vBlk.set v0 _ _)
             · exact (z7J hbv (Nat.le_refl _) _ _).drew
             · rw [hE.out];intro p h;cases h
             · rw [hE.out]
          | true=>
            have hE:Hid (zty model.data.toList ms ops=(0,some (q,2,1))):=by rw [hC4.out,hh];exact rfl
            clear hC4 hh
            go_wp2
            go_cut [6,8] (fun a r wx=>a=.int .i64 (q:Int)∧r=.int .i64 0∧wx=((Wv.setCell ⟨w.heap.size,0,none⟩ (.int .i64 2)).setCell ⟨w.heap.size,1,none⟩ (.int .i64 1)).drew)
            case first=>
             go_region
             all_goals
              go_wp2_with fail
              go_meet
              exact ⟨rfl,rfl,rfl⟩
            case rest=>
             obtain ⟨rfl,rfl,rfl⟩:=hcut
             go_wp2
             refine bodyPost_ret (v:=.tuple #[.int .i64 (q:Int),.agg #[.int .i64 2,.int .i64 1],.int .i64 0]) ?_ rfl ⟨?_,(q:Int),2,1,?_,?_⟩
             · exact zM4 _ _ w.heap.size (q:Int) 2 1 0 (by simp) (by simp) (by simp) (vBlk.set v0 _ _)
             · exact (z7J hbv (Nat.le_refl _) _ _).drew
             · rw [hE.out];intro p h;injection h with h;subst h;exact ⟨rfl,rfl,rfl⟩
             · rw [hE.out]
        · by_cases k3:x2=102
          · subst k3
            have hC4:Hid (zty model.data.toList ms ops=if hasP 98 (lets ⟨n2.toArray⟩)=false then (8,none) else (0,some (q,2,0))):=by
             rw [hC3.out];exact rfl
            clear hC3
            go_wp2_with fail
            refine (has_any ⟨n2.toArray⟩ 98 _ (by show n2.toArray.size≤9000000;simp;omega) (by first | decide | omega)).mono ?_
            rintro e w9 ⟨rfl,hw⟩
            have hw':=hw.symm
            clear hw
            subst hw'
            obtain ⟨Wv,HWv,hbv,v0,v1⟩:∃ W,((W3.drewN n).setCell ⟨w.heap.size+1,0,none⟩ (.int .i64 2)).setCell ⟨w.heap.size+1,1,none⟩ (.int .i64 0)=W∧Below w.heap.size w W∧vBlk W w.heap.size 0 0∧vBlk W (w.heap.size+1) 2 0:=⟨_,rfl,z7J (Go.below_drewN hb3 n) (by omega) _ _,vBlk.other (show vBlk (W3.drewN n) w.heap.size 0 0 from z0) (by omega) _ _,vBlk.set (show vBlk (W3.drewN n) (w.heap.size+1) 0 0 from z1) _ _⟩
            rw [HWv]
            clear HWv zc0 zc1 f0 f1 d0 d1 y0 y1 z0 z1
            have p0:Wv.cell? ⟨w.heap.size+1,0,none⟩=some (.int .i64 2):=by rw [zBk v1];rfl
            have p1:Wv.cell? ⟨w.heap.size+1,1,none⟩=some (.int .i64 0):=by rw [zBk v1];rfl
            have p2:Wv.frozen? ⟨w.heap.size,0,none⟩=false:=zBn v0 0
            have p3:Wv.frozen? ⟨w.heap.size,1,none⟩=false:=zBn v0 1
            have p4:Wv.cell? ⟨w.heap.size,0,none⟩=some (.int .i64 0):=by rw [zBk v0];rfl
            have p5:Wv.cell? ⟨w.heap.size,1,none⟩=some (.int .i64 0):=by rw [zBk v0];rfl
            cases hh:hasP 98 (lets ⟨n2.toArray⟩) with
            | false=>
              have hE:Hid (zty model.data.toList ms ops=(8,none)):=by rw [hC4.out,hh];exact rfl
              clear hC4 hh
              go_wp2
              go_cut [6,8] (fun a r wx=>a=.int .i64 0∧r=.int .i64 8∧wx=((Wv.setCell ⟨w.heap.size,0,none⟩ (.int .i64 2)).setCell ⟨w.heap.size,1,none⟩ (.int .i64 0)).drew)
              case first=>
               go_region
               all_goals
                go_wp2_with fail
                go_meet
                exact ⟨rfl,rfl,rfl⟩
              case rest=>
               obtain ⟨rfl,rfl,rfl⟩:=hcut
               go_wp2
               refine bodyPost_ret (v:=.tuple #[.int .i64 0,.agg #[.int .i64 2,.int .i64 0],.int .i64 8]) ?_ rfl ⟨?_,0,2,0,?_,?_⟩
               · exact zM4 _ _ w.heap.size 0 2 0 8 (by simp) (by simp) (by simp) (vBlk.set v0 _ _)
               · exact (z7J hbv (Nat.le_refl _) _ _).drew
               · rw [hE.out];intro p h;cases h
               · rw [hE.out]
            | true=>
              have hE:Hid (zty model.data.toList ms ops=(0,some (q,2,0))):=by rw [hC4.out,hh];exact rfl
              clear hC4 hh
              go_wp2
              go_cut [6,8] (fun a r wx=>a=.int .i64 (q:Int)∧r=.int .i64 0∧wx=((Wv.setCell ⟨w.heap.size,0,none⟩ (.int .i64 2)).setCell ⟨w.heap.size,1,none⟩ (.int .i64 0)).drew)
              case first=>
               go_region
               all_goals
                go_wp2_with fail
                go_meet
                exact ⟨rfl,rfl,rfl⟩
              case rest=>
               obtain ⟨rfl,rfl,rfl⟩:=hcut
               go_wp2
               refine bodyPost_ret (v:=.tuple #[.int .i64 (q:Int),.agg #[.int .i64 2,.int .i64 0],.int .i64 0]) ?_ rfl ⟨?_,(q:Int),2,0,?_,?_⟩
               · exact zM4 _ _ w.heap.size (q:Int) 2 0 0 (by simp) (by simp) (by simp) (vBlk.set v0 _ _)
               · exact (z7J hbv (Nat.le_refl _) _ _).drew
               · rw [hE.out];intro p h;injection h with h;subst h;exact ⟨rfl,rfl,rfl⟩
               · rw [hE.out]
          · have q1:((x2:Int) == 105)=false:=by simp;omega
            have q2:((x2:Int) == 116)=false:=by simp;omega
            have q3:((x2:Int) == 102)=false:=by simp;omega
            have e1:zxo x2=x2:=by unfold zxo;rw [if_neg (by omega)]
            have e2:valR (x1,x2,x3,x4)=(0,0):=by unfold valR;dsimp only;rw [if_neg k1,if_neg k2,if_neg k3]
            have hC4:Hid (zty model.data.toList ms ops=if hasP x2 (lets ⟨n2.toArray⟩)=false then (8,none) else (0,some (q,0,0))):=by
             rw [hC3.out];rw [e1,e2];exact rfl
            clear hC3
            go_wp2_with fail
            refine (has_any ⟨n2.toArray⟩ x2 _ (by show n2.toArray.size≤9000000;simp;omega) (by first | decide | omega)).mono ?_
            rintro e w9 ⟨rfl,hw⟩
            have hw':=hw.symm
            clear hw
            subst hw'
            obtain ⟨Wv,HWv,hbv,v0,v1⟩:∃ W,W3.drewN n=W∧Below w.heap.size w W∧vBlk W w.heap.size 0 0∧vBlk W (w.heap.size+1) 0 0:=⟨_,rfl,Go.below_drewN hb3 n,z0,z1⟩
            rw [HWv]
            clear HWv zc0 zc1 f0 f1 d0 d1 y0 y1 z0 z1
            have p0:Wv.cell? ⟨w.heap.size+1,0,none⟩=some (.int .i64 0):=by rw [zBk v1];rfl
            have p1:Wv.cell? ⟨w.heap.size+1,1,none⟩=some (.int .i64 0):=by rw [zBk v1];rfl
            have p2:Wv.frozen? ⟨w.heap.size,0,none⟩=false:=zBn v0 0
            have p3:Wv.frozen? ⟨w.heap.size,1,none⟩=false:=zBn v0 1
            have p4:Wv.cell? ⟨w.heap.size,0,none⟩=some (.int .i64 0):=by rw [zBk v0];rfl
            have p5:Wv.cell? ⟨w.heap.size,1,none⟩=some (.int .i64 0):=by rw [zBk v0];rfl
            cases hh:hasP x2 (lets ⟨n2.toArray⟩) with
            | false=>
              have hE:Hid (zty model.data.toList ms ops=(8,none)):=by rw [hC4.out,hh];exact rfl
              clear hC4 hh
              go_wp2
              go_cut [6,8] (fun a r wx=>a=.int .i64 0∧r=.int .i64 8∧wx=((Wv.setCell ⟨w.heap.size,0,none⟩ (.int .i64 0)).setCell ⟨w.heap.size,1,none⟩ (.int .i64 0)).drew)
              case first=>
               go_region
               all_goals
                go_wp2_with fail
                go_meet
                exact ⟨rfl,rfl,rfl⟩
              case rest=>
               obtain ⟨rfl,rfl,rfl⟩:=hcut
               go_wp2
               refine bodyPost_ret (v:=.tuple #[.int .i64 0,.agg #[.int .i64 0,.int .i64 0],.int .i64 8]) ?_ rfl ⟨?_,0,0,0,?_,?_⟩
               · exact zM4 _ _ w.heap.size 0 0 0 8 (by simp) (by simp) (by simp) (vBlk.set v0 _ _)
               · exact (z7J hbv (Nat.le_refl _) _ _).drew
               · rw [hE.out];intro p h;cases h
               · rw [hE.out]
            | true=>
              have hE:Hid (zty model.data.toList ms ops=(0,some (q,0,0))):=by rw [hC4.out,hh];exact rfl
              clear hC4 hh
              go_wp2
              go_cut [6,8] (fun a r wx=>a=.int .i64 (q:Int)∧r=.int .i64 0∧wx=((Wv.setCell ⟨w.heap.size,0,none⟩ (.int .i64 0)).setCell ⟨w.heap.size,1,none⟩ (.int .i64 0)).drew)
              case first=>
               go_region
               all_goals
                go_wp2_with fail
                go_meet
                exact ⟨rfl,rfl,rfl⟩
              case rest=>
               obtain ⟨rfl,rfl,rfl⟩:=hcut
               go_wp2
               refine bodyPost_ret (v:=.tuple #[.int .i64 (q:Int),.agg #[.int .i64 0,.int .i64 0],.int .i64 0]) ?_ rfl ⟨?_,(q:Int),0,0,?_,?_⟩
               · exact zM4 _ _ w.heap.size (q:Int) 0 0 0 (by simp) (by simp) (by simp) (vBlk.set v0 _ _)
               · exact (z7J hbv (Nat.le_refl _) _ _).drew
               · rw [hE.out];intro p h;injection h with h;subst h;exact ⟨rfl,rfl,rfl⟩
               · rw [hE.out]
end Go.Proofs.YtbbkihekjdffpaaGreatDoor
