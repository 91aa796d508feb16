/- One text. -/
import Derived.Test.YtbbkihekjdffpaaGreatDoorPureY
namespace Go.Proofs.YtbbkihekjdffpaaGreatDoor
open Go.RowKit

set_option maxHeartbeats 4000000 in
set_option maxRecDepth 100000 in
theorem zsE (model:ByteArray) (o:Option Addr) (cap:Nat) (ms:List RM) (oa:Option Addr) (capa:Nat) (ops:List OpV) (w:World) (hr:RRow w o ms) (ho:ORow w oa ops) (hl:ms.length≤2000000) (hol:ops.length≤1000) (hk:∀ m∈ms,rmOk m) (hml:model.size≤2000000):
 Calls Tryz.prog 57 #[.string model,.slice o ms.length cap,.slice oa ops.length capa] w fun e w'=>Below w.heap.size w w'∧e=.returned (.tuple #[zWb ((zjv model.data.toList ms ops).2.getD z1u),.int .i64 (zjv model.data.toList ms ops).1]):=by
 go_enter Tryz.func57,Tryz.ntmps57
 go_wp2_with fail
 have hZ:∃ W,((w.alloc (.cells #[.int .i64 0,.int .i64 0,.string ⟨#[]⟩,.string ⟨#[]⟩,.int .i64 0,.int .i64 0,.int .i64 0,.int .i64 0,.int .i64 0,.int .i64 0] 74)).alloc (.cells #[.int .i64 0,.int .i64 0,.string ⟨#[]⟩,.string ⟨#[]⟩,.int .i64 0,.int .i64 0,.int .i64 0,.int .i64 0,.int .i64 0,.int .i64 0] 74))=W∧Below w.heap.size w W∧zBlk W w.heap.size∧zBlk W (w.heap.size+1):=
  ⟨_,rfl,((Below.refl _ _).alloc (Nat.le_refl _) _).alloc (by simp) _,(zD1 _ _ _ (by simp)).trans (ziF _ _ _ rfl),ziF _ _ _ (by simp)⟩
 obtain ⟨W0,hW0,hb0,z0,z1⟩:=hZ
 rw [hW0]
 skip
 refine (zAO o cap ms z3k W0 (hr.below hb0) hl).mono ?_
 rintro e w1 ⟨hs1,rfl⟩
 rw [show memR z3k zB6 0 ms=cR z3k ms from rfl]
 obtain ⟨i1,i2,i3,i4,ic,Hi⟩:∃ a b c d n,Hid (cR z3k ms=((a,b,c,d),n)):=⟨_,_,_,_,_,rfl⟩
 rw [Hi.out]
 unfold zF5
 dsimp only
 obtain ⟨W1,hW1,hb1,ht1,ri⟩:∃ W,w1.alloc (.cells #[.string ⟨i1.toArray⟩,.int .u8 (i2:Int),.string ⟨i3.toArray⟩,.int .i64 i4] 123)=W∧Below w.heap.size w W∧Below W0.heap.size W0 W∧rmBlk W w1.heap.size (i1,i2,i3,i4):=
  ⟨_,rfl,(hb0.trans (hs1.mono hb0.size)).alloc (Nat.le_trans hb0.size hs1.size) _,hs1.alloc hs1.size _,rmBlk.new _ (i1,i2,i3,i4)⟩
 replace z0:=z0.below ht1
 replace z1:=z1.below ht1
 go_wp2_with fail
 refine (zAO o cap ms sBy W1 (hr.below hb1) hl).mono ?_
 rintro e w2 ⟨hs2,rfl⟩
 rw [show memR sBy zB6 0 ms=cR sBy ms from rfl]
 obtain ⟨y1,y2,y3,y4,yc,Hy⟩:∃ a b c d n,Hid (cR sBy ms=((a,b,c,d),n)):=⟨_,_,_,_,_,rfl⟩
 rw [Hy.out]
 unfold zF5
 dsimp only
 obtain ⟨W2,hW2,hb2,ht2,ry⟩:∃ W,w2.alloc (.cells #[.string ⟨y1.toArray⟩,.int .u8 (y2:Int),.string ⟨y3.toArray⟩,.int .i64 y4] 123)=W∧Below w.heap.size w W∧Below W1.heap.size W1 W∧rmBlk W w2.heap.size (y1,y2,y3,y4):=
  ⟨_,rfl,(hb1.trans (hs2.mono hb1.size)).alloc (Nat.le_trans hb1.size hs2.size) _,hs2.alloc hs2.size _,rmBlk.new _ (y1,y2,y3,y4)⟩
 replace z0:=z0.below ht2
 replace z1:=z1.below ht2
 replace ri:=ri.below ht2
 go_wp2_with fail
 refine (zAO o cap ms sOp W2 (hr.below hb2) hl).mono ?_
 rintro e w3 ⟨hs3,rfl⟩
 rw [show memR sOp zB6 0 ms=cR sOp ms from rfl]
 obtain ⟨p1,p2,p3,p4,pc,Hp⟩:∃ a b c d n,Hid (cR sOp ms=((a,b,c,d),n)):=⟨_,_,_,_,_,rfl⟩
 rw [Hp.out]
 unfold zF5
 dsimp only
 obtain ⟨W3,hW3,hb3,ht3,rp⟩:∃ W,w3.alloc (.cells #[.string ⟨p1.toArray⟩,.int .u8 (p2:Int),.string ⟨p3.toArray⟩,.int .i64 p4] 123)=W∧Below w.heap.size w W∧Below W2.heap.size W2 W∧rmBlk W w3.heap.size (p1,p2,p3,p4):=
  ⟨_,rfl,(hb2.trans (hs3.mono hb2.size)).alloc (Nat.le_trans hb2.size hs3.size) _,hs3.alloc hs3.size _,rmBlk.new _ (p1,p2,p3,p4)⟩
 replace z0:=z0.below ht3
 replace z1:=z1.below ht3
 replace ri:=ri.below ht3
 replace ry:=ry.below ht3
 go_wp2_with fail
 refine (z51 o cap ms true W3 (hr.below hb3) hl (fun m hm=>(hk m hm).2.1)).mono ?_
 rintro e W4 ⟨ht4,rfl⟩
 have hb4:Below w.heap.size w W4:=hb3.trans (ht4.mono hb3.size)
 replace z0:=z0.below ht4
 replace z1:=z1.below ht4
 replace ri:=ri.below ht4
 replace ry:=ry.below ht4
 replace rp:=rp.below ht4
 have hff:=(zJz true ms 0).1
 obtain ⟨ff,Hff⟩:∃ x,Hid (fitsR true 0 ms=x):=⟨_,rfl⟩
 rw [Hff.out] at hff ⊢
 have zc:zCells W4 (w.heap.size+1):=z1.cells
 have zd:zCells W4 w.heap.size:=z0.cells
 have hsz:=hb4.size
 by_cases h3:ff < ms.length∨yc=0∨pc=0
 · have hE:Hid (zjv model.data.toList ms ops=(3,none)):=by
    unfold zjv;rw [Hy.out,Hp.out,Hff.out,if_pos h3];exact rfl
   have f0:W4.frozen? ⟨w.heap.size,0,none⟩=false:=zBn z0 0
   have f1:W4.frozen? ⟨w.heap.size,1,none⟩=false:=zBn z0 1
   have f2:W4.frozen? ⟨w.heap.size,2,none⟩=false:=zBn z0 2
   have f3:W4.frozen? ⟨w.heap.size,3,none⟩=false:=zBn z0 3
   have f4:W4.frozen? ⟨w.heap.size,4,none⟩=false:=zBn z0 4
   have f5:W4.frozen? ⟨w.heap.size,5,none⟩=false:=zBn z0 5
   have f6:W4.frozen? ⟨w.heap.size,6,none⟩=false:=zBn z0 6
   have f7:W4.frozen? ⟨w.heap.size,7,none⟩=false:=zBn z0 7
   have f8:W4.frozen? ⟨w.heap.size,8,none⟩=false:=zBn z0 8
   have f9:W4.frozen? ⟨w.heap.size,9,none⟩=false:=zBn z0 9
   obtain ⟨zc0,zc1,zc2,zc3,zc4,zc5,zc6,zc7,zc8,zc9⟩:=z1.cells
   obtain ⟨zd0,zd1,zd2,zd3,zd4,zd5,zd6,zd7,zd8,zd9⟩:=z0.cells
   clear zc zd
   by_cases h31:ff < ms.length
   · have h31':(ff:Int) < (ms.length:Int):=by omega
     go_wp2
     refine bodyPost_ret (v:=.tuple #[zWb z1u,.int .i64 3]) ?_ rfl ⟨?_,?_⟩
     · exact zC5 _ _ w.heap.size z1u 3 (by simp) (by simp) (zset z0)
     · exact zRw hb4 (Nat.le_refl _) _ _ _ _ _ _ _ _ _ _
     · rw [hE.out];rfl
   · have h31':decide ((ff:Int) < (ms.length:Int))=false:=by simp only [decide_eq_false_iff_not];omega
     by_cases h32:yc=0
     · have h32':((yc:Int) == 0)=true:=by simp;omega
       clear h3 h32
       go_wp2
       refine bodyPost_ret (v:=.tuple #[zWb z1u,.int .i64 3]) ?_ rfl ⟨?_,?_⟩
       · exact zC5 _ _ w.heap.size z1u 3 (by simp) (by simp) (zset z0)
       · exact zRw hb4 (Nat.le_refl _) _ _ _ _ _ _ _ _ _ _
       · rw [hE.out];rfl
     · have h32':((yc:Int) == 0)=false:=by simp;omega
       have h33':((pc:Int) == 0)=true:=by simp;omega
       clear h3 h32
       go_wp2
       refine bodyPost_ret (v:=.tuple #[zWb z1u,.int .i64 3]) ?_ rfl ⟨?_,?_⟩
       · exact zC5 _ _ w.heap.size z1u 3 (by simp) (by simp) (zset z0)
       · exact zRw hb4 (Nat.le_refl _) _ _ _ _ _ _ _ _ _ _
       · rw [hE.out];rfl
 have g1:decide ((ff:Int) < (ms.length:Int))=false:=by simp only [decide_eq_false_iff_not];omega
 have g2:((yc:Int) == 0)=false:=by simp;omega
 have g3:((pc:Int) == 0)=false:=by simp;omega
 clear zc zd
 go_wp2_with fail
 refine (zAO o cap ms sKey W4 (hr.below hb4) hl).mono ?_
 rintro e w5 ⟨hs5,rfl⟩
 rw [show memR sKey zB6 0 ms=cR sKey ms from rfl]
 obtain ⟨k1,k2,k3,k4,kc,Hk⟩:∃ a b c d n,Hid (cR sKey ms=((a,b,c,d),n)):=⟨_,_,_,_,_,rfl⟩
 rw [Hk.out]
 unfold zF5
 dsimp only
 obtain ⟨W5,hW5,hb5,ht5,rk⟩:∃ W,w5.alloc (.cells #[.string ⟨k1.toArray⟩,.int .u8 (k2:Int),.string ⟨k3.toArray⟩,.int .i64 k4] 123)=W∧Below w.heap.size w W∧Below W4.heap.size W4 W∧rmBlk W w5.heap.size (k1,k2,k3,k4):=
  ⟨_,rfl,(hb4.trans (hs5.mono hb4.size)).alloc (Nat.le_trans hb4.size hs5.size) _,hs5.alloc hs5.size _,rmBlk.new _ (k1,k2,k3,k4)⟩
 replace z0:=z0.below ht5
 replace z1:=z1.below ht5
 replace ri:=ri.below ht5
 replace ry:=ry.below ht5
 replace rp:=rp.below ht5
 go_wp2_with fail
 refine (zAO o cap ms sArg W5 (hr.below hb5) hl).mono ?_
 rintro e w6 ⟨hs6,rfl⟩
 rw [show memR sArg zB6 0 ms=cR sArg ms from rfl]
 obtain ⟨a1,a2,a3,a4,ac,Ha⟩:∃ a b c d n,Hid (cR sArg ms=((a,b,c,d),n)):=⟨_,_,_,_,_,rfl⟩
 rw [Ha.out]
 unfold zF5
 dsimp only
 obtain ⟨W6,hW6,hb6,ht6,ra⟩:∃ W,w6.alloc (.cells #[.string ⟨a1.toArray⟩,.int .u8 (a2:Int),.string ⟨a3.toArray⟩,.int .i64 a4] 123)=W∧Below w.heap.size w W∧Below W5.heap.size W5 W∧rmBlk W w6.heap.size (a1,a2,a3,a4):=
  ⟨_,rfl,(hb5.trans (hs6.mono hb5.size)).alloc (Nat.le_trans hb5.size hs6.size) _,hs6.alloc hs6.size _,rmBlk.new _ (a1,a2,a3,a4)⟩
 replace z0:=z0.below ht6
 replace z1:=z1.below ht6
 replace ri:=ri.below ht6
 replace ry:=ry.below ht6
 replace rp:=rp.below ht6
 replace rk:=rk.below ht6
 go_wp2_with fail
 refine (zAO o cap ms sExp W6 (hr.below hb6) hl).mono ?_
 rintro e w7 ⟨hs7,rfl⟩
 rw [show memR sExp zB6 0 ms=cR sExp ms from rfl]
 obtain ⟨x1,x2,x3,x4,xc,Hx⟩:∃ a b c d n,Hid (cR sExp ms=((a,b,c,d),n)):=⟨_,_,_,_,_,rfl⟩
 rw [Hx.out]
 unfold zF5
 dsimp only
 obtain ⟨W7,hW7,hb7,ht7,rx⟩:∃ W,w7.alloc (.cells #[.string ⟨x1.toArray⟩,.int .u8 (x2:Int),.string ⟨x3.toArray⟩,.int .i64 x4] 123)=W∧Below w.heap.size w W∧Below W6.heap.size W6 W∧rmBlk W w7.heap.size (x1,x2,x3,x4):=
  ⟨_,rfl,(hb6.trans (hs7.mono hb6.size)).alloc (Nat.le_trans hb6.size hs7.size) _,hs7.alloc hs7.size _,rmBlk.new _ (x1,x2,x3,x4)⟩
 replace z0:=z0.below ht7
 replace z1:=z1.below ht7
 replace ri:=ri.below ht7
 replace ry:=ry.below ht7
 replace rp:=rp.below ht7
 replace rk:=rk.below ht7
 replace ra:=ra.below ht7
 have rp2:W7.cell? ⟨w3.heap.size,2,none⟩=some (.string ⟨p3.toArray⟩):=by rw [zBk rp];rfl
 have hp3:p3.length≤8000000:=by have:=(zLS hk sOp).2.2;rw [Hp.out] at this;exact this
 go_wp2_with fail
 refine (zf4 model ⟨p3.toArray⟩ _ (by omega) (by show p3.toArray.size≤9000000;simp;omega)).mono ?_
 rintro e w8 ⟨hw,rfl⟩
 have hw':=hw.symm
 clear hw
 subst hw'
 rw [show (model++(⟨#[32]⟩:ByteArray)++⟨p3.toArray⟩).toList=model.data.toList++[32]++p3 by rw [ByteArray.toList_eq];simp]
 have hnl:=zjM (model.data.toList++[32]++p3)
 obtain ⟨n1,n2,nb,Hn⟩:∃ a b c,Hid (zyw (model.data.toList++[32]++p3)=(a,b,c)):=⟨(zyw (model.data.toList++[32]++p3)).1,(zyw (model.data.toList++[32]++p3)).2.1,(zyw (model.data.toList++[32]++p3)).2.2,(rfl:zyw (model.data.toList++[32]++p3)=_)⟩
 rw [Hn.out] at hnl ⊢
 unfold zu1
 dsimp only at hnl ⊢
 go_wp2_with fail
 refine (has_any ⟨n1.toArray⟩ 107 _ (by show n1.toArray.size≤9000000;simp;omega) (by decide)).mono ?_
 rintro e w9 ⟨rfl,hw⟩
 have hw':=hw.symm
 clear hw
 subst hw'
 obtain ⟨bk,Hbk⟩:∃ b,Hid (hasP 107 (lets ⟨n1.toArray⟩)=b):=⟨_,rfl⟩
 rw [Hbk.out]
 go_wp2_with fail
 refine (has_any ⟨n1.toArray⟩ 97 _ (by show n1.toArray.size≤9000000;simp;omega) (by decide)).mono ?_
 rintro e w9 ⟨rfl,hw⟩
 have hw':=hw.symm
 clear hw
 subst hw'
 obtain ⟨ba,Hba⟩:∃ b,Hid (hasP 97 (lets ⟨n1.toArray⟩)=b):=⟨_,rfl⟩
 rw [Hba.out]
 go_wp2_with fail
 refine (has_any ⟨n1.toArray⟩ 101 _ (by show n1.toArray.size≤9000000;simp;omega) (by decide)).mono ?_
 rintro e w9 ⟨rfl,hw⟩
 have hw':=hw.symm
 clear hw
 subst hw'
 obtain ⟨bx,Hbx⟩:∃ b,Hid (hasP 101 (lets ⟨n1.toArray⟩)=b):=⟨_,rfl⟩
 rw [Hbx.out]
 have hnx:nats n1=lets ⟨n1.toArray⟩:=by unfold nats lets;simp
 have hNO:Hid (zPn model.data.toList ms=(nb&&(bk == decide (0 < kc))&&(ba == decide (0 < ac))&&(bx == decide (0 < xc)))):=by
  unfold zPn;rw [Hp.out,Hk.out,Ha.out,Hx.out];dsimp only;rw [Hn.out];dsimp only;rw [hnx,Hbk.out,Hba.out,Hbx.out];exact rfl
 have hC:Hid (zPn model.data.toList ms=false→zjv model.data.toList ms ops=(4,none)):=by
  intro hh;unfold zjv;rw [Hy.out,Hp.out,Hff.out,if_neg h3,if_pos hh]
 clear hnx
 rcases (by cases nb <;> simp:nb=false∨nb=true) with hnb | hnb
 · subst hnb
   have hE:Hid (zjv model.data.toList ms ops=(4,none)):=hC.out (by rw [hNO.out];simp)
   clear hNO hC Hi Hy Hp Hk Ha Hx Hff Hn Hbk Hba Hbx ri ry rp rk ra rx rp2 hnl hp3 hr ho hk h3 hff
   have f0:W7.frozen? ⟨w.heap.size,0,none⟩=false:=zBn z0 0
   have f1:W7.frozen? ⟨w.heap.size,1,none⟩=false:=zBn z0 1
   have f2:W7.frozen? ⟨w.heap.size,2,none⟩=false:=zBn z0 2
   have f3:W7.frozen? ⟨w.heap.size,3,none⟩=false:=zBn z0 3
   have f4:W7.frozen? ⟨w.heap.size,4,none⟩=false:=zBn z0 4
   have f5:W7.frozen? ⟨w.heap.size,5,none⟩=false:=zBn z0 5
   have f6:W7.frozen? ⟨w.heap.size,6,none⟩=false:=zBn z0 6
   have f7:W7.frozen? ⟨w.heap.size,7,none⟩=false:=zBn z0 7
   have f8:W7.frozen? ⟨w.heap.size,8,none⟩=false:=zBn z0 8
   have f9:W7.frozen? ⟨w.heap.size,9,none⟩=false:=zBn z0 9
   obtain ⟨zc0,zc1,zc2,zc3,zc4,zc5,zc6,zc7,zc8,zc9⟩:=z1.cells
   obtain ⟨zd0,zd1,zd2,zd3,zd4,zd5,zd6,zd7,zd8,zd9⟩:=z0.cells
   go_wp2
   refine bodyPost_ret (v:=.tuple #[zWb z1u,.int .i64 4]) ?_ rfl ⟨?_,?_⟩
   · exact zC5 _ _ w.heap.size z1u 4 (by simp) (by simp) (zset z0)
   · exact zRw hb7 (Nat.le_refl _) _ _ _ _ _ _ _ _ _ _
   · rw [hE.out];rfl
 · subst hnb
   cases q1:(bk == decide (0 < kc)) with
   | false=>
     have hE:Hid (zjv model.data.toList ms ops=(4,none)):=hC.out (by rw [hNO.out,q1];simp)
     clear hNO hC Hi Hy Hp Hk Ha Hx Hff Hn Hbk Hba Hbx ri ry rp rk ra rx rp2 hnl hp3 hr ho hk h3 hff
     have f0:W7.frozen? ⟨w.heap.size,0,none⟩=false:=zBn z0 0
     have f1:W7.frozen? ⟨w.heap.size,1,none⟩=false:=zBn z0 1
     have f2:W7.frozen? ⟨w.heap.size,2,none⟩=false:=zBn z0 2
     have f3:W7.frozen? ⟨w.heap.size,3,none⟩=false:=zBn z0 3
     have f4:W7.frozen? ⟨w.heap.size,4,none⟩=false:=zBn z0 4
     have f5:W7.frozen? ⟨w.heap.size,5,none⟩=false:=zBn z0 5
     have f6:W7.frozen? ⟨w.heap.size,6,none⟩=false:=zBn z0 6
     have f7:W7.frozen? ⟨w.heap.size,7,none⟩=false:=zBn z0 7
     have f8:W7.frozen? ⟨w.heap.size,8,none⟩=false:=zBn z0 8
     have f9:W7.frozen? ⟨w.heap.size,9,none⟩=false:=zBn z0 9
     obtain ⟨zc0,zc1,zc2,zc3,zc4,zc5,zc6,zc7,zc8,zc9⟩:=z1.cells
     obtain ⟨zd0,zd1,zd2,zd3,zd4,zd5,zd6,zd7,zd8,zd9⟩:=z0.cells
     go_wp2
     refine bodyPost_ret (v:=.tuple #[zWb z1u,.int .i64 4]) ?_ rfl ⟨?_,?_⟩
     · exact zC5 _ _ w.heap.size z1u 4 (by simp) (by simp) (zset z0)
     · exact zRw hb7 (Nat.le_refl _) _ _ _ _ _ _ _ _ _ _
     · rw [hE.out];rfl
   | true=>
     cases q2:(ba == decide (0 < ac)) with
     | false=>
       have hE:Hid (zjv model.data.toList ms ops=(4,none)):=hC.out (by rw [hNO.out,q2];simp)
       clear hNO hC Hi Hy Hp Hk Ha Hx Hff Hn Hbk Hba Hbx ri ry rp rk ra rx rp2 hnl hp3 hr ho hk h3 hff
       have f0:W7.frozen? ⟨w.heap.size,0,none⟩=false:=zBn z0 0
       have f1:W7.frozen? ⟨w.heap.size,1,none⟩=false:=zBn z0 1
       have f2:W7.frozen? ⟨w.heap.size,2,none⟩=false:=zBn z0 2
       have f3:W7.frozen? ⟨w.heap.size,3,none⟩=false:=zBn z0 3
       have f4:W7.frozen? ⟨w.heap.size,4,none⟩=false:=zBn z0 4
       have f5:W7.frozen? ⟨w.heap.size,5,none⟩=false:=zBn z0 5
       have f6:W7.frozen? ⟨w.heap.size,6,none⟩=false:=zBn z0 6
       have f7:W7.frozen? ⟨w.heap.size,7,none⟩=false:=zBn z0 7
       have f8:W7.frozen? ⟨w.heap.size,8,none⟩=false:=zBn z0 8
       have f9:W7.frozen? ⟨w.heap.size,9,none⟩=false:=zBn z0 9
       obtain ⟨zc0,zc1,zc2,zc3,zc4,zc5,zc6,zc7,zc8,zc9⟩:=z1.cells
       obtain ⟨zd0,zd1,zd2,zd3,zd4,zd5,zd6,zd7,zd8,zd9⟩:=z0.cells
       go_wp2
       refine bodyPost_ret (v:=.tuple #[zWb z1u,.int .i64 4]) ?_ rfl ⟨?_,?_⟩
       · exact zC5 _ _ w.heap.size z1u 4 (by simp) (by simp) (zset z0)
       · exact zRw hb7 (Nat.le_refl _) _ _ _ _ _ _ _ _ _ _
       · rw [hE.out];rfl
     | true=>
       cases q3:(bx == decide (0 < xc)) with
       | false=>
         have hE:Hid (zjv model.data.toList ms ops=(4,none)):=hC.out (by rw [hNO.out,q3];simp)
         clear hNO hC Hi Hy Hp Hk Ha Hx Hff Hn Hbk Hba Hbx ri ry rp rk ra rx rp2 hnl hp3 hr ho hk h3 hff
         have f0:W7.frozen? ⟨w.heap.size,0,none⟩=false:=zBn z0 0
         have f1:W7.frozen? ⟨w.heap.size,1,none⟩=false:=zBn z0 1
         have f2:W7.frozen? ⟨w.heap.size,2,none⟩=false:=zBn z0 2
         have f3:W7.frozen? ⟨w.heap.size,3,none⟩=false:=zBn z0 3
         have f4:W7.frozen? ⟨w.heap.size,4,none⟩=false:=zBn z0 4
         have f5:W7.frozen? ⟨w.heap.size,5,none⟩=false:=zBn z0 5
         have f6:W7.frozen? ⟨w.heap.size,6,none⟩=false:=zBn z0 6
         have f7:W7.frozen? ⟨w.heap.size,7,none⟩=false:=zBn z0 7
         have f8:W7.frozen? ⟨w.heap.size,8,none⟩=false:=zBn z0 8
         have f9:W7.frozen? ⟨w.heap.size,9,none⟩=false:=zBn z0 9
         obtain ⟨zc0,zc1,zc2,zc3,zc4,zc5,zc6,zc7,zc8,zc9⟩:=z1.cells
         obtain ⟨zd0,zd1,zd2,zd3,zd4,zd5,zd6,zd7,zd8,zd9⟩:=z0.cells
         go_wp2
         refine bodyPost_ret (v:=.tuple #[zWb z1u,.int .i64 4]) ?_ rfl ⟨?_,?_⟩
         · exact zC5 _ _ w.heap.size z1u 4 (by simp) (by simp) (zset z0)
         · exact zRw hb7 (Nat.le_refl _) _ _ _ _ _ _ _ _ _ _
         · rw [hE.out];rfl
       | true=>
         have hE4:Hid (zPn model.data.toList ms=true):=by rw [hNO.out,q1,q2,q3];exact rfl
         clear hNO hC
         have hC2:Hid (zjv model.data.toList ms ops=if ops.any (fun o=>o.id == i4)=true then (5,none) else if ops.any (fun o=>o.cl == y4&&o.ret == 0)=true then (6,none) else (0,some ⟨i4,y4,p3,k3,a4,x4,0,0,0,0⟩)):=by
          unfold zjv;rw [Hy.out,Hp.out,Hff.out,if_neg h3,if_neg (show ¬ (zPn model.data.toList ms=false) by rw [hE4.out];simp),Hi.out,Hk.out,Ha.out,Hx.out];exact rfl
         have ho7:=ho.below hb7
         have ri3:W7.cell? ⟨w1.heap.size,3,none⟩=some (.int .i64 i4):=by rw [zBk ri];rfl
         have ry3:W7.cell? ⟨w2.heap.size,3,none⟩=some (.int .i64 y4):=by rw [zBk ry];rfl
         have ra3:W7.cell? ⟨w6.heap.size,3,none⟩=some (.int .i64 a4):=by rw [zBk ra];rfl
         have rx3:W7.cell? ⟨w7.heap.size,3,none⟩=some (.int .i64 x4):=by rw [zBk rx];rfl
         have rp2':W7.cell? ⟨w3.heap.size,2,none⟩=some (.string ⟨p3.toArray⟩):=by rw [zBk rp];rfl
         have rk2':W7.cell? ⟨w5.heap.size,2,none⟩=some (.string ⟨k3.toArray⟩):=by rw [zBk rk];rfl
         clear Hi Hy Hp Hk Ha Hx Hff Hn Hbk Hba Hbx ri ry rp rk ra rx rp2 hnl hp3 hr ho hk h3 hff hE4
         go_wp2
         go_loopw [28] (fun i wr=>∃ (j n:Nat),i=.int .i64 (j:Int)∧j≤ops.length∧(ops.drop j).any (fun o=>o.id == i4)=ops.any (fun o=>o.id == i4)∧wr=W7.drewN n) (fun i _=>ops.length - (intOf i).toNat)
         case atStart=>exact ⟨0,0,rfl,by omega,rfl,rfl⟩
         case round=>
          obtain ⟨j,n,rfl,hj,HJ,rfl⟩:=hrel
          have hJ:Hid ((ops.drop j).any (fun o=>o.id == i4)=ops.any (fun o=>o.id == i4)):=HJ
          clear HJ
          by_cases hlt:j < ops.length
          · obtain ⟨g,rfl,hg,hcells⟩:=ho7 (fun e=>by rw [e] at hlt;simp at hlt)
            have hcell:∀ c u,c < 10→(opvCells ops[j])[c]?=some u→W7.cell? ⟨g,j*10+c,none⟩=some u:=fun c u hc hu=>hcells _ _ ((zvc ops j hlt c hc).trans hu)
            have c0:=hcell 0 _ (by omega) rfl
            rw [Nat.add_zero] at c0
            have hji:(j:Int) < (ops.length:Int):=by omega
            have hD:Hid (ops.any (fun o=>o.id == i4)=((ops[j].id == i4)||(ops.drop (j+1)).any (fun o=>o.id == i4))):=by rw [←hJ.out,List.drop_eq_getElem_cons hlt,List.any_cons];exact rfl
            clear hcell hcells hJ
            go_wp2
            go_cut [123] (fun a wx=>a=.bool (ops[j].id == i4)∧wx=W7.drewN (n+1))
            case first=>
             go_region
             all_goals
              go_wp2_with fail
              go_meet
              exact ⟨rfl,rfl⟩
            case rest=>
             obtain ⟨rfl,rfl⟩:=hcut
             have z0':zBlk (W7.drewN (n+1)) w.heap.size:=z0
             have hbx:Below w.heap.size w (W7.drewN (n+1)):=Go.below_drewN hb7 _
             cases hq:(ops[j].id == i4) with
             | true=>
               have hE:Hid (zjv model.data.toList ms ops=(5,none)):=by rw [hC2.out,if_pos (by rw [hD.out,hq];rfl)];exact rfl
               clear hC2 hD
               have f0:W7.frozen? ⟨w.heap.size,0,none⟩=false:=zBn z0 0
               have f1:W7.frozen? ⟨w.heap.size,1,none⟩=false:=zBn z0 1
               have f2:W7.frozen? ⟨w.heap.size,2,none⟩=false:=zBn z0 2
               have f3:W7.frozen? ⟨w.heap.size,3,none⟩=false:=zBn z0 3
               have f4:W7.frozen? ⟨w.heap.size,4,none⟩=false:=zBn z0 4
               have f5:W7.frozen? ⟨w.heap.size,5,none⟩=false:=zBn z0 5
               have f6:W7.frozen? ⟨w.heap.size,6,none⟩=false:=zBn z0 6
               have f7:W7.frozen? ⟨w.heap.size,7,none⟩=false:=zBn z0 7
               have f8:W7.frozen? ⟨w.heap.size,8,none⟩=false:=zBn z0 8
               have f9:W7.frozen? ⟨w.heap.size,9,none⟩=false:=zBn z0 9
               obtain ⟨zc0,zc1,zc2,zc3,zc4,zc5,zc6,zc7,zc8,zc9⟩:=z1.cells
               obtain ⟨zd0,zd1,zd2,zd3,zd4,zd5,zd6,zd7,zd8,zd9⟩:=z0.cells
               go_wp2
               refine bodyPost_ret (v:=.tuple #[zWb z1u,.int .i64 5]) ?_ rfl ⟨?_,?_⟩
               · exact zC5 _ _ w.heap.size z1u 5 (by simp) (by simp) (zset z0')
               · exact zRw hbx (Nat.le_refl _) _ _ _ _ _ _ _ _ _ _
               · rw [hE.out];rfl
             | false=>
               have hJ2:Hid ((ops.drop (j+1)).any (fun o=>o.id == i4)=ops.any (fun o=>o.id == i4)):=by rw [hD.out,hq];exact rfl
               clear hD
               go_wp2
               go_roundw
               case rel=>exact ⟨j+1,n+1,by go_num,by omega,hJ2.out,rfl⟩
               case measure=>simp [intOf];omega
          · have h5:Hid (ops.any (fun o=>o.id == i4)=false):=by rw [←hJ.out,List.drop_eq_nil_of_le (by omega)];exact rfl
            have hji:¬ (j:Int) < (ops.length:Int):=by omega
            clear hJ
            go_wp2
            go_loopw [29] (fun i wr=>∃ (j m:Nat),i=.int .i64 (j:Int)∧j≤ops.length∧(ops.drop j).any (fun o=>o.cl == y4&&o.ret == 0)=ops.any (fun o=>o.cl == y4&&o.ret == 0)∧wr=W7.drewN m) (fun i _=>ops.length - (intOf i).toNat)
            case atStart=>exact ⟨0,n,rfl,by omega,rfl,rfl⟩
            case round=>
             obtain ⟨j2,m,rfl,hj2,HJ,rfl⟩:=hrel
             have hJ:Hid ((ops.drop j2).any (fun o=>o.cl == y4&&o.ret == 0)=ops.any (fun o=>o.cl == y4&&o.ret == 0)):=HJ
             clear HJ
             by_cases hlt2:j2 < ops.length
             · obtain ⟨g,rfl,hg,hcells⟩:=ho7 (fun e=>by rw [e] at hlt2;simp at hlt2)
               have hcell:∀ c u,c < 10→(opvCells ops[j2])[c]?=some u→W7.cell? ⟨g,j2*10+c,none⟩=some u:=fun c u hc hu=>hcells _ _ ((zvc ops j2 hlt2 c hc).trans hu)
               have c1:=hcell 1 _ (by omega) rfl
               have c7:=hcell 7 _ (by omega) rfl
               have hji2:(j2:Int) < (ops.length:Int):=by omega
               have hD:Hid (ops.any (fun o=>o.cl == y4&&o.ret == 0)=((ops[j2].cl == y4&&ops[j2].ret == 0)||(ops.drop (j2+1)).any (fun o=>o.cl == y4&&o.ret == 0))):=by rw [←hJ.out,List.drop_eq_getElem_cons hlt2,List.any_cons];exact rfl
               clear hcell hcells hJ
               go_wp2
               go_cut [146] (fun a wx=>a=.bool (ops[j2].cl == y4&&ops[j2].ret == 0)∧wx=W7.drewN (m+1))
               case first=>
                cases hcq:(ops[j2].cl == y4)
                all_goals
                 go_region
                 all_goals
                  go_wp2_with fail
                  go_meet
                  exact ⟨by simp [hcq],rfl⟩
               case rest=>
                obtain ⟨rfl,rfl⟩:=hcut
                have z0':zBlk (W7.drewN (m+1)) w.heap.size:=z0
                have hbx:Below w.heap.size w (W7.drewN (m+1)):=Go.below_drewN hb7 _
                cases hq:(ops[j2].cl == y4&&ops[j2].ret == 0) with
                | true=>
                  have hE:Hid (zjv model.data.toList ms ops=(6,none)):=by rw [hC2.out,if_neg (by rw [h5.out];simp),if_pos (by rw [hD.out,hq];rfl)];exact rfl
                  clear hC2 hD h5
                  have f0:W7.frozen? ⟨w.heap.size,0,none⟩=false:=zBn z0 0
                  have f1:W7.frozen? ⟨w.heap.size,1,none⟩=false:=zBn z0 1
                  have f2:W7.frozen? ⟨w.heap.size,2,none⟩=false:=zBn z0 2
                  have f3:W7.frozen? ⟨w.heap.size,3,none⟩=false:=zBn z0 3
                  have f4:W7.frozen? ⟨w.heap.size,4,none⟩=false:=zBn z0 4
                  have f5:W7.frozen? ⟨w.heap.size,5,none⟩=false:=zBn z0 5
                  have f6:W7.frozen? ⟨w.heap.size,6,none⟩=false:=zBn z0 6
                  have f7:W7.frozen? ⟨w.heap.size,7,none⟩=false:=zBn z0 7
                  have f8:W7.frozen? ⟨w.heap.size,8,none⟩=false:=zBn z0 8
                  have f9:W7.frozen? ⟨w.heap.size,9,none⟩=false:=zBn z0 9
                  obtain ⟨zc0,zc1,zc2,zc3,zc4,zc5,zc6,zc7,zc8,zc9⟩:=z1.cells
                  obtain ⟨zd0,zd1,zd2,zd3,zd4,zd5,zd6,zd7,zd8,zd9⟩:=z0.cells
                  go_wp2
                  refine bodyPost_ret (v:=.tuple #[zWb z1u,.int .i64 6]) ?_ rfl ⟨?_,?_⟩
                  · exact zC5 _ _ w.heap.size z1u 6 (by simp) (by simp) (zset z0')
                  · exact zRw hbx (Nat.le_refl _) _ _ _ _ _ _ _ _ _ _
                  · rw [hE.out];rfl
                | false=>
                  have hJ2:Hid ((ops.drop (j2+1)).any (fun o=>o.cl == y4&&o.ret == 0)=ops.any (fun o=>o.cl == y4&&o.ret == 0)):=by rw [hD.out,hq];exact rfl
                  clear hD
                  go_wp2
                  go_roundw
                  case rel=>exact ⟨j2+1,m+1,by go_num,by omega,hJ2.out,rfl⟩
                  case measure=>simp [intOf];omega
             · have h6:Hid (ops.any (fun o=>o.cl == y4&&o.ret == 0)=false):=by rw [←hJ.out,List.drop_eq_nil_of_le (by omega)];exact rfl
               have hji2:¬ (j2:Int) < (ops.length:Int):=by omega
               clear hJ
               have hE:Hid (zjv model.data.toList ms ops=(0,some ⟨i4,y4,p3,k3,a4,x4,0,0,0,0⟩)):=by rw [hC2.out,if_neg (by rw [h5.out];simp),if_neg (by rw [h6.out];simp)];exact rfl
               clear hC2 h5 h6
               have f0:W7.frozen? ⟨w.heap.size,0,none⟩=false:=zBn z0 0
               have f1:W7.frozen? ⟨w.heap.size,1,none⟩=false:=zBn z0 1
               have f2:W7.frozen? ⟨w.heap.size,2,none⟩=false:=zBn z0 2
               have f3:W7.frozen? ⟨w.heap.size,3,none⟩=false:=zBn z0 3
               have f4:W7.frozen? ⟨w.heap.size,4,none⟩=false:=zBn z0 4
               have f5:W7.frozen? ⟨w.heap.size,5,none⟩=false:=zBn z0 5
               have f6:W7.frozen? ⟨w.heap.size,6,none⟩=false:=zBn z0 6
               have f7:W7.frozen? ⟨w.heap.size,7,none⟩=false:=zBn z0 7
               have f8:W7.frozen? ⟨w.heap.size,8,none⟩=false:=zBn z0 8
               have f9:W7.frozen? ⟨w.heap.size,9,none⟩=false:=zBn z0 9
               obtain ⟨zd0,zd1,zd2,zd3,zd4,zd5,zd6,zd7,zd8,zd9⟩:=z0.cells
               go_wp2
               refine bodyPost_ret (v:=.tuple #[zWb ⟨i4,y4,p3,k3,a4,x4,0,0,0,0⟩,.int .i64 0]) ?_ rfl ⟨?_,?_⟩
               · exact zC5 _ _ w.heap.size ⟨i4,y4,p3,k3,a4,x4,0,0,0,0⟩ 0 (by simp) (by simp) (opBlk.set (o:=z1u) (show opBlk (W7.drewN m) w.heap.size z1u from z0) ⟨i4,y4,p3,k3,a4,x4,0,0,0,0⟩)
               · exact zRw (Go.below_drewN hb7 m) (Nat.le_refl _) _ _ _ _ _ _ _ _ _ _
               · rw [hE.out];rfl
end Go.Proofs.YtbbkihekjdffpaaGreatDoor
