/- Several texts in one. -/
import Derived.Test.YtbbkihekjdffpaaGreatDoorJdN
import Derived.Test.YtbbkihekjdffpaaGreatDoorSrchRX
set_option maxHeartbeats 4000000
set_option maxRecDepth 100000
namespace Go.Proofs.YtbbkihekjdffpaaGreatDoor.jd
open Tryz
open Go.RowKit
open srch (vAg opAg tI OAt zOu idsT)
theorem zTT:(prog.info? 48).map (fun i=>(i.zero,i.size,i.bytes))=some (some (.agg #[.bool false,.bool false,.int .i64 0,.int .i64 0]),4,24):=by kernel_rfl
def zf63 (kn is:Bool)(most many:Nat):List Value:=[.bool kn,.bool is,.int .i64 (most:Int),.int .i64 (many:Int)]
theorem zxQ (W:World)(base:Nat)(a:Option Addr)(n c:Nat)(xs:List Value)(kn is:Bool)(most many:Nat)(h:W.ownsRow base 48 4 (.slice a n c) n xs)(hn:n≤3000000)(hb:base≤W.heap.size):
 ∃a' c' w',(Builtin.append_ #[36,36] 36 #[.slice a n c,.slice (some ⟨W.heap.size,0,none⟩) 1 1]).run prog (W.alloc (.cells #[.bool kn,.bool is,.int .i64 (most:Int),.int .i64 (many:Int)] 48))=.ok (.slice a' (n+1) c') w'∧w'.ownsRow base 48 4 (.slice a' (n+1) c') (n+1) (xs++zf63 kn is most many)∧Kept (Value.slice a n c).ownBlock.toList W w':=by
 obtain⟨i0,hi0',hz0,hz1,hz2⟩:=info_parts zTT;obtain⟨v7,w7,h1,h2,h3,_⟩:=run_append_own (P:=prog) (W.alloc (.cells (zf63 kn is most many).toArray 48)) base 36 36 48 i0 _ 4 24 underlying36 hi0' hz0 hz1 hz2 rfl (by decide) (.slice a n c) n xs (h.alloc _) ⟨W.heap.size,0,none⟩ 1 1 (zf63 kn is most many) rfl (z9R W _ _) (by intro u hu;simp[zf63]at hu;rcases hu with rfl|rfl|rfl|rfl<;>rfl) (by unfold maxLen;omega) (by omega) (by simp;omega);obtain⟨a',c',rfl⟩:=zIW h2;exact⟨a',c',w7,h1,h2,((Kept.refl _ W).alloc _).grownS h3 (fun g' hg'=>by rw[hg'];simp)⟩
theorem z2d {w:World}{base:Nat}{a:Option Addr}{c:Nat}{l:List Nat}(h:w.ownsRow base 3 1 (.slice a l.length c) l.length (zea l)):IAt w a l:=by
 intro hne;rcases zzD h with ⟨_,e⟩|⟨g,cap,e,_,hb,hg⟩
 ·exact absurd (List.length_eq_zero_iff.1 e) hne
 ·injection e with e;subst e;exact⟨g,rfl,hg,fun j x hj=>z99 h hj⟩
structure Known (ops:List OpV):Prop where
 few:ops.length≤1000
 ids:∀o∈ops,wf64 o.id
 uniq:∀(i j:Nat) (o o':OpV),ops[i]?=some o→ops[j]?=some o'→o.id=o'.id→i=j
 ok:∀o∈ops,okO o
end Go.Proofs.YtbbkihekjdffpaaGreatDoor.jd
namespace Go.Proofs.YtbbkihekjdffpaaGreatDoor
open Go.RowKit
theorem zsE (model:ByteArray)(o:Option Addr)(cap:Nat)(ms:List RM)(oa:Option Addr)(capa:Nat)(ops:List OpV)(w:World)(hr:RRow w o ms)(ho:ORow w oa ops)(hl:ms.length≤2000000)(hol:ops.length≤1000)(hk:∀m∈ms,rmOk m)(hml:model.size≤2000000):
 Calls Tryz.prog 57 #[.string model,.slice o ms.length cap,.slice oa ops.length capa] w fun e w'=>Below w.heap.size w w'∧e=.returned (.tuple #[zWb ((zjv model.data.toList ms ops).2.getD z1u),.int .i64 (zjv model.data.toList ms ops).1]):=by
 go_enter Tryz.func57,Tryz.ntmps57;go_wp2_with fail;have hZ:∃W,((w.alloc (.cells #[.int .i64 0,.int .i64 0,.string ⟨#[]⟩,.string ⟨#[]⟩,.int .i64 0,.int .i64 0,.int .i64 0,.int .i64 0,.int .i64 0,.int .i64 0] 74)).alloc (.cells #[.int .i64 0,.int .i64 0,.string ⟨#[]⟩,.string ⟨#[]⟩,.int .i64 0,.int .i64 0,.int .i64 0,.int .i64 0,.int .i64 0,.int .i64 0] 74))=W∧Below w.heap.size w W∧zBlk W w.heap.size∧zBlk W (w.heap.size+1):=
  ⟨_,rfl,(zA _ _).alloc (by simp) _,(zD1 _ _ _ (by simp)).trans (ziF _ _ _ rfl),ziF _ _ _ (by simp)⟩
 obtain⟨W0,hW0,hb0,z0,z1⟩:=hZ;rw[hW0]
 skip
 refine(zAO o cap ms z3k W0 (hr.below hb0) hl).mono ?_;rintro e w1 ⟨hs1,rfl⟩;rw[show memR z3k zB6 0 ms=cR z3k ms from rfl];obtain⟨i1,i2,i3,i4,ic,Hi⟩:∃a b c d n,Hid (cR z3k ms=((a,b,c,d),n)):=⟨_,_,_,_,_,rfl⟩;rw[Hi.out];unfold zF5;dsimp only;obtain⟨W1,hW1,hb1,ht1,ri⟩:∃W,w1.alloc (.cells #[.string ⟨i1.toArray⟩,.int .u8 (i2:Int),.string ⟨i3.toArray⟩,.int .i64 i4] 123)=W∧Below w.heap.size w W∧Below W0.heap.size W0 W∧rmBlk W w1.heap.size (i1,i2,i3,i4):=
  ⟨_,rfl,(hb0.trans (hs1.mono hb0.size)).alloc (Nat.le_trans hb0.size hs1.size) _,hs1.alloc hs1.size _,rmBlk.new _ (i1,i2,i3,i4)⟩
 replace z0:=z0.below ht1;replace z1:=z1.below ht1;go_wp2_with fail;refine(zAO o cap ms sBy W1 (hr.below hb1) hl).mono ?_;rintro e w2 ⟨hs2,rfl⟩;rw[show memR sBy zB6 0 ms=cR sBy ms from rfl];obtain⟨y1,y2,y3,y4,yc,Hy⟩:∃a b c d n,Hid (cR sBy ms=((a,b,c,d),n)):=⟨_,_,_,_,_,rfl⟩;rw[Hy.out];unfold zF5;dsimp only;obtain⟨W2,hW2,hb2,ht2,ry⟩:∃W,w2.alloc (.cells #[.string ⟨y1.toArray⟩,.int .u8 (y2:Int),.string ⟨y3.toArray⟩,.int .i64 y4] 123)=W∧Below w.heap.size w W∧Below W1.heap.size W1 W∧rmBlk W w2.heap.size (y1,y2,y3,y4):=
  ⟨_,rfl,(hb1.trans (hs2.mono hb1.size)).alloc (Nat.le_trans hb1.size hs2.size) _,hs2.alloc hs2.size _,rmBlk.new _ (y1,y2,y3,y4)⟩
 replace z0:=z0.below ht2;replace z1:=z1.below ht2;replace ri:=ri.below ht2;go_wp2_with fail;refine(zAO o cap ms sOp W2 (hr.below hb2) hl).mono ?_;rintro e w3 ⟨hs3,rfl⟩;rw[show memR sOp zB6 0 ms=cR sOp ms from rfl];obtain⟨p1,p2,p3,p4,pc,Hp⟩:∃a b c d n,Hid (cR sOp ms=((a,b,c,d),n)):=⟨_,_,_,_,_,rfl⟩;rw[Hp.out];unfold zF5;dsimp only;obtain⟨W3,hW3,hb3,ht3,rp⟩:∃W,w3.alloc (.cells #[.string ⟨p1.toArray⟩,.int .u8 (p2:Int),.string ⟨p3.toArray⟩,.int .i64 p4] 123)=W∧Below w.heap.size w W∧Below W2.heap.size W2 W∧rmBlk W w3.heap.size (p1,p2,p3,p4):=
  ⟨_,rfl,(hb2.trans (hs3.mono hb2.size)).alloc (Nat.le_trans hb2.size hs3.size) _,hs3.alloc hs3.size _,rmBlk.new _ (p1,p2,p3,p4)⟩
 replace z0:=z0.below ht3;replace z1:=z1.below ht3;replace ri:=ri.below ht3;replace ry:=ry.below ht3;go_wp2_with fail;refine(z51 o cap ms true W3 (hr.below hb3) hl (fun m hm=>(hk m hm).2.1)).mono ?_;rintro e W4 ⟨ht4,rfl⟩;have hb4:Below w.heap.size w W4:=hb3.trans (ht4.mono hb3.size);replace z0:=z0.below ht4;replace z1:=z1.below ht4;replace ri:=ri.below ht4;replace ry:=ry.below ht4;replace rp:=rp.below ht4;have hff:=(zJz true ms 0).1;obtain⟨ff,Hff⟩:∃x,Hid (fitsR true 0 ms=x):=⟨_,rfl⟩;rw[Hff.out]at hff⊢;have zc:zCells W4 (w.heap.size+1):=z1.cells;have zd:zCells W4 w.heap.size:=z0.cells;have hsz:=hb4.size;by_cases h3:ff<ms.length∨yc=0∨pc=0
 ·have hE:Hid (zjv model.data.toList ms ops=(3,none)):=by
   unfold zjv;rw[Hy.out,Hp.out,Hff.out,if_pos h3];exact rfl
  have f0:W4.frozen? ⟨w.heap.size,0,none⟩=false:=zBn z0 0;have f1:W4.frozen? ⟨w.heap.size,1,none⟩=false:=zBn z0 1;have f2:W4.frozen? ⟨w.heap.size,2,none⟩=false:=zBn z0 2;have f3:W4.frozen? ⟨w.heap.size,3,none⟩=false:=zBn z0 3;have f4:W4.frozen? ⟨w.heap.size,4,none⟩=false:=zBn z0 4;have f5:W4.frozen? ⟨w.heap.size,5,none⟩=false:=zBn z0 5;have f6:W4.frozen? ⟨w.heap.size,6,none⟩=false:=zBn z0 6;have f7:W4.frozen? ⟨w.heap.size,7,none⟩=false:=zBn z0 7;have f8:W4.frozen? ⟨w.heap.size,8,none⟩=false:=zBn z0 8;have f9:W4.frozen? ⟨w.heap.size,9,none⟩=false:=zBn z0 9;obtain⟨zc0,zc1,zc2,zc3,zc4,zc5,zc6,zc7,zc8,zc9⟩:=z1.cells;obtain⟨zd0,zd1,zd2,zd3,zd4,zd5,zd6,zd7,zd8,zd9⟩:=z0.cells;clear zc zd;by_cases h31:ff<ms.length
  ·have h31':(ff:Int)<(ms.length:Int):=(by omega);go_wp2;refine bodyPost_ret (v:=.tuple #[zWb z1u,.int .i64 3]) ?_ rfl ⟨?_,?_⟩
   ·exact zC5 _ _ w.heap.size z1u 3 (by simp) (by simp) (zset z0)
   ·exact zRw hb4 zG _ _ _ _ _ _ _ _ _ _
   ·rw[hE.out];rfl
  ·have h31':decide ((ff:Int)<(ms.length:Int))=false:=(by simp only [decide_eq_false_iff_not];omega);by_cases h32:yc=0
   ·have h32':((yc:Int)==0)=true:=(by simp;omega);clear h3 h32;go_wp2;refine bodyPost_ret (v:=.tuple #[zWb z1u,.int .i64 3]) ?_ rfl ⟨?_,?_⟩
    ·exact zC5 _ _ w.heap.size z1u 3 (by simp) (by simp) (zset z0)
    ·exact zRw hb4 zG _ _ _ _ _ _ _ _ _ _
    ·rw[hE.out];rfl
   ·have h32':((yc:Int)==0)=false:=(by simp;omega);have h33':((pc:Int)==0)=true:=(by simp;omega);clear h3 h32;go_wp2;refine bodyPost_ret (v:=.tuple #[zWb z1u,.int .i64 3]) ?_ rfl ⟨?_,?_⟩
    ·exact zC5 _ _ w.heap.size z1u 3 (by simp) (by simp) (zset z0)
    ·exact zRw hb4 zG _ _ _ _ _ _ _ _ _ _
    ·rw[hE.out];rfl
 have g1:decide ((ff:Int)<(ms.length:Int))=false:=by simp only [decide_eq_false_iff_not];omega
 have g2:((yc:Int)==0)=false:=by simp;omega
 have g3:((pc:Int)==0)=false:=by simp;omega
 clear zc zd;go_wp2_with fail;refine(zAO o cap ms sKey W4 (hr.below hb4) hl).mono ?_;rintro e w5 ⟨hs5,rfl⟩;rw[show memR sKey zB6 0 ms=cR sKey ms from rfl];obtain⟨k1,k2,k3,k4,kc,Hk⟩:∃a b c d n,Hid (cR sKey ms=((a,b,c,d),n)):=⟨_,_,_,_,_,rfl⟩;rw[Hk.out];unfold zF5;dsimp only;obtain⟨W5,hW5,hb5,ht5,rk⟩:∃W,w5.alloc (.cells #[.string ⟨k1.toArray⟩,.int .u8 (k2:Int),.string ⟨k3.toArray⟩,.int .i64 k4] 123)=W∧Below w.heap.size w W∧Below W4.heap.size W4 W∧rmBlk W w5.heap.size (k1,k2,k3,k4):=
  ⟨_,rfl,(hb4.trans (hs5.mono hb4.size)).alloc (Nat.le_trans hb4.size hs5.size) _,hs5.alloc hs5.size _,rmBlk.new _ (k1,k2,k3,k4)⟩
 replace z0:=z0.below ht5;replace z1:=z1.below ht5;replace ri:=ri.below ht5;replace ry:=ry.below ht5;replace rp:=rp.below ht5;go_wp2_with fail;refine(zAO o cap ms sArg W5 (hr.below hb5) hl).mono ?_;rintro e w6 ⟨hs6,rfl⟩;rw[show memR sArg zB6 0 ms=cR sArg ms from rfl];obtain⟨a1,a2,a3,a4,ac,Ha⟩:∃a b c d n,Hid (cR sArg ms=((a,b,c,d),n)):=⟨_,_,_,_,_,rfl⟩;rw[Ha.out];unfold zF5;dsimp only;obtain⟨W6,hW6,hb6,ht6,ra⟩:∃W,w6.alloc (.cells #[.string ⟨a1.toArray⟩,.int .u8 (a2:Int),.string ⟨a3.toArray⟩,.int .i64 a4] 123)=W∧Below w.heap.size w W∧Below W5.heap.size W5 W∧rmBlk W w6.heap.size (a1,a2,a3,a4):=
  ⟨_,rfl,(hb5.trans (hs6.mono hb5.size)).alloc (Nat.le_trans hb5.size hs6.size) _,hs6.alloc hs6.size _,rmBlk.new _ (a1,a2,a3,a4)⟩
 replace z0:=z0.below ht6;replace z1:=z1.below ht6;replace ri:=ri.below ht6;replace ry:=ry.below ht6;replace rp:=rp.below ht6;replace rk:=rk.below ht6;go_wp2_with fail;refine(zAO o cap ms sExp W6 (hr.below hb6) hl).mono ?_;rintro e w7 ⟨hs7,rfl⟩;rw[show memR sExp zB6 0 ms=cR sExp ms from rfl];obtain⟨x1,x2,x3,x4,xc,Hx⟩:∃a b c d n,Hid (cR sExp ms=((a,b,c,d),n)):=⟨_,_,_,_,_,rfl⟩;rw[Hx.out];unfold zF5;dsimp only;obtain⟨W7,hW7,hb7,ht7,rx⟩:∃W,w7.alloc (.cells #[.string ⟨x1.toArray⟩,.int .u8 (x2:Int),.string ⟨x3.toArray⟩,.int .i64 x4] 123)=W∧Below w.heap.size w W∧Below W6.heap.size W6 W∧rmBlk W w7.heap.size (x1,x2,x3,x4):=
  ⟨_,rfl,(hb6.trans (hs7.mono hb6.size)).alloc (Nat.le_trans hb6.size hs7.size) _,hs7.alloc hs7.size _,rmBlk.new _ (x1,x2,x3,x4)⟩
 replace z0:=z0.below ht7;replace z1:=z1.below ht7;replace ri:=ri.below ht7;replace ry:=ry.below ht7;replace rp:=rp.below ht7;replace rk:=rk.below ht7;replace ra:=ra.below ht7;have rp2:W7.cell? ⟨w3.heap.size,2,none⟩=some (.string ⟨p3.toArray⟩):=by rw[zBk rp];rfl
 have hp3:p3.length≤8000000:=by have:=(zLS hk sOp).2.2;rw[Hp.out]at this;exact this
 go_wp2_with fail;refine(zf4 model ⟨p3.toArray⟩ _ (by omega) (by show p3.toArray.size≤9000000;simp;omega)).mono ?_;rintro e w8 ⟨hw,rfl⟩;have hw':=hw.symm;clear hw;subst hw';rw[show(model++(⟨#[32]⟩:ByteArray)++⟨p3.toArray⟩).toList=model.data.toList++[32]++p3 by rw[ByteArray.toList_eq];simp];have hnl:=zjM (model.data.toList++[32]++p3);obtain⟨n1,n2,nb,Hn⟩:∃a b c,Hid (zyw (model.data.toList++[32]++p3)=(a,b,c)):=⟨(zyw (model.data.toList++[32]++p3)).1,(zyw (model.data.toList++[32]++p3)).2.1,(zyw (model.data.toList++[32]++p3)).2.2,(rfl:zyw (model.data.toList++[32]++p3)=_)⟩;rw[Hn.out]at hnl⊢;unfold zu1;dsimp only at hnl⊢;go_wp2_with fail;refine(has_any ⟨n1.toArray⟩ 107 _ (by show n1.toArray.size≤9000000;simp;omega) (by decide)).mono ?_;rintro e w9 ⟨rfl,hw⟩;have hw':=hw.symm;clear hw;subst hw';obtain⟨bk,Hbk⟩:∃b,Hid (hasP 107 (lets ⟨n1.toArray⟩)=b):=⟨_,rfl⟩;rw[Hbk.out];go_wp2_with fail;refine(has_any ⟨n1.toArray⟩ 97 _ (by show n1.toArray.size≤9000000;simp;omega) (by decide)).mono ?_;rintro e w9 ⟨rfl,hw⟩;have hw':=hw.symm;clear hw;subst hw';obtain⟨ba,Hba⟩:∃b,Hid (hasP 97 (lets ⟨n1.toArray⟩)=b):=⟨_,rfl⟩;rw[Hba.out];go_wp2_with fail;refine(has_any ⟨n1.toArray⟩ 101 _ (by show n1.toArray.size≤9000000;simp;omega) (by decide)).mono ?_;rintro e w9 ⟨rfl,hw⟩;have hw':=hw.symm;clear hw;subst hw';obtain⟨bx,Hbx⟩:∃b,Hid (hasP 101 (lets ⟨n1.toArray⟩)=b):=⟨_,rfl⟩;rw[Hbx.out];have hnx:nats n1=lets ⟨n1.toArray⟩:=by unfold nats lets;simp
 have hNO:Hid (zPn model.data.toList ms=(nb&&(bk==decide (0<kc))&&(ba==decide (0<ac))&&(bx==decide (0<xc)))):=by
  unfold zPn;rw[Hp.out,Hk.out,Ha.out,Hx.out];dsimp only;rw[Hn.out];dsimp only;rw[hnx,Hbk.out,Hba.out,Hbx.out];exact rfl
 have hC:Hid (zPn model.data.toList ms=false→zjv model.data.toList ms ops=(4,none)):=by
  intro hh;unfold zjv;rw[Hy.out,Hp.out,Hff.out,if_neg h3,if_pos hh]
 clear hnx;rcases(by cases nb<;>simp:nb=false∨nb=true)with hnb|hnb
 ·subst hnb;have hE:Hid (zjv model.data.toList ms ops=(4,none)):=hC.out (by rw[hNO.out];simp);clear hNO hC Hi Hy Hp Hk Ha Hx Hff Hn Hbk Hba Hbx ri ry rp rk ra rx rp2 hnl hp3 hr ho hk h3 hff;have f0:W7.frozen? ⟨w.heap.size,0,none⟩=false:=zBn z0 0;have f1:W7.frozen? ⟨w.heap.size,1,none⟩=false:=zBn z0 1;have f2:W7.frozen? ⟨w.heap.size,2,none⟩=false:=zBn z0 2;have f3:W7.frozen? ⟨w.heap.size,3,none⟩=false:=zBn z0 3;have f4:W7.frozen? ⟨w.heap.size,4,none⟩=false:=zBn z0 4;have f5:W7.frozen? ⟨w.heap.size,5,none⟩=false:=zBn z0 5;have f6:W7.frozen? ⟨w.heap.size,6,none⟩=false:=zBn z0 6;have f7:W7.frozen? ⟨w.heap.size,7,none⟩=false:=zBn z0 7;have f8:W7.frozen? ⟨w.heap.size,8,none⟩=false:=zBn z0 8;have f9:W7.frozen? ⟨w.heap.size,9,none⟩=false:=zBn z0 9;obtain⟨zc0,zc1,zc2,zc3,zc4,zc5,zc6,zc7,zc8,zc9⟩:=z1.cells;obtain⟨zd0,zd1,zd2,zd3,zd4,zd5,zd6,zd7,zd8,zd9⟩:=z0.cells;go_wp2;refine bodyPost_ret (v:=.tuple #[zWb z1u,.int .i64 4]) ?_ rfl ⟨?_,?_⟩
  ·exact zC5 _ _ w.heap.size z1u 4 (by simp) (by simp) (zset z0)
  ·exact zRw hb7 zG _ _ _ _ _ _ _ _ _ _
  ·rw[hE.out];rfl
 ·subst hnb;cases q1:(bk==decide (0<kc))with
  |false=>
    have hE:Hid (zjv model.data.toList ms ops=(4,none)):=hC.out (by rw[hNO.out,q1];simp);clear hNO hC Hi Hy Hp Hk Ha Hx Hff Hn Hbk Hba Hbx ri ry rp rk ra rx rp2 hnl hp3 hr ho hk h3 hff;have f0:W7.frozen? ⟨w.heap.size,0,none⟩=false:=zBn z0 0;have f1:W7.frozen? ⟨w.heap.size,1,none⟩=false:=zBn z0 1;have f2:W7.frozen? ⟨w.heap.size,2,none⟩=false:=zBn z0 2;have f3:W7.frozen? ⟨w.heap.size,3,none⟩=false:=zBn z0 3;have f4:W7.frozen? ⟨w.heap.size,4,none⟩=false:=zBn z0 4;have f5:W7.frozen? ⟨w.heap.size,5,none⟩=false:=zBn z0 5;have f6:W7.frozen? ⟨w.heap.size,6,none⟩=false:=zBn z0 6;have f7:W7.frozen? ⟨w.heap.size,7,none⟩=false:=zBn z0 7;have f8:W7.frozen? ⟨w.heap.size,8,none⟩=false:=zBn z0 8;have f9:W7.frozen? ⟨w.heap.size,9,none⟩=false:=zBn z0 9;obtain⟨zc0,zc1,zc2,zc3,zc4,zc5,zc6,zc7,zc8,zc9⟩:=z1.cells;obtain⟨zd0,zd1,zd2,zd3,zd4,zd5,zd6,zd7,zd8,zd9⟩:=z0.cells;go_wp2;refine bodyPost_ret (v:=.tuple #[zWb z1u,.int .i64 4]) ?_ rfl ⟨?_,?_⟩
    ·exact zC5 _ _ w.heap.size z1u 4 (by simp) (by simp) (zset z0)
    ·exact zRw hb7 zG _ _ _ _ _ _ _ _ _ _
    ·rw[hE.out];rfl
  |true=>
    cases q2:(ba==decide (0<ac))with
    |false=>
      have hE:Hid (zjv model.data.toList ms ops=(4,none)):=hC.out (by rw[hNO.out,q2];simp);clear hNO hC Hi Hy Hp Hk Ha Hx Hff Hn Hbk Hba Hbx ri ry rp rk ra rx rp2 hnl hp3 hr ho hk h3 hff;have f0:W7.frozen? ⟨w.heap.size,0,none⟩=false:=zBn z0 0;have f1:W7.frozen? ⟨w.heap.size,1,none⟩=false:=zBn z0 1;have f2:W7.frozen? ⟨w.heap.size,2,none⟩=false:=zBn z0 2;have f3:W7.frozen? ⟨w.heap.size,3,none⟩=false:=zBn z0 3;have f4:W7.frozen? ⟨w.heap.size,4,none⟩=false:=zBn z0 4;have f5:W7.frozen? ⟨w.heap.size,5,none⟩=false:=zBn z0 5;have f6:W7.frozen? ⟨w.heap.size,6,none⟩=false:=zBn z0 6;have f7:W7.frozen? ⟨w.heap.size,7,none⟩=false:=zBn z0 7;have f8:W7.frozen? ⟨w.heap.size,8,none⟩=false:=zBn z0 8;have f9:W7.frozen? ⟨w.heap.size,9,none⟩=false:=zBn z0 9;obtain⟨zc0,zc1,zc2,zc3,zc4,zc5,zc6,zc7,zc8,zc9⟩:=z1.cells;obtain⟨zd0,zd1,zd2,zd3,zd4,zd5,zd6,zd7,zd8,zd9⟩:=z0.cells;go_wp2;refine bodyPost_ret (v:=.tuple #[zWb z1u,.int .i64 4]) ?_ rfl ⟨?_,?_⟩
      ·exact zC5 _ _ w.heap.size z1u 4 (by simp) (by simp) (zset z0)
      ·exact zRw hb7 zG _ _ _ _ _ _ _ _ _ _
      ·rw[hE.out];rfl
    |true=>
      cases q3:(bx==decide (0<xc))with
      |false=>
        have hE:Hid (zjv model.data.toList ms ops=(4,none)):=hC.out (by rw[hNO.out,q3];simp);clear hNO hC Hi Hy Hp Hk Ha Hx Hff Hn Hbk Hba Hbx ri ry rp rk ra rx rp2 hnl hp3 hr ho hk h3 hff;have f0:W7.frozen? ⟨w.heap.size,0,none⟩=false:=zBn z0 0;have f1:W7.frozen? ⟨w.heap.size,1,none⟩=false:=zBn z0 1;have f2:W7.frozen? ⟨w.heap.size,2,none⟩=false:=zBn z0 2;have f3:W7.frozen? ⟨w.heap.size,3,none⟩=false:=zBn z0 3;have f4:W7.frozen? ⟨w.heap.size,4,none⟩=false:=zBn z0 4;have f5:W7.frozen? ⟨w.heap.size,5,none⟩=false:=zBn z0 5;have f6:W7.frozen? ⟨w.heap.size,6,none⟩=false:=zBn z0 6;have f7:W7.frozen? ⟨w.heap.size,7,none⟩=false:=zBn z0 7;have f8:W7.frozen? ⟨w.heap.size,8,none⟩=false:=zBn z0 8;have f9:W7.frozen? ⟨w.heap.size,9,none⟩=false:=zBn z0 9;obtain⟨zc0,zc1,zc2,zc3,zc4,zc5,zc6,zc7,zc8,zc9⟩:=z1.cells;obtain⟨zd0,zd1,zd2,zd3,zd4,zd5,zd6,zd7,zd8,zd9⟩:=z0.cells;go_wp2;refine bodyPost_ret (v:=.tuple #[zWb z1u,.int .i64 4]) ?_ rfl ⟨?_,?_⟩
        ·exact zC5 _ _ w.heap.size z1u 4 (by simp) (by simp) (zset z0)
        ·exact zRw hb7 zG _ _ _ _ _ _ _ _ _ _
        ·rw[hE.out];rfl
      |true=>
        have hE4:Hid (zPn model.data.toList ms=true):=(by rw[hNO.out,q1,q2,q3];exact rfl);clear hNO hC;have hC2:Hid (zjv model.data.toList ms ops=if ops.any (fun o=>o.id==i4)=true then(5,none)else if ops.any (fun o=>o.cl==y4&&o.ret==0)=true then(6,none)else(0,some ⟨i4,y4,p3,k3,a4,x4,0,0,0,0⟩)):=by
         unfold zjv;rw[Hy.out,Hp.out,Hff.out,if_neg h3,if_neg (show ¬(zPn model.data.toList ms=false) by rw[hE4.out];simp),Hi.out,Hk.out,Ha.out,Hx.out];exact rfl
        have ho7:=ho.below hb7;have ri3:W7.cell? ⟨w1.heap.size,3,none⟩=some (.int .i64 i4):=(by rw[zBk ri];rfl);have ry3:W7.cell? ⟨w2.heap.size,3,none⟩=some (.int .i64 y4):=(by rw[zBk ry];rfl);have ra3:W7.cell? ⟨w6.heap.size,3,none⟩=some (.int .i64 a4):=(by rw[zBk ra];rfl);have rx3:W7.cell? ⟨w7.heap.size,3,none⟩=some (.int .i64 x4):=(by rw[zBk rx];rfl);have rp2':W7.cell? ⟨w3.heap.size,2,none⟩=some (.string ⟨p3.toArray⟩):=(by rw[zBk rp];rfl);have rk2':W7.cell? ⟨w5.heap.size,2,none⟩=some (.string ⟨k3.toArray⟩):=(by rw[zBk rk];rfl);clear Hi Hy Hp Hk Ha Hx Hff Hn Hbk Hba Hbx ri ry rp rk ra rx rp2 hnl hp3 hr ho hk h3 hff hE4;go_wp2;go_loopw [28] (fun i wr=>∃(j n:Nat),i=.int .i64 (j:Int)∧j≤ops.length∧(ops.drop j).any (fun o=>o.id==i4)=ops.any (fun o=>o.id==i4)∧wr=W7.drewN n) (fun i _=>ops.length-(intOf i).toNat)
        case atStart=>exact⟨0,0,rfl,by omega,rfl,rfl⟩
        case round=>
         obtain⟨j,n,rfl,hj,HJ,rfl⟩:=hrel;have hJ:Hid ((ops.drop j).any (fun o=>o.id==i4)=ops.any (fun o=>o.id==i4)):=HJ;clear HJ;by_cases hlt:j<ops.length
         ·obtain⟨g,rfl,hg,hcells⟩:=ho7 (fun e=>by rw[e]at hlt;simp at hlt);have hcell:∀c u,c<10→(opvCells ops[j])[c]?=some u→W7.cell? ⟨g,j*10+c,none⟩=some u:=fun c u hc hu=>hcells _ _ ((zvc ops j hlt c hc).trans hu);have c0:=hcell 0 _ (by omega) rfl;rw[Nat.add_zero]at c0;have hji:(j:Int)<(ops.length:Int):=(by omega);have hD:Hid (ops.any (fun o=>o.id==i4)=((ops[j].id==i4)||(ops.drop (j+1)).any (fun o=>o.id==i4))):=(by rw[←hJ.out,List.drop_eq_getElem_cons hlt,List.any_cons];exact rfl);clear hcell hcells hJ;go_wp2;go_cut [123] (fun a wx=>a=.bool (ops[j].id==i4)∧wx=W7.drewN (n+1))
          case first=>
           go_region
           all_goals
            go_wp2_with fail;go_meet;exact⟨rfl,rfl⟩
          case rest=>
           obtain⟨rfl,rfl⟩:=hcut;have z0':zBlk (W7.drewN (n+1)) w.heap.size:=z0;have hbx:Below w.heap.size w (W7.drewN (n+1)):=Go.below_drewN hb7 _;cases hq:(ops[j].id==i4)with
           |true=>
             have hE:Hid (zjv model.data.toList ms ops=(5,none)):=(by rw[hC2.out,if_pos (by rw[hD.out,hq];rfl)];exact rfl);clear hC2 hD;have f0:W7.frozen? ⟨w.heap.size,0,none⟩=false:=zBn z0 0;have f1:W7.frozen? ⟨w.heap.size,1,none⟩=false:=zBn z0 1;have f2:W7.frozen? ⟨w.heap.size,2,none⟩=false:=zBn z0 2;have f3:W7.frozen? ⟨w.heap.size,3,none⟩=false:=zBn z0 3;have f4:W7.frozen? ⟨w.heap.size,4,none⟩=false:=zBn z0 4;have f5:W7.frozen? ⟨w.heap.size,5,none⟩=false:=zBn z0 5;have f6:W7.frozen? ⟨w.heap.size,6,none⟩=false:=zBn z0 6;have f7:W7.frozen? ⟨w.heap.size,7,none⟩=false:=zBn z0 7;have f8:W7.frozen? ⟨w.heap.size,8,none⟩=false:=zBn z0 8;have f9:W7.frozen? ⟨w.heap.size,9,none⟩=false:=zBn z0 9;obtain⟨zc0,zc1,zc2,zc3,zc4,zc5,zc6,zc7,zc8,zc9⟩:=z1.cells;obtain⟨zd0,zd1,zd2,zd3,zd4,zd5,zd6,zd7,zd8,zd9⟩:=z0.cells;go_wp2;refine bodyPost_ret (v:=.tuple #[zWb z1u,.int .i64 5]) ?_ rfl ⟨?_,?_⟩
             ·exact zC5 _ _ w.heap.size z1u 5 (by simp) (by simp) (zset z0')
             ·exact zRw hbx zG _ _ _ _ _ _ _ _ _ _
             ·rw[hE.out];rfl
           |false=>
             have hJ2:Hid ((ops.drop (j+1)).any (fun o=>o.id==i4)=ops.any (fun o=>o.id==i4)):=(by rw[hD.out,hq];exact rfl);clear hD;go_wp2;go_roundw
             case rel=>exact⟨j+1,n+1,by go_num,by omega,hJ2.out,rfl⟩
             case measure=>simp[intOf];omega
         ·have h5:Hid (ops.any (fun o=>o.id==i4)=false):=(by rw[←hJ.out,List.drop_eq_nil_of_le (by omega)];exact rfl);have hji:¬(j:Int)<(ops.length:Int):=(by omega);clear hJ;go_wp2;go_loopw [29] (fun i wr=>∃(j m:Nat),i=.int .i64 (j:Int)∧j≤ops.length∧(ops.drop j).any (fun o=>o.cl==y4&&o.ret==0)=ops.any (fun o=>o.cl==y4&&o.ret==0)∧wr=W7.drewN m) (fun i _=>ops.length-(intOf i).toNat)
          case atStart=>exact⟨0,n,rfl,by omega,rfl,rfl⟩
          case round=>
           obtain⟨j2,m,rfl,hj2,HJ,rfl⟩:=hrel;have hJ:Hid ((ops.drop j2).any (fun o=>o.cl==y4&&o.ret==0)=ops.any (fun o=>o.cl==y4&&o.ret==0)):=HJ;clear HJ;by_cases hlt2:j2<ops.length
           ·obtain⟨g,rfl,hg,hcells⟩:=ho7 (fun e=>by rw[e]at hlt2;simp at hlt2);have hcell:∀c u,c<10→(opvCells ops[j2])[c]?=some u→W7.cell? ⟨g,j2*10+c,none⟩=some u:=fun c u hc hu=>hcells _ _ ((zvc ops j2 hlt2 c hc).trans hu);have c1:=hcell 1 _ (by omega) rfl;have c7:=hcell 7 _ (by omega) rfl;have hji2:(j2:Int)<(ops.length:Int):=(by omega);have hD:Hid (ops.any (fun o=>o.cl==y4&&o.ret==0)=((ops[j2].cl==y4&&ops[j2].ret==0)||(ops.drop (j2+1)).any (fun o=>o.cl==y4&&o.ret==0))):=(by rw[←hJ.out,List.drop_eq_getElem_cons hlt2,List.any_cons];exact rfl);clear hcell hcells hJ;go_wp2;go_cut [146] (fun a wx=>a=.bool (ops[j2].cl==y4&&ops[j2].ret==0)∧wx=W7.drewN (m+1))
            case first=>
             cases hcq:(ops[j2].cl==y4)
             all_goals
              go_region
              all_goals
               go_wp2_with fail;go_meet;exact⟨by simp[hcq],rfl⟩
            case rest=>
             obtain⟨rfl,rfl⟩:=hcut;have z0':zBlk (W7.drewN (m+1)) w.heap.size:=z0;have hbx:Below w.heap.size w (W7.drewN (m+1)):=Go.below_drewN hb7 _;cases hq:(ops[j2].cl==y4&&ops[j2].ret==0)with
             |true=>
               have hE:Hid (zjv model.data.toList ms ops=(6,none)):=(by rw[hC2.out,if_neg (by rw[h5.out];simp),if_pos (by rw[hD.out,hq];rfl)];exact rfl);clear hC2 hD h5;have f0:W7.frozen? ⟨w.heap.size,0,none⟩=false:=zBn z0 0;have f1:W7.frozen? ⟨w.heap.size,1,none⟩=false:=zBn z0 1;have f2:W7.frozen? ⟨w.heap.size,2,none⟩=false:=zBn z0 2;have f3:W7.frozen? ⟨w.heap.size,3,none⟩=false:=zBn z0 3;have f4:W7.frozen? ⟨w.heap.size,4,none⟩=false:=zBn z0 4;have f5:W7.frozen? ⟨w.heap.size,5,none⟩=false:=zBn z0 5;have f6:W7.frozen? ⟨w.heap.size,6,none⟩=false:=zBn z0 6;have f7:W7.frozen? ⟨w.heap.size,7,none⟩=false:=zBn z0 7;have f8:W7.frozen? ⟨w.heap.size,8,none⟩=false:=zBn z0 8;have f9:W7.frozen? ⟨w.heap.size,9,none⟩=false:=zBn z0 9;obtain⟨zc0,zc1,zc2,zc3,zc4,zc5,zc6,zc7,zc8,zc9⟩:=z1.cells;obtain⟨zd0,zd1,zd2,zd3,zd4,zd5,zd6,zd7,zd8,zd9⟩:=z0.cells;go_wp2;refine bodyPost_ret (v:=.tuple #[zWb z1u,.int .i64 6]) ?_ rfl ⟨?_,?_⟩
               ·exact zC5 _ _ w.heap.size z1u 6 (by simp) (by simp) (zset z0')
               ·exact zRw hbx zG _ _ _ _ _ _ _ _ _ _
               ·rw[hE.out];rfl
             |false=>
               have hJ2:Hid ((ops.drop (j2+1)).any (fun o=>o.cl==y4&&o.ret==0)=ops.any (fun o=>o.cl==y4&&o.ret==0)):=(by rw[hD.out,hq];exact rfl);clear hD;go_wp2;go_roundw
               case rel=>exact⟨j2+1,m+1,by go_num,by omega,hJ2.out,rfl⟩
               case measure=>simp[intOf];omega
           ·have h6:Hid (ops.any (fun o=>o.cl==y4&&o.ret==0)=false):=(by rw[←hJ.out,List.drop_eq_nil_of_le (by omega)];exact rfl);have hji2:¬(j2:Int)<(ops.length:Int):=(by omega);clear hJ;have hE:Hid (zjv model.data.toList ms ops=(0,some ⟨i4,y4,p3,k3,a4,x4,0,0,0,0⟩)):=(by rw[hC2.out,if_neg (by rw[h5.out];simp),if_neg (by rw[h6.out];simp)];exact rfl);clear hC2 h5 h6;have f0:W7.frozen? ⟨w.heap.size,0,none⟩=false:=zBn z0 0;have f1:W7.frozen? ⟨w.heap.size,1,none⟩=false:=zBn z0 1;have f2:W7.frozen? ⟨w.heap.size,2,none⟩=false:=zBn z0 2;have f3:W7.frozen? ⟨w.heap.size,3,none⟩=false:=zBn z0 3;have f4:W7.frozen? ⟨w.heap.size,4,none⟩=false:=zBn z0 4;have f5:W7.frozen? ⟨w.heap.size,5,none⟩=false:=zBn z0 5;have f6:W7.frozen? ⟨w.heap.size,6,none⟩=false:=zBn z0 6;have f7:W7.frozen? ⟨w.heap.size,7,none⟩=false:=zBn z0 7;have f8:W7.frozen? ⟨w.heap.size,8,none⟩=false:=zBn z0 8;have f9:W7.frozen? ⟨w.heap.size,9,none⟩=false:=zBn z0 9;obtain⟨zd0,zd1,zd2,zd3,zd4,zd5,zd6,zd7,zd8,zd9⟩:=z0.cells;go_wp2;refine bodyPost_ret (v:=.tuple #[zWb ⟨i4,y4,p3,k3,a4,x4,0,0,0,0⟩,.int .i64 0]) ?_ rfl ⟨?_,?_⟩
            ·exact zC5 _ _ w.heap.size ⟨i4,y4,p3,k3,a4,x4,0,0,0,0⟩ 0 (by simp) (by simp) (opBlk.set (o:=z1u) (show opBlk (W7.drewN m) w.heap.size z1u from z0) ⟨i4,y4,p3,k3,a4,x4,0,0,0,0⟩)
            ·exact zRw (Go.below_drewN hb7 m) zG _ _ _ _ _ _ _ _ _ _
            ·rw[hE.out];rfl
open Tryz
def vBlk (w:World)(b:Nat)(k n:Int):Prop:=w.heap[b]?=some (.cells #[.int .i64 k,.int .i64 n] 72 (0,0))
theorem vBlk.below {w w':World}{b:Nat}{x y:Int}(h:vBlk w b x y)(k:Below w.heap.size w w'):vBlk w' b x y:=(k.block b (zBq h)).trans h
theorem vBlk.set {w:World}{b:Nat}{x y:Int}(h:vBlk w b x y)(k n:Int):vBlk ((w.setCell ⟨b,0,none⟩ (.int .i64 k)).setCell ⟨b,1,none⟩ (.int .i64 n)) b k n:=by
 unfold vBlk at*;rw[zFg (zFg h 0 _) 1 _];simp
theorem vBlk.other {w:World}{b c:Nat}{x y:Int}(h:vBlk w b x y)(hn:b≠c)(u v:Value):vBlk ((w.setCell ⟨c,0,none⟩ u).setCell ⟨c,1,none⟩ v) b x y:=by
 unfold vBlk at*;rw[zRA hn,zRA hn];exact h
theorem z7J {B b:Nat}{w W:World}(h:Below B w W)(hb:B≤b)(v0 v1:Value):Below B w ((W.setCell ⟨b,0,none⟩ v0).setCell ⟨b,1,none⟩ v1):=(h.setCell (p:=⟨b,0,none⟩) hb v0).setCell (p:=⟨b,1,none⟩) hb v1
theorem zM4 (tm:Array Value)(W:World)(b:Nat)(a k n r:Int)(h6:tm[6]?.getD undef=.int .i64 a)(h7:tm[7]?.getD undef=.pointer (some ⟨b,0,none⟩))(h8:tm[8]?.getD undef=.int .i64 r)(hb:vBlk W b k n):
 (results Tryz.f58 tm).run prog W=.ok (.tuple #[.int .i64 a,.agg #[.int .i64 k,.int .i64 n],.int .i64 r]) W:=by
 have c0:W.cell? ⟨b,0,none⟩=some (.int .i64 k):=by rw[zBk hb];rfl
 have c1:W.cell? ⟨b,1,none⟩=some (.int .i64 n):=by rw[zBk hb];rfl
 simp[results,results58,go_sem,h6,h7,h8,c0,c1]
def atOf:Option Nat→Int
 |none=> -1
 |some k=>k
def zDq (q:Int×Option (Nat×Int×Int))(w:World)(e:Ending)(w':World):Prop:=
 Below w.heap.size w w'∧∃a k n:Int,(∀p,q.2=some p→a=(p.1:Int)∧k=p.2.1∧n=p.2.2)∧e=.returned (.tuple #[.int .i64 a,.agg #[.int .i64 k,.int .i64 n],.int .i64 q.1])
theorem zub (model:ByteArray)(o:Option Addr)(cap:Nat)(ms:List RM)(oa:Option Addr)(capa:Nat)(ops:List OpV)(w:World)(hr:RRow w o ms)(ho:ORow w oa ops)(hl:ms.length≤2000000)(hol:ops.length≤1000)(hk:∀m∈ms,rmOk m)(hml:model.size≤2000000)(hon:∀p∈ops,p.name.length≤8000000):
 Calls prog 58 #[.string model,.slice o ms.length cap,.slice oa ops.length capa] w fun e w'=>zDq (zty model.data.toList ms ops) w e w':=by
 go_enter func58,ntmps58;go_wp2_with fail;have hZ:∃W,((w.alloc (.cells #[.int .i64 0,.int .i64 0] 72)).alloc (.cells #[.int .i64 0,.int .i64 0] 72))=W∧Below w.heap.size w W∧vBlk W w.heap.size 0 0∧vBlk W (w.heap.size+1) 0 0:=
  ⟨_,rfl,(zA _ _).alloc (by simp) _,(zD1 _ _ _ (by simp)).trans (ziF _ _ _ rfl),ziF _ _ _ (by simp)⟩
 obtain⟨W0,hW0,hb0,z0,z1⟩:=hZ;rw[hW0]
 skip
 refine(zAO o cap ms sRet W0 (hr.below hb0) hl).mono ?_;rintro e w1 ⟨hs1,rfl⟩;rw[show memR sRet zB6 0 ms=cR sRet ms from rfl];obtain⟨i1,i2,i3,i4,ic,Hi⟩:∃a b c d n,Hid (cR sRet ms=((a,b,c,d),n)):=⟨_,_,_,_,_,rfl⟩;rw[Hi.out];unfold zF5;dsimp only;obtain⟨W1,hW1,hb1,ht1,ri⟩:∃W,w1.alloc (.cells #[.string ⟨i1.toArray⟩,.int .u8 (i2:Int),.string ⟨i3.toArray⟩,.int .i64 i4] 123)=W∧Below w.heap.size w W∧Below W0.heap.size W0 W∧rmBlk W w1.heap.size (i1,i2,i3,i4):=
  ⟨_,rfl,(hb0.trans (hs1.mono hb0.size)).alloc (Nat.le_trans hb0.size hs1.size) _,hs1.alloc hs1.size _,rmBlk.new _ (i1,i2,i3,i4)⟩
 replace z0:=z0.below ht1;replace z1:=z1.below ht1;go_wp2_with fail;refine(zAO o cap ms sVal W1 (hr.below hb1) hl).mono ?_;rintro e w2 ⟨hs2,rfl⟩;rw[show memR sVal zB6 0 ms=cR sVal ms from rfl];obtain⟨x1,x2,x3,x4,xc,Hx⟩:∃a b c d n,Hid (cR sVal ms=((a,b,c,d),n)):=⟨_,_,_,_,_,rfl⟩;rw[Hx.out];unfold zF5;dsimp only;obtain⟨W2,hW2,hb2,ht2,rx⟩:∃W,w2.alloc (.cells #[.string ⟨x1.toArray⟩,.int .u8 (x2:Int),.string ⟨x3.toArray⟩,.int .i64 x4] 123)=W∧Below w.heap.size w W∧Below W1.heap.size W1 W∧rmBlk W w2.heap.size (x1,x2,x3,x4):=
  ⟨_,rfl,(hb1.trans (hs2.mono hb1.size)).alloc (Nat.le_trans hb1.size hs2.size) _,hs2.alloc hs2.size _,rmBlk.new _ (x1,x2,x3,x4)⟩
 replace z0:=z0.below ht2;replace z1:=z1.below ht2;replace ri:=ri.below ht2;go_wp2_with fail;refine(z51 o cap ms false W2 (hr.below hb2) hl (fun m hm=>(hk m hm).2.1)).mono ?_;rintro e W3 ⟨ht3,rfl⟩;have hb3:Below w.heap.size w W3:=hb2.trans (ht3.mono hb2.size);replace z0:=z0.below ht3;replace z1:=z1.below ht3;replace ri:=ri.below ht3;replace rx:=rx.below ht3;have hff:=(zJz false ms 0).1;obtain⟨ff,Hff⟩:∃x,Hid (fitsR false 0 ms=x):=⟨_,rfl⟩;rw[Hff.out]at hff⊢;have hsz:=hb3.size;have zc0:W3.cell? ⟨w.heap.size+1,0,none⟩=some (.int .i64 0):=by rw[zBk z1];rfl
 have zc1:W3.cell? ⟨w.heap.size+1,1,none⟩=some (.int .i64 0):=by rw[zBk z1];rfl
 have f0:W3.frozen? ⟨w.heap.size,0,none⟩=false:=zBn z0 0;have f1:W3.frozen? ⟨w.heap.size,1,none⟩=false:=zBn z0 1;have d0:W3.cell? ⟨w.heap.size,0,none⟩=some (.int .i64 0):=by rw[zBk z0];rfl
 have d1:W3.cell? ⟨w.heap.size,1,none⟩=some (.int .i64 0):=by rw[zBk z0];rfl
 by_cases h3:ff<ms.length∨ic=0∨xc=0
 ·have hE:Hid (zty model.data.toList ms ops=(3,none)):=by
   unfold zty;rw[Hi.out,Hx.out,Hff.out,if_pos h3];exact rfl
  by_cases h31:ff<ms.length
  ·have h31':(ff:Int)<(ms.length:Int):=(by omega);go_wp2;go_cut [6,8] (fun a r wx=>a=.int .i64 0∧r=.int .i64 3∧wx=((W3.setCell ⟨w.heap.size,0,none⟩ (.int .i64 0)).setCell ⟨w.heap.size,1,none⟩ (.int .i64 0)).drew)
   case first=>
    go_region
    all_goals
     go_wp2_with fail;go_meet;exact⟨rfl,rfl,rfl⟩
   case rest=>
    obtain⟨rfl,rfl,rfl⟩:=hcut;go_wp2;refine bodyPost_ret (v:=.tuple #[.int .i64 0,.agg #[.int .i64 0,.int .i64 0],.int .i64 3]) ?_ rfl ⟨?_,0,0,0,?_,?_⟩
    ·exact zM4 _ _ w.heap.size 0 0 0 3 (by simp) (by simp) (by simp) (vBlk.set z0 _ _)
    ·exact(z7J hb3 zG _ _).drew
    ·rw[hE.out];intro p h;cases h
    ·rw[hE.out]
  ·have h31':decide ((ff:Int)<(ms.length:Int))=false:=(by simp only [decide_eq_false_iff_not];omega);by_cases h32:ic=0
   ·have h32':((ic:Int)==0)=true:=(by simp;omega);clear h3 h32;go_wp2;go_cut [6,8] (fun a r wx=>a=.int .i64 0∧r=.int .i64 3∧wx=((W3.setCell ⟨w.heap.size,0,none⟩ (.int .i64 0)).setCell ⟨w.heap.size,1,none⟩ (.int .i64 0)).drew)
    case first=>
     go_region
     all_goals
      go_wp2_with fail;go_meet;exact⟨rfl,rfl,rfl⟩
    case rest=>
     obtain⟨rfl,rfl,rfl⟩:=hcut;go_wp2;refine bodyPost_ret (v:=.tuple #[.int .i64 0,.agg #[.int .i64 0,.int .i64 0],.int .i64 3]) ?_ rfl ⟨?_,0,0,0,?_,?_⟩
     ·exact zM4 _ _ w.heap.size 0 0 0 3 (by simp) (by simp) (by simp) (vBlk.set z0 _ _)
     ·exact(z7J hb3 zG _ _).drew
     ·rw[hE.out];intro p h;cases h
     ·rw[hE.out]
   ·have h32':((ic:Int)==0)=false:=(by simp;omega);have h33':((xc:Int)==0)=true:=(by simp;omega);clear h3 h32;go_wp2;go_cut [6,8] (fun a r wx=>a=.int .i64 0∧r=.int .i64 3∧wx=((W3.setCell ⟨w.heap.size,0,none⟩ (.int .i64 0)).setCell ⟨w.heap.size,1,none⟩ (.int .i64 0)).drew)
    case first=>
     go_region
     all_goals
      go_wp2_with fail;go_meet;exact⟨rfl,rfl,rfl⟩
    case rest=>
     obtain⟨rfl,rfl,rfl⟩:=hcut;go_wp2;refine bodyPost_ret (v:=.tuple #[.int .i64 0,.agg #[.int .i64 0,.int .i64 0],.int .i64 3]) ?_ rfl ⟨?_,0,0,0,?_,?_⟩
     ·exact zM4 _ _ w.heap.size 0 0 0 3 (by simp) (by simp) (by simp) (vBlk.set z0 _ _)
     ·exact(z7J hb3 zG _ _).drew
     ·rw[hE.out];intro p h;cases h
     ·rw[hE.out]
 have g1:decide ((ff:Int)<(ms.length:Int))=false:=by simp only [decide_eq_false_iff_not];omega
 have g0:ms.length≤ff:=by omega
 have g2:((ic:Int)==0)=false:=by simp;omega
 have g3:((xc:Int)==0)=false:=by simp;omega
 have hC:Hid (zty model.data.toList ms ops=match zrZ i4 ops 0 none with
  |none=>(7,none)
  |some i=>match ops[i]? with
    |none=>(7,none)
    |some o=>if hasP (zxo x2) (nats (zyw (model.data.toList++[32]++o.name)).2.1)=false then(8,none)else(0,some (i,valR (x1,x2,x3,x4)))):=by
  unfold zty;rw[Hi.out,Hx.out,Hff.out,if_neg h3];exact rfl
 have hx2:x2<256:=by have:=(zLS hk sVal).2.1;rw[Hx.out]at this;exact this
 have ho3:=ho.below hb3;have ri3:W3.cell? ⟨w1.heap.size,3,none⟩=some (.int .i64 i4):=by rw[zBk ri];rfl
 have rx1:W3.cell? ⟨w2.heap.size,1,none⟩=some (.int .u8 (x2:Int)):=by rw[zBk rx];rfl
 have rx3:W3.cell? ⟨w2.heap.size,3,none⟩=some (.int .i64 x4):=by rw[zBk rx];rfl
 clear Hi Hx Hff ri rx hr ho hk h3 hff;go_wp2;go_loopw [15,16] (fun a i wr=>∃(j n:Nat) (r:Option Nat),a=.int .i64 (atOf r)∧i=.int .i64 (j:Int)∧j≤ops.length∧(∀k,r=some k→k<j)∧zrZ i4 (ops.drop j) j r=zrZ i4 ops 0 none∧wr=W3.drewN n) (fun _ i _=>ops.length-(intOf i).toNat)
 case atStart=>exact⟨0,0,none,rfl,rfl,by omega,by simp,rfl,rfl⟩
 case round=>
  obtain⟨j,n,r,rfl,rfl,hj,hrj,HJ,rfl⟩:=hrel;have hJ:Hid (zrZ i4 (ops.drop j) j r=zrZ i4 ops 0 none):=HJ;clear HJ;by_cases hlt:j<ops.length
  ·obtain⟨g,rfl,hg,hcells⟩:=ho3 (fun e=>by rw[e]at hlt;simp at hlt);have hcell:∀c u,c<10→(opvCells ops[j])[c]?=some u→W3.cell? ⟨g,j*10+c,none⟩=some u:=fun c u hc hu=>hcells _ _ ((zvc ops j hlt c hc).trans hu);have c0:=hcell 0 _ (by omega) rfl;rw[Nat.add_zero]at c0;have c7:=hcell 7 _ (by omega) rfl;have hji:(j:Int)<(ops.length:Int):=(by omega);have hD:Hid (zrZ i4 (ops.drop (j+1)) (j+1) (if ops[j].id=i4∧ops[j].ret=0 then some j else r)=zrZ i4 ops 0 none):=(by rw[←hJ.out,List.drop_eq_getElem_cons hlt];exact rfl);clear hcell hcells hJ;go_wp2;go_cut [68] (fun a wx=>a=.bool (ops[j].id==i4&&ops[j].ret==0)∧wx=W3.drewN (n+1))
   case first=>
    cases hcq:(ops[j].id==i4)
    all_goals
     go_region
     all_goals
      go_wp2_with fail;go_meet;exact⟨by simp[hcq],rfl⟩
   case rest=>
    obtain⟨rfl,rfl⟩:=hcut;cases hq:(ops[j].id==i4&&ops[j].ret==0)with
    |true=>
      have hJ2:Hid (zrZ i4 (ops.drop (j+1)) (j+1) (some j)=zrZ i4 ops 0 none):=(by rw[←hD.out,if_pos (by simpa using hq)];exact rfl);clear hD;go_wp2;go_roundw
      case rel=>exact⟨j+1,n+1,some j,rfl,by go_num,by omega,by intro k h;injection h with h;omega,hJ2.out,rfl⟩
      case measure=>simp[intOf];omega
    |false=>
      have hJ2:Hid (zrZ i4 (ops.drop (j+1)) (j+1) r=zrZ i4 ops 0 none):=(by rw[←hD.out,if_neg (by simpa using hq)];exact rfl);clear hD;go_wp2;go_roundw
      case rel=>exact⟨j+1,n+1,r,rfl,by go_num,by omega,fun k h=>by have:=hrj k h;omega,hJ2.out,rfl⟩
      case measure=>simp[intOf];omega
  ·have hji:¬(j:Int)<(ops.length:Int):=(by omega);have hL:Hid (zrZ i4 ops 0 none=r):=(by rw[←hJ.out,List.drop_eq_nil_of_le (by omega)];exact rfl);clear hJ;cases r with
   |none=>
     have hE:Hid (zty model.data.toList ms ops=(7,none)):=(by rw[hC.out,hL.out];exact rfl);clear hC hL;rw[show atOf none= -1 from rfl];go_wp2;go_cut [6,8] (fun a r wx=>a=.int .i64 0∧r=.int .i64 7∧wx=((W3.drewN (n+1)).setCell ⟨w.heap.size,0,none⟩ (.int .i64 0)).setCell ⟨w.heap.size,1,none⟩ (.int .i64 0))
     case first=>
      go_region
      all_goals
       go_wp2_with fail;go_meet;exact⟨rfl,rfl,rfl⟩
     case rest=>
      obtain⟨rfl,rfl,rfl⟩:=hcut;go_wp2;refine bodyPost_ret (v:=.tuple #[.int .i64 0,.agg #[.int .i64 0,.int .i64 0],.int .i64 7]) ?_ rfl ⟨?_,0,0,0,?_,?_⟩
      ·exact zM4 _ _ w.heap.size 0 0 0 7 (by simp) (by simp) (by simp) (vBlk.set (show vBlk (W3.drewN (n+1)) w.heap.size 0 0 from z0) _ _)
      ·exact z7J (Go.below_drewN hb3 (n+1)) zG _ _
      ·rw[hE.out];intro p h;cases h
      ·rw[hE.out]
   |some q=>
     have hq:q<ops.length:=(by have:=hrj q rfl;omega);obtain⟨g,rfl,hg,hcells⟩:=ho3 (fun e=>by rw[e]at hq;simp at hq);have hcell:∀c u,c<10→(opvCells ops[q])[c]?=some u→W3.cell? ⟨g,q*10+c,none⟩=some u:=fun c u hc hu=>hcells _ _ ((zvc ops q hq c hc).trans hu);have c2:=hcell 2 _ (by omega) rfl;have hqi:(q:Int)<(ops.length:Int):=(by omega);have hq0:¬(q:Int)<0:=(by omega);have hnm:ops[q].name.length≤8000000:=hon _ (List.getElem_mem hq);have hC2:Hid (zty model.data.toList ms ops=if hasP (zxo x2) (nats (zyw (model.data.toList++[32]++ops[q].name)).2.1)=false then(8,none)else(0,some (q,valR (x1,x2,x3,x4)))):=by
      rw[hC.out,hL.out];dsimp only;rw[zC hq];exact rfl
     clear hC hL hcell hcells hrj;generalize ops[q].name=nm at*;rw[show atOf (some q)=(q:Int)from rfl];go_wp2_with fail;refine(zf4 model ⟨nm.toArray⟩ _ (by omega) (by show nm.toArray.size≤9000000;simp;omega)).mono ?_;rintro e w8 ⟨hw,rfl⟩;have hw':=hw.symm;clear hw;subst hw';rw[show(model++(⟨#[32]⟩:ByteArray)++⟨nm.toArray⟩).toList=model.data.toList++[32]++nm by rw[ByteArray.toList_eq];simp];have hnl:=zjM (model.data.toList++[32]++nm);obtain⟨n1,n2,nb,Hn⟩:∃a b c,Hid (zyw (model.data.toList++[32]++nm)=(a,b,c)):=⟨(zyw (model.data.toList++[32]++nm)).1,(zyw (model.data.toList++[32]++nm)).2.1,(zyw (model.data.toList++[32]++nm)).2.2,(rfl:zyw (model.data.toList++[32]++nm)=_)⟩;have hC3:Hid (zty model.data.toList ms ops=if hasP (zxo x2) (lets ⟨n2.toArray⟩)=false then(8,none)else(0,some (q,valR (x1,x2,x3,x4)))):=by
      rw[hC2.out,Hn.out];dsimp only;rw[show nats n2=lets ⟨n2.toArray⟩ by unfold nats lets;simp];exact rfl
     rw[Hn.out]at hnl⊢;unfold zu1;dsimp only at hnl⊢;clear hC2 Hn;have y0:W3.frozen? ⟨w.heap.size+1,0,none⟩=false:=zBn z1 0;have y1:W3.frozen? ⟨w.heap.size+1,1,none⟩=false:=zBn z1 1;by_cases k1:x2=105
     ·subst k1;have hC4:Hid (zty model.data.toList ms ops=if hasP 105 (lets ⟨n2.toArray⟩)=false then(8,none)else(0,some (q,1,x4))):=by
       rw[hC3.out];exact rfl
      clear hC3;go_wp2_with fail;refine(has_any ⟨n2.toArray⟩ 105 _ (by show n2.toArray.size≤9000000;simp;omega) (by first|decide|omega)).mono ?_;rintro e w9 ⟨rfl,hw⟩;have hw':=hw.symm;clear hw;subst hw';obtain⟨Wv,HWv,hbv,v0,v1⟩:∃W,((W3.drewN n).setCell ⟨w.heap.size+1,0,none⟩ (.int .i64 1)).setCell ⟨w.heap.size+1,1,none⟩ (.int .i64 x4)=W∧Below w.heap.size w W∧vBlk W w.heap.size 0 0∧vBlk W (w.heap.size+1) 1 x4:=⟨_,rfl,z7J (Go.below_drewN hb3 n) (by omega) _ _,vBlk.other (show vBlk (W3.drewN n) w.heap.size 0 0 from z0) (by omega) _ _,vBlk.set (show vBlk (W3.drewN n) (w.heap.size+1) 0 0 from z1) _ _⟩;rw[HWv];clear HWv zc0 zc1 f0 f1 d0 d1 y0 y1 z0 z1;have p0:Wv.cell? ⟨w.heap.size+1,0,none⟩=some (.int .i64 1):=(by rw[zBk v1];rfl);have p1:Wv.cell? ⟨w.heap.size+1,1,none⟩=some (.int .i64 x4):=(by rw[zBk v1];rfl);have p2:Wv.frozen? ⟨w.heap.size,0,none⟩=false:=zBn v0 0;have p3:Wv.frozen? ⟨w.heap.size,1,none⟩=false:=zBn v0 1;have p4:Wv.cell? ⟨w.heap.size,0,none⟩=some (.int .i64 0):=(by rw[zBk v0];rfl);have p5:Wv.cell? ⟨w.heap.size,1,none⟩=some (.int .i64 0):=(by rw[zBk v0];rfl);cases hh:hasP 105 (lets ⟨n2.toArray⟩)with
      |false=>
        have hE:Hid (zty model.data.toList ms ops=(8,none)):=(by rw[hC4.out,hh];exact rfl);clear hC4 hh;go_wp2;go_cut [6,8] (fun a r wx=>a=.int .i64 0∧r=.int .i64 8∧wx=((Wv.setCell ⟨w.heap.size,0,none⟩ (.int .i64 1)).setCell ⟨w.heap.size,1,none⟩ (.int .i64 x4)).drew)
        case first=>
         go_region
         all_goals
          go_wp2_with fail;go_meet;exact⟨rfl,rfl,rfl⟩
        case rest=>
         obtain⟨rfl,rfl,rfl⟩:=hcut;go_wp2;refine bodyPost_ret (v:=.tuple #[.int .i64 0,.agg #[.int .i64 1,.int .i64 x4],.int .i64 8]) ?_ rfl ⟨?_,0,1,x4,?_,?_⟩
         ·exact zM4 _ _ w.heap.size 0 1 x4 8 (by simp) (by simp) (by simp) (vBlk.set v0 _ _)
         ·exact(z7J hbv zG _ _).drew
         ·rw[hE.out];intro p h;cases h
         ·rw[hE.out]
      |true=>
        have hE:Hid (zty model.data.toList ms ops=(0,some (q,1,x4))):=(by rw[hC4.out,hh];exact rfl);clear hC4 hh;go_wp2;go_cut [6,8] (fun a r wx=>a=.int .i64 (q:Int)∧r=.int .i64 0∧wx=((Wv.setCell ⟨w.heap.size,0,none⟩ (.int .i64 1)).setCell ⟨w.heap.size,1,none⟩ (.int .i64 x4)).drew)
        case first=>
         go_region
         all_goals
          go_wp2_with fail;go_meet;exact⟨rfl,rfl,rfl⟩
        case rest=>
         obtain⟨rfl,rfl,rfl⟩:=hcut;go_wp2;refine bodyPost_ret (v:=.tuple #[.int .i64 (q:Int),.agg #[.int .i64 1,.int .i64 x4],.int .i64 0]) ?_ rfl ⟨?_,(q:Int),1,x4,?_,?_⟩
         ·exact zM4 _ _ w.heap.size (q:Int) 1 x4 0 (by simp) (by simp) (by simp) (vBlk.set v0 _ _)
         ·exact(z7J hbv zG _ _).drew
         ·rw[hE.out];intro p h;injection h with h;subst h;exact⟨rfl,rfl,rfl⟩
         ·rw[hE.out]
     ·by_cases k2:x2=116
      ·subst k2;have hC4:Hid (zty model.data.toList ms ops=if hasP 98 (lets ⟨n2.toArray⟩)=false then(8,none)else(0,some (q,2,1))):=by
        rw[hC3.out];exact rfl
       clear hC3;go_wp2_with fail;refine(has_any ⟨n2.toArray⟩ 98 _ (by show n2.toArray.size≤9000000;simp;omega) (by first|decide|omega)).mono ?_;rintro e w9 ⟨rfl,hw⟩;have hw':=hw.symm;clear hw;subst hw';obtain⟨Wv,HWv,hbv,v0,v1⟩:∃W,((W3.drewN n).setCell ⟨w.heap.size+1,0,none⟩ (.int .i64 2)).setCell ⟨w.heap.size+1,1,none⟩ (.int .i64 1)=W∧Below w.heap.size w W∧vBlk W w.heap.size 0 0∧vBlk W (w.heap.size+1) 2 1:=⟨_,rfl,z7J (Go.below_drewN hb3 n) (by omega) _ _,vBlk.other (show vBlk (W3.drewN n) w.heap.size 0 0 from z0) (by omega) _ _,vBlk.set (show vBlk (W3.drewN n) (w.heap.size+1) 0 0 from z1) _ _⟩;rw[HWv];clear HWv zc0 zc1 f0 f1 d0 d1 y0 y1 z0 z1;have p0:Wv.cell? ⟨w.heap.size+1,0,none⟩=some (.int .i64 2):=(by rw[zBk v1];rfl);have p1:Wv.cell? ⟨w.heap.size+1,1,none⟩=some (.int .i64 1):=(by rw[zBk v1];rfl);have p2:Wv.frozen? ⟨w.heap.size,0,none⟩=false:=zBn v0 0;have p3:Wv.frozen? ⟨w.heap.size,1,none⟩=false:=zBn v0 1;have p4:Wv.cell? ⟨w.heap.size,0,none⟩=some (.int .i64 0):=(by rw[zBk v0];rfl);have p5:Wv.cell? ⟨w.heap.size,1,none⟩=some (.int .i64 0):=(by rw[zBk v0];rfl);cases hh:hasP 98 (lets ⟨n2.toArray⟩)with
       |false=>
         have hE:Hid (zty model.data.toList ms ops=(8,none)):=(by rw[hC4.out,hh];exact rfl);clear hC4 hh;go_wp2;go_cut [6,8] (fun a r wx=>a=.int .i64 0∧r=.int .i64 8∧wx=((Wv.setCell ⟨w.heap.size,0,none⟩ (.int .i64 2)).setCell ⟨w.heap.size,1,none⟩ (.int .i64 1)).drew)
         case first=>
          go_region
          all_goals
           go_wp2_with fail;go_meet;exact⟨rfl,rfl,rfl⟩
         case rest=>
          obtain⟨rfl,rfl,rfl⟩:=hcut;go_wp2;refine bodyPost_ret (v:=.tuple #[.int .i64 0,.agg #[.int .i64 2,.int .i64 1],.int .i64 8]) ?_ rfl ⟨?_,0,2,1,?_,?_⟩
          ·exact zM4 _ _ w.heap.size 0 2 1 8 (by simp) (by simp) (by simp) (vBlk.set v0 _ _)
          ·exact(z7J hbv zG _ _).drew
          ·rw[hE.out];intro p h;cases h
          ·rw[hE.out]
       |true=>
         have hE:Hid (zty model.data.toList ms ops=(0,some (q,2,1))):=(by rw[hC4.out,hh];exact rfl);clear hC4 hh;go_wp2;go_cut [6,8] (fun a r wx=>a=.int .i64 (q:Int)∧r=.int .i64 0∧wx=((Wv.setCell ⟨w.heap.size,0,none⟩ (.int .i64 2)).setCell ⟨w.heap.size,1,none⟩ (.int .i64 1)).drew)
         case first=>
          go_region
          all_goals
           go_wp2_with fail;go_meet;exact⟨rfl,rfl,rfl⟩
         case rest=>
          obtain⟨rfl,rfl,rfl⟩:=hcut;go_wp2;refine bodyPost_ret (v:=.tuple #[.int .i64 (q:Int),.agg #[.int .i64 2,.int .i64 1],.int .i64 0]) ?_ rfl ⟨?_,(q:Int),2,1,?_,?_⟩
          ·exact zM4 _ _ w.heap.size (q:Int) 2 1 0 (by simp) (by simp) (by simp) (vBlk.set v0 _ _)
          ·exact(z7J hbv zG _ _).drew
          ·rw[hE.out];intro p h;injection h with h;subst h;exact⟨rfl,rfl,rfl⟩
          ·rw[hE.out]
      ·by_cases k3:x2=102
       ·subst k3;have hC4:Hid (zty model.data.toList ms ops=if hasP 98 (lets ⟨n2.toArray⟩)=false then(8,none)else(0,some (q,2,0))):=by
         rw[hC3.out];exact rfl
        clear hC3;go_wp2_with fail;refine(has_any ⟨n2.toArray⟩ 98 _ (by show n2.toArray.size≤9000000;simp;omega) (by first|decide|omega)).mono ?_;rintro e w9 ⟨rfl,hw⟩;have hw':=hw.symm;clear hw;subst hw';obtain⟨Wv,HWv,hbv,v0,v1⟩:∃W,((W3.drewN n).setCell ⟨w.heap.size+1,0,none⟩ (.int .i64 2)).setCell ⟨w.heap.size+1,1,none⟩ (.int .i64 0)=W∧Below w.heap.size w W∧vBlk W w.heap.size 0 0∧vBlk W (w.heap.size+1) 2 0:=⟨_,rfl,z7J (Go.below_drewN hb3 n) (by omega) _ _,vBlk.other (show vBlk (W3.drewN n) w.heap.size 0 0 from z0) (by omega) _ _,vBlk.set (show vBlk (W3.drewN n) (w.heap.size+1) 0 0 from z1) _ _⟩;rw[HWv];clear HWv zc0 zc1 f0 f1 d0 d1 y0 y1 z0 z1;have p0:Wv.cell? ⟨w.heap.size+1,0,none⟩=some (.int .i64 2):=(by rw[zBk v1];rfl);have p1:Wv.cell? ⟨w.heap.size+1,1,none⟩=some (.int .i64 0):=(by rw[zBk v1];rfl);have p2:Wv.frozen? ⟨w.heap.size,0,none⟩=false:=zBn v0 0;have p3:Wv.frozen? ⟨w.heap.size,1,none⟩=false:=zBn v0 1;have p4:Wv.cell? ⟨w.heap.size,0,none⟩=some (.int .i64 0):=(by rw[zBk v0];rfl);have p5:Wv.cell? ⟨w.heap.size,1,none⟩=some (.int .i64 0):=(by rw[zBk v0];rfl);cases hh:hasP 98 (lets ⟨n2.toArray⟩)with
        |false=>
          have hE:Hid (zty model.data.toList ms ops=(8,none)):=(by rw[hC4.out,hh];exact rfl);clear hC4 hh;go_wp2;go_cut [6,8] (fun a r wx=>a=.int .i64 0∧r=.int .i64 8∧wx=((Wv.setCell ⟨w.heap.size,0,none⟩ (.int .i64 2)).setCell ⟨w.heap.size,1,none⟩ (.int .i64 0)).drew)
          case first=>
           go_region
           all_goals
            go_wp2_with fail;go_meet;exact⟨rfl,rfl,rfl⟩
          case rest=>
           obtain⟨rfl,rfl,rfl⟩:=hcut;go_wp2;refine bodyPost_ret (v:=.tuple #[.int .i64 0,.agg #[.int .i64 2,.int .i64 0],.int .i64 8]) ?_ rfl ⟨?_,0,2,0,?_,?_⟩
           ·exact zM4 _ _ w.heap.size 0 2 0 8 (by simp) (by simp) (by simp) (vBlk.set v0 _ _)
           ·exact(z7J hbv zG _ _).drew
           ·rw[hE.out];intro p h;cases h
           ·rw[hE.out]
        |true=>
          have hE:Hid (zty model.data.toList ms ops=(0,some (q,2,0))):=(by rw[hC4.out,hh];exact rfl);clear hC4 hh;go_wp2;go_cut [6,8] (fun a r wx=>a=.int .i64 (q:Int)∧r=.int .i64 0∧wx=((Wv.setCell ⟨w.heap.size,0,none⟩ (.int .i64 2)).setCell ⟨w.heap.size,1,none⟩ (.int .i64 0)).drew)
          case first=>
           go_region
           all_goals
            go_wp2_with fail;go_meet;exact⟨rfl,rfl,rfl⟩
          case rest=>
           obtain⟨rfl,rfl,rfl⟩:=hcut;go_wp2;refine bodyPost_ret (v:=.tuple #[.int .i64 (q:Int),.agg #[.int .i64 2,.int .i64 0],.int .i64 0]) ?_ rfl ⟨?_,(q:Int),2,0,?_,?_⟩
           ·exact zM4 _ _ w.heap.size (q:Int) 2 0 0 (by simp) (by simp) (by simp) (vBlk.set v0 _ _)
           ·exact(z7J hbv zG _ _).drew
           ·rw[hE.out];intro p h;injection h with h;subst h;exact⟨rfl,rfl,rfl⟩
           ·rw[hE.out]
       ·have q1:((x2:Int)==105)=false:=(by simp;omega);have q2:((x2:Int)==116)=false:=(by simp;omega);have q3:((x2:Int)==102)=false:=(by simp;omega);have e1:zxo x2=x2:=(by unfold zxo;rw[if_neg (by omega)]);have e2:valR (x1,x2,x3,x4)=(0,0):=(by unfold valR;dsimp only;rw[if_neg k1,if_neg k2,if_neg k3]);have hC4:Hid (zty model.data.toList ms ops=if hasP x2 (lets ⟨n2.toArray⟩)=false then(8,none)else(0,some (q,0,0))):=by
         rw[hC3.out];rw[e1,e2];exact rfl
        clear hC3;go_wp2_with fail;refine(has_any ⟨n2.toArray⟩ x2 _ (by show n2.toArray.size≤9000000;simp;omega) (by first|decide|omega)).mono ?_;rintro e w9 ⟨rfl,hw⟩;have hw':=hw.symm;clear hw;subst hw';obtain⟨Wv,HWv,hbv,v0,v1⟩:∃W,W3.drewN n=W∧Below w.heap.size w W∧vBlk W w.heap.size 0 0∧vBlk W (w.heap.size+1) 0 0:=⟨_,rfl,Go.below_drewN hb3 n,z0,z1⟩;rw[HWv];clear HWv zc0 zc1 f0 f1 d0 d1 y0 y1 z0 z1;have p0:Wv.cell? ⟨w.heap.size+1,0,none⟩=some (.int .i64 0):=(by rw[zBk v1];rfl);have p1:Wv.cell? ⟨w.heap.size+1,1,none⟩=some (.int .i64 0):=(by rw[zBk v1];rfl);have p2:Wv.frozen? ⟨w.heap.size,0,none⟩=false:=zBn v0 0;have p3:Wv.frozen? ⟨w.heap.size,1,none⟩=false:=zBn v0 1;have p4:Wv.cell? ⟨w.heap.size,0,none⟩=some (.int .i64 0):=(by rw[zBk v0];rfl);have p5:Wv.cell? ⟨w.heap.size,1,none⟩=some (.int .i64 0):=(by rw[zBk v0];rfl);cases hh:hasP x2 (lets ⟨n2.toArray⟩)with
        |false=>
          have hE:Hid (zty model.data.toList ms ops=(8,none)):=(by rw[hC4.out,hh];exact rfl);clear hC4 hh;go_wp2;go_cut [6,8] (fun a r wx=>a=.int .i64 0∧r=.int .i64 8∧wx=((Wv.setCell ⟨w.heap.size,0,none⟩ (.int .i64 0)).setCell ⟨w.heap.size,1,none⟩ (.int .i64 0)).drew)
          case first=>
           go_region
           all_goals
            go_wp2_with fail;go_meet;exact⟨rfl,rfl,rfl⟩
          case rest=>
           obtain⟨rfl,rfl,rfl⟩:=hcut;go_wp2;refine bodyPost_ret (v:=.tuple #[.int .i64 0,.agg #[.int .i64 0,.int .i64 0],.int .i64 8]) ?_ rfl ⟨?_,0,0,0,?_,?_⟩
           ·exact zM4 _ _ w.heap.size 0 0 0 8 (by simp) (by simp) (by simp) (vBlk.set v0 _ _)
           ·exact(z7J hbv zG _ _).drew
           ·rw[hE.out];intro p h;cases h
           ·rw[hE.out]
        |true=>
          have hE:Hid (zty model.data.toList ms ops=(0,some (q,0,0))):=(by rw[hC4.out,hh];exact rfl);clear hC4 hh;go_wp2;go_cut [6,8] (fun a r wx=>a=.int .i64 (q:Int)∧r=.int .i64 0∧wx=((Wv.setCell ⟨w.heap.size,0,none⟩ (.int .i64 0)).setCell ⟨w.heap.size,1,none⟩ (.int .i64 0)).drew)
          case first=>
           go_region
           all_goals
            go_wp2_with fail;go_meet;exact⟨rfl,rfl,rfl⟩
          case rest=>
           obtain⟨rfl,rfl,rfl⟩:=hcut;go_wp2;refine bodyPost_ret (v:=.tuple #[.int .i64 (q:Int),.agg #[.int .i64 0,.int .i64 0],.int .i64 0]) ?_ rfl ⟨?_,(q:Int),0,0,?_,?_⟩
           ·exact zM4 _ _ w.heap.size (q:Int) 0 0 0 (by simp) (by simp) (by simp) (vBlk.set v0 _ _)
           ·exact(z7J hbv zG _ _).drew
           ·rw[hE.out];intro p h;injection h with h;subst h;exact⟨rfl,rfl,rfl⟩
           ·rw[hE.out]
theorem zsL {w:World}{base:Nat}{v:Value}{ops:List OpV}(h:w.ownsRow base 74 10 v ops.length (opsRow ops)):
 ∃oa capa,v=.slice oa ops.length capa∧ORow w oa ops:=by
 rcases zzD h with ⟨rfl,h0⟩|⟨g,cap,rfl,_,_,hg⟩
 ·exact⟨none,0,by rw[h0],fun hne=>absurd (List.length_eq_zero_iff.1 h0) hne⟩
 ·exact⟨_,_,rfl,fun _=>⟨g,rfl,hg,zDA h⟩⟩
theorem zIx (model:List UInt8)(ms:List RM)(ops:List OpV):((zjv model ms ops).1=0∧∃o,(zjv model ms ops).2=some o∧o.name=(cR sOp ms).1.2.2.1)∨((zjv model ms ops).1≠0∧(zjv model ms ops).2=none):=by
 unfold zjv;split
 ·right;exact⟨by decide,rfl⟩
 ·split
  ·right;exact⟨by decide,rfl⟩
  ·split
   ·right;exact⟨by decide,rfl⟩
   ·split
    ·right;exact⟨by decide,rfl⟩
    ·left;exact⟨rfl,_,rfl,rfl⟩
theorem z2m (model:List UInt8)(ms:List RM)(ops:List OpV):((zty model ms ops).1=0∧∃p,(zty model ms ops).2=some p∧p.1<ops.length)∨((zty model ms ops).1≠0∧(zty model ms ops).2=none):=by
 unfold zty;split
 ·right;exact⟨by decide,rfl⟩
 ·split
  ·right;exact⟨by decide,rfl⟩
  ·split
   ·right;exact⟨by decide,rfl⟩
   ·rename_i h;split
    ·right;exact⟨by decide,rfl⟩
    ·left;exact⟨rfl,_,rfl,(zB h).1⟩
theorem zIJ (nm:List UInt8)(ms:List RM):cnt nm ms≤ms.length:=List.length_filter_le _ _
def zXm (model:List UInt8)(ops:List OpV)(s:ByteArray)(line:Int)(base:Nat)(w:World)(e:Ending)(w':World):Prop:=
 Below base w w'∧((∃ops' v',z9q model ops s line=(0,some ops')∧ops'.length≤ops.length+1∧(∀p∈ops',p.name.length≤8000000)∧w'.ownsRow base 74 10 v' ops'.length (opsRow ops')∧e=.returned (.tuple #[v',.int .i64 0]))∨
  (∃r,z9q model ops s line=(r,none)∧(r != 0)=true∧e=.returned (.tuple #[.slice none 0 0,.int .i64 r])))
theorem z6x (model s:ByteArray)(line:Int)(hl:128<line)(oa:Option Addr)(n cap:Nat)(w:World):
 Calls prog 30 #[.string model,.string s,.int .i64 line,.slice oa n cap] w fun e w'=>w'=w∧e=.returned (.tuple #[.slice none 0 0,.int .i64 1]):=by
 go_enter func30,ntmps30;go_wp2;go_ret2;exact⟨rfl,rfl⟩
theorem opBlk.below {w w':World}{b:Nat}{o:OpV}(h:opBlk w b o)(k:Below w.heap.size w w'):opBlk w' b o:=(k.block b (zBq h)).trans h
theorem opBlk.call {w:World}{b:Nat}{o:OpV}(h:opBlk w b o)(line:Int):opBlk (w.setCell ⟨b,6,none⟩ (.int .i64 line)) b { o with call:=line }:=by
 unfold opBlk at*;rw[zFg h];simp
theorem zJ7 (model s:ByteArray)(line:Int)(base:Nat)(v:Value)(ops:List OpV)(w:World)(hown:w.ownsRow base 74 10 v ops.length (opsRow ops))(hbs:base≤w.heap.size)(hl:line≤128)(hol:ops.length≤900)(hs:s.size≤2000000)(hml:model.size≤2000000)(hon:∀p∈ops,p.name.length≤8000000):
 Calls prog 30 #[.string model,.string s,.int .i64 line,v] w fun e w'=>zXm model.data.toList ops s line base w e w':=by
 obtain⟨oa,capa,rfl,ho⟩:=zsL hown;go_enter func30,ntmps30;go_wp2_with fail;refine(zws s _ hs).mono ?_;rintro e w1 ⟨hb1,⟨ms,o,cap,hp,hmsl,hmk,hr,rfl⟩|⟨hp,rfl⟩⟩
 ·have hB:Hid (z9q model.data.toList ops s line=if repR ms ms=true∨(cR z3k ms).2+(cR sRet ms).2≠1 then(3,none)
   else if(cR z3k ms).2=1 then((zjv model.data.toList ms ops).1,(zjv model.data.toList ms ops).2.map (fun o=>ops++[{ o with call:=line }]))
   else((zty model.data.toList ms ops).1,(zty model.data.toList ms ops).2.map (zQy ops line))):=by
   unfold z9q;rw[hp];exact rfl
  clear hp;go_wp2_with fail;refine(z4Q o cap ms _ hr (by omega)).mono ?_;rintro e w2 ⟨hb2,rfl⟩;have hbl2:Below w.heap.size w w2:=hb1.trans (hb2.mono hb1.size);replace hr:=hr.below hb2;clear hb1 hb2;go_wp2_with fail;refine(zAO o cap ms z3k _ hr (by omega)).mono ?_;rintro e w3 ⟨hb3,rfl⟩;rw[show memR z3k zB6 0 ms=cR z3k ms from rfl];obtain⟨i1,i2,i3,i4,ic,Hi⟩:∃a b c d n,Hid (cR z3k ms=((a,b,c,d),n)):=⟨_,_,_,_,_,rfl⟩;rw[Hi.out];unfold zF5;dsimp only;have hz2:=hbl2.size;obtain⟨W3,hW3,hbl3,hr3⟩:∃W,w3.alloc (.cells #[.string ⟨i1.toArray⟩,.int .u8 (i2:Int),.string ⟨i3.toArray⟩,.int .i64 i4] 123)=W∧Below w.heap.size w W∧RRow W o ms:=
   ⟨_,rfl,(hbl2.trans (hb3.mono hz2)).alloc (Nat.le_trans hz2 hb3.size) _,hr.below (hb3.alloc hb3.size _)⟩
  clear hbl2 hr hb3;go_wp2_with fail;refine(zAO o cap ms sRet W3 hr3 (by omega)).mono ?_;rintro e w4 ⟨hb4,rfl⟩;rw[show memR sRet zB6 0 ms=cR sRet ms from rfl];obtain⟨x1,x2,x3,x4,xc,Hx⟩:∃a b c d n,Hid (cR sRet ms=((a,b,c,d),n)):=⟨_,_,_,_,_,rfl⟩;rw[Hx.out];unfold zF5;dsimp only;have hz3:=hbl3.size;obtain⟨W4,hW4,hbl4,hr4⟩:∃W,w4.alloc (.cells #[.string ⟨x1.toArray⟩,.int .u8 (x2:Int),.string ⟨x3.toArray⟩,.int .i64 x4] 123)=W∧Below w.heap.size w W∧RRow W o ms:=
   ⟨_,rfl,(hbl3.trans (hb4.mono hz3)).alloc (Nat.le_trans hz3 hb4.size) _,hr3.below (hb4.alloc hb4.size _)⟩
  have hz4:=hbl4.size;have hcl:Hid (ic=(cR z3k ms).2∧xc=(cR sRet ms).2):=⟨by rw[Hi.out],by rw[Hx.out]⟩;have hmi:Hid (ic≤ms.length∧xc≤ms.length):=by
   have h1:=zra z3k ms;have h2:=zra sRet ms;rw[Hi.out]at h1;rw[Hx.out]at h2;exact⟨by rw[show ic=cnt z3k ms from h1];exact zIJ _ _,by rw[show xc=cnt sRet ms from h2];exact zIJ _ _⟩
  rw[←hcl.out.1,←hcl.out.2]at hB;clear hbl3 hr3 hb4;by_cases h3:repR ms ms=true∨ic+xc≠1
  ·have hE:Hid (z9q model.data.toList ops s line=(3,none)):=(by rw[hB.out,if_pos h3];exact rfl);clear hB hcl;cases hrp:repR ms ms with
   |true=>
     clear h3;go_wp2;go_ret2;exact⟨hbl4.mono hbs,Or.inr ⟨3,hE.out,rfl,rfl⟩⟩
   |false=>
     have hne:(((ic:Int)+(xc:Int)) != 1)=true:=by
      rw[hrp]at h3;have:ic+xc≠1:=(by rcases h3 with h|h;cases h;exact h);simp;omega
     have hwr:IntKind.i64.wrap ((ic:Int)+(xc:Int))=(ic:Int)+(xc:Int):=by
      have:=hmi.out;exact z5A (by omega) (by omega)
     clear h3;go_wp2;go_ret2;exact⟨hbl4.mono hbs,Or.inr ⟨3,hE.out,rfl,rfl⟩⟩
  ·have hrp:repR ms ms=false:=(by cases h:repR ms ms with|true=>exact absurd (Or.inl h) h3|false=>rfl);have hsum:ic+xc=1:=Decidable.byContradiction fun h=>h3 (Or.inr h);have hne:(((ic:Int)+(xc:Int)) != 1)=false:=(by simp;omega);have hwr:IntKind.i64.wrap ((ic:Int)+(xc:Int))=(ic:Int)+(xc:Int):=z5A (by omega) (by omega);have hB2:Hid (z9q model.data.toList ops s line=if ic=1 then((zjv model.data.toList ms ops).1,(zjv model.data.toList ms ops).2.map (fun o=>ops++[{ o with call:=line }]))
    else((zty model.data.toList ms ops).1,(zty model.data.toList ms ops).2.map (zQy ops line))):=by
    rw[hB.out,if_neg h3];exact rfl
   have ho4:=ho.below hbl4;have hown4:=zzF hown (Kept.of_below (S:=[]) hbl4) (by simp);clear hB hcl h3 hmi;by_cases hic:ic=1
   ·have hie:((ic:Int)==1)=true:=(by simp;omega);have hB3:Hid (z9q model.data.toList ops s line=((zjv model.data.toList ms ops).1,(zjv model.data.toList ms ops).2.map (fun o=>ops++[{ o with call:=line }]))):=(by rw[hB2.out,if_pos hic];exact rfl);clear hB2 hic hsum;go_wp2_with fail;refine(zsE model o cap ms oa capa ops W4 hr4 ho4 (by omega) (by omega) hmk hml).mono ?_;rintro e w5 ⟨hb5,rfl⟩;have hbl5:Below w.heap.size w w5:=hbl4.trans (hb5.mono hz4);have hown5:=zzF hown4 (Kept.of_below (S:=[]) hb5) (by simp);have hz5:=hbl5.size;rcases zIx model.data.toList ms ops with ⟨hc0,no,hcs,hcn⟩|⟨hc0,hcs⟩
    ·rw[hc0,hcs];have hE:Hid (z9q model.data.toList ops s line=(0,some (ops++[{ no with call:=line }]))):=(by rw[hB3.out,hc0,hcs];exact rfl);have hnl:no.name.length≤8000000:=(by rw[hcn];exact(zLS hmk sOp).2.2);have hon':∀p∈ops++[{ no with call:=line }],p.name.length≤8000000:=by
      intro p hp;rcases List.mem_append.1 hp with hp|hp
      ·exact hon p hp
      ·simp at hp;subst hp;exact hnl
     clear hB3 hc0 hcs hcn hmk hr4 hown hown4 ho ho4 hb5;obtain⟨o1,o2,o3,o4,o5,o6,o7,o8,o9,o10⟩:=no;unfold zWb;simp only [Option.getD_some];obtain⟨i0,hi,hz0,hz1,hzb⟩:=info_parts zSl;have hrow:=zYv hown5;go_wp2_with (at_builtin;refine wpList_append_own _ rfl _ _ 26 rfl base 74 i0 _ 10 96 underlying26 hi hz0 hz1 hzb rfl (by decide) _ _ _ rfl ((hown5.alloc _).alloc _) ⟨w5.heap.size+1,0,none⟩ 1 1 (opvCells ⟨o1,o2,o3,o4,o5,o6,line,o8,o9,o10⟩) rfl rfl ?c1 ?c2 ?c3 ?c4 ?c5 ?_)
     case c1=>
      simp[opvCells]
     case c2=>intro u hu;simp[opvCells]at hu;rcases hu with rfl|rfl|rfl|rfl|rfl|rfl|rfl|rfl|rfl|rfl<;>rfl
     case c3=>unfold maxLen;omega
     case c4=>omega
     case c5=>omega
     intro v6 w6 own6 grow6 _;have hb6:Below base w w6:=Below.grown (((hbl5.alloc hz5 _).alloc (by simp;omega) _).mono hbs) grow6 (by simp;omega) hrow;rw[←z2L]at own6;have own7:w6.ownsRow base 74 10 v6 (ops++[(⟨o1,o2,o3,o4,o5,o6,line,o8,o9,o10⟩:OpV)]).length (opsRow (ops++[(⟨o1,o2,o3,o4,o5,o6,line,o8,o9,o10⟩:OpV)])):=(by simpa using own6);clear own6 grow6 hrow hown5;go_wp2;go_ret2;exact⟨hb6,Or.inl ⟨_,v6,hE.out,by simp,hon',own7,rfl⟩⟩
    ·rw[hcs];have hE:Hid (z9q model.data.toList ops s line=((zjv model.data.toList ms ops).1,none)):=(by rw[hB3.out,hcs];exact rfl);generalize (zjv model.data.toList ms ops).1=rr at*;have hrr:(rr != 0)=true:=(by simpa using hc0);clear hB3 hcs hc0;unfold zWb z1u;simp only [Option.getD_none];go_wp2;go_ret2;exact⟨(hbl5.alloc hz5 _).mono hbs,Or.inr ⟨rr,hE.out,hrr,rfl⟩⟩
   ·have hie:((ic:Int)==1)=false:=(by simp;omega);have hB3:Hid (z9q model.data.toList ops s line=((zty model.data.toList ms ops).1,(zty model.data.toList ms ops).2.map (zQy ops line))):=(by rw[hB2.out,if_neg hic];exact rfl);clear hB2 hic hsum;go_wp2_with fail;refine(zub model o cap ms oa capa ops W4 hr4 ho4 (by omega) (by omega) hmk hml hon).mono ?_;rintro e w5 ⟨hb5,at_,vk,vn,hq,rfl⟩;have hbl5:Below w.heap.size w w5:=hbl4.trans (hb5.mono hz4);have hown5:=zzF hown4 (Kept.of_below (S:=[]) hb5) (by simp);have hz5:=hbl5.size;rcases z2m model.data.toList ms ops with ⟨hc0,⟨q,qk,qn⟩,hcs,hcn⟩|⟨hc0,hcs⟩
    ·obtain⟨rfl,rfl,rfl⟩:=hq _ hcs;rw[hc0];have hcn':q<ops.length:=hcn;have hE:Hid (z9q model.data.toList ops s line=(0,some (ops.set q (setRet ops[q] line vk vn)))):=by
      rw[hB3.out,hc0,hcs];show(0,some (zQy ops line (q,vk,vn)))=_;unfold zQy;rw[zC hcn']
     have hon':∀p∈ops.set q (setRet ops[q] line vk vn),p.name.length≤8000000:=by
      intro p hp;rcases List.mem_or_eq_of_mem_set hp with h|h
      ·exact hon p h
      ·rw[h];exact hon ops[q] (List.getElem_mem hcn')
     obtain⟨g,rfl,hcap,hgb,hgw⟩:∃g,oa=some ⟨g,0,none⟩∧ops.length≤capa∧base≤g∧g<w5.heap.size:=by
      rcases zzD hown5 with ⟨_,h0⟩|⟨g,cap,h1,h2,h3,h4⟩
      ·omega
      ·injection h1 with ha _ hc;exact⟨g,ha,by omega,h3,h4⟩
     obtain⟨W6,hW6,hbl6,V6⟩:∃W,w5.alloc (.cells #[.int .i64 vk,.int .i64 vn] 72)=W∧Below w5.heap.size w5 W∧vBlk W w5.heap.size vk vn:=⟨_,rfl,zA _ _,ziF _ _ _ rfl⟩;have hown6:=zzF hown5 (Kept.of_below (S:=[]) hbl6) (by simp);have hz6:=hbl6.size;have hbl60:Below w.heap.size w W6:=hbl5.trans (hbl6.mono hz5);have hcell:∀c u,c<10→(opvCells ops[q])[c]?=some u→W6.cell? ⟨g,q*10+c,none⟩=some u:=fun c u hcc hu=>zDA hown6 _ _ ((zvc ops q hcn' c hcc).trans hu);have q7:=hcell 7 _ (by omega) rfl;have q8:=hcell 8 _ (by omega) rfl;have q9:=hcell 9 _ (by omega) rfl;obtain⟨cur,hgb2⟩:∃cur,W6.heap[g]?=some (.cells cur 74 (0,0)):=by
      rcases hown6.2 with ⟨h1,_⟩|⟨g',cap',cur,h1,_,hg,_⟩
      ·cases h1
      ·simp at h1;rw[h1.1];exact⟨cur,hg⟩
     have f7:W6.frozen? ⟨g,q*10+7,none⟩=false:=zBn hgb2 _;have f8:W6.frozen? ⟨g,q*10+8,none⟩=false:=zBn hgb2 _;have f9:W6.frozen? ⟨g,q*10+9,none⟩=false:=zBn hgb2 _;have v0:W6.cell? ⟨w5.heap.size,0,none⟩=some (.int .i64 vk):=(by rw[zBk V6];rfl);have v1:W6.cell? ⟨w5.heap.size,1,none⟩=some (.int .i64 vn):=(by rw[zBk V6];rfl);have n2:w5.heap.size≠g:=(by omega);have hii:(q:Int)<(ops.length:Int):=(by omega);have hlen:(opsRow ops).length=ops.length*10:=hown6.1;have own7:(((W6.setCell ⟨g,q*10+7,none⟩ (.int .i64 line)).setCell ⟨g,q*10+8,none⟩ (.int .i64 vk)).setCell ⟨g,q*10+9,none⟩ (.int .i64 vn)).ownsRow base 74 10 (.slice (some ⟨g,0,none⟩) ops.length capa) ops.length (opsRow (ops.set q (setRet ops[q] line vk vn))):=by
      rw[zb0 ops q hcn'];exact zUj (zUj (zUj hown6 (q*10+7) _ (by omega)) (q*10+8) _ (by simp;omega)) (q*10+9) _ (by simp;omega)
     have hbl7:Below base w (((W6.setCell ⟨g,q*10+7,none⟩ (.int .i64 line)).setCell ⟨g,q*10+8,none⟩ (.int .i64 vk)).setCell ⟨g,q*10+9,none⟩ (.int .i64 vn)):=(((hbl60.mono hbs).setCell (p:=⟨g,q*10+7,none⟩) hgb _).setCell (p:=⟨g,q*10+8,none⟩) hgb _).setCell (p:=⟨g,q*10+9,none⟩) hgb _;clear hB3 hc0 hcs hcn hq hmk hr4 hown hown4 ho ho4 hb5 hcell hgb2 V6 hown6 hown5 hbl6 hbl60 hbl5;dsimp only;go_wp2;go_ret2;exact⟨hbl7,Or.inl ⟨_,_,hE.out,by simp,hon',by rw[List.length_set];exact own7,rfl⟩⟩
    ·have hE:Hid (z9q model.data.toList ops s line=((zty model.data.toList ms ops).1,none)):=(by rw[hB3.out,hcs];exact rfl);generalize (zty model.data.toList ms ops).1=rr at*;have hrr:(rr != 0)=true:=(by simpa using hc0);clear hB3 hcs hc0 hq;go_wp2;go_ret2;exact⟨(hbl5.alloc hz5 _).mono hbs,Or.inr ⟨rr,hE.out,hrr,rfl⟩⟩
 ·have hE:Hid (z9q model.data.toList ops s line=(2,none)):=by unfold z9q;rw[hp];exact rfl
  clear hp;go_wp2;go_ret2;exact⟨hb1.mono hbs,Or.inr ⟨2,hE.out,rfl,rfl⟩⟩
def zxw (model:List UInt8)(t:ByteArray)(w:World)(e:Ending)(w':World):Prop:=
 Below w.heap.size w w'∧((z3t model modTab=false∧e=.returned (.tuple #[.slice none 0 0,.int .i64 0,.int .i64 0,.int .i64 1]))∨
  (z3t model modTab=true∧((∃ops v,zvj model (linesP (lets t)) 0 []=.inl ops∧ops.length≤129∧w'.ownsRow w.heap.size 74 10 v ops.length (opsRow ops)∧e=.returned (.tuple #[v,.int .i64 0,.int .i64 0,.int .i64 0]))∨
   (∃l r,zvj model (linesP (lets t)) 0 []=.inr (l,r)∧e=.returned (.tuple #[.slice none 0 0,.int .i64 l,.int .i64 r,.int .i64 0])))))
theorem zYz1 {w:World}{base:Nat}{v:Value}{l:List (List UInt8)}(h:w.ownsRow base 9 1 v l.length (strCells l)):
 ∃oa cap,v=.slice oa l.length cap∧(l≠[]→∃g,oa=some ⟨g,0,none⟩∧g<w.heap.size∧∀j x,l[j]?=some x→w.cell? ⟨g,j,none⟩=some (.string ⟨x.toArray⟩)):=by
 rcases zzD h with ⟨rfl,h0⟩|⟨g,cap,rfl,_,_,hg⟩
 ·exact⟨none,0,by rw[h0],fun hne=>absurd (List.length_eq_zero_iff.1 h0) hne⟩
 ·refine⟨_,_,rfl,fun _=>⟨g,rfl,hg,?_⟩⟩;intro j x hj;have:=h.cells (g:=g) rfl j (.string ⟨x.toArray⟩) (by simp[strCells,hj]);by_cases h0:j=0
  ·subst h0;simpa [Addr.add]using this
  ·simpa [Addr.add,h0]using this
theorem ze8 (t model:ByteArray)(w:World)(hm:Mods w)(hng:10≤w.heap.size)(ht:t.size≤2000000)(hml:model.size≤2000000):
 Calls prog 10 #[.string t,.string model] w fun e w'=>zxw model.data.toList t w e w':=by
 go_enter func10,ntmps10;go_wp2_with fail;refine(zJJ model _ hm hng).mono ?_;rintro e w0 ⟨rfl,hw0⟩;have hw0':=hw0.symm;clear hw0;subst hw0';rw[zYW];cases hkn:z3t model.data.toList modTab with
 |false=>
   have HK:Hid (z3t model.data.toList modTab=false):=hkn;clear hkn;go_wp2;exact bodyPost_ret (v:=.tuple #[.slice none 0 0,.int .i64 0,.int .i64 0,.int .i64 1]) (by simp[results,results10,go_sem]) rfl ⟨zD,Or.inl ⟨HK.out,rfl⟩⟩
 |true=>
   have HK:Hid (z3t model.data.toList modTab=true):=hkn;clear hkn;go_wp2_with fail;refine(z7F t _ ht).mono ?_;rintro e w1 ⟨hb1,v1,hll,hlx,hown1,rfl⟩;obtain⟨oa,cap,rfl,hrow⟩:=zYz1 hown1;have hz1:=hb1.size;clear hown1;generalize hL:linesP (lets t)=L at*;go_wp2;go_loopw [9,11] (fun v i wr=>∃(k:Nat) (ops:List OpV),i=.int .i64 (k:Int)∧k≤L.length∧k≤128∧ops.length≤k∧(∀p∈ops,p.name.length≤8000000)∧zvj model.data.toList (L.drop k) k ops=zvj model.data.toList L 0 []∧wr.ownsRow w1.heap.size 74 10 v ops.length (opsRow ops)∧Below w1.heap.size w1 wr) (fun _ i _=>L.length-(intOf i).toNat)
   case atStart=>exact⟨0,[],rfl,by omega,by omega,by simp,by simp,rfl,World.ownsRow_nil _ _ _ _,zD⟩
   case round=>
    obtain⟨k,ops,rfl,hkl,hk8,hok,hon,HR,hown,hbl⟩:=hrel;have hR:Hid (zvj model.data.toList (L.drop k) k ops=zvj model.data.toList L 0 []):=HR;clear HR;have hzz:=hbl.size;by_cases hin:k<L.length
    ·have hin':(k:Int)<(L.length:Int):=(by omega);obtain⟨g,rfl,hg,hc⟩:=hrow (by intro h;rw[h]at hin;simp at hin);have hck:=(hbl.cell (p:=⟨g,k,none⟩) hg).trans (hc k _ (zC hin));have hxl:=hlx _ (List.getElem_mem hin);have hD:Hid (L.drop k=L[k]::L.drop (k+1)):=List.drop_eq_getElem_cons hin;generalize L[k]=x at*;have hk0:(0:Int)≤(k:Int)+1:=(by omega);have hwrap:IntKind.i64.wrap ((k:Int)+1)=(k:Int)+1:=z5A (by omega) (by omega);by_cases h128:k=128
     ·have hE:Hid (zvj model.data.toList L 0 []=.inr ((k:Int)+1,1)):=by
       rw[←hR.out,hD.out,zvj,if_pos (by omega)];exact rfl
      obtain⟨va,vc,rfl⟩:=zIW hown;have h129:(128:Int)<(k:Int)+1:=(by omega);clear hR hD h128;go_wp2_with fail;refine(z6x model ⟨x.toArray⟩ ((k:Int)+1) h129 va ops.length vc _).mono ?_;rintro e w2 ⟨hw2,rfl⟩;have hw2':=hw2.symm;clear hw2;subst hw2';go_wp2;exact bodyPost_ret (v:=.tuple #[.slice none 0 0,.int .i64 ((k:Int)+1),.int .i64 1,.int .i64 0]) (by simp[results,results10,go_sem]) rfl ⟨hb1.trans (hbl.mono hz1),Or.inr ⟨HK.out,Or.inr ⟨_,_,by rw[hL];exact hE.out,rfl⟩⟩⟩
     ·have hS:Hid (zvj model.data.toList L 0 []=(match z9q model.data.toList ops ⟨x.toArray⟩ ((k:Int)+1)with
       |(e,none)=>.inr ((k:Int)+1,e)
       |(_,some ops')=>zvj model.data.toList (L.drop (k+1)) (k+1) ops')):=by
       rw[←hR.out,hD.out,zvj,if_neg (by omega)];exact rfl
      clear hR hD;go_wp2_with fail;refine(zJ7 model ⟨x.toArray⟩ ((k:Int)+1) w1.heap.size _ ops wr hown hbl.size (by omega) (by omega) (by show x.toArray.size≤_;simp;omega) hml hon).mono ?_;rintro e w2 ⟨hb2,⟨ops',v',hev,hol',hon',hown',rfl⟩|⟨r,hev,hr0,rfl⟩⟩
      ·have hX:Hid (zvj model.data.toList (L.drop (k+1)) (k+1) ops'=zvj model.data.toList L 0 []):=(by rw[hS.out,hev];exact rfl);clear hS hev hown hon;go_wp2;go_roundw
       case rel=>exact⟨k+1,ops',by go_num,by omega,by omega,by omega,hon',hX.out,hown',hbl.trans hb2⟩
       case measure=>simp[intOf];omega
      ·have hX:Hid (zvj model.data.toList L 0 []=.inr ((k:Int)+1,r)):=(by rw[hS.out,hev];exact rfl);clear hS hev hown hon;go_wp2;exact bodyPost_ret (v:=.tuple #[.slice none 0 0,.int .i64 ((k:Int)+1),.int .i64 r,.int .i64 0]) (by simp[results,results10,go_sem]) rfl ⟨hb1.trans ((hbl.trans hb2).mono hz1),Or.inr ⟨HK.out,Or.inr ⟨_,_,by rw[hL];exact hX.out,rfl⟩⟩⟩
    ·have hin':¬(k:Int)<(L.length:Int):=(by omega);have hX:Hid (zvj model.data.toList L 0 []=.inl ops):=(by rw[←hR.out,List.drop_eq_nil_of_le (by omega),zvj];exact rfl);clear hR;go_wp2;refine bodyPost_ret (v:=.tuple #[_,.int .i64 0,.int .i64 0,.int .i64 0]) (by simp[results,results10,go_sem];rfl) rfl ⟨hb1.trans (hbl.mono hz1),Or.inr ⟨HK.out,Or.inl ⟨ops,_,by rw[hL];exact hX.out,by omega,⟨hown.1,?_⟩,rfl⟩⟩⟩;rcases hown.2 with h|⟨g,cap,cur,h1,hbg,r⟩
     ·exact .inl h
     ·exact .inr ⟨g,cap,cur,h1,by omega,r⟩
theorem zzs (t:ByteArray):lets t=nats t.data.toList:=rfl
end Go.Proofs.YtbbkihekjdffpaaGreatDoor
namespace Go.Proofs.YtbbkihekjdffpaaGreatDoor.jd
open Go.RowKit
open srch (vAg opAg tI OAt zOu idsT sRej)
def sUnk:List UInt8:=[85,78,75,78,79,87,78,10]
def sOrdJ:List UInt8:=[79,75,32,111,114,100,101,114,61]
def zRS:List UInt8:=[73,76,76,69,71,65,76,32,112,97,114,116,61]
def z5z:List UInt8:=[32,108,111,110,103,101,115,116,61]
theorem zOe (m:List UInt8)(hm:lone3 m)(k:List UInt8)(va:Option Addr)(vn vc:Nat)(w:World):
 Calls Tryz.prog 16 #[.string ⟨m.toArray⟩,.agg #[.string ⟨k.toArray⟩,.slice va vn vc]] w fun e w'=>e=.returned (.string ⟨#[45]⟩)∧Below w.heap.size w w':=by
 have hky:=fun w=>zYt m hm w;go_enter Tryz.func16,Tryz.ntmps16;go_wp2_with fail;refine(hky _).mono ?_;rintro e w1 ⟨rfl,rfl⟩;go_wp2_with fail;go_ret;exact⟨rfl,zA _ _⟩
theorem zGf {w:World}{base:Nat}{a:Option Addr}{c:Nat}{ops:List OpV}(h:w.ownsRow base 74 10 (.slice a ops.length c) ops.length (opsRow ops)):OAt w a ops:=by
 intro hne;rcases zzD h with ⟨_,e⟩|⟨g,cap,e,_,hb,hg⟩
 ·exact absurd (List.length_eq_zero_iff.1 e) hne
 ·injection e with e;subst e;exact⟨g,rfl,hg,fun j u hj=>by have:=h.cells (g:=g) rfl j u hj;rw[Addr.add_lit,Nat.zero_add]at this;exact this⟩
end Go.Proofs.YtbbkihekjdffpaaGreatDoor.jd
