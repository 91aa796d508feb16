/- Several texts in one. -/
import Derived.Test.YtoeoinpaidhmcaaGreatDoorJdN
import Derived.Test.YtoeoinpaidhmcaaGreatDoorSrchRX
set_option maxHeartbeats 4000000
set_option maxRecDepth 100000
namespace Go.Proofs.YtoeoinpaidhmcaaGreatDoor.jd
open Tryz
open Go.RowKit
open srch (vAg opAg tI OAt zOu idsT)
theorem zTT:(prog.info? 106).map (fun i=>(i.zero,i.size,i.bytes))=some (some (.agg #[.bool false,.bool false,.int .i64 0,.int .i64 0]),4,24):=by kernel_rfl
def zf63 (kn is:Bool)(most many:Nat):List Value:=[.bool kn,.bool is,.int .i64 (most:Int),.int .i64 (many:Int)]
theorem zxQ (W:World)(b:Nat)(a:Option Addr)(n c:Nat)(j:List Value)(e i:Bool)(d many:Nat)(h:W.ownsRow b 106 4 (.slice a n c) n j)(x:n≤3000000)(z:b≤W.heap.size):
 ∃a' c' w',(Builtin.append_ #[94,94] 94 #[.slice a n c,.slice (some ⟨W.heap.size,0,none⟩) 1 1]).run prog (W.alloc (.cells #[.bool e,.bool i,.int .i64 (d:Int),.int .i64 (many:Int)] 106))=.ok (.slice a' (n+1) c') w'∧w'.ownsRow b 106 4 (.slice a' (n+1) c') (n+1) (j++zf63 e i d many)∧Kept (Value.slice a n c).ownBlock.toList W w':=by
 obtain⟨v,k,o,q,p⟩:=info_parts zTT;obtain⟨y,t,r,l,s,_⟩:=run_append_own (P:=prog) (W.alloc (.cells (zf63 e i d many).toArray 106)) b 94 94 106 v _ 4 24 underlying94 k o q p rfl (by decide) (.slice a n c) n j (h.alloc _) ⟨W.heap.size,0,none⟩ 1 1 (zf63 e i d many) rfl (z9R W _ _) (by intro u m;simp[zf63]at m;rcases m with rfl|rfl|rfl|rfl<;>rfl) (by unfold maxLen;omega) (by omega) (by simp;omega);obtain⟨a',c',rfl⟩:=zIW l;exact⟨a',c',t,r,l,((Kept.refl _ W).alloc _).grownS s (fun g' hg'=>by rw[hg'];simp)⟩
theorem z2d {w:World}{b:Nat}{a:Option Addr}{c:Nat}{l:List Nat}(h:w.ownsRow b 3 1 (.slice a l.length c) l.length (zea l)):IAt w a l:=by
 intro d;rcases zzD h with ⟨_,e⟩|⟨g,k,e,_,m,i⟩
 ·exact absurd (List.length_eq_zero_iff.1 e) d
 ·injection e with e;subst e;exact⟨g,rfl,i,fun j x hj=>z99 h hj⟩
structure Known (ops:List OpV):Prop where
 few:ops.length≤1000
 ids:∀o∈ops,wf64 o.id
 uniq:∀(i j:Nat) (o o':OpV),ops[i]?=some o→ops[j]?=some o'→o.id=o'.id→i=j
 ok:∀o∈ops,okO o
end Go.Proofs.YtoeoinpaidhmcaaGreatDoor.jd
namespace Go.Proofs.YtoeoinpaidhmcaaGreatDoor
open Go.RowKit
theorem zsE (p:ByteArray)(o:Option Addr)(J:Nat)(q:List RM)(oa:Option Addr)(a5:Nat)(k:List OpV)(w:World)(M:RRow w o q)(ho:ORow w oa k)(hl:q.length≤2000000)(bg:k.length≤1000)(hk:∀m∈q,rmOk m)(bp:p.size≤2000000):
 Calls Tryz.prog 26 #[.string p,.slice o q.length J,.slice oa k.length a5] w fun e w'=>Below w.heap.size w w'∧e=.returned (.tuple #[zWb ((zjv p.data.toList q k).2.getD z1u),.int .i64 (zjv p.data.toList q k).1]):=by
 go_enter Tryz.func26,Tryz.ntmps26;go_wp2_with fail;have hZ:∃W,((w.alloc (.cells #[.int .i64 0,.int .i64 0,.string ⟨#[]⟩,.string ⟨#[]⟩,.int .i64 0,.int .i64 0,.int .i64 0,.int .i64 0,.int .i64 0,.int .i64 0] 27)).alloc (.cells #[.int .i64 0,.int .i64 0,.string ⟨#[]⟩,.string ⟨#[]⟩,.int .i64 0,.int .i64 0,.int .i64 0,.int .i64 0,.int .i64 0,.int .i64 0] 27))=W∧Below w.heap.size w W∧zBlk W w.heap.size∧zBlk W (w.heap.size+1):=
  ⟨_,rfl,(zA _ _).alloc (by simp) _,(zD1 _ _ _ (by simp)).trans (ziF _ _ _ rfl),ziF _ _ _ (by simp)⟩
 obtain⟨W0,a6,aC,h,t⟩:=hZ;rw[a6]
 skip
 refine(zAO o J q z3k W0 (M.below aC) hl).mono ?_;rintro e w1 ⟨aH,rfl⟩;rw[show memR z3k zB6 0 q=cR z3k q from rfl];obtain⟨i1,i2,i3,s,ic,Hi⟩:∃a b c d n,Hid (cR z3k q=((a,b,c,d),n)):=⟨_,_,_,_,_,rfl⟩;rw[Hi.out];unfold zF5;dsimp only;obtain⟨W1,bo,aL,aW,z⟩:∃W,w1.alloc (.cells #[.string ⟨i1.toArray⟩,.int .u8 (i2:Int),.string ⟨i3.toArray⟩,.int .i64 s] 74)=W∧Below w.heap.size w W∧Below W0.heap.size W0 W∧rmBlk W w1.heap.size (i1,i2,i3,s):=
  ⟨_,rfl,(aC.trans (aH.mono aC.size)).alloc (Nat.le_trans aC.size aH.size) _,aH.alloc aH.size _,rmBlk.new _ (i1,i2,i3,s)⟩
 replace h:=h.below aW;replace t:=t.below aW;go_wp2_with fail;refine(zAO o J q sBy W1 (M.below aL) hl).mono ?_;rintro e w2 ⟨aK,rfl⟩;rw[show memR sBy zB6 0 q=cR sBy q from rfl];obtain⟨y1,y2,y3,r,yc,Hy⟩:∃a b c d n,Hid (cR sBy q=((a,b,c,d),n)):=⟨_,_,_,_,_,rfl⟩;rw[Hy.out];unfold zF5;dsimp only;obtain⟨W2,bc,aI,aS,E⟩:∃W,w2.alloc (.cells #[.string ⟨y1.toArray⟩,.int .u8 (y2:Int),.string ⟨y3.toArray⟩,.int .i64 r] 74)=W∧Below w.heap.size w W∧Below W1.heap.size W1 W∧rmBlk W w2.heap.size (y1,y2,y3,r):=
  ⟨_,rfl,(aL.trans (aK.mono aL.size)).alloc (Nat.le_trans aL.size aK.size) _,aK.alloc aK.size _,rmBlk.new _ (y1,y2,y3,r)⟩
 replace h:=h.below aS;replace t:=t.below aS;replace z:=z.below aS;go_wp2_with fail;refine(zAO o J q sOp W2 (M.below aI) hl).mono ?_;rintro e w3 ⟨aF,rfl⟩;rw[show memR sOp zB6 0 q=cR sOp q from rfl];obtain⟨p1,p2,y,p4,pc,Q⟩:∃a b c d n,Hid (cR sOp q=((a,b,c,d),n)):=⟨_,_,_,_,_,rfl⟩;rw[Q.out];unfold zF5;dsimp only;obtain⟨W3,bn,aR,aM,H⟩:∃W,w3.alloc (.cells #[.string ⟨p1.toArray⟩,.int .u8 (p2:Int),.string ⟨y.toArray⟩,.int .i64 p4] 74)=W∧Below w.heap.size w W∧Below W2.heap.size W2 W∧rmBlk W w3.heap.size (p1,p2,y,p4):=
  ⟨_,rfl,(aI.trans (aF.mono aI.size)).alloc (Nat.le_trans aI.size aF.size) _,aF.alloc aF.size _,rmBlk.new _ (p1,p2,y,p4)⟩
 replace h:=h.below aM;replace t:=t.below aM;replace z:=z.below aM;replace E:=E.below aM;go_wp2_with fail;refine(z51 o J q true W3 (M.below aR) hl (fun m hm=>(hk m hm).2.1)).mono ?_;rintro e F ⟨ak,rfl⟩;have L:Below w.heap.size w F:=aR.trans (ak.mono aR.size);replace h:=h.below ak;replace t:=t.below ak;replace z:=z.below ak;replace E:=E.below ak;replace H:=H.below ak;have ar:=(zJz true q 0).1;obtain⟨ff,I⟩:∃x,Hid (fitsR true 0 q=x):=⟨_,rfl⟩;rw[I.out]at ar⊢;have zc:zCells F (w.heap.size+1):=t.cells;have zd:zCells F w.heap.size:=h.cells;have bd:=L.size;by_cases h3:ff<q.length∨yc=0∨pc=0
 ·have A:Hid (zjv p.data.toList q k=(3,none)):=by
   unfold zjv;rw[Hy.out,Q.out,I.out,if_pos h3];exact rfl
  have f0:F.frozen? ⟨w.heap.size,0,none⟩=false:=zBn h 0;have f1:F.frozen? ⟨w.heap.size,1,none⟩=false:=zBn h 1;have f2:F.frozen? ⟨w.heap.size,2,none⟩=false:=zBn h 2;have f3:F.frozen? ⟨w.heap.size,3,none⟩=false:=zBn h 3;have f4:F.frozen? ⟨w.heap.size,4,none⟩=false:=zBn h 4;have f5:F.frozen? ⟨w.heap.size,5,none⟩=false:=zBn h 5;have f6:F.frozen? ⟨w.heap.size,6,none⟩=false:=zBn h 6;have f7:F.frozen? ⟨w.heap.size,7,none⟩=false:=zBn h 7;have f8:F.frozen? ⟨w.heap.size,8,none⟩=false:=zBn h 8;have f9:F.frozen? ⟨w.heap.size,9,none⟩=false:=zBn h 9;obtain⟨aj,av,al,am,ao,aw,au,ai,ax,aq⟩:=t.cells;obtain⟨ae,ad,Z,aa,U,N,ab,V,P,O⟩:=h.cells;clear zc zd;by_cases h31:ff<q.length
  ·have a0:(ff:Int)<(q.length:Int):=(by omega);go_wp2;refine bodyPost_ret (v:=.tuple #[zWb z1u,.int .i64 3]) ?_ rfl ⟨?_,?_⟩
   ·exact zC5 _ _ w.heap.size z1u 3 (by simp) (by simp) (zset h)
   ·exact zRw L zH _ _ _ _ _ _ _ _ _ _
   ·rw[A.out];rfl
  ·have a0:decide ((ff:Int)<(q.length:Int))=false:=(by simp only [decide_eq_false_iff_not];omega);by_cases h32:yc=0
   ·have aZ:((yc:Int)==0)=true:=(by simp;omega);clear h3 h32;go_wp2;refine bodyPost_ret (v:=.tuple #[zWb z1u,.int .i64 3]) ?_ rfl ⟨?_,?_⟩
    ·exact zC5 _ _ w.heap.size z1u 3 (by simp) (by simp) (zset h)
    ·exact zRw L zH _ _ _ _ _ _ _ _ _ _
    ·rw[A.out];rfl
   ·have aZ:((yc:Int)==0)=false:=(by simp;omega);have bb:((pc:Int)==0)=true:=(by simp;omega);clear h3 h32;go_wp2;refine bodyPost_ret (v:=.tuple #[zWb z1u,.int .i64 3]) ?_ rfl ⟨?_,?_⟩
    ·exact zC5 _ _ w.heap.size z1u 3 (by simp) (by simp) (zset h)
    ·exact zRw L zH _ _ _ _ _ _ _ _ _ _
    ·rw[A.out];rfl
 have g1:decide ((ff:Int)<(q.length:Int))=false:=by simp only [decide_eq_false_iff_not];omega
 have g2:((yc:Int)==0)=false:=by simp;omega
 have g3:((pc:Int)==0)=false:=by simp;omega
 clear zc zd;go_wp2_with fail;refine(zAO o J q sKey F (M.below L) hl).mono ?_;rintro e w5 ⟨aO,rfl⟩;rw[show memR sKey zB6 0 q=cR sKey q from rfl];obtain⟨k1,k2,k3,k4,kc,Hk⟩:∃a b c d n,Hid (cR sKey q=((a,b,c,d),n)):=⟨_,_,_,_,_,rfl⟩;rw[Hk.out];unfold zF5;dsimp only;obtain⟨W5,bq,aD,aB,rk⟩:∃W,w5.alloc (.cells #[.string ⟨k1.toArray⟩,.int .u8 (k2:Int),.string ⟨k3.toArray⟩,.int .i64 k4] 74)=W∧Below w.heap.size w W∧Below F.heap.size F W∧rmBlk W w5.heap.size (k1,k2,k3,k4):=
  ⟨_,rfl,(L.trans (aO.mono L.size)).alloc (Nat.le_trans L.size aO.size) _,aO.alloc aO.size _,rmBlk.new _ (k1,k2,k3,k4)⟩
 replace h:=h.below aB;replace t:=t.below aB;replace z:=z.below aB;replace E:=E.below aB;replace H:=H.below aB;go_wp2_with fail;refine(zAO o J q sArg W5 (M.below aD) hl).mono ?_;rintro e w6 ⟨aE,rfl⟩;rw[show memR sArg zB6 0 q=cR sArg q from rfl];obtain⟨a1,a2,a3,a4,ac,Ha⟩:∃a b c d n,Hid (cR sArg q=((a,b,c,d),n)):=⟨_,_,_,_,_,rfl⟩;rw[Ha.out];unfold zF5;dsimp only;obtain⟨W6,be,aN,an,ra⟩:∃W,w6.alloc (.cells #[.string ⟨a1.toArray⟩,.int .u8 (a2:Int),.string ⟨a3.toArray⟩,.int .i64 a4] 74)=W∧Below w.heap.size w W∧Below W5.heap.size W5 W∧rmBlk W w6.heap.size (a1,a2,a3,a4):=
  ⟨_,rfl,(aD.trans (aE.mono aD.size)).alloc (Nat.le_trans aD.size aE.size) _,aE.alloc aE.size _,rmBlk.new _ (a1,a2,a3,a4)⟩
 replace h:=h.below an;replace t:=t.below an;replace z:=z.below an;replace E:=E.below an;replace H:=H.below an;replace rk:=rk.below an;go_wp2_with fail;refine(zAO o J q sExp W6 (M.below aN) hl).mono ?_;rintro e w7 ⟨aJ,rfl⟩;rw[show memR sExp zB6 0 q=cR sExp q from rfl];obtain⟨x1,x2,x3,x4,xc,Hx⟩:∃a b c d n,Hid (cR sExp q=((a,b,c,d),n)):=⟨_,_,_,_,_,rfl⟩;rw[Hx.out];unfold zF5;dsimp only;obtain⟨l,bl,K,R,rx⟩:∃W,w7.alloc (.cells #[.string ⟨x1.toArray⟩,.int .u8 (x2:Int),.string ⟨x3.toArray⟩,.int .i64 x4] 74)=W∧Below w.heap.size w W∧Below W6.heap.size W6 W∧rmBlk W w7.heap.size (x1,x2,x3,x4):=
  ⟨_,rfl,(aN.trans (aJ.mono aN.size)).alloc (Nat.le_trans aN.size aJ.size) _,aJ.alloc aJ.size _,rmBlk.new _ (x1,x2,x3,x4)⟩
 replace h:=h.below R;replace t:=t.below R;replace z:=z.below R;replace E:=E.below R;replace H:=H.below R;replace rk:=rk.below R;replace ra:=ra.below R;have aA:l.cell? ⟨w3.heap.size,2,none⟩=some (.string ⟨y.toArray⟩):=by rw[zBk H];rfl
 have az:y.length≤8000000:=by have:=(zLS hk sOp).2.2;rw[Q.out]at this;exact this
 go_wp2_with fail;refine(zf4 p ⟨y.toArray⟩ _ (by omega) (by show y.toArray.size≤9000000;simp;omega)).mono ?_;rintro e w8 ⟨hw,rfl⟩;have ag:=hw.symm;clear hw;subst ag;rw[show(p++(⟨#[32]⟩:ByteArray)++⟨y.toArray⟩).toList=p.data.toList++[32]++y by rw[ByteArray.toList_eq];simp];have ah:=zjM (p.data.toList++[32]++y);obtain⟨X,n2,nb,Hn⟩:∃a b c,Hid (zyw (p.data.toList++[32]++y)=(a,b,c)):=⟨(zyw (p.data.toList++[32]++y)).1,(zyw (p.data.toList++[32]++y)).2.1,(zyw (p.data.toList++[32]++y)).2.2,(rfl:zyw (p.data.toList++[32]++y)=_)⟩;rw[Hn.out]at ah⊢;unfold zu1;dsimp only at ah⊢;go_wp2_with fail;refine(has_any ⟨X.toArray⟩ 107 _ (by show X.toArray.size≤9000000;simp;omega) (by decide)).mono ?_;rintro e w9 ⟨rfl,hw⟩;have ag:=hw.symm;clear hw;subst ag;obtain⟨bk,Y⟩:∃b,Hid (hasP 107 (lets ⟨X.toArray⟩)=b):=⟨_,rfl⟩;rw[Y.out];go_wp2_with fail;refine(has_any ⟨X.toArray⟩ 97 _ (by show X.toArray.size≤9000000;simp;omega) (by decide)).mono ?_;rintro e w9 ⟨rfl,hw⟩;have ag:=hw.symm;clear hw;subst ag;obtain⟨ba,af⟩:∃b,Hid (hasP 97 (lets ⟨X.toArray⟩)=b):=⟨_,rfl⟩;rw[af.out];go_wp2_with fail;refine(has_any ⟨X.toArray⟩ 101 _ (by show X.toArray.size≤9000000;simp;omega) (by decide)).mono ?_;rintro e w9 ⟨rfl,hw⟩;have ag:=hw.symm;clear hw;subst ag;obtain⟨bx,S⟩:∃b,Hid (hasP 101 (lets ⟨X.toArray⟩)=b):=⟨_,rfl⟩;rw[S.out];have aV:nats X=lets ⟨X.toArray⟩:=by unfold nats lets;simp
 have G:Hid (zPn p.data.toList q=(nb&&(bk==decide (0<kc))&&(ba==decide (0<ac))&&(bx==decide (0<xc)))):=by
  unfold zPn;rw[Q.out,Hk.out,Ha.out,Hx.out];dsimp only;rw[Hn.out];dsimp only;rw[aV,Y.out,af.out,S.out];exact rfl
 have hC:Hid (zPn p.data.toList q=false→zjv p.data.toList q k=(4,none)):=by
  intro hh;unfold zjv;rw[Hy.out,Q.out,I.out,if_neg h3,if_pos hh]
 clear aV;rcases(by cases nb<;>simp:nb=false∨nb=true)with hnb|hnb
 ·subst hnb;have A:Hid (zjv p.data.toList q k=(4,none)):=hC.out (by rw[G.out];simp);clear G hC Hi Hy Q Hk Ha Hx I Hn Y af S z E H rk ra rx aA ah az M ho hk h3 ar;have f0:l.frozen? ⟨w.heap.size,0,none⟩=false:=zBn h 0;have f1:l.frozen? ⟨w.heap.size,1,none⟩=false:=zBn h 1;have f2:l.frozen? ⟨w.heap.size,2,none⟩=false:=zBn h 2;have f3:l.frozen? ⟨w.heap.size,3,none⟩=false:=zBn h 3;have f4:l.frozen? ⟨w.heap.size,4,none⟩=false:=zBn h 4;have f5:l.frozen? ⟨w.heap.size,5,none⟩=false:=zBn h 5;have f6:l.frozen? ⟨w.heap.size,6,none⟩=false:=zBn h 6;have f7:l.frozen? ⟨w.heap.size,7,none⟩=false:=zBn h 7;have f8:l.frozen? ⟨w.heap.size,8,none⟩=false:=zBn h 8;have f9:l.frozen? ⟨w.heap.size,9,none⟩=false:=zBn h 9;obtain⟨aj,av,al,am,ao,aw,au,ai,ax,aq⟩:=t.cells;obtain⟨ae,ad,Z,aa,U,N,ab,V,P,O⟩:=h.cells;go_wp2;refine bodyPost_ret (v:=.tuple #[zWb z1u,.int .i64 4]) ?_ rfl ⟨?_,?_⟩
  ·exact zC5 _ _ w.heap.size z1u 4 (by simp) (by simp) (zset h)
  ·exact zRw K zH _ _ _ _ _ _ _ _ _ _
  ·rw[A.out];rfl
 ·subst hnb;cases q1:(bk==decide (0<kc))with
  |false=>
    have A:Hid (zjv p.data.toList q k=(4,none)):=hC.out (by rw[G.out,q1];simp);clear G hC Hi Hy Q Hk Ha Hx I Hn Y af S z E H rk ra rx aA ah az M ho hk h3 ar;have f0:l.frozen? ⟨w.heap.size,0,none⟩=false:=zBn h 0;have f1:l.frozen? ⟨w.heap.size,1,none⟩=false:=zBn h 1;have f2:l.frozen? ⟨w.heap.size,2,none⟩=false:=zBn h 2;have f3:l.frozen? ⟨w.heap.size,3,none⟩=false:=zBn h 3;have f4:l.frozen? ⟨w.heap.size,4,none⟩=false:=zBn h 4;have f5:l.frozen? ⟨w.heap.size,5,none⟩=false:=zBn h 5;have f6:l.frozen? ⟨w.heap.size,6,none⟩=false:=zBn h 6;have f7:l.frozen? ⟨w.heap.size,7,none⟩=false:=zBn h 7;have f8:l.frozen? ⟨w.heap.size,8,none⟩=false:=zBn h 8;have f9:l.frozen? ⟨w.heap.size,9,none⟩=false:=zBn h 9;obtain⟨aj,av,al,am,ao,aw,au,ai,ax,aq⟩:=t.cells;obtain⟨ae,ad,Z,aa,U,N,ab,V,P,O⟩:=h.cells;go_wp2;refine bodyPost_ret (v:=.tuple #[zWb z1u,.int .i64 4]) ?_ rfl ⟨?_,?_⟩
    ·exact zC5 _ _ w.heap.size z1u 4 (by simp) (by simp) (zset h)
    ·exact zRw K zH _ _ _ _ _ _ _ _ _ _
    ·rw[A.out];rfl
  |true=>
    cases q2:(ba==decide (0<ac))with
    |false=>
      have A:Hid (zjv p.data.toList q k=(4,none)):=hC.out (by rw[G.out,q2];simp);clear G hC Hi Hy Q Hk Ha Hx I Hn Y af S z E H rk ra rx aA ah az M ho hk h3 ar;have f0:l.frozen? ⟨w.heap.size,0,none⟩=false:=zBn h 0;have f1:l.frozen? ⟨w.heap.size,1,none⟩=false:=zBn h 1;have f2:l.frozen? ⟨w.heap.size,2,none⟩=false:=zBn h 2;have f3:l.frozen? ⟨w.heap.size,3,none⟩=false:=zBn h 3;have f4:l.frozen? ⟨w.heap.size,4,none⟩=false:=zBn h 4;have f5:l.frozen? ⟨w.heap.size,5,none⟩=false:=zBn h 5;have f6:l.frozen? ⟨w.heap.size,6,none⟩=false:=zBn h 6;have f7:l.frozen? ⟨w.heap.size,7,none⟩=false:=zBn h 7;have f8:l.frozen? ⟨w.heap.size,8,none⟩=false:=zBn h 8;have f9:l.frozen? ⟨w.heap.size,9,none⟩=false:=zBn h 9;obtain⟨aj,av,al,am,ao,aw,au,ai,ax,aq⟩:=t.cells;obtain⟨ae,ad,Z,aa,U,N,ab,V,P,O⟩:=h.cells;go_wp2;refine bodyPost_ret (v:=.tuple #[zWb z1u,.int .i64 4]) ?_ rfl ⟨?_,?_⟩
      ·exact zC5 _ _ w.heap.size z1u 4 (by simp) (by simp) (zset h)
      ·exact zRw K zH _ _ _ _ _ _ _ _ _ _
      ·rw[A.out];rfl
    |true=>
      cases q3:(bx==decide (0<xc))with
      |false=>
        have A:Hid (zjv p.data.toList q k=(4,none)):=hC.out (by rw[G.out,q3];simp);clear G hC Hi Hy Q Hk Ha Hx I Hn Y af S z E H rk ra rx aA ah az M ho hk h3 ar;have f0:l.frozen? ⟨w.heap.size,0,none⟩=false:=zBn h 0;have f1:l.frozen? ⟨w.heap.size,1,none⟩=false:=zBn h 1;have f2:l.frozen? ⟨w.heap.size,2,none⟩=false:=zBn h 2;have f3:l.frozen? ⟨w.heap.size,3,none⟩=false:=zBn h 3;have f4:l.frozen? ⟨w.heap.size,4,none⟩=false:=zBn h 4;have f5:l.frozen? ⟨w.heap.size,5,none⟩=false:=zBn h 5;have f6:l.frozen? ⟨w.heap.size,6,none⟩=false:=zBn h 6;have f7:l.frozen? ⟨w.heap.size,7,none⟩=false:=zBn h 7;have f8:l.frozen? ⟨w.heap.size,8,none⟩=false:=zBn h 8;have f9:l.frozen? ⟨w.heap.size,9,none⟩=false:=zBn h 9;obtain⟨aj,av,al,am,ao,aw,au,ai,ax,aq⟩:=t.cells;obtain⟨ae,ad,Z,aa,U,N,ab,V,P,O⟩:=h.cells;go_wp2;refine bodyPost_ret (v:=.tuple #[zWb z1u,.int .i64 4]) ?_ rfl ⟨?_,?_⟩
        ·exact zC5 _ _ w.heap.size z1u 4 (by simp) (by simp) (zset h)
        ·exact zRw K zH _ _ _ _ _ _ _ _ _ _
        ·rw[A.out];rfl
      |true=>
        have aX:Hid (zPn p.data.toList q=true):=(by rw[G.out,q1,q2,q3];exact rfl);clear G hC;have ay:Hid (zjv p.data.toList q k=if k.any (fun o=>o.id==s)=true then(5,none)else if k.any (fun o=>o.cl==r&&o.ret==0)=true then(6,none)else(0,some ⟨s,r,y,k3,a4,x4,0,0,0,0⟩)):=by
         unfold zjv;rw[Hy.out,Q.out,I.out,if_neg h3,if_neg (show ¬(zPn p.data.toList q=false) by rw[aX.out];simp),Hi.out,Hk.out,Ha.out,Hx.out];exact rfl
        have aU:=ho.below K;have bh:l.cell? ⟨w1.heap.size,3,none⟩=some (.int .i64 s):=(by rw[zBk z];rfl);have bf:l.cell? ⟨w2.heap.size,3,none⟩=some (.int .i64 r):=(by rw[zBk E];rfl);have bi:l.cell? ⟨w6.heap.size,3,none⟩=some (.int .i64 a4):=(by rw[zBk ra];rfl);have bm:l.cell? ⟨w7.heap.size,3,none⟩=some (.int .i64 x4):=(by rw[zBk rx];rfl);have a8:l.cell? ⟨w3.heap.size,2,none⟩=some (.string ⟨y.toArray⟩):=(by rw[zBk H];rfl);have a9:l.cell? ⟨w5.heap.size,2,none⟩=some (.string ⟨k3.toArray⟩):=(by rw[zBk rk];rfl);clear Hi Hy Q Hk Ha Hx I Hn Y af S z E H rk ra rx aA ah az M ho hk h3 ar aX;go_wp2;go_loopw [28] (fun i wr=>∃(j n:Nat),i=.int .i64 (j:Int)∧j≤k.length∧(k.drop j).any (fun o=>o.id==s)=k.any (fun o=>o.id==s)∧wr=l.drewN n) (fun i _=>k.length-(intOf i).toNat)
        case atStart=>exact⟨0,0,rfl,by omega,rfl,rfl⟩
        case round=>
         obtain⟨j,n,rfl,hj,HJ,rfl⟩:=hrel;have hJ:Hid ((k.drop j).any (fun o=>o.id==s)=k.any (fun o=>o.id==s)):=HJ;clear HJ;by_cases hlt:j<k.length
         ·obtain⟨g,rfl,hg,B⟩:=aU (fun e=>by rw[e]at hlt;simp at hlt);have D:∀c u,c<10→(opvCells k[j])[c]?=some u→l.cell? ⟨g,j*10+c,none⟩=some u:=fun c u hc hu=>B _ _ ((zvc k j hlt c hc).trans hu);have c0:=D 0 _ (by omega) rfl;rw[Nat.add_zero]at c0;have a7:(j:Int)<(k.length:Int):=(by omega);have hD:Hid (k.any (fun o=>o.id==s)=((k[j].id==s)||(k.drop (j+1)).any (fun o=>o.id==s))):=(by rw[←hJ.out,List.drop_eq_getElem_cons hlt,List.any_cons];exact rfl);clear D B hJ;go_wp2;go_cut [123] (fun a wx=>a=.bool (k[j].id==s)∧wx=l.drewN (n+1))
          case first=>
           go_region
           all_goals
            go_wp2_with fail;go_meet;exact⟨rfl,rfl⟩
          case rest=>
           obtain⟨rfl,rfl⟩:=hcut;have aT:zBlk (l.drewN (n+1)) w.heap.size:=h;have aQ:Below w.heap.size w (l.drewN (n+1)):=Go.below_drewN K _;cases hq:(k[j].id==s)with
           |true=>
             have A:Hid (zjv p.data.toList q k=(5,none)):=(by rw[ay.out,if_pos (by rw[hD.out,hq];rfl)];exact rfl);clear ay hD;have f0:l.frozen? ⟨w.heap.size,0,none⟩=false:=zBn h 0;have f1:l.frozen? ⟨w.heap.size,1,none⟩=false:=zBn h 1;have f2:l.frozen? ⟨w.heap.size,2,none⟩=false:=zBn h 2;have f3:l.frozen? ⟨w.heap.size,3,none⟩=false:=zBn h 3;have f4:l.frozen? ⟨w.heap.size,4,none⟩=false:=zBn h 4;have f5:l.frozen? ⟨w.heap.size,5,none⟩=false:=zBn h 5;have f6:l.frozen? ⟨w.heap.size,6,none⟩=false:=zBn h 6;have f7:l.frozen? ⟨w.heap.size,7,none⟩=false:=zBn h 7;have f8:l.frozen? ⟨w.heap.size,8,none⟩=false:=zBn h 8;have f9:l.frozen? ⟨w.heap.size,9,none⟩=false:=zBn h 9;obtain⟨aj,av,al,am,ao,aw,au,ai,ax,aq⟩:=t.cells;obtain⟨ae,ad,Z,aa,U,N,ab,V,P,O⟩:=h.cells;go_wp2;refine bodyPost_ret (v:=.tuple #[zWb z1u,.int .i64 5]) ?_ rfl ⟨?_,?_⟩
             ·exact zC5 _ _ w.heap.size z1u 5 (by simp) (by simp) (zset aT)
             ·exact zRw aQ zH _ _ _ _ _ _ _ _ _ _
             ·rw[A.out];rfl
           |false=>
             have aP:Hid ((k.drop (j+1)).any (fun o=>o.id==s)=k.any (fun o=>o.id==s)):=(by rw[hD.out,hq];exact rfl);clear hD;go_wp2;go_roundw
             case rel=>exact⟨j+1,n+1,by go_num,by omega,aP.out,rfl⟩
             case measure=>simp[intOf];omega
         ·have h5:Hid (k.any (fun o=>o.id==s)=false):=(by rw[←hJ.out,List.drop_eq_nil_of_le (by omega)];exact rfl);have a7:¬(j:Int)<(k.length:Int):=(by omega);clear hJ;go_wp2;go_loopw [29] (fun i wr=>∃(j m:Nat),i=.int .i64 (j:Int)∧j≤k.length∧(k.drop j).any (fun o=>o.cl==r&&o.ret==0)=k.any (fun o=>o.cl==r&&o.ret==0)∧wr=l.drewN m) (fun i _=>k.length-(intOf i).toNat)
          case atStart=>exact⟨0,n,rfl,by omega,rfl,rfl⟩
          case round=>
           obtain⟨C,m,rfl,bj,HJ,rfl⟩:=hrel;have hJ:Hid ((k.drop C).any (fun o=>o.cl==r&&o.ret==0)=k.any (fun o=>o.cl==r&&o.ret==0)):=HJ;clear HJ;by_cases hlt2:C<k.length
           ·obtain⟨g,rfl,hg,B⟩:=aU (fun e=>by rw[e]at hlt2;simp at hlt2);have D:∀c u,c<10→(opvCells k[C])[c]?=some u→l.cell? ⟨g,C*10+c,none⟩=some u:=fun c u hc hu=>B _ _ ((zvc k C hlt2 c hc).trans hu);have c1:=D 1 _ (by omega) rfl;have c7:=D 7 _ (by omega) rfl;have aY:(C:Int)<(k.length:Int):=(by omega);have hD:Hid (k.any (fun o=>o.cl==r&&o.ret==0)=((k[C].cl==r&&k[C].ret==0)||(k.drop (C+1)).any (fun o=>o.cl==r&&o.ret==0))):=(by rw[←hJ.out,List.drop_eq_getElem_cons hlt2,List.any_cons];exact rfl);clear D B hJ;go_wp2;go_cut [146] (fun a wx=>a=.bool (k[C].cl==r&&k[C].ret==0)∧wx=l.drewN (m+1))
            case first=>
             cases hcq:(k[C].cl==r)
             all_goals
              go_region
              all_goals
               go_wp2_with fail;go_meet;exact⟨by simp[hcq],rfl⟩
            case rest=>
             obtain⟨rfl,rfl⟩:=hcut;have aT:zBlk (l.drewN (m+1)) w.heap.size:=h;have aQ:Below w.heap.size w (l.drewN (m+1)):=Go.below_drewN K _;cases hq:(k[C].cl==r&&k[C].ret==0)with
             |true=>
               have A:Hid (zjv p.data.toList q k=(6,none)):=(by rw[ay.out,if_neg (by rw[h5.out];simp),if_pos (by rw[hD.out,hq];rfl)];exact rfl);clear ay hD h5;have f0:l.frozen? ⟨w.heap.size,0,none⟩=false:=zBn h 0;have f1:l.frozen? ⟨w.heap.size,1,none⟩=false:=zBn h 1;have f2:l.frozen? ⟨w.heap.size,2,none⟩=false:=zBn h 2;have f3:l.frozen? ⟨w.heap.size,3,none⟩=false:=zBn h 3;have f4:l.frozen? ⟨w.heap.size,4,none⟩=false:=zBn h 4;have f5:l.frozen? ⟨w.heap.size,5,none⟩=false:=zBn h 5;have f6:l.frozen? ⟨w.heap.size,6,none⟩=false:=zBn h 6;have f7:l.frozen? ⟨w.heap.size,7,none⟩=false:=zBn h 7;have f8:l.frozen? ⟨w.heap.size,8,none⟩=false:=zBn h 8;have f9:l.frozen? ⟨w.heap.size,9,none⟩=false:=zBn h 9;obtain⟨aj,av,al,am,ao,aw,au,ai,ax,aq⟩:=t.cells;obtain⟨ae,ad,Z,aa,U,N,ab,V,P,O⟩:=h.cells;go_wp2;refine bodyPost_ret (v:=.tuple #[zWb z1u,.int .i64 6]) ?_ rfl ⟨?_,?_⟩
               ·exact zC5 _ _ w.heap.size z1u 6 (by simp) (by simp) (zset aT)
               ·exact zRw aQ zH _ _ _ _ _ _ _ _ _ _
               ·rw[A.out];rfl
             |false=>
               have aP:Hid ((k.drop (C+1)).any (fun o=>o.cl==r&&o.ret==0)=k.any (fun o=>o.cl==r&&o.ret==0)):=(by rw[hD.out,hq];exact rfl);clear hD;go_wp2;go_roundw
               case rel=>exact⟨C+1,m+1,by go_num,by omega,aP.out,rfl⟩
               case measure=>simp[intOf];omega
           ·have h6:Hid (k.any (fun o=>o.cl==r&&o.ret==0)=false):=(by rw[←hJ.out,List.drop_eq_nil_of_le (by omega)];exact rfl);have aY:¬(C:Int)<(k.length:Int):=(by omega);clear hJ;have A:Hid (zjv p.data.toList q k=(0,some ⟨s,r,y,k3,a4,x4,0,0,0,0⟩)):=(by rw[ay.out,if_neg (by rw[h5.out];simp),if_neg (by rw[h6.out];simp)];exact rfl);clear ay h5 h6;have f0:l.frozen? ⟨w.heap.size,0,none⟩=false:=zBn h 0;have f1:l.frozen? ⟨w.heap.size,1,none⟩=false:=zBn h 1;have f2:l.frozen? ⟨w.heap.size,2,none⟩=false:=zBn h 2;have f3:l.frozen? ⟨w.heap.size,3,none⟩=false:=zBn h 3;have f4:l.frozen? ⟨w.heap.size,4,none⟩=false:=zBn h 4;have f5:l.frozen? ⟨w.heap.size,5,none⟩=false:=zBn h 5;have f6:l.frozen? ⟨w.heap.size,6,none⟩=false:=zBn h 6;have f7:l.frozen? ⟨w.heap.size,7,none⟩=false:=zBn h 7;have f8:l.frozen? ⟨w.heap.size,8,none⟩=false:=zBn h 8;have f9:l.frozen? ⟨w.heap.size,9,none⟩=false:=zBn h 9;obtain⟨ae,ad,Z,aa,U,N,ab,V,P,O⟩:=h.cells;go_wp2;refine bodyPost_ret (v:=.tuple #[zWb ⟨s,r,y,k3,a4,x4,0,0,0,0⟩,.int .i64 0]) ?_ rfl ⟨?_,?_⟩
            ·exact zC5 _ _ w.heap.size ⟨s,r,y,k3,a4,x4,0,0,0,0⟩ 0 (by simp) (by simp) (opBlk.set (o:=z1u) (show opBlk (l.drewN m) w.heap.size z1u from h) ⟨s,r,y,k3,a4,x4,0,0,0,0⟩)
            ·exact zRw (Go.below_drewN K m) zH _ _ _ _ _ _ _ _ _ _
            ·rw[A.out];rfl
open Tryz
def vBlk (w:World)(b:Nat)(k n:Int):Prop:=w.heap[b]?=some (.cells #[.int .i64 k,.int .i64 n] 25 (0,0))
theorem vBlk.below {w w':World}{b:Nat}{x y:Int}(h:vBlk w b x y)(k:Below w.heap.size w w'):vBlk w' b x y:=(k.block b (zBq h)).trans h
theorem vBlk.set {w:World}{b:Nat}{x y:Int}(h:vBlk w b x y)(k n:Int):vBlk ((w.setCell ⟨b,0,none⟩ (.int .i64 k)).setCell ⟨b,1,none⟩ (.int .i64 n)) b k n:=by
 unfold vBlk at*;rw[zFg (zFg h 0 _) 1 _];simp
theorem vBlk.other {w:World}{b c:Nat}{x y:Int}(h:vBlk w b x y)(a:b≠c)(u v:Value):vBlk ((w.setCell ⟨c,0,none⟩ u).setCell ⟨c,1,none⟩ v) b x y:=by
 unfold vBlk at*;rw[zRA a,zRA a];exact h
theorem below2 {B b:Nat}{w W:World}(h:Below B w W)(a:B≤b)(d e:Value):Below B w ((W.setCell ⟨b,0,none⟩ d).setCell ⟨b,1,none⟩ e):=(h.setCell (p:=⟨b,0,none⟩) a d).setCell (p:=⟨b,1,none⟩) a e
theorem zM4 (d:Array Value)(W:World)(b:Nat)(a k n r:Int)(g:d[6]?.getD undef=.int .i64 a)(h:d[7]?.getD undef=.pointer (some ⟨b,0,none⟩))(i:d[8]?.getD undef=.int .i64 r)(e:vBlk W b k n):
 (results Tryz.f27 d).run prog W=.ok (.tuple #[.int .i64 a,.agg #[.int .i64 k,.int .i64 n],.int .i64 r]) W:=by
 have c0:W.cell? ⟨b,0,none⟩=some (.int .i64 k):=by rw[zBk e];rfl
 have c1:W.cell? ⟨b,1,none⟩=some (.int .i64 n):=by rw[zBk e];rfl
 simp[results,results27,go_sem,g,h,i,c0,c1]
def atOf:Option Nat→Int
 |none=> -1
 |some k=>k
def zDq (q:Int×Option (Nat×Int×Int))(w:World)(e:Ending)(w':World):Prop:=
 Below w.heap.size w w'∧∃a k n:Int,(∀p,q.2=some p→a=(p.1:Int)∧k=p.2.1∧n=p.2.2)∧e=.returned (.tuple #[.int .i64 a,.agg #[.int .i64 k,.int .i64 n],.int .i64 q.1])
theorem zub (s:ByteArray)(o:Option Addr)(ab:Nat)(t:List RM)(oa:Option Addr)(av:Nat)(l:List OpV)(w:World)(hr:RRow w o t)(ho:ORow w oa l)(hl:t.length≤2000000)(aD:l.length≤1000)(hk:∀m∈t,rmOk m)(aM:s.size≤2000000)(ax:∀p∈l,p.name.length≤8000000):
 Calls prog 27 #[.string s,.slice o t.length ab,.slice oa l.length av] w fun e w'=>zDq (zty s.data.toList t l) w e w':=by
 go_enter func27,ntmps27;go_wp2_with fail;have hZ:∃W,((w.alloc (.cells #[.int .i64 0,.int .i64 0] 25)).alloc (.cells #[.int .i64 0,.int .i64 0] 25))=W∧Below w.heap.size w W∧vBlk W w.heap.size 0 0∧vBlk W (w.heap.size+1) 0 0:=
  ⟨_,rfl,(zA _ _).alloc (by simp) _,(zD1 _ _ _ (by simp)).trans (ziF _ _ _ rfl),ziF _ _ _ (by simp)⟩
 obtain⟨W0,aw,Y,E,I⟩:=hZ;rw[aw]
 skip
 refine(zAO o ab t sRet W0 (hr.below Y) hl).mono ?_;rintro e w1 ⟨aa,rfl⟩;rw[show memR sRet zB6 0 t=cR sRet t from rfl];obtain⟨i1,i2,i3,G,ic,Hi⟩:∃a b c d n,Hid (cR sRet t=((a,b,c,d),n)):=⟨_,_,_,_,_,rfl⟩;rw[Hi.out];unfold zF5;dsimp only;obtain⟨W1,aL,af,am,ri⟩:∃W,w1.alloc (.cells #[.string ⟨i1.toArray⟩,.int .u8 (i2:Int),.string ⟨i3.toArray⟩,.int .i64 G] 74)=W∧Below w.heap.size w W∧Below W0.heap.size W0 W∧rmBlk W w1.heap.size (i1,i2,i3,G):=
  ⟨_,rfl,(Y.trans (aa.mono Y.size)).alloc (Nat.le_trans Y.size aa.size) _,aa.alloc aa.size _,rmBlk.new _ (i1,i2,i3,G)⟩
 replace E:=E.below am;replace I:=I.below am;go_wp2_with fail;refine(zAO o ab t sVal W1 (hr.below af) hl).mono ?_;rintro e w2 ⟨ad,rfl⟩;rw[show memR sVal zB6 0 t=cR sVal t from rfl];obtain⟨X,D,V,F,xc,Hx⟩:∃a b c d n,Hid (cR sVal t=((a,b,c,d),n)):=⟨_,_,_,_,_,rfl⟩;rw[Hx.out];unfold zF5;dsimp only;obtain⟨W2,aB,ai,aj,rx⟩:∃W,w2.alloc (.cells #[.string ⟨X.toArray⟩,.int .u8 (D:Int),.string ⟨V.toArray⟩,.int .i64 F] 74)=W∧Below w.heap.size w W∧Below W1.heap.size W1 W∧rmBlk W w2.heap.size (X,D,V,F):=
  ⟨_,rfl,(af.trans (ad.mono af.size)).alloc (Nat.le_trans af.size ad.size) _,ad.alloc ad.size _,rmBlk.new _ (X,D,V,F)⟩
 replace E:=E.below aj;replace I:=I.below aj;replace ri:=ri.below aj;go_wp2_with fail;refine(z51 o ab t false W2 (hr.below ai) hl (fun m hm=>(hk m hm).2.1)).mono ?_;rintro e A ⟨U,rfl⟩;have N:Below w.heap.size w A:=ai.trans (U.mono ai.size);replace E:=E.below U;replace I:=I.below U;replace ri:=ri.below U;replace rx:=rx.below U;have an:=(zJz false t 0).1;obtain⟨ff,ag⟩:∃x,Hid (fitsR false 0 t=x):=⟨_,rfl⟩;rw[ag.out]at an⊢;have aC:=N.size;have Z:A.cell? ⟨w.heap.size+1,0,none⟩=some (.int .i64 0):=by rw[zBk I];rfl
 have ae:A.cell? ⟨w.heap.size+1,1,none⟩=some (.int .i64 0):=by rw[zBk I];rfl
 have f0:A.frozen? ⟨w.heap.size,0,none⟩=false:=zBn E 0;have f1:A.frozen? ⟨w.heap.size,1,none⟩=false:=zBn E 1;have d0:A.cell? ⟨w.heap.size,0,none⟩=some (.int .i64 0):=by rw[zBk E];rfl
 have d1:A.cell? ⟨w.heap.size,1,none⟩=some (.int .i64 0):=by rw[zBk E];rfl
 by_cases h3:ff<t.length∨ic=0∨xc=0
 ·have z:Hid (zty s.data.toList t l=(3,none)):=by
   unfold zty;rw[Hi.out,Hx.out,ag.out,if_pos h3];exact rfl
  by_cases h31:ff<t.length
  ·have au:(ff:Int)<(t.length:Int):=(by omega);go_wp2;go_cut [6,8] (fun a r wx=>a=.int .i64 0∧r=.int .i64 3∧wx=((A.setCell ⟨w.heap.size,0,none⟩ (.int .i64 0)).setCell ⟨w.heap.size,1,none⟩ (.int .i64 0)).drew)
   case first=>
    go_region
    all_goals
     go_wp2_with fail;go_meet;exact⟨rfl,rfl,rfl⟩
   case rest=>
    obtain⟨rfl,rfl,rfl⟩:=hcut;go_wp2;refine bodyPost_ret (v:=.tuple #[.int .i64 0,.agg #[.int .i64 0,.int .i64 0],.int .i64 3]) ?_ rfl ⟨?_,0,0,0,?_,?_⟩
    ·exact zM4 _ _ w.heap.size 0 0 0 3 (by simp) (by simp) (by simp) (vBlk.set E _ _)
    ·exact(below2 N zH _ _).drew
    ·rw[z.out];intro p h;cases h
    ·rw[z.out]
  ·have au:decide ((ff:Int)<(t.length:Int))=false:=(by simp only [decide_eq_false_iff_not];omega);by_cases h32:ic=0
   ·have ar:((ic:Int)==0)=true:=(by simp;omega);clear h3 h32;go_wp2;go_cut [6,8] (fun a r wx=>a=.int .i64 0∧r=.int .i64 3∧wx=((A.setCell ⟨w.heap.size,0,none⟩ (.int .i64 0)).setCell ⟨w.heap.size,1,none⟩ (.int .i64 0)).drew)
    case first=>
     go_region
     all_goals
      go_wp2_with fail;go_meet;exact⟨rfl,rfl,rfl⟩
    case rest=>
     obtain⟨rfl,rfl,rfl⟩:=hcut;go_wp2;refine bodyPost_ret (v:=.tuple #[.int .i64 0,.agg #[.int .i64 0,.int .i64 0],.int .i64 3]) ?_ rfl ⟨?_,0,0,0,?_,?_⟩
     ·exact zM4 _ _ w.heap.size 0 0 0 3 (by simp) (by simp) (by simp) (vBlk.set E _ _)
     ·exact(below2 N zH _ _).drew
     ·rw[z.out];intro p h;cases h
     ·rw[z.out]
   ·have ar:((ic:Int)==0)=false:=(by simp;omega);have az:((xc:Int)==0)=true:=(by simp;omega);clear h3 h32;go_wp2;go_cut [6,8] (fun a r wx=>a=.int .i64 0∧r=.int .i64 3∧wx=((A.setCell ⟨w.heap.size,0,none⟩ (.int .i64 0)).setCell ⟨w.heap.size,1,none⟩ (.int .i64 0)).drew)
    case first=>
     go_region
     all_goals
      go_wp2_with fail;go_meet;exact⟨rfl,rfl,rfl⟩
    case rest=>
     obtain⟨rfl,rfl,rfl⟩:=hcut;go_wp2;refine bodyPost_ret (v:=.tuple #[.int .i64 0,.agg #[.int .i64 0,.int .i64 0],.int .i64 3]) ?_ rfl ⟨?_,0,0,0,?_,?_⟩
     ·exact zM4 _ _ w.heap.size 0 0 0 3 (by simp) (by simp) (by simp) (vBlk.set E _ _)
     ·exact(below2 N zH _ _).drew
     ·rw[z.out];intro p h;cases h
     ·rw[z.out]
 have g1:decide ((ff:Int)<(t.length:Int))=false:=by simp only [decide_eq_false_iff_not];omega
 have g0:t.length≤ff:=by omega
 have g2:((ic:Int)==0)=false:=by simp;omega
 have g3:((xc:Int)==0)=false:=by simp;omega
 have hC:Hid (zty s.data.toList t l=match zrZ G l 0 none with
  |none=>(7,none)
  |some i=>match l[i]? with
    |none=>(7,none)
    |some o=>if hasP (zxo D) (nats (zyw (s.data.toList++[32]++o.name)).2.1)=false then(8,none)else(0,some (i,valR (X,D,V,F)))):=by
  unfold zty;rw[Hi.out,Hx.out,ag.out,if_neg h3];exact rfl
 have aH:D<256:=by have:=(zLS hk sVal).2.1;rw[Hx.out]at this;exact this
 have al:=ho.below N;have aE:A.cell? ⟨w1.heap.size,3,none⟩=some (.int .i64 G):=by rw[zBk ri];rfl
 have aF:A.cell? ⟨w2.heap.size,1,none⟩=some (.int .u8 (D:Int)):=by rw[zBk rx];rfl
 have aK:A.cell? ⟨w2.heap.size,3,none⟩=some (.int .i64 F):=by rw[zBk rx];rfl
 clear Hi Hx ag ri rx hr ho hk h3 an;go_wp2;go_loopw [15,16] (fun a i wr=>∃(j n:Nat) (r:Option Nat),a=.int .i64 (atOf r)∧i=.int .i64 (j:Int)∧j≤l.length∧(∀k,r=some k→k<j)∧zrZ G (l.drop j) j r=zrZ G l 0 none∧wr=A.drewN n) (fun _ i _=>l.length-(intOf i).toNat)
 case atStart=>exact⟨0,0,none,rfl,rfl,by omega,by simp,rfl,rfl⟩
 case round=>
  obtain⟨j,n,r,rfl,rfl,hj,ak,HJ,rfl⟩:=hrel;have hJ:Hid (zrZ G (l.drop j) j r=zrZ G l 0 none):=HJ;clear HJ;by_cases hlt:j<l.length
  ·obtain⟨g,rfl,hg,K⟩:=al (fun e=>by rw[e]at hlt;simp at hlt);have M:∀c u,c<10→(opvCells l[j])[c]?=some u→A.cell? ⟨g,j*10+c,none⟩=some u:=fun c u hc hu=>K _ _ ((zvc l j hlt c hc).trans hu);have c0:=M 0 _ (by omega) rfl;rw[Nat.add_zero]at c0;have c7:=M 7 _ (by omega) rfl;have ay:(j:Int)<(l.length:Int):=(by omega);have hD:Hid (zrZ G (l.drop (j+1)) (j+1) (if l[j].id=G∧l[j].ret=0 then some j else r)=zrZ G l 0 none):=(by rw[←hJ.out,List.drop_eq_getElem_cons hlt];exact rfl);clear M K hJ;go_wp2;go_cut [68] (fun a wx=>a=.bool (l[j].id==G&&l[j].ret==0)∧wx=A.drewN (n+1))
   case first=>
    cases hcq:(l[j].id==G)
    all_goals
     go_region
     all_goals
      go_wp2_with fail;go_meet;exact⟨by simp[hcq],rfl⟩
   case rest=>
    obtain⟨rfl,rfl⟩:=hcut;cases S:(l[j].id==G&&l[j].ret==0)with
    |true=>
      have ah:Hid (zrZ G (l.drop (j+1)) (j+1) (some j)=zrZ G l 0 none):=(by rw[←hD.out,if_pos (by simpa using S)];exact rfl);clear hD;go_wp2;go_roundw
      case rel=>exact⟨j+1,n+1,some j,rfl,by go_num,by omega,by intro k h;injection h with h;omega,ah.out,rfl⟩
      case measure=>simp[intOf];omega
    |false=>
      have ah:Hid (zrZ G (l.drop (j+1)) (j+1) r=zrZ G l 0 none):=(by rw[←hD.out,if_neg (by simpa using S)];exact rfl);clear hD;go_wp2;go_roundw
      case rel=>exact⟨j+1,n+1,r,rfl,by go_num,by omega,fun k h=>by have:=ak k h;omega,ah.out,rfl⟩
      case measure=>simp[intOf];omega
  ·have ay:¬(j:Int)<(l.length:Int):=(by omega);have hL:Hid (zrZ G l 0 none=r):=(by rw[←hJ.out,List.drop_eq_nil_of_le (by omega)];exact rfl);clear hJ;cases r with
   |none=>
     have z:Hid (zty s.data.toList t l=(7,none)):=(by rw[hC.out,hL.out];exact rfl);clear hC hL;rw[show atOf none= -1 from rfl];go_wp2;go_cut [6,8] (fun a r wx=>a=.int .i64 0∧r=.int .i64 7∧wx=((A.drewN (n+1)).setCell ⟨w.heap.size,0,none⟩ (.int .i64 0)).setCell ⟨w.heap.size,1,none⟩ (.int .i64 0))
     case first=>
      go_region
      all_goals
       go_wp2_with fail;go_meet;exact⟨rfl,rfl,rfl⟩
     case rest=>
      obtain⟨rfl,rfl,rfl⟩:=hcut;go_wp2;refine bodyPost_ret (v:=.tuple #[.int .i64 0,.agg #[.int .i64 0,.int .i64 0],.int .i64 7]) ?_ rfl ⟨?_,0,0,0,?_,?_⟩
      ·exact zM4 _ _ w.heap.size 0 0 0 7 (by simp) (by simp) (by simp) (vBlk.set (show vBlk (A.drewN (n+1)) w.heap.size 0 0 from E) _ _)
      ·exact below2 (Go.below_drewN N (n+1)) zH _ _
      ·rw[z.out];intro p h;cases h
      ·rw[z.out]
   |some q=>
     have S:q<l.length:=(by have:=ak q rfl;omega);obtain⟨g,rfl,hg,K⟩:=al (fun e=>by rw[e]at S;simp at S);have M:∀c u,c<10→(opvCells l[q])[c]?=some u→A.cell? ⟨g,q*10+c,none⟩=some u:=fun c u hc hu=>K _ _ ((zvc l q S c hc).trans hu);have c2:=M 2 _ (by omega) rfl;have aJ:(q:Int)<(l.length:Int):=(by omega);have aA:¬(q:Int)<0:=(by omega);have aI:l[q].name.length≤8000000:=ax _ (List.getElem_mem S);have ao:Hid (zty s.data.toList t l=if hasP (zxo D) (nats (zyw (s.data.toList++[32]++l[q].name)).2.1)=false then(8,none)else(0,some (q,valR (X,D,V,F)))):=by
      rw[hC.out,hL.out];dsimp only;rw[zC S];exact rfl
     clear hC hL M K ak;generalize l[q].name=nm at*;rw[show atOf (some q)=(q:Int)from rfl];go_wp2_with fail;refine(zf4 s ⟨nm.toArray⟩ _ (by omega) (by show nm.toArray.size≤9000000;simp;omega)).mono ?_;rintro e w8 ⟨P,rfl⟩;have O:=P.symm;clear P;subst O;rw[show(s++(⟨#[32]⟩:ByteArray)++⟨nm.toArray⟩).toList=s.data.toList++[32]++nm by rw[ByteArray.toList_eq];simp];have aq:=zjM (s.data.toList++[32]++nm);obtain⟨n1,H,nb,Hn⟩:∃a b c,Hid (zyw (s.data.toList++[32]++nm)=(a,b,c)):=⟨(zyw (s.data.toList++[32]++nm)).1,(zyw (s.data.toList++[32]++nm)).2.1,(zyw (s.data.toList++[32]++nm)).2.2,(rfl:zyw (s.data.toList++[32]++nm)=_)⟩;have Q:Hid (zty s.data.toList t l=if hasP (zxo D) (lets ⟨H.toArray⟩)=false then(8,none)else(0,some (q,valR (X,D,V,F)))):=by
      rw[ao.out,Hn.out];dsimp only;rw[show nats H=lets ⟨H.toArray⟩ by unfold nats lets;simp];exact rfl
     rw[Hn.out]at aq⊢;unfold zu1;dsimp only at aq⊢;clear ao Hn;have y0:A.frozen? ⟨w.heap.size+1,0,none⟩=false:=zBn I 0;have y1:A.frozen? ⟨w.heap.size+1,1,none⟩=false:=zBn I 1;by_cases k1:D=105
     ·subst k1;have B:Hid (zty s.data.toList t l=if hasP 105 (lets ⟨H.toArray⟩)=false then(8,none)else(0,some (q,1,F))):=by
       rw[Q.out];exact rfl
      clear Q;go_wp2_with fail;refine(has_any ⟨H.toArray⟩ 105 _ (by show H.toArray.size≤9000000;simp;omega) (by first|decide|omega)).mono ?_;rintro e w9 ⟨rfl,P⟩;have O:=P.symm;clear P;subst O;obtain⟨y,J,L,C,R⟩:∃W,((A.drewN n).setCell ⟨w.heap.size+1,0,none⟩ (.int .i64 1)).setCell ⟨w.heap.size+1,1,none⟩ (.int .i64 F)=W∧Below w.heap.size w W∧vBlk W w.heap.size 0 0∧vBlk W (w.heap.size+1) 1 F:=⟨_,rfl,below2 (Go.below_drewN N n) (by omega) _ _,vBlk.other (show vBlk (A.drewN n) w.heap.size 0 0 from E) (by omega) _ _,vBlk.set (show vBlk (A.drewN n) (w.heap.size+1) 0 0 from I) _ _⟩;rw[J];clear J Z ae f0 f1 d0 d1 y0 y1 E I;have p0:y.cell? ⟨w.heap.size+1,0,none⟩=some (.int .i64 1):=(by rw[zBk R];rfl);have p1:y.cell? ⟨w.heap.size+1,1,none⟩=some (.int .i64 F):=(by rw[zBk R];rfl);have p2:y.frozen? ⟨w.heap.size,0,none⟩=false:=zBn C 0;have p3:y.frozen? ⟨w.heap.size,1,none⟩=false:=zBn C 1;have p4:y.cell? ⟨w.heap.size,0,none⟩=some (.int .i64 0):=(by rw[zBk C];rfl);have p5:y.cell? ⟨w.heap.size,1,none⟩=some (.int .i64 0):=(by rw[zBk C];rfl);cases hh:hasP 105 (lets ⟨H.toArray⟩)with
      |false=>
        have z:Hid (zty s.data.toList t l=(8,none)):=(by rw[B.out,hh];exact rfl);clear B hh;go_wp2;go_cut [6,8] (fun a r wx=>a=.int .i64 0∧r=.int .i64 8∧wx=((y.setCell ⟨w.heap.size,0,none⟩ (.int .i64 1)).setCell ⟨w.heap.size,1,none⟩ (.int .i64 F)).drew)
        case first=>
         go_region
         all_goals
          go_wp2_with fail;go_meet;exact⟨rfl,rfl,rfl⟩
        case rest=>
         obtain⟨rfl,rfl,rfl⟩:=hcut;go_wp2;refine bodyPost_ret (v:=.tuple #[.int .i64 0,.agg #[.int .i64 1,.int .i64 F],.int .i64 8]) ?_ rfl ⟨?_,0,1,F,?_,?_⟩
         ·exact zM4 _ _ w.heap.size 0 1 F 8 (by simp) (by simp) (by simp) (vBlk.set C _ _)
         ·exact(below2 L zH _ _).drew
         ·rw[z.out];intro p h;cases h
         ·rw[z.out]
      |true=>
        have z:Hid (zty s.data.toList t l=(0,some (q,1,F))):=(by rw[B.out,hh];exact rfl);clear B hh;go_wp2;go_cut [6,8] (fun a r wx=>a=.int .i64 (q:Int)∧r=.int .i64 0∧wx=((y.setCell ⟨w.heap.size,0,none⟩ (.int .i64 1)).setCell ⟨w.heap.size,1,none⟩ (.int .i64 F)).drew)
        case first=>
         go_region
         all_goals
          go_wp2_with fail;go_meet;exact⟨rfl,rfl,rfl⟩
        case rest=>
         obtain⟨rfl,rfl,rfl⟩:=hcut;go_wp2;refine bodyPost_ret (v:=.tuple #[.int .i64 (q:Int),.agg #[.int .i64 1,.int .i64 F],.int .i64 0]) ?_ rfl ⟨?_,(q:Int),1,F,?_,?_⟩
         ·exact zM4 _ _ w.heap.size (q:Int) 1 F 0 (by simp) (by simp) (by simp) (vBlk.set C _ _)
         ·exact(below2 L zH _ _).drew
         ·rw[z.out];intro p h;injection h with h;subst h;exact⟨rfl,rfl,rfl⟩
         ·rw[z.out]
     ·by_cases k2:D=116
      ·subst k2;have B:Hid (zty s.data.toList t l=if hasP 98 (lets ⟨H.toArray⟩)=false then(8,none)else(0,some (q,2,1))):=by
        rw[Q.out];exact rfl
       clear Q;go_wp2_with fail;refine(has_any ⟨H.toArray⟩ 98 _ (by show H.toArray.size≤9000000;simp;omega) (by first|decide|omega)).mono ?_;rintro e w9 ⟨rfl,P⟩;have O:=P.symm;clear P;subst O;obtain⟨y,J,L,C,R⟩:∃W,((A.drewN n).setCell ⟨w.heap.size+1,0,none⟩ (.int .i64 2)).setCell ⟨w.heap.size+1,1,none⟩ (.int .i64 1)=W∧Below w.heap.size w W∧vBlk W w.heap.size 0 0∧vBlk W (w.heap.size+1) 2 1:=⟨_,rfl,below2 (Go.below_drewN N n) (by omega) _ _,vBlk.other (show vBlk (A.drewN n) w.heap.size 0 0 from E) (by omega) _ _,vBlk.set (show vBlk (A.drewN n) (w.heap.size+1) 0 0 from I) _ _⟩;rw[J];clear J Z ae f0 f1 d0 d1 y0 y1 E I;have p0:y.cell? ⟨w.heap.size+1,0,none⟩=some (.int .i64 2):=(by rw[zBk R];rfl);have p1:y.cell? ⟨w.heap.size+1,1,none⟩=some (.int .i64 1):=(by rw[zBk R];rfl);have p2:y.frozen? ⟨w.heap.size,0,none⟩=false:=zBn C 0;have p3:y.frozen? ⟨w.heap.size,1,none⟩=false:=zBn C 1;have p4:y.cell? ⟨w.heap.size,0,none⟩=some (.int .i64 0):=(by rw[zBk C];rfl);have p5:y.cell? ⟨w.heap.size,1,none⟩=some (.int .i64 0):=(by rw[zBk C];rfl);cases hh:hasP 98 (lets ⟨H.toArray⟩)with
       |false=>
         have z:Hid (zty s.data.toList t l=(8,none)):=(by rw[B.out,hh];exact rfl);clear B hh;go_wp2;go_cut [6,8] (fun a r wx=>a=.int .i64 0∧r=.int .i64 8∧wx=((y.setCell ⟨w.heap.size,0,none⟩ (.int .i64 2)).setCell ⟨w.heap.size,1,none⟩ (.int .i64 1)).drew)
         case first=>
          go_region
          all_goals
           go_wp2_with fail;go_meet;exact⟨rfl,rfl,rfl⟩
         case rest=>
          obtain⟨rfl,rfl,rfl⟩:=hcut;go_wp2;refine bodyPost_ret (v:=.tuple #[.int .i64 0,.agg #[.int .i64 2,.int .i64 1],.int .i64 8]) ?_ rfl ⟨?_,0,2,1,?_,?_⟩
          ·exact zM4 _ _ w.heap.size 0 2 1 8 (by simp) (by simp) (by simp) (vBlk.set C _ _)
          ·exact(below2 L zH _ _).drew
          ·rw[z.out];intro p h;cases h
          ·rw[z.out]
       |true=>
         have z:Hid (zty s.data.toList t l=(0,some (q,2,1))):=(by rw[B.out,hh];exact rfl);clear B hh;go_wp2;go_cut [6,8] (fun a r wx=>a=.int .i64 (q:Int)∧r=.int .i64 0∧wx=((y.setCell ⟨w.heap.size,0,none⟩ (.int .i64 2)).setCell ⟨w.heap.size,1,none⟩ (.int .i64 1)).drew)
         case first=>
          go_region
          all_goals
           go_wp2_with fail;go_meet;exact⟨rfl,rfl,rfl⟩
         case rest=>
          obtain⟨rfl,rfl,rfl⟩:=hcut;go_wp2;refine bodyPost_ret (v:=.tuple #[.int .i64 (q:Int),.agg #[.int .i64 2,.int .i64 1],.int .i64 0]) ?_ rfl ⟨?_,(q:Int),2,1,?_,?_⟩
          ·exact zM4 _ _ w.heap.size (q:Int) 2 1 0 (by simp) (by simp) (by simp) (vBlk.set C _ _)
          ·exact(below2 L zH _ _).drew
          ·rw[z.out];intro p h;injection h with h;subst h;exact⟨rfl,rfl,rfl⟩
          ·rw[z.out]
      ·by_cases k3:D=102
       ·subst k3;have B:Hid (zty s.data.toList t l=if hasP 98 (lets ⟨H.toArray⟩)=false then(8,none)else(0,some (q,2,0))):=by
         rw[Q.out];exact rfl
        clear Q;go_wp2_with fail;refine(has_any ⟨H.toArray⟩ 98 _ (by show H.toArray.size≤9000000;simp;omega) (by first|decide|omega)).mono ?_;rintro e w9 ⟨rfl,P⟩;have O:=P.symm;clear P;subst O;obtain⟨y,J,L,C,R⟩:∃W,((A.drewN n).setCell ⟨w.heap.size+1,0,none⟩ (.int .i64 2)).setCell ⟨w.heap.size+1,1,none⟩ (.int .i64 0)=W∧Below w.heap.size w W∧vBlk W w.heap.size 0 0∧vBlk W (w.heap.size+1) 2 0:=⟨_,rfl,below2 (Go.below_drewN N n) (by omega) _ _,vBlk.other (show vBlk (A.drewN n) w.heap.size 0 0 from E) (by omega) _ _,vBlk.set (show vBlk (A.drewN n) (w.heap.size+1) 0 0 from I) _ _⟩;rw[J];clear J Z ae f0 f1 d0 d1 y0 y1 E I;have p0:y.cell? ⟨w.heap.size+1,0,none⟩=some (.int .i64 2):=(by rw[zBk R];rfl);have p1:y.cell? ⟨w.heap.size+1,1,none⟩=some (.int .i64 0):=(by rw[zBk R];rfl);have p2:y.frozen? ⟨w.heap.size,0,none⟩=false:=zBn C 0;have p3:y.frozen? ⟨w.heap.size,1,none⟩=false:=zBn C 1;have p4:y.cell? ⟨w.heap.size,0,none⟩=some (.int .i64 0):=(by rw[zBk C];rfl);have p5:y.cell? ⟨w.heap.size,1,none⟩=some (.int .i64 0):=(by rw[zBk C];rfl);cases hh:hasP 98 (lets ⟨H.toArray⟩)with
        |false=>
          have z:Hid (zty s.data.toList t l=(8,none)):=(by rw[B.out,hh];exact rfl);clear B hh;go_wp2;go_cut [6,8] (fun a r wx=>a=.int .i64 0∧r=.int .i64 8∧wx=((y.setCell ⟨w.heap.size,0,none⟩ (.int .i64 2)).setCell ⟨w.heap.size,1,none⟩ (.int .i64 0)).drew)
          case first=>
           go_region
           all_goals
            go_wp2_with fail;go_meet;exact⟨rfl,rfl,rfl⟩
          case rest=>
           obtain⟨rfl,rfl,rfl⟩:=hcut;go_wp2;refine bodyPost_ret (v:=.tuple #[.int .i64 0,.agg #[.int .i64 2,.int .i64 0],.int .i64 8]) ?_ rfl ⟨?_,0,2,0,?_,?_⟩
           ·exact zM4 _ _ w.heap.size 0 2 0 8 (by simp) (by simp) (by simp) (vBlk.set C _ _)
           ·exact(below2 L zH _ _).drew
           ·rw[z.out];intro p h;cases h
           ·rw[z.out]
        |true=>
          have z:Hid (zty s.data.toList t l=(0,some (q,2,0))):=(by rw[B.out,hh];exact rfl);clear B hh;go_wp2;go_cut [6,8] (fun a r wx=>a=.int .i64 (q:Int)∧r=.int .i64 0∧wx=((y.setCell ⟨w.heap.size,0,none⟩ (.int .i64 2)).setCell ⟨w.heap.size,1,none⟩ (.int .i64 0)).drew)
          case first=>
           go_region
           all_goals
            go_wp2_with fail;go_meet;exact⟨rfl,rfl,rfl⟩
          case rest=>
           obtain⟨rfl,rfl,rfl⟩:=hcut;go_wp2;refine bodyPost_ret (v:=.tuple #[.int .i64 (q:Int),.agg #[.int .i64 2,.int .i64 0],.int .i64 0]) ?_ rfl ⟨?_,(q:Int),2,0,?_,?_⟩
           ·exact zM4 _ _ w.heap.size (q:Int) 2 0 0 (by simp) (by simp) (by simp) (vBlk.set C _ _)
           ·exact(below2 L zH _ _).drew
           ·rw[z.out];intro p h;injection h with h;subst h;exact⟨rfl,rfl,rfl⟩
           ·rw[z.out]
       ·have q1:((D:Int)==105)=false:=(by simp;omega);have q2:((D:Int)==116)=false:=(by simp;omega);have q3:((D:Int)==102)=false:=(by simp;omega);have e1:zxo D=D:=(by unfold zxo;rw[if_neg (by omega)]);have e2:valR (X,D,V,F)=(0,0):=(by unfold valR;dsimp only;rw[if_neg k1,if_neg k2,if_neg k3]);have B:Hid (zty s.data.toList t l=if hasP D (lets ⟨H.toArray⟩)=false then(8,none)else(0,some (q,0,0))):=by
         rw[Q.out];rw[e1,e2];exact rfl
        clear Q;go_wp2_with fail;refine(has_any ⟨H.toArray⟩ D _ (by show H.toArray.size≤9000000;simp;omega) (by first|decide|omega)).mono ?_;rintro e w9 ⟨rfl,P⟩;have O:=P.symm;clear P;subst O;obtain⟨y,J,L,C,R⟩:∃W,A.drewN n=W∧Below w.heap.size w W∧vBlk W w.heap.size 0 0∧vBlk W (w.heap.size+1) 0 0:=⟨_,rfl,Go.below_drewN N n,E,I⟩;rw[J];clear J Z ae f0 f1 d0 d1 y0 y1 E I;have p0:y.cell? ⟨w.heap.size+1,0,none⟩=some (.int .i64 0):=(by rw[zBk R];rfl);have p1:y.cell? ⟨w.heap.size+1,1,none⟩=some (.int .i64 0):=(by rw[zBk R];rfl);have p2:y.frozen? ⟨w.heap.size,0,none⟩=false:=zBn C 0;have p3:y.frozen? ⟨w.heap.size,1,none⟩=false:=zBn C 1;have p4:y.cell? ⟨w.heap.size,0,none⟩=some (.int .i64 0):=(by rw[zBk C];rfl);have p5:y.cell? ⟨w.heap.size,1,none⟩=some (.int .i64 0):=(by rw[zBk C];rfl);cases hh:hasP D (lets ⟨H.toArray⟩)with
        |false=>
          have z:Hid (zty s.data.toList t l=(8,none)):=(by rw[B.out,hh];exact rfl);clear B hh;go_wp2;go_cut [6,8] (fun a r wx=>a=.int .i64 0∧r=.int .i64 8∧wx=((y.setCell ⟨w.heap.size,0,none⟩ (.int .i64 0)).setCell ⟨w.heap.size,1,none⟩ (.int .i64 0)).drew)
          case first=>
           go_region
           all_goals
            go_wp2_with fail;go_meet;exact⟨rfl,rfl,rfl⟩
          case rest=>
           obtain⟨rfl,rfl,rfl⟩:=hcut;go_wp2;refine bodyPost_ret (v:=.tuple #[.int .i64 0,.agg #[.int .i64 0,.int .i64 0],.int .i64 8]) ?_ rfl ⟨?_,0,0,0,?_,?_⟩
           ·exact zM4 _ _ w.heap.size 0 0 0 8 (by simp) (by simp) (by simp) (vBlk.set C _ _)
           ·exact(below2 L zH _ _).drew
           ·rw[z.out];intro p h;cases h
           ·rw[z.out]
        |true=>
          have z:Hid (zty s.data.toList t l=(0,some (q,0,0))):=(by rw[B.out,hh];exact rfl);clear B hh;go_wp2;go_cut [6,8] (fun a r wx=>a=.int .i64 (q:Int)∧r=.int .i64 0∧wx=((y.setCell ⟨w.heap.size,0,none⟩ (.int .i64 0)).setCell ⟨w.heap.size,1,none⟩ (.int .i64 0)).drew)
          case first=>
           go_region
           all_goals
            go_wp2_with fail;go_meet;exact⟨rfl,rfl,rfl⟩
          case rest=>
           obtain⟨rfl,rfl,rfl⟩:=hcut;go_wp2;refine bodyPost_ret (v:=.tuple #[.int .i64 (q:Int),.agg #[.int .i64 0,.int .i64 0],.int .i64 0]) ?_ rfl ⟨?_,(q:Int),0,0,?_,?_⟩
           ·exact zM4 _ _ w.heap.size (q:Int) 0 0 0 (by simp) (by simp) (by simp) (vBlk.set C _ _)
           ·exact(below2 L zH _ _).drew
           ·rw[z.out];intro p h;injection h with h;subst h;exact⟨rfl,rfl,rfl⟩
           ·rw[z.out]
theorem zsL {w:World}{b:Nat}{v:Value}{a:List OpV}(h:w.ownsRow b 27 10 v a.length (opsRow a)):
 ∃oa capa,v=.slice oa a.length capa∧ORow w oa a:=by
 rcases zzD h with ⟨rfl,d⟩|⟨g,i,rfl,_,_,e⟩
 ·exact⟨none,0,by rw[d],fun hne=>absurd (List.length_eq_zero_iff.1 d) hne⟩
 ·exact⟨_,_,rfl,fun _=>⟨g,rfl,e,zDA h⟩⟩
theorem zIx (a:List UInt8)(d:List RM)(b:List OpV):((zjv a d b).1=0∧∃o,(zjv a d b).2=some o∧o.name=(cR sOp d).1.2.2.1)∨((zjv a d b).1≠0∧(zjv a d b).2=none):=by
 unfold zjv;split
 ·right;exact⟨by decide,rfl⟩
 ·split
  ·right;exact⟨by decide,rfl⟩
  ·split
   ·right;exact⟨by decide,rfl⟩
   ·split
    ·right;exact⟨by decide,rfl⟩
    ·left;exact⟨rfl,_,rfl,rfl⟩
theorem z2m (a:List UInt8)(d:List RM)(b:List OpV):((zty a d b).1=0∧∃p,(zty a d b).2=some p∧p.1<b.length)∨((zty a d b).1≠0∧(zty a d b).2=none):=by
 unfold zty;split
 ·right;exact⟨by decide,rfl⟩
 ·split
  ·right;exact⟨by decide,rfl⟩
  ·split
   ·right;exact⟨by decide,rfl⟩
   ·rename_i h;split
    ·right;exact⟨by decide,rfl⟩
    ·left;exact⟨rfl,_,rfl,(zB h).1⟩
theorem zIJ (b:List UInt8)(a:List RM):cnt b a≤a.length:=List.length_filter_le _ _
def zXm (model:List UInt8)(ops:List OpV)(s:ByteArray)(line:Int)(base:Nat)(w:World)(e:Ending)(w':World):Prop:=
 Below base w w'∧((∃ops' v',z9q model ops s line=(0,some ops')∧ops'.length≤ops.length+1∧(∀p∈ops',p.name.length≤8000000)∧w'.ownsRow base 27 10 v' ops'.length (opsRow ops')∧e=.returned (.tuple #[v',.int .i64 0]))∨
  (∃r,z9q model ops s line=(r,none)∧(r != 0)=true∧e=.returned (.tuple #[.slice none 0 0,.int .i64 r])))
theorem z6x (b s:ByteArray)(a:Int)(h:128<a)(g:Option Addr)(n d:Nat)(w:World):
 Calls prog 15 #[.string b,.string s,.int .i64 a,.slice g n d] w fun e w'=>w'=w∧e=.returned (.tuple #[.slice none 0 0,.int .i64 1]):=by
 go_enter func15,ntmps15;go_wp2;go_ret2;exact⟨rfl,rfl⟩
theorem opBlk.below {w w':World}{b:Nat}{o:OpV}(h:opBlk w b o)(k:Below w.heap.size w w'):opBlk w' b o:=(k.block b (zBq h)).trans h
theorem opBlk.call {w:World}{b:Nat}{o:OpV}(h:opBlk w b o)(a:Int):opBlk (w.setCell ⟨b,6,none⟩ (.int .i64 a)) b { o with call:=a }:=by
 unfold opBlk at*;rw[zFg h];simp
theorem zJ7 (j s:ByteArray)(k:Int)(t:Nat)(v:Value)(i:List OpV)(w:World)(R:w.ownsRow t 27 10 v i.length (opsRow i))(L:t≤w.heap.size)(hl:k≤128)(a1:i.length≤900)(hs:s.size≤2000000)(aI:j.size≤2000000)(am:∀p∈i,p.name.length≤8000000):
 Calls prog 15 #[.string j,.string s,.int .i64 k,v] w fun e w'=>zXm j.data.toList i s k t w e w':=by
 obtain⟨oa,Y,rfl,ho⟩:=zsL R;go_enter func15,ntmps15;go_wp2_with fail;refine(zws s _ hs).mono ?_;rintro e w1 ⟨aq,⟨l,o,N,D,aT,Z,hr,rfl⟩|⟨D,rfl⟩⟩
 ·have hB:Hid (z9q j.data.toList i s k=if repR l l=true∨(cR z3k l).2+(cR sRet l).2≠1 then(3,none)
   else if(cR z3k l).2=1 then((zjv j.data.toList l i).1,(zjv j.data.toList l i).2.map (fun o=>i++[{ o with call:=k }]))
   else((zty j.data.toList l i).1,(zty j.data.toList l i).2.map (zQy i k))):=by
   unfold z9q;rw[D];exact rfl
  clear D;go_wp2_with fail;refine(z4Q o N l _ hr (by omega)).mono ?_;rintro e w2 ⟨ay,rfl⟩;have ai:Below w.heap.size w w2:=aq.trans (ay.mono aq.size);replace hr:=hr.below ay;clear aq ay;go_wp2_with fail;refine(zAO o N l z3k _ hr (by omega)).mono ?_;rintro e w3 ⟨aa,rfl⟩;rw[show memR z3k zB6 0 l=cR z3k l from rfl];obtain⟨i1,i2,i3,i4,z,Hi⟩:∃a b c d n,Hid (cR z3k l=((a,b,c,d),n)):=⟨_,_,_,_,_,rfl⟩;rw[Hi.out];unfold zF5;dsimp only;have aD:=ai.size;obtain⟨W3,a2,ah,aw⟩:∃W,w3.alloc (.cells #[.string ⟨i1.toArray⟩,.int .u8 (i2:Int),.string ⟨i3.toArray⟩,.int .i64 i4] 74)=W∧Below w.heap.size w W∧RRow W o l:=
   ⟨_,rfl,(ai.trans (aa.mono aD)).alloc (Nat.le_trans aD aa.size) _,hr.below (aa.alloc aa.size _)⟩
  clear ai hr aa;go_wp2_with fail;refine(zAO o N l sRet W3 aw (by omega)).mono ?_;rintro e w4 ⟨ae,rfl⟩;rw[show memR sRet zB6 0 l=cR sRet l from rfl];obtain⟨x1,x2,x3,x4,G,Hx⟩:∃a b c d n,Hid (cR sRet l=((a,b,c,d),n)):=⟨_,_,_,_,_,rfl⟩;rw[Hx.out];unfold zF5;dsimp only;have aJ:=ah.size;obtain⟨W4,aZ,A,an⟩:∃W,w4.alloc (.cells #[.string ⟨x1.toArray⟩,.int .u8 (x2:Int),.string ⟨x3.toArray⟩,.int .i64 x4] 74)=W∧Below w.heap.size w W∧RRow W o l:=
   ⟨_,rfl,(ah.trans (ae.mono aJ)).alloc (Nat.le_trans aJ ae.size) _,aw.below (ae.alloc ae.size _)⟩
  have aF:=A.size;have ak:Hid (z=(cR z3k l).2∧G=(cR sRet l).2):=⟨by rw[Hi.out],by rw[Hx.out]⟩;have aH:Hid (z≤l.length∧G≤l.length):=by
   have Q:=zra z3k l;have h2:=zra sRet l;rw[Hi.out]at Q;rw[Hx.out]at h2;exact⟨by rw[show z=cnt z3k l from Q];exact zIJ _ _,by rw[show G=cnt sRet l from h2];exact zIJ _ _⟩
  rw[←ak.out.1,←ak.out.2]at hB;clear ah aw ae;by_cases K:repR l l=true∨z+G≠1
  ·have F:Hid (z9q j.data.toList i s k=(3,none)):=(by rw[hB.out,if_pos K];exact rfl);clear hB ak;cases aE:repR l l with
   |true=>
     clear K;go_wp2;go_ret2;exact⟨A.mono L,Or.inr ⟨3,F.out,rfl,rfl⟩⟩
   |false=>
     have aN:(((z:Int)+(G:Int)) != 1)=true:=by
      rw[aE]at K;have:z+G≠1:=(by rcases K with h|h;cases h;exact h);simp;omega
     have aQ:IntKind.i64.wrap ((z:Int)+(G:Int))=(z:Int)+(G:Int):=by
      have:=aH.out;exact z5A (by omega) (by omega)
     clear K;go_wp2;go_ret2;exact⟨A.mono L,Or.inr ⟨3,F.out,rfl,rfl⟩⟩
  ·have aE:repR l l=false:=(by cases h:repR l l with|true=>exact absurd (Or.inl h) K|false=>rfl);have aA:z+G=1:=Decidable.byContradiction fun h=>K (Or.inr h);have aN:(((z:Int)+(G:Int)) != 1)=false:=(by simp;omega);have aQ:IntKind.i64.wrap ((z:Int)+(G:Int))=(z:Int)+(G:Int):=z5A (by omega) (by omega);have av:Hid (z9q j.data.toList i s k=if z=1 then((zjv j.data.toList l i).1,(zjv j.data.toList l i).2.map (fun o=>i++[{ o with call:=k }]))
    else((zty j.data.toList l i).1,(zty j.data.toList l i).2.map (zQy i k))):=by
    rw[hB.out,if_neg K];exact rfl
   have ar:=ho.below A;have I:=zzF R (Kept.of_below (S:=[]) A) (by simp);clear hB ak K aH;by_cases hic:z=1
   ·have aP:((z:Int)==1)=true:=(by simp;omega);have B:Hid (z9q j.data.toList i s k=((zjv j.data.toList l i).1,(zjv j.data.toList l i).2.map (fun o=>i++[{ o with call:=k }]))):=(by rw[av.out,if_pos hic];exact rfl);clear av hic aA;go_wp2_with fail;refine(zsE j o N l oa Y i W4 an ar (by omega) (by omega) Z aI).mono ?_;rintro e E ⟨J,rfl⟩;have y:Below w.heap.size w E:=A.trans (J.mono aF);have x:=zzF I (Kept.of_below (S:=[]) J) (by simp);have ad:=y.size;rcases zIx j.data.toList l i with ⟨r,no,m,ab⟩|⟨r,m⟩
    ·rw[r,m];have F:Hid (z9q j.data.toList i s k=(0,some (i++[{ no with call:=k }]))):=(by rw[B.out,r,m];exact rfl);have aS:no.name.length≤8000000:=(by rw[ab];exact(zLS Z sOp).2.2);have aj:∀p∈i++[{ no with call:=k }],p.name.length≤8000000:=by
      intro p D;rcases List.mem_append.1 D with D|D
      ·exact am p D
      ·simp at D;subst D;exact aS
     clear B r m ab Z an R I ho ar J;obtain⟨o1,o2,o3,o4,o5,o6,o7,o8,o9,az⟩:=no;unfold zWb;simp only [Option.getD_some];obtain⟨i0,hi,aM,aO,aL⟩:=info_parts zSl;have aC:=zYv x;go_wp2_with (at_builtin;refine wpList_append_own _ rfl _ _ 30 rfl t 27 i0 _ 10 96 underlying30 hi aM aO aL rfl (by decide) _ _ _ rfl ((x.alloc _).alloc _) ⟨E.heap.size+1,0,none⟩ 1 1 (opvCells ⟨o1,o2,o3,o4,o5,o6,k,o8,o9,az⟩) rfl rfl ?c1 ?c2 ?c3 ?c4 ?c5 ?_)
     case c1=>
      simp[opvCells]
     case c2=>intro u hu;simp[opvCells]at hu;rcases hu with rfl|rfl|rfl|rfl|rfl|rfl|rfl|rfl|rfl|rfl<;>rfl
     case c3=>unfold maxLen;omega
     case c4=>omega
     case c5=>omega
     intro v6 w6 af au _;have aR:Below t w w6:=Below.grown (((y.alloc ad _).alloc (by simp;omega) _).mono L) au (by simp;omega) aC;rw[←z2L]at af;have ag:w6.ownsRow t 27 10 v6 (i++[(⟨o1,o2,o3,o4,o5,o6,k,o8,o9,az⟩:OpV)]).length (opsRow (i++[(⟨o1,o2,o3,o4,o5,o6,k,o8,o9,az⟩:OpV)])):=(by simpa using af);clear af au aC x;go_wp2;go_ret2;exact⟨aR,Or.inl ⟨_,v6,F.out,by simp,aj,ag,rfl⟩⟩
    ·rw[m];have F:Hid (z9q j.data.toList i s k=((zjv j.data.toList l i).1,none)):=(by rw[B.out,m];exact rfl);generalize (zjv j.data.toList l i).1=rr at*;have aB:(rr != 0)=true:=(by simpa using r);clear B m r;unfold zWb z1u;simp only [Option.getD_none];go_wp2;go_ret2;exact⟨(y.alloc ad _).mono L,Or.inr ⟨rr,F.out,aB,rfl⟩⟩
   ·have aP:((z:Int)==1)=false:=(by simp;omega);have B:Hid (z9q j.data.toList i s k=((zty j.data.toList l i).1,(zty j.data.toList l i).2.map (zQy i k))):=(by rw[av.out,if_neg hic];exact rfl);clear av hic aA;go_wp2_with fail;refine(zub j o N l oa Y i W4 an ar (by omega) (by omega) Z aI am).mono ?_;rintro e E ⟨J,at_,O,U,hq,rfl⟩;have y:Below w.heap.size w E:=A.trans (J.mono aF);have x:=zzF I (Kept.of_below (S:=[]) J) (by simp);have ad:=y.size;rcases z2m j.data.toList l i with ⟨r,⟨q,qk,qn⟩,m,ab⟩|⟨r,m⟩
    ·obtain⟨rfl,rfl,rfl⟩:=hq _ m;rw[r];have V:q<i.length:=ab;have F:Hid (z9q j.data.toList i s k=(0,some (i.set q (setRet i[q] k O U)))):=by
      rw[B.out,r,m];show(0,some (zQy i k (q,O,U)))=_;unfold zQy;rw[zC V]
     have aj:∀p∈i.set q (setRet i[q] k O U),p.name.length≤8000000:=by
      intro p D;rcases List.mem_or_eq_of_mem_set D with h|h
      ·exact am p h
      ·rw[h];exact am i[q] (List.getElem_mem V)
     obtain⟨g,rfl,aU,ax,a3⟩:∃g,oa=some ⟨g,0,none⟩∧i.length≤Y∧t≤g∧g<E.heap.size:=by
      rcases zzD x with ⟨_,h0⟩|⟨g,N,Q,h2,K,h4⟩
      ·omega
      ·injection Q with ha _ hc;exact⟨g,ha,by omega,K,h4⟩
     obtain⟨M,a0,P,V6⟩:∃W,E.alloc (.cells #[.int .i64 O,.int .i64 U] 25)=W∧Below E.heap.size E W∧vBlk W E.heap.size O U:=⟨_,rfl,zA _ _,ziF _ _ _ rfl⟩;have C:=zzF x (Kept.of_below (S:=[]) P) (by simp);have aX:=P.size;have ao:Below w.heap.size w M:=y.trans (P.mono ad);have H:∀c u,c<10→(opvCells i[q])[c]?=some u→M.cell? ⟨g,q*10+c,none⟩=some u:=fun c u hcc hu=>zDA C _ _ ((zvc i q V c hcc).trans hu);have q7:=H 7 _ (by omega) rfl;have q8:=H 8 _ (by omega) rfl;have q9:=H 9 _ (by omega) rfl;obtain⟨al,X⟩:∃al,M.heap[g]?=some (.cells al 27 (0,0)):=by
      rcases C.2 with ⟨Q,_⟩|⟨g',aV,al,Q,_,hg,_⟩
      ·cases Q
      ·simp at Q;rw[Q.1];exact⟨al,hg⟩
     have f7:M.frozen? ⟨g,q*10+7,none⟩=false:=zBn X _;have f8:M.frozen? ⟨g,q*10+8,none⟩=false:=zBn X _;have f9:M.frozen? ⟨g,q*10+9,none⟩=false:=zBn X _;have v0:M.cell? ⟨E.heap.size,0,none⟩=some (.int .i64 O):=(by rw[zBk V6];rfl);have v1:M.cell? ⟨E.heap.size,1,none⟩=some (.int .i64 U):=(by rw[zBk V6];rfl);have n2:E.heap.size≠g:=(by omega);have aY:(q:Int)<(i.length:Int):=(by omega);have aW:(opsRow i).length=i.length*10:=C.1;have ag:(((M.setCell ⟨g,q*10+7,none⟩ (.int .i64 k)).setCell ⟨g,q*10+8,none⟩ (.int .i64 O)).setCell ⟨g,q*10+9,none⟩ (.int .i64 U)).ownsRow t 27 10 (.slice (some ⟨g,0,none⟩) i.length Y) i.length (opsRow (i.set q (setRet i[q] k O U))):=by
      rw[zb0 i q V];exact zUj (zUj (zUj C (q*10+7) _ (by omega)) (q*10+8) _ (by simp;omega)) (q*10+9) _ (by simp;omega)
     have aK:Below t w (((M.setCell ⟨g,q*10+7,none⟩ (.int .i64 k)).setCell ⟨g,q*10+8,none⟩ (.int .i64 O)).setCell ⟨g,q*10+9,none⟩ (.int .i64 U)):=(((ao.mono L).setCell (p:=⟨g,q*10+7,none⟩) ax _).setCell (p:=⟨g,q*10+8,none⟩) ax _).setCell (p:=⟨g,q*10+9,none⟩) ax _;clear B r m ab hq Z an R I ho ar J H X V6 C x P ao y;dsimp only;go_wp2;go_ret2;exact⟨aK,Or.inl ⟨_,_,F.out,by simp,aj,by rw[List.length_set];exact ag,rfl⟩⟩
    ·have F:Hid (z9q j.data.toList i s k=((zty j.data.toList l i).1,none)):=(by rw[B.out,m];exact rfl);generalize (zty j.data.toList l i).1=rr at*;have aB:(rr != 0)=true:=(by simpa using r);clear B m r hq;go_wp2;go_ret2;exact⟨(y.alloc ad _).mono L,Or.inr ⟨rr,F.out,aB,rfl⟩⟩
 ·have F:Hid (z9q j.data.toList i s k=(2,none)):=by unfold z9q;rw[D];exact rfl
  clear D;go_wp2;go_ret2;exact⟨aq.mono L,Or.inr ⟨2,F.out,rfl,rfl⟩⟩
def zxw (model:List UInt8)(t:ByteArray)(w:World)(e:Ending)(w':World):Prop:=
 Below w.heap.size w w'∧((z3t model modTab=false∧e=.returned (.tuple #[.slice none 0 0,.int .i64 0,.int .i64 0,.int .i64 1]))∨
  (z3t model modTab=true∧((∃ops v,zvj model (linesP (lets t)) 0 []=.inl ops∧ops.length≤129∧w'.ownsRow w.heap.size 27 10 v ops.length (opsRow ops)∧e=.returned (.tuple #[v,.int .i64 0,.int .i64 0,.int .i64 0]))∨
   (∃l r,zvj model (linesP (lets t)) 0 []=.inr (l,r)∧e=.returned (.tuple #[.slice none 0 0,.int .i64 l,.int .i64 r,.int .i64 0])))))
theorem zYz1 {w:World}{d:Nat}{v:Value}{l:List (List UInt8)}(h:w.ownsRow d 9 1 v l.length (strCells l)):
 ∃oa b,v=.slice oa l.length b∧(l≠[]→∃g,oa=some ⟨g,0,none⟩∧g<w.heap.size∧∀j x,l[j]?=some x→w.cell? ⟨g,j,none⟩=some (.string ⟨x.toArray⟩)):=by
 rcases zzD h with ⟨rfl,a⟩|⟨g,b,rfl,_,_,e⟩
 ·exact⟨none,0,by rw[a],fun hne=>absurd (List.length_eq_zero_iff.1 a) hne⟩
 ·refine⟨_,_,rfl,fun _=>⟨g,rfl,e,?_⟩⟩;intro j x i;have:=h.cells (g:=g) rfl j (.string ⟨x.toArray⟩) (by simp[strCells,i]);by_cases a:j=0
  ·subst a;simpa [Addr.add]using this
  ·simpa [Addr.add,a]using this
theorem ze8 (t a:ByteArray)(w:World)(hm:Mods w)(P:10≤w.heap.size)(Y:t.size≤2000000)(Q:a.size≤2000000):
 Calls prog 5 #[.string t,.string a] w fun e w'=>zxw a.data.toList t w e w':=by
 go_enter func5,ntmps5;go_wp2_with fail;refine(zJJ a _ hm P).mono ?_;rintro e w0 ⟨rfl,G⟩;have H:=G.symm;clear G;subst H;rw[zYW];cases hkn:z3t a.data.toList modTab with
 |false=>
   have u:Hid (z3t a.data.toList modTab=false):=hkn;clear hkn;go_wp2;exact bodyPost_ret (v:=.tuple #[.slice none 0 0,.int .i64 0,.int .i64 0,.int .i64 1]) (by simp[results,results5,go_sem]) rfl ⟨zD,Or.inl ⟨u.out,rfl⟩⟩
 |true=>
   have u:Hid (z3t a.data.toList modTab=true):=hkn;clear hkn;go_wp2_with fail;refine(z7F t _ Y).mono ?_;rintro e C ⟨o,v1,af,R,n,rfl⟩;obtain⟨oa,F,rfl,K⟩:=zYz1 n;have y:=o.size;clear n;generalize hL:linesP (lets t)=L at*;go_wp2;go_loopw [9,11] (fun v i wr=>∃(k:Nat) (b:List OpV),i=.int .i64 (k:Int)∧k≤L.length∧k≤128∧b.length≤k∧(∀p∈b,p.name.length≤8000000)∧zvj a.data.toList (L.drop k) k b=zvj a.data.toList L 0 []∧wr.ownsRow C.heap.size 27 10 v b.length (opsRow b)∧Below C.heap.size C wr) (fun _ i _=>L.length-(intOf i).toNat)
   case atStart=>exact⟨0,[],rfl,by omega,by omega,by simp,by simp,rfl,World.ownsRow_nil _ _ _ _,zD⟩
   case round=>
    obtain⟨k,b,rfl,aj,aa,ad,s,O,d,j⟩:=hrel;have hR:Hid (zvj a.data.toList (L.drop k) k b=zvj a.data.toList L 0 []):=O;clear O;have ah:=j.size;by_cases hin:k<L.length
    ·have N:(k:Int)<(L.length:Int):=(by omega);obtain⟨g,rfl,U,hc⟩:=K (by intro h;rw[h]at hin;simp at hin);have ab:=(j.cell (p:=⟨g,k,none⟩) U).trans (hc k _ (zC hin));have ai:=R _ (List.getElem_mem hin);have B:Hid (L.drop k=L[k]::L.drop (k+1)):=List.drop_eq_getElem_cons hin;generalize L[k]=x at*;have ag:(0:Int)≤(k:Int)+1:=(by omega);have S:IntKind.i64.wrap ((k:Int)+1)=(k:Int)+1:=z5A (by omega) (by omega);by_cases h128:k=128
     ·have hE:Hid (zvj a.data.toList L 0 []=.inr ((k:Int)+1,1)):=by
       rw[←hR.out,B.out,zvj,if_pos (by omega)];exact rfl
      obtain⟨X,W,rfl⟩:=zIW d;have I:(128:Int)<(k:Int)+1:=(by omega);clear hR B h128;go_wp2_with fail;refine(z6x a ⟨x.toArray⟩ ((k:Int)+1) I X b.length W _).mono ?_;rintro e V ⟨E,rfl⟩;have J:=E.symm;clear E;subst J;go_wp2;exact bodyPost_ret (v:=.tuple #[.slice none 0 0,.int .i64 ((k:Int)+1),.int .i64 1,.int .i64 0]) (by simp[results,results5,go_sem]) rfl ⟨o.trans (j.mono y),Or.inr ⟨u.out,Or.inr ⟨_,_,by rw[hL];exact hE.out,rfl⟩⟩⟩
     ·have A:Hid (zvj a.data.toList L 0 []=(match z9q a.data.toList b ⟨x.toArray⟩ ((k:Int)+1)with
       |(e,none)=>.inr ((k:Int)+1,e)
       |(_,some l)=>zvj a.data.toList (L.drop (k+1)) (k+1) l)):=by
       rw[←hR.out,B.out,zvj,if_neg (by omega)];exact rfl
      clear hR B;go_wp2_with fail;refine(zJ7 a ⟨x.toArray⟩ ((k:Int)+1) C.heap.size _ b wr d j.size (by omega) (by omega) (by show x.toArray.size≤_;simp;omega) Q s).mono ?_;rintro e V ⟨D,⟨l,v',m,Z,M,z,rfl⟩|⟨r,m,ae,rfl⟩⟩
      ·have q:Hid (zvj a.data.toList (L.drop (k+1)) (k+1) l=zvj a.data.toList L 0 []):=(by rw[A.out,m];exact rfl);clear A m d s;go_wp2;go_roundw
       case rel=>exact⟨k+1,l,by go_num,by omega,by omega,by omega,M,q.out,z,j.trans D⟩
       case measure=>simp[intOf];omega
      ·have q:Hid (zvj a.data.toList L 0 []=.inr ((k:Int)+1,r)):=(by rw[A.out,m];exact rfl);clear A m d s;go_wp2;exact bodyPost_ret (v:=.tuple #[.slice none 0 0,.int .i64 ((k:Int)+1),.int .i64 r,.int .i64 0]) (by simp[results,results5,go_sem]) rfl ⟨o.trans ((j.trans D).mono y),Or.inr ⟨u.out,Or.inr ⟨_,_,by rw[hL];exact q.out,rfl⟩⟩⟩
    ·have N:¬(k:Int)<(L.length:Int):=(by omega);have q:Hid (zvj a.data.toList L 0 []=.inl b):=(by rw[←hR.out,List.drop_eq_nil_of_le (by omega),zvj];exact rfl);clear hR;go_wp2;refine bodyPost_ret (v:=.tuple #[_,.int .i64 0,.int .i64 0,.int .i64 0]) (by simp[results,results5,go_sem];rfl) rfl ⟨o.trans (j.mono y),Or.inr ⟨u.out,Or.inl ⟨b,_,by rw[hL];exact q.out,by omega,⟨d.1,?_⟩,rfl⟩⟩⟩;rcases d.2 with h|⟨g,F,cur,h1,hbg,r⟩
     ·exact .inl h
     ·exact .inr ⟨g,F,cur,h1,by omega,r⟩
theorem zEo (D G:Value)(Y X:Nat)(j:List OpV)(w:World)(A:w.ownsRow Y 27 10 D j.length (opsRow j))(O:w.ownsRow X 27 10 G j.length (opsRow j))(hl:j.length≤900):
 Calls Tryz.prog 6 #[D,G] w fun e w'=>Below w.heap.size w w'∧e=.returned (.bool true):=by
 obtain⟨oa,W,rfl,m⟩:=zsL A;obtain⟨ob,V,rfl,o⟩:=zsL O;clear A O;go_enter Tryz.func6,Tryz.ntmps6;go_wp2;go_loopw [5] (fun i wr=>∃(k:Nat),i=.int .i64 (k:Int)∧k≤j.length∧Below w.heap.size w wr) (fun i _=>j.length-(intOf i).toNat)
 case atStart=>exact⟨0,rfl,by omega,zD⟩
 case round=>
  obtain⟨k,rfl,hk,l⟩:=hrel;by_cases hin:k<j.length
  ·have s:(k:Int)<(j.length:Int):=(by omega);have n:j≠[]:=(by intro h;rw[h]at hin;simp at hin);obtain⟨g,rfl,hg,Q⟩:=(m.below l) n;obtain⟨U,rfl,aa,p⟩:=(o.below l) n;have d:∀c u,c<10→(opvCells j[k])[c]?=some u→wr.cell? ⟨g,k*10+c,none⟩=some u:=fun c u hcc hu=>Q _ _ ((zvc j k hin c hcc).trans hu);have b:∀c u,c<10→(opvCells j[k])[c]?=some u→wr.cell? ⟨U,k*10+c,none⟩=some u:=fun c u hcc hu=>p _ _ ((zvc j k hin c hcc).trans hu);have r:=d 0 _ (by omega) rfl;have C:=d 1 _ (by omega) rfl;have R:=d 2 _ (by omega) rfl;have L:=d 3 _ (by omega) rfl;have v:=d 4 _ (by omega) rfl;have J:=d 5 _ (by omega) rfl;have I:=d 6 _ (by omega) rfl;have P:=d 7 _ (by omega) rfl;have y:=d 8 _ (by omega) rfl;have M:=d 9 _ (by omega) rfl;have q:=b 0 _ (by omega) rfl;have B:=b 1 _ (by omega) rfl;have E:=b 2 _ (by omega) rfl;have N:=b 3 _ (by omega) rfl;have H:=b 4 _ (by omega) rfl;have t:=b 5 _ (by omega) rfl;have x:=b 6 _ (by omega) rfl;have S:=b 7 _ (by omega) rfl;have F:=b 8 _ (by omega) rfl;have K:=b 9 _ (by omega) rfl;rw[Nat.add_zero]at r q;clear d b Q p m o;generalize j[k]=z at*;obtain⟨o1,o2,o3,o4,o5,o6,o7,o8,o9,Z⟩:=z;simp only at r C R L v J I P y M q B E N H t x S F K;go_wp2;go_cut [25] (fun a wx=>a=.bool false∧wx=wr.drew)
   case first=>
    go_region
    all_goals
     go_wp2_with fail;go_meet;exact⟨rfl,rfl⟩
   case rest=>
    obtain⟨rfl,rfl⟩:=hcut;clear r C R L v J I P y M q B E N H t x S F K;go_wp2;go_roundw
    case rel=>exact⟨k+1,by go_num,by omega,l.drew⟩
    case measure=>simp[intOf];omega
  ·have s:¬(k:Int)<(j.length:Int):=(by omega);go_wp2;go_ret;exact⟨l,rfl⟩
theorem zzs (t:ByteArray):lets t=nats t.data.toList:=rfl
end Go.Proofs.YtoeoinpaidhmcaaGreatDoor
namespace Go.Proofs.YtoeoinpaidhmcaaGreatDoor.jd
open Go.RowKit
open srch (vAg opAg tI OAt zOu idsT sRej)
def sUnk:List UInt8:=[85,78,75,78,79,87,78,10]
def sOrdJ:List UInt8:=[79,75,32,111,114,100,101,114,61]
def zRS:List UInt8:=[73,76,76,69,71,65,76,32,112,97,114,116,61]
def z5z:List UInt8:=[32,108,111,110,103,101,115,116,61]
theorem zOe (m:List UInt8)(d:lone3 m)(k:List UInt8)(b:Option Addr)(h g:Nat)(w:World):
 Calls Tryz.prog 41 #[.string ⟨m.toArray⟩,.agg #[.string ⟨k.toArray⟩,.slice b h g]] w fun e w'=>e=.returned (.string ⟨#[45]⟩)∧Below w.heap.size w w':=by
 have a:=fun w=>zYt m d w;go_enter Tryz.func41,Tryz.ntmps41;go_wp2_with fail;refine(a _).mono ?_;rintro e i ⟨rfl,rfl⟩;go_wp2_with fail;go_ret;exact⟨rfl,zA _ _⟩
theorem zGf {w:World}{d:Nat}{a:Option Addr}{c:Nat}{b:List OpV}(h:w.ownsRow d 27 10 (.slice a b.length c) b.length (opsRow b)):OAt w a b:=by
 intro i;rcases zzD h with ⟨_,e⟩|⟨g,l,e,_,m,k⟩
 ·exact absurd (List.length_eq_zero_iff.1 e) i
 ·injection e with e;subst e;exact⟨g,rfl,k,fun j u hj=>by have:=h.cells (g:=g) rfl j u hj;rw[Addr.add_lit,Nat.zero_add]at this;exact this⟩
end Go.Proofs.YtoeoinpaidhmcaaGreatDoor.jd
