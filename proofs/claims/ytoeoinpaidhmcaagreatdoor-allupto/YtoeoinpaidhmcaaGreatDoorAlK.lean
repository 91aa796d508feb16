/- One text. -/
import Derived.Test.YtoeoinpaidhmcaaGreatDoorAlH2
import Derived.Test.YtoeoinpaidhmcaaGreatDoorAlI
import Derived.Test.YtoeoinpaidhmcaaGreatDoorJeE
namespace Go.Proofs.YtoeoinpaidhmcaaGreatDoor.jd
open Tryz
open Go.RowKit
open srch (vAg opAg OAt zUq zOu Pow)
structure ScO where
 kd:Int
 n:Int
 s:List UInt8
 m:List UInt8
 o:OpV
def scC (x:ScO):List Value:=[.int .i64 x.kd,.int .i64 x.n,.string ⟨x.s.toArray⟩,.string ⟨x.m.toArray⟩]++opvCells x.o
structure ScOk (x:ScO):Prop where
 s:x.s.length≤2000000
 m:x.m.length≤2000000
 nm:x.o.name.length≤2000000
 n:wf64 x.n
 arg:wf64 x.o.arg
 exp:wf64 x.o.exp
 cl:wf64 x.o.cl
theorem zlJ (t m:List UInt8)(w:World)(z:Glob w)(E:Mods w)(A:t.length≤2000000)(B:m.length≤2000000):
 Calls prog 4 #[.string ⟨t.toArray⟩,.string ⟨m.toArray⟩] w fun e w'=>∃v a l r x,e=.returned (.tuple #[v,.int .i64 l,.int .i64 r,.int .i64 x])∧Below w.heap.size w w'∧a.length≤128∧w'.ownsRow w.heap.size 27 10 v a.length (opsRow a)∧
  Calls prog 5 #[.string ⟨t.toArray⟩,.string ⟨m.toArray⟩] w' fun e k=>∃n,e=.returned (.tuple #[n,.int .i64 l,.int .i64 r,.int .i64 x])∧Below w'.heap.size w' k∧k.ownsRow w'.heap.size 27 10 n a.length (opsRow a):=by
 have q:=z.errs.lt;refine(zjT ⟨t.toArray⟩ ⟨m.toArray⟩ w z (by show t.toArray.size≤_;simpa using A)).mono ?_;rintro e G ⟨h,H⟩;have hR:=ze8 ⟨t.toArray⟩ ⟨m.toArray⟩ G (E.below (h.mono q)) (Nat.le_trans q h.size) (by show t.toArray.size≤_;simpa using A) (by show m.toArray.size≤_;simpa using B);rcases H with ⟨j,rfl⟩|⟨j,⟨a,v,s,C,y,rfl⟩|⟨l,r,s,rfl⟩⟩
 ·refine⟨_,[],0,0,1,rfl,h,by simp,World.ownsRow_nil _ _ _ _,hR.mono ?_⟩;rintro e k ⟨g,⟨_,rfl⟩|⟨d,_⟩⟩
  ·exact⟨_,rfl,g,World.ownsRow_nil _ _ _ _⟩
  ·rw[zrg,j]at d;cases d
 ·refine⟨v,a,0,0,0,rfl,h,C,y,hR.mono ?_⟩;have b:=s;rw[zyfu j]at b;rintro e k ⟨g,⟨d,_⟩|⟨_,⟨o,n,i,_,p,rfl⟩|⟨F,D,i,_⟩⟩⟩
  ·rw[zrg,j]at d;cases d
  ·obtain rfl:o=a:=(by have:=i.symm.trans b;injection this);exact⟨n,rfl,g,p⟩
  ·have:=i.symm.trans b;cases this
 ·refine⟨_,[],l,r,0,rfl,h,by simp,World.ownsRow_nil _ _ _ _,hR.mono ?_⟩;have b:=s;rw[zyfu j]at b;rintro e k ⟨g,⟨d,_⟩|⟨_,⟨o,n,i,_,_,_⟩|⟨F,D,i,rfl⟩⟩⟩
  ·rw[zrg,j]at d;cases d
  ·have:=i.symm.trans b;cases this
  ·have u:=i.symm.trans b;injection u with u;injection u with h5 h6;subst h5 h6;exact⟨_,rfl,g,World.ownsRow_nil _ _ _ _⟩
structure HL (B:Nat)(W:World)(a:Option Addr)(c:Nat)(L:List Nat):Prop where
 row:W.ownsRow B 36 1 (.slice a L.length c) L.length (L.map fun b=>Value.pointer (some ⟨b,0,none⟩))
 at_:∀i (h:i<L.length),HeldAt W L[i] (mkO i)
theorem HL.below {B:Nat}{W W':World}{a:Option Addr}{c:Nat}{L:List Nat}(h:HL B W a c L)(k:Below W.heap.size W W'):HL B W' a c L:=
 ⟨srch.owns_same h.row (fun g hg=>k.block g (h.row.lt g hg).2),fun i hi=>(h.at_ i hi).below k⟩
theorem zeS:(prog.info? 36).map (fun i=>(i.zero,i.size,i.bytes))=some (some (.pointer none),1,8):=by kernel_rfl
abbrev scB (x:ScO):Array Value:=#[.int .i64 x.kd,.int .i64 x.n,.string ⟨x.s.toArray⟩,.string ⟨x.m.toArray⟩,.int .i64 x.o.id,.int .i64 x.o.cl,.string ⟨x.o.name.toArray⟩,.string ⟨x.o.key.toArray⟩,.int .i64 x.o.arg,.int .i64 x.o.exp,.int .i64 x.o.call,.int .i64 x.o.ret,.int .i64 x.o.vk,.int .i64 x.o.vn]
theorem z37 {W:World}{b:Nat}{x:ScO}(h:W.heap[b]?=some (.cells (scB x) 29 (0,0))):W.cell? ⟨b,0,none⟩=some (.int .i64 x.kd)∧W.cell? ⟨b,1,none⟩=some (.int .i64 x.n)∧W.cell? ⟨b,2,none⟩=some (.string ⟨x.s.toArray⟩)∧W.cell? ⟨b,3,none⟩=some (.string ⟨x.m.toArray⟩)∧W.cell? ⟨b,4,none⟩=some (.int .i64 x.o.id)∧W.cell? ⟨b,5,none⟩=some (.int .i64 x.o.cl)∧W.cell? ⟨b,6,none⟩=some (.string ⟨x.o.name.toArray⟩)∧W.cell? ⟨b,7,none⟩=some (.string ⟨x.o.key.toArray⟩)∧W.cell? ⟨b,8,none⟩=some (.int .i64 x.o.arg)∧W.cell? ⟨b,9,none⟩=some (.int .i64 x.o.exp)∧W.cell? ⟨b,10,none⟩=some (.int .i64 x.o.call)∧W.cell? ⟨b,11,none⟩=some (.int .i64 x.o.ret)∧W.cell? ⟨b,12,none⟩=some (.int .i64 x.o.vk)∧W.cell? ⟨b,13,none⟩=some (.int .i64 x.o.vn):=
 ⟨zBk h 0,zBk h 1,zBk h 2,zBk h 3,zBk h 4,zBk h 5,zBk h 6,zBk h 7,zBk h 8,zBk h 9,zBk h 10,zBk h 11,zBk h 12,zBk h 13⟩
theorem HeldAt.kept {W W':World}{a n:Nat}{v:Value}{i:List Value}(h:W.ownsRow a 36 1 v n i)(d:Kept v.ownBlock.toList W W'){b:Nat}{o:OpV}(r:HeldAt W b o):HeldAt W' b o:=by
 obtain⟨u,t,q,s,m,k,p,l⟩:=r;have e:∀(g:Nat) (cur:Array Value),W.heap[g]?=some (.cells cur 27 (0,0))→W'.heap[g]?=W.heap[g]?:=fun g cur hg=>(zC2 h d hg (by decide)).trans hg.symm;exact⟨u,t,q,s,zC2 h d m (by decide),k.same e,zC2 h d p (by decide),fun j hj=>(l j hj).imp (fun y hy=>⟨hy.1,hy.2.same e⟩)⟩
theorem HL.snoc {B:Nat}{W W':World}{a a':Option Addr}{c c' b:Nat}{L:List Nat}(h:HL B W a c L)(d:Kept (Value.slice a L.length c).ownBlock.toList W W')(j:W'.ownsRow B 36 1 (.slice a' (L.length+1) c') (L.length+1) ((L.map fun b=>Value.pointer (some ⟨b,0,none⟩))++[.pointer (some ⟨b,0,none⟩)]))(g:HeldAt W b (mkO L.length)):HL B W' a' c' (L++[b]):=by
 refine⟨by simpa using j,fun i hi=>?_⟩;by_cases e:i<L.length
 ·rw[List.getElem_append_left e];exact(h.at_ i e).kept h.row d
 ·obtain rfl:i=L.length:=by simp at hi;omega
  rw[List.getElem_append_right zH];simpa using g.kept h.row d
set_option maxHeartbeats 8000000 in
set_option maxRecDepth 100000 in
theorem all_law (sv:Value) (b:List ScO) (w:World) (hg:Glob w) (hp:Pow w) (aj:Mods w)
 (aN:∃oa az,sv=.slice oa b.length az∧(b≠[]→∃g J,oa=some ⟨g,J,none⟩∧g<w.heap.size∧∀j (h:j<b.length) c u,(scC b[j])[c]?=some u→w.cell? ⟨g,J+j*14+c,none⟩=some u)) (aV:b.length≤1100000) (av:∀x∈b,ScOk x):
 Calls prog 3 #[sv] w fun e w'=>Below w.heap.size w w'∧e=.returned (.bool true):=by
 obtain⟨oa,az,rfl,S⟩:=aN;have ay:=hg.errs.lt;have HC:Hid _:=S;have HO:Hid _:=av;have H:Hid (∀W,Below w.heap.size w W→Glob W∧Pow W∧Mods W):=fun W h=>⟨hg.below (h.mono ay),hp.stays h,aj.below (h.mono ay)⟩;clear S av hg hp aj;go_enter func3,ntmps3;go_wp2_with fail;go_loopw [3,4] (fun hv i wr=>∃(k:Nat) (K:Option Addr) (O:Nat) (L:List Nat),hv=.slice K L.length O∧i=.int .i64 (k:Int)∧k≤b.length∧L.length≤k∧Hid (HL w.heap.size wr K O L)∧Hid (Below w.heap.size w wr)) (fun _ i _=>b.length-(intOf i).toNat)
 case atStart=>exact⟨0,none,0,[],rfl,rfl,by omega,by simp,⟨World.ownsRow_nil _ _ _ _,fun i hi=>by simp at hi⟩,zD⟩
 case round=>
  obtain⟨k,K,O,L,rfl,rfl,hk,a0,hH,F⟩:=hrel;by_cases hin:k<b.length
  ·have aM:(k:Int)<(b.length:Int):=(by omega);obtain⟨g,J,rfl,aR,R⟩:=HC.out (by intro h;rw[h]at hin;simp at hin);have d:∀c u,(scC b[k])[c]?=some u→wr.cell? ⟨g,J+k*14+c,none⟩=some u:=fun c u hu=>(F.out.cell (p:=⟨g,J+k*14+c,none⟩) aR).trans (R k hin c u hu);have hx:=HO.out b[k] (List.getElem_mem hin);obtain⟨x,aD⟩:∃x,x=b[k]:=⟨_,rfl⟩;rw[←aD]at hx d;have q0:=d 0 _ rfl;have q1:=d 1 _ rfl;have q2:=d 2 _ rfl;have q3:=d 3 _ rfl;have q4:=d 4 _ rfl;have q5:=d 5 _ rfl;have q6:=d 6 _ rfl;have q7:=d 7 _ rfl;have q8:=d 8 _ rfl;have q9:=d 9 _ rfl;have aO:=d 10 _ rfl;have aU:=d 11 _ rfl;have aQ:=d 12 _ rfl;have aP:=d 13 _ rfl;rw[Nat.add_zero]at q0;have A:Hid _:=hx;clear d R aD hx;go_upto_region 6 with fail;obtain⟨t,aK,al,an⟩:∃t,t=wr.alloc (.cells (scB x) 29)∧Below wr.heap.size wr t∧t.heap[wr.heap.size]?=some (.cells (scB x) 29 (0,0)):=⟨_,rfl,zA _ _,ziF _ _ _ rfl⟩;rw[←aK];have a:Hid (Below w.heap.size w t):=F.out.trans (al.mono F.out.size);have G:Hid (HL w.heap.size t K O L):=hH.out.below al;clear aK al q0 q1 q2 q3 q4 q5 q6 q7 q8 q9 aO aU aQ aP hH F;obtain⟨c0,c1,c2,c3,c4,c5,c6,c7,c8,c9,Z,Y,aa,X⟩:=z37 an;have M:=zBq an;generalize wr.heap.size=bo at*;go_upto_block 2 with fail;go_cut [3,6] (fun hv ok wx=>∃(ab:Option Addr) (V:Nat) (z:List Nat),hv=.slice ab z.length V∧ok=.bool true∧z.length≤k+1∧Hid (HL w.heap.size wx ab V z)∧Hid (Below w.heap.size w wx))
   case first=>
    by_cases k1:x.kd=1
    ·have e1:(x.kd==1)=true:=(by simpa using k1);have aE:=zlJ x.s x.m t (H.out t a.out).1 (H.out t a.out).2.2 A.out.s A.out.m;clear k1;go_wp2_with fail;refine aE.mono ?_;rintro e w2 ⟨v,aJ,l,r,xx,rfl,q,a1,P,aL⟩;have d2:w2.cell? ⟨bo,2,none⟩=some (.string ⟨x.s.toArray⟩):=(q.cell (p:=⟨bo,2,none⟩) M).trans c2;have d3:w2.cell? ⟨bo,3,none⟩=some (.string ⟨x.m.toArray⟩):=(q.cell (p:=⟨bo,3,none⟩) M).trans c3;obtain⟨va,vc,rfl⟩:=zIW P;have ag:Hid _:=P;clear aE P c0 c1 c2 c3 c4 c5 c6 c7 c8 c9 Z Y aa X;go_wp2_with fail;refine aL.mono ?_;rintro e w3 ⟨v2,rfl,B,E⟩;obtain⟨a2,aX,rfl⟩:=zIW E;have D:=srch.owns_same ag.out (fun g' hg'=>B.block g' (World.ownsRow.lt ag.out g' hg').2);have aw:=zEo _ _ _ _ aJ w3 D E (by omega);have N:Hid _:=D;clear aL E D d2 d3;go_wp2_with fail;refine aw.mono ?_;rintro e w4 ⟨ao,rfl⟩;have U:=srch.owns_same N.out (fun g' hg'=>ao.block g' (World.ownsRow.lt N.out g' hg').2);have Q:Below t.heap.size t w4:=q.trans ((B.trans (ao.mono B.size)).mono q.size);have aI:=zQ1 _ aJ L.length t.heap.size w4 U (by omega) (by omega) Q.size;have af:Hid _:=Q;clear aw U q B ao Q ag N;go_wp2_with fail;refine aI.mono ?_;rintro e w5 ⟨rfl,aH,au⟩;have C:=af.out.trans au;have ae:=G.out.below C;have aF:w.heap.size≤w5.heap.size:=Nat.le_trans a.out.size C.size;obtain⟨a6,aA,w6,aS,ar,am,_⟩:=zUq zeS underlying23 rfl (by decide) (by decide) (cells:=[Value.pointer (some ⟨w4.heap.size,0,none⟩)]) rfl rfl ae.row (by omega) aF;have HF:Hid (HL w.heap.size w6 a6 aA (L++[w4.heap.size])∧Below w.heap.size w w6):=⟨ae.snoc am ar aH,(a.out.trans (C.mono a.out.size)).trans (am.below aF (fun g' hg'=>zYv ae.row g' (by simpa using hg')))⟩;clear aI aH au C ae ar am af;go_wp2_with (at_builtin;refine zOu rfl _ _ 23 rfl _ _ _ _ rfl rfl aS ?_);go_meet
     case rel=>exact⟨a6,aA,L++[w4.heap.size],by simp,rfl,by simp;omega,HF.out.1,HF.out.2⟩
    ·have e1:(x.kd==1)=false:=(by simpa using k1);by_cases y:x.kd=2
     ·have e2:(x.kd==2)=true:=(by simpa using y);have ah:=z6W x.m x.s x.o t (by have:=A.out.m;omega) (by have:=A.out.s;omega) (by have:=A.out.nm;omega) A.out.arg A.out.exp A.out.cl (H.out t a.out).1 (H.out t a.out).2.1 (H.out t a.out).2.2;unfold opAg at ah;clear k1 y;go_wp2_with fail;refine ah.mono ?_;rintro e w2 ⟨rfl,q⟩;clear ah c0 c1 c2 c3 c4 c5 c6 c7 c8 c9 Z Y aa X;go_wp2_with fail;go_meet
      case rel=>exact⟨K,O,L,rfl,rfl,by omega,(G.out.below q),(a.out.trans (q.mono a.out.size))⟩
     ·have e2:(x.kd==2)=false:=(by simpa using y);by_cases k3:x.kd=3
      ·have e3:(x.kd==3)=true:=(by simpa using k3);have aB:=z1E x.s x.m x.n A.out.n t (H.out t a.out).1 (H.out t a.out).2.1 (H.out t a.out).2.2 A.out.s A.out.m;clear k1 y k3;go_wp2_with fail;refine aB.mono ?_;rintro e w2 ⟨q,rfl⟩;clear aB c0 c1 c2 c3 c4 c5 c6 c7 c8 c9 Z Y aa X;go_wp2_with fail;go_meet
       case rel=>exact⟨K,O,L,rfl,rfl,by omega,(G.out.below q),(a.out.trans (q.mono a.out.size))⟩
      ·have e3:(x.kd==3)=false:=(by simpa using k3);clear k1 y k3;go_wp2_with fail;go_meet
       case rel=>exact⟨K,O,L,rfl,rfl,by omega,G,a⟩
   case rest=>
    obtain⟨ab,V,z,rfl,rfl,aW,ak,q⟩:=hcut;clear G a an M c0 c1 c2 c3 c4 c5 c6 c7 c8 c9 Z Y aa X;go_wp2_with fail;go_loopw [6,16] (fun ok i wy=>∃(y:Nat),ok=.bool true∧i=.int .i64 (y:Int)∧y≤z.length∧Hid (Below wc.heap.size wc wy)) (fun _ i _=>z.length-(intOf i).toNat)
    case atStart=>exact⟨0,rfl,rfl,by omega,zD⟩
    case round=>
     rename_i wy _;obtain⟨y,rfl,rfl,aZ,I⟩:=hrel;by_cases hin2:y<z.length
     ·have aq:(y:Int)<(z.length:Int):=(by omega);have ad:=ak.out.below I.out;obtain⟨_,⟨_,e0⟩|⟨gh,cp,aY,e,_,aT,_⟩⟩:=id ad.row
      ·omega
      ·injection e with e1 _ e3;subst e1 e3;have aC:=ad.row.cells (g:=gh) rfl y (.pointer (some ⟨z[y],0,none⟩)) (by rw[List.getElem?_map,zC hin2];rfl);rw[Addr.add_lit,Nat.zero_add]at aC;have ax:=zud _ _ _ (ad.at_ y hin2);generalize z[y]=bk at*;clear ad aT;go_wp2_with fail;refine ax.mono ?_;rintro e w3 ⟨B,rfl⟩;have ai:Hid (Below wc.heap.size wc w3):=I.out.trans (B.mono I.out.size);clear ax aC B;go_wp2_with fail;go_roundw
       case rel=>exact⟨y+1,rfl,by go_num,by omega,ai⟩
       case measure=>simp[intOf];omega
     ·have aq:¬(y:Int)<(z.length:Int):=(by omega);have HF:Hid _:=ak.out.below I.out;have ai:Hid _:=q.out.trans (I.out.mono q.out.size);clear ak q;go_wp2_with fail;go_roundw
      case rel=>exact⟨k+1,ab,V,z,rfl,by go_num,by omega,by omega,HF,ai⟩
      case measure=>simp[intOf];omega
  ·have aM:¬(k:Int)<(b.length:Int):=(by omega);go_wp2_with fail;go_ret;exact⟨F.out,rfl⟩
end Go.Proofs.YtoeoinpaidhmcaaGreatDoor.jd
