/- Several texts in one. -/
import Derived.Test.YtbbkihekjdffpaaGreatDoorJeA0
import Derived.Deep.CutBlock
import Derived.Sort.Walk0
set_option maxHeartbeats 8000000
set_option maxRecDepth 100000
namespace Go.Proofs.YtbbkihekjdffpaaGreatDoor.jd
open Tryz
open Go.RowKit
open srch (vAg opAg tI OAt zOu idsT flt zD5)
theorem zij (W:World)(base:Nat)(a:Option Addr)(n c:Nat)(xs:List Value)(s:Int)(h:W.ownsRow base 3 1 (.slice a n c) n xs)(hn:n≤3000000)(hb:base≤W.heap.size):
 ∃a' c' w',(Builtin.append_ #[43,43] 43 #[.slice a n c,.slice (some ⟨W.heap.size,0,none⟩) 1 1]).run prog (W.alloc (.cells #[.int .i64 s] 3))=.ok (.slice a' (n+1) c') w'∧w'.ownsRow base 3 1 (.slice a' (n+1) c') (n+1) (xs++[.int .i64 s])∧Kept (Value.slice a n c).ownBlock.toList W w'∧∀q,a'=some q→(Value.slice a n c).ownBlock=some q.block∨W.heap.size≤q.block:=by
 obtain⟨i0,hi0',hz0,hz1,hz2⟩:=info_parts zRi;obtain⟨v7,w7,h1,h2,h3,_,h5⟩:=run_append_own_at (P:=prog) (W.alloc (.cells ([.int .i64 s]:List Value).toArray 3)) base 43 43 3 i0 _ 1 8 underlying43 hi0' hz0 hz1 hz2 rfl (by decide) (.slice a n c) n xs (h.alloc _) ⟨W.heap.size,0,none⟩ 1 1 [.int .i64 s] rfl (z9R W _ _) (by intro u hu;simp at hu;subst hu;rfl) (by unfold maxLen;omega) (by omega) (by simp;omega);obtain⟨a',c',rfl⟩:=zIW h2;refine⟨a',c',w7,h1,h2,((Kept.refl _ W).alloc _).grownS h3 (fun g' hg'=>by rw[hg'];simp),?_⟩;rintro q rfl;rcases h5 with e|e
 ·exact .inl e.symm
 ·injection e with e;right;rw[e];simp
theorem z8O (m:List UInt8)(hm:five m)(oa:Option Addr)(oc:Nat)(ops:List OpV)(hol:ops.length≤1000)(hno:lone3 m→∀o∈ops,o.key=[]):zN8 m oa oc ops (zQk m ops):=by
 intro w ho;have hm2:¬(m=sKv∨m=sSet)→lone3 m:=fun h=>by
  rcases hm with h1|h1|h1|h1|h1
  ·exact .inl h1
  ·exact absurd (.inl h1) h
  ·exact .inr (.inl h1)
  ·exact absurd (.inr h1) h
  ·exact .inr (.inr h1)
 obtain⟨K0,hK0⟩:∃K0:List (List UInt8),(if m=sKv∨m=sSet then []else [[]])=K0:=⟨_,rfl⟩;obtain⟨kb,hkb⟩:∃kb,decide (m=sKv∨m=sSet)=kb:=⟨_,rfl⟩;have hky:∀w,Calls prog 32 #[.string ⟨m.toArray⟩] w fun e w'=>e=.returned (.bool kb)∧w'=w:=fun w=>by
  by_cases c:m=sKv∨m=sSet
  ·rw[←hkb,decide_eq_true c];exact zeg m c w
  ·rw[←hkb,decide_eq_false c];exact zYt m (hm2 c) w
 have HK0:Hid ((kb=true→K0=[])∧(kb=false→K0=[[]])):=by
  rw[←hkb,←hK0];constructor
  ·intro h;exact if_pos (of_decide_eq_true h)
  ·intro h;exact if_neg (of_decide_eq_false h)
 have HEND:Hid (∀L,KeyD ops ops.length K0 L→L.map (·.key)=zQk m ops∧∀x∈L,x.pl=plK ops x.key):=fun L h=>by
  rw[←hK0]at h;exact h.ends (fun c=>hno (hm2 c))
 clear hK0 hkb hm2 hno;obtain⟨a0,c0,w0,hap,own0,hk0⟩:=zaZ w w.heap.size none 0 0 [] [] none 0 0 (World.ownsRow_nil _ _ _ _) (by omega) zG;have hb0:Below w.heap.size w w0:=hk0.below zG (by simp[Value.ownBlock]);have HO0:Hid (w0.ownsRow w.heap.size 45 2 (.slice a0 1 c0) 1 [.string ⟨#[]⟩,.slice none 0 0]∧Below w.heap.size w w0):=⟨own0,hb0⟩;have hap':(Builtin.append_ #[34,34] 34 #[.slice none 0 0,.slice (some ⟨w.heap.size,0,none⟩) 1 1]).run prog (w.alloc (.cells #[.string ⟨#[]⟩,.slice none 0 0] 45))=.ok (.slice a0 1 c0) w0:=hap;have HO:Hid (OAt w oa ops):=ho;clear own0 hb0 hk0 hap ho;go_enter func12,ntmps12;go_wp2_with fail;refine(hky _).mono ?_;rintro e w1 ⟨rfl,rfl⟩;go_upto_if 13 with fail;go_cut [5] (fun s5 wx=>∃(n:Nat) (a:Option Addr) (c:Nat) (L:List PE),s5=.slice a n c∧n≤1∧Hid (n=L.length∧PP wx w1.heap.size a c L∧KeyD ops 0 K0 L)∧Hid (Below w1.heap.size w1 wx))
 case first=>
  cases kb
  ·have hK:K0=[[]]:=HK0.out.2 rfl;go_wp2_with (at_builtin;refine zOu rfl _ _ 34 rfl _ _ _ _ rfl rfl hap' ?_);go_meet;refine⟨1,a0,c0,[⟨[],none,0,[]⟩],rfl,Nat.le_refl _,⟨rfl,⟨HO0.out.1,fun x hx=>?_,by simp⟩,⟨by simp,fun x hx=>?_,fun k=>?_⟩⟩,HO0.out.2⟩
   ·rw[List.mem_singleton]at hx;subst hx;exact World.ownsRow_nil _ _ _ _
   ·rw[List.mem_singleton]at hx;subst hx;simp[plK]
   ·rw[hK];simp[eq_comm]
  ·have hK:K0=[]:=HK0.out.1 rfl;go_wp2_with fail;go_meet;refine⟨0,none,0,[],rfl,by omega,⟨rfl,⟨World.ownsRow_nil _ _ _ _,by simp,by simp⟩,⟨by simp,by simp,fun k=>?_⟩⟩,zD⟩;rw[hK];simp
 case rest=>
  obtain⟨n0,a0',c0',L0,rfl,hn0,HL0,HB0⟩:=hcut;clear hap' HO0 hky;go_wp2_with fail;go_loopw [5,7] (fun s5 s7 wr=>∃(i n:Nat) (a:Option Addr) (c:Nat) (L:List PE),s5=.slice a n c∧s7=.int .i64 (i:Int)∧i≤ops.length∧n≤i+1∧Hid (n=L.length∧PP wr w1.heap.size a c L∧KeyD ops i K0 L)∧Hid (Below w1.heap.size w1 wr)) (fun _ s7 _=>ops.length-(intOf s7).toNat)
  case atStart=>exact⟨0,n0,a0',c0',L0,rfl,rfl,by omega,by omega,HL0,HB0⟩
  case round=>
   obtain⟨i,n,a,c,L,rfl,rfl,hi,hn,HL,HB⟩:=hrel;clear HL0 HB0;obtain⟨wy,rfl⟩:∃wy:World,wy=wr:=⟨_,rfl⟩;by_cases hin:i<ops.length
   ·have hin':(i:Int)<(ops.length:Int):=(by omega);have hwi:IntKind.i64.wrap ((i:Int)+1)=(i:Int)+1:=(by go_arith);obtain⟨o,hoi⟩:∃o,ops[i]?=some o:=⟨_,zC hin⟩;obtain⟨go,rfl,hgo,_,hoc⟩:=zRO HO.out hoi;obtain⟨k,hk⟩:∃k,o.key=k:=⟨_,rfl⟩;have HX3:Hid (∀V:World,Below wy.heap.size wy V→V.cell? ⟨go,i*10+3,none⟩=some (.string ⟨k.toArray⟩)):=fun V hV=>((HB.out.trans (hV.mono HB.out.size)).cell (p:=⟨go,i*10+3,none⟩) hgo).trans (hoc 3 _ (by decide) (by rw[show(opvCells o)[3]?=some (.string ⟨o.key.toArray⟩)from rfl,hk]));have HKO:Hid (ops[i]?=some o∧o.key=k):=⟨hoi,hk⟩;clear hoc hoi hk;go_upto_block 2 with fail;go_cut [8] (fun s8 wx=>∃(j:Nat),s8=.int .i64 (j:Int)∧j≤n∧Hid ((∀x∈L.take j,x.key<k)∧∀y,L[j]?=some y→¬y.key<k)∧Hid (Below wy.heap.size wy wx))
    case first=>
     go_wp2_with fail;go_loopw [8] (fun s8 wx=>∃(j:Nat),s8=.int .i64 (j:Int)∧j≤n∧Hid (∀x∈L.take j,x.key<k)∧Hid (Below wy.heap.size wy wx)) (fun s8 _=>n-(intOf s8).toNat)
     case atStart=>exact⟨0,rfl,by omega,fun x hx=>by simp at hx,zD⟩
     case round=>
      obtain⟨j,rfl,hj,HT,HBx⟩:=hrel;by_cases hjn:j<n
      ·have hjn':(j:Int)<(n:Int):=(by omega);have hwj:IntKind.i64.wrap ((j:Int)+1)=(j:Int)+1:=(by go_arith);obtain⟨y,hy⟩:∃y,L[j]?=some y:=⟨_,zC (by have:=HL.out.1;omega)⟩;obtain⟨g,rfl,hg,_,_,p0,_,_⟩:=HL.out.2.1.cells hy;obtain⟨ky,hky⟩:∃ky,y.key=ky:=⟨_,rfl⟩;rw[hky]at p0;have HP0:Hid (∀V:World,Below wy.heap.size wy V→V.cell? ⟨g,j*2,none⟩=some (.string ⟨ky.toArray⟩)):=fun V hV=>(hV.cell (p:=⟨g,j*2,none⟩) hg).trans p0;have x3':∀q,(wr.drewN q).cell? ⟨go,i*10+3,none⟩=some (.string ⟨k.toArray⟩):=fun q=>HX3.out _ (zqh HBx.out q);have p0':∀q,(wr.drewN q).cell? ⟨g,j*2,none⟩=some (.string ⟨ky.toArray⟩):=fun q=>HP0.out _ (zqh HBx.out q);have x3:=HX3.out wr HBx.out;have p0x:=HP0.out wr HBx.out;have HY:Hid (L[j]?=some y∧y.key=ky):=⟨hy,hky⟩;clear hy hky p0;by_cases hlt:ky<k
       ·have hbl:Op.bytesLess ky k=true:=(by rw[bytesLess_eq];exact decide_eq_true hlt);have HT2:Hid (∀x∈L.take (j+1),x.key<k):=fun x hx=>by
         rw[List.take_add_one,HY.out.1]at hx;rcases List.mem_append.1 hx with hx|hx
         ·exact HT.out x hx
         ·simp at hx;subst hx;rw[HY.out.2];exact hlt
        clear hlt;go_wp2_with fail;go_quiet (fail);go_wp2_with fail;go_roundw
        case rel=>exact⟨j+1,by go_num,by omega,HT2,zqh HBx.out _⟩
        case measure=>simp[intOf];omega
       ·have hbl:Op.bytesLess ky k=false:=(by rw[bytesLess_eq];exact decide_eq_false hlt);have HN2:Hid (∀y,L[j]?=some y→¬y.key<k):=fun y' hy'=>by
         rw[HY.out.1]at hy';injection hy' with hy';rw[←hy',HY.out.2];exact hlt
        clear hlt;go_wp2_with fail;go_quiet (fail);go_wp2_with fail;go_meet;exact⟨j,rfl,hj,⟨HT.out,HN2.out⟩,zqh HBx.out _⟩
      ·have hjn':¬(j:Int)<(n:Int):=(by omega);have HN2:Hid (∀y,L[j]?=some y→¬y.key<k):=fun y' hy'=>by
        have h1:=(zB hy').1;have:=HL.out.1;omega
       go_wp2_with fail;go_quiet (fail);go_wp2_with fail;go_meet;exact⟨j,rfl,hj,⟨HT.out,HN2.out⟩,zqh HBx.out _⟩
    case rest=>
     obtain⟨j,rfl,hj,HJ,HBx⟩:=hcut;obtain⟨wj,rfl⟩:∃wj:World,wj=wc:=⟨_,rfl⟩;have x3:=HX3.out wj HBx.out;have x3':∀q,(wj.drewN q).cell? ⟨go,i*10+3,none⟩=some (.string ⟨k.toArray⟩):=fun q=>HX3.out _ (zqh HBx.out q);go_upto_region 11 with fail;go_cut [59] (fun s wx=>∃nb:Bool,s=.bool nb∧Hid (if nb=true then ∀y∈(L.drop j).head?,¬y.key<k∧y.key≠k else ∃y,L[j]?=some y∧y.key=k)∧Hid (Below wy.heap.size wy wx))
     case first=>
      by_cases hjn:j=n
      ·have hjn':((j:Int)==(n:Int))=true:=(by simp[hjn]);have hdn:Hid (∀y∈(L.drop j).head?,¬y.key<k∧y.key≠k):=fun y hy=>by
        rw[List.drop_of_length_le (by have:=HL.out.1;omega)]at hy;cases hy
       clear hjn;go_quiet (fail);go_wp2;go_meet;exact⟨true,rfl,hdn.out,zqh HBx.out _⟩
      ·have hjn':((j:Int)==(n:Int))=false:=(by simp;omega);have hjl:(j:Int)<(n:Int):=(by omega);obtain⟨y,hy⟩:∃y,L[j]?=some y:=⟨_,zC (by have:=HL.out.1;omega)⟩;obtain⟨g,rfl,hg,_,_,p0,_,_⟩:=HL.out.2.1.cells hy;obtain⟨ky,hky⟩:∃ky,y.key=ky:=⟨_,rfl⟩;rw[hky]at p0;have hp:∀V:World,Below wy.heap.size wy V→V.cell? ⟨g,j*2,none⟩=some (.string ⟨ky.toArray⟩):=fun V hV=>(hV.cell (p:=⟨g,j*2,none⟩) hg).trans p0;have p0':∀q,(wj.drewN q).cell? ⟨g,j*2,none⟩=some (.string ⟨ky.toArray⟩):=fun q=>hp _ (zqh HBx.out q);have p0x:=hp wj HBx.out;have HY:Hid (L[j]?=some y∧y.key=ky):=⟨hy,hky⟩;clear hp hy hky p0 hjn;by_cases heq:ky=k
       ·have hb:(ky != k)=false:=(by simpa using heq);have hb2:(ky==k)=true:=(by simpa using heq);have HE:Hid (∃y,L[j]?=some y∧y.key=k):=⟨y,HY.out.1,by rw[HY.out.2];exact heq⟩;clear heq;go_quiet (fail);go_wp2;go_meet;exact⟨false,rfl,HE.out,zqh HBx.out _⟩
       ·have hb:(ky != k)=true:=(by simpa using heq);have hb2:(ky==k)=false:=(by simpa using heq);have HE:Hid (∀y∈(L.drop j).head?,¬y.key<k∧y.key≠k):=fun y' hy'=>by
         rw[List.head?_drop,HY.out.1]at hy';injection hy' with hy';subst hy';exact⟨HJ.out.2 y HY.out.1,by rw[HY.out.2];exact heq⟩
        clear heq;go_quiet (fail);go_wp2;go_meet;exact⟨true,rfl,HE.out,zqh HBx.out _⟩
     case rest=>
      obtain⟨nb,rfl,HN,HBz⟩:=hcut;obtain⟨wz,rfl⟩:∃wz:World,wz=wc:=⟨_,rfl⟩;clear x3 x3';go_upto_if 59 with fail;go_cut [5,9] (fun s5 _ wx=>∃(n':Nat) (a':Option Addr) (c':Nat) (L1:List PE) (x:PE) (L2:List PE),s5=.slice a' n' c'∧j<n'∧n'≤n+1∧Hid (L1.length=j∧n'=(L1++x::L2).length∧PP wx w1.heap.size a' c' (L1++x::L2)∧MidK ops i K0 L1 x L2 k)∧Hid (Below w1.heap.size w1 wx))
      case first=>
       have HBW:Hid (Below w1.heap.size w1 wz):=HB.out.trans (HBz.out.mono HB.out.size);cases nb
       ·have HQ:Hid (∃(x:PE) (L2:List PE),j<n∧(L.take j).length=j∧n=(L.take j++x::L2).length∧PP wz w1.heap.size a c (L.take j++x::L2)∧MidK ops i K0 (L.take j) x L2 k):=by
         obtain⟨y,hy,hyk⟩:=HN.out;obtain⟨h1,h2,h3⟩:=HL.out;obtain⟨hl,he⟩:=zB hy;have hd:L=L.take j++y::L.drop (j+1):=(by rw[←he,←List.drop_eq_getElem_cons hl,List.take_append_drop]);have h2':=h2.on HBz.out;refine⟨y,L.drop (j+1),by omega,by rw[List.length_take];omega,by rw[←hd];exact h1,by rw[←hd];exact h2',?_⟩;rw[hd]at h3;have:=h3.old;rw[hyk]at this;exact this
        go_wp2_with fail;go_meet;obtain⟨x,L2,h1,h2,h3,h4,h5⟩:=HQ.out;exact⟨n,a,c,L.take j,x,L2,rfl,h1,by omega,⟨h2,h3,h4,h5⟩,HBW⟩
       ·obtain⟨h1,h2,h3⟩:=HL.out;have h2':=h2.on HBz.out;rw[←List.take_append_drop j L]at h2' h3;have hL1:(L.take j).length=j:=(by rw[List.length_take];omega);have hL2:(L.drop j).length=n-j:=(by rw[List.length_drop];omega);have hML:=h3.new (k:=k) HJ.out.1 HN.out;rcases zzD h2.row with ⟨e,e0⟩|⟨g,cap,e,hcap,_,_⟩
        ·injection e with e1 e2 e3;subst e1;have hn0:n=0:=(by omega);have hj0:j=0:=(by omega);have hLe:L=[]:=List.length_eq_zero_iff.1 e0;have hc0:c=0:=e3;obtain⟨a1,c1,w2,a2,c2,w3,a3,c3,w4,r1,b1,r2,r3,hPP,b4⟩:=h2'.ins k HBW.out.size (by rw[List.take_append_drop];omega) (.slice none 0 0) (.slice none 0 0) (.inl ⟨by rw[hLe];simp,rfl⟩) (.inl ⟨by rw[hLe];simp,rfl⟩);rw[hL1]at r1 r2 r3;rw[hL2]at r3;have HQ:Hid (PP w4 w1.heap.size a3 c3 (L.take j++⟨k,none,0,[]⟩::L.drop j)∧MidK ops i K0 (L.take j) ⟨k,none,0,[]⟩ (L.drop j) k∧Below w1.heap.size w1 w4∧(L.take j).length=j∧(L.drop j).length=n-j):=⟨hPP,hML,HBW.out.trans (b4.mono HBW.out.size),hL1,hL2⟩;have x9:=HX3.out wz HBz.out;clear hPP hML b1 b4 h2' h2 h3 h1 e0 hL1 hL2;subst hn0;subst hj0;subst hc0;obtain⟨i0,hi0',_,_,_⟩:=info_parts zsv;have r1':=r1.symm.trans (run_append_owned_none (P:=prog) wz wz.heap.size 34 34 45 i0 2 underlying34 hi0' (.slice none 0 0) 0 [] (World.ownsRow_nil _ _ _ _));injection r1' with q1 q2;injection q1 with q3 _ q4;subst q2;subst q3;subst q4;have R2:Hid _:=r2;have R3:Hid _:=r3;clear r1 hi0' r2 r3;go_upto_region 14 with fail;have r2:=R2.out;go_upto_region 15 with (at_builtin;refine zOu rfl _ _ 34 rfl _ _ _ _ rfl rfl r2 ?_);have r3:=R3.out;clear r2 R2 R3;go_wp2_with (at_builtin;refine zOu rfl _ _ 34 rfl _ _ _ _ rfl rfl r3 ?_);go_meet;obtain⟨h1,h2,h3,h4,h5⟩:=HQ.out;exact⟨1,a3,c3,L.take 0,⟨k,none,0,[]⟩,L.drop 0,rfl,by omega,by omega,⟨h4,by rw[zI,List.length_cons,h4,h5],h1,h2⟩,h3⟩
        ·injection e with e1 e2 e3;subst e1;subst e3;obtain⟨s3,hs3,hs3'⟩:∃s3:Value,s3=.slice (some ⟨g,if c=j then 0 else j*2,none⟩) (n-j) (c-j)∧((L.drop j=[]∧s3=.slice none 0 0)∨∃q c3,s3=.slice (some q) (L.drop j).length c3∧(L.drop j≠[]→∃g',some (⟨g,0,none⟩:Addr)=some ⟨g',0,none⟩∧q=⟨g',(L.take j).length*2,none⟩)):=by
          refine⟨_,rfl,.inr ⟨⟨g,if c=j then 0 else j*2,none⟩,c-j,by rw[hL2],fun hne=>⟨g,rfl,?_⟩⟩⟩;have:0<(L.drop j).length:=List.length_pos_iff.2 hne;rw[if_neg (by omega),hL1]
         obtain⟨a1,c1,w2,a2,c2,w3,a3,c3,w4,r1,b1,r2,r3,hPP,b4⟩:=h2'.ins k HBW.out.size (by rw[List.take_append_drop];omega) (.slice (some ⟨g,0,none⟩) (L.take j).length c) s3 (.inr ⟨g,c,rfl,rfl⟩) hs3';have x9:=HX3.out w2 (HBz.out.trans (b1.mono HBz.out.size));rw[hL1]at r1 r2 r3;rw[hL2]at r3;have HQ:Hid (PP w4 w1.heap.size a3 c3 (L.take j++⟨k,none,0,[]⟩::L.drop j)∧MidK ops i K0 (L.take j) ⟨k,none,0,[]⟩ (L.drop j) k∧Below w1.heap.size w1 w4∧(L.take j).length=j∧(L.drop j).length=n-j):=⟨hPP,hML,HBW.out.trans (b4.mono HBW.out.size),hL1,hL2⟩;have hjc:(j:Int)≤(c:Int):=(by omega);have hjn:(j:Int)≤(n:Int):=(by omega);have hnc:(n:Int)≤(c:Int):=(by omega);rw[hs3]at r3;clear hPP hML b1 b4 h2' h2 h3 h1 e2 hL1 hL2 hs3' hs3 s3;have R2:Hid _:=r2;have R3:Hid _:=r3;clear r2 r3;go_upto_region 14 with (at_builtin;refine zOu rfl _ _ 34 rfl _ _ _ _ rfl rfl r1 ?_);clear r1;have r2:=R2.out;go_upto_region 15 with (at_builtin;refine zOu rfl _ _ 34 rfl _ _ _ _ rfl rfl r2 ?_);clear r2 R2;have r3:=R3.out;clear R3;by_cases hcj:c=j
         ·rw[if_pos hcj]at r3;go_wp2_with (at_builtin;refine zOu rfl _ _ 34 rfl _ _ _ _ rfl rfl r3 ?_);go_meet;obtain⟨h1,h2,h3,h4,h5⟩:=HQ.out;exact⟨j+1+(n-j),a3,c3,L.take j,⟨k,none,0,[]⟩,L.drop j,rfl,by omega,by omega,⟨h4,by rw[zI,List.length_cons,h4,h5];omega,h1,h2⟩,h3⟩
         ·rw[if_neg hcj]at r3;go_wp2_with (at_builtin;refine zOu rfl _ _ 34 rfl _ _ _ _ rfl rfl r3 ?_);go_meet;obtain⟨h1,h2,h3,h4,h5⟩:=HQ.out;exact⟨j+1+(n-j),a3,c3,L.take j,⟨k,none,0,[]⟩,L.drop j,rfl,by omega,by omega,⟨h4,by rw[zI,List.length_cons,h4,h5];omega,h1,h2⟩,h3⟩
      case rest=>
       obtain⟨n',a',c',L1,x,L2,rfl,hjn,hn',HM,HBW⟩:=hcut;obtain⟨wv,rfl⟩:∃wv:World,wv=wc:=⟨_,rfl⟩;obtain⟨hl1,hl2,hPP,hMK⟩:=HM.out;have hget:(L1++x::L2)[j]?=some x:=(by rw[←hl1];simp);obtain⟨g,rfl,hg,hgb,hcc,_,p1,_⟩:=hPP.cells hget;have hat:=hPP.at_ x (by simp);have hxl:x.pl.length≤1000:=by
        rw[hMK.pl x (by simp)];unfold plK;refine Nat.le_trans (List.length_filter_le _ _) ?_;rw[List.length_range,List.length_take];omega
       obtain⟨a7,c7,w7,hap,own7,hk7,hloc⟩:=zij wv w1.heap.size x.va x.pl.length x.vc (zea x.pl) (i:Int) hat (by omega) HBW.out.size;obtain⟨s1,s2,hP9⟩:=hPP.put hk7 own7 hloc;rw[hl1]at s1 s2 hP9;have hb7:Below w1.heap.size w1 w7:=HBW.out.trans (hk7.below HBW.out.size (fun q hq=>(hat.lt q (by simpa using hq)).1));have hkE:Kept [g] w7 (w7.setCell ⟨g,j*2+1,none⟩ (.slice a7 (x.pl.length+1) c7)):=(Kept.refl _ _).setCell (p:=⟨g,j*2+1,none⟩) (Or.inl (by simp)) _;have HN9:Hid (n'=(L1++(⟨x.key,a7,c7,x.pl++[i]⟩:PE)::L2).length∧PP (w7.setCell ⟨g,j*2+1,none⟩ (.slice a7 (x.pl.length+1) c7)) w1.heap.size (some ⟨g,0,none⟩) c' (L1++⟨x.key,a7,c7,x.pl++[i]⟩::L2)∧KeyD ops (i+1) K0 (L1++⟨x.key,a7,c7,x.pl++[i]⟩::L2)):=⟨by rw[hl2];simp,hP9,hMK.next HKO.out.1 HKO.out.2 hMK.key rfl⟩;have HBE:Hid (Below w1.heap.size w1 (w7.setCell ⟨g,j*2+1,none⟩ (.slice a7 (x.pl.length+1) c7))):=hb7.trans (hkE.below hb7.size (by simp;exact hgb));have hjn':(j:Int)<(n':Int):=(by omega);obtain⟨LN,hLN⟩:∃LN,LN=L1++(⟨x.key,a7,c7,x.pl++[i]⟩:PE)::L2:=⟨_,rfl⟩;rw[←hLN]at HN9;clear hLN hP9 hb7 hkE own7 hk7 hloc hat hget hPP hMK hl1 hl2 HM hcc hxl;generalize x.va=va at*;generalize x.vc=vc at*;generalize x.pl.length=vn at*;go_wp2_with (at_builtin;refine zOu rfl _ _ 43 rfl _ _ _ _ rfl rfl hap ?_);go_roundw
       case rel=>exact⟨i+1,n',some ⟨g,0,none⟩,c',LN,rfl,by go_num,by omega,by omega,HN9,HBE⟩
       case measure=>simp[intOf];omega
   ·have hin':¬(i:Int)<(ops.length:Int):=(by omega);obtain rfl:i=ops.length:=(by omega);have HF:Hid (n=(zQk m ops).length∧PtAt wy a ops (zQk m ops)):=by
     obtain⟨h1,h2,h3⟩:=HL.out;obtain⟨h4,h5⟩:=HEND.out L h3;exact⟨by rw[←h4,List.length_map];exact h1,h2.ends h4 h5⟩
    go_wp2_with fail;go_ret;exact⟨a,⟨c,by rw[←HF.out.1];rfl⟩,HF.out.2,HB.out⟩
open srch (vAg opAg tI OAt zOu idsT sRej flt qKey zD5)
theorem zpo (m:List UInt8)(hm:five m)(k:List UInt8)(va:Option Addr)(vn vc:Nat)(w:World)(hk:k.length≤10000000):
 Calls prog 16 #[.string ⟨m.toArray⟩,.agg #[.string ⟨k.toArray⟩,.slice va vn vc]] w fun e w'=>e=.returned (.string ⟨(zQf m k).toArray⟩)∧Below w.heap.size w w':=by
 unfold zQf;rcases hm with h|h|h|h|h
 ·rw[if_neg (lone3.not (.inl h))];exact zOe m (.inl h) k va vn vc w
 ·rw[if_pos (.inl h)];exact z1z m (.inl h) k va vn vc w hk
 ·rw[if_neg (lone3.not (.inr (.inl h)))];exact zOe m (.inr (.inl h)) k va vn vc w
 ·rw[if_pos (.inr h)];exact z1z m (.inr h) k va vn vc w hk
 ·rw[if_neg (lone3.not (.inr (.inr h)))];exact zOe m (.inr (.inr h)) k va vn vc w
theorem zfr {m:List UInt8}{ops:List OpV}{K1 K2:List (List UInt8)}{k k' x:List UInt8}(hK:zQk m ops=K1++k::K2)(hk:k'∈K1):(zRS++zQf m k++z5z++x).take (zRS++zQf m k'++z5z).length≠zRS++zQf m k'++z5z:=by
 intro e;have hn:=zOB m ops;have h2:m=sKv∨m=sSet:=by
  apply Decidable.byContradiction;intro h;unfold zQk at hK;rw[if_neg h]at hK;have h3:=congrArg List.length hK;have h4:=List.length_pos_of_mem hk;simp at h3;omega
 have hne:k'≠k:=by
  rintro rfl;rw[hK,List.nodup_append]at hn;exact hn.2.2 k' hk k' (by simp) rfl
 unfold zQf at e;rw[if_pos h2,if_pos h2]at e;have h3:=List.take_append_drop (zRS++qKey k'++z5z).length (zRS++qKey k++z5z++x);rw[e]at h3;simp only [List.append_assoc]at h3;exact hne (zSOC (List.append_cancel_left h3)).1
theorem zVF {w:World}{base:Nat}{a:Option Addr}{c:Nat}{ops:List OpV}{K:List (List UInt8)}{f:List UInt8→List Cf×Bool}(h:w.ownsRow base 48 4 (.slice a K.length c) K.length (K.flatMap (vdOf ops f))){i:Nat}{k:List UInt8}(hk:K[i]?=some k):
 ∃g,a=some ⟨g,0,none⟩∧g<w.heap.size∧w.cell? ⟨g,i*4,none⟩=some (.bool (f k).2)∧w.cell? ⟨g,i*4+1,none⟩=some (.bool (isP (flt k ops) (f k).1))∧w.cell? ⟨g,i*4+2,none⟩=some (.int .i64 (mostP (f k).1:Int))∧w.cell? ⟨g,i*4+3,none⟩=some (.int .i64 ((f k).1.length:Int)):=by
 have hl:=(zB hk).1;have get:∀(K:List (List UInt8)) (i j:Nat) (k:List UInt8),K[i]?=some k→j<4→(K.flatMap (vdOf ops f))[i*4+j]?=(vdOf ops f k)[j]?:=by
  intro K
  induction K with
  |nil=>intro i j k h;simp at h
  |cons x r ih=>
    intro i j k h hj;rw[List.flatMap_cons];have hx:(vdOf ops f x).length=4:=rfl;cases i with
    |zero=>
      simp at h;subst h;rw[List.getElem?_append_left (by omega)];congr 1;omega
    |succ i=>
      rw[List.getElem?_append_right (by omega),hx,show(i+1)*4+j-4=i*4+j by omega];exact ih i j k (by simpa using h) hj
 rcases zzD h with ⟨_,e⟩|⟨g,cap,e,_,_,hg⟩
 ·omega
 ·injection e with e;subst e;have cell:∀(j:Nat) (u:Value),j<4→(vdOf ops f k)[j]?=some u→w.cell? ⟨g,i*4+j,none⟩=some u:=fun j u hj hu=>by
   have:=h.cells (g:=g) rfl (i*4+j) u ((get K i j k hk hj).trans hu);rw[Addr.add_lit,Nat.zero_add]at this;exact this
  exact⟨g,rfl,hg,cell 0 _ (by decide) rfl,cell 1 _ (by decide) rfl,cell 2 _ (by decide) rfl,cell 3 _ (by decide) rfl⟩
theorem ztz (m t:List UInt8)(hm:five m)(b:Int)(ops:List OpV)(hrd:zvj m (linesP (nats t)) 0 []=.inl ops)(hPO:∀oa oc,zN8 m oa oc ops (zQk m ops))(hKl:(zQk m ops).length≤1000)(ans:List UInt8)(hG:FitG m t b ops ans)(w:World)(hmod:Mods w)(hng:10≤w.heap.size)(ht:t.length≤2000000):
 Calls prog 6 #[.string ⟨t.toArray⟩,.string ⟨m.toArray⟩,.int .i64 b,.string ⟨ans.toArray⟩] w fun e w'=>e=.returned (.bool true)∧Below w.heap.size w w':=by
 have hans:ans.length≤90000000:=Nat.le_trans hG.len (by decide);have hml:m.length≤8:=by rcases hm with rfl|rfl|rfl|rfl|rfl<;>decide
 have hrr:=ze8 ⟨t.toArray⟩ ⟨m.toArray⟩ w hmod hng (by show t.toArray.size≤_;simpa using ht) (by show m.toArray.size≤_;simp;omega);have hkm:z3t m modTab=true:=by rcases hm with rfl|rfl|rfl|rfl|rfl<;>decide
 have hKn:=zOB m ops;have hfew:=hG.kn.few;have HG:Hid _:=hG;have hNN:=fun K1 K2 k k' x (hK:zQk m ops=K1++k::K2) hk=>zfr (x:=x) (k':=k') hK hk;have HNN:Hid _:=hNN;have hKL:=fun k (h:k∈zQk m ops)=>zhm h hG.klen;have HF:Hid _:=hG.fit;clear hG hNN;generalize zQk m ops=K at*;have HKL:Hid _:=hKL;have HPO:Hid _:=hPO;clear hPO hKL;go_enter func6,ntmps6;go_wp2_with fail;refine hrr.mono ?_;rintro e w1 ⟨hb1,hcs⟩;obtain⟨v,hown,rfl⟩:∃v,w1.ownsRow w.heap.size 74 10 v ops.length (opsRow ops)∧e=.returned (.tuple #[v,.int .i64 0,.int .i64 0,.int .i64 0]):=by
  rcases hcs with ⟨h,_⟩|⟨_,⟨ops',v,h,_,ho,he⟩|⟨l',r',h,he⟩⟩
  ·rw[hkm]at h;cases h
  ·rw[show lets (⟨t.toArray⟩:ByteArray)=nats t from by rw[zzs],hrd]at h;injection h with h;subst h;exact⟨v,ho,he⟩
  ·rw[show lets (⟨t.toArray⟩:ByteArray)=nats t from by rw[zzs],hrd]at h;cases h
 obtain⟨oa,oc,rfl⟩:=zIW hown;have HO:Hid (OAt w1 oa ops):=zGf hown;have HB1:Hid _:=hb1;have hpt:=HPO.out oa oc w1 HO.out;clear hb1 hcs hrr hown hrd;go_wp2_with fail;refine hpt.mono ?_;rintro e w2 ⟨a2,c2,rfl,hP2,hb2⟩;have HO2:Hid (OAt w2 oa ops):=HO.out.below hb2;have HB2:Hid (Below w.heap.size w w2):=HB1.out.trans (hb2.mono HB1.out.size);have HP2:Hid (PtAt w2 a2 ops K):=hP2;have htr:=zHE m hm oa oc ops K hKn hKl a2 c2 w2 HO2.out hP2 hfew HG.out.kn.ok;clear hpt hb2 hP2;go_wp2_with fail;refine htr.mono ?_;rintro e w3 ⟨f,a3,c3,hC,rfl,hV3,hb3⟩;have HO3:Hid (OAt w3 oa ops):=HO2.out.below hb3;have HB3:Hid (Below w.heap.size w w3):=HB2.out.trans (hb3.mono HB2.out.size);have HP3:Hid (PtAt w3 a2 ops K):=HP2.out.below hb3;have HV3:Hid (w3.ownsRow w2.heap.size 48 4 (.slice a3 K.length c3) K.length (K.flatMap (vdOf ops f))):=hV3;have HC:Hid (CfK m ops K f):=hC;have hS:manyK K f≤600000000:=by have:=hC.many;omega
 have hSU:∀b:Int,min b 1000000<((2*(ops.length+1)*manyK K f:Nat):Int)→min b 1000000<2*((ops.length:Int)+1)*(manyK K f:Int):=fun b h=>by push_cast at h;exact h
 have HSF:Hid (manyK K f=(K.map (fun k=>(f k).1.length)).sum):=rfl;clear htr hb3 hV3 hC HO2 HP2 HB2 HO HB1;generalize manyK K f=S at*;rcases HF.out with ⟨rfl,hU⟩|⟨Q,pl,hE,hQ,hn,hQl,hor,hal⟩|⟨K1,K2,k,Q,pl,cE,hK,hE,hQ,hn,hQl,hal,hkk,hkp⟩
 ·have hlt:=hSU b (by have:=hU f (fun k hk=>(HC.out k hk).1);rw[←HSF.out]at this;exact this);have hw1:IntKind.i64.wrap ((ops.length:Int)+1)=(ops.length:Int)+1:=j64 (by omega) (by omega);have hw2:IntKind.i64.wrap (2*((ops.length:Int)+1))=2*((ops.length:Int)+1):=j64 (by omega) (by omega);have hmul:0≤2*((ops.length:Int)+1)*(S:Int)∧2*((ops.length:Int)+1)*(S:Int)≤2002*600000000:=by
   refine⟨Int.mul_nonneg (by omega) (by omega),?_⟩;exact Int.mul_le_mul (by omega) (by omega) (by omega) (by omega)
  have hw3:IntKind.i64.wrap (2*((ops.length:Int)+1)*(S:Int))=2*((ops.length:Int)+1)*(S:Int):=j64 (by omega) (by omega);have hlt':decide (min b 1000000<2*((ops.length:Int)+1)*(S:Int))=true:=by simpa using hlt
  clear hU hSU HSF HF HG HNN;unfold sUnk;go_wp2_with fail;go_ret;exact⟨rfl,HB3.out⟩
 ·have hn1:(ans==[85,78,75,78,79,87,78,10])=false:=by
   rw[hE,beq_eq_false_iff_ne];unfold sOrdJ;intro e;simp at e
  have hbg:=fun w=>zUm ans sOrdJ (idsT Q) hE hans w;have hlg:=fun w ho=>zJZ m hm oa oc ops Q K hKl (HPO.out oa oc) pl w ho HG.out.kn hQ hn hQl hor hal;unfold sOrdJ at hbg;clear hE hSU hal;go_wp2_with fail;refine(hbg _).mono ?_;rintro e w4 ⟨rfl,hb4⟩;have hlg4:=hlg w4 (HO3.out.below hb4);have HB4:Hid (Below w.heap.size w w4):=HB3.out.trans (hb4.mono HB3.out.size);clear hbg hlg hb4;go_wp2_with fail;refine hlg4.mono ?_;rintro e w5 ⟨rfl,hb5⟩;have HB5:Hid (Below w.heap.size w w5):=HB4.out.trans (hb5.mono HB4.out.size);clear hlg4 hb5;go_wp2_with fail;go_ret;exact⟨rfl,HB5.out⟩
 ·have hn1:(ans==[85,78,75,78,79,87,78,10])=false:=by
   rw[hE,beq_eq_false_iff_ne];unfold zRS;intro e;simp at e
  have hnb:ans.take sOrdJ.length≠sOrdJ:=by
   rw[hE];unfold zRS sOrdJ;intro e;simp at e
  have hbn:=fun w=>zgE ans sOrdJ hnb hans (by decide) w;have hbg:=fun w=>zUm ans (zRS++zQf m k++z5z) (idsT Q) (by rw[hE]) hans w;have hbx:=fun k' (h:k'∈K1) w=>zgE ans (zRS++zQf m k'++z5z) (by rw[hE,List.append_assoc (zRS++zQf m k++z5z)];exact HNN.out K1 K2 k k' _ hK h) hans (by
   have h1:=zNR m k';have h2:=HKL.out k' (by rw[hK];simp[h]);simp[zRS,z5z];omega) w
  have hnm:=fun k (h:k∈K) va vn vc w=>zpo m hm k va vn vc w (Nat.le_trans (HKL.out k h) (by decide));have hls:=fun va vc w ho hv=>zyl m hm oa va oc vc ops Q k pl (f k).2 (isP (flt k ops) (f k).1) (mostP (f k).1) (f k).1.length cE w ho hv HG.out.kn hQ hn hQl (hkk (f k).1 (f k).2 (HC.out k (by rw[hK];simp)).1) hal;have hkp':∀k'∈K1,(f k').2=true→isP (flt k' ops) (f k').1=true:=fun k' h he=>hkp k' h (f k').1 (f k').2 (HC.out k' (by rw[hK];simp[h])).1 he;have HKlen:Hid (K1.length<K.length):=by rw[hK];simp[Hid]
  have HK:Hid _:=hK;have HBG:Hid _:=hbg;have HBX:Hid _:=hbx;have HNM:Hid _:=hnm;have HLS:Hid _:=hls;have HKP:Hid _:=hkp';have HNL:Hid (∀k'∈K,(zQf m k').length≤49000000):=fun k' h=>by
   have h1:=zNR m k';have h2:=HKL.out k' h;omega
  unfold sOrdJ at hbn;clear hE hnb hkk hkp hkp' hbg hbx hnm hls hal hK hSU;go_wp2_with fail;refine(hbn _).mono ?_;rintro e w4 ⟨rfl,hb4⟩;have B4:Hid (Below w3.heap.size w3 w4):=hb4;clear hbn hb4;go_wp2_with fail;go_loopw [18] (fun s18 wr=>∃(i:Nat),s18=.int .i64 (i:Int)∧i≤K1.length∧Hid (Below w3.heap.size w3 wr)) (fun s18 _=>K1.length-(intOf s18).toNat)
  case atStart=>exact⟨0,rfl,by omega,B4⟩
  case round=>
   obtain⟨i,rfl,hi,HB⟩:=hrel;have hil:i<K.length:=Nat.lt_of_le_of_lt hi HKlen.out;have hin':(i:Int)<(K.length:Int):=(by omega);have hwi:IntKind.i64.wrap ((i:Int)+1)=(i:Int)+1:=(by go_arith);obtain⟨ki,hki⟩:∃ki,K[i]?=some ki:=⟨_,zC (by omega)⟩;obtain⟨g,va,vc,rfl,hg,p0,p1,hia⟩:=HP3.out i ki hki;obtain⟨g3,rfl,hg3,u0,u1,u2,u3⟩:=zVF HV3.out hki;have hkim:=List.mem_of_getElem? hki;have hnm:=fun w=>HNM.out ki hkim va (plK ops ki).length vc w;have hnl:=HNL.out ki hkim;obtain⟨WT,hWT⟩:∃WT,zRS++zQf m ki++z5z=WT:=⟨_,rfl⟩;have hba:((⟨#[73,76,76,69,71,65,76,32,112,97,114,116,61]⟩:ByteArray)++⟨(zQf m ki).toArray⟩)++⟨#[32,108,111,110,103,101,115,116,61]⟩=⟨WT.toArray⟩:=by
    rw[←hWT];apply ByteArray.ext;simp[zRS,z5z]
   have HWT:Hid _:=hWT;have HCL:Hid (∀V:World,Below w3.heap.size w3 V→V.cell? ⟨g,i*2,none⟩=some (.string ⟨ki.toArray⟩)∧V.cell? ⟨g,i*2+1,none⟩=some (.slice va (plK ops ki).length vc)∧V.cell? ⟨g3,i*4,none⟩=some (.bool (f ki).2)∧V.cell? ⟨g3,i*4+1,none⟩=some (.bool (isP (flt ki ops) (f ki).1))∧V.cell? ⟨g3,i*4+2,none⟩=some (.int .i64 (mostP (f ki).1:Int))∧V.cell? ⟨g3,i*4+3,none⟩=some (.int .i64 ((f ki).1.length:Int))):=fun V hV=>
    ⟨(hV.cell (p:=⟨g,i*2,none⟩) hg).trans p0,(hV.cell (p:=⟨g,i*2+1,none⟩) hg).trans p1,(hV.cell (p:=⟨g3,i*4,none⟩) hg3).trans u0,(hV.cell (p:=⟨g3,i*4+1,none⟩) hg3).trans u1,(hV.cell (p:=⟨g3,i*4+2,none⟩) hg3).trans u2,(hV.cell (p:=⟨g3,i*4+3,none⟩) hg3).trans u3⟩
   have HIA:Hid (∀V:World,Below w3.heap.size w3 V→IAt V va (plK ops ki)):=fun V hV=>hia.below hV;clear hWT p0 p1 u0 u1 u2 u3 hia;obtain⟨q0,q1,_,_,_,_⟩:=HCL.out wr HB.out;have HKI:Hid _:=hki;clear hki hkim;by_cases hlast:i=K1.length
   ·obtain rfl:ki=k:=by
     have h:=HKI.out;rw[HK.out,hlast]at h;simp at h;exact h.symm
    clear hlast;have hbg:=HBG.out;rw[HWT.out]at hbg;have hls:=HLS.out va vc;generalize zQf m ki=nk at*;generalize (plK ops ki).length=vn at*;generalize (f ki).2=kn at*;generalize isP (flt ki ops) (f ki).1=is at*;generalize mostP (f ki).1=mo at*;generalize (f ki).1.length=lc at*;unfold vdAg at hls;clear HBG HBX HNM HLS HKP HNL;go_wp2_with fail;refine(hnm _).mono ?_;rintro e w5 ⟨rfl,hb5⟩;have B5:Hid (Below w3.heap.size w3 w5):=HB.out.trans (hb5.mono HB.out.size);clear hb5 hnm q0 q1;go_wp2_with fail;refine(hbg _).mono ?_;rintro e w6 ⟨rfl,hb6⟩;have B6:Hid (Below w3.heap.size w3 w6):=B5.out.trans (hb6.mono B5.out.size);have HSS:Hid (∀V:World,Below w6.heap.size w6 V→V.cell? ⟨g,i*2,none⟩=some (.string ⟨ki.toArray⟩)∧V.cell? ⟨g,i*2+1,none⟩=some (.slice va vn vc)∧V.cell? ⟨g3,i*4,none⟩=some (.bool kn)∧V.cell? ⟨g3,i*4+1,none⟩=some (.bool is)∧V.cell? ⟨g3,i*4+2,none⟩=some (.int .i64 (mo:Int))∧V.cell? ⟨g3,i*4+3,none⟩=some (.int .i64 (lc:Int))):=fun V hV=>HCL.out V (B6.out.trans (hV.mono B6.out.size));have HLS:Hid (∀V:World,Below w6.heap.size w6 V→Calls prog 17 #[.string ⟨m.toArray⟩,.slice oa ops.length oc,.agg #[.string ⟨ki.toArray⟩,.slice va vn vc],.agg #[.bool kn,.bool is,.int .i64 (mo:Int),.int .i64 (lc:Int)],.string ⟨(idsT Q).toArray⟩] V fun e w'=>e=.returned (.bool true)∧Below V.heap.size V w'):=fun V hV=>by
     have h3:=B6.out.trans (hV.mono B6.out.size);exact hls V (HO3.out.below h3) (HIA.out V h3)
    obtain⟨q0,q1,q2,q3,q4,q5⟩:=HSS.out w6 (zD);have HBD:Hid (Below w6.heap.size w6 w6.drew):=(zD).drew;have hl6:=HLS.out w6.drew HBD.out;clear hb6 hbg hls HLS;go_wp2_with fail;go_cut [8] (fun a wx=>a=.bool true∧Below w6.heap.size w6 wx)
    case first=>
     go_region_held3 (fun w'=>w'.cell? ⟨g,i*2,none⟩=some (.string ⟨ki.toArray⟩)∧w'.cell? ⟨g,i*2+1,none⟩=some (.slice va vn vc)∧w'.cell? ⟨g3,i*4,none⟩=some (.bool kn)∧w'.cell? ⟨g3,i*4+1,none⟩=some (.bool is)∧w'.cell? ⟨g3,i*4+2,none⟩=some (.int .i64 (mo:Int))∧w'.cell? ⟨g3,i*4+3,none⟩=some (.int .i64 (lc:Int))) (first|(with_reducible exact hS7)|go_keep) (first
      | (go_at_call 17;refine hl6.mono ?_;rintro e w7 ⟨rfl,hb7⟩;have hk7:=HBD.out.trans hb7;have hS7:=HSS.out _ hk7;have HB7:=srch.Hid.mk' hk7;clear hb7 hk7 hl6))
     go_wp2;go_meet;exact⟨rfl,HB7.out⟩
    case rest=>
     obtain⟨rfl,hb7⟩:=hcut;have HBE:Hid (Below w.heap.size w wc):=HB3.out.trans ((B6.out.trans (hb7.mono B6.out.size)).mono HB3.out.size);clear hb7;go_wp2_with fail;go_ret;exact⟨rfl,HBE.out⟩
   ·have hk1:ki∈K1:=by
     have h:=HKI.out;rw[HK.out,List.getElem?_append_left (by omega)]at h;exact List.mem_of_getElem? h
    have hbx:=fun w=>HBX.out ki hk1 w;have hbe:=HKP.out ki hk1;rw[HWT.out]at hbx;generalize zQf m ki=nk at*;generalize (plK ops ki).length=vn at*;generalize (f ki).2=kn at*;generalize isP (flt ki ops) (f ki).1=is at*;have HLA:Hid (i+1≤K1.length):=Nat.lt_of_le_of_ne hi hlast;clear HBG HBX HNM HLS HKP HNL HWT HKI hlast;go_wp2_with fail;refine(hnm _).mono ?_;rintro e w5 ⟨rfl,hb5⟩;have B5:Hid (Below w3.heap.size w3 w5):=HB.out.trans (hb5.mono HB.out.size);clear hb5 hnm q0 q1;go_wp2_with fail;refine(hbx _).mono ?_;rintro e w6 ⟨rfl,hb6⟩;have B6:Hid (Below w3.heap.size w3 w6):=B5.out.trans (hb6.mono B5.out.size);obtain⟨q0,q1,q2,q3,q4,q5⟩:=HCL.out w6 B6.out;clear hb6 hbx q4 q5 q0 q1;cases kn
    ·clear hbe;go_wp2_with fail;go_roundw
     case rel=>exact⟨i+1,by go_num,HLA.out,B6⟩
     case measure=>have h1:i+1≤K1.length:=HLA.out;simp[intOf];omega
    ·obtain rfl:is=true:=hbe rfl;clear hbe;go_wp2_with fail;go_roundw
     case rel=>exact⟨i+1,by go_num,HLA.out,B6⟩
     case measure=>have h1:i+1≤K1.length:=HLA.out;simp[intOf];omega
open srch (vAg opAg tI OAt zOu idsT sRej zkp Pow zVT say zNr zAR sNoModel zVe)
theorem z0B (m t:List UInt8)(hm:five m)(b:Int)(l r:Int)(hr:zvj m (linesP (nats t)) 0 []=.inr (l,r))(hr0:r≠0)(hlr:0≤l∧l≤129∧1≤r∧r≤8)(w:World)(hmod:Mods w)(hng:10≤w.heap.size)(ht:t.length≤2000000):
 Calls prog 6 #[.string ⟨t.toArray⟩,.string ⟨m.toArray⟩,.int .i64 b,.string ⟨(sRej l r).toArray⟩] w fun e w'=>e=.returned (.bool true)∧Below w.heap.size w w':=by
 have hml:m.length≤8:=by rcases hm with rfl|rfl|rfl|rfl|rfl<;>decide
 have hrd:=ze8 ⟨t.toArray⟩ ⟨m.toArray⟩ w hmod hng (by show t.toArray.size≤_;simpa using ht) (by show m.toArray.size≤_;simp;omega);have hkm:z3t m modTab=true:=by rcases hm with rfl|rfl|rfl|rfl|rfl<;>decide
 have hD1:=fun w=>zM7 l w (by omega) (by omega);have hD2:=fun w=>zM7 r w (by omega) (by omega);have hl1:=zCU l (by omega) (by omega);have hl2:=zCU r (by omega) (by omega);have hba:=srch.rej_ba l r;have hr0':(r==0)=false:=by simpa using hr0
 generalize hRJ:sRej l r=rj at*;generalize Lib.itoa l=sl at*;generalize Lib.itoa r=sr at*;clear hRJ;go_enter func6,ntmps6;go_wp2_with fail;refine hrd.mono ?_;rintro e w1 ⟨hb1,hcs⟩;obtain rfl:e=.returned (.tuple #[.slice none 0 0,.int .i64 l,.int .i64 r,.int .i64 0]):=by
  rcases hcs with ⟨h,_⟩|⟨_,⟨ops,v,h,_⟩|⟨l',r',h,he⟩⟩
  ·rw[hkm]at h;cases h
  ·rw[show lets (⟨t.toArray⟩:ByteArray)=nats t from by rw[zzs],hr]at h;cases h
  ·rw[show lets (⟨t.toArray⟩:ByteArray)=nats t from by rw[zzs],hr]at h;injection h with h;injection h with h1 h2;subst h1;subst h2;exact he
 have HB1:Hid _:=hb1;clear hb1 hcs hrd;go_wp2_with fail;refine(hD1 _).mono ?_;rintro e w2 ⟨rfl,hb2⟩;go_wp2_with fail;refine(hD2 _).mono ?_;rintro e w3 ⟨rfl,hb3⟩;have HB3:Hid (Below w.heap.size w w3):=HB1.out.trans ((hb2.trans (hb3.mono hb2.size)).mono HB1.out.size);clear hb2 hb3 hD1 hD2;go_wp2_with fail;go_ret;exact⟨rfl,HB3.out⟩
theorem zeT (m t:List UInt8)(hm:z3t m modTab=false)(b:Int)(w:World)(hmod:Mods w)(hng:10≤w.heap.size)(ht:t.length≤2000000)(hml:m.length≤2000000):
 Calls prog 6 #[.string ⟨t.toArray⟩,.string ⟨m.toArray⟩,.int .i64 b,.string ⟨sNoModel.toArray⟩] w fun e w'=>e=.returned (.bool true)∧Below w.heap.size w w':=by
 have hrd:=ze8 ⟨t.toArray⟩ ⟨m.toArray⟩ w hmod hng (by show t.toArray.size≤_;simpa using ht) (by show m.toArray.size≤_;simpa using hml);unfold sNoModel;go_enter func6,ntmps6;go_wp2_with fail;refine hrd.mono ?_;rintro e w1 ⟨hb1,hcs⟩;obtain rfl:e=.returned (.tuple #[.slice none 0 0,.int .i64 0,.int .i64 0,.int .i64 1]):=by
  rcases hcs with ⟨_,h⟩|⟨h,_⟩
  ·exact h
  ·rw[hm]at h;cases h
 have HB1:Hid _:=hb1;clear hb1 hcs hrd;go_wp2_with fail;go_ret;exact⟨rfl,HB1.out⟩
theorem runs_walk (t m:List UInt8)(b:Int)(hb:wf64 b)(w:World)(hg:Glob w)(hp:Pow w)(hmod:Mods w)(ht:t.length≤2000000)(hml:m.length≤2000000):
 Calls prog 4 #[.string ⟨t.toArray⟩,.string ⟨m.toArray⟩,.int .i64 b] w fun e w'=>Below w.heap.size w w'∧e=.returned (.bool true):=by
 have hng:=hg.errs.lt;have hR:=zVT t m b w hg hp ht hb;go_enter func4,ntmps4;go_wp2_with fail;refine hR.mono ?_;rintro e w1 ⟨out,ho,rfl,hb1⟩;have hA:Calls prog 6 #[.string ⟨t.toArray⟩,.string ⟨m.toArray⟩,.int .i64 b,.string ⟨out.toArray⟩] w1 fun e w'=>e=.returned (.bool true)∧Below w1.heap.size w1 w':=by
  have hm1:=hmod.below (hb1.mono hng);have hz:10≤w1.heap.size:=Nat.le_trans hng hb1.size;rcases ho with ⟨h,rfl⟩|⟨hkm,⟨l,r,h,hr0,rfl⟩|⟨ops,v,h,hj,rfl⟩⟩
  ·exact zeT m t (by rw[zrg];exact h) b w1 hm1 hz ht hml
  ·have hrng:=zAR h;rw[zxf hkm]at h;exact z0B m t (zVe hkm) b l r h hr0 hrng w1 hm1 hz ht
  ·have hG:=zrq t m ht b ops v h hj;have hf:=zVe hkm;rw[zxf hkm]at h;exact ztz m t hf b ops h (fun oa oc=>z8O m hf oa oc ops hG.kn.few hG.none) (z9m m hG.kn.few) (say v) hG w1 hm1 hz ht
 have HB1:Hid _:=hb1;clear hR ho hb1;go_wp2_with fail;refine hA.mono ?_;rintro e w2 ⟨rfl,hb2⟩;have HB2:Hid (Below w.heap.size w w2):=HB1.out.trans (hb2.mono HB1.out.size);clear hA hb2;go_wp2_with fail;go_ret;exact⟨HB2.out,rfl⟩
end Go.Proofs.YtbbkihekjdffpaaGreatDoor.jd
