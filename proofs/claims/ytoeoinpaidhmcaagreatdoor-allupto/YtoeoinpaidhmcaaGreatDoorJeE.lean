/- Several texts in one. -/
import Derived.Test.YtoeoinpaidhmcaaGreatDoorJeA0
import Derived.Deep.CutBlock
import Derived.Sort.Walk0
set_option maxHeartbeats 8000000
set_option maxRecDepth 100000
namespace Go.Proofs.YtoeoinpaidhmcaaGreatDoor.jd
open Tryz
open Go.RowKit
open srch (vAg opAg tI OAt zOu idsT flt zD5)
theorem zij (W:World)(b:Nat)(a:Option Addr)(n c:Nat)(d:List Value)(s:Int)(h:W.ownsRow b 3 1 (.slice a n c) n d)(y:n≤3000000)(A:b≤W.heap.size):
 ∃a' c' w',(Builtin.append_ #[101,101] 101 #[.slice a n c,.slice (some ⟨W.heap.size,0,none⟩) 1 1]).run prog (W.alloc (.cells #[.int .i64 s] 3))=.ok (.slice a' (n+1) c') w'∧w'.ownsRow b 3 1 (.slice a' (n+1) c') (n+1) (d++[.int .i64 s])∧Kept (Value.slice a n c).ownBlock.toList W w'∧∀q,a'=some q→(Value.slice a n c).ownBlock=some q.block∨W.heap.size≤q.block:=by
 obtain⟨x,i,l,o,m⟩:=info_parts zRi;obtain⟨z,v,r,j,t,_,p⟩:=run_append_own_at (P:=prog) (W.alloc (.cells ([.int .i64 s]:List Value).toArray 3)) b 101 101 3 x _ 1 8 underlying101 i l o m rfl (by decide) (.slice a n c) n d (h.alloc _) ⟨W.heap.size,0,none⟩ 1 1 [.int .i64 s] rfl (z9R W _ _) (by intro u k;simp at k;subst k;rfl) (by unfold maxLen;omega) (by omega) (by simp;omega);obtain⟨a',c',rfl⟩:=zIW j;refine⟨a',c',v,r,j,((Kept.refl _ W).alloc _).grownS t (fun g' hg'=>by rw[hg'];simp),?_⟩;rintro q rfl;rcases p with e|e
 ·exact .inl e.symm
 ·injection e with e;right;rw[e];simp
theorem z8O (m:List UInt8)(hm:five m)(oa:Option Addr)(oc:Nat)(b:List OpV)(bi:b.length≤1000)(aL:lone3 m→∀o∈b,o.key=[]):zN8 m oa oc b (zQk m b):=by
 intro w ho;have ao:¬(m=sKv∨m=sSet)→lone3 m:=fun h=>by
  rcases hm with d|d|d|d|d
  ·exact .inl d
  ·exact absurd (.inl d) h
  ·exact .inr (.inl d)
  ·exact absurd (.inr d) h
  ·exact .inr (.inr d)
 obtain⟨F,ak⟩:∃F:List (List UInt8),(if m=sKv∨m=sSet then []else [[]])=F:=⟨_,rfl⟩;obtain⟨kb,ae⟩:∃kb,decide (m=sKv∨m=sSet)=kb:=⟨_,rfl⟩;have B:∀w,Calls prog 73 #[.string ⟨m.toArray⟩] w fun e w'=>e=.returned (.bool kb)∧w'=w:=fun w=>by
  by_cases c:m=sKv∨m=sSet
  ·rw[←ae,decide_eq_true c];exact zeg m c w
  ·rw[←ae,decide_eq_false c];exact zYt m (ao c) w
 have aC:Hid ((kb=true→F=[])∧(kb=false→F=[[]])):=by
  rw[←ae,←ak];constructor
  ·intro h;exact if_pos (of_decide_eq_true h)
  ·intro h;exact if_neg (of_decide_eq_false h)
 have aR:Hid (∀L,KeyD b b.length F L→L.map (·.key)=zQk m b∧∀x∈L,x.pl=plK b x.key):=fun L h=>by
  rw[←ak]at h;exact h.ends (fun c=>aL (ao c))
 clear ak ae ao aL;obtain⟨a0,c0,w0,ab,am,aQ⟩:=zaZ w w.heap.size none 0 0 [] [] none 0 0 (World.ownsRow_nil _ _ _ _) (by omega) zH;have az:Below w.heap.size w w0:=aQ.below zH (by simp[Value.ownBlock]);have ax:Hid (w0.ownsRow w.heap.size 103 2 (.slice a0 1 c0) 1 [.string ⟨#[]⟩,.slice none 0 0]∧Below w.heap.size w w0):=⟨am,az⟩;have an:(Builtin.append_ #[92,92] 92 #[.slice none 0 0,.slice (some ⟨w.heap.size,0,none⟩) 1 1]).run prog (w.alloc (.cells #[.string ⟨#[]⟩,.slice none 0 0] 103))=.ok (.slice a0 1 c0) w0:=ab;have HO:Hid (OAt w oa b):=ho;clear am az aQ ab ho;go_enter func37,ntmps37;go_wp2_with fail;refine(B _).mono ?_;rintro e l ⟨rfl,rfl⟩;go_upto_if 13 with fail;go_cut [5] (fun s5 wx=>∃(n:Nat) (a:Option Addr) (c:Nat) (L:List PE),s5=.slice a n c∧n≤1∧Hid (n=L.length∧PP wx l.heap.size a c L∧KeyD b 0 F L)∧Hid (Below l.heap.size l wx))
 case first=>
  cases kb
  ·have hK:F=[[]]:=aC.out.2 rfl;go_wp2_with (at_builtin;refine zOu rfl _ _ 92 rfl _ _ _ _ rfl rfl an ?_);go_meet;refine⟨1,a0,c0,[⟨[],none,0,[]⟩],rfl,Nat.le_refl _,⟨rfl,⟨ax.out.1,fun x hx=>?_,by simp⟩,⟨by simp,fun x hx=>?_,fun k=>?_⟩⟩,ax.out.2⟩
   ·rw[List.mem_singleton]at hx;subst hx;exact World.ownsRow_nil _ _ _ _
   ·rw[List.mem_singleton]at hx;subst hx;simp[plK]
   ·rw[hK];simp[eq_comm]
  ·have hK:F=[]:=aC.out.1 rfl;go_wp2_with fail;go_meet;refine⟨0,none,0,[],rfl,by omega,⟨rfl,⟨World.ownsRow_nil _ _ _ _,by simp,by simp⟩,⟨by simp,by simp,fun k=>?_⟩⟩,zD⟩;rw[hK];simp
 case rest=>
  obtain⟨n0,a5,bb,L0,rfl,aJ,aB,aA⟩:=hcut;clear an ax B;go_wp2_with fail;go_loopw [5,7] (fun s5 s7 wr=>∃(i n:Nat) (a:Option Addr) (c:Nat) (L:List PE),s5=.slice a n c∧s7=.int .i64 (i:Int)∧i≤b.length∧n≤i+1∧Hid (n=L.length∧PP wr l.heap.size a c L∧KeyD b i F L)∧Hid (Below l.heap.size l wr)) (fun _ s7 _=>b.length-(intOf s7).toNat)
  case atStart=>exact⟨0,n0,a5,bb,L0,rfl,rfl,by omega,by omega,aB,aA⟩
  case round=>
   obtain⟨i,n,a,c,L,rfl,rfl,hi,hn,HL,HB⟩:=hrel;clear aB aA;obtain⟨E,rfl⟩:∃E:World,E=wr:=⟨_,rfl⟩;by_cases hin:i<b.length
   ·have aS:(i:Int)<(b.length:Int):=(by omega);have bm:IntKind.i64.wrap ((i:Int)+1)=(i:Int)+1:=(by go_arith);obtain⟨o,ay⟩:∃o,b[i]?=some o:=⟨_,zC hin⟩;obtain⟨go,rfl,bc,_,aO⟩:=zRO HO.out ay;obtain⟨k,hk⟩:∃k,o.key=k:=⟨_,rfl⟩;have R:Hid (∀V:World,Below E.heap.size E V→V.cell? ⟨go,i*10+3,none⟩=some (.string ⟨k.toArray⟩)):=fun V hV=>((HB.out.trans (hV.mono HB.out.size)).cell (p:=⟨go,i*10+3,none⟩) bc).trans (aO 3 _ (by decide) (by rw[show(opvCells o)[3]?=some (.string ⟨o.key.toArray⟩)from rfl,hk]));have aF:Hid (b[i]?=some o∧o.key=k):=⟨ay,hk⟩;clear aO ay hk;go_upto_block 2 with fail;go_cut [8] (fun s8 wx=>∃(j:Nat),s8=.int .i64 (j:Int)∧j≤n∧Hid ((∀x∈L.take j,x.key<k)∧∀y,L[j]?=some y→¬y.key<k)∧Hid (Below E.heap.size E wx))
    case first=>
     go_wp2_with fail;go_loopw [8] (fun s8 wx=>∃(j:Nat),s8=.int .i64 (j:Int)∧j≤n∧Hid (∀x∈L.take j,x.key<k)∧Hid (Below E.heap.size E wx)) (fun s8 _=>n-(intOf s8).toNat)
     case atStart=>exact⟨0,rfl,by omega,fun x hx=>by simp at hx,zD⟩
     case round=>
      obtain⟨j,rfl,hj,HT,r⟩:=hrel;by_cases S:j<n
      ·have W:(j:Int)<(n:Int):=(by omega);have bl:IntKind.i64.wrap ((j:Int)+1)=(j:Int)+1:=(by go_arith);obtain⟨y,I⟩:∃y,L[j]?=some y:=⟨_,zC (by have:=HL.out.1;omega)⟩;obtain⟨g,rfl,hg,_,_,p0,_,_⟩:=HL.out.2.1.cells I;obtain⟨t,B⟩:∃t,y.key=t:=⟨_,rfl⟩;rw[B]at p0;have aH:Hid (∀V:World,Below E.heap.size E V→V.cell? ⟨g,j*2,none⟩=some (.string ⟨t.toArray⟩)):=fun V hV=>(hV.cell (p:=⟨g,j*2,none⟩) hg).trans p0;have aN:∀q,(wr.drewN q).cell? ⟨go,i*10+3,none⟩=some (.string ⟨k.toArray⟩):=fun q=>R.out _ (zqh r.out q);have a8:∀q,(wr.drewN q).cell? ⟨g,j*2,none⟩=some (.string ⟨t.toArray⟩):=fun q=>aH.out _ (zqh r.out q);have x3:=R.out wr r.out;have ba:=aH.out wr r.out;have N:Hid (L[j]?=some y∧y.key=t):=⟨I,B⟩;clear I B p0;by_cases hlt:t<k
       ·have aX:Op.bytesLess t k=true:=(by rw[bytesLess_eq];exact decide_eq_true hlt);have a9:Hid (∀x∈L.take (j+1),x.key<k):=fun x hx=>by
         rw[List.take_add_one,N.out.1]at hx;rcases List.mem_append.1 hx with hx|hx
         ·exact HT.out x hx
         ·simp at hx;subst hx;rw[N.out.2];exact hlt
        clear hlt;go_wp2_with fail;go_quiet (fail);go_wp2_with fail;go_roundw
        case rel=>exact⟨j+1,by go_num,by omega,a9,zqh r.out _⟩
        case measure=>simp[intOf];omega
       ·have aX:Op.bytesLess t k=false:=(by rw[bytesLess_eq];exact decide_eq_false hlt);have av:Hid (∀y,L[j]?=some y→¬y.key<k):=fun y' hy'=>by
         rw[N.out.1]at hy';injection hy' with hy';rw[←hy',N.out.2];exact hlt
        clear hlt;go_wp2_with fail;go_quiet (fail);go_wp2_with fail;go_meet;exact⟨j,rfl,hj,⟨HT.out,av.out⟩,zqh r.out _⟩
      ·have W:¬(j:Int)<(n:Int):=(by omega);have av:Hid (∀y,L[j]?=some y→¬y.key<k):=fun y' hy'=>by
        have d:=(zB hy').1;have:=HL.out.1;omega
       go_wp2_with fail;go_quiet (fail);go_wp2_with fail;go_meet;exact⟨j,rfl,hj,⟨HT.out,av.out⟩,zqh r.out _⟩
    case rest=>
     obtain⟨j,rfl,hj,HJ,r⟩:=hcut;obtain⟨wj,rfl⟩:∃wj:World,wj=wc:=⟨_,rfl⟩;have x3:=R.out wj r.out;have aN:∀q,(wj.drewN q).cell? ⟨go,i*10+3,none⟩=some (.string ⟨k.toArray⟩):=fun q=>R.out _ (zqh r.out q);go_upto_region 11 with fail;go_cut [59] (fun s wx=>∃nb:Bool,s=.bool nb∧Hid (if nb=true then ∀y∈(L.drop j).head?,¬y.key<k∧y.key≠k else ∃y,L[j]?=some y∧y.key=k)∧Hid (Below E.heap.size E wx))
     case first=>
      by_cases S:j=n
      ·have W:((j:Int)==(n:Int))=true:=(by simp[S]);have a6:Hid (∀y∈(L.drop j).head?,¬y.key<k∧y.key≠k):=fun y I=>by
        rw[List.drop_of_length_le (by have:=HL.out.1;omega)]at I;cases I
       clear S;go_quiet (fail);go_wp2;go_meet;exact⟨true,rfl,a6.out,zqh r.out _⟩
      ·have W:((j:Int)==(n:Int))=false:=(by simp;omega);have bh:(j:Int)<(n:Int):=(by omega);obtain⟨y,I⟩:∃y,L[j]?=some y:=⟨_,zC (by have:=HL.out.1;omega)⟩;obtain⟨g,rfl,hg,_,_,p0,_,_⟩:=HL.out.2.1.cells I;obtain⟨t,B⟩:∃t,y.key=t:=⟨_,rfl⟩;rw[B]at p0;have hp:∀V:World,Below E.heap.size E V→V.cell? ⟨g,j*2,none⟩=some (.string ⟨t.toArray⟩):=fun V hV=>(hV.cell (p:=⟨g,j*2,none⟩) hg).trans p0;have a8:∀q,(wj.drewN q).cell? ⟨g,j*2,none⟩=some (.string ⟨t.toArray⟩):=fun q=>hp _ (zqh r.out q);have ba:=hp wj r.out;have N:Hid (L[j]?=some y∧y.key=t):=⟨I,B⟩;clear hp I B p0 S;by_cases heq:t=k
       ·have hb:(t != k)=false:=(by simpa using heq);have aY:(t==k)=true:=(by simpa using heq);have HE:Hid (∃y,L[j]?=some y∧y.key=k):=⟨y,N.out.1,by rw[N.out.2];exact heq⟩;clear heq;go_quiet (fail);go_wp2;go_meet;exact⟨false,rfl,HE.out,zqh r.out _⟩
       ·have hb:(t != k)=true:=(by simpa using heq);have aY:(t==k)=false:=(by simpa using heq);have HE:Hid (∀y∈(L.drop j).head?,¬y.key<k∧y.key≠k):=fun y' hy'=>by
         rw[List.head?_drop,N.out.1]at hy';injection hy' with hy';subst hy';exact⟨HJ.out.2 y N.out.1,by rw[N.out.2];exact heq⟩
        clear heq;go_quiet (fail);go_wp2;go_meet;exact⟨true,rfl,HE.out,zqh r.out _⟩
     case rest=>
      obtain⟨nb,rfl,HN,Q⟩:=hcut;obtain⟨wz,rfl⟩:∃wz:World,wz=wc:=⟨_,rfl⟩;clear x3 aN;go_upto_if 59 with fail;go_cut [5,9] (fun s5 _ wx=>∃(X:Nat) (a':Option Addr) (c':Nat) (O:List PE) (x:PE) (D:List PE),s5=.slice a' X c'∧j<X∧X≤n+1∧Hid (O.length=j∧X=(O++x::D).length∧PP wx l.heap.size a' c' (O++x::D)∧MidK b i F O x D k)∧Hid (Below l.heap.size l wx))
      case first=>
       have v:Hid (Below l.heap.size l wz):=HB.out.trans (Q.out.mono HB.out.size);cases nb
       ·have HQ:Hid (∃(x:PE) (D:List PE),j<n∧(L.take j).length=j∧n=(L.take j++x::D).length∧PP wz l.heap.size a c (L.take j++x::D)∧MidK b i F (L.take j) x D k):=by
         obtain⟨y,I,aU⟩:=HN.out;obtain⟨d,A,z⟩:=HL.out;obtain⟨hl,he⟩:=zB I;have hd:L=L.take j++y::L.drop (j+1):=(by rw[←he,←List.drop_eq_getElem_cons hl,List.take_append_drop]);have M:=A.on Q.out;refine⟨y,L.drop (j+1),by omega,by rw[List.length_take];omega,by rw[←hd];exact d,by rw[←hd];exact M,?_⟩;rw[hd]at z;have:=z.old;rw[aU]at this;exact this
        go_wp2_with fail;go_meet;obtain⟨x,D,d,A,z,G,U⟩:=HQ.out;exact⟨n,a,c,L.take j,x,D,rfl,d,by omega,⟨A,z,G,U⟩,v⟩
       ·obtain⟨d,A,z⟩:=HL.out;have M:=A.on Q.out;rw[←List.take_append_drop j L]at M z;have J:(L.take j).length=j:=(by rw[List.length_take];omega);have K:(L.drop j).length=n-j:=(by rw[List.length_drop];omega);have aa:=z.new (k:=k) HJ.out.1 HN.out;rcases zzD A.row with ⟨e,e0⟩|⟨g,bj,e,bf,_,_⟩
        ·injection e with e1 e2 e3;subst e1;have aJ:n=0:=(by omega);have be:j=0:=(by omega);have aK:L=[]:=List.length_eq_zero_iff.1 e0;have aV:c=0:=e3;obtain⟨a1,c1,w2,a2,c2,w3,a3,Y,w4,Z,b1,H,u,C,b4⟩:=M.ins k v.out.size (by rw[List.take_append_drop];omega) (.slice none 0 0) (.slice none 0 0) (.inl ⟨by rw[aK];simp,rfl⟩) (.inl ⟨by rw[aK];simp,rfl⟩);rw[J]at Z H u;rw[K]at u;have HQ:Hid (PP w4 l.heap.size a3 Y (L.take j++⟨k,none,0,[]⟩::L.drop j)∧MidK b i F (L.take j) ⟨k,none,0,[]⟩ (L.drop j) k∧Below l.heap.size l w4∧(L.take j).length=j∧(L.drop j).length=n-j):=⟨C,aa,v.out.trans (b4.mono v.out.size),J,K⟩;have x9:=R.out wz Q.out;clear C aa b1 b4 M A z d e0 J K;subst aJ;subst be;subst aV;obtain⟨i0,al,_,_,_⟩:=info_parts zsv;have bd:=Z.symm.trans (run_append_owned_none (P:=prog) wz wz.heap.size 92 92 103 i0 2 underlying92 al (.slice none 0 0) 0 [] (World.ownsRow_nil _ _ _ _));injection bd with q1 q2;injection q1 with q3 _ q4;subst q2;subst q3;subst q4;have R2:Hid _:=H;have R3:Hid _:=u;clear Z al H u;go_upto_region 14 with fail;have H:=R2.out;go_upto_region 15 with (at_builtin;refine zOu rfl _ _ 92 rfl _ _ _ _ rfl rfl H ?_);have u:=R3.out;clear H R2 R3;go_wp2_with (at_builtin;refine zOu rfl _ _ 92 rfl _ _ _ _ rfl rfl u ?_);go_meet;obtain⟨d,A,z,G,U⟩:=HQ.out;exact⟨1,a3,Y,L.take 0,⟨k,none,0,[]⟩,L.drop 0,rfl,by omega,by omega,⟨G,by rw[zJ,List.length_cons,G,U],d,A⟩,z⟩
        ·injection e with e1 e2 e3;subst e1;subst e3;obtain⟨s3,aD,au⟩:∃s3:Value,s3=.slice (some ⟨g,if c=j then 0 else j*2,none⟩) (n-j) (c-j)∧((L.drop j=[]∧s3=.slice none 0 0)∨∃q Y,s3=.slice (some q) (L.drop j).length Y∧(L.drop j≠[]→∃g',some (⟨g,0,none⟩:Addr)=some ⟨g',0,none⟩∧q=⟨g',(L.take j).length*2,none⟩)):=by
          refine⟨_,rfl,.inr ⟨⟨g,if c=j then 0 else j*2,none⟩,c-j,by rw[K],fun hne=>⟨g,rfl,?_⟩⟩⟩;have:0<(L.drop j).length:=List.length_pos_iff.2 hne;rw[if_neg (by omega),J]
         obtain⟨a1,c1,w2,a2,c2,w3,a3,Y,w4,Z,b1,H,u,C,b4⟩:=M.ins k v.out.size (by rw[List.take_append_drop];omega) (.slice (some ⟨g,0,none⟩) (L.take j).length c) s3 (.inr ⟨g,c,rfl,rfl⟩) au;have x9:=R.out w2 (Q.out.trans (b1.mono Q.out.size));rw[J]at Z H u;rw[K]at u;have HQ:Hid (PP w4 l.heap.size a3 Y (L.take j++⟨k,none,0,[]⟩::L.drop j)∧MidK b i F (L.take j) ⟨k,none,0,[]⟩ (L.drop j) k∧Below l.heap.size l w4∧(L.take j).length=j∧(L.drop j).length=n-j):=⟨C,aa,v.out.trans (b4.mono v.out.size),J,K⟩;have bk:(j:Int)≤(c:Int):=(by omega);have S:(j:Int)≤(n:Int):=(by omega);have bn:(n:Int)≤(c:Int):=(by omega);rw[aD]at u;clear C aa b1 b4 M A z d e2 J K au aD s3;have R2:Hid _:=H;have R3:Hid _:=u;clear H u;go_upto_region 14 with (at_builtin;refine zOu rfl _ _ 92 rfl _ _ _ _ rfl rfl Z ?_);clear Z;have H:=R2.out;go_upto_region 15 with (at_builtin;refine zOu rfl _ _ 92 rfl _ _ _ _ rfl rfl H ?_);clear H R2;have u:=R3.out;clear R3;by_cases hcj:c=j
         ·rw[if_pos hcj]at u;go_wp2_with (at_builtin;refine zOu rfl _ _ 92 rfl _ _ _ _ rfl rfl u ?_);go_meet;obtain⟨d,A,z,G,U⟩:=HQ.out;exact⟨j+1+(n-j),a3,Y,L.take j,⟨k,none,0,[]⟩,L.drop j,rfl,by omega,by omega,⟨G,by rw[zJ,List.length_cons,G,U];omega,d,A⟩,z⟩
         ·rw[if_neg hcj]at u;go_wp2_with (at_builtin;refine zOu rfl _ _ 92 rfl _ _ _ _ rfl rfl u ?_);go_meet;obtain⟨d,A,z,G,U⟩:=HQ.out;exact⟨j+1+(n-j),a3,Y,L.take j,⟨k,none,0,[]⟩,L.drop j,rfl,by omega,by omega,⟨G,by rw[zJ,List.length_cons,G,U];omega,d,A⟩,z⟩
      case rest=>
       obtain⟨X,a',c',O,x,D,rfl,S,bg,HM,v⟩:=hcut;obtain⟨wv,rfl⟩:∃wv:World,wv=wc:=⟨_,rfl⟩;obtain⟨ai,aP,C,ad⟩:=HM.out;have af:(O++x::D)[j]?=some x:=(by rw[←ai];simp);obtain⟨g,rfl,hg,aW,aT,_,p1,_⟩:=C.cells af;have aj:=C.at_ x (by simp);have aZ:x.pl.length≤1000:=by
        rw[ad.pl x (by simp)];unfold plK;refine Nat.le_trans (List.length_filter_le _ _) ?_;rw[List.length_range,List.length_take];omega
       obtain⟨a7,c7,w7,ab,ag,ar,ah⟩:=zij wv l.heap.size x.va x.pl.length x.vc (zea x.pl) (i:Int) aj (by omega) v.out.size;obtain⟨s1,s2,aw⟩:=C.put ar ag ah;rw[ai]at s1 s2 aw;have aq:Below l.heap.size l w7:=v.out.trans (ar.below v.out.size (fun q hq=>(aj.lt q (by simpa using hq)).1));have aE:Kept [g] w7 (w7.setCell ⟨g,j*2+1,none⟩ (.slice a7 (x.pl.length+1) c7)):=(Kept.refl _ _).setCell (p:=⟨g,j*2+1,none⟩) (Or.inl (by simp)) _;have aM:Hid (X=(O++(⟨x.key,a7,c7,x.pl++[i]⟩:PE)::D).length∧PP (w7.setCell ⟨g,j*2+1,none⟩ (.slice a7 (x.pl.length+1) c7)) l.heap.size (some ⟨g,0,none⟩) c' (O++⟨x.key,a7,c7,x.pl++[i]⟩::D)∧KeyD b (i+1) F (O++⟨x.key,a7,c7,x.pl++[i]⟩::D)):=⟨by rw[aP];simp,aw,ad.next aF.out.1 aF.out.2 ad.key rfl⟩;have a4:Hid (Below l.heap.size l (w7.setCell ⟨g,j*2+1,none⟩ (.slice a7 (x.pl.length+1) c7))):=aq.trans (aE.below aq.size (by simp;exact aW));have W:(j:Int)<(X:Int):=(by omega);obtain⟨LN,aI⟩:∃LN,LN=O++(⟨x.key,a7,c7,x.pl++[i]⟩:PE)::D:=⟨_,rfl⟩;rw[←aI]at aM;clear aI aw aq aE ag ar ah aj af C ad ai aP HM aT aZ;generalize x.va=va at*;generalize x.vc=vc at*;generalize x.pl.length=vn at*;go_wp2_with (at_builtin;refine zOu rfl _ _ 101 rfl _ _ _ _ rfl rfl ab ?_);go_roundw
       case rel=>exact⟨i+1,X,some ⟨g,0,none⟩,c',LN,rfl,by go_num,by omega,by omega,aM,a4⟩
       case measure=>simp[intOf];omega
   ·have aS:¬(i:Int)<(b.length:Int):=(by omega);obtain rfl:i=b.length:=(by omega);have HF:Hid (n=(zQk m b).length∧PtAt E a b (zQk m b)):=by
     obtain⟨d,A,z⟩:=HL.out;obtain⟨G,U⟩:=aR.out L z;exact⟨by rw[←G,List.length_map];exact d,A.ends G U⟩
    go_wp2_with fail;go_ret;exact⟨a,⟨c,by rw[←HF.out.1];rfl⟩,HF.out.2,HB.out⟩
open srch (vAg opAg tI OAt zOu idsT sRej flt qKey zD5)
theorem zpo (m:List UInt8)(i:five m)(k:List UInt8)(a:Option Addr)(d b:Nat)(w:World)(g:k.length≤10000000):
 Calls prog 41 #[.string ⟨m.toArray⟩,.agg #[.string ⟨k.toArray⟩,.slice a d b]] w fun e w'=>e=.returned (.string ⟨(zQf m k).toArray⟩)∧Below w.heap.size w w':=by
 unfold zQf;rcases i with h|h|h|h|h
 ·rw[if_neg (lone3.not (.inl h))];exact zOe m (.inl h) k a d b w
 ·rw[if_pos (.inl h)];exact z1z m (.inl h) k a d b w g
 ·rw[if_neg (lone3.not (.inr (.inl h)))];exact zOe m (.inr (.inl h)) k a d b w
 ·rw[if_pos (.inr h)];exact z1z m (.inr h) k a d b w g
 ·rw[if_neg (lone3.not (.inr (.inr h)))];exact zOe m (.inr (.inr h)) k a d b w
theorem zfr {m:List UInt8}{b:List OpV}{d n:List (List UInt8)}{k k' x:List UInt8}(hK:zQk m b=d++k::n)(g:k'∈d):(zRS++zQf m k++z5z++x).take (zRS++zQf m k'++z5z).length≠zRS++zQf m k'++z5z:=by
 intro e;have l:=zOB m b;have i:m=sKv∨m=sSet:=by
  apply Decidable.byContradiction;intro h;unfold zQk at hK;rw[if_neg h]at hK;have a:=congrArg List.length hK;have o:=List.length_pos_of_mem g;simp at a;omega
 have j:k'≠k:=by
  rintro rfl;rw[hK,List.nodup_append]at l;exact l.2.2 k' g k' (by simp) rfl
 unfold zQf at e;rw[if_pos i,if_pos i]at e;have a:=List.take_append_drop (zRS++qKey k'++z5z).length (zRS++qKey k++z5z++x);rw[e]at a;simp only [List.append_assoc]at a;exact j (zSOC (List.append_cancel_left a)).1
theorem zVF {w:World}{d:Nat}{a:Option Addr}{c:Nat}{b:List OpV}{K:List (List UInt8)}{f:List UInt8→List Cf×Bool}(h:w.ownsRow d 106 4 (.slice a K.length c) K.length (K.flatMap (vdOf b f))){i:Nat}{k:List UInt8}(n:K[i]?=some k):
 ∃g,a=some ⟨g,0,none⟩∧g<w.heap.size∧w.cell? ⟨g,i*4,none⟩=some (.bool (f k).2)∧w.cell? ⟨g,i*4+1,none⟩=some (.bool (isP (flt k b) (f k).1))∧w.cell? ⟨g,i*4+2,none⟩=some (.int .i64 (mostP (f k).1:Int))∧w.cell? ⟨g,i*4+3,none⟩=some (.int .i64 ((f k).1.length:Int)):=by
 have s:=(zB n).1;have m:∀(K:List (List UInt8)) (i j:Nat) (k:List UInt8),K[i]?=some k→j<4→(K.flatMap (vdOf b f))[i*4+j]?=(vdOf b f k)[j]?:=by
  intro K
  induction K with
  |nil=>intro i j k h;simp at h
  |cons x r ih=>
    intro i j k h l;rw[List.flatMap_cons];have p:(vdOf b f x).length=4:=rfl;cases i with
    |zero=>
      simp at h;subst h;rw[List.getElem?_append_left (by omega)];congr 1;omega
    |succ i=>
      rw[List.getElem?_append_right (by omega),p,show(i+1)*4+j-4=i*4+j by omega];exact ih i j k (by simpa using h) l
 rcases zzD h with ⟨_,e⟩|⟨g,q,e,_,_,o⟩
 ·omega
 ·injection e with e;subst e;have cell:∀(j:Nat) (u:Value),j<4→(vdOf b f k)[j]?=some u→w.cell? ⟨g,i*4+j,none⟩=some u:=fun j u l hu=>by
   have:=h.cells (g:=g) rfl (i*4+j) u ((m K i j k n l).trans hu);rw[Addr.add_lit,Nat.zero_add]at this;exact this
  exact⟨g,rfl,o,cell 0 _ (by decide) rfl,cell 1 _ (by decide) rfl,cell 2 _ (by decide) rfl,cell 3 _ (by decide) rfl⟩
theorem ztz (m t:List UInt8)(hm:five m)(b:Int)(d:List OpV)(aB:zvj m (linesP (nats t)) 0 []=.inl d)(aS:∀C U,zN8 m C U d (zQk m d))(aP:(zQk m d).length≤1000)(s:List UInt8)(hG:FitG m t b d s)(w:World)(a5:Mods w)(bc:10≤w.heap.size)(ht:t.length≤2000000):
 Calls prog 19 #[.string ⟨t.toArray⟩,.string ⟨m.toArray⟩,.int .i64 b,.string ⟨s.toArray⟩] w fun e w'=>e=.returned (.bool true)∧Below w.heap.size w w':=by
 have L:s.length≤90000000:=Nat.le_trans hG.len (by decide);have bu:m.length≤8:=by rcases hm with rfl|rfl|rfl|rfl|rfl<;>decide
 have aU:=ze8 ⟨t.toArray⟩ ⟨m.toArray⟩ w a5 bc (by show t.toArray.size≤_;simpa using ht) (by show m.toArray.size≤_;simp;omega);have a8:z3t m modTab=true:=by rcases hm with rfl|rfl|rfl|rfl|rfl<;>decide
 have bj:=zOB m d;have a6:=hG.kn.few;have HG:Hid _:=hG;have aH:=fun y K2 k k' x (hK:zQk m d=y++k::K2) hk=>zfr (x:=x) (k':=k') hK hk;have aR:Hid _:=aH;have aM:=fun k (h:k∈zQk m d)=>zhm h hG.klen;have HF:Hid _:=hG.fit;clear hG aH;generalize zQk m d=K at*;have am:Hid _:=aM;have aF:Hid _:=aS;clear aS aM;go_enter func19,ntmps19;go_wp2_with fail;refine aU.mono ?_;rintro e w1 ⟨aT,aY⟩;obtain⟨v,W,rfl⟩:∃v,w1.ownsRow w.heap.size 27 10 v d.length (opsRow d)∧e=.returned (.tuple #[v,.int .i64 0,.int .i64 0,.int .i64 0]):=by
  rcases aY with ⟨h,_⟩|⟨_,⟨bl,v,h,_,ho,he⟩|⟨l',r',h,he⟩⟩
  ·rw[a8]at h;cases h
  ·rw[show lets (⟨t.toArray⟩:ByteArray)=nats t from by rw[zzs],aB]at h;injection h with h;subst h;exact⟨v,ho,he⟩
  ·rw[show lets (⟨t.toArray⟩:ByteArray)=nats t from by rw[zzs],aB]at h;cases h
 obtain⟨C,U,rfl⟩:=zIW W;have HO:Hid (OAt w1 C d):=zGf W;have aw:Hid _:=aT;have aO:=aF.out C U w1 HO.out;clear aT aY aU W aB;go_wp2_with fail;refine aO.mono ?_;rintro e w2 ⟨a2,c2,rfl,an,aj⟩;have az:Hid (OAt w2 C d):=HO.out.below aj;have ah:Hid (Below w.heap.size w w2):=aw.out.trans (aj.mono aw.out.size);have aW:Hid (PtAt w2 a2 d K):=an;have aZ:=zHE m hm C U d K bj aP a2 c2 w2 az.out an a6 HG.out.kn.ok;clear aO aj an;go_wp2_with fail;refine aZ.mono ?_;rintro e n ⟨f,a3,c3,hC,rfl,aQ,Z⟩;have aD:Hid (OAt n C d):=az.out.below Z;have N:Hid (Below w.heap.size w n):=ah.out.trans (Z.mono ah.out.size);have bh:Hid (PtAt n a2 d K):=aW.out.below Z;have a7:Hid (n.ownsRow w2.heap.size 106 4 (.slice a3 K.length c3) K.length (K.flatMap (vdOf d f))):=aQ;have HC:Hid (CfK m d K f):=hC;have hS:manyK K f≤600000000:=by have:=hC.many;omega
 have aa:∀b:Int,min b 1000000<((2*(d.length+1)*manyK K f:Nat):Int)→min b 1000000<2*((d.length:Int)+1)*(manyK K f:Int):=fun b h=>by push_cast at h;exact h
 have a4:Hid (manyK K f=(K.map (fun k=>(f k).1.length)).sum):=rfl;clear aZ Z aQ hC az aW ah HO aw;generalize manyK K f=S at*;rcases HF.out with ⟨rfl,hU⟩|⟨Q,pl,J,hQ,hn,au,bb,M⟩|⟨y,K2,k,Q,pl,cE,hK,J,hQ,hn,au,M,aE,aN⟩
 ·have bf:=aa b (by have:=hU f (fun k hk=>(HC.out k hk).1);rw[←a4.out]at this;exact this);have bo:IntKind.i64.wrap ((d.length:Int)+1)=(d.length:Int)+1:=j64 (by omega) (by omega);have br:IntKind.i64.wrap (2*((d.length:Int)+1))=2*((d.length:Int)+1):=j64 (by omega) (by omega);have bk:0≤2*((d.length:Int)+1)*(S:Int)∧2*((d.length:Int)+1)*(S:Int)≤2002*600000000:=by
   refine⟨Int.mul_nonneg (by omega) (by omega),?_⟩;exact Int.mul_le_mul (by omega) (by omega) (by omega) (by omega)
  have bq:IntKind.i64.wrap (2*((d.length:Int)+1)*(S:Int))=2*((d.length:Int)+1)*(S:Int):=j64 (by omega) (by omega);have bm:decide (min b 1000000<2*((d.length:Int)+1)*(S:Int))=true:=by simpa using bf
  clear hU aa a4 HF HG aR;unfold sUnk;go_wp2_with fail;go_ret;exact⟨rfl,N.out⟩
 ·have be:(s==[85,78,75,78,79,87,78,10])=false:=by
   rw[J,beq_eq_false_iff_ne];unfold sOrdJ;intro e;simp at e
  have q:=fun w=>zUm s sOrdJ (idsT Q) J L w;have a1:=fun w ho=>zJZ m hm C U d Q K aP (aF.out C U) pl w ho HG.out.kn hQ hn au bb M;unfold sOrdJ at q;clear J aa M;go_wp2_with fail;refine(q _).mono ?_;rintro e w4 ⟨rfl,I⟩;have ai:=a1 w4 (aD.out.below I);have a0:Hid (Below w.heap.size w w4):=N.out.trans (I.mono N.out.size);clear q a1 I;go_wp2_with fail;refine ai.mono ?_;rintro e w5 ⟨rfl,z⟩;have bi:Hid (Below w.heap.size w w5):=a0.out.trans (z.mono a0.out.size);clear ai z;go_wp2_with fail;go_ret;exact⟨rfl,bi.out⟩
 ·have be:(s==[85,78,75,78,79,87,78,10])=false:=by
   rw[J,beq_eq_false_iff_ne];unfold zRS;intro e;simp at e
  have aL:s.take sOrdJ.length≠sOrdJ:=by
   rw[J];unfold zRS sOrdJ;intro e;simp at e
  have av:=fun w=>zgE s sOrdJ aL L (by decide) w;have q:=fun w=>zUm s (zRS++zQf m k++z5z) (idsT Q) (by rw[J]) L w;have G:=fun k' (h:k'∈y) w=>zgE s (zRS++zQf m k'++z5z) (by rw[J,List.append_assoc (zRS++zQf m k++z5z)];exact aR.out y K2 k k' _ hK h) L (by
   have h1:=zNR m k';have h2:=am.out k' (by rw[hK];simp[h]);simp[zRS,z5z];omega) w
  have A:=fun k (h:k∈K) B vn D w=>zpo m hm k B vn D w (Nat.le_trans (am.out k h) (by decide));have H:=fun B D w ho hv=>zyl m hm C B U D d Q k pl (f k).2 (isP (flt k d) (f k).1) (mostP (f k).1) (f k).1.length cE w ho hv HG.out.kn hQ hn au (aE (f k).1 (f k).2 (HC.out k (by rw[hK];simp)).1) M;have ae:∀k'∈y,(f k').2=true→isP (flt k' d) (f k').1=true:=fun k' h he=>aN k' h (f k').1 (f k').2 (HC.out k' (by rw[hK];simp[h])).1 he;have aC:Hid (y.length<K.length):=by rw[hK];simp[Hid]
  have HK:Hid _:=hK;have ay:Hid _:=q;have ad:Hid _:=G;have aA:Hid _:=A;have F:Hid _:=H;have ar:Hid _:=ae;have al:Hid (∀k'∈K,(zQf m k').length≤49000000):=fun k' h=>by
   have h1:=zNR m k';have h2:=am.out k' h;omega
  unfold sOrdJ at av;clear J aL aE aN ae q G A H M hK aa;go_wp2_with fail;refine(av _).mono ?_;rintro e w4 ⟨rfl,I⟩;have B4:Hid (Below n.heap.size n w4):=I;clear av I;go_wp2_with fail;go_loopw [18] (fun s18 wr=>∃(i:Nat),s18=.int .i64 (i:Int)∧i≤y.length∧Hid (Below n.heap.size n wr)) (fun s18 _=>y.length-(intOf s18).toNat)
  case atStart=>exact⟨0,rfl,by omega,B4⟩
  case round=>
   obtain⟨i,rfl,hi,HB⟩:=hrel;have bp:i<K.length:=Nat.lt_of_le_of_lt hi aC.out;have bn:(i:Int)<(K.length:Int):=(by omega);have bt:IntKind.i64.wrap ((i:Int)+1)=(i:Int)+1:=(by go_arith);obtain⟨j,O⟩:∃j,K[i]?=some j:=⟨_,zC (by omega)⟩;obtain⟨g,B,D,rfl,hg,p0,p1,aX⟩:=bh.out i j O;obtain⟨o,rfl,ab,u0,u1,u2,u3⟩:=zVF a7.out O;have X:=List.mem_of_getElem? O;have A:=fun w=>aA.out j X B (plK d j).length D w;have bw:=al.out j X;obtain⟨WT,ak⟩:∃WT,zRS++zQf m j++z5z=WT:=⟨_,rfl⟩;have bs:((⟨#[73,76,76,69,71,65,76,32,112,97,114,116,61]⟩:ByteArray)++⟨(zQf m j).toArray⟩)++⟨#[32,108,111,110,103,101,115,116,61]⟩=⟨WT.toArray⟩:=by
    rw[←ak];apply ByteArray.ext;simp[zRS,z5z]
   have ag:Hid _:=ak;have ao:Hid (∀V:World,Below n.heap.size n V→V.cell? ⟨g,i*2,none⟩=some (.string ⟨j.toArray⟩)∧V.cell? ⟨g,i*2+1,none⟩=some (.slice B (plK d j).length D)∧V.cell? ⟨o,i*4,none⟩=some (.bool (f j).2)∧V.cell? ⟨o,i*4+1,none⟩=some (.bool (isP (flt j d) (f j).1))∧V.cell? ⟨o,i*4+2,none⟩=some (.int .i64 (mostP (f j).1:Int))∧V.cell? ⟨o,i*4+3,none⟩=some (.int .i64 ((f j).1.length:Int))):=fun V hV=>
    ⟨(hV.cell (p:=⟨g,i*2,none⟩) hg).trans p0,(hV.cell (p:=⟨g,i*2+1,none⟩) hg).trans p1,(hV.cell (p:=⟨o,i*4,none⟩) ab).trans u0,(hV.cell (p:=⟨o,i*4+1,none⟩) ab).trans u1,(hV.cell (p:=⟨o,i*4+2,none⟩) ab).trans u2,(hV.cell (p:=⟨o,i*4+3,none⟩) ab).trans u3⟩
   have ba:Hid (∀V:World,Below n.heap.size n V→IAt V B (plK d j)):=fun V hV=>aX.below hV;clear ak p0 p1 u0 u1 u2 u3 aX;obtain⟨q0,q1,_,_,_,_⟩:=ao.out wr HB.out;have af:Hid _:=O;clear O X;by_cases hlast:i=y.length
   ·obtain rfl:j=k:=by
     have h:=af.out;rw[HK.out,hlast]at h;simp at h;exact h.symm
    clear hlast;have q:=ay.out;rw[ag.out]at q;have H:=F.out B D;generalize zQf m j=nk at*;generalize (plK d j).length=vn at*;generalize (f j).2=kn at*;generalize isP (flt j d) (f j).1=is at*;generalize mostP (f j).1=mo at*;generalize (f j).1.length=lc at*;unfold vdAg at H;clear ay ad aA F ar al;go_wp2_with fail;refine(A _).mono ?_;rintro e w5 ⟨rfl,z⟩;have B5:Hid (Below n.heap.size n w5):=HB.out.trans (z.mono HB.out.size);clear z A q0 q1;go_wp2_with fail;refine(q _).mono ?_;rintro e u ⟨rfl,R⟩;have E:Hid (Below n.heap.size n u):=B5.out.trans (R.mono B5.out.size);have aK:Hid (∀V:World,Below u.heap.size u V→V.cell? ⟨g,i*2,none⟩=some (.string ⟨j.toArray⟩)∧V.cell? ⟨g,i*2+1,none⟩=some (.slice B vn D)∧V.cell? ⟨o,i*4,none⟩=some (.bool kn)∧V.cell? ⟨o,i*4+1,none⟩=some (.bool is)∧V.cell? ⟨o,i*4+2,none⟩=some (.int .i64 (mo:Int))∧V.cell? ⟨o,i*4+3,none⟩=some (.int .i64 (lc:Int))):=fun V hV=>ao.out V (E.out.trans (hV.mono E.out.size));have F:Hid (∀V:World,Below u.heap.size u V→Calls prog 42 #[.string ⟨m.toArray⟩,.slice C d.length U,.agg #[.string ⟨j.toArray⟩,.slice B vn D],.agg #[.bool kn,.bool is,.int .i64 (mo:Int),.int .i64 (lc:Int)],.string ⟨(idsT Q).toArray⟩] V fun e w'=>e=.returned (.bool true)∧Below V.heap.size V w'):=fun V hV=>by
     have h3:=E.out.trans (hV.mono E.out.size);exact H V (aD.out.below h3) (ba.out V h3)
    obtain⟨q0,q1,q2,q3,q4,q5⟩:=aK.out u (zD);have aJ:Hid (Below u.heap.size u u.drew):=(zD).drew;have aI:=F.out u.drew aJ.out;clear R q H F;go_wp2_with fail;go_cut [8] (fun a wx=>a=.bool true∧Below u.heap.size u wx)
    case first=>
     go_region_held3 (fun w'=>w'.cell? ⟨g,i*2,none⟩=some (.string ⟨j.toArray⟩)∧w'.cell? ⟨g,i*2+1,none⟩=some (.slice B vn D)∧w'.cell? ⟨o,i*4,none⟩=some (.bool kn)∧w'.cell? ⟨o,i*4+1,none⟩=some (.bool is)∧w'.cell? ⟨o,i*4+2,none⟩=some (.int .i64 (mo:Int))∧w'.cell? ⟨o,i*4+3,none⟩=some (.int .i64 (lc:Int))) (first|(with_reducible exact bg)|go_keep) (first
      | (go_at_call 42;refine aI.mono ?_;rintro e w7 ⟨rfl,P⟩;have ax:=aJ.out.trans P;have bg:=aK.out _ ax;have a9:=srch.Hid.mk' ax;clear P ax aI))
     go_wp2;go_meet;exact⟨rfl,a9.out⟩
    case rest=>
     obtain⟨rfl,P⟩:=hcut;have bd:Hid (Below w.heap.size w wc):=N.out.trans ((E.out.trans (P.mono E.out.size)).mono N.out.size);clear P;go_wp2_with fail;go_ret;exact⟨rfl,bd.out⟩
   ·have aV:j∈y:=by
     have h:=af.out;rw[HK.out,List.getElem?_append_left (by omega)]at h;exact List.mem_of_getElem? h
    have G:=fun w=>ad.out j aV w;have aq:=ar.out j aV;rw[ag.out]at G;generalize zQf m j=nk at*;generalize (plK d j).length=vn at*;generalize (f j).2=kn at*;generalize isP (flt j d) (f j).1=is at*;have Y:Hid (i+1≤y.length):=Nat.lt_of_le_of_ne hi hlast;clear ay ad aA F ar al ag af hlast;go_wp2_with fail;refine(A _).mono ?_;rintro e w5 ⟨rfl,z⟩;have B5:Hid (Below n.heap.size n w5):=HB.out.trans (z.mono HB.out.size);clear z A q0 q1;go_wp2_with fail;refine(G _).mono ?_;rintro e u ⟨rfl,R⟩;have E:Hid (Below n.heap.size n u):=B5.out.trans (R.mono B5.out.size);obtain⟨q0,q1,q2,q3,q4,q5⟩:=ao.out u E.out;clear R G q4 q5 q0 q1;cases kn
    ·clear aq;go_wp2_with fail;go_roundw
     case rel=>exact⟨i+1,by go_num,Y.out,E⟩
     case measure=>have h1:i+1≤y.length:=Y.out;simp[intOf];omega
    ·obtain rfl:is=true:=aq rfl;clear aq;go_wp2_with fail;go_roundw
     case rel=>exact⟨i+1,by go_num,Y.out,E⟩
     case measure=>have h1:i+1≤y.length:=Y.out;simp[intOf];omega
open srch (vAg opAg tI OAt zOu idsT sRej zkp Pow zVT say zNr zAR sNoModel zVe)
theorem z0B (m t:List UInt8)(x:five m)(b:Int)(l r:Int)(q:zvj m (linesP (nats t)) 0 []=.inr (l,r))(u:r≠0)(J:0≤l∧l≤129∧1≤r∧r≤8)(w:World)(p:Mods w)(y:10≤w.heap.size)(C:t.length≤2000000):
 Calls prog 19 #[.string ⟨t.toArray⟩,.string ⟨m.toArray⟩,.int .i64 b,.string ⟨(sRej l r).toArray⟩] w fun e w'=>e=.returned (.bool true)∧Below w.heap.size w w':=by
 have H:m.length≤8:=by rcases x with rfl|rfl|rfl|rfl|rfl<;>decide
 have k:=ze8 ⟨t.toArray⟩ ⟨m.toArray⟩ w p y (by show t.toArray.size≤_;simpa using C) (by show m.toArray.size≤_;simp;omega);have s:z3t m modTab=true:=by rcases x with rfl|rfl|rfl|rfl|rfl<;>decide
 have o:=fun w=>zM7 l w (by omega) (by omega);have d:=fun w=>zM7 r w (by omega) (by omega);have E:=zCU l (by omega) (by omega);have F:=zCU r (by omega) (by omega);have I:=srch.rej_ba l r;have A:(r==0)=false:=by simpa using u
 generalize hRJ:sRej l r=rj at*;generalize Lib.itoa l=sl at*;generalize Lib.itoa r=sr at*;clear hRJ;go_enter func19,ntmps19;go_wp2_with fail;refine k.mono ?_;rintro e N ⟨n,i⟩;obtain rfl:e=.returned (.tuple #[.slice none 0 0,.int .i64 l,.int .i64 r,.int .i64 0]):=by
  rcases i with ⟨h,_⟩|⟨_,⟨G,v,h,_⟩|⟨M,K,h,D⟩⟩
  ·rw[s]at h;cases h
  ·rw[show lets (⟨t.toArray⟩:ByteArray)=nats t from by rw[zzs],q]at h;cases h
  ·rw[show lets (⟨t.toArray⟩:ByteArray)=nats t from by rw[zzs],q]at h;injection h with h;injection h with h1 h2;subst h1;subst h2;exact D
 have g:Hid _:=n;clear n i k;go_wp2_with fail;refine(o _).mono ?_;rintro e L ⟨rfl,a⟩;go_wp2_with fail;refine(d _).mono ?_;rintro e B ⟨rfl,j⟩;have z:Hid (Below w.heap.size w B):=g.out.trans ((a.trans (j.mono a.size)).mono g.out.size);clear a j o d;go_wp2_with fail;go_ret;exact⟨rfl,z.out⟩
theorem zeT (m t:List UInt8)(n:z3t m modTab=false)(b:Int)(w:World)(i:Mods w)(k:10≤w.heap.size)(o:t.length≤2000000)(l:m.length≤2000000):
 Calls prog 19 #[.string ⟨t.toArray⟩,.string ⟨m.toArray⟩,.int .i64 b,.string ⟨sNoModel.toArray⟩] w fun e w'=>e=.returned (.bool true)∧Below w.heap.size w w':=by
 have a:=ze8 ⟨t.toArray⟩ ⟨m.toArray⟩ w i k (by show t.toArray.size≤_;simpa using o) (by show m.toArray.size≤_;simpa using l);unfold sNoModel;go_enter func19,ntmps19;go_wp2_with fail;refine a.mono ?_;rintro e p ⟨g,d⟩;obtain rfl:e=.returned (.tuple #[.slice none 0 0,.int .i64 0,.int .i64 0,.int .i64 1]):=by
  rcases d with ⟨_,h⟩|⟨h,_⟩
  ·exact h
  ·rw[n]at h;cases h
 have j:Hid _:=g;clear g d a;go_wp2_with fail;go_ret;exact⟨rfl,j.out⟩
theorem z1E (t m:List UInt8)(b:Int)(I:wf64 b)(w:World)(x:Glob w)(G:Pow w)(q:Mods w)(j:t.length≤2000000)(B:m.length≤2000000):
 Calls prog 9 #[.string ⟨t.toArray⟩,.string ⟨m.toArray⟩,.int .i64 b] w fun e w'=>Below w.heap.size w w'∧e=.returned (.bool true):=by
 have p:=x.errs.lt;have hR:=zVT t m b w x G j I;go_enter func9,ntmps9;go_wp2_with fail;refine hR.mono ?_;rintro e a ⟨A,C,rfl,g⟩;have y:Calls prog 19 #[.string ⟨t.toArray⟩,.string ⟨m.toArray⟩,.int .i64 b,.string ⟨A.toArray⟩] a fun e w'=>e=.returned (.bool true)∧Below a.heap.size a w':=by
  have i:=q.below (g.mono p);have s:10≤a.heap.size:=Nat.le_trans p g.size;rcases C with ⟨h,rfl⟩|⟨d,⟨l,r,h,z,rfl⟩|⟨k,v,h,H,rfl⟩⟩
  ·exact zeT m t (by rw[zrg];exact h) b a i s j B
  ·have u:=zAR h;rw[zyfu d]at h;exact z0B m t (zVe d) b l r h z u a i s j
  ·have hG:=zrq t m j b k v h H;have E:=zVe d;rw[zyfu d]at h;exact ztz m t E b k h (fun oa oc=>z8O m E oa oc k hG.kn.few hG.none) (z9m m hG.kn.few) (say v) hG a i s j
 have n:Hid _:=g;clear hR C g;go_wp2_with fail;refine y.mono ?_;rintro e F ⟨rfl,o⟩;have D:Hid (Below w.heap.size w F):=n.out.trans (o.mono n.out.size);clear y o;go_wp2_with fail;go_ret;exact⟨D.out,rfl⟩
end Go.Proofs.YtoeoinpaidhmcaaGreatDoor.jd
