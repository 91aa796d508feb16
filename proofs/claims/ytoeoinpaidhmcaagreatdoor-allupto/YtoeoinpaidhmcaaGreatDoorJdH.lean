/- Several texts in one. -/
import Derived.Test.YtoeoinpaidhmcaaGreatDoorJdC
import Derived.Test.YtoeoinpaidhmcaaGreatDoorSrchFF
set_option maxHeartbeats 8000000
set_option maxRecDepth 100000
namespace Go.Proofs.YtoeoinpaidhmcaaGreatDoor.jd
open Go.RowKit
open srch (vAg opAg tI OAt)
theorem zq2 (c:Cf)(w:World)(F:c.1.length≤1000)(E:c.2.length≤8000000):
 Calls Tryz.prog 169 #[cAg c] w fun e w'=>(∃n:Nat,n<4093∧e=.returned (.int .i64 (n:Int)))∧Below w.heap.size w w':=by
 unfold cAg;obtain⟨a,v,d,b⟩:∃a,w.alloc (.cells #[.string ⟨c.1.toArray⟩,.string ⟨c.2.toArray⟩] 160)=a∧Below w.heap.size w a∧a.heap[w.heap.size]?=some (.cells #[.string ⟨c.1.toArray⟩,.string ⟨c.2.toArray⟩] 160 (0,0)):=⟨_,rfl,zA _ _,ziF _ _ _ rfl⟩;have c0:a.cell? ⟨w.heap.size,0,none⟩=some (.string ⟨c.1.toArray⟩):=zBk b 0;have c1:a.cell? ⟨w.heap.size,1,none⟩=some (.string ⟨c.2.toArray⟩):=zBk b 1;obtain⟨s,h⟩:∃s,c.1++c.2=s:=⟨_,rfl⟩;have C:(⟨c.1.toArray⟩:ByteArray)++⟨c.2.toArray⟩=⟨s.toArray⟩:=by rw[japp,h]
 have B:s.length≤8001000:=by rw[←h];simp;omega
 have o:Hid _:=d;clear d b h;go_enter Tryz.func169,Tryz.ntmps169;go_wp2_with fail;go_loop [4,5] (fun n i=>∃(x j:Nat),n=.int .i64 (x:Int)∧i=.int .i64 (j:Int)∧x<4093∧j≤s.length) (fun _ i=>s.length-(intOf i).toNat)
 case atStart=>exact⟨0,0,rfl,rfl,by omega,by omega⟩
 case round=>
  obtain⟨x,j,rfl,rfl,r,G⟩:=hrel;by_cases hin:j<s.length
  ·have k:(j:Int)<(s.length:Int):=(by omega);have p:j<(⟨s.toArray⟩:ByteArray).size:=(by show j<s.toArray.size;simpa using hin);have m:((⟨s.toArray⟩:ByteArray)[j]'p).toNat<256:=UInt8.toNat_lt _;have u:IntKind.i64.wrap ((j:Int)+1)=(j:Int)+1:=(by go_arith);have t:IntKind.i64.wrap (31*(x:Int))=31*(x:Int):=j64 (by omega) (by omega);obtain⟨y,q⟩:∃y,((⟨s.toArray⟩:ByteArray)[j]'p).toNat=y:=⟨_,rfl⟩;rw[q]at m;have A:IntKind.i64.wrap (y:Int)=(y:Int):=j64 (by omega) (by omega);have D:IntKind.i64.wrap (31*(x:Int)+(y:Int))=31*(x:Int)+(y:Int):=j64 (by omega) (by omega);have l:Int.tmod (31*(x:Int)+(y:Int)) 4093=(((31*x+y)%4093:Nat):Int):=(by rw[Int.tmod_eq_emod_of_nonneg (by omega)];omega);have g:(31*x+y)%4093<4093:=Nat.mod_lt _ (by omega);generalize (31*x+y)%4093=z at l g;go_wp2_with fail;go_round
   case rel=>exact⟨z,j+1,by go_num,by go_num,g,by omega⟩
   case measure=>simp[intOf];omega
  ·have k:¬(j:Int)<(s.length:Int):=(by omega);go_wp2_with fail;go_ret;exact⟨⟨x,r,rfl⟩,o.out⟩
open Tryz
open srch (vAg opAg tI OAt zOu)
theorem zmP {S:List Nat}{w w':World}{a:Nat}{e:TypeId}{b:Nat}{v:Value}{n:Nat}{d:List Value}(h:w.ownsRow a e b v n d)(k:Kept S w w')(i:∀g,v.ownBlock=some g→g∉S):w'.ownsRow a e b v n d:=by
 refine⟨h.1,?_⟩;rcases h.2 with hn|⟨g,cap,cur,hv,hbg,hb,rest⟩
 ·exact .inl hn
 ·exact .inr ⟨g,cap,cur,hv,hbg,(k.block g (zBq hb) (i g (by rw[hv];rfl))).trans hb,rest⟩
theorem jne {w:World}{j d:Nat}{e p:TypeId}{k i:Nat}{v o:Value}{n s:Nat}{q m:List Value}(h:w.ownsRow j e k v n q)(r:w.ownsRow d p i o s m)(l:e≠p):∀g,v.ownBlock=some g→g∉o.ownBlock.toList:=by
 intro g b a;rw[Option.mem_toList]at a;rcases h.2 with hn|⟨g1,cap,cur,hv,_,hb1,_⟩
 ·rw[hn.1]at b;cases b
 rcases r.2 with hn|⟨g2,cap2,cur2,hv2,_,hb2,_⟩
 ·rw[hn.1]at a;cases a
 rw[hv]at b;rw[hv2]at a;have u:g1=g:=by injection b
 have t:g2=g:=by injection a
 subst u;subst t;rw[hb1]at hb2;injection hb2 with hb2;injection hb2 with _ hb2 _;exact l hb2
def zfO (c:Cf):List Value:=[.string ⟨c.1.toArray⟩,.string ⟨c.2.toArray⟩]
def zKT (l:List Cf):List Value:=l.flatMap zfO
def zea (l:List Nat):List Value:=l.map fun(k:Nat)=>Value.int .i64 (k:Int)
theorem zaw (l:List Cf)(i:Nat)(c:Cf)(h:l[i]?=some c):(zKT l)[i*2]?=some (.string ⟨c.1.toArray⟩)∧(zKT l)[i*2+1]?=some (.string ⟨c.2.toArray⟩):=by
 induction l generalizing i with
 |nil=>simp at h
 |cons d r ih=>
   have e:zKT (d::r)=zfO d++zKT r:=(by simp[zKT]);have g:(zfO d).length=2:=rfl;rw[e];cases i with
   |zero=>simp at h;subst h;simp[zfO]
   |succ i=>
     obtain⟨a,b⟩:=ih i (by simpa using h);refine⟨?_,?_⟩
     ·rw[List.getElem?_append_right (by omega),g,show(i+1)*2-2=i*2 by omega,a]
     ·rw[List.getElem?_append_right (by omega),g,show(i+1)*2+1-2=i*2+1 by omega,b]
theorem zNI (l:List Cf)(c:Cf):zKT (l++[c])=zKT l++zfO c:=by simp[zKT]
theorem zyv (l:List Nat)(c:Nat):zea (l++[c])=zea l++[.int .i64 (c:Int)]:=by simp[zea]
structure FI (b:Nat)(w:World)(cs:Array Value)(vL vN:Value)(L:List Cf)(nx:List Nat)(ls:Nat→Nat):Prop where
 blk:w.heap[b]?=some (.cells cs 298 (0,0))
 sz:cs.size=4098
 c0:cs[0]?=some vL
 c1:∀k,k<4096→cs[1+k]?=some (.int .i64 (ls k:Int))
 c2:cs[4097]?=some vN
 lst:∀k,k<4096→ls k≤L.length
 rowL:w.ownsRow (b+1) 160 2 vL L.length (zKT L)
 rowN:w.ownsRow (b+1) 3 1 vN L.length (zea nx)
 nl:nx.length=L.length
 nxt:∀(j x:Nat),nx[j]?=some x→x≤j
theorem FI.kept {b:Nat}{w w':World}{cs:Array Value}{g d:Value}{L:List Cf}{a:List Nat}{e:Nat→Nat}(h:FI b w cs g d L a e)(k:Below w.heap.size w w'):FI b w' cs g d L a e:=
 ⟨(k.block _ (zBq h.blk)).trans h.blk,h.sz,h.c0,h.c1,h.c2,h.lst,zmP h.rowL (Kept.of_below (S:=[]) k) (by simp),zmP h.rowN (Kept.of_below (S:=[]) k) (by simp),h.nl,h.nxt⟩
theorem zeroF:(Tryz.zeroCells298).size=4098∧(Tryz.zeroCells298)[0]?=some (.slice none 0 0)∧(Tryz.zeroCells298)[4097]?=some (.slice none 0 0):=⟨by kernel_rfl,by kernel_rfl,by kernel_rfl⟩
def isZ:Value→Bool
 |.int .i64 n=>n==0
 |_=>false
theorem zTO {v:Value}(h:isZ v=true):v=.int .i64 0:=by
 unfold isZ at h;split at h
 ·rename_i n;have:n=0:=by simpa using h
  rw[this]
 ·cases h
theorem zTv:∀k,k<4096→(Tryz.zeroCells298)[1+k]?=some (.int .i64 0):=by
 have h:(((Tryz.zeroCells298).toList.drop 1).take 4096).all isZ=true:=by kernel_rfl
 intro k b;have d:=zeroF.1;have a:1+k<(Tryz.zeroCells298).size:=by omega
 rw[Array.getElem?_eq_getElem a];congr 1;apply zTO;refine List.all_eq_true.1 h _ ?_;refine List.mem_iff_getElem?.2 ⟨k,?_⟩;rw[List.getElem?_take,if_pos b,List.getElem?_drop,Array.getElem?_toList,Array.getElem?_eq_getElem a]
theorem FI.zero (w:World):FI w.heap.size (w.alloc (.cells Tryz.zeroCells298 298)) Tryz.zeroCells298 (.slice none 0 0) (.slice none 0 0) [] [] (fun _=>0):=
 ⟨ziF _ _ _ rfl,zeroF.1,zeroF.2.1,fun k hk=>zTv k hk,zeroF.2.2,fun _ _=>Nat.le_refl _,World.ownsRow_nil _ _ _ _,World.ownsRow_nil _ _ _ _,rfl,fun j x h=>by simp at h⟩
theorem zKF:(prog.info? 160).map (fun i=>(i.zero,i.size,i.bytes))=some (some (.agg #[.string ⟨#[]⟩,.string ⟨#[]⟩]),2,32):=by kernel_rfl
theorem zRi:(prog.info? 3).map (fun i=>(i.zero,i.size,i.bytes))=some (some (.int .i64 0),1,8):=by kernel_rfl
theorem z9Y (i:Bool)(W:World)(b:Nat)(a:Option Addr)(n c:Nat)(d:List Value)(s:Cf)(h:W.ownsRow b 160 2 (.slice a n c) n d)(C:n≤3000000)(E:b≤W.heap.size):
 ∃a' c' w',(Builtin.append_ #[217,217] 217 #[.slice a n c,.slice (some ⟨W.heap.size,0,none⟩) 1 1]).run prog (cond i (W.alloc (.cells #[.string ⟨s.1.toArray⟩,.string ⟨s.2.toArray⟩] 160)).drew (W.alloc (.cells #[.string ⟨s.1.toArray⟩,.string ⟨s.2.toArray⟩] 160)))=.ok (.slice a' (n+1) c') w'∧w'.ownsRow b 160 2 (.slice a' (n+1) c') (n+1) (d++zfO s)∧Kept (Value.slice a n c).ownBlock.toList W w':=by
 obtain⟨B,e,o,v,t⟩:=info_parts zKF;obtain⟨U,y,q,k,p,x⟩:∃U,cond i (W.alloc (.cells (zfO s).toArray 160)).drew (W.alloc (.cells (zfO s).toArray 160))=U∧U.ownsRow b 160 2 (.slice a n c) n d∧(∀j u,(zfO s)[j]?=some u→U.cell? ((⟨W.heap.size,0,none⟩:Addr).add j)=some u)∧b≤U.heap.size∧Kept (Value.slice a n c).ownBlock.toList W U:=by
  cases i
  ·exact⟨_,rfl,h.alloc _,z9R W _ _,by simp;omega,(Kept.refl _ W).alloc _⟩
  ·exact⟨_,rfl,h.alloc _,z9R W _ _,by show b≤(W.alloc _).heap.size;simp;omega,((Kept.refl _ W).alloc _).drew⟩
 obtain⟨D,A,r,l,z,_⟩:=run_append_own (P:=prog) U b 217 217 160 B _ 2 32 underlying217 e o v t rfl (by decide) (.slice a n c) n d q ⟨W.heap.size,0,none⟩ 1 1 (zfO s) rfl k (by intro u m;simp[zfO]at m;rcases m with rfl|rfl<;>rfl) (by unfold maxLen;omega) (by omega) p;obtain⟨a',c',rfl⟩:=zIW l;exact⟨a',c',A,by rw[←y]at r;exact r,l,x.grownS z (fun g' hg'=>by rw[hg'];simp)⟩
theorem zla (i:Bool)(W:World)(b:Nat)(a:Option Addr)(n c:Nat)(d:List Value)(s:Int)(h:W.ownsRow b 3 1 (.slice a n c) n d)(C:n≤3000000)(E:b≤W.heap.size):
 ∃a' c' w',(Builtin.append_ #[101,101] 101 #[.slice a n c,.slice (some ⟨W.heap.size,0,none⟩) 1 1]).run prog (cond i (W.alloc (.cells #[.int .i64 s] 3)).drew (W.alloc (.cells #[.int .i64 s] 3)))=.ok (.slice a' (n+1) c') w'∧w'.ownsRow b 3 1 (.slice a' (n+1) c') (n+1) (d++[.int .i64 s])∧Kept (Value.slice a n c).ownBlock.toList W w':=by
 obtain⟨B,e,o,v,t⟩:=info_parts zRi;obtain⟨U,y,q,k,p,x⟩:∃U,cond i (W.alloc (.cells ([.int .i64 s]:List Value).toArray 3)).drew (W.alloc (.cells ([.int .i64 s]:List Value).toArray 3))=U∧U.ownsRow b 3 1 (.slice a n c) n d∧(∀j u,([.int .i64 s]:List Value)[j]?=some u→U.cell? ((⟨W.heap.size,0,none⟩:Addr).add j)=some u)∧b≤U.heap.size∧Kept (Value.slice a n c).ownBlock.toList W U:=by
  cases i
  ·exact⟨_,rfl,h.alloc _,z9R W _ _,by simp;omega,(Kept.refl _ W).alloc _⟩
  ·exact⟨_,rfl,h.alloc _,z9R W _ _,by show b≤(W.alloc _).heap.size;simp;omega,((Kept.refl _ W).alloc _).drew⟩
 obtain⟨D,A,r,l,z,_⟩:=run_append_own (P:=prog) U b 101 101 3 B _ 1 8 underlying101 e o v t rfl (by decide) (.slice a n c) n d q ⟨W.heap.size,0,none⟩ 1 1 [.int .i64 s] rfl k (by intro u m;simp at m;subst m;rfl) (by unfold maxLen;omega) (by omega) p;obtain⟨a',c',rfl⟩:=zIW l;exact⟨a',c',A,by rw[←y]at r;exact r,l,x.grownS z (fun g' hg'=>by rw[hg'];simp)⟩
theorem zyC {b:Nat}{w:World}{cs:Array Value}{g d:Nat}{m:Value}{L:List Cf}{j:List Nat}{n:Nat→Nat}(h:FI b w cs (.slice (some ⟨g,0,none⟩) L.length d) m L j n){i:Nat}{c:Cf}(l:L[i]?=some c):w.cell? ⟨g,i*2,none⟩=some (.string ⟨c.1.toArray⟩)∧w.cell? ⟨g,i*2+1,none⟩=some (.string ⟨c.2.toArray⟩):=by
 obtain⟨k,e⟩:=zaw L i c l;have a:=h.rowL.cells (g:=g) rfl _ _ k;have b:=h.rowL.cells (g:=g) rfl _ _ e;rw[Addr.add_lit,Nat.zero_add]at a b;exact⟨a,b⟩
theorem zr7 {b:Nat}{w:World}{cs:Array Value}{g e:Nat}{l:Value}{L:List Cf}{d:List Nat}{k:Nat→Nat}(h:FI b w cs l (.slice (some ⟨g,0,none⟩) L.length e) L d k){i x:Nat}(j:d[i]?=some x):w.cell? ⟨g,i,none⟩=some (.int .i64 (x:Int)):=by
 have a:=h.rowN.cells (g:=g) rfl i (.int .i64 (x:Int)) (by unfold zea;rw[List.getElem?_map,j];rfl);rw[Addr.add_lit,Nat.zero_add]at a;exact a
theorem zSI {w:World}{b:Nat}{e:TypeId}{a n:Nat}{v:Value}{d:List Value}(h:w.ownsRow (b+1) e a v n d):b∉v.ownBlock.toList:=fun hm=>by
 have:=(h.lt b (by simpa using hm)).1;omega
def z9g (b:Nat)(c:Cf)(L:List Cf)(w:World)(e:Ending)(w':World):Prop:=
 e=.returned (.tuple #[])∧Below b w w'∧((c∈L∧(∃cs vL vN nx ls,FI b w' cs vL vN L nx ls))∨∃cs vL vN nx ls,FI b w' cs vL vN (L++[c]) nx ls)
theorem add_any (b:Nat)(c:Cf)(cs:Array Value)(vL vN:Value)(L:List Cf)(J:List Nat)(C:Nat→Nat)(w:World)(h1:c.1.length≤1000)(h2:c.2.length≤8000000)(hL:L.length≤1000000)(u:FI b w cs vL vN L J C):
 Calls prog 144 #[.pointer (some ⟨b,0,none⟩),cAg c] w (z9g b c L w):=by
 have ae:=fun w=>zq2 c w h1 h2;obtain⟨W0,av,aa,S⟩:∃W0,w.alloc (.cells #[.string ⟨c.1.toArray⟩,.string ⟨c.2.toArray⟩] 160)=W0∧Below w.heap.size w W0∧W0.heap[w.heap.size]?=some (.cells #[.string ⟨c.1.toArray⟩,.string ⟨c.2.toArray⟩] 160 (0,0)):=⟨_,rfl,zA _ _,ziF _ _ _ rfl⟩;have c0:W0.cell? ⟨w.heap.size,0,none⟩=some (.string ⟨c.1.toArray⟩):=zBk S 0;have c1:W0.cell? ⟨w.heap.size,1,none⟩=some (.string ⟨c.2.toArray⟩):=zBk S 1;obtain⟨la,lc,rfl⟩:=zIW u.rowL;obtain⟨P,Q,rfl⟩:=zIW u.rowN;have al:=u.kept aa;have R:Hid _:=And.intro aa (And.intro S al);unfold cAg at*;clear aa S al;go_enter func144,ntmps144;go_wp2_with fail;refine(ae _).mono ?_;rintro e w1 ⟨⟨n,hn,rfl⟩,af⟩;have V:=R.out.2.2.kept af;have aw:(n:Int)<4096:=by omega
 have x1:w1.cell? ⟨b,1+n,none⟩=some (.int .i64 (C n:Int)):=(zBk V.blk _).trans (V.c1 n (by omega));have H1:Hid _:=And.intro af V;clear af V ae c0 c1;go_wp2_with fail;have am:=u.lst n (by omega);go_loopw [5] (fun s5 wr=>∃(x:Nat),s5=.int .i64 (x:Int)∧x≤L.length∧Hid (Below w1.heap.size w1 wr)) (fun s5 _=>(intOf s5).toNat)
 case atStart=>exact⟨C n,rfl,am,zD⟩
 case round=>
  obtain⟨x,rfl,hx,HB⟩:=hrel;have i:=H1.out.2.kept HB.out;have ag:=(H1.out.1.trans (HB.out.mono H1.out.1.size));have ab:=(ag.block _ (zBq R.out.2.1)).trans R.out.2.1;have c0:wr.cell? ⟨w.heap.size,0,none⟩=some (.string ⟨c.1.toArray⟩):=zBk ab 0;have c1:wr.cell? ⟨w.heap.size,1,none⟩=some (.string ⟨c.2.toArray⟩):=zBk ab 1;have t0:wr.cell? ⟨b,0,none⟩=some (.slice la L.length lc):=(zBk i.blk _).trans i.c0;have t2:wr.cell? ⟨b,4097,none⟩=some (.slice P L.length Q):=(zBk i.blk _).trans i.c2;have ar:Hid _:=i;have ai:Hid (Below b w wr):=by
   have h0:b≤w.heap.size:=Nat.le_of_lt (zBq u.blk);exact(R.out.1.mono h0).trans (ag.mono (Nat.le_trans h0 R.out.1.size))
  clear ag ab;cases x with
  |zero=>
    have aj:=zBq i.blk;obtain⟨t,s,Z,N,A,Y⟩:=z9Y true wr (b+1) la L.length lc (zKT L) c i.rowL (by omega) (by omega);have G:(Builtin.append_ #[217,217] 217 #[.slice la L.length lc,.slice (some ⟨wr.heap.size,0,none⟩) 1 1]).run prog ((wr.alloc (.cells #[.string ⟨c.1.toArray⟩,.string ⟨c.2.toArray⟩] 160)).drew)=.ok (.slice t (L.length+1) s) Z:=N;have I:=(Y.block b aj (zSI i.rowL)).trans i.blk;have s1:Z.cell? ⟨b,0,none⟩=some (.slice la L.length lc):=(zBk I _).trans i.c0;have s2:Z.frozen? ⟨b,0,none⟩=false:=zBn I 0;have an:b≠wr.heap.size:=(by omega);have au:w.heap.size≠wr.heap.size:=by
     have:=R.out.1.size;have:=zBq R.out.2.1;have:=H1.out.1.size;have:=HB.out.size;omega
    rw[←zNI]at A;have M:=zmP i.rowN Y (jne i.rowN i.rowL (by decide));have X:Below b w Z:=ai.out.trans (Y.below (Nat.le_of_lt aj) (fun g hg=>by have:=(i.rowL.lt g (by simpa using hg)).1;omega));have H7:Hid _:=(⟨I,A,M,X⟩:_∧_∧_∧_);clear i N I A M X Y;go_wp2_with fail;go_cut [41] (fun a wx=>wx.heap[b]?=some (.cells (cs.setIfInBounds 0 (.slice t (L.length+1) s)) 298 (0,0))∧wx.ownsRow (b+1) 160 2 (.slice t (L.length+1) s) (L.length+1) (zKT (L++[c]))∧wx.ownsRow (b+1) 3 1 (.slice P L.length Q) L.length (zea J)∧Below b w wx)
    case first=>
     go_region_law (refine zti rfl _ _ 217 rfl _ _ _ _ rfl rfl G ?_)
     all_goals
      go_wp2_with fail;go_meet;obtain⟨I,A,M,X⟩:=H7.out;have r:Kept [b] Z (Z.setCell ⟨b,0,none⟩ (.slice t (L.length+1) s)):=(Kept.refl _ _).setCell (p:=⟨b,0,none⟩) (Or.inl (by simp)) _;refine⟨by rw[zFg I],zmP A r (fun g hg=>by have:=(A.lt g hg).1;simp;omega),zmP M r (fun g hg=>by have:=(M.lt g hg).1;simp;omega),X.trans (r.below (Nat.le_of_lt (zBq I)) (by simp))⟩
    case rest=>
     obtain⟨l,m,o,F⟩:=hcut;clear H7 G s1 s2 t0 t2 c0 c1;have ad:=zBq l;have ak:cs.size=4098:=u.sz;have g0:(cs.setIfInBounds 0 (.slice t (L.length+1) s))[0]?=some (.slice t (L.length+1) s):=(by simp[ak]);have g1:∀k,k<4096→(cs.setIfInBounds 0 (.slice t (L.length+1) s))[1+k]?=some (.int .i64 (C k:Int)):=fun k hk=>by
      rw[Array.getElem?_setIfInBounds_ne (by omega)];exact u.c1 k hk
     have g2:(cs.setIfInBounds 0 (.slice t (L.length+1) s))[4097]?=some (.slice P L.length Q):=by
      rw[Array.getElem?_setIfInBounds_ne (by omega)];exact u.c2
     have gs:(cs.setIfInBounds 0 (.slice t (L.length+1) s)).size=4098:=(by simp[ak]);generalize cs.setIfInBounds 0 (.slice t (L.length+1) s)=cs1 at*;obtain⟨O,rfl⟩:∃O:World,O=wc:=⟨_,rfl⟩;obtain⟨D,E,w9,N,B,W⟩:=zla true O (b+1) P L.length Q (zea J) (C n:Int) o (by omega) (by omega);have G:(Builtin.append_ #[101,101] 101 #[.slice P L.length Q,.slice (some ⟨O.heap.size,0,none⟩) 1 1]).run prog ((O.alloc (.cells #[.int .i64 (C n:Int)] 3)).drew)=.ok (.slice D (L.length+1) E) w9:=N;have H:=(W.block b ad (zSI o)).trans l;have u2:O.cell? ⟨b,4097,none⟩=some (.slice P L.length Q):=(zBk l _).trans g2;have u1:O.cell? ⟨b,1+n,none⟩=some (.int .i64 (C n:Int)):=(zBk l _).trans (g1 n (by omega));have s1:w9.cell? ⟨b,4097,none⟩=some (.slice P L.length Q):=(zBk H _).trans g2;have s2:w9.frozen? ⟨b,4097,none⟩=false:=zBn H 4097;have an:b≠O.heap.size:=(by omega);rw[←zyv]at B;have K:=zmP m W (jne m o (by decide));have U:Below b w w9:=F.trans (W.below (Nat.le_of_lt ad) (fun g hg=>by have:=(o.lt g (by simpa using hg)).1;omega));have H9:Hid _:=(⟨H,K,B,U⟩:_∧_∧_∧_);clear N H K B U W l m o F;go_wp2_with fail;go_cut [56] (fun a wx=>wx.heap[b]?=some (.cells (cs1.setIfInBounds 4097 (.slice D (L.length+1) E)) 298 (0,0))∧wx.ownsRow (b+1) 160 2 (.slice t (L.length+1) s) (L.length+1) (zKT (L++[c]))∧wx.ownsRow (b+1) 3 1 (.slice D (L.length+1) E) (L.length+1) (zea (J++[C n]))∧Below b w wx)
     case first=>
      go_region_law (refine zti rfl _ _ 101 rfl _ _ _ _ rfl rfl G ?_)
      all_goals
       go_wp2_with fail;go_meet;obtain⟨H,K,B,U⟩:=H9.out;have r:Kept [b] w9 (w9.setCell ⟨b,4097,none⟩ (.slice D (L.length+1) E)):=(Kept.refl _ _).setCell (p:=⟨b,4097,none⟩) (Or.inl (by simp)) _;refine⟨by rw[zFg H],zmP K r (fun g hg=>by have:=(K.lt g hg).1;simp;omega),zmP B r (fun g hg=>by have:=(B.lt g hg).1;simp;omega),U.trans (r.below (Nat.le_of_lt (zBq H)) (by simp))⟩
     case rest=>
      obtain⟨l,m,o,F⟩:=hcut;clear H9 G s1 s2 u1 u2;have k0:(cs1.setIfInBounds 4097 (.slice D (L.length+1) E))[0]?=some (.slice t (L.length+1) s):=by
       rw[Array.getElem?_setIfInBounds_ne (by omega)];exact g0
      have k1:∀k,k<4096→(cs1.setIfInBounds 4097 (.slice D (L.length+1) E))[1+k]?=some (.int .i64 (C k:Int)):=fun k hk=>by
       rw[Array.getElem?_setIfInBounds_ne (by omega)];exact g1 k hk
      have k2:(cs1.setIfInBounds 4097 (.slice D (L.length+1) E))[4097]?=some (.slice D (L.length+1) E):=(by simp[gs]);have ks:(cs1.setIfInBounds 4097 (.slice D (L.length+1) E)).size=4098:=(by simp[gs]);generalize cs1.setIfInBounds 4097 (.slice D (L.length+1) E)=cs2 at*;have u0:wc.cell? ⟨b,0,none⟩=some (.slice t (L.length+1) s):=(zBk l _).trans k0;have u1:wc.cell? ⟨b,1+n,none⟩=some (.int .i64 (C n:Int)):=(zBk l _).trans (k1 n (by omega));have z1:wc.frozen? ⟨b,1+n,none⟩=false:=zBn l _;have H8:Hid _:=(⟨l,m,o,F⟩:_∧_∧_∧_);have aq:∀v,(wc.setCell ⟨b,1+n,none⟩ v).drew.cell? ⟨b,0,none⟩=some (.slice t (L.length+1) s):=fun v=>(zBk (show(wc.setCell ⟨b,1+n,none⟩ v).drew.heap[b]?=_ from zFg l _ v) 0).trans (by rw[Array.getElem?_setIfInBounds_ne (by omega)];exact k0);clear l m o F;go_wp2_with fail;go_region_held3 (fun w'=>w'.cell? ⟨b,0,none⟩=some (.slice t (L.length+1) s)) (first|(with_reducible exact aq _)|go_keep) (fail);go_wp2_with fail;go_end0;obtain⟨l,m,o,F⟩:=H8.out;have r:Kept [b] wc (wc.setCell ⟨b,1+n,none⟩ (.int .i64 ((L.length:Int)+1))).drew:=((Kept.refl _ _).setCell (p:=⟨b,1+n,none⟩) (Or.inl (by simp)) _).drew;refine⟨rfl,F.trans (r.below (Nat.le_of_lt (zBq l)) (by simp)),.inr ⟨cs2.setIfInBounds (1+n) (.int .i64 ((L.length:Int)+1)),.slice t (L.length+1) s,.slice D (L.length+1) E,J++[C n],fun k=>if k=n then L.length+1 else C k,?_⟩⟩;refine⟨by show(wc.setCell _ _).heap[b]?=_;rw[zFg l],by simp[ks],by rw[Array.getElem?_setIfInBounds_ne (by omega)];exact k0,fun k hk=>?_,by rw[Array.getElem?_setIfInBounds_ne (by omega)];exact k2,fun k hk=>?_,?_,?_,by simp[u.nl],fun j x hj=>?_⟩
      ·by_cases e:k=n
       ·subst e;rw[if_pos rfl,Array.getElem?_setIfInBounds_self_of_lt (by omega)];rfl
       ·rw[Array.getElem?_setIfInBounds_ne (by omega),if_neg e];exact k1 k hk
      ·have:=u.lst k hk;simp only [zJ,List.length_singleton];split<;>omega
      ·rw[zJ];exact zmP m r (fun g hg=>by have:=(m.lt g hg).1;simp;omega)
      ·rw[zJ];exact zmP o r (fun g hg=>by have:=(o.lt g hg).1;simp;omega)
      ·rcases Nat.lt_or_ge j J.length with hl|hl
       ·rw[List.getElem?_append_left hl]at hj;exact u.nxt j x hj
       ·rw[List.getElem?_append_right hl]at hj;obtain⟨e1,e2⟩:j-J.length=0∧x=C n:=by
         cases h:j-J.length with
         |zero=>rw[h]at hj;simp at hj;exact⟨rfl,hj.symm⟩
         |succ q=>rw[h]at hj;simp at hj
        have:=u.lst n (by omega);have:=u.nl;omega
  |succ y=>
    have ah:y<L.length:=(by omega);have az:(y:Int)<(L.length:Int):=(by omega);have aA:(0:Int)<(y:Int)+1:=(by omega);have ay:IntKind.i64.wrap ((y:Int)+1-1)=(y:Int):=(by rw[j64 (by omega) (by omega)];omega);obtain⟨⟨d1,d2⟩,hd⟩:∃d,L[y]?=some d:=⟨_,zC ah⟩;obtain⟨z,hz⟩:∃z,J[y]?=some z:=⟨_,zC (by rw[u.nl];exact ah)⟩;have ax:=u.nxt y z hz;obtain⟨gl,rfl⟩:∃g,la=some ⟨g,0,none⟩:=by
     rcases zzD i.rowL with ⟨_,e⟩|⟨g,ao,e,_⟩
     ·omega
     ·injection e with e;exact⟨g,e⟩
    obtain⟨gn,rfl⟩:∃g,P=some ⟨g,0,none⟩:=by
     rcases zzD i.rowN with ⟨_,e⟩|⟨g,ao,e,_⟩
     ·omega
     ·injection e with e;exact⟨g,e⟩
    obtain⟨r0,r1⟩:=zyC i hd;have r2:=zr7 i hz;clear i;rw[show(((y+1:Nat)):Int)=(y:Int)+1 by omega];by_cases e1:d1=c.1
    ·by_cases e2:d2=c.2
     ·have HM:Hid (c∈L):=List.mem_of_getElem? (hd.trans (by rw[e1,e2]));subst e1 e2;go_wp2_with fail;go_quiet (fail);go_wp2_with fail;refine bodyPost_ret (v:=.tuple #[]) (by simp[results,results144,go_sem]) rfl ⟨rfl,zqh ai.out _,.inl ⟨HM.out,_,_,_,_,_,ar.out.kept (zqh (zD) _)⟩⟩
     ·subst e1;go_wp2_with fail;go_quiet (fail);go_wp2_with fail;go_roundw
      case rel=>exact⟨z,rfl,by omega,zqh HB.out _⟩
      case measure=>simp[intOf];omega
    ·go_wp2_with fail;go_quiet (fail);go_wp2_with fail;go_roundw
     case rel=>exact⟨z,rfl,by omega,zqh HB.out _⟩
     case measure=>simp[intOf];omega
def okC (P:List OpV)(c:Cf):Prop:=c.1.length=P.length∧c.2.length≤20+21*c.1.count 49
theorem zyE (s:List UInt8):(headR s).2.length≤s.length:=(zGM s).2
theorem z30 {st:List UInt8}{o:OpV}(h:okO o):(ztI st o).1.length≤st.length+21∨(ztI st o).1.length≤20:=by
 obtain⟨_,g,n,j⟩:=h;have i:=zCU o.arg g.1 g.2;have l:=zCU o.cl j.1 j.2;have m:=zyE st;have key:∀(c:Prop) [Decidable c] (a b:List UInt8×Int×Int),(a.1.length≤st.length+21∨a.1.length≤20)→(b.1.length≤st.length+21∨b.1.length≤20)→((if c then a else b).1.length≤st.length+21∨(if c then a else b).1.length≤20):=by
  intro c _ a b g k;split
  ·exact g
  ·exact k
 have d:∀v:Int×Int,((st,v):List UInt8×Int×Int).1.length≤st.length+21∨((st,v):List UInt8×Int×Int).1.length≤20:=fun v=>.inl (by show st.length≤_;omega);have e:∀(v:Int×Int) (z:UInt8),(([z],v):List UInt8×Int×Int).1.length≤st.length+21∨(([z],v):List UInt8×Int×Int).1.length≤20:=fun v z=>.inr (by show 1≤_;omega);unfold ztI;refine key _ _ _ (d _) (key _ _ _ (.inr i) (key _ _ _ (key _ _ _ (.inr i) (d _)) (key _ _ _ (e _ _) (key _ _ _ ?_ (key _ _ _ (.inl (by show(headR st).2.length≤_;omega)) (key _ _ _ (e _ _) (key _ _ _ (e _ _) (key _ _ _ (d _) (key _ _ _ (key _ _ _ (.inr l) (d _)) (key _ _ _ (key _ _ _ (e _ _) (d _)) (d _)))))))))));dsimp only;split
 ·exact .inr i
 ·left;simp;omega
theorem zHF {P:List OpV}{a:List UInt8}{k:Nat}(h:mayP P a k=true):a[k]?.getD 0≠49:=by
 unfold mayP at h;simp at h;exact h.1
theorem zSU {l:List UInt8}{k:Nat}(a:k<l.length)(h:l[k]≠49):(l.take k++[49]++l.drop (k+1)).count 49=l.count 49+1:=by
 have e:l=l.take k++l[k]::l.drop (k+1):=by rw[←List.drop_eq_getElem_cons a,List.take_append_drop]
 have b:l.count 49=(l.take k).count 49+(l.drop (k+1)).count 49:=by
  conv=>lhs;rw[e]
  rw[List.count_append,List.count_cons_of_ne h]
 rw[List.count_append,List.count_append,b];simp;omega
theorem zYT {P:List OpV}{c c':Cf}{k:Nat}(b:k<P.length)(j:∀o∈P,okO o)(d:okC P c)(h:zsj P c k=some c'):okC P c'∧c'.1=c.1.take k++[49]++c.1.drop (k+1)∧c'.2=(ztI c.2 (P[k]?.getD z1u)).1:=by
 have a:k<c.1.length:=by rw[d.1];exact b
 unfold zsj at h;split at h
 ·rename_i hm;split at h
  ·cases h
  ·injection h with h;subst h;have i:=zHF hm;rw[zC a]at i;have g:=zSU a i;refine⟨⟨by simp;have:=d.1;omega,?_⟩,rfl,rfl⟩;show(ztI c.2 (P[k]?.getD z1u)).1.length≤_;rw[g];have e:=z30 (st:=c.2) (j (P[k]?.getD z1u) (by rw[zC b];exact List.getElem_mem b));have:=d.2;rcases e with e|e<;>omega
 ·cases h
inductive RR (P:List OpV)(c0:Cf):Cf→Prop
 | start:RR P c0 c0
 | step {c c':Cf} (h:RR P c0 c) (k:Nat) (hk:k<P.length) (hb:zsj P c k=some c'):RR P c0 c'
theorem RR.ok {P:List OpV}(b:∀o∈P,okO o){c0 c:Cf}(a:okC P c0)(h:RR P c0 c):okC P c:=by
 induction h with
 |start=>exact a
 |step _ k hk hb ih=>exact(zYT hk b ih hb).1
theorem okC.few {P:List OpV}{c:Cf}(h:okC P c)(b:P.length≤1000):c.1.length≤1000∧c.2.length≤8000000:=by
 have:=h.1;have d:=List.count_le_length (a:=(49:UInt8)) (l:=c.1);have:=h.2;omega
def zYN (n:Nat):List UInt8:=List.replicate n 48
def cf0 (m:List UInt8)(P:List OpV):Cf:=(zYN P.length,zKM m)
theorem z7m (m:List UInt8)(P:List OpV):okC P (cf0 m P):=by
 refine⟨by simp[cf0,zYN],?_⟩;have:(zKM m).length≤1:=by unfold zKM;split;simp;split<;>simp
 show(zKM m).length≤_;omega
def Shut (P:List OpV)(L:List Cf)(i:Nat):Prop:=∀(q:Nat) (c:Cf),q<i→L[q]?=some c→∀k,k<P.length→∀c',zsj P c k=some c'→c'∈L
def ShutK (P:List OpV)(L:List Cf)(c:Cf)(k:Nat):Prop:=∀q,q<k→∀c',zsj P c q=some c'→c'∈L
theorem Shut.more {P:List OpV}{L:List Cf}{i:Nat}(h:Shut P L i)(a:i≤L.length)(x:Cf):Shut P (L++[x]) i:=fun q c hq hc k hk c' hb=>by
 rw[List.getElem?_append_left (by omega)]at hc;exact List.mem_append.2 (.inl (h q c hq hc k hk c' hb))
theorem ShutK.more {P:List OpV}{L:List Cf}{c:Cf}{k:Nat}(h:ShutK P L c k)(x:Cf):ShutK P (L++[x]) c k:=fun q hq c' hb=>List.mem_append.2 (.inl (h q hq c' hb))
structure Cfs (m:List UInt8)(P:List OpV)(room:Nat)(L:List Cf)(kn:Bool):Prop where
 has:cf0 m P∈L
 all:∀c∈L,RR P (cf0 m P) c
 shut:kn=true→∀c∈L,∀k,k<P.length→∀c',zsj P c k=some c'→c'∈L
 room:kn=decide (L.length≤room)
theorem zFG (n:Nat):(⟨(zYN n).toArray⟩:ByteArray)++⟨#[48]⟩=⟨(zYN (n+1)).toArray⟩:=by
 show((⟨(zYN n).toArray⟩:ByteArray)++⟨[48].toArray⟩)=_;rw[japp];congr 2;unfold zYN;rw[List.replicate_succ']
theorem z5x {w:World}{b a:Nat}{e:TypeId}{d:Nat}{v:Value}{n:Nat}{i:List Value}(h:w.ownsRow b e d v n i)(j:a≤b):w.ownsRow a e d v n i:=by
 refine⟨h.1,?_⟩;rcases h.2 with hn|⟨g,cap,cur,hv,hbg,rest⟩
 ·exact .inl hn
 ·exact .inr ⟨g,cap,cur,hv,Nat.le_trans j hbg,rest⟩
def zB1 (m:List UInt8)(P:List OpV)(room:Nat)(w:World)(e:Ending)(w':World):Prop:=
 ∃L a c kn,e=.returned (.tuple #[.slice a L.length c,.bool kn])∧w'.ownsRow w.heap.size 160 2 (.slice a L.length c) L.length (zKT L)∧Below w.heap.size w w'∧L.length≤room+2000∧Cfs m P room L kn
theorem zxq (m:List UInt8)(hm:five m)(oa pa:Option Addr)(oc pc:Nat)(F P:List OpV)(part:List Nat)(a:Nat)(w:World)(ho:OAt w oa F)(hp:IAt w pa part)(hP:zrE F part P)(hl:P.length≤1000)(az:F.length≤1000)(U:∀o∈P,okO o)(aD:a≤900000):
 Calls Tryz.prog 103 #[.string ⟨m.toArray⟩,.slice oa F.length oc,.slice pa part.length pc,.int .i64 (a:Int)] w (zB1 m P a w):=by
 have aK:Hid _:=hP.1;have aw:=fun w=>zpZ m hm w;have X:=fun c k w ho hp hc G hst=>zvs m oa pa oc pc F P part c k w ho hp hP hc G hl az hst U;rw[hP.1]at X⊢;go_enter Tryz.func103,Tryz.ntmps103;go_wp2_with fail;go_loop [10,11] (fun d i=>∃(j:Nat),d=.string ⟨(zYN j).toArray⟩∧i=.int .i64 (j:Int)∧j≤P.length) (fun _ i=>P.length-(intOf i).toNat)
 case atStart=>exact⟨0,rfl,rfl,by omega⟩
 case round=>
  obtain⟨j,rfl,rfl,hj⟩:=hrel;have aL:(zYN j).length=j:=by simp[zYN]
  by_cases hin:j<P.length
  ·have J:(j:Int)<(P.length:Int):=(by omega);have aM:IntKind.i64.wrap ((j:Int)+1)=(j:Int)+1:=(by go_arith);have hz:=zFG j;go_wp2_with fail;go_round
   case rel=>exact⟨j+1,by first|rfl|(rw[zFG]),by go_num,by omega⟩
   case measure=>simp[intOf];omega
  ·obtain rfl:j=P.length:=(by omega);have J:¬(P.length:Int)<(P.length:Int):=(by omega);have ae:=FI.zero w;obtain⟨W0,ak⟩:∃W0,w.alloc (.cells Tryz.zeroCells298 298)=W0:=⟨_,rfl⟩;have ah:Below w.heap.size w W0:=(by rw[←ak];exact zA _ _);rw[ak]at ae;have R:=z7m m P;have I:=fun W cs p r L n s (hL:L.length≤1000000) (b:FI w.heap.size W cs p r L n s) (c:Cf) (hc:okC P c)=>add_any w.heap.size c cs p r L n s W (hc.few hl).1 (hc.few hl).2 hL b;have C:=I W0 _ _ _ _ _ _ (by simp) ae _ R;have av:Hid _:=I;have ay:Hid _:=ah;unfold cAg at C;clear I ah ae;rw[show cf0 m P=(zYN P.length,zKM m)from rfl]at C;dsimp only at C;go_wp2_with fail;refine(aw _).mono ?_;rintro e w1 ⟨rfl,rfl⟩;go_wp2_with fail;refine C.mono ?_;rintro e w2 ⟨rfl,al,ao⟩;obtain⟨cs,p,r,n,s,au⟩:∃cs p r n s,FI w.heap.size w2 cs p r [cf0 m P] n s:=by
    rcases ao with ⟨h,_⟩|h
    ·simp at h
    ·exact h
   clear ao C;have Y:Below w.heap.size w w2:=ay.out.trans al;have HAt:Hid _:=And.intro ho hp;have ar:Hid _:=(⟨⟨cs,p,r,n,s,au⟩,Y⟩:(∃cs p r n s,FI w.heap.size w2 cs p r [cf0 m P] n s)∧Below w.heap.size w w2);clear al Y au ho hp R;go_wp2_with fail;go_loopw [13] (fun s13 wr=>∃(i:Nat) (L:List Cf),s13=.int .i64 (i:Int)∧i≤L.length∧L.length≤a+1∧Hid (∃cs p r n s,FI w.heap.size wr cs p r L n s)∧Hid (cf0 m P∈L∧(∀c∈L,RR P (cf0 m P) c)∧Shut P L i)∧Hid (Below w.heap.size w wr)) (fun s13 _=>a+2-(intOf s13).toNat)
   case atStart=>exact⟨0,[cf0 m P],rfl,by simp,by simp,ar.out.1,⟨by simp,fun c hc=>by simp at hc;subst hc;exact .start,fun q c A=>absurd A (by omega)⟩,ar.out.2⟩
   case round=>
    obtain⟨i,L,rfl,hi,aF,K,HL,u⟩:=hrel;obtain⟨cs,p,r,n,s,b⟩:=K.out;obtain⟨D,B,rfl⟩:=zIW b.rowL;have t0:wr.cell? ⟨w.heap.size,0,none⟩=some (.slice D L.length B):=(zBk b.blk _).trans b.c0;by_cases hin:i<L.length
    ·have J:(i:Int)<(L.length:Int):=(by omega);obtain⟨c,ab⟩:∃c,L[i]?=some c:=⟨_,zC hin⟩;have H:okC P c:=(HL.out.2.1 c (List.mem_of_getElem? ab)).ok U (z7m m P);go_wp2_with fail;go_loopw [14] (fun s14 wx=>∃(k:Nat) (l:List Cf),s14=.int .i64 (k:Int)∧k≤P.length∧i<l.length∧l.length≤a+1+k∧Hid (∃cs p r n s,FI w.heap.size wx cs p r l n s)∧Hid (cf0 m P∈l∧(∀c∈l,RR P (cf0 m P) c)∧Shut P l i∧l[i]?=some c∧ShutK P l c k)∧Hid (Below w.heap.size w wx)) (fun s14 _=>P.length-(intOf s14).toNat)
     case atStart=>exact⟨0,L,rfl,by omega,hin,by omega,K,⟨HL.out.1,HL.out.2.1,HL.out.2.2,ab,fun q A=>absurd A (by omega)⟩,u⟩
     case round=>
      clear t0 b K HL u ab;obtain⟨k,l,rfl,G,aa,aI,K,HL,u⟩:=hrel;by_cases hkin:k<P.length
      ·have af:(k:Int)<(P.length:Int):=(by omega);have aE:(i:Int)<(l.length:Int):=(by omega);obtain⟨cs,p,r,n,s,b⟩:=K.out;obtain⟨D,B,rfl⟩:=zIW b.rowL;obtain⟨gl,rfl⟩:∃g,D=some ⟨g,0,none⟩:=by
        rcases zzD b.rowL with ⟨_,e⟩|⟨g,aJ,e,_⟩
        ·omega
        ·injection e with e;exact⟨g,e⟩
       have t0:wr.cell? ⟨w.heap.size,0,none⟩=some (.slice (some ⟨gl,0,none⟩) l.length B):=(zBk b.blk _).trans b.c0;obtain⟨r0,r1⟩:=zyC b HL.out.2.2.2.1;have aN:IntKind.i64.wrap ((k:Int)+1)=(k:Int)+1:=(by go_arith);have ad:=X c k wr (HAt.out.1.below u.out) (HAt.out.2.below u.out) H.1 hkin (H.few hl).2;unfold cAg at ad;have z:Hid _:=b;clear b;go_wp2_with fail;refine ad.mono ?_;rintro e y ⟨Z,ax⟩;have O:=z.out.kept Z;have B3:Hid (Below w.heap.size w y):=u.out.trans (Z.mono u.out.size);clear ad Z r0 r1 t0;rcases ax with ⟨c',Q,rfl⟩|⟨aq,rfl⟩
       ·have ag:=(zYT hkin U H Q).1;obtain⟨E,aH,v,V⟩:∃E,y.alloc (.cells #[.string ⟨c'.1.toArray⟩,.string ⟨c'.2.toArray⟩] 160)=E∧Below y.heap.size y E∧E.heap[y.heap.size]?=some (.cells #[.string ⟨c'.1.toArray⟩,.string ⟨c'.2.toArray⟩] 160 (0,0)):=⟨_,rfl,zA _ _,ziF _ _ _ rfl⟩;have d0:E.cell? ⟨y.heap.size,0,none⟩=some (.string ⟨c'.1.toArray⟩):=zBk V 0;have d1:E.cell? ⟨y.heap.size,1,none⟩=some (.string ⟨c'.2.toArray⟩):=zBk V 1;have B4:Hid (Below w.heap.size w E):=B3.out.trans (v.mono B3.out.size);have an:=O.kept v;have ha:=av.out E _ _ _ _ _ _ (by omega) an c' ag;have HR:Hid (RR P (cf0 m P) c'):=.step (HL.out.2.1 c (List.mem_of_getElem? HL.out.2.2.2.1)) k hkin Q;have aC:Hid _:=Q;unfold cAg at ha;clear O an v V Q;go_wp2_with fail;refine ha.mono ?_;rintro e w5 ⟨rfl,ai,aj⟩;have B5:Hid (Below w.heap.size w w5):=B4.out.trans ai;have HN:Hid (∃t,i<t.length∧t.length≤a+1+(k+1)∧(∃cs p r n s,FI w.heap.size w5 cs p r t n s)∧cf0 m P∈t∧(∀c∈t,RR P (cf0 m P) c)∧Shut P t i∧t[i]?=some c∧ShutK P t c (k+1)):=by
         obtain⟨l1,l2,l3,l4,l5⟩:=HL.out;have am:∀M:List Cf,ShutK P M c k→c'∈M→ShutK P M c (k+1):=fun M hs hm q A x hx=>by
          by_cases e:q=k
          ·subst e;rw[aC.out]at hx;injection hx with hx;subst hx;exact hm
          ·exact hs q (by omega) x hx
         rcases aj with ⟨h,hf⟩|hf
         ·exact⟨l,aa,by omega,hf,l1,l2,l3,l4,am l l5 h⟩
         ·exact⟨l++[c'],by simp;omega,by simp;omega,hf,by simp[l1],fun x hx=>by
           rcases List.mem_append.1 hx with hx|hx
           ·exact l2 x hx
           ·rw[List.mem_singleton]at hx;subst hx;exact HR.out,l3.more (by omega) c',by rw[List.getElem?_append_left aa];exact l4,am _ (l5.more c') (by simp)⟩
        clear ai aj ha d0 d1;go_wp2_with fail;go_roundw
        case rel=>
         obtain⟨t,n1,n2,n3,n4,n5,n6,n7,n8⟩:=HN.out;exact⟨k+1,t,by go_num,by omega,n1,n2,n3,⟨n4,n5,n6,n7,n8⟩,B5⟩
        case measure=>simp[intOf];omega
       ·have v:Below y.heap.size y (y.alloc (.cells #[.string ⟨c.1.toArray⟩,.string ⟨c.2.toArray⟩] 160)):=zA _ _;have B4:Hid _:=B3.out.trans (v.mono B3.out.size);have aB:Hid _:=O.kept v;have aA:Hid (ShutK P l c (k+1)):=fun q A x hx=>by
         by_cases e:q=k
         ·subst e;rw[aq]at hx;cases hx
         ·exact HL.out.2.2.2.2 q (by omega) x hx
        clear v O aq;go_wp2_with fail;go_roundw
        case rel=>exact⟨k+1,l,by go_num,by omega,aa,by omega,⟨_,_,_,_,_,aB.out⟩,⟨HL.out.1,HL.out.2.1,HL.out.2.2.1,HL.out.2.2.2.1,aA.out⟩,B4⟩
        case measure=>simp[intOf];omega
      ·obtain rfl:k=P.length:=(by omega);have af:¬(P.length:Int)<(P.length:Int):=(by omega);obtain⟨cs,p,r,n,s,b⟩:=K.out;obtain⟨D,B,rfl⟩:=zIW b.rowL;have t0:wr.cell? ⟨w.heap.size,0,none⟩=some (.slice D l.length B):=(zBk b.blk _).trans b.c0;have aO:IntKind.i64.wrap ((i:Int)+1)=(i:Int)+1:=(by go_arith);have z:Hid _:=b;clear b;by_cases hrm:a<l.length
       ·have N:(a:Int)<(l.length:Int):=(by omega);go_wp2_with fail;go_ret2;exact⟨l,D,B,false,rfl,z5x z.out.rowL (by omega),u.out,by omega,HL.out.1,HL.out.2.1,fun h=>(by cases h),by simp;omega⟩
       ·have N:¬(a:Int)<(l.length:Int):=(by omega);go_wp2_with fail;go_roundw
        case rel=>exact⟨i+1,l,by go_num,by omega,by omega,K,⟨HL.out.1,HL.out.2.1,fun q x A hx k G c' hb=>by
         by_cases e:q=i
         ·subst e;rw[HL.out.2.2.2.1]at hx;injection hx with hx;subst hx;exact HL.out.2.2.2.2 k G c' hb
         ·exact HL.out.2.2.1 q x (by omega) hx k G c' hb⟩,u⟩
        case measure=>simp[intOf];omega
    ·obtain rfl:i=L.length:=(by omega);have J:¬(L.length:Int)<(L.length:Int):=(by omega);have z:Hid _:=b;clear b;by_cases hrm:L.length≤a
     ·have N:(L.length:Int)≤(a:Int):=(by omega);go_wp2_with fail;go_quiet (fail);go_wp2_with fail;go_ret2;exact⟨L,D,B,true,rfl,z5x (zmP z.out.rowL (Kept.of_below (S:=[]) (zqh (zD) _)) (by simp)) (by omega),zqh u.out _,by omega,HL.out.1,HL.out.2.1,fun _ c hc k G c' hb=>by
       obtain⟨q,A⟩:=List.mem_iff_getElem?.1 hc;exact HL.out.2.2 q c (zB A).1 A k G c' hb,by simp;omega⟩
     ·have N:¬(L.length:Int)≤(a:Int):=(by omega);go_wp2_with fail;go_quiet (fail);go_wp2_with fail;go_ret2;exact⟨L,D,B,false,rfl,z5x (zmP z.out.rowL (Kept.of_below (S:=[]) (zqh (zD) _)) (by simp)) (by omega),zqh u.out _,by omega,HL.out.1,HL.out.2.1,fun h=>(by cases h),by simp;omega⟩
end Go.Proofs.YtoeoinpaidhmcaaGreatDoor.jd
