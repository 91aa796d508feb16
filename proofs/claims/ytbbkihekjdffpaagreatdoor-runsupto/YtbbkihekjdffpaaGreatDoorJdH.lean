/- Several texts in one. -/
import Derived.Test.YtbbkihekjdffpaaGreatDoorJdC
set_option maxHeartbeats 8000000
set_option maxRecDepth 100000
namespace Go.Proofs.YtbbkihekjdffpaaGreatDoor.jd
open Go.RowKit
open srch (vAg opAg tI OAt)
theorem zq2 (c:Cf)(w:World)(h1:c.1.length≤1000)(h2:c.2.length≤8000000):
 Calls Tryz.prog 135 #[cAg c] w fun e w'=>(∃n:Nat,n<4093∧e=.returned (.int .i64 (n:Int)))∧Below w.heap.size w w':=by
 unfold cAg;obtain⟨W0,hW0,hb0,hB0⟩:∃W0,w.alloc (.cells #[.string ⟨c.1.toArray⟩,.string ⟨c.2.toArray⟩] 82)=W0∧Below w.heap.size w W0∧W0.heap[w.heap.size]?=some (.cells #[.string ⟨c.1.toArray⟩,.string ⟨c.2.toArray⟩] 82 (0,0)):=⟨_,rfl,zA _ _,ziF _ _ _ rfl⟩;have c0:W0.cell? ⟨w.heap.size,0,none⟩=some (.string ⟨c.1.toArray⟩):=zBk hB0 0;have c1:W0.cell? ⟨w.heap.size,1,none⟩=some (.string ⟨c.2.toArray⟩):=zBk hB0 1;obtain⟨s,hs⟩:∃s,c.1++c.2=s:=⟨_,rfl⟩;have hba:(⟨c.1.toArray⟩:ByteArray)++⟨c.2.toArray⟩=⟨s.toArray⟩:=by rw[japp,hs]
 have hsl:s.length≤8001000:=by rw[←hs];simp;omega
 have HB:Hid _:=hb0;clear hb0 hB0 hs;go_enter Tryz.func135,Tryz.ntmps135;go_wp2_with fail;go_loop [4,5] (fun n i=>∃(x j:Nat),n=.int .i64 (x:Int)∧i=.int .i64 (j:Int)∧x<4093∧j≤s.length) (fun _ i=>s.length-(intOf i).toNat)
 case atStart=>exact⟨0,0,rfl,rfl,by omega,by omega⟩
 case round=>
  obtain⟨x,j,rfl,rfl,hx,hj⟩:=hrel;by_cases hin:j<s.length
  ·have hin':(j:Int)<(s.length:Int):=(by omega);have hsz1:j<(⟨s.toArray⟩:ByteArray).size:=(by show j<s.toArray.size;simpa using hin);have hcb:((⟨s.toArray⟩:ByteArray)[j]'hsz1).toNat<256:=UInt8.toNat_lt _;have hwj:IntKind.i64.wrap ((j:Int)+1)=(j:Int)+1:=(by go_arith);have hm1:IntKind.i64.wrap (31*(x:Int))=31*(x:Int):=j64 (by omega) (by omega);obtain⟨y,hy⟩:∃y,((⟨s.toArray⟩:ByteArray)[j]'hsz1).toNat=y:=⟨_,rfl⟩;rw[hy]at hcb;have hm0:IntKind.i64.wrap (y:Int)=(y:Int):=j64 (by omega) (by omega);have hm2:IntKind.i64.wrap (31*(x:Int)+(y:Int))=31*(x:Int)+(y:Int):=j64 (by omega) (by omega);have hm3:Int.tmod (31*(x:Int)+(y:Int)) 4093=(((31*x+y)%4093:Nat):Int):=(by rw[Int.tmod_eq_emod_of_nonneg (by omega)];omega);have hlt:(31*x+y)%4093<4093:=Nat.mod_lt _ (by omega);generalize (31*x+y)%4093=z at hm3 hlt;go_wp2_with fail;go_round
   case rel=>exact⟨z,j+1,by go_num,by go_num,hlt,by omega⟩
   case measure=>simp[intOf];omega
  ·have hin':¬(j:Int)<(s.length:Int):=(by omega);go_wp2_with fail;go_ret;exact⟨⟨x,hx,rfl⟩,HB.out⟩
open Tryz
open srch (vAg opAg tI OAt zOu)
theorem zmP {S:List Nat}{w w':World}{base:Nat}{e:TypeId}{size:Nat}{v:Value}{n:Nat}{xs:List Value}(h:w.ownsRow base e size v n xs)(k:Kept S w w')(hS:∀g,v.ownBlock=some g→g∉S):w'.ownsRow base e size v n xs:=by
 refine⟨h.1,?_⟩;rcases h.2 with hn|⟨g,cap,cur,hv,hbg,hb,rest⟩
 ·exact .inl hn
 ·exact .inr ⟨g,cap,cur,hv,hbg,(k.block g (zBq hb) (hS g (by rw[hv];rfl))).trans hb,rest⟩
theorem jne {w:World}{base base':Nat}{e e':TypeId}{size size':Nat}{v v':Value}{n n':Nat}{xs xs':List Value}(h:w.ownsRow base e size v n xs)(h':w.ownsRow base' e' size' v' n' xs')(hne:e≠e'):∀g,v.ownBlock=some g→g∉v'.ownBlock.toList:=by
 intro g hg hm;rw[Option.mem_toList]at hm;rcases h.2 with hn|⟨g1,cap,cur,hv,_,hb1,_⟩
 ·rw[hn.1]at hg;cases hg
 rcases h'.2 with hn|⟨g2,cap2,cur2,hv2,_,hb2,_⟩
 ·rw[hn.1]at hm;cases hm
 rw[hv]at hg;rw[hv2]at hm;have e1:g1=g:=by injection hg
 have e2:g2=g:=by injection hm
 subst e1;subst e2;rw[hb1]at hb2;injection hb2 with hb2;injection hb2 with _ hb2 _;exact hne hb2
def zfO (c:Cf):List Value:=[.string ⟨c.1.toArray⟩,.string ⟨c.2.toArray⟩]
def zKT (l:List Cf):List Value:=l.flatMap zfO
def zea (l:List Nat):List Value:=l.map fun(k:Nat)=>Value.int .i64 (k:Int)
theorem zaw (l:List Cf)(i:Nat)(c:Cf)(h:l[i]?=some c):(zKT l)[i*2]?=some (.string ⟨c.1.toArray⟩)∧(zKT l)[i*2+1]?=some (.string ⟨c.2.toArray⟩):=by
 induction l generalizing i with
 |nil=>simp at h
 |cons d r ih=>
   have e:zKT (d::r)=zfO d++zKT r:=(by simp[zKT]);have hl:(zfO d).length=2:=rfl;rw[e];cases i with
   |zero=>simp at h;subst h;simp[zfO]
   |succ i=>
     obtain⟨a,b⟩:=ih i (by simpa using h);refine⟨?_,?_⟩
     ·rw[List.getElem?_append_right (by omega),hl,show(i+1)*2-2=i*2 by omega,a]
     ·rw[List.getElem?_append_right (by omega),hl,show(i+1)*2+1-2=i*2+1 by omega,b]
theorem zNI (l:List Cf)(c:Cf):zKT (l++[c])=zKT l++zfO c:=by simp[zKT]
theorem zyv (l:List Nat)(c:Nat):zea (l++[c])=zea l++[.int .i64 (c:Int)]:=by simp[zea]
structure FI (b:Nat)(w:World)(cs:Array Value)(vL vN:Value)(L:List Cf)(nx:List Nat)(ls:Nat→Nat):Prop where
 blk:w.heap[b]?=some (.cells cs 234 (0,0))
 sz:cs.size=4098
 c0:cs[0]?=some vL
 c1:∀k,k<4096→cs[1+k]?=some (.int .i64 (ls k:Int))
 c2:cs[4097]?=some vN
 lst:∀k,k<4096→ls k≤L.length
 rowL:w.ownsRow (b+1) 82 2 vL L.length (zKT L)
 rowN:w.ownsRow (b+1) 3 1 vN L.length (zea nx)
 nl:nx.length=L.length
 nxt:∀(j x:Nat),nx[j]?=some x→x≤j
theorem FI.kept {b:Nat}{w w':World}{cs:Array Value}{vL vN:Value}{L:List Cf}{nx:List Nat}{ls:Nat→Nat}(h:FI b w cs vL vN L nx ls)(k:Below w.heap.size w w'):FI b w' cs vL vN L nx ls:=
 ⟨(k.block _ (zBq h.blk)).trans h.blk,h.sz,h.c0,h.c1,h.c2,h.lst,zmP h.rowL (Kept.of_below (S:=[]) k) (by simp),zmP h.rowN (Kept.of_below (S:=[]) k) (by simp),h.nl,h.nxt⟩
theorem zeroF:(Tryz.zeroCells234).size=4098∧(Tryz.zeroCells234)[0]?=some (.slice none 0 0)∧(Tryz.zeroCells234)[4097]?=some (.slice none 0 0):=⟨by kernel_rfl,by kernel_rfl,by kernel_rfl⟩
def isZ:Value→Bool
 |.int .i64 n=>n==0
 |_=>false
theorem zTO {v:Value}(h:isZ v=true):v=.int .i64 0:=by
 unfold isZ at h;split at h
 ·rename_i n;have:n=0:=by simpa using h
  rw[this]
 ·cases h
theorem zTv:∀k,k<4096→(Tryz.zeroCells234)[1+k]?=some (.int .i64 0):=by
 have h:(((Tryz.zeroCells234).toList.drop 1).take 4096).all isZ=true:=by kernel_rfl
 intro k hk;have hs:=zeroF.1;have hl:1+k<(Tryz.zeroCells234).size:=by omega
 rw[Array.getElem?_eq_getElem hl];congr 1;apply zTO;refine List.all_eq_true.1 h _ ?_;refine List.mem_iff_getElem?.2 ⟨k,?_⟩;rw[List.getElem?_take,if_pos hk,List.getElem?_drop,Array.getElem?_toList,Array.getElem?_eq_getElem hl]
theorem FI.zero (w:World):FI w.heap.size (w.alloc (.cells Tryz.zeroCells234 234)) Tryz.zeroCells234 (.slice none 0 0) (.slice none 0 0) [] [] (fun _=>0):=
 ⟨ziF _ _ _ rfl,zeroF.1,zeroF.2.1,fun k hk=>zTv k hk,zeroF.2.2,fun _ _=>Nat.le_refl _,World.ownsRow_nil _ _ _ _,World.ownsRow_nil _ _ _ _,rfl,fun j x h=>by simp at h⟩
theorem zKF:(prog.info? 82).map (fun i=>(i.zero,i.size,i.bytes))=some (some (.agg #[.string ⟨#[]⟩,.string ⟨#[]⟩]),2,32):=by kernel_rfl
theorem zRi:(prog.info? 3).map (fun i=>(i.zero,i.size,i.bytes))=some (some (.int .i64 0),1,8):=by kernel_rfl
theorem z9Y (dr:Bool)(W:World)(base:Nat)(a:Option Addr)(n c:Nat)(xs:List Value)(s:Cf)(h:W.ownsRow base 82 2 (.slice a n c) n xs)(hn:n≤3000000)(hb:base≤W.heap.size):
 ∃a' c' w',(Builtin.append_ #[131,131] 131 #[.slice a n c,.slice (some ⟨W.heap.size,0,none⟩) 1 1]).run prog (cond dr (W.alloc (.cells #[.string ⟨s.1.toArray⟩,.string ⟨s.2.toArray⟩] 82)).drew (W.alloc (.cells #[.string ⟨s.1.toArray⟩,.string ⟨s.2.toArray⟩] 82)))=.ok (.slice a' (n+1) c') w'∧w'.ownsRow base 82 2 (.slice a' (n+1) c') (n+1) (xs++zfO s)∧Kept (Value.slice a n c).ownBlock.toList W w':=by
 obtain⟨i0,hi0',hz0,hz1,hz2⟩:=info_parts zKF;obtain⟨U,hU,hUo,hUc,hUs,hUk⟩:∃U,cond dr (W.alloc (.cells (zfO s).toArray 82)).drew (W.alloc (.cells (zfO s).toArray 82))=U∧U.ownsRow base 82 2 (.slice a n c) n xs∧(∀j u,(zfO s)[j]?=some u→U.cell? ((⟨W.heap.size,0,none⟩:Addr).add j)=some u)∧base≤U.heap.size∧Kept (Value.slice a n c).ownBlock.toList W U:=by
  cases dr
  ·exact⟨_,rfl,h.alloc _,z9R W _ _,by simp;omega,(Kept.refl _ W).alloc _⟩
  ·exact⟨_,rfl,h.alloc _,z9R W _ _,by show base≤(W.alloc _).heap.size;simp;omega,((Kept.refl _ W).alloc _).drew⟩
 obtain⟨v7,w7,h1,h2,h3,_⟩:=run_append_own (P:=prog) U base 131 131 82 i0 _ 2 32 underlying131 hi0' hz0 hz1 hz2 rfl (by decide) (.slice a n c) n xs hUo ⟨W.heap.size,0,none⟩ 1 1 (zfO s) rfl hUc (by intro u hu;simp[zfO]at hu;rcases hu with rfl|rfl<;>rfl) (by unfold maxLen;omega) (by omega) hUs;obtain⟨a',c',rfl⟩:=zIW h2;exact⟨a',c',w7,by rw[←hU]at h1;exact h1,h2,hUk.grownS h3 (fun g' hg'=>by rw[hg'];simp)⟩
theorem zla (dr:Bool)(W:World)(base:Nat)(a:Option Addr)(n c:Nat)(xs:List Value)(s:Int)(h:W.ownsRow base 3 1 (.slice a n c) n xs)(hn:n≤3000000)(hb:base≤W.heap.size):
 ∃a' c' w',(Builtin.append_ #[43,43] 43 #[.slice a n c,.slice (some ⟨W.heap.size,0,none⟩) 1 1]).run prog (cond dr (W.alloc (.cells #[.int .i64 s] 3)).drew (W.alloc (.cells #[.int .i64 s] 3)))=.ok (.slice a' (n+1) c') w'∧w'.ownsRow base 3 1 (.slice a' (n+1) c') (n+1) (xs++[.int .i64 s])∧Kept (Value.slice a n c).ownBlock.toList W w':=by
 obtain⟨i0,hi0',hz0,hz1,hz2⟩:=info_parts zRi;obtain⟨U,hU,hUo,hUc,hUs,hUk⟩:∃U,cond dr (W.alloc (.cells ([.int .i64 s]:List Value).toArray 3)).drew (W.alloc (.cells ([.int .i64 s]:List Value).toArray 3))=U∧U.ownsRow base 3 1 (.slice a n c) n xs∧(∀j u,([.int .i64 s]:List Value)[j]?=some u→U.cell? ((⟨W.heap.size,0,none⟩:Addr).add j)=some u)∧base≤U.heap.size∧Kept (Value.slice a n c).ownBlock.toList W U:=by
  cases dr
  ·exact⟨_,rfl,h.alloc _,z9R W _ _,by simp;omega,(Kept.refl _ W).alloc _⟩
  ·exact⟨_,rfl,h.alloc _,z9R W _ _,by show base≤(W.alloc _).heap.size;simp;omega,((Kept.refl _ W).alloc _).drew⟩
 obtain⟨v7,w7,h1,h2,h3,_⟩:=run_append_own (P:=prog) U base 43 43 3 i0 _ 1 8 underlying43 hi0' hz0 hz1 hz2 rfl (by decide) (.slice a n c) n xs hUo ⟨W.heap.size,0,none⟩ 1 1 [.int .i64 s] rfl hUc (by intro u hu;simp at hu;subst hu;rfl) (by unfold maxLen;omega) (by omega) hUs;obtain⟨a',c',rfl⟩:=zIW h2;exact⟨a',c',w7,by rw[←hU]at h1;exact h1,h2,hUk.grownS h3 (fun g' hg'=>by rw[hg'];simp)⟩
theorem zyC {b:Nat}{w:World}{cs:Array Value}{g cap:Nat}{vN:Value}{L:List Cf}{nx:List Nat}{ls:Nat→Nat}(h:FI b w cs (.slice (some ⟨g,0,none⟩) L.length cap) vN L nx ls){i:Nat}{c:Cf}(hi:L[i]?=some c):w.cell? ⟨g,i*2,none⟩=some (.string ⟨c.1.toArray⟩)∧w.cell? ⟨g,i*2+1,none⟩=some (.string ⟨c.2.toArray⟩):=by
 obtain⟨h0,h1⟩:=zaw L i c hi;have a:=h.rowL.cells (g:=g) rfl _ _ h0;have b:=h.rowL.cells (g:=g) rfl _ _ h1;rw[Addr.add_lit,Nat.zero_add]at a b;exact⟨a,b⟩
theorem zr7 {b:Nat}{w:World}{cs:Array Value}{g cap:Nat}{vL:Value}{L:List Cf}{nx:List Nat}{ls:Nat→Nat}(h:FI b w cs vL (.slice (some ⟨g,0,none⟩) L.length cap) L nx ls){i x:Nat}(hi:nx[i]?=some x):w.cell? ⟨g,i,none⟩=some (.int .i64 (x:Int)):=by
 have a:=h.rowN.cells (g:=g) rfl i (.int .i64 (x:Int)) (by unfold zea;rw[List.getElem?_map,hi];rfl);rw[Addr.add_lit,Nat.zero_add]at a;exact a
theorem zSI {w:World}{b:Nat}{e:TypeId}{size n:Nat}{v:Value}{xs:List Value}(h:w.ownsRow (b+1) e size v n xs):b∉v.ownBlock.toList:=fun hm=>by
 have:=(h.lt b (by simpa using hm)).1;omega
def z9g (b:Nat)(c:Cf)(L:List Cf)(w:World)(e:Ending)(w':World):Prop:=
 e=.returned (.tuple #[])∧Below b w w'∧((c∈L∧(∃cs vL vN nx ls,FI b w' cs vL vN L nx ls))∨∃cs vL vN nx ls,FI b w' cs vL vN (L++[c]) nx ls)
theorem add_any (b:Nat)(c:Cf)(cs:Array Value)(vL vN:Value)(L:List Cf)(nx:List Nat)(ls:Nat→Nat)(w:World)(h1:c.1.length≤1000)(h2:c.2.length≤8000000)(hL:L.length≤1000000)(hF:FI b w cs vL vN L nx ls):
 Calls prog 105 #[.pointer (some ⟨b,0,none⟩),cAg c] w (z9g b c L w):=by
 have hsum:=fun w=>zq2 c w h1 h2;obtain⟨W0,hW0,hb0,hB0⟩:∃W0,w.alloc (.cells #[.string ⟨c.1.toArray⟩,.string ⟨c.2.toArray⟩] 82)=W0∧Below w.heap.size w W0∧W0.heap[w.heap.size]?=some (.cells #[.string ⟨c.1.toArray⟩,.string ⟨c.2.toArray⟩] 82 (0,0)):=⟨_,rfl,zA _ _,ziF _ _ _ rfl⟩;have c0:W0.cell? ⟨w.heap.size,0,none⟩=some (.string ⟨c.1.toArray⟩):=zBk hB0 0;have c1:W0.cell? ⟨w.heap.size,1,none⟩=some (.string ⟨c.2.toArray⟩):=zBk hB0 1;obtain⟨la,lc,rfl⟩:=zIW hF.rowL;obtain⟨na,nc,rfl⟩:=zIW hF.rowN;have hF0:=hF.kept hb0;have H0:Hid _:=And.intro hb0 (And.intro hB0 hF0);unfold cAg at*;clear hb0 hB0 hF0;go_enter func105,ntmps105;go_wp2_with fail;refine(hsum _).mono ?_;rintro e w1 ⟨⟨n,hn,rfl⟩,hb1⟩;have hF1:=H0.out.2.2.kept hb1;have hn':(n:Int)<4096:=by omega
 have x1:w1.cell? ⟨b,1+n,none⟩=some (.int .i64 (ls n:Int)):=(zBk hF1.blk _).trans (hF1.c1 n (by omega));have H1:Hid _:=And.intro hb1 hF1;clear hb1 hF1 hsum c0 c1;go_wp2_with fail;have hlsn:=hF.lst n (by omega);go_loopw [5] (fun s5 wr=>∃(x:Nat),s5=.int .i64 (x:Int)∧x≤L.length∧Hid (Below w1.heap.size w1 wr)) (fun s5 _=>(intOf s5).toNat)
 case atStart=>exact⟨ls n,rfl,hlsn,zD⟩
 case round=>
  obtain⟨x,rfl,hx,HB⟩:=hrel;have hFr:=H1.out.2.kept HB.out;have hB1:=(H1.out.1.trans (HB.out.mono H1.out.1.size));have hcb:=(hB1.block _ (zBq H0.out.2.1)).trans H0.out.2.1;have c0:wr.cell? ⟨w.heap.size,0,none⟩=some (.string ⟨c.1.toArray⟩):=zBk hcb 0;have c1:wr.cell? ⟨w.heap.size,1,none⟩=some (.string ⟨c.2.toArray⟩):=zBk hcb 1;have t0:wr.cell? ⟨b,0,none⟩=some (.slice la L.length lc):=(zBk hFr.blk _).trans hFr.c0;have t2:wr.cell? ⟨b,4097,none⟩=some (.slice na L.length nc):=(zBk hFr.blk _).trans hFr.c2;have HFr:Hid _:=hFr;have HBw:Hid (Below b w wr):=by
   have h0:b≤w.heap.size:=Nat.le_of_lt (zBq hF.blk);exact(H0.out.1.mono h0).trans (hB1.mono (Nat.le_trans h0 H0.out.1.size))
  clear hB1 hcb;cases x with
  |zero=>
    have hbl:=zBq hFr.blk;obtain⟨a7,c7,w7,hap,own7,hk7⟩:=z9Y true wr (b+1) la L.length lc (zKT L) c hFr.rowL (by omega) (by omega);have hap':(Builtin.append_ #[131,131] 131 #[.slice la L.length lc,.slice (some ⟨wr.heap.size,0,none⟩) 1 1]).run prog ((wr.alloc (.cells #[.string ⟨c.1.toArray⟩,.string ⟨c.2.toArray⟩] 82)).drew)=.ok (.slice a7 (L.length+1) c7) w7:=hap;have hT7:=(hk7.block b hbl (zSI hFr.rowL)).trans hFr.blk;have s1:w7.cell? ⟨b,0,none⟩=some (.slice la L.length lc):=(zBk hT7 _).trans hFr.c0;have s2:w7.frozen? ⟨b,0,none⟩=false:=zBn hT7 0;have hneb:b≠wr.heap.size:=(by omega);have hnec:w.heap.size≠wr.heap.size:=by
     have:=H0.out.1.size;have:=zBq H0.out.2.1;have:=H1.out.1.size;have:=HB.out.size;omega
    rw[←zNI]at own7;have hN7:=zmP hFr.rowN hk7 (jne hFr.rowN hFr.rowL (by decide));have hb7:Below b w w7:=HBw.out.trans (hk7.below (Nat.le_of_lt hbl) (fun g hg=>by have:=(hFr.rowL.lt g (by simpa using hg)).1;omega));have H7:Hid _:=(⟨hT7,own7,hN7,hb7⟩:_∧_∧_∧_);clear hFr hap hT7 own7 hN7 hb7 hk7;go_wp2_with fail;go_cut [41] (fun a wx=>wx.heap[b]?=some (.cells (cs.setIfInBounds 0 (.slice a7 (L.length+1) c7)) 234 (0,0))∧wx.ownsRow (b+1) 82 2 (.slice a7 (L.length+1) c7) (L.length+1) (zKT (L++[c]))∧wx.ownsRow (b+1) 3 1 (.slice na L.length nc) L.length (zea nx)∧Below b w wx)
    case first=>
     go_region_law (refine zti rfl _ _ 131 rfl _ _ _ _ rfl rfl hap' ?_)
     all_goals
      go_wp2_with fail;go_meet;obtain⟨hT7,own7,hN7,hb7⟩:=H7.out;have hkE:Kept [b] w7 (w7.setCell ⟨b,0,none⟩ (.slice a7 (L.length+1) c7)):=(Kept.refl _ _).setCell (p:=⟨b,0,none⟩) (Or.inl (by simp)) _;refine⟨by rw[zFg hT7],zmP own7 hkE (fun g hg=>by have:=(own7.lt g hg).1;simp;omega),zmP hN7 hkE (fun g hg=>by have:=(hN7.lt g hg).1;simp;omega),hb7.trans (hkE.below (Nat.le_of_lt (zBq hT7)) (by simp))⟩
    case rest=>
     obtain⟨hT8,own8,hN8,hb8⟩:=hcut;clear H7 hap' s1 s2 t0 t2 c0 c1;have hbl8:=zBq hT8;have hcs:cs.size=4098:=hF.sz;have g0:(cs.setIfInBounds 0 (.slice a7 (L.length+1) c7))[0]?=some (.slice a7 (L.length+1) c7):=(by simp[hcs]);have g1:∀k,k<4096→(cs.setIfInBounds 0 (.slice a7 (L.length+1) c7))[1+k]?=some (.int .i64 (ls k:Int)):=fun k hk=>by
      rw[Array.getElem?_setIfInBounds_ne (by omega)];exact hF.c1 k hk
     have g2:(cs.setIfInBounds 0 (.slice a7 (L.length+1) c7))[4097]?=some (.slice na L.length nc):=by
      rw[Array.getElem?_setIfInBounds_ne (by omega)];exact hF.c2
     have gs:(cs.setIfInBounds 0 (.slice a7 (L.length+1) c7)).size=4098:=(by simp[hcs]);generalize cs.setIfInBounds 0 (.slice a7 (L.length+1) c7)=cs1 at*;obtain⟨wd,rfl⟩:∃wd:World,wd=wc:=⟨_,rfl⟩;obtain⟨a9,c9,w9,hap,own9,hk9⟩:=zla true wd (b+1) na L.length nc (zea nx) (ls n:Int) hN8 (by omega) (by omega);have hap':(Builtin.append_ #[43,43] 43 #[.slice na L.length nc,.slice (some ⟨wd.heap.size,0,none⟩) 1 1]).run prog ((wd.alloc (.cells #[.int .i64 (ls n:Int)] 3)).drew)=.ok (.slice a9 (L.length+1) c9) w9:=hap;have hT9:=(hk9.block b hbl8 (zSI hN8)).trans hT8;have u2:wd.cell? ⟨b,4097,none⟩=some (.slice na L.length nc):=(zBk hT8 _).trans g2;have u1:wd.cell? ⟨b,1+n,none⟩=some (.int .i64 (ls n:Int)):=(zBk hT8 _).trans (g1 n (by omega));have s1:w9.cell? ⟨b,4097,none⟩=some (.slice na L.length nc):=(zBk hT9 _).trans g2;have s2:w9.frozen? ⟨b,4097,none⟩=false:=zBn hT9 4097;have hneb:b≠wd.heap.size:=(by omega);rw[←zyv]at own9;have hL9:=zmP own8 hk9 (jne own8 hN8 (by decide));have hb9:Below b w w9:=hb8.trans (hk9.below (Nat.le_of_lt hbl8) (fun g hg=>by have:=(hN8.lt g (by simpa using hg)).1;omega));have H9:Hid _:=(⟨hT9,hL9,own9,hb9⟩:_∧_∧_∧_);clear hap hT9 hL9 own9 hb9 hk9 hT8 own8 hN8 hb8;go_wp2_with fail;go_cut [56] (fun a wx=>wx.heap[b]?=some (.cells (cs1.setIfInBounds 4097 (.slice a9 (L.length+1) c9)) 234 (0,0))∧wx.ownsRow (b+1) 82 2 (.slice a7 (L.length+1) c7) (L.length+1) (zKT (L++[c]))∧wx.ownsRow (b+1) 3 1 (.slice a9 (L.length+1) c9) (L.length+1) (zea (nx++[ls n]))∧Below b w wx)
     case first=>
      go_region_law (refine zti rfl _ _ 43 rfl _ _ _ _ rfl rfl hap' ?_)
      all_goals
       go_wp2_with fail;go_meet;obtain⟨hT9,hL9,own9,hb9⟩:=H9.out;have hkE:Kept [b] w9 (w9.setCell ⟨b,4097,none⟩ (.slice a9 (L.length+1) c9)):=(Kept.refl _ _).setCell (p:=⟨b,4097,none⟩) (Or.inl (by simp)) _;refine⟨by rw[zFg hT9],zmP hL9 hkE (fun g hg=>by have:=(hL9.lt g hg).1;simp;omega),zmP own9 hkE (fun g hg=>by have:=(own9.lt g hg).1;simp;omega),hb9.trans (hkE.below (Nat.le_of_lt (zBq hT9)) (by simp))⟩
     case rest=>
      obtain⟨hT8,own8,hN8,hb8⟩:=hcut;clear H9 hap' s1 s2 u1 u2;have k0:(cs1.setIfInBounds 4097 (.slice a9 (L.length+1) c9))[0]?=some (.slice a7 (L.length+1) c7):=by
       rw[Array.getElem?_setIfInBounds_ne (by omega)];exact g0
      have k1:∀k,k<4096→(cs1.setIfInBounds 4097 (.slice a9 (L.length+1) c9))[1+k]?=some (.int .i64 (ls k:Int)):=fun k hk=>by
       rw[Array.getElem?_setIfInBounds_ne (by omega)];exact g1 k hk
      have k2:(cs1.setIfInBounds 4097 (.slice a9 (L.length+1) c9))[4097]?=some (.slice a9 (L.length+1) c9):=(by simp[gs]);have ks:(cs1.setIfInBounds 4097 (.slice a9 (L.length+1) c9)).size=4098:=(by simp[gs]);generalize cs1.setIfInBounds 4097 (.slice a9 (L.length+1) c9)=cs2 at*;have u0:wc.cell? ⟨b,0,none⟩=some (.slice a7 (L.length+1) c7):=(zBk hT8 _).trans k0;have u1:wc.cell? ⟨b,1+n,none⟩=some (.int .i64 (ls n:Int)):=(zBk hT8 _).trans (k1 n (by omega));have z1:wc.frozen? ⟨b,1+n,none⟩=false:=zBn hT8 _;have H8:Hid _:=(⟨hT8,own8,hN8,hb8⟩:_∧_∧_∧_);have hSS:∀v,(wc.setCell ⟨b,1+n,none⟩ v).drew.cell? ⟨b,0,none⟩=some (.slice a7 (L.length+1) c7):=fun v=>(zBk (show(wc.setCell ⟨b,1+n,none⟩ v).drew.heap[b]?=_ from zFg hT8 _ v) 0).trans (by rw[Array.getElem?_setIfInBounds_ne (by omega)];exact k0);clear hT8 own8 hN8 hb8;go_wp2_with fail;go_region_held3 (fun w'=>w'.cell? ⟨b,0,none⟩=some (.slice a7 (L.length+1) c7)) (first|(with_reducible exact hSS _)|go_keep) (fail);go_wp2_with fail;go_end0;obtain⟨hT8,own8,hN8,hb8⟩:=H8.out;have hkE:Kept [b] wc (wc.setCell ⟨b,1+n,none⟩ (.int .i64 ((L.length:Int)+1))).drew:=((Kept.refl _ _).setCell (p:=⟨b,1+n,none⟩) (Or.inl (by simp)) _).drew;refine⟨rfl,hb8.trans (hkE.below (Nat.le_of_lt (zBq hT8)) (by simp)),.inr ⟨cs2.setIfInBounds (1+n) (.int .i64 ((L.length:Int)+1)),.slice a7 (L.length+1) c7,.slice a9 (L.length+1) c9,nx++[ls n],fun k=>if k=n then L.length+1 else ls k,?_⟩⟩;refine⟨by show(wc.setCell _ _).heap[b]?=_;rw[zFg hT8],by simp[ks],by rw[Array.getElem?_setIfInBounds_ne (by omega)];exact k0,fun k hk=>?_,by rw[Array.getElem?_setIfInBounds_ne (by omega)];exact k2,fun k hk=>?_,?_,?_,by simp[hF.nl],fun j x hj=>?_⟩
      ·by_cases e:k=n
       ·subst e;rw[if_pos rfl,Array.getElem?_setIfInBounds_self_of_lt (by omega)];rfl
       ·rw[Array.getElem?_setIfInBounds_ne (by omega),if_neg e];exact k1 k hk
      ·have:=hF.lst k hk;simp only [zI,List.length_singleton];split<;>omega
      ·rw[zI];exact zmP own8 hkE (fun g hg=>by have:=(own8.lt g hg).1;simp;omega)
      ·rw[zI];exact zmP hN8 hkE (fun g hg=>by have:=(hN8.lt g hg).1;simp;omega)
      ·rcases Nat.lt_or_ge j nx.length with hl|hl
       ·rw[List.getElem?_append_left hl]at hj;exact hF.nxt j x hj
       ·rw[List.getElem?_append_right hl]at hj;obtain⟨e1,e2⟩:j-nx.length=0∧x=ls n:=by
         cases h:j-nx.length with
         |zero=>rw[h]at hj;simp at hj;exact⟨rfl,hj.symm⟩
         |succ q=>rw[h]at hj;simp at hj
        have:=hF.lst n (by omega);have:=hF.nl;omega
  |succ y=>
    have hyl:y<L.length:=(by omega);have hyi:(y:Int)<(L.length:Int):=(by omega);have hy0:(0:Int)<(y:Int)+1:=(by omega);have hwp:IntKind.i64.wrap ((y:Int)+1-1)=(y:Int):=(by rw[j64 (by omega) (by omega)];omega);obtain⟨⟨d1,d2⟩,hd⟩:∃d,L[y]?=some d:=⟨_,zC hyl⟩;obtain⟨z,hz⟩:∃z,nx[y]?=some z:=⟨_,zC (by rw[hF.nl];exact hyl)⟩;have hzy:=hF.nxt y z hz;obtain⟨gl,rfl⟩:∃g,la=some ⟨g,0,none⟩:=by
     rcases zzD hFr.rowL with ⟨_,e⟩|⟨g,cap,e,_⟩
     ·omega
     ·injection e with e;exact⟨g,e⟩
    obtain⟨gn,rfl⟩:∃g,na=some ⟨g,0,none⟩:=by
     rcases zzD hFr.rowN with ⟨_,e⟩|⟨g,cap,e,_⟩
     ·omega
     ·injection e with e;exact⟨g,e⟩
    obtain⟨r0,r1⟩:=zyC hFr hd;have r2:=zr7 hFr hz;clear hFr;rw[show(((y+1:Nat)):Int)=(y:Int)+1 by omega];by_cases e1:d1=c.1
    ·by_cases e2:d2=c.2
     ·have HM:Hid (c∈L):=List.mem_of_getElem? (hd.trans (by rw[e1,e2]));subst e1 e2;go_wp2_with fail;go_quiet (fail);go_wp2_with fail;refine bodyPost_ret (v:=.tuple #[]) (by simp[results,results105,go_sem]) rfl ⟨rfl,zqh HBw.out _,.inl ⟨HM.out,_,_,_,_,_,HFr.out.kept (zqh (zD) _)⟩⟩
     ·subst e1;go_wp2_with fail;go_quiet (fail);go_wp2_with fail;go_roundw
      case rel=>exact⟨z,rfl,by omega,zqh HB.out _⟩
      case measure=>simp[intOf];omega
    ·go_wp2_with fail;go_quiet (fail);go_wp2_with fail;go_roundw
     case rel=>exact⟨z,rfl,by omega,zqh HB.out _⟩
     case measure=>simp[intOf];omega
def okC (P:List OpV)(c:Cf):Prop:=c.1.length=P.length∧c.2.length≤20+21*c.1.count 49
theorem zyE (s:List UInt8):(zN3 s).2.length≤s.length:=(zGM s).2
theorem z30 {st:List UInt8}{o:OpV}(h:okO o):(ztI st o).1.length≤st.length+21∨(ztI st o).1.length≤20:=by
 obtain⟨_,ha,he,hc⟩:=h;have h1:=zCU o.arg ha.1 ha.2;have h2:=zCU o.cl hc.1 hc.2;have h3:=zyE st;have key:∀(c:Prop) [Decidable c] (a b:List UInt8×Int×Int),(a.1.length≤st.length+21∨a.1.length≤20)→(b.1.length≤st.length+21∨b.1.length≤20)→((if c then a else b).1.length≤st.length+21∨(if c then a else b).1.length≤20):=by
  intro c _ a b ha hb;split
  ·exact ha
  ·exact hb
 have k0:∀v:Int×Int,((st,v):List UInt8×Int×Int).1.length≤st.length+21∨((st,v):List UInt8×Int×Int).1.length≤20:=fun v=>.inl (by show st.length≤_;omega);have k1:∀(v:Int×Int) (z:UInt8),(([z],v):List UInt8×Int×Int).1.length≤st.length+21∨(([z],v):List UInt8×Int×Int).1.length≤20:=fun v z=>.inr (by show 1≤_;omega);unfold ztI;refine key _ _ _ (k0 _) (key _ _ _ (.inr h1) (key _ _ _ (key _ _ _ (.inr h1) (k0 _)) (key _ _ _ (k1 _ _) (key _ _ _ ?_ (key _ _ _ (.inl (by show(zN3 st).2.length≤_;omega)) (key _ _ _ (k1 _ _) (key _ _ _ (k1 _ _) (key _ _ _ (k0 _) (key _ _ _ (key _ _ _ (.inr h2) (k0 _)) (key _ _ _ (key _ _ _ (k1 _ _) (k0 _)) (k0 _)))))))))));dsimp only;split
 ·exact .inr h1
 ·left;simp;omega
theorem zHF {P:List OpV}{done:List UInt8}{k:Nat}(h:mayP P done k=true):done[k]?.getD 0≠49:=by
 unfold mayP at h;simp at h;exact h.1
theorem zSU {l:List UInt8}{k:Nat}(hk:k<l.length)(h:l[k]≠49):(l.take k++[49]++l.drop (k+1)).count 49=l.count 49+1:=by
 have e:l=l.take k++l[k]::l.drop (k+1):=by rw[←List.drop_eq_getElem_cons hk,List.take_append_drop]
 have e2:l.count 49=(l.take k).count 49+(l.drop (k+1)).count 49:=by
  conv=>lhs;rw[e]
  rw[List.count_append,List.count_cons_of_ne h]
 rw[List.count_append,List.count_append,e2];simp;omega
theorem zYT {P:List OpV}{c c':Cf}{k:Nat}(hk:k<P.length)(hP:∀o∈P,okO o)(hc:okC P c)(h:zsj P c k=some c'):okC P c'∧c'.1=c.1.take k++[49]++c.1.drop (k+1)∧c'.2=(ztI c.2 (P[k]?.getD z1u)).1:=by
 have hkd:k<c.1.length:=by rw[hc.1];exact hk
 unfold zsj at h;split at h
 ·rename_i hm;split at h
  ·cases h
  ·injection h with h;subst h;have hn:=zHF hm;rw[zC hkd]at hn;have hcn:=zSU hkd hn;refine⟨⟨by simp;have:=hc.1;omega,?_⟩,rfl,rfl⟩;show(ztI c.2 (P[k]?.getD z1u)).1.length≤_;rw[hcn];have hd:=z30 (st:=c.2) (hP (P[k]?.getD z1u) (by rw[zC hk];exact List.getElem_mem hk));have:=hc.2;rcases hd with hd|hd<;>omega
 ·cases h
inductive RR (P:List OpV)(c0:Cf):Cf→Prop
 | start:RR P c0 c0
 | step {c c':Cf} (h:RR P c0 c) (k:Nat) (hk:k<P.length) (hb:zsj P c k=some c'):RR P c0 c'
theorem RR.ok {P:List OpV}(hP:∀o∈P,okO o){c0 c:Cf}(h0:okC P c0)(h:RR P c0 c):okC P c:=by
 induction h with
 |start=>exact h0
 |step _ k hk hb ih=>exact(zYT hk hP ih hb).1
theorem okC.few {P:List OpV}{c:Cf}(h:okC P c)(hl:P.length≤1000):c.1.length≤1000∧c.2.length≤8000000:=by
 have:=h.1;have h2:=List.count_le_length (a:=(49:UInt8)) (l:=c.1);have:=h.2;omega
def zYN (n:Nat):List UInt8:=List.replicate n 48
def cf0 (m:List UInt8)(P:List OpV):Cf:=(zYN P.length,zKM m)
theorem z7m (m:List UInt8)(P:List OpV):okC P (cf0 m P):=by
 refine⟨by simp[cf0,zYN],?_⟩;have:(zKM m).length≤1:=by unfold zKM;split;simp;split<;>simp
 show(zKM m).length≤_;omega
def Shut (P:List OpV)(L:List Cf)(i:Nat):Prop:=∀(q:Nat) (c:Cf),q<i→L[q]?=some c→∀k,k<P.length→∀c',zsj P c k=some c'→c'∈L
def ShutK (P:List OpV)(L:List Cf)(c:Cf)(k:Nat):Prop:=∀q,q<k→∀c',zsj P c q=some c'→c'∈L
theorem Shut.more {P:List OpV}{L:List Cf}{i:Nat}(h:Shut P L i)(hi:i≤L.length)(x:Cf):Shut P (L++[x]) i:=fun q c hq hc k hk c' hb=>by
 rw[List.getElem?_append_left (by omega)]at hc;exact List.mem_append.2 (.inl (h q c hq hc k hk c' hb))
theorem ShutK.more {P:List OpV}{L:List Cf}{c:Cf}{k:Nat}(h:ShutK P L c k)(x:Cf):ShutK P (L++[x]) c k:=fun q hq c' hb=>List.mem_append.2 (.inl (h q hq c' hb))
structure Cfs (m:List UInt8)(P:List OpV)(room:Nat)(L:List Cf)(kn:Bool):Prop where
 has:cf0 m P∈L
 all:∀c∈L,RR P (cf0 m P) c
 shut:kn=true→∀c∈L,∀k,k<P.length→∀c',zsj P c k=some c'→c'∈L
 room:kn=decide (L.length≤room)
theorem zFG (n:Nat):(⟨(zYN n).toArray⟩:ByteArray)++⟨#[48]⟩=⟨(zYN (n+1)).toArray⟩:=by
 show((⟨(zYN n).toArray⟩:ByteArray)++⟨[48].toArray⟩)=_;rw[japp];congr 2;unfold zYN;rw[List.replicate_succ']
theorem z5x {w:World}{base base':Nat}{e:TypeId}{size:Nat}{v:Value}{n:Nat}{xs:List Value}(h:w.ownsRow base e size v n xs)(hb:base'≤base):w.ownsRow base' e size v n xs:=by
 refine⟨h.1,?_⟩;rcases h.2 with hn|⟨g,cap,cur,hv,hbg,rest⟩
 ·exact .inl hn
 ·exact .inr ⟨g,cap,cur,hv,Nat.le_trans hb hbg,rest⟩
def zB1 (m:List UInt8)(P:List OpV)(room:Nat)(w:World)(e:Ending)(w':World):Prop:=
 ∃L a c kn,e=.returned (.tuple #[.slice a L.length c,.bool kn])∧w'.ownsRow w.heap.size 82 2 (.slice a L.length c) L.length (zKT L)∧Below w.heap.size w w'∧L.length≤room+2000∧Cfs m P room L kn
theorem zxq (m:List UInt8)(hm:five m)(oa pa:Option Addr)(oc pc:Nat)(ops P:List OpV)(part:List Nat)(room:Nat)(w:World)(ho:OAt w oa ops)(hp:IAt w pa part)(hP:zrE ops part P)(hl:P.length≤1000)(hol:ops.length≤1000)(hok:∀o∈P,okO o)(hroom:room≤900000):
 Calls Tryz.prog 59 #[.string ⟨m.toArray⟩,.slice oa ops.length oc,.slice pa part.length pc,.int .i64 (room:Int)] w (zB1 m P room w):=by
 have HPL:Hid _:=hP.1;have hfst:=fun w=>zpZ m hm w;have hbeh:=fun c k w ho hp hc hk hst=>zvs m oa pa oc pc ops P part c k w ho hp hP hc hk hl hol hst hok;rw[hP.1]at hbeh⊢;go_enter Tryz.func59,Tryz.ntmps59;go_wp2_with fail;go_loop [10,11] (fun d i=>∃(j:Nat),d=.string ⟨(zYN j).toArray⟩∧i=.int .i64 (j:Int)∧j≤P.length) (fun _ i=>P.length-(intOf i).toNat)
 case atStart=>exact⟨0,rfl,rfl,by omega⟩
 case round=>
  obtain⟨j,rfl,rfl,hj⟩:=hrel;have hzl:(zYN j).length=j:=by simp[zYN]
  by_cases hin:j<P.length
  ·have hin':(j:Int)<(P.length:Int):=(by omega);have hwj:IntKind.i64.wrap ((j:Int)+1)=(j:Int)+1:=(by go_arith);have hz:=zFG j;go_wp2_with fail;go_round
   case rel=>exact⟨j+1,by first|rfl|(rw[zFG]),by go_num,by omega⟩
   case measure=>simp[intOf];omega
  ·obtain rfl:j=P.length:=(by omega);have hin':¬(P.length:Int)<(P.length:Int):=(by omega);have hF0:=FI.zero w;obtain⟨W0,hW0⟩:∃W0,w.alloc (.cells Tryz.zeroCells234 234)=W0:=⟨_,rfl⟩;have hb0:Below w.heap.size w W0:=(by rw[←hW0];exact zA _ _);rw[hW0]at hF0;have hok0:=z7m m P;have hadd:=fun W cs vL vN L nx ls (hL:L.length≤1000000) (hF:FI w.heap.size W cs vL vN L nx ls) (c:Cf) (hc:okC P c)=>add_any w.heap.size c cs vL vN L nx ls W (hc.few hl).1 (hc.few hl).2 hL hF;have ha0:=hadd W0 _ _ _ _ _ _ (by simp) hF0 _ hok0;have HADD:Hid _:=hadd;have HB0:Hid _:=hb0;unfold cAg at ha0;clear hadd hb0 hF0;rw[show cf0 m P=(zYN P.length,zKM m)from rfl]at ha0;dsimp only at ha0;go_wp2_with fail;refine(hfst _).mono ?_;rintro e w1 ⟨rfl,rfl⟩;go_wp2_with fail;refine ha0.mono ?_;rintro e w2 ⟨rfl,hb2,hL2⟩;obtain⟨cs,vL,vN,nx,ls,hF2⟩:∃cs vL vN nx ls,FI w.heap.size w2 cs vL vN [cf0 m P] nx ls:=by
    rcases hL2 with ⟨h,_⟩|h
    ·simp at h
    ·exact h
   clear hL2 ha0;have hb2w:Below w.heap.size w w2:=HB0.out.trans hb2;have HAt:Hid _:=And.intro ho hp;have HS2:Hid _:=(⟨⟨cs,vL,vN,nx,ls,hF2⟩,hb2w⟩:(∃cs vL vN nx ls,FI w.heap.size w2 cs vL vN [cf0 m P] nx ls)∧Below w.heap.size w w2);clear hb2 hb2w hF2 ho hp hok0;go_wp2_with fail;go_loopw [13] (fun s13 wr=>∃(i:Nat) (L:List Cf),s13=.int .i64 (i:Int)∧i≤L.length∧L.length≤room+1∧Hid (∃cs vL vN nx ls,FI w.heap.size wr cs vL vN L nx ls)∧Hid (cf0 m P∈L∧(∀c∈L,RR P (cf0 m P) c)∧Shut P L i)∧Hid (Below w.heap.size w wr)) (fun s13 _=>room+2-(intOf s13).toNat)
   case atStart=>exact⟨0,[cf0 m P],rfl,by simp,by simp,HS2.out.1,⟨by simp,fun c hc=>by simp at hc;subst hc;exact .start,fun q c hq=>absurd hq (by omega)⟩,HS2.out.2⟩
   case round=>
    obtain⟨i,L,rfl,hi,hLr,HF,HL,HB⟩:=hrel;obtain⟨cs,vL,vN,nx,ls,hF⟩:=HF.out;obtain⟨la,lc,rfl⟩:=zIW hF.rowL;have t0:wr.cell? ⟨w.heap.size,0,none⟩=some (.slice la L.length lc):=(zBk hF.blk _).trans hF.c0;by_cases hin:i<L.length
    ·have hin':(i:Int)<(L.length:Int):=(by omega);obtain⟨c,hci⟩:∃c,L[i]?=some c:=⟨_,zC hin⟩;have hokc:okC P c:=(HL.out.2.1 c (List.mem_of_getElem? hci)).ok hok (z7m m P);go_wp2_with fail;go_loopw [14] (fun s14 wx=>∃(k:Nat) (L':List Cf),s14=.int .i64 (k:Int)∧k≤P.length∧i<L'.length∧L'.length≤room+1+k∧Hid (∃cs vL vN nx ls,FI w.heap.size wx cs vL vN L' nx ls)∧Hid (cf0 m P∈L'∧(∀c∈L',RR P (cf0 m P) c)∧Shut P L' i∧L'[i]?=some c∧ShutK P L' c k)∧Hid (Below w.heap.size w wx)) (fun s14 _=>P.length-(intOf s14).toNat)
     case atStart=>exact⟨0,L,rfl,by omega,hin,by omega,HF,⟨HL.out.1,HL.out.2.1,HL.out.2.2,hci,fun q hq=>absurd hq (by omega)⟩,HB⟩
     case round=>
      clear t0 hF HF HL HB hci;obtain⟨k,L',rfl,hk,hiL,hLk,HF,HL,HB⟩:=hrel;by_cases hkin:k<P.length
      ·have hkin':(k:Int)<(P.length:Int):=(by omega);have hiL':(i:Int)<(L'.length:Int):=(by omega);obtain⟨cs,vL,vN,nx,ls,hF⟩:=HF.out;obtain⟨la,lc,rfl⟩:=zIW hF.rowL;obtain⟨gl,rfl⟩:∃g,la=some ⟨g,0,none⟩:=by
        rcases zzD hF.rowL with ⟨_,e⟩|⟨g,cap,e,_⟩
        ·omega
        ·injection e with e;exact⟨g,e⟩
       have t0:wr.cell? ⟨w.heap.size,0,none⟩=some (.slice (some ⟨gl,0,none⟩) L'.length lc):=(zBk hF.blk _).trans hF.c0;obtain⟨r0,r1⟩:=zyC hF HL.out.2.2.2.1;have hwk:IntKind.i64.wrap ((k:Int)+1)=(k:Int)+1:=(by go_arith);have hbq:=hbeh c k wr (HAt.out.1.below HB.out) (HAt.out.2.below HB.out) hokc.1 hkin (hokc.few hl).2;unfold cAg at hbq;have HFX:Hid _:=hF;clear hF;go_wp2_with fail;refine hbq.mono ?_;rintro e w3 ⟨hb3,hres⟩;have hF3:=HFX.out.kept hb3;have B3:Hid (Below w.heap.size w w3):=HB.out.trans (hb3.mono HB.out.size);clear hbq hb3 r0 r1 t0;rcases hres with ⟨c',hbp,rfl⟩|⟨hbn,rfl⟩
       ·have hokc':=(zYT hkin hok hokc hbp).1;obtain⟨W4,hW4,hb4,hC4⟩:∃W4,w3.alloc (.cells #[.string ⟨c'.1.toArray⟩,.string ⟨c'.2.toArray⟩] 82)=W4∧Below w3.heap.size w3 W4∧W4.heap[w3.heap.size]?=some (.cells #[.string ⟨c'.1.toArray⟩,.string ⟨c'.2.toArray⟩] 82 (0,0)):=⟨_,rfl,zA _ _,ziF _ _ _ rfl⟩;have d0:W4.cell? ⟨w3.heap.size,0,none⟩=some (.string ⟨c'.1.toArray⟩):=zBk hC4 0;have d1:W4.cell? ⟨w3.heap.size,1,none⟩=some (.string ⟨c'.2.toArray⟩):=zBk hC4 1;have B4:Hid (Below w.heap.size w W4):=B3.out.trans (hb4.mono B3.out.size);have hF4:=hF3.kept hb4;have ha:=HADD.out W4 _ _ _ _ _ _ (by omega) hF4 c' hokc';have HR:Hid (RR P (cf0 m P) c'):=.step (HL.out.2.1 c (List.mem_of_getElem? HL.out.2.2.2.1)) k hkin hbp;have HBP:Hid _:=hbp;unfold cAg at ha;clear hF3 hF4 hb4 hC4 hbp;go_wp2_with fail;refine ha.mono ?_;rintro e w5 ⟨rfl,hb5,hL5⟩;have B5:Hid (Below w.heap.size w w5):=B4.out.trans hb5;have HN:Hid (∃L'',i<L''.length∧L''.length≤room+1+(k+1)∧(∃cs vL vN nx ls,FI w.heap.size w5 cs vL vN L'' nx ls)∧cf0 m P∈L''∧(∀c∈L'',RR P (cf0 m P) c)∧Shut P L'' i∧L''[i]?=some c∧ShutK P L'' c (k+1)):=by
         obtain⟨l1,l2,l3,l4,l5⟩:=HL.out;have hsk:∀M:List Cf,ShutK P M c k→c'∈M→ShutK P M c (k+1):=fun M hs hm q hq x hx=>by
          by_cases e:q=k
          ·subst e;rw[HBP.out]at hx;injection hx with hx;subst hx;exact hm
          ·exact hs q (by omega) x hx
         rcases hL5 with ⟨h,hf⟩|hf
         ·exact⟨L',hiL,by omega,hf,l1,l2,l3,l4,hsk L' l5 h⟩
         ·exact⟨L'++[c'],by simp;omega,by simp;omega,hf,by simp[l1],fun x hx=>by
           rcases List.mem_append.1 hx with hx|hx
           ·exact l2 x hx
           ·rw[List.mem_singleton]at hx;subst hx;exact HR.out,l3.more (by omega) c',by rw[List.getElem?_append_left hiL];exact l4,hsk _ (l5.more c') (by simp)⟩
        clear hb5 hL5 ha d0 d1;go_wp2_with fail;go_roundw
        case rel=>
         obtain⟨L'',n1,n2,n3,n4,n5,n6,n7,n8⟩:=HN.out;exact⟨k+1,L'',by go_num,by omega,n1,n2,n3,⟨n4,n5,n6,n7,n8⟩,B5⟩
        case measure=>simp[intOf];omega
       ·have hb4:Below w3.heap.size w3 (w3.alloc (.cells #[.string ⟨c.1.toArray⟩,.string ⟨c.2.toArray⟩] 82)):=zA _ _;have B4:Hid _:=B3.out.trans (hb4.mono B3.out.size);have HF4:Hid _:=hF3.kept hb4;have HSK:Hid (ShutK P L' c (k+1)):=fun q hq x hx=>by
         by_cases e:q=k
         ·subst e;rw[hbn]at hx;cases hx
         ·exact HL.out.2.2.2.2 q (by omega) x hx
        clear hb4 hF3 hbn;go_wp2_with fail;go_roundw
        case rel=>exact⟨k+1,L',by go_num,by omega,hiL,by omega,⟨_,_,_,_,_,HF4.out⟩,⟨HL.out.1,HL.out.2.1,HL.out.2.2.1,HL.out.2.2.2.1,HSK.out⟩,B4⟩
        case measure=>simp[intOf];omega
      ·obtain rfl:k=P.length:=(by omega);have hkin':¬(P.length:Int)<(P.length:Int):=(by omega);obtain⟨cs,vL,vN,nx,ls,hF⟩:=HF.out;obtain⟨la,lc,rfl⟩:=zIW hF.rowL;have t0:wr.cell? ⟨w.heap.size,0,none⟩=some (.slice la L'.length lc):=(zBk hF.blk _).trans hF.c0;have hwi:IntKind.i64.wrap ((i:Int)+1)=(i:Int)+1:=(by go_arith);have HFX:Hid _:=hF;clear hF;by_cases hrm:room<L'.length
       ·have hrm':(room:Int)<(L'.length:Int):=(by omega);go_wp2_with fail;go_ret2;exact⟨L',la,lc,false,rfl,z5x HFX.out.rowL (by omega),HB.out,by omega,HL.out.1,HL.out.2.1,fun h=>(by cases h),by simp;omega⟩
       ·have hrm':¬(room:Int)<(L'.length:Int):=(by omega);go_wp2_with fail;go_roundw
        case rel=>exact⟨i+1,L',by go_num,by omega,by omega,HF,⟨HL.out.1,HL.out.2.1,fun q x hq hx k hk c' hb=>by
         by_cases e:q=i
         ·subst e;rw[HL.out.2.2.2.1]at hx;injection hx with hx;subst hx;exact HL.out.2.2.2.2 k hk c' hb
         ·exact HL.out.2.2.1 q x (by omega) hx k hk c' hb⟩,HB⟩
        case measure=>simp[intOf];omega
    ·obtain rfl:i=L.length:=(by omega);have hin':¬(L.length:Int)<(L.length:Int):=(by omega);have HFX:Hid _:=hF;clear hF;by_cases hrm:L.length≤room
     ·have hrm':(L.length:Int)≤(room:Int):=(by omega);go_wp2_with fail;go_quiet (fail);go_wp2_with fail;go_ret2;exact⟨L,la,lc,true,rfl,z5x (zmP HFX.out.rowL (Kept.of_below (S:=[]) (zqh (zD) _)) (by simp)) (by omega),zqh HB.out _,by omega,HL.out.1,HL.out.2.1,fun _ c hc k hk c' hb=>by
       obtain⟨q,hq⟩:=List.mem_iff_getElem?.1 hc;exact HL.out.2.2 q c (zB hq).1 hq k hk c' hb,by simp;omega⟩
     ·have hrm':¬(L.length:Int)≤(room:Int):=(by omega);go_wp2_with fail;go_quiet (fail);go_wp2_with fail;go_ret2;exact⟨L,la,lc,false,rfl,z5x (zmP HFX.out.rowL (Kept.of_below (S:=[]) (zqh (zD) _)) (by simp)) (by omega),zqh HB.out _,by omega,HL.out.1,HL.out.2.1,fun h=>(by cases h),by simp;omega⟩
end Go.Proofs.YtbbkihekjdffpaaGreatDoor.jd
