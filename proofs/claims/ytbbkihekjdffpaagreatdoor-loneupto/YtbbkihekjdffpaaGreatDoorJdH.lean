/- Several texts in one. -/
import Derived.Test.YtbbkihekjdffpaaGreatDoorJdE
set_option maxHeartbeats 4000000
set_option maxRecDepth 100000
namespace Go.Proofs.YtbbkihekjdffpaaGreatDoor.jd
open Go.RowKit
open srch (vAg opAg tI OAt)
theorem zq2 (c:Cf) (w:World) (h1:c.1.length≤1000) (h2:c.2.length≤8000000):
 Calls Tryz.prog 135 #[cAg c] w fun e w'=>(∃ n:Nat,n < 4093∧e=.returned (.int .i64 (n:Int)))∧Below w.heap.size w w':=by
 unfold cAg
 obtain ⟨W0,hW0,hb0,hB0⟩:∃ W0,w.alloc (.cells #[.string ⟨c.1.toArray⟩,.string ⟨c.2.toArray⟩] 82)=W0∧Below w.heap.size w W0∧W0.heap[w.heap.size]?=some (.cells #[.string ⟨c.1.toArray⟩,.string ⟨c.2.toArray⟩] 82 (0,0)):=⟨_,rfl,(Below.refl _ _).alloc (Nat.le_refl _) _,ziF _ _ _ rfl⟩
 have c0:W0.cell? ⟨w.heap.size,0,none⟩=some (.string ⟨c.1.toArray⟩):=zBk hB0 0
 have c1:W0.cell? ⟨w.heap.size,1,none⟩=some (.string ⟨c.2.toArray⟩):=zBk hB0 1
 obtain ⟨s,hs⟩:∃ s,c.1++c.2=s:=⟨_,rfl⟩
 have hba:(⟨c.1.toArray⟩:ByteArray)++⟨c.2.toArray⟩=⟨s.toArray⟩:=by rw [japp,hs]
 have hsl:s.length≤8001000:=by rw [←hs];simp;omega
 have HB:Hid _:=hb0
 clear hb0 hB0 hs
 go_enter Tryz.func135,Tryz.ntmps135
 go_wp2_with fail
 go_loop [4,5] (fun n i=>∃ (x j:Nat),n=.int .i64 (x:Int)∧i=.int .i64 (j:Int)∧x < 4093∧j≤s.length) (fun _ i=>s.length - (intOf i).toNat)
 case atStart=>exact ⟨0,0,rfl,rfl,by omega,by omega⟩
 case round=>
  obtain ⟨x,j,rfl,rfl,hx,hj⟩:=hrel
  by_cases hin:j < s.length
  · have hin':(j:Int) < (s.length:Int):=by omega
    have hsz1:j < (⟨s.toArray⟩:ByteArray).size:=by show j < s.toArray.size;simpa using hin
    have hcb:((⟨s.toArray⟩:ByteArray)[j]'hsz1).toNat < 256:=UInt8.toNat_lt _
    have hwj:IntKind.i64.wrap ((j:Int)+1)=(j:Int)+1:=by go_arith
    have hm1:IntKind.i64.wrap (31*(x:Int))=31*(x:Int):=j64 (by omega) (by omega)
    obtain ⟨y,hy⟩:∃ y,((⟨s.toArray⟩:ByteArray)[j]'hsz1).toNat=y:=⟨_,rfl⟩
    rw [hy] at hcb
    have hm0:IntKind.i64.wrap (y:Int)=(y:Int):=j64 (by omega) (by omega)
    have hm2:IntKind.i64.wrap (31*(x:Int)+(y:Int))=31*(x:Int)+(y:Int):=j64 (by omega) (by omega)
    have hm3:Int.tmod (31*(x:Int)+(y:Int)) 4093=(((31*x+y) % 4093:Nat):Int):=by rw [Int.tmod_eq_emod_of_nonneg (by omega)];omega
    have hlt:(31*x+y) % 4093 < 4093:=Nat.mod_lt _ (by omega)
    generalize (31*x+y) % 4093=z at hm3 hlt
    go_wp2_with fail
    go_round
    case rel=>exact ⟨z,j+1,by go_num,by go_num,hlt,by omega⟩
    case measure=>simp [intOf];omega
  · have hin':¬ (j:Int) < (s.length:Int):=by omega
    go_wp2_with fail
    go_ret
    exact ⟨⟨x,hx,rfl⟩,HB.out⟩
end Go.Proofs.YtbbkihekjdffpaaGreatDoor.jd
namespace Go.Proofs.YtbbkihekjdffpaaGreatDoor.jd
open Go.RowKit
open srch (vAg opAg tI OAt zOu)
theorem zmP {S:List Nat} {w w':World} {base:Nat} {e:TypeId} {size:Nat} {v:Value} {n:Nat} {xs:List Value} (h:w.ownsRow base e size v n xs) (k:Kept S w w') (hS:∀ g,v.ownBlock=some g→g∉S):w'.ownsRow base e size v n xs:=by
 refine ⟨h.1,?_⟩
 rcases h.2 with hn | ⟨g,cap,cur,hv,hbg,hb,rest⟩
 · exact .inl hn
 · exact .inr ⟨g,cap,cur,hv,hbg,(k.block g (zBq hb) (hS g (by rw [hv];rfl))).trans hb,rest⟩
theorem jne {w:World} {base base':Nat} {e e':TypeId} {size size':Nat} {v v':Value} {n n':Nat} {xs xs':List Value} (h:w.ownsRow base e size v n xs) (h':w.ownsRow base' e' size' v' n' xs') (hne:e≠e'):∀ g,v.ownBlock=some g→g∉v'.ownBlock.toList:=by
 intro g hg hm
 rw [Option.mem_toList] at hm
 rcases h.2 with hn | ⟨g1,cap,cur,hv,_,hb1,_⟩
 · rw [hn.1] at hg;cases hg
 rcases h'.2 with hn | ⟨g2,cap2,cur2,hv2,_,hb2,_⟩
 · rw [hn.1] at hm;cases hm
 rw [hv] at hg
 rw [hv2] at hm
 have e1:g1=g:=by injection hg
 have e2:g2=g:=by injection hm
 subst e1
 subst e2
 rw [hb1] at hb2
 injection hb2 with hb2
 injection hb2 with _ hb2 _
 exact hne hb2
def zfO (c:Cf):List Value:=[.string ⟨c.1.toArray⟩,.string ⟨c.2.toArray⟩]
def zKT (l:List Cf):List Value:=l.flatMap zfO
def zea (l:List Nat):List Value:=l.map fun (k:Nat)=>Value.int .i64 (k:Int)
theorem zaw (l:List Cf) (i:Nat) (c:Cf) (h:l[i]?=some c):(zKT l)[i*2]?=some (.string ⟨c.1.toArray⟩)∧(zKT l)[i*2+1]?=some (.string ⟨c.2.toArray⟩):=by
 induction l generalizing i with
 | nil=>simp at h
 | cons d r ih=>
   have e:zKT (d::r)=zfO d++zKT r:=by simp [zKT]
   have hl:(zfO d).length=2:=rfl
   rw [e]
   cases i with
   | zero=>simp at h;subst h;simp [zfO]
   | succ i=>
     obtain ⟨a,b⟩:=ih i (by simpa using h)
     refine ⟨?_,?_⟩
     · rw [List.getElem?_append_right (by omega),hl,show (i+1)*2 - 2=i*2 by omega,a]
     · rw [List.getElem?_append_right (by omega),hl,show (i+1)*2+1 - 2=i*2+1 by omega,b]
theorem zNI (l:List Cf) (c:Cf):zKT (l++[c])=zKT l++zfO c:=by simp [zKT]
theorem zyv (l:List Nat) (c:Nat):zea (l++[c])=zea l++[.int .i64 (c:Int)]:=by simp [zea]
structure FI (b:Nat) (w:World) (cs:Array Value) (vL vN:Value) (L:List Cf) (nx:List Nat) (ls:Nat→Nat):Prop where
 blk:w.heap[b]?=some (.cells cs 234 (0,0))
 sz:cs.size=4098
 c0:cs[0]?=some vL
 c1:∀ k,k < 4096→cs[1+k]?=some (.int .i64 (ls k:Int))
 c2:cs[4097]?=some vN
 lst:∀ k,k < 4096→ls k≤L.length
 rowL:w.ownsRow (b+1) 82 2 vL L.length (zKT L)
 rowN:w.ownsRow (b+1) 3 1 vN L.length (zea nx)
 nl:nx.length=L.length
 nxt:∀ (j x:Nat),nx[j]?=some x→x≤j
theorem FI.kept {b:Nat} {w w':World} {cs:Array Value} {vL vN:Value} {L:List Cf} {nx:List Nat} {ls:Nat→Nat} (h:FI b w cs vL vN L nx ls) (k:Below w.heap.size w w'):FI b w' cs vL vN L nx ls:=
 ⟨(k.block _ (zBq h.blk)).trans h.blk,h.sz,h.c0,h.c1,h.c2,h.lst,zmP h.rowL (Kept.of_below (S:=[]) k) (by simp),zmP h.rowN (Kept.of_below (S:=[]) k) (by simp),h.nl,h.nxt⟩
theorem zeroF:(Tryz.zeroCells234).size=4098∧(Tryz.zeroCells234)[0]?=some (.slice none 0 0)∧(Tryz.zeroCells234)[4097]?=some (.slice none 0 0):=⟨by kernel_rfl,by kernel_rfl,by kernel_rfl⟩
def isZ:Value→Bool
 | .int .i64 n=>n == 0
 | _=>false
theorem zTO {v:Value} (h:isZ v=true):v=.int .i64 0:=by
 unfold isZ at h
 split at h
 · rename_i n;have:n=0:=by simpa using h
   rw [this]
 · cases h
theorem zTv:∀ k,k < 4096→(Tryz.zeroCells234)[1+k]?=some (.int .i64 0):=by
 have h:(((Tryz.zeroCells234).toList.drop 1).take 4096).all isZ=true:=by kernel_rfl
 intro k hk
 have hs:=zeroF.1
 have hl:1+k < (Tryz.zeroCells234).size:=by omega
 rw [Array.getElem?_eq_getElem hl]
 congr 1
 apply zTO
 refine List.all_eq_true.1 h _ ?_
 refine List.mem_iff_getElem?.2 ⟨k,?_⟩
 rw [List.getElem?_take,if_pos hk,List.getElem?_drop,Array.getElem?_toList,Array.getElem?_eq_getElem hl]
theorem FI.zero (w:World):FI w.heap.size (w.alloc (.cells Tryz.zeroCells234 234)) Tryz.zeroCells234 (.slice none 0 0) (.slice none 0 0) [] [] (fun _=>0):=
 ⟨ziF _ _ _ rfl,zeroF.1,zeroF.2.1,fun k hk=>zTv k hk,zeroF.2.2,fun _ _=>Nat.le_refl _,World.ownsRow_nil _ _ _ _,World.ownsRow_nil _ _ _ _,rfl,fun j x h=>by simp at h⟩
theorem zKF:(Tryz.prog.info? 82).map (fun i=>(i.zero,i.size,i.bytes))=some (some (.agg #[.string ⟨#[]⟩,.string ⟨#[]⟩]),2,32):=by kernel_rfl
theorem zRi:(Tryz.prog.info? 3).map (fun i=>(i.zero,i.size,i.bytes))=some (some (.int .i64 0),1,8):=by kernel_rfl
theorem z9Y (dr:Bool) (W:World) (base:Nat) (a:Option Addr) (n c:Nat) (xs:List Value) (s:Cf) (h:W.ownsRow base 82 2 (.slice a n c) n xs) (hn:n≤3000000) (hb:base≤W.heap.size):
 ∃ a' c' w',(Builtin.append_ #[131,131] 131 #[.slice a n c,.slice (some ⟨W.heap.size,0,none⟩) 1 1]).run Tryz.prog (cond dr (W.alloc (.cells #[.string ⟨s.1.toArray⟩,.string ⟨s.2.toArray⟩] 82)).drew (W.alloc (.cells #[.string ⟨s.1.toArray⟩,.string ⟨s.2.toArray⟩] 82)))=.ok (.slice a' (n+1) c') w'∧w'.ownsRow base 82 2 (.slice a' (n+1) c') (n+1) (xs++zfO s)∧Kept (Value.slice a n c).ownBlock.toList W w':=by
 obtain ⟨i0,hi0',hz0,hz1,hz2⟩:=info_parts zKF
 obtain ⟨U,hU,hUo,hUc,hUs,hUk⟩:∃ U,cond dr (W.alloc (.cells (zfO s).toArray 82)).drew (W.alloc (.cells (zfO s).toArray 82))=U∧U.ownsRow base 82 2 (.slice a n c) n xs∧(∀ j u,(zfO s)[j]?=some u→U.cell? ((⟨W.heap.size,0,none⟩:Addr).add j)=some u)∧base≤U.heap.size∧Kept (Value.slice a n c).ownBlock.toList W U:=by
  cases dr
  · exact ⟨_,rfl,h.alloc _,z9R W _ _,by simp;omega,(Kept.refl _ W).alloc _⟩
  · exact ⟨_,rfl,h.alloc _,z9R W _ _,by show base≤(W.alloc _).heap.size;simp;omega,((Kept.refl _ W).alloc _).drew⟩
 obtain ⟨v7,w7,h1,h2,h3,_⟩:=run_append_own (P:=Tryz.prog) U base 131 131 82 i0 _ 2 32 Tryz.underlying131 hi0' hz0 hz1 hz2 rfl (by decide) (.slice a n c) n xs hUo ⟨W.heap.size,0,none⟩ 1 1 (zfO s) rfl hUc (by intro u hu;simp [zfO] at hu;rcases hu with rfl | rfl <;> rfl) (by unfold maxLen;omega) (by omega) hUs
 obtain ⟨a',c',rfl⟩:=zIW h2
 exact ⟨a',c',w7,by rw [←hU] at h1;exact h1,h2,hUk.grownS h3 (fun g' hg'=>by rw [hg'];simp)⟩
theorem zla (dr:Bool) (W:World) (base:Nat) (a:Option Addr) (n c:Nat) (xs:List Value) (s:Int) (h:W.ownsRow base 3 1 (.slice a n c) n xs) (hn:n≤3000000) (hb:base≤W.heap.size):
 ∃ a' c' w',(Builtin.append_ #[43,43] 43 #[.slice a n c,.slice (some ⟨W.heap.size,0,none⟩) 1 1]).run Tryz.prog (cond dr (W.alloc (.cells #[.int .i64 s] 3)).drew (W.alloc (.cells #[.int .i64 s] 3)))=.ok (.slice a' (n+1) c') w'∧w'.ownsRow base 3 1 (.slice a' (n+1) c') (n+1) (xs++[.int .i64 s])∧Kept (Value.slice a n c).ownBlock.toList W w':=by
 obtain ⟨i0,hi0',hz0,hz1,hz2⟩:=info_parts zRi
 obtain ⟨U,hU,hUo,hUc,hUs,hUk⟩:∃ U,cond dr (W.alloc (.cells ([.int .i64 s]:List Value).toArray 3)).drew (W.alloc (.cells ([.int .i64 s]:List Value).toArray 3))=U∧U.ownsRow base 3 1 (.slice a n c) n xs∧(∀ j u,([.int .i64 s]:List Value)[j]?=some u→U.cell? ((⟨W.heap.size,0,none⟩:Addr).add j)=some u)∧base≤U.heap.size∧Kept (Value.slice a n c).ownBlock.toList W U:=by
  cases dr
  · exact ⟨_,rfl,h.alloc _,z9R W _ _,by simp;omega,(Kept.refl _ W).alloc _⟩
  · exact ⟨_,rfl,h.alloc _,z9R W _ _,by show base≤(W.alloc _).heap.size;simp;omega,((Kept.refl _ W).alloc _).drew⟩
 obtain ⟨v7,w7,h1,h2,h3,_⟩:=run_append_own (P:=Tryz.prog) U base 43 43 3 i0 _ 1 8 Tryz.underlying43 hi0' hz0 hz1 hz2 rfl (by decide) (.slice a n c) n xs hUo ⟨W.heap.size,0,none⟩ 1 1 [.int .i64 s] rfl hUc (by intro u hu;simp at hu;subst hu;rfl) (by unfold maxLen;omega) (by omega) hUs
 obtain ⟨a',c',rfl⟩:=zIW h2
 exact ⟨a',c',w7,by rw [←hU] at h1;exact h1,h2,hUk.grownS h3 (fun g' hg'=>by rw [hg'];simp)⟩
theorem zyC {b:Nat} {w:World} {cs:Array Value} {g cap:Nat} {vN:Value} {L:List Cf} {nx:List Nat} {ls:Nat→Nat} (h:FI b w cs (.slice (some ⟨g,0,none⟩) L.length cap) vN L nx ls) {i:Nat} {c:Cf} (hi:L[i]?=some c):w.cell? ⟨g,i*2,none⟩=some (.string ⟨c.1.toArray⟩)∧w.cell? ⟨g,i*2+1,none⟩=some (.string ⟨c.2.toArray⟩):=by
 obtain ⟨h0,h1⟩:=zaw L i c hi
 have a:=h.rowL.cells (g:=g) rfl _ _ h0
 have b:=h.rowL.cells (g:=g) rfl _ _ h1
 rw [Addr.add_lit,Nat.zero_add] at a b
 exact ⟨a,b⟩
theorem zr7 {b:Nat} {w:World} {cs:Array Value} {g cap:Nat} {vL:Value} {L:List Cf} {nx:List Nat} {ls:Nat→Nat} (h:FI b w cs vL (.slice (some ⟨g,0,none⟩) L.length cap) L nx ls) {i x:Nat} (hi:nx[i]?=some x):w.cell? ⟨g,i,none⟩=some (.int .i64 (x:Int)):=by
 have a:=h.rowN.cells (g:=g) rfl i (.int .i64 (x:Int)) (by unfold zea;rw [List.getElem?_map,hi];rfl)
 rw [Addr.add_lit,Nat.zero_add] at a
 exact a
theorem zSI {w:World} {b:Nat} {e:TypeId} {size n:Nat} {v:Value} {xs:List Value} (h:w.ownsRow (b+1) e size v n xs):b∉v.ownBlock.toList:=fun hm=>by
 have:=(h.lt b (by simpa using hm)).1
 omega
def z9g (b:Nat) (c:Cf) (L:List Cf) (w:World) (e:Ending) (w':World):Prop:=
 e=.returned (.tuple #[])∧Below b w w'∧((c∈L∧(∃ cs vL vN nx ls,FI b w' cs vL vN L nx ls))∨∃ cs vL vN nx ls,FI b w' cs vL vN (L++[c]) nx ls)
theorem add_any (b:Nat) (c:Cf) (cs:Array Value) (vL vN:Value) (L:List Cf) (nx:List Nat) (ls:Nat→Nat) (w:World) (h1:c.1.length≤1000) (h2:c.2.length≤8000000) (hL:L.length≤1000000) (hF:FI b w cs vL vN L nx ls):
 Calls Tryz.prog 105 #[.pointer (some ⟨b,0,none⟩),cAg c] w (z9g b c L w):=by
 have hsum:=fun w=>zq2 c w h1 h2
 obtain ⟨W0,hW0,hb0,hB0⟩:∃ W0,w.alloc (.cells #[.string ⟨c.1.toArray⟩,.string ⟨c.2.toArray⟩] 82)=W0∧Below w.heap.size w W0∧W0.heap[w.heap.size]?=some (.cells #[.string ⟨c.1.toArray⟩,.string ⟨c.2.toArray⟩] 82 (0,0)):=⟨_,rfl,(Below.refl _ _).alloc (Nat.le_refl _) _,ziF _ _ _ rfl⟩
 have c0:W0.cell? ⟨w.heap.size,0,none⟩=some (.string ⟨c.1.toArray⟩):=zBk hB0 0
 have c1:W0.cell? ⟨w.heap.size,1,none⟩=some (.string ⟨c.2.toArray⟩):=zBk hB0 1
 obtain ⟨la,lc,rfl⟩:=zIW hF.rowL
 obtain ⟨na,nc,rfl⟩:=zIW hF.rowN
 have hF0:=hF.kept hb0
 have H0:Hid _:=And.intro hb0 (And.intro hB0 hF0)
 unfold cAg at*
 clear hb0 hB0 hF0
 go_enter Tryz.func105,Tryz.ntmps105
 go_wp2_with fail
 refine (hsum _).mono ?_
 rintro e w1 ⟨⟨n,hn,rfl⟩,hb1⟩
 have hF1:=H0.out.2.2.kept hb1
 have hn':(n:Int) < 4096:=by omega
 have x1:w1.cell? ⟨b,1+n,none⟩=some (.int .i64 (ls n:Int)):=(zBk hF1.blk _).trans (hF1.c1 n (by omega))
 have H1:Hid _:=And.intro hb1 hF1
 clear hb1 hF1 hsum c0 c1
 go_wp2_with fail
 have hlsn:=hF.lst n (by omega)
 go_loopw [5] (fun s5 wr=>∃ (x:Nat),s5=.int .i64 (x:Int)∧x≤L.length∧Hid (Below w1.heap.size w1 wr)) (fun s5 _=>(intOf s5).toNat)
 case atStart=>exact ⟨ls n,rfl,hlsn,Below.refl _ _⟩
 case round=>
  obtain ⟨x,rfl,hx,HB⟩:=hrel
  have hFr:=H1.out.2.kept HB.out
  have hB1:=(H1.out.1.trans (HB.out.mono H1.out.1.size))
  have hcb:=(hB1.block _ (zBq H0.out.2.1)).trans H0.out.2.1
  have c0:wr.cell? ⟨w.heap.size,0,none⟩=some (.string ⟨c.1.toArray⟩):=zBk hcb 0
  have c1:wr.cell? ⟨w.heap.size,1,none⟩=some (.string ⟨c.2.toArray⟩):=zBk hcb 1
  have t0:wr.cell? ⟨b,0,none⟩=some (.slice la L.length lc):=(zBk hFr.blk _).trans hFr.c0
  have t2:wr.cell? ⟨b,4097,none⟩=some (.slice na L.length nc):=(zBk hFr.blk _).trans hFr.c2
  have HFr:Hid _:=hFr
  have HBw:Hid (Below b w wr):=by
   have h0:b≤w.heap.size:=Nat.le_of_lt (zBq hF.blk)
   exact (H0.out.1.mono h0).trans (hB1.mono (Nat.le_trans h0 H0.out.1.size))
  clear hB1 hcb
  cases x with
  | zero=>
    have hbl:=zBq hFr.blk
    obtain ⟨a7,c7,w7,hap,own7,hk7⟩:=z9Y true wr (b+1) la L.length lc (zKT L) c hFr.rowL (by omega) (by omega)
    have hap':(Builtin.append_ #[131,131] 131 #[.slice la L.length lc,.slice (some ⟨wr.heap.size,0,none⟩) 1 1]).run Tryz.prog ((wr.alloc (.cells #[.string ⟨c.1.toArray⟩,.string ⟨c.2.toArray⟩] 82)).drew)=.ok (.slice a7 (L.length+1) c7) w7:=hap
    have hT7:=(hk7.block b hbl (zSI hFr.rowL)).trans hFr.blk
    have s1:w7.cell? ⟨b,0,none⟩=some (.slice la L.length lc):=(zBk hT7 _).trans hFr.c0
    have s2:w7.frozen? ⟨b,0,none⟩=false:=zBn hT7 0
    have hneb:b≠wr.heap.size:=by omega
    have hnec:w.heap.size≠wr.heap.size:=by
     have:=H0.out.1.size;have:=zBq H0.out.2.1;have:=H1.out.1.size;have:=HB.out.size;omega
    rw [←zNI] at own7
    have hN7:=zmP hFr.rowN hk7 (jne hFr.rowN hFr.rowL (by decide))
    have hb7:Below b w w7:=HBw.out.trans (hk7.below (Nat.le_of_lt hbl) (fun g hg=>by have:=(hFr.rowL.lt g (by simpa using hg)).1;omega))
    have H7:Hid _:=(⟨hT7,own7,hN7,hb7⟩:_∧_∧_∧_)
    clear hFr hap hT7 own7 hN7 hb7 hk7
    go_wp2_with fail
    go_cut [41] (fun a wx=>wx.heap[b]?=some (.cells (cs.setIfInBounds 0 (.slice a7 (L.length+1) c7)) 234 (0,0))∧wx.ownsRow (b+1) 82 2 (.slice a7 (L.length+1) c7) (L.length+1) (zKT (L++[c]))∧wx.ownsRow (b+1) 3 1 (.slice na L.length nc) L.length (zea nx)∧Below b w wx)
    case first=>
     go_region_law (refine zti rfl _ _ 131 rfl _ _ _ _ rfl rfl hap' ?_)
     all_goals
      go_wp2_with fail
      go_meet
      obtain ⟨hT7,own7,hN7,hb7⟩:=H7.out
      have hkE:Kept [b] w7 (w7.setCell ⟨b,0,none⟩ (.slice a7 (L.length+1) c7)):=(Kept.refl _ _).setCell (p:=⟨b,0,none⟩) (Or.inl (by simp)) _
      refine ⟨by rw [zFg hT7],zmP own7 hkE (fun g hg=>by have:=(own7.lt g hg).1;simp;omega),zmP hN7 hkE (fun g hg=>by have:=(hN7.lt g hg).1;simp;omega),hb7.trans (hkE.below (Nat.le_of_lt (zBq hT7)) (by simp))⟩
    case rest=>
     obtain ⟨hT8,own8,hN8,hb8⟩:=hcut
     clear H7 hap' s1 s2 t0 t2 c0 c1
     have hbl8:=zBq hT8
     have hcs:cs.size=4098:=hF.sz
     have g0:(cs.setIfInBounds 0 (.slice a7 (L.length+1) c7))[0]?=some (.slice a7 (L.length+1) c7):=by simp [hcs]
     have g1:∀ k,k < 4096→(cs.setIfInBounds 0 (.slice a7 (L.length+1) c7))[1+k]?=some (.int .i64 (ls k:Int)):=fun k hk=>by
      rw [Array.getElem?_setIfInBounds_ne (by omega)];exact hF.c1 k hk
     have g2:(cs.setIfInBounds 0 (.slice a7 (L.length+1) c7))[4097]?=some (.slice na L.length nc):=by
      rw [Array.getElem?_setIfInBounds_ne (by omega)];exact hF.c2
     have gs:(cs.setIfInBounds 0 (.slice a7 (L.length+1) c7)).size=4098:=by simp [hcs]
     generalize cs.setIfInBounds 0 (.slice a7 (L.length+1) c7)=cs1 at*
     obtain ⟨wd,rfl⟩:∃ wd:World,wd=wc:=⟨_,rfl⟩
     obtain ⟨a9,c9,w9,hap,own9,hk9⟩:=zla true wd (b+1) na L.length nc (zea nx) (ls n:Int) hN8 (by omega) (by omega)
     have hap':(Builtin.append_ #[43,43] 43 #[.slice na L.length nc,.slice (some ⟨wd.heap.size,0,none⟩) 1 1]).run Tryz.prog ((wd.alloc (.cells #[.int .i64 (ls n:Int)] 3)).drew)=.ok (.slice a9 (L.length+1) c9) w9:=hap
     have hT9:=(hk9.block b hbl8 (zSI hN8)).trans hT8
     have u2:wd.cell? ⟨b,4097,none⟩=some (.slice na L.length nc):=(zBk hT8 _).trans g2
     have u1:wd.cell? ⟨b,1+n,none⟩=some (.int .i64 (ls n:Int)):=(zBk hT8 _).trans (g1 n (by omega))
     have s1:w9.cell? ⟨b,4097,none⟩=some (.slice na L.length nc):=(zBk hT9 _).trans g2
     have s2:w9.frozen? ⟨b,4097,none⟩=false:=zBn hT9 4097
     have hneb:b≠wd.heap.size:=by omega
     rw [←zyv] at own9
     have hL9:=zmP own8 hk9 (jne own8 hN8 (by decide))
     have hb9:Below b w w9:=hb8.trans (hk9.below (Nat.le_of_lt hbl8) (fun g hg=>by have:=(hN8.lt g (by simpa using hg)).1;omega))
     have H9:Hid _:=(⟨hT9,hL9,own9,hb9⟩:_∧_∧_∧_)
     clear hap hT9 hL9 own9 hb9 hk9 hT8 own8 hN8 hb8
     go_wp2_with fail
     go_cut [56] (fun a wx=>wx.heap[b]?=some (.cells (cs1.setIfInBounds 4097 (.slice a9 (L.length+1) c9)) 234 (0,0))∧wx.ownsRow (b+1) 82 2 (.slice a7 (L.length+1) c7) (L.length+1) (zKT (L++[c]))∧wx.ownsRow (b+1) 3 1 (.slice a9 (L.length+1) c9) (L.length+1) (zea (nx++[ls n]))∧Below b w wx)
     case first=>
      go_region_law (refine zti rfl _ _ 43 rfl _ _ _ _ rfl rfl hap' ?_)
      all_goals
       go_wp2_with fail
       go_meet
       obtain ⟨hT9,hL9,own9,hb9⟩:=H9.out
       have hkE:Kept [b] w9 (w9.setCell ⟨b,4097,none⟩ (.slice a9 (L.length+1) c9)):=(Kept.refl _ _).setCell (p:=⟨b,4097,none⟩) (Or.inl (by simp)) _
       refine ⟨by rw [zFg hT9],zmP hL9 hkE (fun g hg=>by have:=(hL9.lt g hg).1;simp;omega),zmP own9 hkE (fun g hg=>by have:=(own9.lt g hg).1;simp;omega),hb9.trans (hkE.below (Nat.le_of_lt (zBq hT9)) (by simp))⟩
     case rest=>
      obtain ⟨hT8,own8,hN8,hb8⟩:=hcut
      clear H9 hap' s1 s2 u1 u2
      have k0:(cs1.setIfInBounds 4097 (.slice a9 (L.length+1) c9))[0]?=some (.slice a7 (L.length+1) c7):=by
       rw [Array.getElem?_setIfInBounds_ne (by omega)];exact g0
      have k1:∀ k,k < 4096→(cs1.setIfInBounds 4097 (.slice a9 (L.length+1) c9))[1+k]?=some (.int .i64 (ls k:Int)):=fun k hk=>by
       rw [Array.getElem?_setIfInBounds_ne (by omega)];exact g1 k hk
      have k2:(cs1.setIfInBounds 4097 (.slice a9 (L.length+1) c9))[4097]?=some (.slice a9 (L.length+1) c9):=by simp [gs]
      have ks:(cs1.setIfInBounds 4097 (.slice a9 (L.length+1) c9)).size=4098:=by simp [gs]
      generalize cs1.setIfInBounds 4097 (.slice a9 (L.length+1) c9)=cs2 at*
      have u0:wc.cell? ⟨b,0,none⟩=some (.slice a7 (L.length+1) c7):=(zBk hT8 _).trans k0
      have u1:wc.cell? ⟨b,1+n,none⟩=some (.int .i64 (ls n:Int)):=(zBk hT8 _).trans (k1 n (by omega))
      have z1:wc.frozen? ⟨b,1+n,none⟩=false:=zBn hT8 _
      have H8:Hid _:=(⟨hT8,own8,hN8,hb8⟩:_∧_∧_∧_)
      have hSS:∀ v,(wc.setCell ⟨b,1+n,none⟩ v).drew.cell? ⟨b,0,none⟩=some (.slice a7 (L.length+1) c7):=fun v=>(zBk (show (wc.setCell ⟨b,1+n,none⟩ v).drew.heap[b]?=_ from zFg hT8 _ v) 0).trans (by rw [Array.getElem?_setIfInBounds_ne (by omega)];exact k0)
      clear hT8 own8 hN8 hb8
      go_wp2_with fail
      go_region_held3 (fun w'=>w'.cell? ⟨b,0,none⟩=some (.slice a7 (L.length+1) c7)) (first | (with_reducible exact hSS _) | go_keep) (fail)
      go_wp2_with fail
      go_end0
      obtain ⟨hT8,own8,hN8,hb8⟩:=H8.out
      have hkE:Kept [b] wc (wc.setCell ⟨b,1+n,none⟩ (.int .i64 ((L.length:Int)+1))).drew:=((Kept.refl _ _).setCell (p:=⟨b,1+n,none⟩) (Or.inl (by simp)) _).drew
      refine ⟨rfl,hb8.trans (hkE.below (Nat.le_of_lt (zBq hT8)) (by simp)),.inr ⟨cs2.setIfInBounds (1+n) (.int .i64 ((L.length:Int)+1)),.slice a7 (L.length+1) c7,.slice a9 (L.length+1) c9,nx++[ls n],fun k=>if k=n then L.length+1 else ls k,?_⟩⟩
      refine ⟨by show (wc.setCell _ _).heap[b]?=_;rw [zFg hT8],by simp [ks],by rw [Array.getElem?_setIfInBounds_ne (by omega)];exact k0,fun k hk=>?_,by rw [Array.getElem?_setIfInBounds_ne (by omega)];exact k2,fun k hk=>?_,?_,?_,by simp [hF.nl],fun j x hj=>?_⟩
      · by_cases e:k=n
        · subst e
          rw [if_pos rfl,Array.getElem?_setIfInBounds_self_of_lt (by omega)]
          rfl
        · rw [Array.getElem?_setIfInBounds_ne (by omega),if_neg e];exact k1 k hk
      · have:=hF.lst k hk
        simp only [List.length_append,List.length_singleton]
        split <;> omega
      · rw [List.length_append];exact zmP own8 hkE (fun g hg=>by have:=(own8.lt g hg).1;simp;omega)
      · rw [List.length_append];exact zmP hN8 hkE (fun g hg=>by have:=(hN8.lt g hg).1;simp;omega)
      · rcases Nat.lt_or_ge j nx.length with hl | hl
        · rw [List.getElem?_append_left hl] at hj;exact hF.nxt j x hj
        · rw [List.getElem?_append_right hl] at hj
          obtain ⟨e1,e2⟩:j - nx.length=0∧x=ls n:=by
           cases h:j - nx.length with
           | zero=>rw [h] at hj;simp at hj;exact ⟨rfl,hj.symm⟩
           | succ q=>rw [h] at hj;simp at hj
          have:=hF.lst n (by omega)
          have:=hF.nl
          omega
  | succ y=>
    have hyl:y < L.length:=by omega
    have hyi:(y:Int) < (L.length:Int):=by omega
    have hy0:(0:Int) < (y:Int)+1:=by omega
    have hwp:IntKind.i64.wrap ((y:Int)+1 - 1)=(y:Int):=by rw [j64 (by omega) (by omega)];omega
    obtain ⟨⟨d1,d2⟩,hd⟩:∃ d,L[y]?=some d:=⟨_,List.getElem?_eq_getElem hyl⟩
    obtain ⟨z,hz⟩:∃ z,nx[y]?=some z:=⟨_,List.getElem?_eq_getElem (by rw [hF.nl];exact hyl)⟩
    have hzy:=hF.nxt y z hz
    obtain ⟨gl,rfl⟩:∃ g,la=some ⟨g,0,none⟩:=by
     rcases zzD hFr.rowL with ⟨_,e⟩ | ⟨g,cap,e,_⟩
     · omega
     · injection e with e;exact ⟨g,e⟩
    obtain ⟨gn,rfl⟩:∃ g,na=some ⟨g,0,none⟩:=by
     rcases zzD hFr.rowN with ⟨_,e⟩ | ⟨g,cap,e,_⟩
     · omega
     · injection e with e;exact ⟨g,e⟩
    obtain ⟨r0,r1⟩:=zyC hFr hd
    have r2:=zr7 hFr hz
    clear hFr
    rw [show (((y+1:Nat)):Int)=(y:Int)+1 by omega]
    by_cases e1:d1=c.1
    · by_cases e2:d2=c.2
      · have HM:Hid (c∈L):=List.mem_of_getElem? (hd.trans (by rw [e1,e2]))
        subst e1 e2
        go_wp2_with fail
        go_quiet (fail)
        go_wp2_with fail
        refine bodyPost_ret (v:=.tuple #[]) (by simp [results,Tryz.results105,go_sem]) rfl ⟨rfl,zqh HBw.out _,.inl ⟨HM.out,_,_,_,_,_,HFr.out.kept (zqh (Below.refl _ _) _)⟩⟩
      · subst e1
        go_wp2_with fail
        go_quiet (fail)
        go_wp2_with fail
        go_roundw
        case rel=>exact ⟨z,rfl,by omega,zqh HB.out _⟩
        case measure=>simp [intOf];omega
    · go_wp2_with fail
      go_quiet (fail)
      go_wp2_with fail
      go_roundw
      case rel=>exact ⟨z,rfl,by omega,zqh HB.out _⟩
      case measure=>simp [intOf];omega
end Go.Proofs.YtbbkihekjdffpaaGreatDoor.jd
