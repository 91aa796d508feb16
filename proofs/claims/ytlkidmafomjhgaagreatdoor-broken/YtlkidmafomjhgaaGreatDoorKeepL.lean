/- One text. -/
import Derived.Test.YtlkidmafomjhgaaGreatDoorKeepX
import Derived.Deep.CutBlock
import Derived.Maps.AppendAt
namespace Go.Proofs.YtlkidmafomjhgaaGreatDoor.keep
open Go.RowKit

def zXD (l:List Nat):List Value:=l.map fun (k:Nat)=>Value.int .i64 (k:Int)
structure Tale (w:World) (tb base i:Nat) (ops:List OpV) (lines:List (List UInt8)) (keys:List Nat) (vo vl vk:Value):Prop where
 blk:w.heap[tb]?=some (.cells #[.string ⟨(modS i).toArray⟩,vo,vl,vk] 26 (0,0))
 ops:w.ownsRow base 48 10 vo ops.length (opsRow ops)
 lines:w.ownsRow base 9 1 vl lines.length (strCells lines)
 keys:w.ownsRow base 3 1 vk keys.length (zXD keys)
theorem Tale.kept {S:List Nat} {w w':World} {tb base i:Nat} {ops:List OpV} {lines:List (List UInt8)} {keys:List Nat} {vo vl vk:Value} (h:Tale w tb base i ops lines keys vo vl vk) (k:Kept S w w') (hS:∀ x∈S,x < base) (hn:tb∉S):Tale w' tb base i ops lines keys vo vl vk:=
 ⟨(k.block tb (zCqB h.blk) hn).trans h.blk,zzF h.ops k hS,zzF h.lines k hS,zzF h.keys k hS⟩
def Apart (o:Nat) (c c':Array Value):Prop:=c'.size=c.size∧∀ j,j≠o→j≠o+1→j≠o+2→c'[j]?=c[j]?
theorem Apart.refl (o:Nat) (c:Array Value):Apart o c c:=⟨rfl,fun _ _ _ _=>rfl⟩
theorem Apart.set {o:Nat} {c c':Array Value} (h:Apart o c c') (k:Nat) (hk:k=o∨k=o+1∨k=o+2) (v:Value):Apart o c (c'.setIfInBounds k v):=
 ⟨by rw [Array.size_setIfInBounds];exact h.1,fun j h0 h1 h2=>by rw [Array.getElem?_setIfInBounds_ne (by omega)];exact h.2 j h0 h1 h2⟩
structure Client (w:World) (cb o:Nat) (c00 cc:Array Value) (st op key:Int):Prop where
 blk:w.heap[cb]?=some (.cells cc 56 (0,0))
 c0:cc[o]?=some (.int .i64 st)
 c1:cc[o+1]?=some (.int .i64 op)
 c2:cc[o+2]?=some (.int .i64 key)
 ap:Apart o c00 cc
theorem Client.kept {S:List Nat} {w w':World} {cb o:Nat} {c00 cc:Array Value} {st op key:Int} (h:Client w cb o c00 cc st op key) (k:Kept S w w') (hn:cb∉S):Client w' cb o c00 cc st op key:=⟨(k.block cb (zCqB h.blk) hn).trans h.blk,h.c0,h.c1,h.c2,h.ap⟩
theorem Client.set {w:World} {cb o:Nat} {c00 cc:Array Value} {st op key:Int} (h:Client w cb o c00 cc st op key) (x:Int):Client (w.setCell ⟨cb,o,none⟩ (.int .i64 x)) cb o c00 (cc.setIfInBounds o (.int .i64 x)) x op key:=by
 have hl:=(Array.getElem?_eq_some_iff.1 h.c0).1
 refine ⟨by rw [zFg h.blk],by simp [hl],?_,?_,h.ap.set o (Or.inl rfl) _⟩
 · rw [Array.getElem?_setIfInBounds_ne (by omega)];exact h.c1
 · rw [Array.getElem?_setIfInBounds_ne (by omega)];exact h.c2
theorem Client.set1 {w:World} {cb o:Nat} {c00 cc:Array Value} {st op key:Int} (h:Client w cb o c00 cc st op key) (x:Int):Client (w.setCell ⟨cb,o+1,none⟩ (.int .i64 x)) cb o c00 (cc.setIfInBounds (o+1) (.int .i64 x)) st x key:=by
 have hl:=(Array.getElem?_eq_some_iff.1 h.c1).1
 refine ⟨by rw [zFg h.blk],?_,by simp [hl],?_,h.ap.set (o+1) (Or.inr (Or.inl rfl)) _⟩
 · rw [Array.getElem?_setIfInBounds_ne (by omega)];exact h.c0
 · rw [Array.getElem?_setIfInBounds_ne (by omega)];exact h.c2
theorem Client.set2 {w:World} {cb o:Nat} {c00 cc:Array Value} {st op key:Int} (h:Client w cb o c00 cc st op key) (x:Int):Client (w.setCell ⟨cb,o+2,none⟩ (.int .i64 x)) cb o c00 (cc.setIfInBounds (o+2) (.int .i64 x)) st op x:=by
 have hl:=(Array.getElem?_eq_some_iff.1 h.c2).1
 refine ⟨by rw [zFg h.blk],?_,?_,by simp [hl],h.ap.set (o+2) (Or.inr (Or.inr rfl)) _⟩
 · rw [Array.getElem?_setIfInBounds_ne (by omega)];exact h.c0
 · rw [Array.getElem?_setIfInBounds_ne (by omega)];exact h.c1
theorem z1O {S:List Nat} {w w':World} {base:Nat} {e:TypeId} {size:Nat} {v:Value} {n:Nat} {xs:List Value} (h:w.ownsRow base e size v n xs) (k:Kept S w w') (hS:∀ g,v.ownBlock=some g→g∉S):w'.ownsRow base e size v n xs:=by
 refine ⟨h.1,?_⟩
 rcases h.2 with hn | ⟨g,cap,cur,hv,hbg,hg,rest⟩
 · exact .inl hn
 · exact .inr ⟨g,cap,cur,hv,hbg,(k.block g (zCqB hg) (hS g (by rw [hv];rfl))).trans hg,rest⟩
theorem zhv {w:World} {base base':Nat} {e e':TypeId} {size size':Nat} {v v':Value} {n n':Nat} {xs xs':List Value} (h:w.ownsRow base e size v n xs) (h':w.ownsRow base' e' size' v' n' xs') (hne:e≠e'):∀ g,v.ownBlock=some g→g∉v'.ownBlock.toList:=by
 intro g hg hm
 rw [Option.mem_toList] at hm
 rcases h.2 with hn | ⟨g1,cap,cur,hv,_,hb1,_⟩
 · rw [hn.1] at hg;cases hg
 rcases h'.2 with hn | ⟨g2,cap2,cur2,hv2,_,hb2,_⟩
 · rw [hn.1] at hm;cases hm
 rw [hv] at hg
 rw [hv2] at hm
 have e1:g1=g:=Option.some.inj hg
 have e2:g2=g:=Option.some.inj hm
 subst e1
 subst e2
 rw [hb1] at hb2
 injection hb2 with hb2
 injection hb2 with _ h3 _
 exact hne h3
def NewOr (n:Nat) (v v':Value):Prop:=∀ g,v'.ownBlock=some g→v.ownBlock=some g∨n≤g
theorem NewOr.mono {n m:Nat} {v v':Value} (h:NewOr m v v') (hn:n≤m):NewOr n v v':=fun g hg=>(h g hg).imp id (Nat.le_trans hn)
theorem NewOr.of {n:Nat} {v v':Value} (h:v'.ownBlock=v.ownBlock∨v'.ownBlock=some n):NewOr n v v':=by
 intro g hg
 rcases h with h | h
 · exact Or.inl (h ▸ hg)
 · rw [h] at hg;injection hg with hg;exact Or.inr (by omega)
theorem zRi:(Tryz.prog.info? 3).map (fun i=>(i.zero,i.size,i.bytes))=some (some (.int .i64 0),1,8):=by kernel_rfl
theorem ap_str (W:World) (base:Nat) (a:Option Addr) (n c:Nat) (xs:List Value) (s:ByteArray) (h:W.ownsRow base 9 1 (.slice a n c) n xs) (hn:n≤1000) (hb:base≤W.heap.size):
 ∃ a' c' w',(Builtin.append_ #[24,24] 24 #[.slice a n c,.slice (some ⟨W.heap.size,0,none⟩) 1 1]).run Tryz.prog (W.alloc (.cells #[.string s] 9))=.ok (.slice a' (n+1) c') w'∧w'.ownsRow base 9 1 (.slice a' (n+1) c') (n+1) (xs++[.string s])∧Kept (Value.slice a n c).ownBlock.toList W w'∧NewOr W.heap.size (.slice a n c) (.slice a' (n+1) c'):=by
 obtain ⟨i0,hi0',hz0,hz1,hz2⟩:=info_parts strInfo
 obtain ⟨v7,w7,h1,h2,h3,_,h5⟩:=run_append_own_at (P:=Tryz.prog) (W.alloc (.cells #[.string s] 9)) base 24 24 9 i0 _ 1 16 Tryz.underlying24 hi0' hz0 hz1 hz2 rfl (by decide) (.slice a n c) n xs (h.alloc _) ⟨W.heap.size,0,none⟩ 1 1 [.string s] rfl (zHK _ _ _) (by intro u hu;simp at hu;subst hu;rfl) (by unfold maxLen;omega) (by omega) (by simp;omega)
 obtain ⟨a',c',rfl⟩:=zIW h2
 exact ⟨a',c',w7,h1,h2,((Kept.refl _ W).alloc _).grownS h3 (fun g' hg'=>by rw [hg'];simp),(NewOr.of h5).mono (by first | (simp;done) | (show W.heap.size≤(W.alloc _).heap.size;simp))⟩
theorem zu5 (W:World) (base:Nat) (a:Option Addr) (n c:Nat) (xs:List Value) (s:Int) (h:W.ownsRow base 3 1 (.slice a n c) n xs) (hn:n≤1000) (hb:base≤W.heap.size):
 ∃ a' c' w',(Builtin.append_ #[22,22] 22 #[.slice a n c,.slice (some ⟨W.heap.size,0,none⟩) 1 1]).run Tryz.prog ((W.alloc (.cells #[.int .i64 s] 3)).drew)=.ok (.slice a' (n+1) c') w'∧w'.ownsRow base 3 1 (.slice a' (n+1) c') (n+1) (xs++[.int .i64 s])∧Kept (Value.slice a n c).ownBlock.toList W w'∧NewOr W.heap.size (.slice a n c) (.slice a' (n+1) c'):=by
 obtain ⟨i0,hi0',hz0,hz1,hz2⟩:=info_parts zRi
 obtain ⟨v7,w7,h1,h2,h3,_,h5⟩:=run_append_own_at (P:=Tryz.prog) ((W.alloc (.cells #[.int .i64 s] 3)).drew) base 22 22 3 i0 _ 1 8 Tryz.underlying22 hi0' hz0 hz1 hz2 rfl (by decide) (.slice a n c) n xs (h.alloc _) ⟨W.heap.size,0,none⟩ 1 1 [.int .i64 s] rfl (zHK W _ _) (by intro u hu;simp at hu;subst hu;rfl) (by unfold maxLen;omega) (by omega) (by show base≤(W.alloc _).heap.size;simp;omega)
 obtain ⟨a',c',rfl⟩:=zIW h2
 exact ⟨a',c',w7,h1,h2,(((Kept.refl _ W).alloc _).drew).grownS h3 (fun g' hg'=>by rw [hg'];simp),(NewOr.of h5).mono (by first | (simp;done) | (show W.heap.size≤(W.alloc _).heap.size;simp))⟩
theorem ap_op (W:World) (base:Nat) (a:Option Addr) (n c:Nat) (xs:List Value) (s:OpV) (h:W.ownsRow base 48 10 (.slice a n c) n xs) (hn:n≤1000) (hb:base≤W.heap.size):
 ∃ a' c' w',(Builtin.append_ #[23,23] 23 #[.slice a n c,.slice (some ⟨W.heap.size,0,none⟩) 1 1]).run Tryz.prog ((W.alloc (.cells (opvCells s).toArray 48)).drew)=.ok (.slice a' (n+1) c') w'∧w'.ownsRow base 48 10 (.slice a' (n+1) c') (n+1) (xs++opvCells s)∧Kept (Value.slice a n c).ownBlock.toList W w'∧NewOr W.heap.size (.slice a n c) (.slice a' (n+1) c'):=by
 obtain ⟨i0,hi0',hz0,hz1,hz2⟩:=info_parts zSl
 obtain ⟨v7,w7,h1,h2,h3,_,h5⟩:=run_append_own_at (P:=Tryz.prog) ((W.alloc (.cells (opvCells s).toArray 48)).drew) base 23 23 48 i0 _ 10 96 Tryz.underlying23 hi0' hz0 hz1 hz2 rfl (by decide) (.slice a n c) n xs (h.alloc _) ⟨W.heap.size,0,none⟩ 1 1 (opvCells s) rfl (z9R W _ _) (by intro u hu;simp [opvCells] at hu;rcases hu with rfl | rfl | rfl | rfl | rfl | rfl | rfl | rfl | rfl | rfl <;> rfl) (by unfold maxLen;omega) (by omega) (by show base≤(W.alloc _).heap.size;simp;omega)
 obtain ⟨a',c',rfl⟩:=zIW h2
 exact ⟨a',c',w7,h1,h2,(((Kept.refl _ W).alloc _).drew).grownS h3 (fun g' hg'=>by rw [hg'];simp),(NewOr.of h5).mono (by first | (simp;done) | (show W.heap.size≤(W.alloc _).heap.size;simp))⟩
theorem zTU {w:World} {b:Nat} {o:OpV} (h:opBlk w b o):w.cell? ⟨b,0,none⟩=some (.int .i64 o.id)∧w.cell? ⟨b,1,none⟩=some (.int .i64 o.cl)∧w.cell? ⟨b,2,none⟩=some (.string ⟨o.name.toArray⟩)∧w.cell? ⟨b,3,none⟩=some (.string ⟨o.key.toArray⟩)∧w.cell? ⟨b,4,none⟩=some (.int .i64 o.arg)∧w.cell? ⟨b,5,none⟩=some (.int .i64 o.exp)∧w.cell? ⟨b,6,none⟩=some (.int .i64 o.call)∧w.cell? ⟨b,7,none⟩=some (.int .i64 o.ret)∧w.cell? ⟨b,8,none⟩=some (.int .i64 o.vk)∧w.cell? ⟨b,9,none⟩=some (.int .i64 o.vn):=by
 refine ⟨?_,?_,?_,?_,?_,?_,?_,?_,?_,?_⟩ <;> (rw [zBk h];rfl)
theorem z1j (i k:Nat):(opS i k).length≤5:=by
 unfold opS;split <;> simp
theorem Tale.kept2 {S:List Nat} {w w':World} {tb base i:Nat} {ops:List OpV} {lines:List (List UInt8)} {keys:List Nat} {vo vl vk:Value} (h:Tale w tb base i ops lines keys vo vl vk) (k:Kept S w w') (hn:tb∉S) (ho:∀ g,vo.ownBlock=some g→g∉S) (hl:∀ g,vl.ownBlock=some g→g∉S) (hk:∀ g,vk.ownBlock=some g→g∉S):Tale w' tb base i ops lines keys vo vl vk:=
 ⟨(k.block tb (zCqB h.blk) hn).trans h.blk,z1O h.ops k ho,z1O h.lines k hl,z1O h.keys k hk⟩
theorem zf8 {w:World} {b:Nat} {o:OpV} (h:opBlk w b o) (j:Nat):w.cell? ⟨b,j,none⟩=(opvCells o)[j]?:=by
 rw [zBk h];simp [opvCells]
theorem z1t {S:List Nat} {w w':World} {b:Nat} {o:OpV} (h:opBlk w b o) (k:Kept S w w') (hn:b∉S):opBlk w' b o:=(k.block b (zCqB h) hn).trans h

def keyP (i:Nat) (d:List Int):Nat×List Int×List UInt8:=if zSt i=true then ((z1S 3 d).1,(z1S 3 d).2,keyS (z1S 3 d).1) else (0,d,[])
theorem zO1 (i:Nat) (d:List Int):(keyP i d).1 < 3:=by
 unfold keyP
 split
 · exact zKB (by omega) d
 · show 0 < 3;omega
def argP (n:List UInt8) (d:List Int):Int×List Int:=if n=[119,114,105,116,101]∨n=[112,117,116]∨n=[101,110,113]∨n=[99,97,115] then (((z1S 4 d).1:Int) - 1,(z1S 4 d).2) else (0,d)
def expP (n:List UInt8) (d:List Int):Int×List Int:=if n=[99,97,115] then (((z1S 4 d).1:Int) - 1,(z1S 4 d).2) else (0,d)
theorem zvm (n:List UInt8) (d:List Int): -1≤(argP n d).1∧(argP n d).1≤2:=by
 unfold argP
 have:=zKB (n:=4) (by omega) d
 split
 · show -1≤((z1S 4 d).1:Int) - 1∧((z1S 4 d).1:Int) - 1≤2;omega
 · show (-1:Int)≤0∧(0:Int)≤2;omega
theorem zWH (n:List UInt8) (d:List Int): -1≤(expP n d).1∧(expP n d).1≤2:=by
 unfold expP
 have:=zKB (n:=4) (by omega) d
 split
 · show -1≤((z1S 4 d).1:Int) - 1∧((z1S 4 d).1:Int) - 1≤2;omega
 · show (-1:Int)≤0∧(0:Int)≤2;omega

def zqT (i:Nat) (cl:Int) (nOps nLines:Nat) (d:List Int):OpV×List UInt8×Nat×List Int:=
 let name:=opS i (pickP ((z1S 6 d).1:Int) (opN i))
 let kq:=keyP i (z1S 6 d).2
 let aq:=argP name kq.2.1
 let eq:=expP name aq.2
 let cd:=zdF (zSt i) (7*(nOps:Int) - 20) cl name aq.1 eq.1 kq.1 eq.2
 (⟨7*(nOps:Int) - 20,cl,name,kq.2.2,aq.1,eq.1,(nLines:Int)+1,0,0,0⟩,cd.1,kq.1,cd.2)

set_option maxHeartbeats 40000000 in
set_option maxRecDepth 100000 in
theorem zZn (b tb cb o base i:Nat) (hi:i < 5) (sv:Value) (code d:List Int) (ops:List OpV) (lines:List (List UInt8)) (keys:List Nat) (vo vl vk:Value) (st cop ck:Int) (c00 cc:Array Value) (cl:Int) (w:World)
 (hd:Dice w b sv code d) (ht:Tale w tb base i ops lines keys vo vl vk) (hc:Client w cb o c00 cc st cop ck) (hcl:small cl) (hol:ops.length≤1000) (hll:lines.length≤1000) (hkl:keys.length≤1000) (hp:b < tb∧b < cb∧tb≠cb∧b < base∧tb < base∧cb < base∧base≤w.heap.size):
 Calls Tryz.prog 25 #[.pointer (some ⟨b,0,none⟩),.pointer (some ⟨tb,0,none⟩),.pointer (some ⟨cb,o,none⟩),.int .i64 cl] w fun e w'=>e=.returned (.tuple #[])∧Dice w' b sv code (zqT i cl ops.length lines.length d).2.2.2∧(∃ vo' vl' vk',Tale w' tb base i (ops++[(zqT i cl ops.length lines.length d).1]) (lines++[(zqT i cl ops.length lines.length d).2.1]) (keys++[(zqT i cl ops.length lines.length d).2.2.1]) vo' vl' vk'∧NewOr w.heap.size vo vo'∧NewOr w.heap.size vl vl'∧NewOr w.heap.size vk vk')∧(∃ cc',Client w' cb o c00 cc' 1 (ops.length:Int) ((zqT i cl ops.length lines.length d).2.2.1:Int))∧Kept ([b,cb,tb]++(vl.ownBlock.toList++(vo.ownBlock.toList++vk.ownBlock.toList))) w w':=by
 obtain ⟨SP,hSP⟩:∃ SP,Hid (zqT i cl ops.length lines.length d=SP):=⟨_,rfl⟩
 rw [hSP.out]
 obtain ⟨oo,oc,rfl⟩:=zIW ht.ops
 obtain ⟨lo,lc,rfl⟩:=zIW ht.lines
 obtain ⟨ko,kc,rfl⟩:=zIW ht.keys
 have hlb:=hd.lt
 have hlt:=zCqB ht.blk
 have hlc:=zCqB hc.blk
 obtain ⟨W,hW,hbW,hO⟩:∃ W,w.alloc (.cells #[.int .i64 0,.int .i64 0,.string ⟨#[]⟩,.string ⟨#[]⟩,.int .i64 0,.int .i64 0,.int .i64 0,.int .i64 0,.int .i64 0,.int .i64 0] 48)=W∧Below w.heap.size w W∧opBlk W w.heap.size zeroOp:=⟨_,rfl,(Below.refl _ _).alloc (Nat.le_refl _) _,ziF _ _ _ rfl⟩
 have hd1:=hd.below hbW
 have ht1:=ht.kept (S:=[]) (Kept.of_below hbW) (by simp) (by simp)
 have hc1:=hc.kept (S:=[]) (Kept.of_below hbW) (by simp)
 have hltO:=zCqB hO
 have hzW:=hbW.size
 obtain ⟨p1,p2,p3,p4,p5,p6,p7⟩:=hp
 have htW:tb < W.heap.size:=by omega
 have htb:tb∉[b]:=by simp;omega
 have hob:w.heap.size∉[b]:=by simp;omega
 have hN:=fun W' hW'=>zDJ b 6 sv code d (by omega) (.cells #[] 0) W W' hd1 hW'
 have hn6:=zKB (n:=6) (by omega) d
 generalize HC6':(z1S 6 d).1=c6 at*
 have HC6:Hid ((z1S 6 d).1=c6):=HC6'
 clear HC6'
 generalize HD1':(z1S 6 d).2=d1 at*
 have HD1:Hid ((z1S 6 d).2=d1):=HD1'
 clear HD1'
 have hOp:=fun W'=>zIh i hi (c6:Int) W' ⟨by omega,by omega⟩
 generalize hk6:pickP (c6:Int) (opN i)=k at*
 have hA1:Below W.heap.size W W.drew:=(Below.refl _ _).drew
 have m0:W.cell? ⟨tb,0,none⟩=some (.string ⟨(modS i).toArray⟩):=by rw [zBk ht1.blk];rfl
 go_enter Tryz.func25,Tryz.ntmps25
 go_wp2_with fail
 go_cut [8] (fun a wx=>a=.pointer (some ⟨w.heap.size,0,none⟩)∧opBlk wx w.heap.size { zeroOp with name:=opS i k }∧Dice wx b sv code d1∧Kept [b] w wx)
 case first=>
  go_region_held3 (fun w'=>w'.cell? ⟨tb,0,none⟩=some (.string ⟨(modS i).toArray⟩)) (go_keep) (first
   | (go_at_call 24;refine (hN _ hA1).mono ?_;rintro e w2 ⟨rfl,hd2,hk2,_⟩;have m2:=(hk2.cell (p:=⟨tb,0,none⟩) htW htb).trans m0;have hO2:=z1t hO hk2 hob;have ht2:=Nat.lt_of_lt_of_le htW hk2.size)
   | (go_at_call 36;refine (hOp _).mono ?_;rintro e w3 ⟨rfl,hb3⟩;have m3:=(hb3.cell (p:=⟨tb,0,none⟩) ht2).trans m2;have hO3:=hO2.below hb3;have q2:=zf8 hO3 2;have qf:=zBn hO3 2;have m4:(w3.setCell ⟨w.heap.size,2,none⟩ (.string ⟨(opS i k).toArray⟩)).cell? ⟨tb,0,none⟩=some (.string ⟨(modS i).toArray⟩):=(World.cell?_setCell_other _ _ _ _ (by intro e;injection e with e1;omega)).trans m3))
  all_goals
   go_wp2_with fail
   go_meet
   have hk4:Kept [w.heap.size] w3 (w3.setCell ⟨w.heap.size,2,none⟩ (.string ⟨(opS i k).toArray⟩)):=(Kept.refl _ _).setCell (p:=⟨w.heap.size,2,none⟩) (Or.inl (by simp)) _
   refine ⟨rfl,?_,(hd2.below hb3).kept hk4 (by simp;omega),?_⟩
   · unfold opBlk at hO3 ⊢
     rw [zFg hO3];rfl
   · exact zh0 (zh0 (zh0 (Kept.of_below hbW) hk2 (by simp)) (Kept.of_below (S:=[]) hb3) (by simp)) hk4 (by simp)
 case rest=>
  obtain ⟨rfl,hO1,hd2,hK1⟩:=hcut
  have ht2:=ht.kept hK1 (by simp;omega) (by simp;omega)
  have hc2:=hc.kept hK1 (by simp;omega)
  have hkd:=zUa i hi
  clear hW hbW hO hd1 ht1 hc1 hltO hzW htW htb hob hN hOp hA1 m0
  have t0:wc.cell? ⟨tb,0,none⟩=some (.string ⟨(modS i).toArray⟩):=by rw [zBk ht2.blk];rfl
  have t1:wc.cell? ⟨tb,1,none⟩=some (.slice oo ops.length oc):=by rw [zBk ht2.blk];rfl
  have t2:wc.cell? ⟨tb,2,none⟩=some (.slice lo lines.length lc):=by rw [zBk ht2.blk];rfl
  have a0:=zf8 hO1 0
  have a1:=zf8 hO1 1
  have b0:=zBn hO1 0
  have b1:=zBn hO1 1
  have k2:wc.cell? ⟨cb,o+2,none⟩=some (.int .i64 ck):=by rw [zBk hc2.blk];exact hc2.c2
  have f2:=zBn hc2.blk (o+2)
  have e1:w.heap.size≠tb:=by omega
  have e2:w.heap.size≠cb:=by omega
  have e3:cb≠tb:=by omega
  have hwi:IntKind.i64.wrap (7*(ops.length:Int))=7*(ops.length:Int):=z6Xb (by omega) (by omega)
  obtain ⟨W2,hW2,hO2,hc3,hd3,hK2⟩:∃ W2,(((wc.setCell ⟨w.heap.size,0,none⟩ (.int .i64 (7*(ops.length:Int) - 20))).setCell ⟨w.heap.size,1,none⟩ (.int .i64 cl)).setCell ⟨cb,o+2,none⟩ (.int .i64 0))=W2∧opBlk W2 w.heap.size { zeroOp with id:=7*(ops.length:Int) - 20,cl:=cl,name:=opS i k }∧Client W2 cb o c00 (cc.setIfInBounds (o+2) (.int .i64 0)) st cop 0∧Dice W2 b sv code d1∧Kept [b,cb] w W2:=by
   have hkA:Kept [w.heap.size] wc ((wc.setCell ⟨w.heap.size,0,none⟩ (.int .i64 (7*(ops.length:Int) - 20))).setCell ⟨w.heap.size,1,none⟩ (.int .i64 cl)):=((Kept.refl _ _).setCell (p:=⟨w.heap.size,0,none⟩) (Or.inl (by simp)) _).setCell (p:=⟨w.heap.size,1,none⟩) (Or.inl (by simp)) _
   have hkB:Kept [cb] ((wc.setCell ⟨w.heap.size,0,none⟩ (.int .i64 (7*(ops.length:Int) - 20))).setCell ⟨w.heap.size,1,none⟩ (.int .i64 cl)) (((wc.setCell ⟨w.heap.size,0,none⟩ (.int .i64 (7*(ops.length:Int) - 20))).setCell ⟨w.heap.size,1,none⟩ (.int .i64 cl)).setCell ⟨cb,o+2,none⟩ (.int .i64 0)):=(Kept.refl _ _).setCell (p:=⟨cb,o+2,none⟩) (Or.inl (by simp)) _
   have hOA:opBlk ((wc.setCell ⟨w.heap.size,0,none⟩ (.int .i64 (7*(ops.length:Int) - 20))).setCell ⟨w.heap.size,1,none⟩ (.int .i64 cl)) w.heap.size { zeroOp with id:=7*(ops.length:Int) - 20,cl:=cl,name:=opS i k }:=by
    unfold opBlk at hO1 ⊢
    rw [zFg (zFg hO1 0 _) 1 _];rfl
   refine ⟨_,rfl,z1t hOA hkB (by simp;omega),(hc2.kept hkA (by simp;omega)).set2 0,?_,?_⟩
   · have h1:=hd2.kept hkA (by simp;omega)
     exact h1.kept hkB (by simp;omega)
   · exact zh0 (zh0 (hK1.mono (fun x _ hx=>by simp at hx;simp [hx])) hkA (by simp)) hkB (by simp)
  have ht3:=ht.kept hK2 (by simp;omega) (by simp;omega)
  have s0:W2.cell? ⟨tb,0,none⟩=some (.string ⟨(modS i).toArray⟩):=by rw [zBk ht3.blk];rfl
  have s1:W2.cell? ⟨tb,1,none⟩=some (.slice oo ops.length oc):=by rw [zBk ht3.blk];rfl
  have s2:W2.cell? ⟨tb,2,none⟩=some (.slice lo lines.length lc):=by rw [zBk ht3.blk];rfl
  go_wp2_with fail
  refine (hkd _).mono ?_
  rintro e w5 ⟨rfl,hw⟩
  have hw':=hw.symm
  clear hw hkd
  subst hw'
  clear t0 t1 t2 a0 a1 b0 b1 k2 f2 hW2 hO1 hd2 hK1 ht2 hc2 hwi s0 s1 s2
  obtain ⟨kk,d2,ks,hkk,hkk3⟩:∃ (kk:Nat) (d2:List Int) (ks:List UInt8),Hid ((kk,d2,ks)=keyP i d1)∧kk < 3:=⟨_,_,_,rfl,zO1 i d1⟩
  go_upto_if 34 with fail
  go_cut [8] (fun a wx=>a=.pointer (some ⟨w.heap.size,0,none⟩)∧opBlk wx w.heap.size { zeroOp with id:=7*(ops.length:Int) - 20,cl:=cl,name:=opS i k,key:=ks }∧(∃ cc',Client wx cb o c00 cc' st cop (kk:Int))∧Dice wx b sv code d2∧Kept [b,cb] w wx)
  case first=>
   cases hkd:zSt i with
   | false=>
     have hq:=hkk.out
     unfold keyP at hq
     rw [hkd] at hq
     simp only [Bool.false_eq_true,if_false,Prod.mk.injEq] at hq
     obtain ⟨rfl,rfl,rfl⟩:=hq
     go_wp2_with fail
     go_meet
     exact ⟨rfl,hO2,⟨_,hc3⟩,hd3,hK2⟩
   | true=>
     have hq:=hkk.out
     unfold keyP at hq
     rw [hkd] at hq
     simp only [if_true,Prod.mk.injEq] at hq
     have hN:=next_any b 3 sv code d1 W2 hd3 (by omega)
     have hy:=hq.2.2
     rw [←hq.1] at hN hy
     rw [←hq.2.1] at hN
     clear hkk hq
     subst hy
     go_wp2_with fail
     refine hN.mono ?_
     rintro e w6 ⟨rfl,hd6,hk6⟩
     have hO6:=z1t hO2 hk6 (by simp;omega)
     have hc6:=hc3.kept hk6 (by simp;omega)
     have k6:w6.cell? ⟨cb,o+2,none⟩=some (.int .i64 0):=by rw [zBk hc6.blk];exact hc6.c2
     have f6:=zBn hc6.blk (o+2)
     have hkC:Kept [cb] w6 (w6.setCell ⟨cb,o+2,none⟩ (.int .i64 (kk:Int))):=(Kept.refl _ _).setCell (p:=⟨cb,o+2,none⟩) (Or.inl (by simp)) _
     have hc7:=hc6.set2 (kk:Int)
     have hO7:=z1t hO6 hkC (by simp;omega)
     have hd7:=hd6.kept hkC (by simp;omega)
     have k7:(w6.setCell ⟨cb,o+2,none⟩ (.int .i64 (kk:Int))).cell? ⟨cb,o+2,none⟩=some (.int .i64 (kk:Int)):=by rw [zBk hc7.blk];exact hc7.c2
     go_wp2_with fail
     refine (z8u kk hkk3 _).mono ?_
     rintro e w8 ⟨rfl,hb8⟩
     have hO8:=hO7.below hb8
     have hc8:=hc7.kept (S:=[]) (Kept.of_below hb8) (by simp)
     have hd8:=hd7.below hb8
     have q3:=zf8 hO8 3
     have g3:=zBn hO8 3
     have hkD:Kept [w.heap.size] w8 (w8.setCell ⟨w.heap.size,3,none⟩ (.string ⟨(keyS kk).toArray⟩)):=(Kept.refl _ _).setCell (p:=⟨w.heap.size,3,none⟩) (Or.inl (by simp)) _
     go_wp2_with fail
     go_meet
     refine ⟨rfl,?_,⟨_,hc8.kept hkD (by simp;omega)⟩,hd8.kept hkD (by simp;omega),?_⟩
     · unfold opBlk at hO8 ⊢
       rw [zFg hO8];rfl
     · exact zh0 (zh0 (zh0 (zh0 hK2 hk6 (by simp)) hkC (by simp)) (Kept.of_below (S:=[]) hb8) (by simp)) hkD (by simp)
  case rest=>
   obtain ⟨rfl,hO4,⟨cc4,hc4⟩,hd4,hK4⟩:=hcut
   clear hO2 hc3 hd3 hK2 ht3
   generalize hnm:opS i k=name at*
   obtain ⟨av,d3,hav,hav1,hav2⟩:∃ (av:Int) (d3:List Int),Hid ((av,d3)=argP name d2)∧ -1≤av∧av≤2:=⟨_,_,rfl,zvm name d2⟩
   obtain ⟨ev,d4,hev,hev1,hev2⟩:∃ (ev:Int) (d4:List Int),Hid ((ev,d4)=expP name d3)∧ -1≤ev∧ev≤2:=⟨_,_,rfl,zWH name d3⟩
   have q2:wc.cell? ⟨w.heap.size,2,none⟩=some (.string ⟨name.toArray⟩):=zf8 hO4 2
   have q4:wc.cell? ⟨w.heap.size,4,none⟩=some (.int .i64 0):=zf8 hO4 4
   have g4:=zBn hO4 4
   go_upto_block 0 with fail
   go_cut [8] (fun a wx=>a=.pointer (some ⟨w.heap.size,0,none⟩)∧opBlk wx w.heap.size { zeroOp with id:=7*(ops.length:Int) - 20,cl:=cl,name:=name,key:=ks,arg:=av }∧(∃ cc',Client wx cb o c00 cc' st cop (kk:Int))∧Dice wx b sv code d3∧Kept [b,cb] w wx)
   case first=>
    by_cases h:name=[119,114,105,116,101]∨name=[112,117,116]∨name=[101,110,113]∨name=[99,97,115]
    · have hq:=hav.out
      rw [argP,if_pos h] at hq
      simp only [Prod.mk.injEq] at hq
      have hN:=next_any b 4 sv code d2 wc hd4 (by omega)
      have hl4:=zKB (n:=4) (by omega) d2
      rw [←hq.2] at hN
      have hy:=hq.1
      clear hav hev hnm hq
      generalize (z1S 4 d2).1=r4 at*
      have hwr:IntKind.i64.wrap ((r4:Int) - 1)=(r4:Int) - 1:=z6Xb (by omega) (by omega)
      subst hy
      rcases h with rfl | rfl | rfl | rfl
      all_goals
       go_wp2_with fail
       refine hN.mono ?_
       rintro e w6 ⟨rfl,hd6,hk6⟩
       have hO6:=z1t hO4 hk6 (by simp;omega)
       have hc6:=hc4.kept hk6 (by simp;omega)
       have q6:w6.cell? ⟨w.heap.size,4,none⟩=some (.int .i64 0):=zf8 hO6 4
       have g6:=zBn hO6 4
       have hkD:Kept [w.heap.size] w6 (w6.setCell ⟨w.heap.size,4,none⟩ (.int .i64 ((r4:Int) - 1))):=(Kept.refl _ _).setCell (p:=⟨w.heap.size,4,none⟩) (Or.inl (by simp)) _
       go_wp2_with fail
       go_meet
       refine ⟨rfl,?_,⟨_,hc6.kept hkD (by simp;omega)⟩,hd6.kept hkD (by simp;omega),zh0 (zh0 hK4 hk6 (by simp)) hkD (by simp)⟩
       unfold opBlk at hO6 ⊢
       rw [zFg hO6];rfl
    · have hq:=hav.out
      rw [argP,if_neg h] at hq
      simp only [Prod.mk.injEq] at hq
      obtain ⟨rfl,rfl⟩:=hq
      have n1:(name == [99,97,115])=false:=by simp;exact fun e=>h (by simp [e])
      have n2:(name == [119,114,105,116,101])=false:=by simp;exact fun e=>h (by simp [e])
      have n3:(name == [112,117,116])=false:=by simp;exact fun e=>h (by simp [e])
      have n4:(name == [101,110,113])=false:=by simp;exact fun e=>h (by simp [e])
      go_wp2_with fail
      go_meet
      exact ⟨rfl,hO4,⟨_,hc4⟩,hd4,hK4⟩
   case rest=>
    obtain ⟨rfl,hO5,⟨cc5,hc5⟩,hd5,hK5⟩:=hcut
    clear hO4 hc4 hd4 hK4 cc4 q2 q4 g4
    have q2:wc.cell? ⟨w.heap.size,2,none⟩=some (.string ⟨name.toArray⟩):=zf8 hO5 2
    go_upto_if 59 with fail
    go_cut [8] (fun a wx=>a=.pointer (some ⟨w.heap.size,0,none⟩)∧opBlk wx w.heap.size { zeroOp with id:=7*(ops.length:Int) - 20,cl:=cl,name:=name,key:=ks,arg:=av,exp:=ev }∧(∃ cc',Client wx cb o c00 cc' st cop (kk:Int))∧Dice wx b sv code d4∧Kept [b,cb] w wx)
    case first=>
     by_cases h:name=[99,97,115]
     · have hq:=hev.out
       rw [expP,if_pos h] at hq
       simp only [Prod.mk.injEq] at hq
       have hN:=next_any b 4 sv code d3 wc hd5 (by omega)
       have hl4:=zKB (n:=4) (by omega) d3
       rw [←hq.2] at hN
       have hy:=hq.1
       clear hav hev hnm hq
       generalize (z1S 4 d3).1=r4 at*
       have hwr:IntKind.i64.wrap ((r4:Int) - 1)=(r4:Int) - 1:=z6Xb (by omega) (by omega)
       subst hy
       subst h
       go_wp2_with fail
       refine hN.mono ?_
       rintro e w6 ⟨rfl,hd6,hk6⟩
       have hO6:=z1t hO5 hk6 (by simp;omega)
       have hc6:=hc5.kept hk6 (by simp;omega)
       have q6:w6.cell? ⟨w.heap.size,5,none⟩=some (.int .i64 0):=zf8 hO6 5
       have g6:=zBn hO6 5
       have hkD:Kept [w.heap.size] w6 (w6.setCell ⟨w.heap.size,5,none⟩ (.int .i64 ((r4:Int) - 1))):=(Kept.refl _ _).setCell (p:=⟨w.heap.size,5,none⟩) (Or.inl (by simp)) _
       go_wp2_with fail
       go_meet
       refine ⟨rfl,?_,⟨_,hc6.kept hkD (by simp;omega)⟩,hd6.kept hkD (by simp;omega),zh0 (zh0 hK5 hk6 (by simp)) hkD (by simp)⟩
       unfold opBlk at hO6 ⊢
       rw [zFg hO6];rfl
     · have hq:=hev.out
       rw [expP,if_neg h] at hq
       simp only [Prod.mk.injEq] at hq
       obtain ⟨rfl,rfl⟩:=hq
       have n1:(name == [99,97,115])=false:=by simp [h]
       go_wp2_with fail
       · have hbad:(name == [99,97,115])=true:=by assumption
         rw [n1] at hbad;cases hbad
       · go_meet
         exact ⟨rfl,hO5,⟨_,hc5⟩,hd5,hK5⟩
    case rest=>
     obtain ⟨rfl,hO6,⟨cc6,hc6⟩,hd6,hK6⟩:=hcut
     clear hO5 hc5 hd5 hK5 cc5 q2
     have ht6:=ht.kept hK6 (by simp;omega) (by simp;omega)
     have s1:wc.cell? ⟨tb,1,none⟩=some (.slice oo ops.length oc):=by rw [zBk ht6.blk];rfl
     have s2:wc.cell? ⟨tb,2,none⟩=some (.slice lo lines.length lc):=by rw [zBk ht6.blk];rfl
     have a6:wc.cell? ⟨w.heap.size,6,none⟩=some (.int .i64 0):=zf8 hO6 6
     have b6:=zBn hO6 6
     have k0:wc.cell? ⟨cb,o,none⟩=some (.int .i64 st):=by rw [zBk hc6.blk];exact hc6.c0
     have k1:wc.cell? ⟨cb,o+1,none⟩=some (.int .i64 cop):=by rw [zBk hc6.blk];exact hc6.c1
     have f0:=zBn hc6.blk o
     have f1:=zBn hc6.blk (o+1)
     have hwi:IntKind.i64.wrap ((lines.length:Int)+1)=(lines.length:Int)+1:=z6Xb (by omega) (by omega)
     obtain ⟨W9,hW9,hO9,hc9,hd9,hK9⟩:∃ W9,(((wc.setCell ⟨w.heap.size,6,none⟩ (.int .i64 ((lines.length:Int)+1))).setCell ⟨cb,o+1,none⟩ (.int .i64 (ops.length:Int))).setCell ⟨cb,o,none⟩ (.int .i64 1))=W9∧opBlk W9 w.heap.size { zeroOp with id:=7*(ops.length:Int) - 20,cl:=cl,name:=name,key:=ks,arg:=av,exp:=ev,call:=(lines.length:Int)+1 }∧(∃ cc',Client W9 cb o c00 cc' 1 (ops.length:Int) (kk:Int))∧Dice W9 b sv code d4∧Kept [b,cb] w W9:=by
      have hkA:Kept [w.heap.size] wc (wc.setCell ⟨w.heap.size,6,none⟩ (.int .i64 ((lines.length:Int)+1))):=(Kept.refl _ _).setCell (p:=⟨w.heap.size,6,none⟩) (Or.inl (by simp)) _
      have hkB:Kept [cb] (wc.setCell ⟨w.heap.size,6,none⟩ (.int .i64 ((lines.length:Int)+1))) (((wc.setCell ⟨w.heap.size,6,none⟩ (.int .i64 ((lines.length:Int)+1))).setCell ⟨cb,o+1,none⟩ (.int .i64 (ops.length:Int))).setCell ⟨cb,o,none⟩ (.int .i64 1)):=((Kept.refl _ _).setCell (p:=⟨cb,o+1,none⟩) (Or.inl (by simp)) _).setCell (p:=⟨cb,o,none⟩) (Or.inl (by simp)) _
      have hOA:opBlk (wc.setCell ⟨w.heap.size,6,none⟩ (.int .i64 ((lines.length:Int)+1))) w.heap.size { zeroOp with id:=7*(ops.length:Int) - 20,cl:=cl,name:=name,key:=ks,arg:=av,exp:=ev,call:=(lines.length:Int)+1 }:=by
       unfold opBlk at hO6 ⊢
       rw [zFg hO6];rfl
      exact ⟨_,rfl,z1t hOA hkB (by simp;omega),⟨_,((hc6.kept hkA (by simp;omega)).set1 _).set _⟩,(hd6.kept hkA (by simp;omega)).kept hkB (by simp;omega),zh0 (zh0 hK6 hkA (by simp)) hkB (by simp)⟩
     obtain ⟨cc9,hc9⟩:=hc9
     have ht9:=ht.kept hK9 (by simp;omega) (by simp;omega)
     have hz9:=hK9.size
     have m0:W9.cell? ⟨tb,0,none⟩=some (.string ⟨(modS i).toArray⟩):=by rw [zBk ht9.blk];rfl
     have m1:W9.cell? ⟨tb,1,none⟩=some (.slice oo ops.length oc):=by rw [zBk ht9.blk];rfl
     have m2:W9.cell? ⟨tb,2,none⟩=some (.slice lo lines.length lc):=by rw [zBk ht9.blk];rfl
     have m3:W9.cell? ⟨tb,3,none⟩=some (.slice ko keys.length kc):=by rw [zBk ht9.blk];rfl
     have mk:W9.cell? ⟨cb,o+2,none⟩=some (.int .i64 (kk:Int)):=by rw [zBk hc9.blk];exact hc9.c2
     go_upto_region 19 with fail
     clear s1 s2 a6 b6 k0 k1 f0 f1 hwi hO6 hc6 hd6 hK6 ht6 hW9
     have hoid0: -1000000 < 7*(ops.length:Int) - 20∧7*(ops.length:Int) - 20 < 1000000:=by omega
     generalize hoid:7*(ops.length:Int) - 20=oid at*
     generalize hlcl:(lines.length:Int)+1=lcall at*
     have hnl:name.length≤5:=by rw [←hnm];exact z1j i k
     have hCl:∀ W:World,Dice W b sv code d4→Calls Tryz.prog 30 #[.pointer (some ⟨b,0,none⟩),.agg #[.int .i64 oid,.int .i64 cl,.string ⟨name.toArray⟩,.string ⟨ks.toArray⟩,.int .i64 av,.int .i64 ev,.int .i64 lcall,.int .i64 0,.int .i64 0,.int .i64 0],.int .i64 (kk:Int),.string ⟨(modS i).toArray⟩] W fun e w'=>e=.returned (.string ⟨(zdF (zSt i) oid cl name av ev kk d4).1.toArray⟩)∧Dice w' b sv code (zdF (zSt i) oid cl name av ev kk d4).2∧Kept [b] W w':=fun W hD=>zLA b sv code d4 i hi oid cl name ks av ev lcall 0 0 0 kk hkk3 W hD hoid0.1 hoid0.2 hcl ⟨by omega,by omega⟩ ⟨by omega,by omega⟩ hnl
     obtain ⟨R,hR⟩:∃ R,Hid (R=(zdF (zSt i) oid cl name av ev kk d4).1):=⟨_,rfl⟩
     obtain ⟨d5,hd5e⟩:∃ d5,Hid (d5=(zdF (zSt i) oid cl name av ev kk d4).2):=⟨_,rfl⟩
     rw [←hR.out,←hd5e.out] at hCl
     have hdD:Dice W9.drew b sv code d4:=hd9.below ((Below.refl _ _).drew)
     have hO9:opBlk W9 w.heap.size ⟨oid,cl,name,ks,av,ev,lcall,0,0,0⟩:=hO9
     obtain ⟨x0,x1,x2,x3,x4,x5,x6,x7,x8,x9⟩:=zTU hO9
     have hlo:∀ g∈(Value.slice lo lines.length lc).ownBlock.toList,base≤g∧g < w.heap.size:=fun g hg=>ht.lines.lt g (by simpa using hg)
     have hoo:∀ g∈(Value.slice oo ops.length oc).ownBlock.toList,base≤g∧g < w.heap.size:=fun g hg=>ht.ops.lt g (by simpa using hg)
     have hko:∀ g∈(Value.slice ko keys.length kc).ownBlock.toList,base≤g∧g < w.heap.size:=fun g hg=>ht.keys.lt g (by simpa using hg)
     have hnO:w.heap.size∉[b]:=by simp;omega
     have hnT:tb∉[b]:=by simp;omega
     have hnC:cb∉[b]:=by simp;omega
     have hnO2:w.heap.size∉(Value.slice lo lines.length lc).ownBlock.toList:=fun hm=>by have:=hlo _ hm;omega
     have hnT2:tb∉(Value.slice lo lines.length lc).ownBlock.toList:=fun hm=>by have:=hlo _ hm;omega
     have hnC2:cb∉(Value.slice lo lines.length lc).ownBlock.toList:=fun hm=>by have:=hlo _ hm;omega
     have htL:tb < W9.heap.size:=by omega
     have hcL:cb < W9.heap.size:=by omega
     have e1':tb≠w.heap.size:=by omega
     have hk9d:Kept [b] W9 W9.drew:=Kept.of_below ((Below.refl _ _).drew)
     go_cut [8] (fun a wx=>a=.pointer (some ⟨w.heap.size,0,none⟩)∧opBlk wx w.heap.size ⟨oid,cl,name,ks,av,ev,lcall,0,0,0⟩∧Client wx cb o c00 cc9 1 (ops.length:Int) (kk:Int)∧Dice wx b sv code d5∧(∃ lo' lc',Tale wx tb base i ops (lines++[R]) keys (.slice oo ops.length oc) (.slice lo' (lines.length+1) lc') (.slice ko keys.length kc)∧NewOr w.heap.size (.slice lo lines.length lc) (.slice lo' (lines.length+1) lc'))∧Kept ([b,cb,tb]++((Value.slice lo lines.length lc).ownBlock.toList++((Value.slice oo ops.length oc).ownBlock.toList++(Value.slice ko keys.length kc).ownBlock.toList))) w wx)
     case first=>
      have pack:Hid (∀ w2:World,Dice w2 b sv code d5→Kept [b] W9.drew w2→∃ a7 c7 w7,(Builtin.append_ #[24,24] 24 #[.slice lo lines.length lc,.slice (some ⟨w2.heap.size,0,none⟩) 1 1]).run Tryz.prog (w2.alloc (.cells #[.string ⟨R.toArray⟩] 9))=.ok (.slice a7 (lines.length+1) c7) w7∧
       w2.cell? ⟨tb,2,none⟩=some (.slice lo lines.length lc)∧(w2.alloc (.cells #[.string ⟨R.toArray⟩] 9)).cell? ⟨tb,2,none⟩=some (.slice lo lines.length lc)∧w7.cell? ⟨tb,2,none⟩=some (.slice lo lines.length lc)∧w7.frozen? ⟨tb,2,none⟩=false∧(w2.cell? ⟨tb,0,none⟩=some (.string ⟨(modS i).toArray⟩)∧w2.cell? ⟨cb,o+2,none⟩=some (.int .i64 (kk:Int))∧opBlk w2 w.heap.size ⟨oid,cl,name,ks,av,ev,lcall,0,0,0⟩)∧((w2.alloc (.cells #[.string ⟨R.toArray⟩] 9)).cell? ⟨tb,0,none⟩=some (.string ⟨(modS i).toArray⟩)∧(w2.alloc (.cells #[.string ⟨R.toArray⟩] 9)).cell? ⟨cb,o+2,none⟩=some (.int .i64 (kk:Int))∧opBlk (w2.alloc (.cells #[.string ⟨R.toArray⟩] 9)) w.heap.size ⟨oid,cl,name,ks,av,ev,lcall,0,0,0⟩)∧(w7.cell? ⟨tb,0,none⟩=some (.string ⟨(modS i).toArray⟩)∧w7.cell? ⟨cb,o+2,none⟩=some (.int .i64 (kk:Int))∧opBlk w7 w.heap.size ⟨oid,cl,name,ks,av,ev,lcall,0,0,0⟩)∧((w7.setCell ⟨tb,2,none⟩ (.slice a7 (lines.length+1) c7)).cell? ⟨tb,0,none⟩=some (.string ⟨(modS i).toArray⟩)∧(w7.setCell ⟨tb,2,none⟩ (.slice a7 (lines.length+1) c7)).cell? ⟨cb,o+2,none⟩=some (.int .i64 (kk:Int))∧opBlk (w7.setCell ⟨tb,2,none⟩ (.slice a7 (lines.length+1) c7)) w.heap.size ⟨oid,cl,name,ks,av,ev,lcall,0,0,0⟩)∧(opBlk (w7.setCell ⟨tb,2,none⟩ (.slice a7 (lines.length+1) c7)) w.heap.size ⟨oid,cl,name,ks,av,ev,lcall,0,0,0⟩∧Client (w7.setCell ⟨tb,2,none⟩ (.slice a7 (lines.length+1) c7)) cb o c00 cc9 1 (ops.length:Int) (kk:Int)∧Dice (w7.setCell ⟨tb,2,none⟩ (.slice a7 (lines.length+1) c7)) b sv code d5∧(∃ lo' lc',Tale (w7.setCell ⟨tb,2,none⟩ (.slice a7 (lines.length+1) c7)) tb base i ops (lines++[R]) keys (.slice oo ops.length oc) (.slice lo' (lines.length+1) lc') (.slice ko keys.length kc)∧NewOr w.heap.size (.slice lo lines.length lc) (.slice lo' (lines.length+1) lc'))∧Kept ([b,cb,tb]++((Value.slice lo lines.length lc).ownBlock.toList++((Value.slice oo ops.length oc).ownBlock.toList++(Value.slice ko keys.length kc).ownBlock.toList))) w (w7.setCell ⟨tb,2,none⟩ (.slice a7 (lines.length+1) c7)))):=by
       intro w2 hd2 hk2
       have hk2':=hk9d.trans hk2
       have hO2:=z1t hO9 hk2' hnO
       have ht2:=ht9.kept hk2' (by simp;omega) hnT
       have hc2:=hc9.kept hk2' hnC
       have hz2:=hk2'.size
       have n2:=(hk2'.cell (p:=⟨tb,2,none⟩) htL hnT).trans m2
       obtain ⟨a7,c7,w7,hap,own7,hk7,hN7⟩:=ap_str w2 base lo lines.length lc (strCells lines) ⟨R.toArray⟩ ht2.lines hll (by omega)
       have hO7:=z1t hO2 hk7 hnO2
       have hc7:=hc2.kept hk7 hnC2
       have hT7:=(hk7.block tb (by omega) hnT2).trans ht2.blk
       have n0:=(hk2'.cell (p:=⟨tb,0,none⟩) htL hnT).trans m0
       have nk:=(hk2'.cell (p:=⟨cb,o+2,none⟩) hcL hnC).trans mk
       have l0:=(hk7.cell (p:=⟨tb,0,none⟩) (Nat.lt_of_lt_of_le htL hz2) hnT2).trans n0
       have lk:=(hk7.cell (p:=⟨cb,o+2,none⟩) (Nat.lt_of_lt_of_le hcL hz2) hnC2).trans nk
       refine ⟨a7,c7,w7,hap,n2,(World.cell?_alloc_lt _ _ _ (Nat.lt_of_lt_of_le htL hz2)).trans n2,(hk7.cell (p:=⟨tb,2,none⟩) (Nat.lt_of_lt_of_le htL hz2) hnT2).trans n2,zBn hT7 2,⟨n0,nk,hO2⟩,⟨(World.cell?_alloc_lt _ _ _ (Nat.lt_of_lt_of_le htL hz2)).trans n0,(World.cell?_alloc_lt _ _ _ (Nat.lt_of_lt_of_le hcL hz2)).trans nk,(zD1 _ _ _ (zCqB hO2)).trans hO2⟩,⟨l0,lk,hO7⟩,⟨(World.cell?_setCell_other _ _ _ _ (by intro e;injection e with _ e1;cases e1)).trans l0,(World.cell?_setCell_other _ _ _ _ (by intro e;injection e with e1;omega)).trans lk,z1t hO7 ((Kept.refl [tb] w7).setCell (p:=⟨tb,2,none⟩) (Or.inl (by simp)) _) (by simp;omega)⟩,?_⟩
       have hkE:Kept [tb] w7 (w7.setCell ⟨tb,2,none⟩ (.slice a7 (lines.length+1) c7)):=(Kept.refl _ _).setCell (p:=⟨tb,2,none⟩) (Or.inl (by simp)) _
       refine ⟨z1t hO7 hkE (by simp;omega),hc7.kept hkE (by simp;omega),(hd2.kept hk7 (fun x hx=>by have:=hlo x hx;omega)).kept hkE (by simp;omega),⟨a7,c7,⟨by rw [zFg hT7];rfl,?_,?_,?_⟩,hN7.mono (by omega)⟩,?_⟩
       · exact zzF (z1O ht2.ops hk7 (zhv ht2.ops ht2.lines (by decide))) hkE (by simp;omega)
       · have own7':w7.ownsRow base 9 1 (.slice a7 (lines.length+1) c7) (lines++[R]).length (strCells (lines++[R])):=by rw [zBt,List.length_append];exact own7
         exact zzF own7' hkE (by simp;omega)
       · exact zzF (z1O ht2.keys hk7 (zhv ht2.keys ht2.lines (by decide))) hkE (by simp;omega)
       · exact zh0 (zh0 (zh0 (hK9.mono (fun x _ hx=>by simp at hx;rcases hx with rfl | rfl <;> simp)) hk2' (fun x hx=>Or.inl (by simp at hx;subst hx;simp))) hk7 (fun x hx=>Or.inl (List.mem_append.2 (Or.inr (List.mem_append.2 (Or.inl hx)))))) hkE (fun x hx=>Or.inl (by simp at hx;subst hx;simp))
      have hCd:=hCl _ hdD
      have hS0:W9.drew.cell? ⟨tb,0,none⟩=some (.string ⟨(modS i).toArray⟩)∧W9.drew.cell? ⟨cb,o+2,none⟩=some (.int .i64 (kk:Int))∧opBlk W9.drew w.heap.size ⟨oid,cl,name,ks,av,ev,lcall,0,0,0⟩:=⟨m0,mk,hO9⟩
      clear hlo hoo hko hnO hnT hnC hnO2 hnT2 hnC2 hk9d hCl hdD hO9 hc9 hd9 hK9 ht9 m1 m3 hR hd5e hSP HC6 HD1 x0 x1 x2 x3 x4 x5 x6 x7 x8 x9
      refine wp_region_held_drew (S:=(fun w'=>w'.cell? ⟨tb,0,none⟩=some (.string ⟨(modS i).toArray⟩)∧w'.cell? ⟨cb,o+2,none⟩=some (.int .i64 (kk:Int))∧opBlk w' w.heap.size ⟨oid,cl,name,ks,av,ev,lcall,0,0,0⟩)) (by kernel_rfl) hS0 (fun hHeld=>?_)
      refine wpAnyH_take (i:=0) (oi:=⟨some 82,.move (.tmp 1),61, "maker.go:262",#[],none⟩) (v:=?_) rfl (by kernel_rfl) (by kernel_rfl) (by kernel_rfl) (fun _ _ _ h=>h) (Or.inl ⟨by rfl,?_⟩) (by assumption) ?_
      rotate_left
      · intro w0 hSw
        first | (go_simp;done) | (go_simp;with_reducible rfl)
      try simp only [Act.put,List.setIfInBounds_toArray,List.set_cons_zero,List.set_cons_succ]
      refine wpAnyH_take (i:=1) (oi:=⟨some 83,.move (.tmp 1),61, "maker.go:262",#[],none⟩) (v:=?_) rfl (by kernel_rfl) (by kernel_rfl) (by kernel_rfl) (fun _ _ _ h=>h) (Or.inl ⟨by rfl,?_⟩) (by assumption) ?_
      rotate_left
      · intro w0 hSw
        first | (go_simp;done) | (go_simp;with_reducible rfl)
      try simp only [Act.put,List.setIfInBounds_toArray,List.set_cons_zero,List.set_cons_succ]
      refine wpAnyH_take (i:=2) (oi:=⟨some 84,.nilCheck (.tmp 83),0, "maker.go:262",#[⟨1,.data⟩],none⟩) (v:=?_) rfl (by kernel_rfl) (by kernel_rfl) (by kernel_rfl) (fun _ _ _ h=>h) (Or.inl ⟨by rfl,?_⟩) (by assumption) ?_
      rotate_left
      · intro w0 hSw
        first | (go_simp;done) | (go_simp;with_reducible rfl)
      try simp only [Act.put,List.setIfInBounds_toArray,List.set_cons_zero,List.set_cons_succ]
      refine wpAnyH_take (i:=3) (oi:=⟨some 85,.fieldAddr 26 (.tmp 84) 2,0, "maker.go:262",#[⟨2,.data⟩],none⟩) (v:=?_) rfl (by kernel_rfl) (by kernel_rfl) (by kernel_rfl) (fun _ _ _ h=>h) (Or.inl ⟨by rfl,?_⟩) (by assumption) ?_
      rotate_left
      · intro w0 hSw
        first | (go_simp;done) | (go_simp;with_reducible rfl)
      try simp only [Act.put,List.setIfInBounds_toArray,List.set_cons_zero,List.set_cons_succ]
      refine wpAnyH_take (i:=5) (oi:=⟨some 87,.move (.tmp 0),33, "maker.go:262",#[],none⟩) (v:=?_) rfl (by kernel_rfl) (by kernel_rfl) (by kernel_rfl) (fun _ _ _ h=>h) (Or.inl ⟨by rfl,?_⟩) (by assumption) ?_
      rotate_left
      · intro w0 hSw
        first | (go_simp;done) | (go_simp;with_reducible rfl)
      try simp only [Act.put,List.setIfInBounds_toArray,List.set_cons_zero,List.set_cons_succ]
      refine wpAnyH_take (i:=6) (oi:=⟨some 88,.load 48 (.tmp 8),48, "maker.go:262",#[],none⟩) (v:=?_) rfl (by kernel_rfl) (by kernel_rfl) (by kernel_rfl) (fun _ _ _ h=>h) (Or.inl ⟨by rfl,?_⟩) (by assumption) ?_
      rotate_left
      · intro w0 hSw
        obtain ⟨y0,y1,y2⟩:=hSw
        obtain ⟨z0,z1,z2,z3,z4,z5,z6,z7,z8,z9⟩:=zTU y2
        first | (go_simp;done) | (go_simp;with_reducible rfl)
      try simp only [Act.put,List.setIfInBounds_toArray,List.set_cons_zero,List.set_cons_succ]
      refine wpAnyH_take (i:=7) (oi:=⟨some 89,.move (.tmp 2),59, "maker.go:262",#[],none⟩) (v:=?_) rfl (by kernel_rfl) (by kernel_rfl) (by kernel_rfl) (fun _ _ _ h=>h) (Or.inl ⟨by rfl,?_⟩) (by assumption) ?_
      rotate_left
      · intro w0 hSw
        first | (go_simp;done) | (go_simp;with_reducible rfl)
      try simp only [Act.put,List.setIfInBounds_toArray,List.set_cons_zero,List.set_cons_succ]
      refine wpAnyH_take (i:=8) (oi:=⟨some 90,.nilCheck (.tmp 89),0, "maker.go:262",#[⟨7,.data⟩],none⟩) (v:=?_) rfl (by kernel_rfl) (by kernel_rfl) (by kernel_rfl) (fun _ _ _ h=>h) (Or.inl ⟨by rfl,?_⟩) (by assumption) ?_
      rotate_left
      · intro w0 hSw
        first | (go_simp;done) | (go_simp;with_reducible rfl)
      try simp only [Act.put,List.setIfInBounds_toArray,List.set_cons_zero,List.set_cons_succ]
      refine wpAnyH_take (i:=9) (oi:=⟨some 91,.fieldAddr 55 (.tmp 90) 2,0, "maker.go:262",#[⟨8,.data⟩],none⟩) (v:=?_) rfl (by kernel_rfl) (by kernel_rfl) (by kernel_rfl) (fun _ _ _ h=>h) (Or.inl ⟨by rfl,?_⟩) (by assumption) ?_
      rotate_left
      · intro w0 hSw
        first | (go_simp;done) | (go_simp;with_reducible rfl)
      try simp only [Act.put,List.setIfInBounds_toArray,List.set_cons_zero,List.set_cons_succ]
      refine wpAnyH_take (i:=10) (oi:=⟨some 92,.load 3 (.tmp 91),3, "maker.go:262",#[⟨9,.data⟩],none⟩) (v:=?_) rfl (by kernel_rfl) (by kernel_rfl) (by kernel_rfl) (fun _ _ _ h=>h) (Or.inl ⟨by rfl,?_⟩) (by assumption) ?_
      rotate_left
      · intro w0 hSw
        obtain ⟨y0,y1,y2⟩:=hSw
        obtain ⟨z0,z1,z2,z3,z4,z5,z6,z7,z8,z9⟩:=zTU y2
        first | (go_simp;done) | (go_simp;with_reducible rfl)
      try simp only [Act.put,List.setIfInBounds_toArray,List.set_cons_zero,List.set_cons_succ]
      refine wpAnyH_take (i:=11) (oi:=⟨some 93,.move (.tmp 1),61, "maker.go:262",#[],none⟩) (v:=?_) rfl (by kernel_rfl) (by kernel_rfl) (by kernel_rfl) (fun _ _ _ h=>h) (Or.inl ⟨by rfl,?_⟩) (by assumption) ?_
      rotate_left
      · intro w0 hSw
        first | (go_simp;done) | (go_simp;with_reducible rfl)
      try simp only [Act.put,List.setIfInBounds_toArray,List.set_cons_zero,List.set_cons_succ]
      refine wpAnyH_take (i:=12) (oi:=⟨some 94,.nilCheck (.tmp 93),0, "maker.go:262",#[⟨11,.data⟩],none⟩) (v:=?_) rfl (by kernel_rfl) (by kernel_rfl) (by kernel_rfl) (fun _ _ _ h=>h) (Or.inl ⟨by rfl,?_⟩) (by assumption) ?_
      rotate_left
      · intro w0 hSw
        first | (go_simp;done) | (go_simp;with_reducible rfl)
      try simp only [Act.put,List.setIfInBounds_toArray,List.set_cons_zero,List.set_cons_succ]
      refine wpAnyH_take (i:=13) (oi:=⟨some 95,.fieldAddr 26 (.tmp 94) 0,0, "maker.go:262",#[⟨12,.data⟩],none⟩) (v:=?_) rfl (by kernel_rfl) (by kernel_rfl) (by kernel_rfl) (fun _ _ _ h=>h) (Or.inl ⟨by rfl,?_⟩) (by assumption) ?_
      rotate_left
      · intro w0 hSw
        first | (go_simp;done) | (go_simp;with_reducible rfl)
      try simp only [Act.put,List.setIfInBounds_toArray,List.set_cons_zero,List.set_cons_succ]
      refine wpAnyH_take (i:=14) (oi:=⟨some 96,.load 9 (.tmp 95),9, "maker.go:262",#[⟨13,.data⟩],none⟩) (v:=?_) rfl (by kernel_rfl) (by kernel_rfl) (by kernel_rfl) (fun _ _ _ h=>h) (Or.inl ⟨by rfl,?_⟩) (by assumption) ?_
      rotate_left
      · intro w0 hSw
        obtain ⟨y0,y1,y2⟩:=hSw
        obtain ⟨z0,z1,z2,z3,z4,z5,z6,z7,z8,z9⟩:=zTU y2
        first | (go_simp;done) | (go_simp;with_reducible rfl)
      try simp only [Act.put,List.setIfInBounds_toArray,List.set_cons_zero,List.set_cons_succ]
      refine wpAnyH_ready (rs:=[4,15]) (by kernel_rfl) (by simp) ?_
      refine AllReadyH.cons (o:=⟨some 86,.load 24 (.tmp 85),24, "maker.go:262",#[⟨3,.data⟩],none⟩) rfl (fun K hK=>?_) ?_
      · go_simp
        refine hK.out _ _ hS0 (fun hHeld=>?_)
        clear hK K
        try simp only [Act.put,List.setIfInBounds_toArray,List.set_cons_zero,List.set_cons_succ]
        refine wpAnyH_ready (rs:=[15]) (by kernel_rfl) (by simp) ?_
        refine AllReadyH.cons (o:=⟨some 97,.call { callee:=Callee.value (.func 30),args:=#[.tmp 87,.tmp 88,.tmp 92,.tmp 96],argTypes:=#[33,48,3,9] },9, "maker.go:262",#[⟨5,.data⟩,⟨6,.data⟩,⟨10,.data⟩,⟨14,.data⟩],none⟩) rfl (fun K hK=>?_) AllReadyH.nil
        go_simp
        go_at_call 30
        refine hCd.mono ?_
        rintro e w2 ⟨rfl,hd2,hk2⟩
        obtain ⟨a7,c7,w7,hap,n2,n2',l2,lf,hS2,hSA,hS7,hSE,hrel⟩:=pack.out w2 hd2 hk2
        go_wp2_with fail
        refine hK.out _ _ hS2 (fun hHeld=>?_)
        clear hK K
        try simp only [Act.put,List.setIfInBounds_toArray,List.set_cons_zero,List.set_cons_succ]
        refine wpAnyH_ready (rs:=[16]) (by kernel_rfl) (by simp) ?_
        refine AllReadyH.cons (o:=⟨some 98,.buildSlice 24 1 #[(0,.tmp 97)],24, "maker.go:262",#[⟨15,.data⟩],none⟩) rfl (fun K hK=>?_) AllReadyH.nil
        go_simp
        refine hK.out _ _ hSA (fun hHeld=>?_)
        clear hK K
        try simp only [Act.put,List.setIfInBounds_toArray,List.set_cons_zero,List.set_cons_succ]
        refine wpAnyH_ready (rs:=[17]) (by kernel_rfl) (by simp) ?_
        refine AllReadyH.cons (o:=⟨some 99,.call { callee:=Callee.builtin Builtin.append,args:=#[.tmp 86,.tmp 98],argTypes:=#[24,24] },24, "maker.go:262",#[⟨4,.data⟩,⟨16,.data⟩,⟨15,.chain⟩],none⟩) rfl (fun K hK=>?_) AllReadyH.nil
        refine zti rfl _ _ 24 rfl _ _ _ _ rfl rfl hap ?_
        refine hK.out _ _ hS7 (fun hHeld=>?_)
        clear hK K
        try simp only [Act.put,List.setIfInBounds_toArray,List.set_cons_zero,List.set_cons_succ]
        refine wpAnyH_take (i:=18) (oi:=⟨some 100,.nilCheck (.tmp 82),0, "maker.go:262",#[⟨0,.data⟩,⟨0,.phase⟩,⟨1,.phase⟩,⟨2,.phase⟩,⟨3,.phase⟩,⟨4,.phase⟩,⟨5,.phase⟩,⟨6,.phase⟩,⟨7,.phase⟩,⟨8,.phase⟩,⟨9,.phase⟩,⟨10,.phase⟩,⟨11,.phase⟩,⟨12,.phase⟩,⟨13,.phase⟩,⟨14,.phase⟩,⟨15,.phase⟩,⟨16,.phase⟩,⟨17,.phase⟩],none⟩) (v:=?_) rfl (by kernel_rfl) (by kernel_rfl) (by kernel_rfl) (fun _ _ _ h=>h) (Or.inl ⟨by rfl,?_⟩) (by assumption) ?_
        rotate_left
        · intro w0 hSw
          first | (go_simp;done) | (go_simp;with_reducible rfl)
        try simp only [Act.put,List.setIfInBounds_toArray,List.set_cons_zero,List.set_cons_succ]
        refine wpAnyH_take (i:=19) (oi:=⟨some 101,.fieldAddr 26 (.tmp 100) 2,0, "maker.go:262",#[⟨18,.data⟩,⟨0,.phase⟩,⟨1,.phase⟩,⟨2,.phase⟩,⟨3,.phase⟩,⟨4,.phase⟩,⟨5,.phase⟩,⟨6,.phase⟩,⟨7,.phase⟩,⟨8,.phase⟩,⟨9,.phase⟩,⟨10,.phase⟩,⟨11,.phase⟩,⟨12,.phase⟩,⟨13,.phase⟩,⟨14,.phase⟩,⟨15,.phase⟩,⟨16,.phase⟩,⟨17,.phase⟩],none⟩) (v:=?_) rfl (by kernel_rfl) (by kernel_rfl) (by kernel_rfl) (fun _ _ _ h=>h) (Or.inl ⟨by rfl,?_⟩) (by assumption) ?_
        rotate_left
        · intro w0 hSw
          first | (go_simp;done) | (go_simp;with_reducible rfl)
        try simp only [Act.put,List.setIfInBounds_toArray,List.set_cons_zero,List.set_cons_succ]
        refine wpAnyH_ready (rs:=[20]) (by kernel_rfl) (by simp) ?_
        refine AllReadyH.cons (o:=⟨none,.store 24 (.tmp 101) (.tmp 99),0, "maker.go:262",#[⟨19,.data⟩,⟨17,.data⟩,⟨17,.chain⟩,⟨0,.phase⟩,⟨1,.phase⟩,⟨2,.phase⟩,⟨3,.phase⟩,⟨4,.phase⟩,⟨5,.phase⟩,⟨6,.phase⟩,⟨7,.phase⟩,⟨8,.phase⟩,⟨9,.phase⟩,⟨10,.phase⟩,⟨11,.phase⟩,⟨12,.phase⟩,⟨13,.phase⟩,⟨14,.phase⟩,⟨15,.phase⟩,⟨16,.phase⟩,⟨17,.phase⟩],none⟩) rfl (fun K hK=>?_) AllReadyH.nil
        go_simp
        refine hK.out _ _ hSE (fun hHeld=>?_)
        clear hK K
        try simp only [Act.put,List.setIfInBounds_toArray,List.set_cons_zero,List.set_cons_succ]
        refine wpAnyH_done (by kernel_rfl) ?_ _
        go_wp2_with fail
        go_meet
        exact ⟨rfl,hrel⟩
      refine AllReadyH.cons (o:=⟨some 97,.call { callee:=Callee.value (.func 30),args:=#[.tmp 87,.tmp 88,.tmp 92,.tmp 96],argTypes:=#[33,48,3,9] },9, "maker.go:262",#[⟨5,.data⟩,⟨6,.data⟩,⟨10,.data⟩,⟨14,.data⟩],none⟩) rfl (fun K hK=>?_) AllReadyH.nil
      go_simp
      go_at_call 30
      refine hCd.mono ?_
      rintro e w2 ⟨rfl,hd2,hk2⟩
      obtain ⟨a7,c7,w7,hap,n2,n2',l2,lf,hS2,hSA,hS7,hSE,hrel⟩:=pack.out w2 hd2 hk2
      go_wp2_with fail
      refine hK.out _ _ hS2 (fun hHeld=>?_)
      clear hK K
      try simp only [Act.put,List.setIfInBounds_toArray,List.set_cons_zero,List.set_cons_succ]
      refine wpAnyH_ready (rs:=[4,16]) (by kernel_rfl) (by simp) ?_
      refine AllReadyH.cons (o:=⟨some 86,.load 24 (.tmp 85),24, "maker.go:262",#[⟨3,.data⟩],none⟩) rfl (fun K hK=>?_) ?_
      · go_simp
        refine hK.out _ _ hS2 (fun hHeld=>?_)
        clear hK K
        try simp only [Act.put,List.setIfInBounds_toArray,List.set_cons_zero,List.set_cons_succ]
        refine wpAnyH_ready (rs:=[16]) (by kernel_rfl) (by simp) ?_
        refine AllReadyH.cons (o:=⟨some 98,.buildSlice 24 1 #[(0,.tmp 97)],24, "maker.go:262",#[⟨15,.data⟩],none⟩) rfl (fun K hK=>?_) AllReadyH.nil
        go_simp
        refine hK.out _ _ hSA (fun hHeld=>?_)
        clear hK K
        try simp only [Act.put,List.setIfInBounds_toArray,List.set_cons_zero,List.set_cons_succ]
        refine wpAnyH_ready (rs:=[17]) (by kernel_rfl) (by simp) ?_
        refine AllReadyH.cons (o:=⟨some 99,.call { callee:=Callee.builtin Builtin.append,args:=#[.tmp 86,.tmp 98],argTypes:=#[24,24] },24, "maker.go:262",#[⟨4,.data⟩,⟨16,.data⟩,⟨15,.chain⟩],none⟩) rfl (fun K hK=>?_) AllReadyH.nil
        refine zti rfl _ _ 24 rfl _ _ _ _ rfl rfl hap ?_
        refine hK.out _ _ hS7 (fun hHeld=>?_)
        clear hK K
        try simp only [Act.put,List.setIfInBounds_toArray,List.set_cons_zero,List.set_cons_succ]
        refine wpAnyH_take (i:=18) (oi:=⟨some 100,.nilCheck (.tmp 82),0, "maker.go:262",#[⟨0,.data⟩,⟨0,.phase⟩,⟨1,.phase⟩,⟨2,.phase⟩,⟨3,.phase⟩,⟨4,.phase⟩,⟨5,.phase⟩,⟨6,.phase⟩,⟨7,.phase⟩,⟨8,.phase⟩,⟨9,.phase⟩,⟨10,.phase⟩,⟨11,.phase⟩,⟨12,.phase⟩,⟨13,.phase⟩,⟨14,.phase⟩,⟨15,.phase⟩,⟨16,.phase⟩,⟨17,.phase⟩],none⟩) (v:=?_) rfl (by kernel_rfl) (by kernel_rfl) (by kernel_rfl) (fun _ _ _ h=>h) (Or.inl ⟨by rfl,?_⟩) (by assumption) ?_
        rotate_left
        · intro w0 hSw
          first | (go_simp;done) | (go_simp;with_reducible rfl)
        try simp only [Act.put,List.setIfInBounds_toArray,List.set_cons_zero,List.set_cons_succ]
        refine wpAnyH_take (i:=19) (oi:=⟨some 101,.fieldAddr 26 (.tmp 100) 2,0, "maker.go:262",#[⟨18,.data⟩,⟨0,.phase⟩,⟨1,.phase⟩,⟨2,.phase⟩,⟨3,.phase⟩,⟨4,.phase⟩,⟨5,.phase⟩,⟨6,.phase⟩,⟨7,.phase⟩,⟨8,.phase⟩,⟨9,.phase⟩,⟨10,.phase⟩,⟨11,.phase⟩,⟨12,.phase⟩,⟨13,.phase⟩,⟨14,.phase⟩,⟨15,.phase⟩,⟨16,.phase⟩,⟨17,.phase⟩],none⟩) (v:=?_) rfl (by kernel_rfl) (by kernel_rfl) (by kernel_rfl) (fun _ _ _ h=>h) (Or.inl ⟨by rfl,?_⟩) (by assumption) ?_
        rotate_left
        · intro w0 hSw
          first | (go_simp;done) | (go_simp;with_reducible rfl)
        try simp only [Act.put,List.setIfInBounds_toArray,List.set_cons_zero,List.set_cons_succ]
        refine wpAnyH_ready (rs:=[20]) (by kernel_rfl) (by simp) ?_
        refine AllReadyH.cons (o:=⟨none,.store 24 (.tmp 101) (.tmp 99),0, "maker.go:262",#[⟨19,.data⟩,⟨17,.data⟩,⟨17,.chain⟩,⟨0,.phase⟩,⟨1,.phase⟩,⟨2,.phase⟩,⟨3,.phase⟩,⟨4,.phase⟩,⟨5,.phase⟩,⟨6,.phase⟩,⟨7,.phase⟩,⟨8,.phase⟩,⟨9,.phase⟩,⟨10,.phase⟩,⟨11,.phase⟩,⟨12,.phase⟩,⟨13,.phase⟩,⟨14,.phase⟩,⟨15,.phase⟩,⟨16,.phase⟩,⟨17,.phase⟩],none⟩) rfl (fun K hK=>?_) AllReadyH.nil
        go_simp
        refine hK.out _ _ hSE (fun hHeld=>?_)
        clear hK K
        try simp only [Act.put,List.setIfInBounds_toArray,List.set_cons_zero,List.set_cons_succ]
        refine wpAnyH_done (by kernel_rfl) ?_ _
        go_wp2_with fail
        go_meet
        exact ⟨rfl,hrel⟩
      refine AllReadyH.cons (o:=⟨some 98,.buildSlice 24 1 #[(0,.tmp 97)],24, "maker.go:262",#[⟨15,.data⟩],none⟩) rfl (fun K hK=>?_) AllReadyH.nil
      go_simp
      refine hK.out _ _ hSA (fun hHeld=>?_)
      clear hK K
      try simp only [Act.put,List.setIfInBounds_toArray,List.set_cons_zero,List.set_cons_succ]
      refine wpAnyH_ready (rs:=[4]) (by kernel_rfl) (by simp) ?_
      refine AllReadyH.cons (o:=⟨some 86,.load 24 (.tmp 85),24, "maker.go:262",#[⟨3,.data⟩],none⟩) rfl (fun K hK=>?_) AllReadyH.nil
      go_simp
      refine hK.out _ _ hSA (fun hHeld=>?_)
      clear hK K
      try simp only [Act.put,List.setIfInBounds_toArray,List.set_cons_zero,List.set_cons_succ]
      refine wpAnyH_ready (rs:=[17]) (by kernel_rfl) (by simp) ?_
      refine AllReadyH.cons (o:=⟨some 99,.call { callee:=Callee.builtin Builtin.append,args:=#[.tmp 86,.tmp 98],argTypes:=#[24,24] },24, "maker.go:262",#[⟨4,.data⟩,⟨16,.data⟩,⟨15,.chain⟩],none⟩) rfl (fun K hK=>?_) AllReadyH.nil
      refine zti rfl _ _ 24 rfl _ _ _ _ rfl rfl hap ?_
      refine hK.out _ _ hS7 (fun hHeld=>?_)
      clear hK K
      try simp only [Act.put,List.setIfInBounds_toArray,List.set_cons_zero,List.set_cons_succ]
      refine wpAnyH_take (i:=18) (oi:=⟨some 100,.nilCheck (.tmp 82),0, "maker.go:262",#[⟨0,.data⟩,⟨0,.phase⟩,⟨1,.phase⟩,⟨2,.phase⟩,⟨3,.phase⟩,⟨4,.phase⟩,⟨5,.phase⟩,⟨6,.phase⟩,⟨7,.phase⟩,⟨8,.phase⟩,⟨9,.phase⟩,⟨10,.phase⟩,⟨11,.phase⟩,⟨12,.phase⟩,⟨13,.phase⟩,⟨14,.phase⟩,⟨15,.phase⟩,⟨16,.phase⟩,⟨17,.phase⟩],none⟩) (v:=?_) rfl (by kernel_rfl) (by kernel_rfl) (by kernel_rfl) (fun _ _ _ h=>h) (Or.inl ⟨by rfl,?_⟩) (by assumption) ?_
      rotate_left
      · intro w0 hSw
        first | (go_simp;done) | (go_simp;with_reducible rfl)
      try simp only [Act.put,List.setIfInBounds_toArray,List.set_cons_zero,List.set_cons_succ]
      refine wpAnyH_take (i:=19) (oi:=⟨some 101,.fieldAddr 26 (.tmp 100) 2,0, "maker.go:262",#[⟨18,.data⟩,⟨0,.phase⟩,⟨1,.phase⟩,⟨2,.phase⟩,⟨3,.phase⟩,⟨4,.phase⟩,⟨5,.phase⟩,⟨6,.phase⟩,⟨7,.phase⟩,⟨8,.phase⟩,⟨9,.phase⟩,⟨10,.phase⟩,⟨11,.phase⟩,⟨12,.phase⟩,⟨13,.phase⟩,⟨14,.phase⟩,⟨15,.phase⟩,⟨16,.phase⟩,⟨17,.phase⟩],none⟩) (v:=?_) rfl (by kernel_rfl) (by kernel_rfl) (by kernel_rfl) (fun _ _ _ h=>h) (Or.inl ⟨by rfl,?_⟩) (by assumption) ?_
      rotate_left
      · intro w0 hSw
        first | (go_simp;done) | (go_simp;with_reducible rfl)
      try simp only [Act.put,List.setIfInBounds_toArray,List.set_cons_zero,List.set_cons_succ]
      refine wpAnyH_ready (rs:=[20]) (by kernel_rfl) (by simp) ?_
      refine AllReadyH.cons (o:=⟨none,.store 24 (.tmp 101) (.tmp 99),0, "maker.go:262",#[⟨19,.data⟩,⟨17,.data⟩,⟨17,.chain⟩,⟨0,.phase⟩,⟨1,.phase⟩,⟨2,.phase⟩,⟨3,.phase⟩,⟨4,.phase⟩,⟨5,.phase⟩,⟨6,.phase⟩,⟨7,.phase⟩,⟨8,.phase⟩,⟨9,.phase⟩,⟨10,.phase⟩,⟨11,.phase⟩,⟨12,.phase⟩,⟨13,.phase⟩,⟨14,.phase⟩,⟨15,.phase⟩,⟨16,.phase⟩,⟨17,.phase⟩],none⟩) rfl (fun K hK=>?_) AllReadyH.nil
      go_simp
      refine hK.out _ _ hSE (fun hHeld=>?_)
      clear hK K
      try simp only [Act.put,List.setIfInBounds_toArray,List.set_cons_zero,List.set_cons_succ]
      refine wpAnyH_done (by kernel_rfl) ?_ _
      go_wp2_with fail
      go_meet
      exact ⟨rfl,hrel⟩
     case rest=>
      obtain ⟨rfl,hO10,hc10,hd10,⟨lo',lc',ht10,hNl⟩,hK10⟩:=hcut
      clear m0 m1 m2 m3 mk hO9 hc9 hd9 hK9 ht9 x0 x1 x2 x3 x4 x5 x6 x7 x8 x9 hCl hdD htL hcL hk9d
      have hz10:=hK10.size
      have hltB:=zCqB hO10
      have hltR:=zCqB ht10.blk
      have hltC:=zCqB hc10.blk
      obtain ⟨a8,c8,w8,hap,own8,hk8,hN8⟩:=ap_op wc base oo ops.length oc (opsRow ops) ⟨oid,cl,name,ks,av,ev,lcall,0,0,0⟩ ht10.ops hol (by omega)
      have hap':(Builtin.append_ #[23,23] 23 #[.slice oo ops.length oc,.slice (some ⟨wc.heap.size,0,none⟩) 1 1]).run Tryz.prog ((wc.alloc (.cells #[.int .i64 oid,.int .i64 cl,.string ⟨name.toArray⟩,.string ⟨ks.toArray⟩,.int .i64 av,.int .i64 ev,.int .i64 lcall,.int .i64 0,.int .i64 0,.int .i64 0] 48)).drew)=.ok (.slice a8 (ops.length+1) c8) w8:=hap
      obtain ⟨x0,x1,x2,x3,x4,x5,x6,x7,x8,x9⟩:=zTU hO10
      have m1:wc.cell? ⟨tb,1,none⟩=some (.slice oo ops.length oc):=by rw [zBk ht10.blk];rfl
      have hneB:w.heap.size≠wc.heap.size:=by omega
      have hneR:tb≠wc.heap.size:=by omega
      have hnT8:tb∉(Value.slice oo ops.length oc).ownBlock.toList:=fun hm=>by have:=hoo _ hm;omega
      have hnC8:cb∉(Value.slice oo ops.length oc).ownBlock.toList:=fun hm=>by have:=hoo _ hm;omega
      have hT8:=(hk8.block tb hltR hnT8).trans ht10.blk
      have hc8:=hc10.kept hk8 hnC8
      have s1:w8.cell? ⟨tb,1,none⟩=some (.slice oo ops.length oc):=by rw [zBk hT8];rfl
      have s2:w8.frozen? ⟨tb,1,none⟩=false:=zBn hT8 1
      clear hap
      go_wp2_with fail
      go_cut [8] (fun a wx=>Client wx cb o c00 cc9 1 (ops.length:Int) (kk:Int)∧Dice wx b sv code d5∧(∃ oo' oc',Tale wx tb base i (ops++[⟨oid,cl,name,ks,av,ev,lcall,0,0,0⟩]) (lines++[R]) keys (.slice oo' (ops.length+1) oc') (.slice lo' (lines.length+1) lc') (.slice ko keys.length kc)∧NewOr w.heap.size (.slice oo ops.length oc) (.slice oo' (ops.length+1) oc'))∧Kept ([b,cb,tb]++((Value.slice lo lines.length lc).ownBlock.toList++((Value.slice oo ops.length oc).ownBlock.toList++(Value.slice ko keys.length kc).ownBlock.toList))) w wx)
      case first=>
       go_region_law (refine zti rfl _ _ 23 rfl _ _ _ _ rfl rfl hap' ?_)
       all_goals
        go_wp2_with fail
        go_meet
        have hkE:Kept [tb] w8 (w8.setCell ⟨tb,1,none⟩ (.slice a8 (ops.length+1) c8)):=(Kept.refl _ _).setCell (p:=⟨tb,1,none⟩) (Or.inl (by simp)) _
        refine ⟨hc8.kept hkE (by simp;omega),(hd10.kept hk8 (fun x hx=>by have:=hoo x hx;omega)).kept hkE (by simp;omega),⟨a8,c8,⟨by rw [zFg hT8];rfl,?_,?_,?_⟩,hN8.mono (by omega)⟩,?_⟩
        · have own8':w8.ownsRow base 48 10 (.slice a8 (ops.length+1) c8) (ops++[(⟨oid,cl,name,ks,av,ev,lcall,0,0,0⟩:OpV)]).length (opsRow (ops++[(⟨oid,cl,name,ks,av,ev,lcall,0,0,0⟩:OpV)])):=by rw [z2L,List.length_append];exact own8
          exact zzF own8' hkE (by simp;omega)
        · exact zzF (z1O ht10.lines hk8 (zhv ht10.lines ht10.ops (by decide))) hkE (by simp;omega)
        · exact zzF (z1O ht10.keys hk8 (zhv ht10.keys ht10.ops (by decide))) hkE (by simp;omega)
        · exact zh0 (zh0 hK10 hk8 (fun x hx=>Or.inl (List.mem_append.2 (Or.inr (List.mem_append.2 (Or.inr (List.mem_append.2 (Or.inl hx)))))))) hkE (fun x hx=>Or.inl (by simp at hx;subst hx;simp))
      case rest=>
       obtain ⟨hc11,hd11,⟨oo',oc',ht11,hNo⟩,hK11⟩:=hcut
       clear m1 hap' own8 hk8 hT8 hc8 s1 s2 x0 x1 x2 x3 x4 x5 x6 x7 x8 x9 hneB hneR hltB hltR hltC hO10 hc10 hd10 ht10 hK10
       have hz11:=hK11.size
       have hltR:=zCqB ht11.blk
       have hltC:=zCqB hc11.blk
       obtain ⟨a9,c9,w9,hap,own9,hk9,hN9⟩:=zu5 wc base ko keys.length kc (zXD keys) (kk:Int) ht11.keys hkl (by omega)
       have m3:wc.cell? ⟨tb,3,none⟩=some (.slice ko keys.length kc):=by rw [zBk ht11.blk];rfl
       have mk:wc.cell? ⟨cb,o+2,none⟩=some (.int .i64 (kk:Int)):=by rw [zBk hc11.blk];exact hc11.c2
       have hneR:tb≠wc.heap.size:=by omega
       have hneC:cb≠wc.heap.size:=by omega
       have hnT9:tb∉(Value.slice ko keys.length kc).ownBlock.toList:=fun hm=>by have:=hko _ hm;omega
       have hnC9:cb∉(Value.slice ko keys.length kc).ownBlock.toList:=fun hm=>by have:=hko _ hm;omega
       have hT9:=(hk9.block tb hltR hnT9).trans ht11.blk
       have hc9:=hc11.kept hk9 hnC9
       have s1:w9.cell? ⟨tb,3,none⟩=some (.slice ko keys.length kc):=by rw [zBk hT9];rfl
       have s2:w9.frozen? ⟨tb,3,none⟩=false:=zBn hT9 3
       go_wp2_with fail
       go_region_law (refine zti rfl _ _ 22 rfl _ _ _ _ rfl rfl hap ?_)
       all_goals
        go_wp2
        go_end0
        have hfin:SP=((⟨oid,cl,name,ks,av,ev,lcall,0,0,0⟩:OpV),R,kk,d5):=by
         rw [←hSP.out]
         unfold zqT
         dsimp only
         rw [HC6.out,HD1.out,hk6,hnm,←hkk.out]
         dsimp only
         rw [←hav.out]
         dsimp only
         rw [←hev.out]
         dsimp only
         rw [hoid,hlcl,←hR.out,←hd5e.out]
        rw [hfin]
        have hkE:Kept [tb] w9 (w9.setCell ⟨tb,3,none⟩ (.slice a9 (keys.length+1) c9)):=(Kept.refl _ _).setCell (p:=⟨tb,3,none⟩) (Or.inl (by simp)) _
        refine ⟨rfl,(hd11.kept hk9 (fun x hx=>by have:=hko x hx;omega)).kept hkE (by simp;omega),⟨_,_,_,⟨by rw [zFg hT9];rfl,?_,?_,?_⟩,hNo,hNl,hN9.mono (by omega)⟩,⟨_,hc9.kept hkE (by simp;omega)⟩,?_⟩
        · exact zzF (z1O ht11.ops hk9 (zhv ht11.ops ht11.keys (by decide))) hkE (by simp;omega)
        · exact zzF (z1O ht11.lines hk9 (zhv ht11.lines ht11.keys (by decide))) hkE (by simp;omega)
        · have own9':w9.ownsRow base 3 1 (.slice a9 (keys.length+1) c9) (keys++[kk]).length (zXD (keys++[kk])):=by rw [show zXD (keys++[kk])=zXD keys++[.int .i64 (kk:Int)] by simp [zXD],List.length_append];exact own9
          exact zzF own9' hkE (by simp;omega)
        · exact zh0 (zh0 hK11 hk9 (fun x hx=>Or.inl (by simp only [List.mem_append,List.mem_cons];exact Or.inr (Or.inr (Or.inr (Or.inr (Or.inr hx))))))) hkE (fun x hx=>Or.inl (by simp at hx;subst hx;simp))
end Go.Proofs.YtlkidmafomjhgaaGreatDoor.keep
