/- Several texts in one. -/
import Derived.Test.YtbbkihekjdffpaaGreatDoorSrchMJ
import Derived.Lib.AppendStr
import Derived.Lib.ConvBytes
import Derived.Sort.KeysCollected
set_option maxHeartbeats 4000000
set_option maxRecDepth 100000
namespace Go.Proofs.YtbbkihekjdffpaaGreatDoor.srch
open Tryz
open Go.RowKit
theorem z7k:(prog.info? 5).map (fun i=>(i.zero,i.size,i.bytes))=some (some (.int .u8 0),1,1):=by kernel_rfl
theorem z3M (W:World)(base:Nat)(a:Option Addr)(n c:Nat)(xs:List Value)(x:Int)(h:W.ownsRow base 5 1 (.slice a n c) n xs)(hn:n≤100000000)(hb:base≤W.heap.size):ApR 5 130 1 W base a n c xs [.int .u8 x]:=zUq z7k underlying130 rfl (by decide) (by decide) rfl rfl h (by omega) hb
theorem zX5 (b:Nat)(p:Option Addr)(v:Value)(w:World)(hb:w.heap[b]?=some (.cells #[.pointer p,v] 196 (0,0)))(hp:p=none∨p=some ⟨b,0,none⟩):
 Calls prog 132 #[.pointer (some ⟨b,0,none⟩)] w fun e w'=>e=.returned (.tuple #[])∧w'.heap[b]?=some (.cells #[.pointer (some ⟨b,0,none⟩),v] 196 (0,0))∧Kept [b] w w':=by
 have hlt:b<w.heap.size:=(Array.getElem?_eq_some_iff.1 hb).1;rcases hp with rfl|rfl
 ·refine(Any.Builder_copyCheck_fresh (P:=prog) (ρ:=Tryz.lays167_ren) { Tryz.lays167 with } (Tryz.Builder_Extra_167).toX72 b w (by simp[World.cell?,hb]) (by simp[World.shape?,hb];rfl) (by simp[World.frozen?,hb])).mono ?_;rintro e w' ⟨rfl,rfl⟩;exact⟨rfl,by rw[zFg hb 0 _];rfl,(Kept.refl _ _).setCell (by simp) _⟩
 ·refine(Any.Builder_copyCheck_used (P:=prog) (ρ:=Tryz.lays167_ren) { Tryz.lays167 with } (Tryz.Builder_Extra_167).toX72 b w (by simp[World.cell?,hb])).mono ?_;rintro e w' ⟨rfl,rfl⟩;exact⟨rfl,hb,Kept.refl _ _⟩
theorem z8V (b:Nat)(p:Option Addr)(a:Option Addr)(n c:Nat)(xs:List Value)(x:Int)(w:World)(hb:w.heap[b]?=some (.cells #[.pointer p,.slice a n c] 196 (0,0)))(hp:p=none∨p=some ⟨b,0,none⟩)(ho:w.ownsRow (b+1) 5 1 (.slice a n c) n xs)(hn:n≤100000000):
 Calls prog 95 #[.pointer (some ⟨b,0,none⟩),.int .u8 x] w fun e w'=>e=.returned .nilIface∧∃a' c',w'.heap[b]?=some (.cells #[.pointer (some ⟨b,0,none⟩),.slice a' (n+1) c'] 196 (0,0))∧
  w'.ownsRow (b+1) 5 1 (.slice a' (n+1) c') (n+1) (xs++[.int .u8 x])∧Kept (b::(Value.slice a n c).ownBlock.toList) w w'∧((Value.slice a' (n+1) c').ownBlock=(Value.slice a n c).ownBlock∨∃g,(Value.slice a' (n+1) c').ownBlock=some g∧w.heap.size≤g):=by
 have hlt:b<w.heap.size:=(Array.getElem?_eq_some_iff.1 hb).1;have hck:=zX5 b p (.slice a n c) w hb hp;have HO:=Hid.mk' ho;clear ho hb hp;go_enter func95,ntmps95;go_wp2_with (go_at_call 132;refine hck.mono ?_);rintro e w1 ⟨rfl,hb1,hk1⟩;have hnb:∀g,(Value.slice a n c).ownBlock=some g→b<g∧g<w.heap.size:=fun g hg=>HO.out.lt g hg;have ho1:w1.ownsRow (b+1) 5 1 (.slice a n c) n xs:=zcc HO.out (fun g hg=>hk1.block g (hnb g hg).2 (by have:=(hnb g hg).1;simp;omega));obtain⟨a',c',w7,hap,hown7,hk7,hloc⟩:=z3M w1 (b+1) a n c xs x ho1 hn (by have:=hk1.size;omega);have c1:w1.cell? ⟨b,1,none⟩=some (.slice a n c):=by simp[World.cell?,hb1]
 have hs1:=hk1.size;have hb7:w7.heap[b]?=some (.cells #[.pointer (some ⟨b,0,none⟩),.slice a n c] 196 (0,0)):=(hk7.block b (by omega) (fun hm=>by have:=(hnb b (by simpa using hm)).1;omega)).trans hb1;have hks:Kept (b::(Value.slice a n c).ownBlock.toList) w w7:=(hk1.mono (fun y _ hy=>by rw[List.mem_singleton]at hy;simp[hy])).trans (hk7.mono (fun y _ hy=>by simp[hy]));have HZ:=Hid.mk' (And.intro hown7 (And.intro hks (And.intro hloc hk1)));have HB1:=Hid.mk' hb1;have m1:w7.cell? ⟨b,1,none⟩=some (.slice a n c):=by simp[World.cell?,hb7]
 have f1:w7.frozen? ⟨b,1,none⟩=false:=by simp[World.frozen?,hb7]
 have HB7:=Hid.mk' hb7;clear hb7;clear hown7 hk7 hloc hk1 ho1 hks;go_wp2_with (at_builtin;refine zOu rfl _ _ 130 rfl _ _ _ _ rfl rfl hap ?_);go_ret;have hne7:∀g,(Value.slice a' (n+1) c').ownBlock=some g→g≠b:=fun g hg=>by have:=(HZ.out.1.lt g hg).1;omega
 refine⟨rfl,a',c',by rw[zFg HB7.out 1 _];rfl,zcc HZ.out.1 (fun g hg=>zRA (a:=⟨b,1,none⟩) (hne7 g hg) _),HZ.out.2.1.setCell (by simp) _,HZ.out.2.2.1.imp id (fun⟨g,e,h⟩=>⟨g,e,by have:=HZ.out.2.2.2.size;omega⟩)⟩
theorem zQO {P:Program} {w:World} {ops:Array Oper} {rest:List Oper} {o:Oper} {a:Act} {Q:Exit→Act→World→Prop} (hgd:o.guard=none) (s x:Operand) (t u:TypeId)
 (ho:o.op=.call { callee:=.builtin .append,args:=#[s,x],argTypes:=#[t,u] }) (v xv v':Value) (w':World) (hs:a.eval s=v) (hx:a.eval x=xv) (hrun:(Builtin.append_ #[t,u] o.type #[v,xv]).run P w=.ok v' w')
 (h:wpList P ops Q rest (a.put o.dst v') w'):wpList P ops Q (o::rest) a w:=by
 refine wpList_plain hgd fun K hK=>?_;unfold Oper.wp execOp;simp only [ho,resolve,invoke,builtin,Sem.run_bind,Sem.run_pure,Result.andThen_ok,List.map_toArray,List.map_cons,List.map_nil,hs,hx,hrun];exact hK _ _ h
theorem zHv (W:World)(base:Nat)(a:Option Addr)(n c:Nat)(xs:List Value)(s:ByteArray)(h:W.ownsRow base 5 1 (.slice a n c) n xs)(h0:0<n)(hn:n+s.size≤100000000)(hb:base≤W.heap.size):
 ∃a' c' w',(Builtin.append_ #[130,9] 130 #[.slice a n c,.string s]).run prog W=.ok (.slice a' (n+s.size) c') w'∧
  w'.ownsRow base 5 1 (.slice a' (n+s.size) c') (n+s.size) (xs++Lib.strCells s)∧Kept (Value.slice a n c).ownBlock.toList W w'∧((Value.slice a' (n+s.size) c').ownBlock=(Value.slice a n c).ownBlock∨∃g,(Value.slice a' (n+s.size) c').ownBlock=some g∧W.heap.size≤g):=by
 obtain⟨i0,hi,hz0,hz1,hz2⟩:=info_parts z7k;obtain⟨v7,w7,h1,h2,h3,_⟩:=Lib.run_append_own_string (P:=prog) W base 130 9 130 5 i0 underlying130 underlying9 hi hz0 hz1 hz2 (.slice a n c) n xs h s (by unfold maxLen;omega) (by omega) hb;have hk:Kept (Value.slice a n c).ownBlock.toList W w7:=(Kept.refl _ W).grownS h3 (fun g' hg'=>by rw[hg'];simp);have hxl:xs.length=n:=by simpa using h.1
 rcases h.2 with ⟨e,rfl⟩|⟨g,cap,cur,e,hbg,hg,hnc,hcm,hcs,htake⟩
 ·omega
 ·injection e with e1 _ e3;subst e1 e3;have hcs':cur.size=c:=by simpa using hcs
  by_cases hroom:n+s.size≤c
  ·have hr:=Lib.run_append_room_string (P:=prog) W 130 9 130 5 i0 underlying130 underlying9 hi hz1 g n c cur hg s hroom (by omega);have hv:v7=.slice (some ⟨g,0,none⟩) (n+s.size) c:=(by have e:=hr.symm.trans h1;injection e with e _;exact e.symm);subst hv;exact⟨_,_,w7,h1,h2,hk,.inl rfl⟩
  ·have holds:∀j u,xs[j]?=some u→W.cell? ((⟨g,0,none⟩:Addr).add j)=some u:=h.cells (g:=g) rfl;have hr:=Lib.run_append_grow_string (P:=prog) W 130 9 130 5 i0 (.int .u8 0) underlying130 underlying9 hi hz0 ⟨g,0,none⟩ n c xs (by rw[hz1];simpa using hxl) holds s (by omega) (by omega) (by rw[hz2];exact growslice_fits (by omega) (by omega));have hv:v7=.slice (some ⟨W.heap.size,0,none⟩) (n+s.size) (grownCap W (n+s.size) c 5):=(by have e:=hr.symm.trans h1;injection e with e _;exact e.symm);subst hv;exact⟨_,_,w7,h1,h2,hk,.inr ⟨_,rfl,Nat.le_refl _⟩⟩
theorem z3y (b:Nat)(p:Option Addr)(a:Option Addr)(n c:Nat)(xs:List Value)(s:ByteArray)(w:World)(hb:w.heap[b]?=some (.cells #[.pointer p,.slice a n c] 196 (0,0)))(hp:p=none∨p=some ⟨b,0,none⟩)(ho:w.ownsRow (b+1) 5 1 (.slice a n c) n xs)(h0:0<n)(hn:n+s.size≤100000000):
 Calls prog 96 #[.pointer (some ⟨b,0,none⟩),.string s] w fun e w'=>e=.returned (.tuple #[.int .i64 s.size,.nilIface])∧∃a' c',w'.heap[b]?=some (.cells #[.pointer (some ⟨b,0,none⟩),.slice a' (n+s.size) c'] 196 (0,0))∧
  w'.ownsRow (b+1) 5 1 (.slice a' (n+s.size) c') (n+s.size) (xs++Lib.strCells s)∧Kept (b::(Value.slice a n c).ownBlock.toList) w w'∧((Value.slice a' (n+s.size) c').ownBlock=(Value.slice a n c).ownBlock∨∃g,(Value.slice a' (n+s.size) c').ownBlock=some g∧w.heap.size≤g):=by
 have hlt:b<w.heap.size:=(Array.getElem?_eq_some_iff.1 hb).1;have hck:=zX5 b p (.slice a n c) w hb hp;have HO:=Hid.mk' ho;clear ho hb hp;go_enter func96,ntmps96;go_wp2_with (go_at_call 132;refine hck.mono ?_);rintro e w1 ⟨rfl,hb1,hk1⟩;have hnb:∀g,(Value.slice a n c).ownBlock=some g→b<g∧g<w.heap.size:=fun g hg=>HO.out.lt g hg;have ho1:w1.ownsRow (b+1) 5 1 (.slice a n c) n xs:=zcc HO.out (fun g hg=>hk1.block g (hnb g hg).2 (by have:=(hnb g hg).1;simp;omega));obtain⟨a',c',w7,hap,hown7,hk7,hloc⟩:=zHv w1 (b+1) a n c xs s ho1 h0 hn (by have:=hk1.size;omega);have c1:w1.cell? ⟨b,1,none⟩=some (.slice a n c):=by simp[World.cell?,hb1]
 have hs1:=hk1.size;have hb7:w7.heap[b]?=some (.cells #[.pointer (some ⟨b,0,none⟩),.slice a n c] 196 (0,0)):=(hk7.block b (by omega) (fun hm=>by have:=(hnb b (by simpa using hm)).1;omega)).trans hb1;have hks:Kept (b::(Value.slice a n c).ownBlock.toList) w w7:=(hk1.mono (fun y _ hy=>by rw[List.mem_singleton]at hy;simp[hy])).trans (hk7.mono (fun y _ hy=>by simp[hy]));have HZ:=Hid.mk' (And.intro hown7 (And.intro hks (And.intro hloc hk1)));have m1:w7.cell? ⟨b,1,none⟩=some (.slice a n c):=by simp[World.cell?,hb7]
 have f1:w7.frozen? ⟨b,1,none⟩=false:=by simp[World.frozen?,hb7]
 have HB7:=Hid.mk' hb7;clear hb7 hb1;clear hown7 hk7 hloc hk1 ho1 hks;go_wp2_with (at_builtin;refine zQO rfl _ _ 130 9 rfl _ _ _ _ rfl rfl hap ?_);go_ret2;have hne7:∀g,(Value.slice a' (n+s.size) c').ownBlock=some g→g≠b:=fun g hg=>by have:=(HZ.out.1.lt g hg).1;omega
 refine⟨rfl,a',c',by rw[zFg HB7.out 1 _];rfl,zcc HZ.out.1 (fun g hg=>zRA (a:=⟨b,1,none⟩) (hne7 g hg) _),HZ.out.2.1.setCell (by simp) _,HZ.out.2.2.1.imp id (fun⟨g,e,h⟩=>⟨g,e,by have:=HZ.out.2.2.2.size;omega⟩)⟩
def BdAt (b G:Nat)(blk:Option Obj)(w W:World)(out:List UInt8):Prop:=∃a c,W.heap[b]?=some (.cells #[.pointer (some ⟨b,0,none⟩),.slice a out.length c] 196 (0,0))∧W.ownsRow (b+1) 5 1 (.slice a out.length c) out.length (Lib.byteCells out)∧(Value.slice a out.length c).ownBlock≠some G∧W.heap[G]?=blk∧b<G∧G<W.heap.size∧Below b w W
theorem zop {b G:Nat} {blk:Option Obj} {w W w':World} {out:List UInt8} {a a':Option Addr} {c c':Nat} (more:List UInt8) (ho:W.ownsRow (b+1) 5 1 (.slice a out.length c) out.length (Lib.byteCells out)) (hG:(Value.slice a out.length c).ownBlock≠some G) (hblk:W.heap[G]?=blk) (hbG:b<G) (hGs:G<W.heap.size) (hb:Below b w W) (hbw:b≤w.heap.size)
 (h1:w'.heap[b]?=some (.cells #[.pointer (some ⟨b,0,none⟩),.slice a' (out++more).length c'] 196 (0,0))) (h2:w'.ownsRow (b+1) 5 1 (.slice a' (out++more).length c') (out++more).length (Lib.byteCells (out++more))) (hk:Kept (b::(Value.slice a out.length c).ownBlock.toList) W w')
 (hl:(Value.slice a' (out++more).length c').ownBlock=(Value.slice a out.length c).ownBlock∨∃g,(Value.slice a' (out++more).length c').ownBlock=some g∧W.heap.size≤g):BdAt b G blk w w' (out++more):=by
 refine⟨a',c',h1,h2,?_,?_,hbG,zH hGs hk.size,?_⟩
 ·rcases hl with e|⟨g,e,hg⟩
  ·rw[e];exact hG
  ·rw[e];intro e';injection e' with e';omega
 ·rw[←hblk];refine hk.block G hGs (fun hm=>?_);rcases List.mem_cons.1 hm with e|e
  ·omega
  ·exact hG (by simpa using e)
 ·refine hb.trans (hk.below (by have:=hb.size;have:=hbw;omega) (fun g' hg'=>?_));rcases List.mem_cons.1 hg' with e|e
  ·omega
  ·have:=(ho.lt g' (by simpa using e)).1;omega
theorem zXD {b G:Nat}{blk:Option Obj}{w W:World}{out:List UInt8}(h:BdAt b G blk w W out)(hbw:b≤w.heap.size)(x:UInt8)(hn:out.length≤100000000):
 Calls Tryz.prog 95 #[.pointer (some ⟨b,0,none⟩),.int .u8 (x.toNat:Int)] W fun e w'=>e=.returned .nilIface∧BdAt b G blk w w' (out++[x]):=by
 obtain⟨a,c,h1,h2,h3,h4,h5,h6,h7⟩:=h;refine(z8V b _ a out.length c _ (x.toNat:Int) W h1 (.inr rfl) h2 hn).mono ?_;rintro e w' ⟨rfl,a',c',k1,k2,k3,k4⟩;refine⟨rfl,zop [x] h2 h3 h4 h5 h6 h7 hbw (a':=a') (c':=c') ?_ ?_ k3 ?_⟩
 ·rw[zI];exact k1
 ·rw[zI];simpa [Lib.byteCells]using k2
 ·rw[zI];exact k4
theorem zwz {b G:Nat}{blk:Option Obj}{w W:World}{out:List UInt8}(h:BdAt b G blk w W out)(hbw:b≤w.heap.size)(s:List UInt8)(h0:0<out.length)(hn:out.length+s.length≤100000000):
 Calls Tryz.prog 96 #[.pointer (some ⟨b,0,none⟩),.string ⟨s.toArray⟩] W fun e w'=>e=.returned (.tuple #[.int .i64 s.length,.nilIface])∧BdAt b G blk w w' (out++s):=by
 obtain⟨a,c,h1,h2,h3,h4,h5,h6,h7⟩:=h;have hs:(⟨s.toArray⟩:ByteArray).size=s.length:=by simp[ByteArray.size]
 refine(z3y b _ a out.length c _ ⟨s.toArray⟩ W h1 (.inr rfl) h2 h0 (by rw[hs];exact hn)).mono ?_;rw[hs];rintro e w' ⟨rfl,a',c',k1,k2,k3,k4⟩;refine⟨rfl,zop s h2 h3 h4 h5 h6 h7 hbw (a':=a') (c':=c') ?_ ?_ k3 ?_⟩
 ·rw[zI];exact k1
 ·rw[zI];simpa [Lib.byteCells,Lib.strCells]using k2
 ·rw[zI];exact k4
def hexL:List UInt8:=[48,49,50,51,52,53,54,55,56,57,97,98,99,100,101,102]
def z9l (c:UInt8):List UInt8:=if c.toNat=34∨c.toNat=92 then [92,c]else if c.toNat<32 then [92,117,48,48,hexL.getD (c.toNat/16) 0,hexL.getD (c.toNat%16) 0]else [c]
def qKey (key:List UInt8):List UInt8:=34::key.flatMap z9l++[34]
def hexB:ByteArray:=⟨#[48,49,50,51,52,53,54,55,56,57,97,98,99,100,101,102]⟩
theorem z0E (n:Nat)(h:n<16):hexB[n]'h=hexL.getD n 0:=by
 rcases n with _|_|_|_|_|_|_|_|_|_|_|_|_|_|_|_|n
 all_goals first|rfl|omega
theorem zN0 (c:UInt8):(z9l c).length≤6:=by
 unfold z9l;split
 ·simp
 ·split<;>simp
theorem zGl (l:List UInt8):(l.flatMap z9l).length≤6*l.length:=by
 induction l with
 |nil=>simp
 |cons c t ih=>have:=zN0 c;rw[List.flatMap_cons,zI,List.length_cons];omega
theorem zWo (key:List UInt8)(j:Nat)(h:j<key.length):34::(key.take (j+1)).flatMap z9l=(34::(key.take j).flatMap z9l)++z9l key[j]:=by
 rw[List.take_succ_eq_append_getElem h,List.flatMap_append];simp
theorem zax {b G:Nat}{blk:Option Obj}{w W:World}{out:List UInt8}(h:BdAt b G blk w W out)(hb:b=w.heap.size):Lib.IsBuilderF 196 5 b b (Lib.byteCells out) W:=by
 obtain⟨a,c,h1,h2,_⟩:=h;refine Lib.IsBuilderF.of (.inr ⟨Nat.le_refl _,_,h1,?_,?_⟩)
 ·have e:(Lib.byteCells out).length=out.length:=by simp[Lib.byteCells]
  rw[e];obtain⟨k1,k2|⟨g,cap,cur,k2,k3,k4⟩⟩:=h2
  ·exact⟨k1,.inl k2⟩
  ·exact⟨k1,.inr ⟨g,cap,cur,k2,by omega,k4⟩⟩
 ·intro e;have:=(h2.lt b e).1;omega
theorem zbns {b G:Nat}{blk:Option Obj}{w W:World}{out:List UInt8}(h:BdAt b G blk w W out)(hbw:b≤w.heap.size)(x:UInt8)(n:Nat)(hx:x.toNat=n)(hn:out.length≤100000000):
 Calls prog 95 #[.pointer (some ⟨b,0,none⟩),.int .u8 (n:Int)] W fun e w'=>e=.returned .nilIface∧BdAt b G blk w w' (out++[x]):=by
 rw[←hx];exact zXD h hbw x hn
theorem quoted_any (key:List UInt8)(w:World)(hl:key.length≤10000000):
 Calls prog 50 #[.string ⟨key.toArray⟩] w fun e w'=>e=.returned (.string ⟨(qKey key).toArray⟩)∧Below w.heap.size w w':=by
 obtain⟨RES,hRES⟩:∃RES,Hid (qKey key=RES):=⟨_,rfl⟩;rw[hRES.out];obtain⟨W0,hW0⟩:∃W0,W0=w.alloc (.cells #[.pointer none,.slice none 0 0] 196):=⟨_,rfl⟩;have hB0:W0.heap[w.heap.size]?=some (.cells #[.pointer none,.slice none 0 0] 196 (0,0)):=by rw[hW0];exact ziF _ _ _ rfl
 have hb0:Below w.heap.size w W0:=by rw[hW0];exact zA _ _
 have hs0:W0.heap.size=w.heap.size+1:=by rw[hW0];simp
 have h1:=z8V w.heap.size none none 0 0 [] 34 W0 hB0 (.inl rfl) (World.ownsRow_nil _ _ _ _) (by omega);have H0:=Hid.mk' (And.intro hB0 (And.intro hb0 hs0));clear hB0 hb0 hs0;go_enter func50,ntmps50;go_wp2_with fail;rw[←hW0];refine h1.mono ?_;rintro e w1 ⟨rfl,a1,c1,k1,k2,k3,k4⟩;clear h1 hW0;have hlt1:=zBq k1;have hs1:=k3.size;have hcv:=Lib.run_convert_string_bytes (P:=prog) w1 9 130 5 ⟨key.toArray⟩ underlying9 underlying130 underlying5;have hkb:(⟨key.toArray⟩:ByteArray).size=key.length:=by simp[ByteArray.size]
 rw[hkb]at hcv;obtain⟨W2,hW2⟩:∃W2,W2=Lib.bytesWorld w1 5 ⟨key.toArray⟩:=⟨_,rfl⟩;rw[←hW2]at hcv;generalize grownCap w1 key.length 0 5=gc at hcv;have hcell:∀j (h:j<key.length),W2.cell? ⟨w1.heap.size,j,none⟩=some (.int .u8 (key[j].toNat:Int)):=by
  intro j h;rw[hW2,Lib.bytesWorld_cell w1 _ _ j (by rw[hkb];exact h)];simp[List.getD,h]
 have hbd:BdAt w.heap.size w1.heap.size W2.heap[w1.heap.size]? w W2 [34]:=by
  have hold:∀i,i<w1.heap.size→W2.heap[i]?=w1.heap[i]?:=fun i hi=>by rw[hW2];exact Lib.bytesWorld_at_old _ _ _ i hi
  have hz2:W2.heap.size=w1.heap.size+1:=by rw[hW2];exact Lib.bytesWorld_size _ _ _
  refine⟨a1,c1,(hold _ hlt1).trans k1,zcc k2 (fun g hg=>hold g (k2.lt g hg).2),?_,rfl,hlt1,by omega,?_⟩
  ·intro e;have:=(k2.lt _ e).2;omega
  ·have hbW:Below w1.heap.size w1 W2:=(by rw[hW2];exact Go.Joins.below_bytesWorld _ _ _ _ zG);have hk:Below w.heap.size W0 w1:=k3.below (by have:=H0.out.2.2;omega) (fun g hg=>by
    rcases List.mem_cons.1 hg with e|e
    ·omega
    ·cases e)
   exact(H0.out.2.1.trans hk).trans (hbW.mono (by omega))
 have HBD:=Hid.mk' hbd;have HC:=Hid.mk' hcell;clear hbd hcell hW2 k1 k2 k3 k4 H0;go_wp2;have hbw:w.heap.size≤w.heap.size:=Nat.le_refl _;go_loopw [10] (fun i wr=>∃j:Nat,i=.int .i64 (j:Int)∧j≤key.length∧Hid (BdAt w.heap.size w1.heap.size W2.heap[w1.heap.size]? w wr (34::(key.take j).flatMap z9l))) (fun i _=>key.length-(intOf i).toNat)
 case atStart=>exact⟨0,rfl,by omega,HBD⟩
 case round=>
  obtain⟨j,rfl,hj,HJ⟩:=hrel;have hlen:(34::(key.take j).flatMap z9l).length≤60000001:=by
   have:=zGl (key.take j);rw[List.length_cons];rw[List.length_take]at this;omega
  have hpos:0<(34::(key.take j).flatMap z9l).length:=by simp
  by_cases hin:j<key.length
  ·have hin':(j:Int)<(key.length:Int):=(by omega);have hT:=Hid.mk' (zWo key j hin);have hc:wr.cell? ⟨w1.heap.size,j,none⟩=some (.int .u8 (key[j].toNat:Int)):=by
    rw[←HC.out j hin];obtain⟨_,_,_,_,_,h,_⟩:=HJ.out;exact World.cell?_of_block (w:=W2) (a:=⟨w1.heap.size,j,none⟩) h
   generalize key[j]=c at hc hT;generalize 34::(key.take j).flatMap z9l=out at HJ hlen hpos hT;have hcb:c.toNat<256:=c.toNat_lt;by_cases h34:c.toNat=34∨c.toNat=92
   ·have hX:Hid (34::(key.take (j+1)).flatMap z9l=(out++[92])++[c]):=by
     have h:=hT.out;unfold z9l at h;rw[if_pos h34]at h;show _=_;unfold z9l;rw[h,List.append_assoc];rfl
    have hE1:=zbns HJ.out hbw 92 92 rfl (by omega);by_cases h1:c.toNat=34
    ·have hq1:((c.toNat:Int)==34)=true:=(by rw[h1];rfl);clear h34 h1 hT;go_wp2_with (first
      | (go_at_call 95;refine hE1.mono ?_;rintro e w3 ⟨rfl,hb3⟩;have hE2:=zXD hb3 hbw c (by rw[zI];simp;omega);clear hE1 hb3)
      | (go_at_call 95;refine hE2.mono ?_;rintro e w4 ⟨rfl,hb4⟩;have HB4:=Hid.mk' hb4;clear hE2 hb4))
     go_round
     case measure=>rw[show intOf (.int .i64 (j:Int))=(j:Int)from rfl,show intOf (.int .i64 ((j:Int)+1))=(j:Int)+1 from rfl];omega
     case rel=>exact⟨j+1,by go_num,by omega,by rw[hX.out];exact HB4⟩
    ·have hq1:((c.toNat:Int)==34)=false:=(by simp;omega);have hq2:((c.toNat:Int)==92)=true:=(by simp;omega);clear h34 h1 hT;go_wp2_with (first
      | (go_at_call 95;refine hE1.mono ?_;rintro e w3 ⟨rfl,hb3⟩;have hE2:=zXD hb3 hbw c (by rw[zI];simp;omega);clear hE1 hb3)
      | (go_at_call 95;refine hE2.mono ?_;rintro e w4 ⟨rfl,hb4⟩;have HB4:=Hid.mk' hb4;clear hE2 hb4))
     go_round
     case measure=>rw[show intOf (.int .i64 (j:Int))=(j:Int)from rfl,show intOf (.int .i64 ((j:Int)+1))=(j:Int)+1 from rfl];omega
     case rel=>exact⟨j+1,by go_num,by omega,by rw[hX.out];exact HB4⟩
   ·have hq1:((c.toNat:Int)==34)=false:=(by simp;omega);have hq2:((c.toNat:Int)==92)=false:=(by simp;omega);by_cases h32:c.toNat<32
    ·have hq3:(c.toNat:Int)<32:=(by omega);have hE1:=zwz HJ.out hbw [92,117,48,48] hpos (by simp;omega);go_wp2_with (first
      | (go_at_call 96;refine hE1.mono ?_;rintro e w3 ⟨rfl,hb3⟩;clear hE1)
      | (go_at_call 95;refine(zXD hb3 hbw _ (by rw[zI];simp;omega)).mono ?_;rintro e w4 ⟨rfl,hb4⟩;clear hb3))
     refine(zXD hb4 hbw _ (by rw[zI,zI];simp;omega)).mono ?_;rintro e w5 ⟨rfl,hb5⟩;have HB5:=Hid.mk' hb5;clear hb4 hb5;have hX:Hid (34::(key.take (j+1)).flatMap z9l=((out++[92,117,48,48])++[hexB[c.toNat/16]'(by show _<16;omega)])++[hexB[c.toNat%16]'(by show _<16;omega)]):=by
      show _=_;rw[hT.out];unfold z9l;rw[if_neg h34,if_pos h32,←z0E (c.toNat/16) (by omega),←z0E (c.toNat%16) (by omega)];simp;exact⟨rfl,rfl⟩
     clear hT h34 h32;go_wp2;go_round
     case measure=>rw[show intOf (.int .i64 (j:Int))=(j:Int)from rfl,show intOf (.int .i64 ((j:Int)+1))=(j:Int)+1 from rfl];omega
     case rel=>exact⟨j+1,by go_num,by omega,by rw[hX.out];exact HB5⟩
    ·have hq3:¬(c.toNat:Int)<32:=(by omega);have hX:Hid (34::(key.take (j+1)).flatMap z9l=out++[c]):=by
      have h:=hT.out;show _=_;rw[h];unfold z9l;rw[if_neg h34,if_neg h32]
     have hE1:=zXD HJ.out hbw c (by omega);clear h34 hT h32;go_wp2_with (go_at_call 95;refine hE1.mono ?_;rintro e w4 ⟨rfl,hb4⟩;have HB4:=Hid.mk' hb4;clear hE1 hb4);go_round
     case measure=>rw[show intOf (.int .i64 (j:Int))=(j:Int)from rfl,show intOf (.int .i64 ((j:Int)+1))=(j:Int)+1 from rfl];omega
     case rel=>exact⟨j+1,by go_num,by omega,by rw[hX.out];exact HB4⟩
  ·have hin':¬(j:Int)<(key.length:Int):=(by omega);have hjl:j=key.length:=(by omega);subst hjl;rw[List.take_length]at HJ hlen hpos;have hE:=zXD HJ.out hbw 34 (by omega);have hRE:Hid ((34::key.flatMap z9l)++[34]=RES):=hRES.out;generalize 34::key.flatMap z9l=out at HJ hlen hpos hE hRE;go_wp2_with (go_at_call 95;refine hE.mono ?_;rintro e w5 ⟨rfl,hb5⟩;have hS:=zax hb5 rfl;have HB5:=Hid.mk' hb5;clear hb5);refine(Tryz.Builder_String_any_k w.heap.size w.heap.size _ _ hS (by obtain⟨_,_,_,_,_,_,_,_,h⟩:=HB5.out;exact h.size)).mono ?_;rintro e w6 ⟨rfl,_,b6,_⟩;go_wp2;go_ret;obtain⟨_,_,_,_,_,_,_,_,h⟩:=HB5.out;exact⟨by rw[hRE.out];rfl,h.trans b6⟩
open Go.RowKit Go.Maps
def flt (k:List UInt8)(l:List OpV):List OpV:=l.filter (fun o=>decide (o.key=k))
theorem flt_snoc (k:List UInt8)(l:List OpV)(o:OpV):flt k (l++[o])=if o.key=k then flt k l++[o]else flt k l:=by
 unfold flt;rw[List.filter_append];by_cases h:o.key=k
 ·rw[if_pos h];simp[h]
 ·rw[if_neg h];simp[h]
theorem zdB (k:List UInt8)(l:List OpV):(flt k l).length≤l.length:=List.length_filter_le _ _
def z4U:List OpV→List (List UInt8)
 | []=>[]
 |o::t=>if o.key∈z4U t then z4U t else o.key::z4U t
theorem z1b (l:List OpV):(z4U l).Nodup:=by
 induction l with
 |nil=>exact List.nodup_nil
 |cons o t ih=>
   unfold z4U;split
   ·exact ih
   ·exact List.nodup_cons.2 ⟨‹_›,ih⟩
theorem zPi (l:List OpV)(k:List UInt8):k∈z4U l↔flt k l≠[]:=by
 induction l with
 |nil=>simp[z4U,flt]
 |cons o t ih=>
   unfold z4U;by_cases h:o.key=k
   ·have hf:flt k (o::t)≠[]:=(by unfold flt;simp[h]);simp only [hf,ne_eq,not_false_iff,iff_true];split
    ·rw[←h];assumption
    ·rw[←h];simp
   ·have hf:flt k (o::t)=flt k t:=(by unfold flt;simp[h]);rw[hf,←ih];split
    ·rfl
    ·simp[Ne.symm h]
theorem z4i (l:List OpV):(z4U l).length≤l.length:=by
 induction l with
 |nil=>simp[z4U]
 |cons o t ih=>
   unfold z4U;split<;>simp<;>omega
theorem z2a (W:World)(base:Nat)(a:Option Addr)(n c:Nat)(xs:List Value)(s:OpV)(h:W.ownsRow base 74 10 (.slice a n c) n xs)(hn:n≤3000000)(hb:base≤W.heap.size):ApR 74 26 10 W base a n c xs (opvCells s):=zUq zSl underlying26 rfl (by decide) (by decide) rfl rfl h (by omega) hb
structure KM (bm:Nat)(W:World)(l:List OpV)(a:List UInt8→Option Addr)(c:List UInt8→Nat):Prop where
 map:∃n sz f,MapFn W 9 bm n sz f∧n≤l.length∧(∀k,f (.string k)=if flt k l=[]then none else some (.slice (a k) (flt k l).length (c k)))∧∀kl,f kl≠none→∃k,kl=.string k
 own:∀k,W.ownsRow (bm+1) 74 10 (.slice (a k) (flt k l).length (c k)) (flt k l).length (opsRow (flt k l))
 nil:∀k,flt k l=[]→a k=none∧c k=0
 dis:∀k k' g,k≠k'→(Value.slice (a k) (flt k l).length (c k)).ownBlock=some g→(Value.slice (a k') (flt k' l).length (c k')).ownBlock≠some g
theorem KM.start (W:World):KM W.heap.size (W.alloc (.map #[] 0)) [] (fun _=>none) (fun _=>0):=
 ⟨⟨0,0,fun _=>none,MapFn.made W _,Nat.le_refl _,fun k=>by simp[flt],fun kl h=>absurd rfl h⟩,fun k=>World.ownsRow_nil _ _ _ _,fun k _=>⟨rfl,rfl⟩,fun k k' g _ h=>by simp[Value.ownBlock]at h⟩
theorem KM.on {bm:Nat}{W W':World}{l:List OpV}{a:List UInt8→Option Addr}{c:List UInt8→Nat}(h:KM bm W l a c)(hb:Below W.heap.size W W'):KM bm W' l a c:=by
 obtain⟨⟨n,sz,f,h1,h2⟩,h3,h4,h5⟩:=h;exact⟨⟨n,sz,f,h1.below hb,h2⟩,fun k=>zcc (h3 k) (fun g hg=>hb.block g ((h3 k).lt g hg).2),h4,h5⟩
theorem zPl (w:World):(zeroValue 26).run prog w=.ok (.slice none 0 0) w:=by kernel_rfl
theorem KM.look {bm:Nat}{W:World}{l:List OpV}{a:List UInt8→Option Addr}{c:List UInt8→Nat}(h:KM bm W l a c)(k:List UInt8)(hk:k.length≤10000000):
 (Instr.lookup 109 (.map (some bm)) (.string ⟨k.toArray⟩) false).run prog W=.ok (.slice (a k) (flt k l).length (c k)) W:=by
 obtain⟨⟨n,sz,f,h1,_,h2,_⟩,_,h4,_⟩:=h;have hkk:=zjt (s:=⟨k.toArray⟩) (by show k.toArray.size≤_;rw[List.size_toArray];unfold maxLen;omega);have hr:=h1.run1 lawS underlying109 (zPl W) hkk;rw[hr,h2];by_cases e:flt k l=[]
 ·rw[if_pos e,(h4 k e).1,(h4 k e).2,e];rfl
 ·rw[if_neg e];rfl
theorem KM.put {bm:Nat}{W:World}{l:List OpV}{a:List UInt8→Option Addr}{c:List UInt8→Nat}(h:KM bm W l a c)(o:OpV)(hk:o.key.length≤10000000)(hl:l.length≤1000):
 ∃a' c' w7 w9,(Builtin.append_ #[26,26] 26 #[.slice (a o.key) (flt o.key l).length (c o.key),.slice (some ⟨W.heap.size,0,none⟩) 1 1]).run prog (W.alloc (.cells (opvCells o).toArray 74))=.ok (.slice a' ((flt o.key l).length+1) c') w7∧
  (Instr.mapUpdate 109 (.map (some bm)) (.string ⟨o.key.toArray⟩) (.slice a' ((flt o.key l).length+1) c')).run prog w7=.ok () w9∧Below bm W w7∧Below bm W w9∧(∀g,g<W.heap.size→g≠bm→(Value.slice (a o.key) (flt o.key l).length (c o.key)).ownBlock≠some g→w7.heap[g]?=W.heap[g]?∧w9.heap[g]?=W.heap[g]?)∧
  KM bm w9 (l++[o]) (fun k=>if k=o.key then a' else a k) (fun k=>if k=o.key then c' else c k):=by
 classical
 have hlk:=zdB o.key l;obtain⟨⟨n,sz,f,h1,hn,h2,hS⟩,h3,h4,h5⟩:=h;have hbm:=h1.lt;obtain⟨a',c',w7,hap,hown,hkp,hloc⟩:=z2a W (bm+1) (a o.key) (flt o.key l).length (c o.key) _ o (h3 o.key) (by omega) (by omega);have hge:∀k g,(Value.slice (a k) (flt k l).length (c k)).ownBlock=some g→bm<g∧g<W.heap.size:=fun k g hg=>(h3 k).lt g hg;have hM7:MapFn w7 9 bm n sz f:=h1.kept hkp (fun hm=>by have:=(hge o.key bm (by simpa using hm)).1;omega);have hkk:=zjt (s:=⟨o.key.toArray⟩) (by show o.key.toArray.size≤_;rw[List.size_toArray];unfold maxLen;omega);obtain⟨w9,hput,hM9,hk9⟩:=hM7.runPut lawS underlying109 (by unfold maxLen;omega) (.slice a' ((flt o.key l).length+1) c') hkk trivial (fun kl=>if kl=.string o.key then some (.slice a' ((flt o.key l).length+1) c')else f kl) (by simp) (fun x hx=>by simp at hx;simp[hx]);have h7:∀g,g<W.heap.size→(Value.slice (a o.key) (flt o.key l).length (c o.key)).ownBlock≠some g→w7.heap[g]?=W.heap[g]?:=fun g hg hne=>hkp.block g hg (fun hm=>hne (by simpa using hm));have h9:∀g,g<W.heap.size→g≠bm→(Value.slice (a o.key) (flt o.key l).length (c o.key)).ownBlock≠some g→w9.heap[g]?=W.heap[g]?:=fun g hg hb hne=>(hk9.block g (zH hg hkp.size) (by simpa using hb)).trans (h7 g hg hne);have hb7:Below bm W w7:=hkp.below (by omega) (fun g hg=>by have:=(hge o.key g (by simpa using hg)).1;omega);have hb9:Below bm W w9:=hb7.trans (hk9.below (by have:=hb7.size;omega) (fun g hg=>by simp at hg;omega));refine⟨a',c',w7,w9,hap,hput,hb7,hb9,fun g h h' h''=>⟨h7 g h h'',h9 g h h' h''⟩,⟨_,_,_,hM9,by rw[zI];simp;omega,fun k=>?_,fun kl hkl=>?_⟩,fun k=>?_,fun k hk=>?_,fun k k' g hkk' hg=>?_⟩
 ·rw[flt_snoc];by_cases e:k=o.key
  ·subst e;simp
  ·have e':¬o.key=k:=fun x=>e x.symm;simp only [if_neg e',Lit.string.injEq,if_neg e];exact h2 k
 ·by_cases e:kl=.string o.key
  ·exact⟨_,e⟩
  ·simp only [if_neg e]at hkl;exact hS kl hkl
 ·rw[flt_snoc];by_cases e:k=o.key
  ·subst e;simp only [if_true,zI,List.length_singleton];have:=zcc (w':=w9) hown (fun g hg=>hk9.block g (hown.lt g hg).2 (by have:=(hown.lt g hg).1;simp;omega));rw[show opsRow (flt o.key l++[o])=opsRow (flt o.key l)++opvCells o by unfold opsRow;simp];exact this
  ·have e':¬o.key=k:=fun x=>e x.symm;simp only [if_neg e',if_neg e];exact zcc (h3 k) (fun g hg=>h9 g (hge k g hg).2 (by have:=(hge k g hg).1;omega) (h5 k o.key g e hg))
 ·rw[flt_snoc]at hk;by_cases e:k=o.key
  ·subst e;simp at hk
  ·have e':¬o.key=k:=fun x=>e x.symm;rw[if_neg e']at hk;simp only [if_neg e];exact h4 k hk
 ·simp only [flt_snoc]at hg⊢;by_cases e:k=o.key
  ·subst e;have e2:¬k'=o.key:=fun x=>hkk' x.symm;have e2':¬o.key=k':=hkk';simp only [if_true,zI,List.length_singleton]at hg;simp only [if_neg e2,if_neg e2'];intro hq;rcases hloc with h|⟨g3,h,hge3⟩
   ·rw[h]at hg;exact h5 o.key k' g hkk' hg hq
   ·rw[h]at hg;injection hg with hg;have:=(hge k' g hq).2;omega
  ·have e':¬o.key=k:=fun x=>e x.symm;simp only [if_neg e',if_neg e]at hg;by_cases e2:k'=o.key
   ·subst e2;simp only [if_true,zI,List.length_singleton];intro hq;rcases hloc with h|⟨g3,h,hge3⟩
    ·rw[h]at hq;exact h5 k o.key g hkk' hg hq
    ·rw[h]at hq;injection hq with hq;have:=(hge k g hg).2;omega
   ·have e2':¬o.key=k':=fun x=>e2 x.symm;simp only [if_neg e2,if_neg e2'];exact h5 k k' g hkk' hg
theorem KM.keys {bm:Nat}{W:World}{l:List OpV}{a:List UInt8→Option Addr}{c:List UInt8→Nat}(h:KM bm W l a c):∃n D,W.ownsMap prog 9 zXz bm n D∧Maps.size D≤l.length∧(z4U l).Perm (strKeys D):=by
 obtain⟨⟨n,sz,f,⟨D,h1,h2,⟨es,rfl,hp⟩,h4⟩,hn,h5,h6⟩,_⟩:=h;refine⟨n,.map es,h1,Nat.le_trans h1.size_le hn,perm_strKeys hp (fun p hp'=>?_) (z1b l) (fun x=>?_)⟩
 ·obtain⟨es2,e2,hk2⟩:=h1.keysOf;injection e2 with e2;obtain⟨key,hkey⟩:=hk2 p (by rw[←e2];exact hp');obtain⟨x,_,hx,_⟩:=Maps.keyOf_str underlying9 hkey;exact⟨x,hx⟩
 ·rw[zPi,(h4 _).1,h5];by_cases e:flt x l=[]
  ·simp[e]
  ·simp[e]
open Go.RowKit Go.Maps Go.Sort Go.Shelf
theorem zKC (m:Nat):AnyZ.SortsIn prog Tryz.sortedS_ren Fence.wide m:=
 ⟨fun blk off cap ss W hH hblk hsz=>callsIn_wide.2 (AnyM.slices_Sort_string Tryz.sortS blk off cap ss W hH hblk hsz),
  fun p cap W=>callsIn_wide.2 (AnyM.slices_Sort_string_none Tryz.sortS p cap W)⟩
theorem zl2 (mb:Option Nat)(W:World):Calls prog 49 #[.map mb] W fun e w'=>e=.returned (.func (.func 94) #[] #[.pointer (some ⟨W.heap.size,0,none⟩)])∧w'=W.alloc (.cells #[.map mb] 109):=
 (callsIn_wide (n:=5)).1 (AnyZ.keys_in Tryz.keysO Fence.wide 5 trivial rfl mb W)
theorem zWf {H:Type}(b nn:Nat)(D0:DataW H)(R:Value→Option (DataW H×List MemPlace))(w:World)(hown:w.ownsMap prog 9 R b nn D0)(hmax:Maps.size D0≤maxLen)(hbytes:Maps.size D0*16≤140737488355328):
 Calls prog 48 #[.func (.func 94) #[] #[.pointer (some ⟨w.heap.size,0,none⟩)]] (w.alloc (.cells #[.map (some b)] 109)) fun e w'=>∃(v:Value) (ss:List (List UInt8)),e=.returned v∧ss.Perm (strKeys D0)∧
  w'.ownsRow (w.alloc (.cells #[.map (some b)] 109)).heap.size 9 1 v ss.length ((ss.mergeSort (fun x y=>decide (x≤y))).map encStr)∧(v=.slice none 0 0↔ss=[])∧Below (w.alloc (.cells #[.map (some b)] 109)).heap.size (w.alloc (.cells #[.map (some b)] 109)) w':=by
 have hbl:=hown.lt;have hseq:SeqGives Fence.wide 2 prog 94 #[.pointer (some ⟨w.heap.size,0,none⟩)] encStr (fun ss=>ss.Perm (strKeys D0)) (Maps.size D0) (w.alloc (.cells #[.map (some b)] 109)):=
  AnyZ.keys_gives (ρ:=Tryz.keysO_ren) { Tryz.keysO with } Fence.wide _ trivial rfl (by omega) w.heap.size b nn D0 _ (by simp) (by simp) (by
   obtain⟨es,clock,hb,Ft,hs,hD⟩:=hown;exact⟨es,clock,(Below.heap_alloc _ _ b hbl).trans hb,Ft,hs,hD⟩)
 exact(callsIn_wide (n:=5)).1 (AnyZ.sorted_in Tryz.sortedS Fence.wide 5 trivial trivial trivial trivial rfl (by omega) (zKC _) (enters_of func93 (by kernel_rfl) rfl) 94 #[.pointer (some ⟨w.heap.size,0,none⟩)] trivial (enters_of func94 (by kernel_rfl) rfl) _ _ hmax hbytes _ hseq)
open Go.RowKit Go.Maps Go.Sort
def zD5 (l:List OpV):List (List UInt8):=(z4U l).mergeSort (fun x y=>decide (x≤y))
def zWP (l:List OpV):List (List UInt8×List OpV):=(zD5 l).map (fun k=>(qKey k,flt k l))
theorem sortedU_len (l:List OpV):(zD5 l).length≤l.length:=by
 unfold zD5;rw[List.length_mergeSort];exact z4i l
theorem zMI {l:List OpV}{k:List UInt8}(h:k∈zD5 l):flt k l≠[]:=by
 unfold zD5 at h;rw[List.mem_mergeSort]at h;exact(zPi l k).1 h
theorem zY9:(prog.info? 101).map (fun i=>(i.zero,i.size,i.bytes))=some (some (.agg #[.string ⟨#[]⟩,.slice none 0 0]),2,40):=by kernel_rfl
theorem z0L (W:World)(base:Nat)(a:Option Addr)(n c:Nat)(xs:List Value)(s:ByteArray)(x:Option Addr)(k y:Nat)(h:W.ownsRow base 101 2 (.slice a n c) n xs)(hn:n≤3000000)(hb:base≤W.heap.size):
 ∃a' c' w',(Builtin.append_ #[55,55] 55 #[.slice a n c,.slice (some ⟨W.heap.size,0,none⟩) 1 1]).run prog (W.alloc (.cells #[.string s,.slice x k y] 101))=.ok (.slice a' (n+1) c') w'∧w'.ownsRow base 101 2 (.slice a' (n+1) c') (n+1) (xs++[.string s,.slice x k y])∧Below base W w':=by
 obtain⟨i0,hi0',hz0,hz1,hz2⟩:=info_parts zY9;obtain⟨v7,w7,h1,h2,h3,_⟩:=run_append_own (P:=prog) (W.alloc (.cells ([.string s,.slice x k y]:List Value).toArray 101)) base 55 55 101 i0 _ 2 40 underlying55 hi0' hz0 hz1 hz2 rfl (by decide) (.slice a n c) n xs (h.alloc _) ⟨W.heap.size,0,none⟩ 1 1 [.string s,.slice x k y] rfl (z9R W _ _) (by intro u hu;simp at hu;rcases hu with rfl|rfl<;>rfl) (by unfold maxLen;omega) (by omega) (by simp;omega);obtain⟨a',c',rfl⟩:=zIW h2;have hrow:∀g,(Value.slice a n c).ownBlock=some g→base≤g:=zYv h;have hk:Kept (Value.slice a n c).ownBlock.toList W w7:=((Kept.refl _ W).alloc _).grownS h3 (fun g' hg'=>by rw[hg'];simp);exact⟨a',c',w7,h1,h2,hk.below hb (fun g hg=>hrow g (by simpa using hg))⟩
def pRow (l:List OpV)(a:List UInt8→Option Addr)(c:List UInt8→Nat)(ks:List (List UInt8)):List Value:=ks.flatMap (fun k=>[.string ⟨(qKey k).toArray⟩,.slice (a k) (flt k l).length (c k)])
theorem z2R (l:List OpV)(a:List UInt8→Option Addr)(c:List UInt8→Nat)(ks:List (List UInt8))(j:Nat)(h:j<ks.length):pRow l a c (ks.take (j+1))=pRow l a c (ks.take j)++[.string ⟨(qKey ks[j]).toArray⟩,.slice (a ks[j]) (flt ks[j] l).length (c ks[j])]:=by
 unfold pRow;rw[List.take_succ_eq_append_getElem h,List.flatMap_append];simp
theorem zUW (l:List OpV)(a:List UInt8→Option Addr)(c:List UInt8→Nat)(ks:List (List UInt8))(j:Nat)(h:j<ks.length):(pRow l a c ks)[j*2]?=some (.string ⟨(qKey ks[j]).toArray⟩)∧(pRow l a c ks)[j*2+1]?=some (.slice (a ks[j]) (flt ks[j] l).length (c ks[j])):=by
 induction ks generalizing j with
 |nil=>simp at h
 |cons k t ih=>
   unfold pRow at ih⊢;rw[List.flatMap_cons];cases j with
   |zero=>simp
   |succ j=>
     have:=ih j (by simpa using h);rw[show(j+1)*2=j*2+2 by omega];simp only [List.cons_append,List.nil_append,List.getElem?_cons_succ,List.getElem_cons_succ];exact this
theorem zZY {bm:Nat}{W:World}{l:List OpV}{a:List UInt8→Option Addr}{c:List UInt8→Nat}(h:KM bm W l a c)(k:List UInt8):OAt W (a k) (flt k l):=z6a (h.own k)
theorem zpj (oa:Option Addr)(cap:Nat)(ops:List OpV)(w:World)(hr:OAt w oa ops)(hl:ops.length≤128)(hk:∀o∈ops,o.key.length≤10000000):
 Calls prog 24 #[.slice oa ops.length cap] w fun e w'=>∃a c,e=.returned (.slice a (zWP ops).length c)∧PAt w' a (zWP ops)∧Below w.heap.size w w':=by
 have hmm:=@run_makeMap prog;have HK:=Hid.mk' hk;clear hk;go_enter func24,ntmps24;go_wp2_with fail;go_loopw [12] (fun i wr=>∃(j:Nat) (a:List UInt8→Option Addr) (c:List UInt8→Nat),i=.int .i64 (j:Int)∧j≤ops.length∧Hid (KM w.heap.size wr (ops.take j) a c)∧Hid (Below w.heap.size w wr)) (fun i _=>ops.length-(intOf i).toNat)
 case atStart=>exact⟨0,_,_,rfl,by omega,Hid.mk' (KM.start w),Hid.mk' (zA _ _)⟩
 case round=>
  obtain⟨j,a,c,rfl,hj,HM,HB⟩:=hrel;by_cases hin:j<ops.length
  ·have hin':(j:Int)<(ops.length:Int):=(by omega);have hne:ops≠[]:=(by intro h;rw[h]at hin;simp at hin);obtain⟨g,rfl,hg,hc⟩:=(hr.below HB.out) hne;have hcell:∀c u,c<10→(opvCells ops[j])[c]?=some u→wr.cell? ⟨g,j*10+c,none⟩=some u:=fun c u hcc hu=>hc _ _ ((zvc ops j hin c hcc).trans hu);have hT:=Hid.mk' (List.take_succ_eq_append_getElem hin);have hko:=HK.out _ (List.getElem_mem hin);generalize ops[j]=o at*;have q0:wr.cell? ⟨g,j*10,none⟩=some (.int .i64 o.id):=hcell 0 _ (by omega) rfl;have q1:=hcell 1 _ (by omega) rfl;have q2:=hcell 2 _ (by omega) rfl;have q3:=hcell 3 _ (by omega) rfl;have q4:=hcell 4 _ (by omega) rfl;have q5:=hcell 5 _ (by omega) rfl;have q6:=hcell 6 _ (by omega) rfl;have q7:=hcell 7 _ (by omega) rfl;have q8:=hcell 8 _ (by omega) rfl;have q9:=hcell 9 _ (by omega) rfl;clear hcell hc;go_wp2_with fail;obtain⟨W1,hW1⟩:∃W1,W1=wr.alloc (.cells #[.int .i64 o.id,.int .i64 o.cl,.string ⟨o.name.toArray⟩,.string ⟨o.key.toArray⟩,.int .i64 o.arg,.int .i64 o.exp,.int .i64 o.call,.int .i64 o.ret,.int .i64 o.vk,.int .i64 o.vn] 74):=⟨_,rfl⟩;rw[←hW1];have hB5:W1.heap[wr.heap.size]?=some (.cells #[.int .i64 o.id,.int .i64 o.cl,.string ⟨o.name.toArray⟩,.string ⟨o.key.toArray⟩,.int .i64 o.arg,.int .i64 o.exp,.int .i64 o.call,.int .i64 o.ret,.int .i64 o.vk,.int .i64 o.vn] 74 (0,0)):=(by rw[hW1];exact ziF _ _ _ rfl);have hb1:Below wr.heap.size wr W1:=(by rw[hW1];exact zA _ _);have hnr:∀k,(Value.slice (a k) (flt k (ops.take j)).length (c k)).ownBlock≠some wr.heap.size:=fun k e=>(by have:=((HM.out.own k).lt _ e).2;omega);have hbw:w.heap.size<wr.heap.size:=(by obtain⟨⟨_,_,_,h,_⟩,_⟩:=HM.out;exact h.lt);have M1:=HM.out.on (hb1.trans (Below.refl _ W1).drew);have hlt5:=zBq hB5;have hk0:=M1.look o.key hko;have hk1:(Instr.lookup 109 (.map (some w.heap.size)) (.string ⟨o.key.toArray⟩) false).run prog (W1.alloc (.cells #[.int .i64 o.id,.int .i64 o.cl,.string ⟨o.name.toArray⟩,.string ⟨o.key.toArray⟩,.int .i64 o.arg,.int .i64 o.exp,.int .i64 o.call,.int .i64 o.ret,.int .i64 o.vk,.int .i64 o.vn] 74)).drew=.ok (.slice (a o.key) (flt o.key (ops.take j)).length (c o.key)) (W1.alloc (.cells #[.int .i64 o.id,.int .i64 o.cl,.string ⟨o.name.toArray⟩,.string ⟨o.key.toArray⟩,.int .i64 o.arg,.int .i64 o.exp,.int .i64 o.call,.int .i64 o.ret,.int .i64 o.vk,.int .i64 o.vn] 74)).drew:=(M1.on ((Below.refl _ W1.drew).alloc zG (.cells #[.int .i64 o.id,.int .i64 o.cl,.string ⟨o.name.toArray⟩,.string ⟨o.key.toArray⟩,.int .i64 o.arg,.int .i64 o.exp,.int .i64 o.call,.int .i64 o.ret,.int .i64 o.vk,.int .i64 o.vn] 74))).look o.key hko;obtain⟨a',c',w7,w9,hap,hput,hb7,hb9,hst,M9⟩:=M1.put o hko (by rw[List.length_take];omega);rw[show W1.drew.heap.size=W1.heap.size from rfl]at hap;have hap':(Builtin.append_ #[26,26] 26 #[.slice (a o.key) (flt o.key (ops.take j)).length (c o.key),.slice (some ⟨W1.heap.size,0,none⟩) 1 1]).run prog (W1.alloc (.cells #[.int .i64 o.id,.int .i64 o.cl,.string ⟨o.name.toArray⟩,.string ⟨o.key.toArray⟩,.int .i64 o.arg,.int .i64 o.exp,.int .i64 o.call,.int .i64 o.ret,.int .i64 o.vk,.int .i64 o.vn] 74)).drew=.ok (.slice a' ((flt o.key (ops.take j)).length+1) c') w7:=hap;have hs5:=hst wr.heap.size hlt5 (by omega) (hnr o.key);have M10:=Hid.mk' M9;have HB9:=Hid.mk' ((HB.out.trans (hb1.mono (by omega))).trans ((Below.refl _ W1).drew.trans hb9));clear M1 M9 hap hb7 hb9 hst hnr hW1 hb1 q0 q1 q2 q3 q4 q5 q6 q7 q8 q9 HM HB;generalize (flt o.key (ops.take j)).length=nn at hk0 hk1 hap' hput;generalize a o.key=aa at hk0 hk1 hap' hput;generalize c o.key=cc at hk0 hk1 hap' hput;generalize wr.heap.size=e5 at hB5 hlt5 hs5 hbw⊢
   have mkS:∀W:World,W.heap[e5]?=some (.cells #[.int .i64 o.id,.int .i64 o.cl,.string ⟨o.name.toArray⟩,.string ⟨o.key.toArray⟩,.int .i64 o.arg,.int .i64 o.exp,.int .i64 o.call,.int .i64 o.ret,.int .i64 o.vk,.int .i64 o.vn] 74 (0,0))→(fun w'=>w'.cell? ⟨e5,0,none⟩=some (.int .i64 o.id)∧w'.cell? ⟨e5,1,none⟩=some (.int .i64 o.cl)∧w'.cell? ⟨e5,2,none⟩=some (.string ⟨o.name.toArray⟩)∧w'.cell? ⟨e5,3,none⟩=some (.string ⟨o.key.toArray⟩)∧w'.cell? ⟨e5,4,none⟩=some (.int .i64 o.arg)∧w'.cell? ⟨e5,5,none⟩=some (.int .i64 o.exp)∧w'.cell? ⟨e5,6,none⟩=some (.int .i64 o.call)∧w'.cell? ⟨e5,7,none⟩=some (.int .i64 o.ret)∧w'.cell? ⟨e5,8,none⟩=some (.int .i64 o.vk)∧w'.cell? ⟨e5,9,none⟩=some (.int .i64 o.vn)) W:=fun W h=>⟨(zBk h 0).trans rfl,(zBk h 1).trans rfl,(zBk h 2).trans rfl,(zBk h 3).trans rfl,(zBk h 4).trans rfl,(zBk h 5).trans rfl,(zBk h 6).trans rfl,(zBk h 7).trans rfl,(zBk h 8).trans rfl,(zBk h 9).trans rfl⟩;have hS1:=mkS W1.drew hB5;have hS2:=mkS (W1.alloc (.cells #[.int .i64 o.id,.int .i64 o.cl,.string ⟨o.name.toArray⟩,.string ⟨o.key.toArray⟩,.int .i64 o.arg,.int .i64 o.exp,.int .i64 o.call,.int .i64 o.ret,.int .i64 o.vk,.int .i64 o.vn] 74)).drew ((zD1 _ _ _ hlt5).trans hB5);have hS7:=mkS w7 (hs5.1.trans hB5);have hS9:=mkS w9 (hs5.2.trans hB5);have r1:=mkS W1 hB5;obtain⟨d0,d1,d2,d3,d4,d5,d6,d7,d8,d9⟩:=r1;clear mkS hB5 hs5;go_region_held3 (fun w'=>w'.cell? ⟨e5,0,none⟩=some (.int .i64 o.id)∧w'.cell? ⟨e5,1,none⟩=some (.int .i64 o.cl)∧w'.cell? ⟨e5,2,none⟩=some (.string ⟨o.name.toArray⟩)∧w'.cell? ⟨e5,3,none⟩=some (.string ⟨o.key.toArray⟩)∧w'.cell? ⟨e5,4,none⟩=some (.int .i64 o.arg)∧w'.cell? ⟨e5,5,none⟩=some (.int .i64 o.exp)∧w'.cell? ⟨e5,6,none⟩=some (.int .i64 o.call)∧w'.cell? ⟨e5,7,none⟩=some (.int .i64 o.ret)∧w'.cell? ⟨e5,8,none⟩=some (.int .i64 o.vk)∧w'.cell? ⟨e5,9,none⟩=some (.int .i64 o.vn)) (first|(with_reducible exact hS2)|(with_reducible exact hS7)|(with_reducible exact hS9)|go_keep) (refine zti rfl _ _ 26 rfl _ _ _ _ rfl rfl hap' ?_)
   all_goals
    clear hk0 hk1 hap' hput hS1 hS2 hS7 hS9 d0 d1 d2 d3 d4 d5 d6 d7 d8 d9;go_wp2;go_round
    case measure=>simp[intOf];omega
    case rel=>exact⟨j+1,_,_,by go_num,by omega,by rw[hT.out];exact M10,HB9⟩
  ·have hin':¬(j:Int)<(ops.length:Int):=(by omega);have hjl:j=ops.length:=(by omega);subst hjl;rw[List.take_length]at HM;clear hin hj hr;obtain⟨nD,D,hD1,hD2,hD3⟩:=HM.out.keys;have hso:=zWf _ nD D zXz wr hD1 (by unfold maxLen;omega) (by omega);go_wp2_with (first
    | (go_at_call 49;refine(zl2 _ _).mono ?_;rintro e w2 ⟨rfl,rfl⟩)
    |(go_at_call 48;refine hso.mono ?_;rintro e w3 ⟨v,ss,rfl,hS,hrow,hnil,hb3⟩;have hb3':Below wr.heap.size wr w3:=((Below.refl _ wr).alloc zG _).trans (hb3.mono (by simp));obtain⟨KS,hKS⟩:∃KS,Hid (KS=zD5 ops):=⟨_,rfl⟩;have hmS:ss.mergeSort (fun x y=>decide (x≤y))=KS:=by { rw[hKS.out];exact mergeSort_of_perm (hS.trans hD3.symm) };have hlS:ss.length=KS.length:=by { rw[←hmS,List.length_mergeSort] };rw[hmS,hlS]at hrow;obtain⟨va,vc,rfl⟩:=zIW hrow))
   have hkl:∀k∈KS,k.length≤10000000:=by
    intro k hk;rw[hKS.out]at hk;obtain⟨o,ho⟩:=List.exists_mem_of_ne_nil _ (zMI hk);unfold flt at ho;rw[List.mem_filter]at ho;have:=HK.out o ho.1;rw[of_decide_eq_true ho.2]at this;exact this
   have hKl:KS.length≤128:=(by rw[hKS.out];have:=sortedU_len ops;omega);have M3:=Hid.mk' (HM.out.on hb3');have HB3:=Hid.mk' (HB.out.trans (hb3'.mono HB.out.size));have HR:=Hid.mk' hrow;have HKL:=Hid.mk' hkl;have HKS:Hid (KS=zD5 ops):=hKS;have hbs:=hb3'.size;clear hkl hso hD1 hD2 hD3 hS hrow hnil hb3 hb3' hKS hmS hlS HM HB HK hbs;go_loopw [6,31] (fun s i w4=>∃(j:Nat) (a2:Option Addr) (c2:Nat),s=.slice a2 j c2∧i=.int .i64 (j:Int)∧j≤KS.length∧Hid (w4.ownsRow w3.heap.size 101 2 (.slice a2 j c2) j (pRow ops a c (KS.take j)))∧Hid (Below w3.heap.size w3 w4)) (fun _ i _=>KS.length-(intOf i).toNat)
   case atStart=>exact⟨0,none,0,rfl,rfl,by omega,Hid.mk' (World.ownsRow_nil _ _ _ _),Hid.mk' (zD)⟩
   case round=>
    obtain⟨j,a2,c2,rfl,rfl,hj,HO,HW⟩:=hrel;by_cases hin:j<KS.length
    ·have hin2:(j:Int)<(KS.length:Int):=(by omega);obtain⟨gv,rfl,hgv3,hcv⟩:∃gv,va=some ⟨gv,0,none⟩∧gv<w3.heap.size∧∀i (h:i<KS.length),wr.cell? ⟨gv,i,none⟩=some (.string ⟨KS[i].toArray⟩):=by
      have hx:=HR.out;obtain⟨_,⟨_,h3⟩|⟨g,cp,cur,h3,_,hb,_⟩⟩:=hx
      ·omega
      ·injection h3 with h3;subst h3;refine⟨g,rfl,zBq hb,fun i h=>?_⟩;have h4:=HR.out.cells (g:=g) rfl i (.string ⟨KS[i].toArray⟩) (by rw[List.getElem?_map,zC h];rfl);rw[Addr.add_lit,Nat.zero_add]at h4;exact(HW.out.cell (p:=⟨g,i,none⟩) (zBq hb)).trans h4
     have hc:=hcv j hin;have hT:=Hid.mk' (z2R ops a c KS j hin);have hkk:=HKL.out _ (List.getElem_mem hin);generalize KS[j]=key at hc hT hkk;clear hcv;have hq:=fun W=>quoted_any key W hkk;have HL:=Hid.mk' (fun W (h:Below w3.heap.size w3 W)=>(M3.out.on h).look key hkk);have l0:=HL.out wr.drew (HW.out.trans (zD).drew);have hzz:=HW.out.size;have hgv:gv<wr.heap.size:=zH hgv3 hzz;generalize flt key ops=fk at hT HL l0;generalize a key=ak at hT HL l0;generalize c key=ck at hT HL l0;go_wp2_with fail;go_region_law (first
      |(go_simp;go_at_call 50;refine(hq _).mono ?_;rintro e w5 ⟨rfl,hb50⟩;have hb5:Below wr.heap.size wr w5:=(Below.refl _ wr).drew.trans hb50;have l5:=HL.out w5 (HW.out.trans (hb5.mono hzz));obtain⟨a3,c3,w7,hap,hown7,hb7⟩:=z0L w5 w3.heap.size a2 j c2 _ ⟨(qKey key).toArray⟩ ak fk.length ck (zcc HO.out (fun g hg=>hb5.block g (HO.out.lt g hg).2)) (by omega) (by have:=hb5.size;omega);have H7:=Hid.mk' (And.intro hown7 ((HW.out.trans (hb5.mono hzz)).trans hb7));clear hown7 hb7 hb5 hb50)
      | (refine zti rfl _ _ 55 rfl _ _ _ _ rfl rfl hap ?_))
     all_goals
      clear l0 l5 hap hq;go_wp2;go_round
      case measure=>simp[intOf];omega
      case rel=>exact⟨j+1,a3,c3,rfl,by go_num,by omega,by rw[hT.out];exact Hid.mk' H7.out.1,Hid.mk' H7.out.2⟩
    ·have hin2:¬(j:Int)<(KS.length:Int):=(by omega);have hjl:j=KS.length:=(by omega);subst hjl;rw[List.take_length]at HO;go_wp2;go_ret;have hlen:(zWP ops).length=KS.length:=(by unfold zWP;rw[List.length_map,HKS.out]);refine⟨a2,⟨c2,by rw[hlen];rfl⟩,?_,HB3.out.trans (HW.out.mono HB3.out.size)⟩;intro hne;obtain⟨_,⟨_,h3⟩|⟨g,cp,cur,h3,_,hb,_⟩⟩:=HO.out
     ·exact absurd (List.eq_nil_of_length_eq_zero (by rw[hlen];exact h3)) hne
     ·injection h3 with h3;subst h3;refine⟨g,rfl,zBq hb,fun i hi=>?_⟩;have hi':i<KS.length:=(by rw[←hlen];exact hi);have he:(zWP ops)[i]=(qKey KS[i],flt KS[i] ops):=by
       have:(zWP ops)[i]?=some (qKey KS[i],flt KS[i] ops):=by
        unfold zWP;rw[List.getElem?_map,←HKS.out,zC hi'];rfl
       rw[zC hi]at this;exact Option.some.inj this
      rw[he];obtain⟨g1,g2⟩:=zUW ops a c KS i hi';have h4:=HO.out.cells (g:=g) rfl (i*2) _ g1;have h5:=HO.out.cells (g:=g) rfl (i*2+1) _ g2;rw[Addr.add_lit,Nat.zero_add]at h4 h5;exact⟨_,_,h4,h5,(zZY M3.out KS[i]).below HW.out⟩
end Go.Proofs.YtbbkihekjdffpaaGreatDoor.srch
