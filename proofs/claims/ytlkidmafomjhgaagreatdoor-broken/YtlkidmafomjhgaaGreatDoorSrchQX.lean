/- Several texts in one. -/
import Derived.Test.YtlkidmafomjhgaaGreatDoorSrchMJ
import Derived.Lib.AppendStr
import Derived.Lib.ConvBytes
set_option maxHeartbeats 4000000
set_option maxRecDepth 100000
namespace Go.Proofs.YtlkidmafomjhgaaGreatDoor.srch
open Go.RowKit
theorem z7k:(Tryz.prog.info? 5).map (fun i=>(i.zero,i.size,i.bytes))=some (some (.int .u8 0),1,1):=by kernel_rfl
theorem z3M (W:World) (base:Nat) (a:Option Addr) (n c:Nat) (xs:List Value) (x:Int) (h:W.ownsRow base 5 1 (.slice a n c) n xs) (hn:n≤100000000) (hb:base≤W.heap.size):
 ∃ a' c' w',(Builtin.append_ #[99,99] 99 #[.slice a n c,.slice (some ⟨W.heap.size,0,none⟩) 1 1]).run Tryz.prog (W.alloc (.cells #[.int .u8 x] 5))=.ok (.slice a' (n+1) c') w'∧
  w'.ownsRow base 5 1 (.slice a' (n+1) c') (n+1) (xs++[.int .u8 x])∧Kept (Value.slice a n c).ownBlock.toList W w'∧((Value.slice a' (n+1) c').ownBlock=(Value.slice a n c).ownBlock∨∃ g,(Value.slice a' (n+1) c').ownBlock=some g∧W.heap.size≤g):=by
 obtain ⟨i0,hi0',hz0,hz1,hz2⟩:=info_parts z7k
 obtain ⟨v7,w7,h1,h2,h3,_,h5⟩:=run_append_own_at (P:=Tryz.prog) (W.alloc (.cells ([.int .u8 x]:List Value).toArray 5)) base 99 99 5 i0 _ 1 1 Tryz.underlying99 hi0' hz0 hz1 hz2 rfl (by decide) (.slice a n c) n xs (h.alloc _) ⟨W.heap.size,0,none⟩ 1 1 [.int .u8 x] rfl (z9R W _ _) (by intro u hu;simp at hu;subst hu;rfl) (by unfold maxLen;omega) (by omega) (by simp;omega)
 obtain ⟨a',c',rfl⟩:=zIW h2
 have hk:Kept (Value.slice a n c).ownBlock.toList W w7:=((Kept.refl _ W).alloc _).grownS h3 (fun g' hg'=>by rw [hg'];simp)
 exact ⟨a',c',w7,h1,h2,hk,h5.imp id (fun e=>⟨_,e,by simp⟩)⟩
theorem zX5 (b:Nat) (p:Option Addr) (v:Value) (w:World) (hb:w.heap[b]?=some (.cells #[.pointer p,v] 185 (0,0))) (hp:p=none∨p=some ⟨b,0,none⟩):
 Calls Tryz.prog 125 #[.pointer (some ⟨b,0,none⟩)] w fun e w'=>e=.returned (.tuple #[])∧w'.heap[b]?=some (.cells #[.pointer (some ⟨b,0,none⟩),v] 185 (0,0))∧Kept [b] w w':=by
 have hlt:b < w.heap.size:=(Array.getElem?_eq_some_iff.1 hb).1
 rcases hp with rfl | rfl
 · refine (Any.Builder_copyCheck_fresh (P:=Tryz.prog) (ρ:=Tryz.lays167_ren) { Tryz.lays167 with } (Tryz.Builder_Extra_167).toX72 b w (by simp [World.cell?,hb]) (by simp [World.shape?,hb];rfl) (by simp [World.frozen?,hb])).mono ?_
   rintro e w' ⟨rfl,rfl⟩
   exact ⟨rfl,by rw [zFg hb 0 _];rfl,(Kept.refl _ _).setCell (by simp) _⟩
 · refine (Any.Builder_copyCheck_used (P:=Tryz.prog) (ρ:=Tryz.lays167_ren) { Tryz.lays167 with } (Tryz.Builder_Extra_167).toX72 b w (by simp [World.cell?,hb])).mono ?_
   rintro e w' ⟨rfl,rfl⟩
   exact ⟨rfl,hb,Kept.refl _ _⟩
theorem z8V (b:Nat) (p:Option Addr) (a:Option Addr) (n c:Nat) (xs:List Value) (x:Int) (w:World) (hb:w.heap[b]?=some (.cells #[.pointer p,.slice a n c] 185 (0,0))) (hp:p=none∨p=some ⟨b,0,none⟩) (ho:w.ownsRow (b+1) 5 1 (.slice a n c) n xs) (hn:n≤100000000):
 Calls Tryz.prog 97 #[.pointer (some ⟨b,0,none⟩),.int .u8 x] w fun e w'=>e=.returned .nilIface∧∃ a' c',w'.heap[b]?=some (.cells #[.pointer (some ⟨b,0,none⟩),.slice a' (n+1) c'] 185 (0,0))∧
  w'.ownsRow (b+1) 5 1 (.slice a' (n+1) c') (n+1) (xs++[.int .u8 x])∧Kept (b::(Value.slice a n c).ownBlock.toList) w w'∧((Value.slice a' (n+1) c').ownBlock=(Value.slice a n c).ownBlock∨∃ g,(Value.slice a' (n+1) c').ownBlock=some g∧w.heap.size≤g):=by
 have hlt:b < w.heap.size:=(Array.getElem?_eq_some_iff.1 hb).1
 have hck:=zX5 b p (.slice a n c) w hb hp
 have HO:=Hid.mk' ho
 clear ho hb hp
 go_enter Tryz.func97,Tryz.ntmps97
 go_wp2_with (go_at_call 125;refine hck.mono ?_)
 rintro e w1 ⟨rfl,hb1,hk1⟩
 have hnb:∀ g,(Value.slice a n c).ownBlock=some g→b < g∧g < w.heap.size:=fun g hg=>HO.out.lt g hg
 have ho1:w1.ownsRow (b+1) 5 1 (.slice a n c) n xs:=zcc HO.out (fun g hg=>hk1.block g (hnb g hg).2 (by have:=(hnb g hg).1;simp;omega))
 obtain ⟨a',c',w7,hap,hown7,hk7,hloc⟩:=z3M w1 (b+1) a n c xs x ho1 hn (by have:=hk1.size;omega)
 have c1:w1.cell? ⟨b,1,none⟩=some (.slice a n c):=by simp [World.cell?,hb1]
 have hs1:=hk1.size
 have hb7:w7.heap[b]?=some (.cells #[.pointer (some ⟨b,0,none⟩),.slice a n c] 185 (0,0)):=(hk7.block b (by omega) (fun hm=>by have:=(hnb b (by simpa using hm)).1;omega)).trans hb1
 have hks:Kept (b::(Value.slice a n c).ownBlock.toList) w w7:=(hk1.mono (fun y _ hy=>by rw [List.mem_singleton] at hy;simp [hy])).trans (hk7.mono (fun y _ hy=>by simp [hy]))
 have HZ:=Hid.mk' (And.intro hown7 (And.intro hks (And.intro hloc hk1)))
 have HB1:=Hid.mk' hb1
 have m1:w7.cell? ⟨b,1,none⟩=some (.slice a n c):=by simp [World.cell?,hb7]
 have f1:w7.frozen? ⟨b,1,none⟩=false:=by simp [World.frozen?,hb7]
 have HB7:=Hid.mk' hb7
 clear hb7
 clear hown7 hk7 hloc hk1 ho1 hks
 go_wp2_with (at_builtin;refine zOu rfl _ _ 99 rfl _ _ _ _ rfl rfl hap ?_)
 go_ret
 have hne7:∀ g,(Value.slice a' (n+1) c').ownBlock=some g→g≠b:=fun g hg=>by have:=(HZ.out.1.lt g hg).1;omega
 refine ⟨rfl,a',c',by rw [zFg HB7.out 1 _];rfl,zcc HZ.out.1 (fun g hg=>zRA (a:=⟨b,1,none⟩) (hne7 g hg) _),HZ.out.2.1.setCell (by simp) _,HZ.out.2.2.1.imp id (fun ⟨g,e,h⟩=>⟨g,e,by have:=HZ.out.2.2.2.size;omega⟩)⟩
theorem zQO {P:Program} {w:World} {ops:Array Oper} {rest:List Oper} {o:Oper} {a:Act} {Q:Exit→Act→World→Prop} (hgd:o.guard=none) (s x:Operand) (t u:TypeId)
 (ho:o.op=.call { callee:=.builtin .append,args:=#[s,x],argTypes:=#[t,u] }) (v xv v':Value) (w':World) (hs:a.eval s=v) (hx:a.eval x=xv) (hrun:(Builtin.append_ #[t,u] o.type #[v,xv]).run P w=.ok v' w')
 (h:wpList P ops Q rest (a.put o.dst v') w'):wpList P ops Q (o::rest) a w:=by
 refine wpList_plain hgd fun K hK=>?_
 unfold Oper.wp execOp
 simp only [ho,resolve,invoke,builtin,Sem.run_bind,Sem.run_pure,Result.andThen_ok,List.map_toArray,List.map_cons,List.map_nil,hs,hx,hrun]
 exact hK _ _ h
theorem zHv (W:World) (base:Nat) (a:Option Addr) (n c:Nat) (xs:List Value) (s:ByteArray) (h:W.ownsRow base 5 1 (.slice a n c) n xs) (h0:0 < n) (hn:n+s.size≤100000000) (hb:base≤W.heap.size):
 ∃ a' c' w',(Builtin.append_ #[99,9] 99 #[.slice a n c,.string s]).run Tryz.prog W=.ok (.slice a' (n+s.size) c') w'∧
  w'.ownsRow base 5 1 (.slice a' (n+s.size) c') (n+s.size) (xs++Lib.strCells s)∧Kept (Value.slice a n c).ownBlock.toList W w'∧((Value.slice a' (n+s.size) c').ownBlock=(Value.slice a n c).ownBlock∨∃ g,(Value.slice a' (n+s.size) c').ownBlock=some g∧W.heap.size≤g):=by
 obtain ⟨i0,hi,hz0,hz1,hz2⟩:=info_parts z7k
 obtain ⟨v7,w7,h1,h2,h3,_⟩:=Lib.run_append_own_string (P:=Tryz.prog) W base 99 9 99 5 i0 Tryz.underlying99 Tryz.underlying9 hi hz0 hz1 hz2 (.slice a n c) n xs h s (by unfold maxLen;omega) (by omega) hb
 have hk:Kept (Value.slice a n c).ownBlock.toList W w7:=(Kept.refl _ W).grownS h3 (fun g' hg'=>by rw [hg'];simp)
 have hxl:xs.length=n:=by simpa using h.1
 rcases h.2 with ⟨e,rfl⟩ | ⟨g,cap,cur,e,hbg,hg,hnc,hcm,hcs,htake⟩
 · omega
 · injection e with e1 _ e3
   subst e1 e3
   have hcs':cur.size=c:=by simpa using hcs
   by_cases hroom:n+s.size≤c
   · have hr:=Lib.run_append_room_string (P:=Tryz.prog) W 99 9 99 5 i0 Tryz.underlying99 Tryz.underlying9 hi hz1 g n c cur hg s hroom (by omega)
     have hv:v7=.slice (some ⟨g,0,none⟩) (n+s.size) c:=by have e:=hr.symm.trans h1;injection e with e _;exact e.symm
     subst hv
     exact ⟨_,_,w7,h1,h2,hk,.inl rfl⟩
   · have holds:∀ j u,xs[j]?=some u→W.cell? ((⟨g,0,none⟩:Addr).add j)=some u:=h.cells (g:=g) rfl
     have hr:=Lib.run_append_grow_string (P:=Tryz.prog) W 99 9 99 5 i0 (.int .u8 0) Tryz.underlying99 Tryz.underlying9 hi hz0 ⟨g,0,none⟩ n c xs (by rw [hz1];simpa using hxl) holds s (by omega) (by omega) (by rw [hz2];exact growslice_fits (by omega) (by omega))
     have hv:v7=.slice (some ⟨W.heap.size,0,none⟩) (n+s.size) (grownCap W (n+s.size) c 5):=by have e:=hr.symm.trans h1;injection e with e _;exact e.symm
     subst hv
     exact ⟨_,_,w7,h1,h2,hk,.inr ⟨_,rfl,Nat.le_refl _⟩⟩
theorem z3y (b:Nat) (p:Option Addr) (a:Option Addr) (n c:Nat) (xs:List Value) (s:ByteArray) (w:World) (hb:w.heap[b]?=some (.cells #[.pointer p,.slice a n c] 185 (0,0))) (hp:p=none∨p=some ⟨b,0,none⟩) (ho:w.ownsRow (b+1) 5 1 (.slice a n c) n xs) (h0:0 < n) (hn:n+s.size≤100000000):
 Calls Tryz.prog 98 #[.pointer (some ⟨b,0,none⟩),.string s] w fun e w'=>e=.returned (.tuple #[.int .i64 s.size,.nilIface])∧∃ a' c',w'.heap[b]?=some (.cells #[.pointer (some ⟨b,0,none⟩),.slice a' (n+s.size) c'] 185 (0,0))∧
  w'.ownsRow (b+1) 5 1 (.slice a' (n+s.size) c') (n+s.size) (xs++Lib.strCells s)∧Kept (b::(Value.slice a n c).ownBlock.toList) w w'∧((Value.slice a' (n+s.size) c').ownBlock=(Value.slice a n c).ownBlock∨∃ g,(Value.slice a' (n+s.size) c').ownBlock=some g∧w.heap.size≤g):=by
 have hlt:b < w.heap.size:=(Array.getElem?_eq_some_iff.1 hb).1
 have hck:=zX5 b p (.slice a n c) w hb hp
 have HO:=Hid.mk' ho
 clear ho hb hp
 go_enter Tryz.func98,Tryz.ntmps98
 go_wp2_with (go_at_call 125;refine hck.mono ?_)
 rintro e w1 ⟨rfl,hb1,hk1⟩
 have hnb:∀ g,(Value.slice a n c).ownBlock=some g→b < g∧g < w.heap.size:=fun g hg=>HO.out.lt g hg
 have ho1:w1.ownsRow (b+1) 5 1 (.slice a n c) n xs:=zcc HO.out (fun g hg=>hk1.block g (hnb g hg).2 (by have:=(hnb g hg).1;simp;omega))
 obtain ⟨a',c',w7,hap,hown7,hk7,hloc⟩:=zHv w1 (b+1) a n c xs s ho1 h0 hn (by have:=hk1.size;omega)
 have c1:w1.cell? ⟨b,1,none⟩=some (.slice a n c):=by simp [World.cell?,hb1]
 have hs1:=hk1.size
 have hb7:w7.heap[b]?=some (.cells #[.pointer (some ⟨b,0,none⟩),.slice a n c] 185 (0,0)):=(hk7.block b (by omega) (fun hm=>by have:=(hnb b (by simpa using hm)).1;omega)).trans hb1
 have hks:Kept (b::(Value.slice a n c).ownBlock.toList) w w7:=(hk1.mono (fun y _ hy=>by rw [List.mem_singleton] at hy;simp [hy])).trans (hk7.mono (fun y _ hy=>by simp [hy]))
 have HZ:=Hid.mk' (And.intro hown7 (And.intro hks (And.intro hloc hk1)))
 have m1:w7.cell? ⟨b,1,none⟩=some (.slice a n c):=by simp [World.cell?,hb7]
 have f1:w7.frozen? ⟨b,1,none⟩=false:=by simp [World.frozen?,hb7]
 have HB7:=Hid.mk' hb7
 clear hb7 hb1
 clear hown7 hk7 hloc hk1 ho1 hks
 go_wp2_with (at_builtin;refine zQO rfl _ _ 99 9 rfl _ _ _ _ rfl rfl hap ?_)
 go_ret2
 have hne7:∀ g,(Value.slice a' (n+s.size) c').ownBlock=some g→g≠b:=fun g hg=>by have:=(HZ.out.1.lt g hg).1;omega
 refine ⟨rfl,a',c',by rw [zFg HB7.out 1 _];rfl,zcc HZ.out.1 (fun g hg=>zRA (a:=⟨b,1,none⟩) (hne7 g hg) _),HZ.out.2.1.setCell (by simp) _,HZ.out.2.2.1.imp id (fun ⟨g,e,h⟩=>⟨g,e,by have:=HZ.out.2.2.2.size;omega⟩)⟩
def BdAt (b G:Nat) (blk:Option Obj) (w W:World) (out:List UInt8):Prop:=∃ a c,W.heap[b]?=some (.cells #[.pointer (some ⟨b,0,none⟩),.slice a out.length c] 185 (0,0))∧W.ownsRow (b+1) 5 1 (.slice a out.length c) out.length (Lib.byteCells out)∧(Value.slice a out.length c).ownBlock≠some G∧W.heap[G]?=blk∧b < G∧G < W.heap.size∧Below b w W
theorem zop {b G:Nat} {blk:Option Obj} {w W w':World} {out:List UInt8} {a a':Option Addr} {c c':Nat} (more:List UInt8) (ho:W.ownsRow (b+1) 5 1 (.slice a out.length c) out.length (Lib.byteCells out)) (hG:(Value.slice a out.length c).ownBlock≠some G) (hblk:W.heap[G]?=blk) (hbG:b < G) (hGs:G < W.heap.size) (hb:Below b w W) (hbw:b≤w.heap.size)
 (h1:w'.heap[b]?=some (.cells #[.pointer (some ⟨b,0,none⟩),.slice a' (out++more).length c'] 185 (0,0))) (h2:w'.ownsRow (b+1) 5 1 (.slice a' (out++more).length c') (out++more).length (Lib.byteCells (out++more))) (hk:Kept (b::(Value.slice a out.length c).ownBlock.toList) W w')
 (hl:(Value.slice a' (out++more).length c').ownBlock=(Value.slice a out.length c).ownBlock∨∃ g,(Value.slice a' (out++more).length c').ownBlock=some g∧W.heap.size≤g):BdAt b G blk w w' (out++more):=by
 refine ⟨a',c',h1,h2,?_,?_,hbG,Nat.lt_of_lt_of_le hGs hk.size,?_⟩
 · rcases hl with e | ⟨g,e,hg⟩
   · rw [e];exact hG
   · rw [e];intro e';injection e' with e';omega
 · rw [←hblk]
   refine hk.block G hGs (fun hm=>?_)
   rcases List.mem_cons.1 hm with e | e
   · omega
   · exact hG (by simpa using e)
 · refine hb.trans (hk.below (by have:=hb.size;have:=hbw;omega) (fun g' hg'=>?_))
   rcases List.mem_cons.1 hg' with e | e
   · omega
   · have:=(ho.lt g' (by simpa using e)).1;omega
theorem zYD {b G:Nat} {blk:Option Obj} {w W:World} {out:List UInt8} (h:BdAt b G blk w W out) (hbw:b≤w.heap.size) (x:UInt8) (hn:out.length≤100000000):
 Calls Tryz.prog 97 #[.pointer (some ⟨b,0,none⟩),.int .u8 (x.toNat:Int)] W fun e w'=>e=.returned .nilIface∧BdAt b G blk w w' (out++[x]):=by
 obtain ⟨a,c,h1,h2,h3,h4,h5,h6,h7⟩:=h
 refine (z8V b _ a out.length c _ (x.toNat:Int) W h1 (.inr rfl) h2 hn).mono ?_
 rintro e w' ⟨rfl,a',c',k1,k2,k3,k4⟩
 refine ⟨rfl,zop [x] h2 h3 h4 h5 h6 h7 hbw (a':=a') (c':=c') ?_ ?_ k3 ?_⟩
 · rw [List.length_append];exact k1
 · rw [List.length_append];simpa [Lib.byteCells] using k2
 · rw [List.length_append];exact k4
theorem zwz {b G:Nat} {blk:Option Obj} {w W:World} {out:List UInt8} (h:BdAt b G blk w W out) (hbw:b≤w.heap.size) (s:List UInt8) (h0:0 < out.length) (hn:out.length+s.length≤100000000):
 Calls Tryz.prog 98 #[.pointer (some ⟨b,0,none⟩),.string ⟨s.toArray⟩] W fun e w'=>e=.returned (.tuple #[.int .i64 s.length,.nilIface])∧BdAt b G blk w w' (out++s):=by
 obtain ⟨a,c,h1,h2,h3,h4,h5,h6,h7⟩:=h
 have hs:(⟨s.toArray⟩:ByteArray).size=s.length:=by simp [ByteArray.size]
 refine (z3y b _ a out.length c _ ⟨s.toArray⟩ W h1 (.inr rfl) h2 h0 (by rw [hs];exact hn)).mono ?_
 rw [hs]
 rintro e w' ⟨rfl,a',c',k1,k2,k3,k4⟩
 refine ⟨rfl,zop s h2 h3 h4 h5 h6 h7 hbw (a':=a') (c':=c') ?_ ?_ k3 ?_⟩
 · rw [List.length_append];exact k1
 · rw [List.length_append];simpa [Lib.byteCells,Lib.strCells] using k2
 · rw [List.length_append];exact k4
def hexL:List UInt8:=[48,49,50,51,52,53,54,55,56,57,97,98,99,100,101,102]
def z9l (c:UInt8):List UInt8:=if c.toNat=34∨c.toNat=92 then [92,c] else if c.toNat < 32 then [92,117,48,48,hexL.getD (c.toNat / 16) 0,hexL.getD (c.toNat % 16) 0] else [c]
def qKey (key:List UInt8):List UInt8:=34::key.flatMap z9l++[34]
def hexB:ByteArray:=⟨#[48,49,50,51,52,53,54,55,56,57,97,98,99,100,101,102]⟩
theorem z0E (n:Nat) (h:n < 16):hexB[n]'h=hexL.getD n 0:=by
 rcases n with _ | _ | _ | _ | _ | _ | _ | _ | _ | _ | _ | _ | _ | _ | _ | _ | n
 all_goals first | rfl | omega
theorem zN0 (c:UInt8):(z9l c).length≤6:=by
 unfold z9l
 split
 · simp
 · split <;> simp
theorem zGl (l:List UInt8):(l.flatMap z9l).length≤6*l.length:=by
 induction l with
 | nil=>simp
 | cons c t ih=>have:=zN0 c;rw [List.flatMap_cons,List.length_append,List.length_cons];omega
theorem zWo (key:List UInt8) (j:Nat) (h:j < key.length):34::(key.take (j+1)).flatMap z9l=(34::(key.take j).flatMap z9l)++z9l key[j]:=by
 rw [List.take_succ_eq_append_getElem h,List.flatMap_append]
 simp
theorem zax {b G:Nat} {blk:Option Obj} {w W:World} {out:List UInt8} (h:BdAt b G blk w W out) (hb:b=w.heap.size):Lib.IsBuilderF 185 5 b b (Lib.byteCells out) W:=by
 obtain ⟨a,c,h1,h2,_⟩:=h
 refine Lib.IsBuilderF.of (.inr ⟨Nat.le_refl _,_,h1,?_,?_⟩)
 · have e:(Lib.byteCells out).length=out.length:=by simp [Lib.byteCells]
   rw [e]
   obtain ⟨k1,k2 | ⟨g,cap,cur,k2,k3,k4⟩⟩:=h2
   · exact ⟨k1,.inl k2⟩
   · exact ⟨k1,.inr ⟨g,cap,cur,k2,by omega,k4⟩⟩
 · intro e
   have:=(h2.lt b e).1
   omega
theorem zbns {b G:Nat} {blk:Option Obj} {w W:World} {out:List UInt8} (h:BdAt b G blk w W out) (hbw:b≤w.heap.size) (x:UInt8) (n:Nat) (hx:x.toNat=n) (hn:out.length≤100000000):
 Calls Tryz.prog 97 #[.pointer (some ⟨b,0,none⟩),.int .u8 (n:Int)] W fun e w'=>e=.returned .nilIface∧BdAt b G blk w w' (out++[x]):=by
 rw [←hx]
 exact zYD h hbw x hn
theorem zif (key:List UInt8) (w:World) (hl:key.length≤10000000):
 Calls Tryz.prog 63 #[.string ⟨key.toArray⟩] w fun e w'=>e=.returned (.string ⟨(qKey key).toArray⟩)∧Below w.heap.size w w':=by
 obtain ⟨RES,hRES⟩:∃ RES,Hid (qKey key=RES):=⟨_,rfl⟩
 rw [hRES.out]
 obtain ⟨W0,hW0⟩:∃ W0,W0=w.alloc (.cells #[.pointer none,.slice none 0 0] 185):=⟨_,rfl⟩
 have hB0:W0.heap[w.heap.size]?=some (.cells #[.pointer none,.slice none 0 0] 185 (0,0)):=by rw [hW0];exact ziF _ _ _ rfl
 have hb0:Below w.heap.size w W0:=by rw [hW0];exact (Below.refl _ _).alloc (Nat.le_refl _) _
 have hs0:W0.heap.size=w.heap.size+1:=by rw [hW0];simp
 have h1:=z8V w.heap.size none none 0 0 [] 34 W0 hB0 (.inl rfl) (World.ownsRow_nil _ _ _ _) (by omega)
 have H0:=Hid.mk' (And.intro hB0 (And.intro hb0 hs0))
 clear hB0 hb0 hs0
 go_enter Tryz.func63,Tryz.ntmps63
 go_wp2_with fail
 rw [←hW0]
 refine h1.mono ?_
 rintro e w1 ⟨rfl,a1,c1,k1,k2,k3,k4⟩
 clear h1 hW0
 have hlt1:=zCqB k1
 have hs1:=k3.size
 have hcv:=Lib.run_convert_string_bytes (P:=Tryz.prog) w1 9 99 5 ⟨key.toArray⟩ Tryz.underlying9 Tryz.underlying99 Tryz.underlying5
 have hkb:(⟨key.toArray⟩:ByteArray).size=key.length:=by simp [ByteArray.size]
 rw [hkb] at hcv
 obtain ⟨W2,hW2⟩:∃ W2,W2=Lib.bytesWorld w1 5 ⟨key.toArray⟩:=⟨_,rfl⟩
 rw [←hW2] at hcv
 generalize grownCap w1 key.length 0 5=gc at hcv
 have hcell:∀ j (h:j < key.length),W2.cell? ⟨w1.heap.size,j,none⟩=some (.int .u8 (key[j].toNat:Int)):=by
  intro j h
  rw [hW2,Lib.bytesWorld_cell w1 _ _ j (by rw [hkb];exact h)]
  simp [List.getD,h]
 have hbd:BdAt w.heap.size w1.heap.size W2.heap[w1.heap.size]? w W2 [34]:=by
  have hold:∀ i,i < w1.heap.size→W2.heap[i]?=w1.heap[i]?:=fun i hi=>by rw [hW2];exact Lib.bytesWorld_at_old _ _ _ i hi
  have hz2:W2.heap.size=w1.heap.size+1:=by rw [hW2];exact Lib.bytesWorld_size _ _ _
  refine ⟨a1,c1,(hold _ hlt1).trans k1,zcc k2 (fun g hg=>hold g (k2.lt g hg).2),?_,rfl,hlt1,by omega,?_⟩
  · intro e
    have:=(k2.lt _ e).2
    omega
  · have hbW:Below w1.heap.size w1 W2:=by rw [hW2];exact Go.Joins.below_bytesWorld _ _ _ _ (Nat.le_refl _)
    have hk:Below w.heap.size W0 w1:=k3.below (by have:=H0.out.2.2;omega) (fun g hg=>by
     rcases List.mem_cons.1 hg with e | e
     · omega
     · cases e)
    exact (H0.out.2.1.trans hk).trans (hbW.mono (by omega))
 have HBD:=Hid.mk' hbd
 have HC:=Hid.mk' hcell
 clear hbd hcell hW2 k1 k2 k3 k4 H0
 go_wp2
 have hbw:w.heap.size≤w.heap.size:=Nat.le_refl _
 go_loopw [10] (fun i wr=>∃ j:Nat,i=.int .i64 (j:Int)∧j≤key.length∧Hid (BdAt w.heap.size w1.heap.size W2.heap[w1.heap.size]? w wr (34::(key.take j).flatMap z9l))) (fun i _=>key.length - (intOf i).toNat)
 case atStart=>exact ⟨0,rfl,by omega,HBD⟩
 case round=>
  obtain ⟨j,rfl,hj,HJ⟩:=hrel
  have hlen:(34::(key.take j).flatMap z9l).length≤60000001:=by
   have:=zGl (key.take j)
   rw [List.length_cons]
   rw [List.length_take] at this
   omega
  have hpos:0 < (34::(key.take j).flatMap z9l).length:=by simp
  by_cases hin:j < key.length
  · have hin':(j:Int) < (key.length:Int):=by omega
    have hT:=Hid.mk' (zWo key j hin)
    have hc:wr.cell? ⟨w1.heap.size,j,none⟩=some (.int .u8 (key[j].toNat:Int)):=by
     rw [←HC.out j hin]
     obtain ⟨_,_,_,_,_,h,_⟩:=HJ.out
     exact World.cell?_of_block (w:=W2) (a:=⟨w1.heap.size,j,none⟩) h
    generalize key[j]=c at hc hT
    generalize 34::(key.take j).flatMap z9l=out at HJ hlen hpos hT
    have hcb:c.toNat < 256:=c.toNat_lt
    by_cases h34:c.toNat=34∨c.toNat=92
    · have hX:Hid (34::(key.take (j+1)).flatMap z9l=(out++[92])++[c]):=by
       have h:=hT.out
       unfold z9l at h
       rw [if_pos h34] at h
       show _=_
       unfold z9l
       rw [h,List.append_assoc]
       rfl
      have hE1:=zbns HJ.out hbw 92 92 rfl (by omega)
      by_cases h1:c.toNat=34
      · have hq1:((c.toNat:Int) == 34)=true:=by rw [h1];rfl
        clear h34 h1 hT
        go_wp2_with (first
         | (go_at_call 97;refine hE1.mono ?_;rintro e w3 ⟨rfl,hb3⟩;have hE2:=zYD hb3 hbw c (by rw [List.length_append];simp;omega);clear hE1 hb3)
         | (go_at_call 97;refine hE2.mono ?_;rintro e w4 ⟨rfl,hb4⟩;have HB4:=Hid.mk' hb4;clear hE2 hb4))
        go_round
        case measure=>rw [show intOf (.int .i64 (j:Int))=(j:Int) from rfl,show intOf (.int .i64 ((j:Int)+1))=(j:Int)+1 from rfl];omega
        case rel=>exact ⟨j+1,by go_num,by omega,by rw [hX.out];exact HB4⟩
      · have hq1:((c.toNat:Int) == 34)=false:=by simp;omega
        have hq2:((c.toNat:Int) == 92)=true:=by simp;omega
        clear h34 h1 hT
        go_wp2_with (first
         | (go_at_call 97;refine hE1.mono ?_;rintro e w3 ⟨rfl,hb3⟩;have hE2:=zYD hb3 hbw c (by rw [List.length_append];simp;omega);clear hE1 hb3)
         | (go_at_call 97;refine hE2.mono ?_;rintro e w4 ⟨rfl,hb4⟩;have HB4:=Hid.mk' hb4;clear hE2 hb4))
        go_round
        case measure=>rw [show intOf (.int .i64 (j:Int))=(j:Int) from rfl,show intOf (.int .i64 ((j:Int)+1))=(j:Int)+1 from rfl];omega
        case rel=>exact ⟨j+1,by go_num,by omega,by rw [hX.out];exact HB4⟩
    · have hq1:((c.toNat:Int) == 34)=false:=by simp;omega
      have hq2:((c.toNat:Int) == 92)=false:=by simp;omega
      by_cases h32:c.toNat < 32
      · have hq3:(c.toNat:Int) < 32:=by omega
        have hE1:=zwz HJ.out hbw [92,117,48,48] hpos (by simp;omega)
        go_wp2_with (first
         | (go_at_call 98;refine hE1.mono ?_;rintro e w3 ⟨rfl,hb3⟩;clear hE1)
         | (go_at_call 97;refine (zYD hb3 hbw _ (by rw [List.length_append];simp;omega)).mono ?_;rintro e w4 ⟨rfl,hb4⟩;clear hb3))
        refine (zYD hb4 hbw _ (by rw [List.length_append,List.length_append];simp;omega)).mono ?_
        rintro e w5 ⟨rfl,hb5⟩
        have HB5:=Hid.mk' hb5
        clear hb4 hb5
        have hX:Hid (34::(key.take (j+1)).flatMap z9l=((out++[92,117,48,48])++[hexB[c.toNat / 16]'(by show _ < 16;omega)])++[hexB[c.toNat % 16]'(by show _ < 16;omega)]):=by
         show _=_
         rw [hT.out]
         unfold z9l
         rw [if_neg h34,if_pos h32,←z0E (c.toNat / 16) (by omega),←z0E (c.toNat % 16) (by omega)]
         simp
         exact ⟨rfl,rfl⟩
        clear hT h34 h32
        go_wp2
        go_round
        case measure=>rw [show intOf (.int .i64 (j:Int))=(j:Int) from rfl,show intOf (.int .i64 ((j:Int)+1))=(j:Int)+1 from rfl];omega
        case rel=>exact ⟨j+1,by go_num,by omega,by rw [hX.out];exact HB5⟩
      · have hq3:¬ (c.toNat:Int) < 32:=by omega
        have hX:Hid (34::(key.take (j+1)).flatMap z9l=out++[c]):=by
         have h:=hT.out
         show _=_
         rw [h]
         unfold z9l
         rw [if_neg h34,if_neg h32]
        have hE1:=zYD HJ.out hbw c (by omega)
        clear h34 hT h32
        go_wp2_with (go_at_call 97;refine hE1.mono ?_;rintro e w4 ⟨rfl,hb4⟩;have HB4:=Hid.mk' hb4;clear hE1 hb4)
        go_round
        case measure=>rw [show intOf (.int .i64 (j:Int))=(j:Int) from rfl,show intOf (.int .i64 ((j:Int)+1))=(j:Int)+1 from rfl];omega
        case rel=>exact ⟨j+1,by go_num,by omega,by rw [hX.out];exact HB4⟩
  · have hin':¬ (j:Int) < (key.length:Int):=by omega
    have hjl:j=key.length:=by omega
    subst hjl
    rw [List.take_length] at HJ hlen hpos
    have hE:=zYD HJ.out hbw 34 (by omega)
    have hRE:Hid ((34::key.flatMap z9l)++[34]=RES):=hRES.out
    generalize 34::key.flatMap z9l=out at HJ hlen hpos hE hRE
    go_wp2_with (go_at_call 97;refine hE.mono ?_;rintro e w5 ⟨rfl,hb5⟩;have hS:=zax hb5 rfl;have HB5:=Hid.mk' hb5;clear hb5)
    refine (Tryz.Builder_String_any_k w.heap.size w.heap.size _ _ hS (by obtain ⟨_,_,_,_,_,_,_,_,h⟩:=HB5.out;exact h.size)).mono ?_
    rintro e w6 ⟨rfl,_,b6,_⟩
    go_wp2
    go_ret
    obtain ⟨_,_,_,_,_,_,_,_,h⟩:=HB5.out
    exact ⟨by rw [hRE.out];rfl,h.trans b6⟩
end Go.Proofs.YtlkidmafomjhgaaGreatDoor.srch
