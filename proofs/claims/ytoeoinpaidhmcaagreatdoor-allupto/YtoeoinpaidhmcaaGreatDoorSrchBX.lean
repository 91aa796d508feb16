/- Several texts in one. -/
import Derived.Test.YtoeoinpaidhmcaaGreatDoorSrchMJ
import Derived.Lib.AppendStr
import Derived.Lib.ConvBytes
import Derived.Sort.KeysCollected
set_option maxHeartbeats 4000000
set_option maxRecDepth 100000
namespace Go.Proofs.YtoeoinpaidhmcaaGreatDoor.srch
open Tryz
open Go.RowKit
theorem z7k:(prog.info? 5).map (fun i=>(i.zero,i.size,i.bytes))=some (some (.int .u8 0),1,1):=by kernel_rfl
theorem z3M (W:World)(b:Nat)(a:Option Addr)(n c:Nat)(d:List Value)(x:Int)(h:W.ownsRow b 5 1 (.slice a n c) n d)(g:n≤100000000)(e:b≤W.heap.size):ApR 5 216 1 W b a n c d [.int .u8 x]:=zUq z7k underlying216 rfl (by decide) (by decide) rfl rfl h (by omega) e
theorem zX5 (b:Nat)(p:Option Addr)(v:Value)(w:World)(a:w.heap[b]?=some (.cells #[.pointer p,v] 274 (0,0)))(d:p=none∨p=some ⟨b,0,none⟩):
 Calls prog 168 #[.pointer (some ⟨b,0,none⟩)] w fun e w'=>e=.returned (.tuple #[])∧w'.heap[b]?=some (.cells #[.pointer (some ⟨b,0,none⟩),v] 274 (0,0))∧Kept [b] w w':=by
 have g:b<w.heap.size:=(Array.getElem?_eq_some_iff.1 a).1;rcases d with rfl|rfl
 ·refine(Any.Builder_copyCheck_fresh (P:=prog) (ρ:=Tryz.lays167_ren) { Tryz.lays167 with } (Tryz.Builder_Extra_167).toX72 b w (by simp[World.cell?,a]) (by simp[World.shape?,a];rfl) (by simp[World.frozen?,a])).mono ?_;rintro e w' ⟨rfl,rfl⟩;exact⟨rfl,by rw[zFg a 0 _];rfl,(Kept.refl _ _).setCell (by simp) _⟩
 ·refine(Any.Builder_copyCheck_used (P:=prog) (ρ:=Tryz.lays167_ren) { Tryz.lays167 with } (Tryz.Builder_Extra_167).toX72 b w (by simp[World.cell?,a])).mono ?_;rintro e w' ⟨rfl,rfl⟩;exact⟨rfl,a,Kept.refl _ _⟩
theorem z8V (b:Nat)(p:Option Addr)(a:Option Addr)(n c:Nat)(r:List Value)(x:Int)(w:World)(z:w.heap[b]?=some (.cells #[.pointer p,.slice a n c] 274 (0,0)))(D:p=none∨p=some ⟨b,0,none⟩)(G:w.ownsRow (b+1) 5 1 (.slice a n c) n r)(H:n≤100000000):
 Calls prog 139 #[.pointer (some ⟨b,0,none⟩),.int .u8 x] w fun e w'=>e=.returned .nilIface∧∃a' c',w'.heap[b]?=some (.cells #[.pointer (some ⟨b,0,none⟩),.slice a' (n+1) c'] 274 (0,0))∧
  w'.ownsRow (b+1) 5 1 (.slice a' (n+1) c') (n+1) (r++[.int .u8 x])∧Kept (b::(Value.slice a n c).ownBlock.toList) w w'∧((Value.slice a' (n+1) c').ownBlock=(Value.slice a n c).ownBlock∨∃g,(Value.slice a' (n+1) c').ownBlock=some g∧w.heap.size≤g):=by
 have K:b<w.heap.size:=(Array.getElem?_eq_some_iff.1 z).1;have B:=zX5 b p (.slice a n c) w z D;have E:=Hid.mk' G;clear G z D;go_enter func139,ntmps139;go_wp2_with (go_at_call 168;refine B.mono ?_);rintro e v ⟨rfl,q,d⟩;have o:∀g,(Value.slice a n c).ownBlock=some g→b<g∧g<w.heap.size:=fun g hg=>E.out.lt g hg;have u:v.ownsRow (b+1) 5 1 (.slice a n c) n r:=owns_same E.out (fun g hg=>d.block g (o g hg).2 (by have:=(o g hg).1;simp;omega));obtain⟨a',c',s,C,j,l,m⟩:=z3M v (b+1) a n c r x u H (by have:=d.size;omega);have c1:v.cell? ⟨b,1,none⟩=some (.slice a n c):=by simp[World.cell?,q]
 have J:=d.size;have i:s.heap[b]?=some (.cells #[.pointer (some ⟨b,0,none⟩),.slice a n c] 274 (0,0)):=(l.block b (by omega) (fun hm=>by have:=(o b (by simpa using hm)).1;omega)).trans q;have t:Kept (b::(Value.slice a n c).ownBlock.toList) w s:=(d.mono (fun y _ hy=>by rw[List.mem_singleton]at hy;simp[hy])).trans (l.mono (fun y _ hy=>by simp[hy]));have k:=Hid.mk' (And.intro j (And.intro t (And.intro m d)));have I:=Hid.mk' q;have L:s.cell? ⟨b,1,none⟩=some (.slice a n c):=by simp[World.cell?,i]
 have f1:s.frozen? ⟨b,1,none⟩=false:=by simp[World.frozen?,i]
 have F:=Hid.mk' i;clear i;clear j l m d u t;go_wp2_with (at_builtin;refine zOu rfl _ _ 216 rfl _ _ _ _ rfl rfl C ?_);go_ret;have A:∀g,(Value.slice a' (n+1) c').ownBlock=some g→g≠b:=fun g hg=>by have:=(k.out.1.lt g hg).1;omega
 refine⟨rfl,a',c',by rw[zFg F.out 1 _];rfl,owns_same k.out.1 (fun g hg=>zRA (a:=⟨b,1,none⟩) (A g hg) _),k.out.2.1.setCell (by simp) _,k.out.2.2.1.imp id (fun⟨g,e,h⟩=>⟨g,e,by have:=k.out.2.2.2.size;omega⟩)⟩
theorem zQO {P:Program} {w:World} {b:Array Oper} {rest:List Oper} {o:Oper} {a:Act} {Q:Exit→Act→World→Prop} (e:o.guard=none) (s x:Operand) (t u:TypeId)
 (l:o.op=.call { callee:=.builtin .append,args:=#[s,x],argTypes:=#[t,u] }) (v i g:Value) (w':World) (j:a.eval s=v) (k:a.eval x=i) (d:(Builtin.append_ #[t,u] o.type #[v,i]).run P w=.ok g w')
 (h:wpList P b Q rest (a.put o.dst g) w'):wpList P b Q (o::rest) a w:=by
 refine wpList_plain e fun K hK=>?_;unfold Oper.wp execOp;simp only [l,resolve,invoke,builtin,Sem.run_bind,Sem.run_pure,Result.andThen_ok,List.map_toArray,List.map_cons,List.map_nil,j,k,d];exact hK _ _ h
theorem zHv (W:World)(b:Nat)(a:Option Addr)(n c:Nat)(d:List Value)(s:ByteArray)(h:W.ownsRow b 5 1 (.slice a n c) n d)(N:0<n)(M:n+s.size≤100000000)(H:b≤W.heap.size):
 ∃a' c' w',(Builtin.append_ #[216,9] 216 #[.slice a n c,.string s]).run prog W=.ok (.slice a' (n+s.size) c') w'∧
  w'.ownsRow b 5 1 (.slice a' (n+s.size) c') (n+s.size) (d++Lib.strCells s)∧Kept (Value.slice a n c).ownBlock.toList W w'∧((Value.slice a' (n+s.size) c').ownBlock=(Value.slice a n c).ownBlock∨∃g,(Value.slice a' (n+s.size) c').ownBlock=some g∧W.heap.size≤g):=by
 obtain⟨x,q,m,i,o⟩:=info_parts z7k;obtain⟨A,v,l,y,F,_⟩:=Lib.run_append_own_string (P:=prog) W b 216 9 216 5 x underlying216 underlying9 q m i o (.slice a n c) n d h s (by unfold maxLen;omega) (by omega) H;have B:Kept (Value.slice a n c).ownBlock.toList W v:=(Kept.refl _ W).grownS F (fun g' hg'=>by rw[hg'];simp);have C:d.length=n:=by simpa using h.1
 rcases h.2 with ⟨e,rfl⟩|⟨g,J,p,e,L,E,K,I,z,D⟩
 ·omega
 ·injection e with e1 _ e3;subst e1 e3;have G:p.size=c:=by simpa using z
  by_cases hroom:n+s.size≤c
  ·have t:=Lib.run_append_room_string (P:=prog) W 216 9 216 5 x underlying216 underlying9 q i g n c p E s hroom (by omega);have r:A=.slice (some ⟨g,0,none⟩) (n+s.size) c:=(by have e:=t.symm.trans l;injection e with e _;exact e.symm);subst r;exact⟨_,_,v,l,y,B,.inl rfl⟩
  ·have k:∀j u,d[j]?=some u→W.cell? ((⟨g,0,none⟩:Addr).add j)=some u:=h.cells (g:=g) rfl;have t:=Lib.run_append_grow_string (P:=prog) W 216 9 216 5 x (.int .u8 0) underlying216 underlying9 q m ⟨g,0,none⟩ n c d (by rw[i];simpa using C) k s (by omega) (by omega) (by rw[o];exact growslice_fits (by omega) (by omega));have r:A=.slice (some ⟨W.heap.size,0,none⟩) (n+s.size) (grownCap W (n+s.size) c 5):=(by have e:=t.symm.trans l;injection e with e _;exact e.symm);subst r;exact⟨_,_,v,l,y,B,.inr ⟨_,rfl,Nat.le_refl _⟩⟩
theorem z3y (b:Nat)(p:Option Addr)(a:Option Addr)(n c:Nat)(r:List Value)(s:ByteArray)(w:World)(z:w.heap[b]?=some (.cells #[.pointer p,.slice a n c] 274 (0,0)))(D:p=none∨p=some ⟨b,0,none⟩)(G:w.ownsRow (b+1) 5 1 (.slice a n c) n r)(I:0<n)(H:n+s.size≤100000000):
 Calls prog 140 #[.pointer (some ⟨b,0,none⟩),.string s] w fun e w'=>e=.returned (.tuple #[.int .i64 s.size,.nilIface])∧∃a' c',w'.heap[b]?=some (.cells #[.pointer (some ⟨b,0,none⟩),.slice a' (n+s.size) c'] 274 (0,0))∧
  w'.ownsRow (b+1) 5 1 (.slice a' (n+s.size) c') (n+s.size) (r++Lib.strCells s)∧Kept (b::(Value.slice a n c).ownBlock.toList) w w'∧((Value.slice a' (n+s.size) c').ownBlock=(Value.slice a n c).ownBlock∨∃g,(Value.slice a' (n+s.size) c').ownBlock=some g∧w.heap.size≤g):=by
 have K:b<w.heap.size:=(Array.getElem?_eq_some_iff.1 z).1;have B:=zX5 b p (.slice a n c) w z D;have E:=Hid.mk' G;clear G z D;go_enter func140,ntmps140;go_wp2_with (go_at_call 168;refine B.mono ?_);rintro e x ⟨rfl,q,d⟩;have o:∀g,(Value.slice a n c).ownBlock=some g→b<g∧g<w.heap.size:=fun g hg=>E.out.lt g hg;have v:x.ownsRow (b+1) 5 1 (.slice a n c) n r:=owns_same E.out (fun g hg=>d.block g (o g hg).2 (by have:=(o g hg).1;simp;omega));obtain⟨a',c',t,C,j,l,m⟩:=zHv x (b+1) a n c r s v I H (by have:=d.size;omega);have c1:x.cell? ⟨b,1,none⟩=some (.slice a n c):=by simp[World.cell?,q]
 have J:=d.size;have i:t.heap[b]?=some (.cells #[.pointer (some ⟨b,0,none⟩),.slice a n c] 274 (0,0)):=(l.block b (by omega) (fun hm=>by have:=(o b (by simpa using hm)).1;omega)).trans q;have u:Kept (b::(Value.slice a n c).ownBlock.toList) w t:=(d.mono (fun y _ hy=>by rw[List.mem_singleton]at hy;simp[hy])).trans (l.mono (fun y _ hy=>by simp[hy]));have k:=Hid.mk' (And.intro j (And.intro u (And.intro m d)));have L:t.cell? ⟨b,1,none⟩=some (.slice a n c):=by simp[World.cell?,i]
 have f1:t.frozen? ⟨b,1,none⟩=false:=by simp[World.frozen?,i]
 have F:=Hid.mk' i;clear i q;clear j l m d v u;go_wp2_with (at_builtin;refine zQO rfl _ _ 216 9 rfl _ _ _ _ rfl rfl C ?_);go_ret2;have A:∀g,(Value.slice a' (n+s.size) c').ownBlock=some g→g≠b:=fun g hg=>by have:=(k.out.1.lt g hg).1;omega
 refine⟨rfl,a',c',by rw[zFg F.out 1 _];rfl,owns_same k.out.1 (fun g hg=>zRA (a:=⟨b,1,none⟩) (A g hg) _),k.out.2.1.setCell (by simp) _,k.out.2.2.1.imp id (fun⟨g,e,h⟩=>⟨g,e,by have:=k.out.2.2.2.size;omega⟩)⟩
def BdAt (b G:Nat)(blk:Option Obj)(w W:World)(out:List UInt8):Prop:=∃a c,W.heap[b]?=some (.cells #[.pointer (some ⟨b,0,none⟩),.slice a out.length c] 274 (0,0))∧W.ownsRow (b+1) 5 1 (.slice a out.length c) out.length (Lib.byteCells out)∧(Value.slice a out.length c).ownBlock≠some G∧W.heap[G]?=blk∧b<G∧G<W.heap.size∧Below b w W
theorem zop {b G:Nat} {blk:Option Obj} {w W w':World} {d:List UInt8} {a a':Option Addr} {c c':Nat} (more:List UInt8) (r:W.ownsRow (b+1) 5 1 (.slice a d.length c) d.length (Lib.byteCells d)) (hG:(Value.slice a d.length c).ownBlock≠some G) (i:W.heap[G]?=blk) (k:b<G) (h:G<W.heap.size) (m:Below b w W) (l:b≤w.heap.size)
 (p:w'.heap[b]?=some (.cells #[.pointer (some ⟨b,0,none⟩),.slice a' (d++more).length c'] 274 (0,0))) (o:w'.ownsRow (b+1) 5 1 (.slice a' (d++more).length c') (d++more).length (Lib.byteCells (d++more))) (j:Kept (b::(Value.slice a d.length c).ownBlock.toList) W w')
 (q:(Value.slice a' (d++more).length c').ownBlock=(Value.slice a d.length c).ownBlock∨∃g,(Value.slice a' (d++more).length c').ownBlock=some g∧W.heap.size≤g):BdAt b G blk w w' (d++more):=by
 refine⟨a',c',p,o,?_,?_,k,zI h j.size,?_⟩
 ·rcases q with e|⟨g,e,hg⟩
  ·rw[e];exact hG
  ·rw[e];intro n;injection n with n;omega
 ·rw[←i];refine j.block G h (fun hm=>?_);rcases List.mem_cons.1 hm with e|e
  ·omega
  ·exact hG (by simpa using e)
 ·refine m.trans (j.below (by have:=m.size;have:=l;omega) (fun g' hg'=>?_));rcases List.mem_cons.1 hg' with e|e
  ·omega
  ·have:=(r.lt g' (by simpa using e)).1;omega
theorem zXD {b G:Nat}{blk:Option Obj}{w W:World}{d:List UInt8}(h:BdAt b G blk w W d)(i:b≤w.heap.size)(x:UInt8)(p:d.length≤100000000):
 Calls Tryz.prog 139 #[.pointer (some ⟨b,0,none⟩),.int .u8 (x.toNat:Int)] W fun e w'=>e=.returned .nilIface∧BdAt b G blk w w' (d++[x]):=by
 obtain⟨a,c,m,g,n,l,j,s,o⟩:=h;refine(z8V b _ a d.length c _ (x.toNat:Int) W m (.inr rfl) g p).mono ?_;rintro e w' ⟨rfl,a',c',q,t,r,k⟩;refine⟨rfl,zop [x] g n l j s o i (a':=a') (c':=c') ?_ ?_ r ?_⟩
 ·rw[zJ];exact q
 ·rw[zJ];simpa [Lib.byteCells]using t
 ·rw[zJ];exact k
theorem zwz {b G:Nat}{blk:Option Obj}{w W:World}{d:List UInt8}(h:BdAt b G blk w W d)(j:b≤w.heap.size)(s:List UInt8)(u:0<d.length)(q:d.length+s.length≤100000000):
 Calls Tryz.prog 140 #[.pointer (some ⟨b,0,none⟩),.string ⟨s.toArray⟩] W fun e w'=>e=.returned (.tuple #[.int .i64 s.length,.nilIface])∧BdAt b G blk w w' (d++s):=by
 obtain⟨a,c,n,g,o,m,k,v,p⟩:=h;have i:(⟨s.toArray⟩:ByteArray).size=s.length:=by simp[ByteArray.size]
 refine(z3y b _ a d.length c _ ⟨s.toArray⟩ W n (.inr rfl) g u (by rw[i];exact q)).mono ?_;rw[i];rintro e w' ⟨rfl,a',c',r,x,t,l⟩;refine⟨rfl,zop s g o m k v p j (a':=a') (c':=c') ?_ ?_ t ?_⟩
 ·rw[zJ];exact r
 ·rw[zJ];simpa [Lib.byteCells,Lib.strCells]using x
 ·rw[zJ];exact l
def hexL:List UInt8:=[48,49,50,51,52,53,54,55,56,57,97,98,99,100,101,102]
def z9l (c:UInt8):List UInt8:=if c.toNat=34∨c.toNat=92 then [92,c]else if c.toNat<32 then [92,117,48,48,hexL.getD (c.toNat/16) 0,hexL.getD (c.toNat%16) 0]else [c]
def qKey (key:List UInt8):List UInt8:=34::key.flatMap z9l++[34]
def hexB:ByteArray:=⟨#[48,49,50,51,52,53,54,55,56,57,97,98,99,100,101,102]⟩
theorem z0E (n:Nat)(h:n<16):hexB[n]'h=hexL.getD n 0:=by
 rcases n with _|_|_|_|_|_|_|_|_|_|_|_|_|_|_|_|n
 all_goals first|rfl|omega
theorem zN0 (c:UInt8):(z9l c).length≤6:=by
 unfold z9l;split
 ·simp
 ·split<;>simp
theorem zGl (l:List UInt8):(l.flatMap z9l).length≤6*l.length:=by
 induction l with
 |nil=>simp
 |cons c t ih=>have:=zN0 c;rw[List.flatMap_cons,zJ,List.length_cons];omega
theorem zWo (key:List UInt8)(j:Nat)(h:j<key.length):34::(key.take (j+1)).flatMap z9l=(34::(key.take j).flatMap z9l)++z9l key[j]:=by
 rw[List.take_succ_eq_append_getElem h,List.flatMap_append];simp
theorem zax {b G:Nat}{blk:Option Obj}{w W:World}{d:List UInt8}(h:BdAt b G blk w W d)(q:b=w.heap.size):Lib.IsBuilderF 274 5 b b (Lib.byteCells d) W:=by
 obtain⟨a,c,o,j,_⟩:=h;refine Lib.IsBuilderF.of (.inr ⟨Nat.le_refl _,_,o,?_,?_⟩)
 ·have e:(Lib.byteCells d).length=d.length:=by simp[Lib.byteCells]
  rw[e];obtain⟨k,i|⟨g,m,l,i,p,n⟩⟩:=j
  ·exact⟨k,.inl i⟩
  ·exact⟨k,.inr ⟨g,m,l,i,by omega,n⟩⟩
 ·intro e;have:=(j.lt b e).1;omega
theorem zbns {b G:Nat}{blk:Option Obj}{w W:World}{a:List UInt8}(h:BdAt b G blk w W a)(d:b≤w.heap.size)(x:UInt8)(n:Nat)(g:x.toNat=n)(i:a.length≤100000000):
 Calls prog 139 #[.pointer (some ⟨b,0,none⟩),.int .u8 (n:Int)] W fun e w'=>e=.returned .nilIface∧BdAt b G blk w w' (a++[x]):=by
 rw[←g];exact zXD h d x i
theorem quoted_any (key:List UInt8)(w:World)(hl:key.length≤10000000):
 Calls prog 99 #[.string ⟨key.toArray⟩] w fun e w'=>e=.returned (.string ⟨(qKey key).toArray⟩)∧Below w.heap.size w w':=by
 obtain⟨G,D⟩:∃G,Hid (qKey key=G):=⟨_,rfl⟩;rw[D.out];obtain⟨x,t⟩:∃x,x=w.alloc (.cells #[.pointer none,.slice none 0 0] 274):=⟨_,rfl⟩;have F:x.heap[w.heap.size]?=some (.cells #[.pointer none,.slice none 0 0] 274 (0,0)):=by rw[t];exact ziF _ _ _ rfl
 have K:Below w.heap.size w x:=by rw[t];exact zA _ _
 have L:x.heap.size=w.heap.size+1:=by rw[t];simp
 have C:=z8V w.heap.size none none 0 0 [] 34 x F (.inl rfl) (World.ownsRow_nil _ _ _ _) (by omega);have S:=Hid.mk' (And.intro F (And.intro K L));clear F K L;go_enter func99,ntmps99;go_wp2_with fail;rw[←t];refine C.mono ?_;rintro e b ⟨rfl,a1,c1,U,J,V,k4⟩;clear C t;have I:=zBq U;have ae:=V.size;have E:=Lib.run_convert_string_bytes (P:=prog) b 9 216 5 ⟨key.toArray⟩ underlying9 underlying216 underlying5;have N:(⟨key.toArray⟩:ByteArray).size=key.length:=by simp[ByteArray.size]
 rw[N]at E;obtain⟨n,p⟩:∃n,n=Lib.bytesWorld b 5 ⟨key.toArray⟩:=⟨_,rfl⟩;rw[←p]at E;generalize grownCap b key.length 0 5=gc at E;have z:∀j (h:j<key.length),n.cell? ⟨b.heap.size,j,none⟩=some (.int .u8 (key[j].toNat:Int)):=by
  intro j h;rw[p,Lib.bytesWorld_cell b _ _ j (by rw[N];exact h)];simp[List.getD,h]
 have Q:BdAt w.heap.size b.heap.size n.heap[b.heap.size]? w n [34]:=by
  have H:∀i,i<b.heap.size→n.heap[i]?=b.heap[i]?:=fun i hi=>by rw[p];exact Lib.bytesWorld_at_old _ _ _ i hi
  have af:n.heap.size=b.heap.size+1:=by rw[p];exact Lib.bytesWorld_size _ _ _
  refine⟨a1,c1,(H _ I).trans U,owns_same J (fun g hg=>H g (J.lt g hg).2),?_,rfl,I,by omega,?_⟩
  ·intro e;have:=(J.lt _ e).2;omega
  ·have Y:Below b.heap.size b n:=(by rw[p];exact Go.Joins.below_bytesWorld _ _ _ _ zH);have hk:Below w.heap.size x b:=V.below (by have:=S.out.2.2;omega) (fun g hg=>by
    rcases List.mem_cons.1 hg with e|e
    ·omega
    ·cases e)
   exact(S.out.2.1.trans hk).trans (Y.mono (by omega))
 have Z:=Hid.mk' Q;have HC:=Hid.mk' z;clear Q z p U J V k4 S;go_wp2;have l:w.heap.size≤w.heap.size:=Nat.le_refl _;go_loopw [10] (fun i wr=>∃j:Nat,i=.int .i64 (j:Int)∧j≤key.length∧Hid (BdAt w.heap.size b.heap.size n.heap[b.heap.size]? w wr (34::(key.take j).flatMap z9l))) (fun i _=>key.length-(intOf i).toNat)
 case atStart=>exact⟨0,rfl,by omega,Z⟩
 case round=>
  obtain⟨j,rfl,hj,v⟩:=hrel;have y:(34::(key.take j).flatMap z9l).length≤60000001:=by
   have:=zGl (key.take j);rw[List.length_cons];rw[List.length_take]at this;omega
  have q:0<(34::(key.take j).flatMap z9l).length:=by simp
  by_cases hin:j<key.length
  ·have W:(j:Int)<(key.length:Int):=(by omega);have r:=Hid.mk' (zWo key j hin);have hc:wr.cell? ⟨b.heap.size,j,none⟩=some (.int .u8 (key[j].toNat:Int)):=by
    rw[←HC.out j hin];obtain⟨_,_,_,_,_,h,_⟩:=v.out;exact World.cell?_of_block (w:=n) (a:=⟨b.heap.size,j,none⟩) h
   generalize key[j]=c at hc r;generalize 34::(key.take j).flatMap z9l=out at v y q r;have ag:c.toNat<256:=c.toNat_lt;by_cases h34:c.toNat=34∨c.toNat=92
   ·have B:Hid (34::(key.take (j+1)).flatMap z9l=(out++[92])++[c]):=by
     have h:=r.out;unfold z9l at h;rw[if_pos h34]at h;show _=_;unfold z9l;rw[h,List.append_assoc];rfl
    have k:=zbns v.out l 92 92 rfl (by omega);by_cases C:c.toNat=34
    ·have M:((c.toNat:Int)==34)=true:=(by rw[C];rfl);clear h34 C r;go_wp2_with (first
      | (go_at_call 139;refine k.mono ?_;rintro e X ⟨rfl,m⟩;have s:=zXD m l c (by rw[zJ];simp;omega);clear k m)
      | (go_at_call 139;refine s.mono ?_;rintro e R ⟨rfl,d⟩;have u:=Hid.mk' d;clear s d))
     go_round
     case measure=>rw[show intOf (.int .i64 (j:Int))=(j:Int)from rfl,show intOf (.int .i64 ((j:Int)+1))=(j:Int)+1 from rfl];omega
     case rel=>exact⟨j+1,by go_num,by omega,by rw[B.out];exact u⟩
    ·have M:((c.toNat:Int)==34)=false:=(by simp;omega);have ad:((c.toNat:Int)==92)=true:=(by simp;omega);clear h34 C r;go_wp2_with (first
      | (go_at_call 139;refine k.mono ?_;rintro e X ⟨rfl,m⟩;have s:=zXD m l c (by rw[zJ];simp;omega);clear k m)
      | (go_at_call 139;refine s.mono ?_;rintro e R ⟨rfl,d⟩;have u:=Hid.mk' d;clear s d))
     go_round
     case measure=>rw[show intOf (.int .i64 (j:Int))=(j:Int)from rfl,show intOf (.int .i64 ((j:Int)+1))=(j:Int)+1 from rfl];omega
     case rel=>exact⟨j+1,by go_num,by omega,by rw[B.out];exact u⟩
   ·have M:((c.toNat:Int)==34)=false:=(by simp;omega);have ad:((c.toNat:Int)==92)=false:=(by simp;omega);by_cases h32:c.toNat<32
    ·have ab:(c.toNat:Int)<32:=(by omega);have k:=zwz v.out l [92,117,48,48] q (by simp;omega);go_wp2_with (first
      | (go_at_call 140;refine k.mono ?_;rintro e X ⟨rfl,m⟩;clear k)
      | (go_at_call 139;refine(zXD m l _ (by rw[zJ];simp;omega)).mono ?_;rintro e R ⟨rfl,d⟩;clear m))
     refine(zXD d l _ (by rw[zJ,zJ];simp;omega)).mono ?_;rintro e w5 ⟨rfl,o⟩;have A:=Hid.mk' o;clear d o;have B:Hid (34::(key.take (j+1)).flatMap z9l=((out++[92,117,48,48])++[hexB[c.toNat/16]'(by show _<16;omega)])++[hexB[c.toNat%16]'(by show _<16;omega)]):=by
      show _=_;rw[r.out];unfold z9l;rw[if_neg h34,if_pos h32,←z0E (c.toNat/16) (by omega),←z0E (c.toNat%16) (by omega)];simp;exact⟨rfl,rfl⟩
     clear r h34 h32;go_wp2;go_round
     case measure=>rw[show intOf (.int .i64 (j:Int))=(j:Int)from rfl,show intOf (.int .i64 ((j:Int)+1))=(j:Int)+1 from rfl];omega
     case rel=>exact⟨j+1,by go_num,by omega,by rw[B.out];exact A⟩
    ·have ab:¬(c.toNat:Int)<32:=(by omega);have B:Hid (34::(key.take (j+1)).flatMap z9l=out++[c]):=by
      have h:=r.out;show _=_;rw[h];unfold z9l;rw[if_neg h34,if_neg h32]
     have k:=zXD v.out l c (by omega);clear h34 r h32;go_wp2_with (go_at_call 139;refine k.mono ?_;rintro e R ⟨rfl,d⟩;have u:=Hid.mk' d;clear k d);go_round
     case measure=>rw[show intOf (.int .i64 (j:Int))=(j:Int)from rfl,show intOf (.int .i64 ((j:Int)+1))=(j:Int)+1 from rfl];omega
     case rel=>exact⟨j+1,by go_num,by omega,by rw[B.out];exact u⟩
  ·have W:¬(j:Int)<(key.length:Int):=(by omega);have aa:j=key.length:=(by omega);subst aa;rw[List.take_length]at v y q;have hE:=zXD v.out l 34 (by omega);have O:Hid ((34::key.flatMap z9l)++[34]=G):=D.out;generalize 34::key.flatMap z9l=out at v y q hE O;go_wp2_with (go_at_call 139;refine hE.mono ?_;rintro e w5 ⟨rfl,o⟩;have hS:=zax o rfl;have A:=Hid.mk' o;clear o);refine(Tryz.Builder_String_any_k w.heap.size w.heap.size _ _ hS (by obtain⟨_,_,_,_,_,_,_,_,h⟩:=A.out;exact h.size)).mono ?_;rintro e w6 ⟨rfl,_,b6,_⟩;go_wp2;go_ret;obtain⟨_,_,_,_,_,_,_,_,h⟩:=A.out;exact⟨by rw[O.out];rfl,h.trans b6⟩
open Go.RowKit Go.Maps
def flt (k:List UInt8)(l:List OpV):List OpV:=l.filter (fun o=>decide (o.key=k))
theorem flt_snoc (k:List UInt8)(l:List OpV)(o:OpV):flt k (l++[o])=if o.key=k then flt k l++[o]else flt k l:=by
 unfold flt;rw[List.filter_append];by_cases h:o.key=k
 ·rw[if_pos h];simp[h]
 ·rw[if_neg h];simp[h]
theorem zdB (k:List UInt8)(l:List OpV):(flt k l).length≤l.length:=List.length_filter_le _ _
def z4U:List OpV→List (List UInt8)
 | []=>[]
 |o::t=>if o.key∈z4U t then z4U t else o.key::z4U t
theorem z1b (l:List OpV):(z4U l).Nodup:=by
 induction l with
 |nil=>exact List.nodup_nil
 |cons o t ih=>
   unfold z4U;split
   ·exact ih
   ·exact List.nodup_cons.2 ⟨‹_›,ih⟩
theorem zPi (l:List OpV)(k:List UInt8):k∈z4U l↔flt k l≠[]:=by
 induction l with
 |nil=>simp[z4U,flt]
 |cons o t ih=>
   unfold z4U;by_cases h:o.key=k
   ·have a:flt k (o::t)≠[]:=(by unfold flt;simp[h]);simp only [a,ne_eq,not_false_iff,iff_true];split
    ·rw[←h];assumption
    ·rw[←h];simp
   ·have a:flt k (o::t)=flt k t:=(by unfold flt;simp[h]);rw[a,←ih];split
    ·rfl
    ·simp[Ne.symm h]
theorem z4i (l:List OpV):(z4U l).length≤l.length:=by
 induction l with
 |nil=>simp[z4U]
 |cons o t ih=>
   unfold z4U;split<;>simp<;>omega
theorem z2a (W:World)(b:Nat)(a:Option Addr)(n c:Nat)(d:List Value)(s:OpV)(h:W.ownsRow b 27 10 (.slice a n c) n d)(g:n≤3000000)(e:b≤W.heap.size):ApR 27 30 10 W b a n c d (opvCells s):=zUq zSl underlying30 rfl (by decide) (by decide) rfl rfl h (by omega) e
structure KM (bm:Nat)(W:World)(l:List OpV)(a:List UInt8→Option Addr)(c:List UInt8→Nat):Prop where
 map:∃n sz f,MapFn W 9 bm n sz f∧n≤l.length∧(∀k,f (.string k)=if flt k l=[]then none else some (.slice (a k) (flt k l).length (c k)))∧∀kl,f kl≠none→∃k,kl=.string k
 own:∀k,W.ownsRow (bm+1) 27 10 (.slice (a k) (flt k l).length (c k)) (flt k l).length (opsRow (flt k l))
 nil:∀k,flt k l=[]→a k=none∧c k=0
 dis:∀k k' g,k≠k'→(Value.slice (a k) (flt k l).length (c k)).ownBlock=some g→(Value.slice (a k') (flt k' l).length (c k')).ownBlock≠some g
theorem KM.start (W:World):KM W.heap.size (W.alloc (.map #[] 0)) [] (fun _=>none) (fun _=>0):=
 ⟨⟨0,0,fun _=>none,MapFn.made W _,Nat.le_refl _,fun k=>by simp[flt],fun kl h=>absurd rfl h⟩,fun k=>World.ownsRow_nil _ _ _ _,fun k _=>⟨rfl,rfl⟩,fun k k' g _ h=>by simp[Value.ownBlock]at h⟩
theorem KM.on {e:Nat}{W W':World}{l:List OpV}{a:List UInt8→Option Addr}{c:List UInt8→Nat}(h:KM e W l a c)(b:Below W.heap.size W W'):KM e W' l a c:=by
 obtain⟨⟨n,sz,f,i,m⟩,d,o,j⟩:=h;exact⟨⟨n,sz,f,i.below b,m⟩,fun k=>owns_same (d k) (fun g hg=>b.block g ((d k).lt g hg).2),o,j⟩
theorem zPl (w:World):(zeroValue 30).run prog w=.ok (.slice none 0 0) w:=by kernel_rfl
theorem KM.look {b:Nat}{W:World}{l:List OpV}{a:List UInt8→Option Addr}{c:List UInt8→Nat}(h:KM b W l a c)(k:List UInt8)(o:k.length≤10000000):
 (Instr.lookup 208 (.map (some b)) (.string ⟨k.toArray⟩) false).run prog W=.ok (.slice (a k) (flt k l).length (c k)) W:=by
 obtain⟨⟨n,sz,f,i,_,j,_⟩,_,g,_⟩:=h;have d:=zjt (s:=⟨k.toArray⟩) (by show k.toArray.size≤_;rw[List.size_toArray];unfold maxLen;omega);have m:=i.run1 lawS underlying208 (zPl W) d;rw[m,j];by_cases e:flt k l=[]
 ·rw[if_pos e,(g k e).1,(g k e).2,e];rfl
 ·rw[if_neg e];rfl
theorem KM.put {b:Nat}{W:World}{l:List OpV}{a:List UInt8→Option Addr}{c:List UInt8→Nat}(h:KM b W l a c)(o:OpV)(A:o.key.length≤10000000)(R:l.length≤1000):
 ∃a' c' i j,(Builtin.append_ #[30,30] 30 #[.slice (a o.key) (flt o.key l).length (c o.key),.slice (some ⟨W.heap.size,0,none⟩) 1 1]).run prog (W.alloc (.cells (opvCells o).toArray 27))=.ok (.slice a' ((flt o.key l).length+1) c') i∧
  (Instr.mapUpdate 208 (.map (some b)) (.string ⟨o.key.toArray⟩) (.slice a' ((flt o.key l).length+1) c')).run prog i=.ok () j∧Below b W i∧Below b W j∧(∀g,g<W.heap.size→g≠b→(Value.slice (a o.key) (flt o.key l).length (c o.key)).ownBlock≠some g→i.heap[g]?=W.heap[g]?∧j.heap[g]?=W.heap[g]?)∧
  KM b j (l++[o]) (fun k=>if k=o.key then a' else a k) (fun k=>if k=o.key then c' else c k):=by
 classical
 have Q:=zdB o.key l;obtain⟨⟨n,sz,f,G,S,M,O⟩,D,N,B⟩:=h;have P:=G.lt;obtain⟨a',c',i,H,p,r,u⟩:=z2a W (b+1) (a o.key) (flt o.key l).length (c o.key) _ o (D o.key) (by omega) (by omega);have d:∀k g,(Value.slice (a k) (flt k l).length (c k)).ownBlock=some g→b<g∧g<W.heap.size:=fun k g hg=>(D k).lt g hg;have L:MapFn i 9 b n sz f:=G.kept r (fun hm=>by have:=(d o.key b (by simpa using hm)).1;omega);have K:=zjt (s:=⟨o.key.toArray⟩) (by show o.key.toArray.size≤_;rw[List.size_toArray];unfold maxLen;omega);obtain⟨j,C,J,v⟩:=L.runPut lawS underlying208 (by unfold maxLen;omega) (.slice a' ((flt o.key l).length+1) c') K trivial (fun kl=>if kl=.string o.key then some (.slice a' ((flt o.key l).length+1) c')else f kl) (by simp) (fun x hx=>by simp at hx;simp[hx]);have I:∀g,g<W.heap.size→(Value.slice (a o.key) (flt o.key l).length (c o.key)).ownBlock≠some g→i.heap[g]?=W.heap[g]?:=fun g hg hne=>r.block g hg (fun hm=>hne (by simpa using hm));have F:∀g,g<W.heap.size→g≠b→(Value.slice (a o.key) (flt o.key l).length (c o.key)).ownBlock≠some g→j.heap[g]?=W.heap[g]?:=fun g hg hb hne=>(v.block g (zI hg r.size) (by simpa using hb)).trans (I g hg hne);have t:Below b W i:=r.below (by omega) (fun g hg=>by have:=(d o.key g (by simpa using hg)).1;omega);have E:Below b W j:=t.trans (v.below (by have:=t.size;omega) (fun g hg=>by simp at hg;omega));refine⟨a',c',i,j,H,C,t,E,fun g h h' h''=>⟨I g h h'',F g h h' h''⟩,⟨_,_,_,J,by rw[zJ];simp;omega,fun k=>?_,fun kl hkl=>?_⟩,fun k=>?_,fun k A=>?_,fun k k' g hkk' hg=>?_⟩
 ·rw[flt_snoc];by_cases e:k=o.key
  ·subst e;simp
  ·have q:¬o.key=k:=fun x=>e x.symm;simp only [if_neg q,Lit.string.injEq,if_neg e];exact M k
 ·by_cases e:kl=.string o.key
  ·exact⟨_,e⟩
  ·simp only [if_neg e]at hkl;exact O kl hkl
 ·rw[flt_snoc];by_cases e:k=o.key
  ·subst e;simp only [if_true,zJ,List.length_singleton];have:=owns_same (w':=j) p (fun g hg=>v.block g (p.lt g hg).2 (by have:=(p.lt g hg).1;simp;omega));rw[show opsRow (flt o.key l++[o])=opsRow (flt o.key l)++opvCells o by unfold opsRow;simp];exact this
  ·have q:¬o.key=k:=fun x=>e x.symm;simp only [if_neg q,if_neg e];exact owns_same (D k) (fun g hg=>F g (d k g hg).2 (by have:=(d k g hg).1;omega) (B k o.key g e hg))
 ·rw[flt_snoc]at A;by_cases e:k=o.key
  ·subst e;simp at A
  ·have q:¬o.key=k:=fun x=>e x.symm;rw[if_neg q]at A;simp only [if_neg e];exact N k A
 ·simp only [flt_snoc]at hg⊢;by_cases e:k=o.key
  ·subst e;have z:¬k'=o.key:=fun x=>hkk' x.symm;have y:¬o.key=k':=hkk';simp only [if_true,zJ,List.length_singleton]at hg;simp only [if_neg z,if_neg y];intro m;rcases u with h|⟨g3,h,hge3⟩
   ·rw[h]at hg;exact B o.key k' g hkk' hg m
   ·rw[h]at hg;injection hg with hg;have:=(d k' g m).2;omega
  ·have q:¬o.key=k:=fun x=>e x.symm;simp only [if_neg q,if_neg e]at hg;by_cases z:k'=o.key
   ·subst z;simp only [if_true,zJ,List.length_singleton];intro m;rcases u with h|⟨g3,h,hge3⟩
    ·rw[h]at m;exact B k o.key g hkk' hg m
    ·rw[h]at m;injection m with m;have:=(d k g hg).2;omega
   ·have y:¬o.key=k':=fun x=>z x.symm;simp only [if_neg z,if_neg y];exact B k k' g hkk' hg
theorem KM.keys {i:Nat}{W:World}{l:List OpV}{a:List UInt8→Option Addr}{c:List UInt8→Nat}(h:KM i W l a c):∃n D,W.ownsMap prog 9 zXz i n D∧Maps.size D≤l.length∧(z4U l).Perm (strKeys D):=by
 obtain⟨⟨n,sz,f,⟨D,b,u,⟨r,rfl,o⟩,m⟩,q,k,v⟩,_⟩:=h;refine⟨n,.map r,b,Nat.le_trans b.size_le q,perm_strKeys o (fun p hp'=>?_) (z1b l) (fun x=>?_)⟩
 ·obtain⟨t,g,j⟩:=b.keysOf;injection g with g;obtain⟨key,d⟩:=j p (by rw[←g];exact hp');obtain⟨x,_,s,_⟩:=Maps.keyOf_str underlying9 d;exact⟨x,s⟩
 ·rw[zPi,(m _).1,k];by_cases e:flt x l=[]
  ·simp[e]
  ·simp[e]
open Go.RowKit Go.Maps Go.Sort Go.Shelf
theorem zKC (m:Nat):AnyZ.SortsIn prog Tryz.sortedS_ren Fence.wide m:=
 ⟨fun blk off cap ss W hH hblk hsz=>callsIn_wide.2 (AnyM.slices_Sort_string Tryz.sortS blk off cap ss W hH hblk hsz),
  fun p cap W=>callsIn_wide.2 (AnyM.slices_Sort_string_none Tryz.sortS p cap W)⟩
theorem zl2 (a:Option Nat)(W:World):Calls prog 98 #[.map a] W fun e w'=>e=.returned (.func (.func 138) #[] #[.pointer (some ⟨W.heap.size,0,none⟩)])∧w'=W.alloc (.cells #[.map a] 208):=
 (callsIn_wide (n:=5)).1 (AnyZ.keys_in Tryz.keysO Fence.wide 5 trivial rfl a W)
theorem zWf {H:Type}(b l:Nat)(a:DataW H)(R:Value→Option (DataW H×List MemPlace))(w:World)(g:w.ownsMap prog 9 R b l a)(i:Maps.size a≤maxLen)(d:Maps.size a*16≤140737488355328):
 Calls prog 97 #[.func (.func 138) #[] #[.pointer (some ⟨w.heap.size,0,none⟩)]] (w.alloc (.cells #[.map (some b)] 208)) fun e w'=>∃(v:Value) (ss:List (List UInt8)),e=.returned v∧ss.Perm (strKeys a)∧
  w'.ownsRow (w.alloc (.cells #[.map (some b)] 208)).heap.size 9 1 v ss.length ((ss.mergeSort (fun x y=>decide (x≤y))).map encStr)∧(v=.slice none 0 0↔ss=[])∧Below (w.alloc (.cells #[.map (some b)] 208)).heap.size (w.alloc (.cells #[.map (some b)] 208)) w':=by
 have k:=g.lt;have j:SeqGives Fence.wide 2 prog 138 #[.pointer (some ⟨w.heap.size,0,none⟩)] encStr (fun ss=>ss.Perm (strKeys a)) (Maps.size a) (w.alloc (.cells #[.map (some b)] 208)):=
  AnyZ.keys_gives (ρ:=Tryz.keysO_ren) { Tryz.keysO with } Fence.wide _ trivial rfl (by omega) w.heap.size b l a _ (by simp) (by simp) (by
   obtain⟨r,h,m,q,p,o⟩:=g;exact⟨r,h,(Below.heap_alloc _ _ b k).trans m,q,p,o⟩)
 exact(callsIn_wide (n:=5)).1 (AnyZ.sorted_in Tryz.sortedS Fence.wide 5 trivial trivial trivial trivial rfl (by omega) (zKC _) (enters_of func137 (by kernel_rfl) rfl) 138 #[.pointer (some ⟨w.heap.size,0,none⟩)] trivial (enters_of func138 (by kernel_rfl) rfl) _ _ i d _ j)
open Go.RowKit Go.Maps Go.Sort
def zD5 (l:List OpV):List (List UInt8):=(z4U l).mergeSort (fun x y=>decide (x≤y))
def zWP (l:List OpV):List (List UInt8×List OpV):=(zD5 l).map (fun k=>(qKey k,flt k l))
theorem sortedU_len (l:List OpV):(zD5 l).length≤l.length:=by
 unfold zD5;rw[List.length_mergeSort];exact z4i l
theorem zMI {l:List OpV}{k:List UInt8}(h:k∈zD5 l):flt k l≠[]:=by
 unfold zD5 at h;rw[List.mem_mergeSort]at h;exact(zPi l k).1 h
theorem zY9:(prog.info? 200).map (fun i=>(i.zero,i.size,i.bytes))=some (some (.agg #[.string ⟨#[]⟩,.slice none 0 0]),2,40):=by kernel_rfl
theorem z0L (W:World)(b:Nat)(a:Option Addr)(n c:Nat)(d:List Value)(s:ByteArray)(x:Option Addr)(k y:Nat)(h:W.ownsRow b 200 2 (.slice a n c) n d)(B:n≤3000000)(z:b≤W.heap.size):
 ∃a' c' w',(Builtin.append_ #[147,147] 147 #[.slice a n c,.slice (some ⟨W.heap.size,0,none⟩) 1 1]).run prog (W.alloc (.cells #[.string s,.slice x k y] 200))=.ok (.slice a' (n+1) c') w'∧w'.ownsRow b 200 2 (.slice a' (n+1) c') (n+1) (d++[.string s,.slice x k y])∧Below b W w':=by
 obtain⟨v,e,m,q,o⟩:=info_parts zY9;obtain⟨C,p,r,j,t,_⟩:=run_append_own (P:=prog) (W.alloc (.cells ([.string s,.slice x k y]:List Value).toArray 200)) b 147 147 200 v _ 2 40 underlying147 e m q o rfl (by decide) (.slice a n c) n d (h.alloc _) ⟨W.heap.size,0,none⟩ 1 1 [.string s,.slice x k y] rfl (z9R W _ _) (by intro u l;simp at l;rcases l with rfl|rfl<;>rfl) (by unfold maxLen;omega) (by omega) (by simp;omega);obtain⟨a',c',rfl⟩:=zIW j;have i:∀g,(Value.slice a n c).ownBlock=some g→b≤g:=zYv h;have A:Kept (Value.slice a n c).ownBlock.toList W p:=((Kept.refl _ W).alloc _).grownS t (fun g' hg'=>by rw[hg'];simp);exact⟨a',c',p,r,j,A.below z (fun g hg=>i g (by simpa using hg))⟩
def pRow (l:List OpV)(a:List UInt8→Option Addr)(c:List UInt8→Nat)(ks:List (List UInt8)):List Value:=ks.flatMap (fun k=>[.string ⟨(qKey k).toArray⟩,.slice (a k) (flt k l).length (c k)])
theorem z2R (l:List OpV)(a:List UInt8→Option Addr)(c:List UInt8→Nat)(b:List (List UInt8))(j:Nat)(h:j<b.length):pRow l a c (b.take (j+1))=pRow l a c (b.take j)++[.string ⟨(qKey b[j]).toArray⟩,.slice (a b[j]) (flt b[j] l).length (c b[j])]:=by
 unfold pRow;rw[List.take_succ_eq_append_getElem h,List.flatMap_append];simp
theorem zUW (l:List OpV)(a:List UInt8→Option Addr)(c:List UInt8→Nat)(b:List (List UInt8))(j:Nat)(h:j<b.length):(pRow l a c b)[j*2]?=some (.string ⟨(qKey b[j]).toArray⟩)∧(pRow l a c b)[j*2+1]?=some (.slice (a b[j]) (flt b[j] l).length (c b[j])):=by
 induction b generalizing j with
 |nil=>simp at h
 |cons k t ih=>
   unfold pRow at ih⊢;rw[List.flatMap_cons];cases j with
   |zero=>simp
   |succ j=>
     have:=ih j (by simpa using h);rw[show(j+1)*2=j*2+2 by omega];simp only [List.cons_append,List.nil_append,List.getElem?_cons_succ,List.getElem_cons_succ];exact this
theorem zZY {b:Nat}{W:World}{l:List OpV}{a:List UInt8→Option Addr}{c:List UInt8→Nat}(h:KM b W l a c)(k:List UInt8):OAt W (a k) (flt k l):=z6a (h.own k)
theorem zpj (oa:Option Addr)(aK:Nat)(b:List OpV)(w:World)(hr:OAt w oa b)(hl:b.length≤128)(hk:∀o∈b,o.key.length≤10000000):
 Calls prog 68 #[.slice oa b.length aK] w fun e w'=>∃a c,e=.returned (.slice a (zWP b).length c)∧PAt w' a (zWP b)∧Below w.heap.size w w':=by
 have aP:=@run_makeMap prog;have HK:=Hid.mk' hk;clear hk;go_enter func68,ntmps68;go_wp2_with fail;go_loopw [12] (fun i wr=>∃(j:Nat) (a:List UInt8→Option Addr) (c:List UInt8→Nat),i=.int .i64 (j:Int)∧j≤b.length∧Hid (KM w.heap.size wr (b.take j) a c)∧Hid (Below w.heap.size w wr)) (fun i _=>b.length-(intOf i).toNat)
 case atStart=>exact⟨0,_,_,rfl,by omega,Hid.mk' (KM.start w),Hid.mk' (zA _ _)⟩
 case round=>
  obtain⟨j,a,c,rfl,hj,E,U⟩:=hrel;by_cases hin:j<b.length
  ·have aD:(j:Int)<(b.length:Int):=(by omega);have ad:b≠[]:=(by intro h;rw[h]at hin;simp at hin);obtain⟨g,rfl,hg,hc⟩:=(hr.below U.out) ad;have d:∀c u,c<10→(opvCells b[j])[c]?=some u→wr.cell? ⟨g,j*10+c,none⟩=some u:=fun c u hcc hu=>hc _ _ ((zvc b j hin c hcc).trans hu);have I:=Hid.mk' (List.take_succ_eq_append_getElem hin);have V:=HK.out _ (List.getElem_mem hin);generalize b[j]=o at*;have q0:wr.cell? ⟨g,j*10,none⟩=some (.int .i64 o.id):=d 0 _ (by omega) rfl;have q1:=d 1 _ (by omega) rfl;have q2:=d 2 _ (by omega) rfl;have q3:=d 3 _ (by omega) rfl;have q4:=d 4 _ (by omega) rfl;have q5:=d 5 _ (by omega) rfl;have q6:=d 6 _ (by omega) rfl;have q7:=d 7 _ (by omega) rfl;have q8:=d 8 _ (by omega) rfl;have q9:=d 9 _ (by omega) rfl;clear d hc;go_wp2_with fail;obtain⟨m,P⟩:∃m,m=wr.alloc (.cells #[.int .i64 o.id,.int .i64 o.cl,.string ⟨o.name.toArray⟩,.string ⟨o.key.toArray⟩,.int .i64 o.arg,.int .i64 o.exp,.int .i64 o.call,.int .i64 o.ret,.int .i64 o.vk,.int .i64 o.vn] 27):=⟨_,rfl⟩;rw[←P];have n:m.heap[wr.heap.size]?=some (.cells #[.int .i64 o.id,.int .i64 o.cl,.string ⟨o.name.toArray⟩,.string ⟨o.key.toArray⟩,.int .i64 o.arg,.int .i64 o.exp,.int .i64 o.call,.int .i64 o.ret,.int .i64 o.vk,.int .i64 o.vn] 27 (0,0)):=(by rw[P];exact ziF _ _ _ rfl);have ag:Below wr.heap.size wr m:=(by rw[P];exact zA _ _);have ao:∀k,(Value.slice (a k) (flt k (b.take j)).length (c k)).ownBlock≠some wr.heap.size:=fun k e=>(by have:=((E.out.own k).lt _ e).2;omega);have aF:w.heap.size<wr.heap.size:=(by obtain⟨⟨_,_,_,h,_⟩,_⟩:=E.out;exact h.lt);have M1:=E.out.on (ag.trans (Below.refl _ m).drew);have K:=zBq n;have Q:=M1.look o.key V;have N:(Instr.lookup 208 (.map (some w.heap.size)) (.string ⟨o.key.toArray⟩) false).run prog (m.alloc (.cells #[.int .i64 o.id,.int .i64 o.cl,.string ⟨o.name.toArray⟩,.string ⟨o.key.toArray⟩,.int .i64 o.arg,.int .i64 o.exp,.int .i64 o.call,.int .i64 o.ret,.int .i64 o.vk,.int .i64 o.vn] 27)).drew=.ok (.slice (a o.key) (flt o.key (b.take j)).length (c o.key)) (m.alloc (.cells #[.int .i64 o.id,.int .i64 o.cl,.string ⟨o.name.toArray⟩,.string ⟨o.key.toArray⟩,.int .i64 o.arg,.int .i64 o.exp,.int .i64 o.call,.int .i64 o.ret,.int .i64 o.vk,.int .i64 o.vn] 27)).drew:=(M1.on ((Below.refl _ m.drew).alloc zH (.cells #[.int .i64 o.id,.int .i64 o.cl,.string ⟨o.name.toArray⟩,.string ⟨o.key.toArray⟩,.int .i64 o.arg,.int .i64 o.exp,.int .i64 o.call,.int .i64 o.ret,.int .i64 o.vk,.int .i64 o.vn] 27))).look o.key V;obtain⟨a',c',w7,w9,z,B,O,ai,am,M9⟩:=M1.put o V (by rw[List.length_take];omega);rw[show m.drew.heap.size=m.heap.size from rfl]at z;have q:(Builtin.append_ #[30,30] 30 #[.slice (a o.key) (flt o.key (b.take j)).length (c o.key),.slice (some ⟨m.heap.size,0,none⟩) 1 1]).run prog (m.alloc (.cells #[.int .i64 o.id,.int .i64 o.cl,.string ⟨o.name.toArray⟩,.string ⟨o.key.toArray⟩,.int .i64 o.arg,.int .i64 o.exp,.int .i64 o.call,.int .i64 o.ret,.int .i64 o.vk,.int .i64 o.vn] 27)).drew=.ok (.slice a' ((flt o.key (b.take j)).length+1) c') w7:=z;have R:=am wr.heap.size K (by omega) (ao o.key);have aN:=Hid.mk' M9;have aI:=Hid.mk' ((U.out.trans (ag.mono (by omega))).trans ((Below.refl _ m).drew.trans ai));clear M1 M9 z O ai am ao P ag q0 q1 q2 q3 q4 q5 q6 q7 q8 q9 E U;generalize (flt o.key (b.take j)).length=nn at Q N q B;generalize a o.key=aa at Q N q B;generalize c o.key=cc at Q N q B;generalize wr.heap.size=e5 at n K R aF⊢
   have t:∀W:World,W.heap[e5]?=some (.cells #[.int .i64 o.id,.int .i64 o.cl,.string ⟨o.name.toArray⟩,.string ⟨o.key.toArray⟩,.int .i64 o.arg,.int .i64 o.exp,.int .i64 o.call,.int .i64 o.ret,.int .i64 o.vk,.int .i64 o.vn] 27 (0,0))→(fun w'=>w'.cell? ⟨e5,0,none⟩=some (.int .i64 o.id)∧w'.cell? ⟨e5,1,none⟩=some (.int .i64 o.cl)∧w'.cell? ⟨e5,2,none⟩=some (.string ⟨o.name.toArray⟩)∧w'.cell? ⟨e5,3,none⟩=some (.string ⟨o.key.toArray⟩)∧w'.cell? ⟨e5,4,none⟩=some (.int .i64 o.arg)∧w'.cell? ⟨e5,5,none⟩=some (.int .i64 o.exp)∧w'.cell? ⟨e5,6,none⟩=some (.int .i64 o.call)∧w'.cell? ⟨e5,7,none⟩=some (.int .i64 o.ret)∧w'.cell? ⟨e5,8,none⟩=some (.int .i64 o.vk)∧w'.cell? ⟨e5,9,none⟩=some (.int .i64 o.vn)) W:=fun W h=>⟨(zBk h 0).trans rfl,(zBk h 1).trans rfl,(zBk h 2).trans rfl,(zBk h 3).trans rfl,(zBk h 4).trans rfl,(zBk h 5).trans rfl,(zBk h 6).trans rfl,(zBk h 7).trans rfl,(zBk h 8).trans rfl,(zBk h 9).trans rfl⟩;have aO:=t m.drew n;have an:=t (m.alloc (.cells #[.int .i64 o.id,.int .i64 o.cl,.string ⟨o.name.toArray⟩,.string ⟨o.key.toArray⟩,.int .i64 o.arg,.int .i64 o.exp,.int .i64 o.call,.int .i64 o.ret,.int .i64 o.vk,.int .i64 o.vn] 27)).drew ((zD1 _ _ _ K).trans n);have au:=t w7 (R.1.trans n);have ay:=t w9 (R.2.trans n);have r1:=t m n;obtain⟨d0,d1,d2,d3,d4,d5,d6,d7,d8,d9⟩:=r1;clear t n R;go_region_held3 (fun w'=>w'.cell? ⟨e5,0,none⟩=some (.int .i64 o.id)∧w'.cell? ⟨e5,1,none⟩=some (.int .i64 o.cl)∧w'.cell? ⟨e5,2,none⟩=some (.string ⟨o.name.toArray⟩)∧w'.cell? ⟨e5,3,none⟩=some (.string ⟨o.key.toArray⟩)∧w'.cell? ⟨e5,4,none⟩=some (.int .i64 o.arg)∧w'.cell? ⟨e5,5,none⟩=some (.int .i64 o.exp)∧w'.cell? ⟨e5,6,none⟩=some (.int .i64 o.call)∧w'.cell? ⟨e5,7,none⟩=some (.int .i64 o.ret)∧w'.cell? ⟨e5,8,none⟩=some (.int .i64 o.vk)∧w'.cell? ⟨e5,9,none⟩=some (.int .i64 o.vn)) (first|(with_reducible exact an)|(with_reducible exact au)|(with_reducible exact ay)|go_keep) (refine zti rfl _ _ 30 rfl _ _ _ _ rfl rfl q ?_)
   all_goals
    clear Q N q B aO an au ay d0 d1 d2 d3 d4 d5 d6 d7 d8 d9;go_wp2;go_round
    case measure=>simp[intOf];omega
    case rel=>exact⟨j+1,_,_,by go_num,by omega,by rw[I.out];exact aN,aI⟩
  ·have aD:¬(j:Int)<(b.length:Int):=(by omega);have X:j=b.length:=(by omega);subst X;rw[List.take_length]at E;clear hin hj hr;obtain⟨nD,D,aA,aM,ax⟩:=E.out.keys;have aq:=zWf _ nD D zXz wr aA (by unfold maxLen;omega) (by omega);go_wp2_with (first
    | (go_at_call 98;refine(zl2 _ _).mono ?_;rintro e w2 ⟨rfl,rfl⟩)
    |(go_at_call 97;refine aq.mono ?_;rintro e H ⟨v,ss,rfl,hS,C,aB,aj⟩;have A:Below wr.heap.size wr H:=((Below.refl _ wr).alloc zH _).trans (aj.mono (by simp));obtain⟨l,G⟩:∃l,Hid (l=zD5 b):=⟨_,rfl⟩;have ae:ss.mergeSort (fun x y=>decide (x≤y))=l:=by { rw[G.out];exact mergeSort_of_perm (hS.trans ax.symm) };have av:ss.length=l.length:=by { rw[←ae,List.length_mergeSort] };rw[ae,av]at C;obtain⟨va,vc,rfl⟩:=zIW C))
   have az:∀k∈l,k.length≤10000000:=by
    intro k hk;rw[G.out]at hk;obtain⟨o,ho⟩:=List.exists_mem_of_ne_nil _ (zMI hk);unfold flt at ho;rw[List.mem_filter]at ho;have:=HK.out o ho.1;rw[of_decide_eq_true ho.2]at this;exact this
   have aQ:l.length≤128:=(by rw[G.out];have:=sortedU_len b;omega);have M3:=Hid.mk' (E.out.on A);have ah:=Hid.mk' (U.out.trans (A.mono U.out.size));have HR:=Hid.mk' C;have aJ:=Hid.mk' az;have ar:Hid (l=zD5 b):=G;have aL:=A.size;clear az aq aA aM ax hS C aB aj A G ae av E U HK aL;go_loopw [6,31] (fun s i w4=>∃(j:Nat) (a2:Option Addr) (Y:Nat),s=.slice a2 j Y∧i=.int .i64 (j:Int)∧j≤l.length∧Hid (w4.ownsRow H.heap.size 200 2 (.slice a2 j Y) j (pRow b a c (l.take j)))∧Hid (Below H.heap.size H w4)) (fun _ i _=>l.length-(intOf i).toNat)
   case atStart=>exact⟨0,none,0,rfl,rfl,by omega,Hid.mk' (World.ownsRow_nil _ _ _ _),Hid.mk' (zD)⟩
   case round=>
    obtain⟨j,a2,Y,rfl,rfl,hj,S,L⟩:=hrel;by_cases hin:j<l.length
    ·have aE:(j:Int)<(l.length:Int):=(by omega);obtain⟨gv,rfl,aC,aw⟩:∃gv,va=some ⟨gv,0,none⟩∧gv<H.heap.size∧∀i (h:i<l.length),wr.cell? ⟨gv,i,none⟩=some (.string ⟨l[i].toArray⟩):=by
      have hx:=HR.out;obtain⟨_,⟨_,r⟩|⟨g,cp,aH,r,_,hb,_⟩⟩:=hx
      ·omega
      ·injection r with r;subst r;refine⟨g,rfl,zBq hb,fun i h=>?_⟩;have h4:=HR.out.cells (g:=g) rfl i (.string ⟨l[i].toArray⟩) (by rw[List.getElem?_map,zC h];rfl);rw[Addr.add_lit,Nat.zero_add]at h4;exact(L.out.cell (p:=⟨g,i,none⟩) (zBq hb)).trans h4
     have hc:=aw j hin;have I:=Hid.mk' (z2R b a c l j hin);have Z:=aJ.out _ (List.getElem_mem hin);generalize l[j]=key at hc I Z;clear aw;have hq:=fun W=>quoted_any key W Z;have HL:=Hid.mk' (fun W (h:Below H.heap.size H W)=>(M3.out.on h).look key Z);have l0:=HL.out wr.drew (L.out.trans (zD).drew);have af:=L.out.size;have aR:gv<wr.heap.size:=zI aC af;generalize flt key b=fk at I HL l0;generalize a key=ak at I HL l0;generalize c key=ck at I HL l0;go_wp2_with fail;go_region_law (first
      |(go_simp;go_at_call 99;refine(hq _).mono ?_;rintro e w5 ⟨rfl,ab⟩;have F:Below wr.heap.size wr w5:=(Below.refl _ wr).drew.trans ab;have l5:=HL.out w5 (L.out.trans (F.mono af));obtain⟨a3,c3,w7,z,M,O⟩:=z0L w5 H.heap.size a2 j Y _ ⟨(qKey key).toArray⟩ ak fk.length ck (owns_same S.out (fun g hg=>F.block g (S.out.lt g hg).2)) (by omega) (by have:=F.size;omega);have H7:=Hid.mk' (And.intro M ((L.out.trans (F.mono af)).trans O));clear M O F ab)
      | (refine zti rfl _ _ 147 rfl _ _ _ _ rfl rfl z ?_))
     all_goals
      clear l0 l5 z hq;go_wp2;go_round
      case measure=>simp[intOf];omega
      case rel=>exact⟨j+1,a3,c3,rfl,by go_num,by omega,by rw[I.out];exact Hid.mk' H7.out.1,Hid.mk' H7.out.2⟩
    ·have aE:¬(j:Int)<(l.length:Int):=(by omega);have X:j=l.length:=(by omega);subst X;rw[List.take_length]at S;go_wp2;go_ret;have J:(zWP b).length=l.length:=(by unfold zWP;rw[List.length_map,ar.out]);refine⟨a2,⟨Y,by rw[J];rfl⟩,?_,ah.out.trans (L.out.mono ah.out.size)⟩;intro ad;obtain⟨_,⟨_,r⟩|⟨g,cp,aH,r,_,hb,_⟩⟩:=S.out
     ·exact absurd (List.eq_nil_of_length_eq_zero (by rw[J];exact r)) ad
     ·injection r with r;subst r;refine⟨g,rfl,zBq hb,fun i hi=>?_⟩;have al:i<l.length:=(by rw[←J];exact hi);have he:(zWP b)[i]=(qKey l[i],flt l[i] b):=by
       have:(zWP b)[i]?=some (qKey l[i],flt l[i] b):=by
        unfold zWP;rw[List.getElem?_map,←ar.out,zC al];rfl
       rw[zC hi]at this;exact Option.some.inj this
      rw[he];obtain⟨g1,g2⟩:=zUW b a c l i al;have h4:=S.out.cells (g:=g) rfl (i*2) _ g1;have h5:=S.out.cells (g:=g) rfl (i*2+1) _ g2;rw[Addr.add_lit,Nat.zero_add]at h4 h5;exact⟨_,_,h4,h5,(zZY M3.out l[i]).below L.out⟩
end Go.Proofs.YtoeoinpaidhmcaaGreatDoor.srch
