/- One text. -/
import Derived.Test.YtbbkihekjdffpaaGreatDoorHistY
import Derived.BigRegion
import Derived.Deep.DeepCutAuto
import Derived.Deep.RegionLaw
import Derived.Deep.RegionWith
namespace Go.Proofs.YtbbkihekjdffpaaGreatDoor
open Go.RowKit Go.Maps

structure OpV where
 id:Int
 cl:Int
 name:List UInt8
 key:List UInt8
 arg:Int
 exp:Int
 call:Int
 ret:Int
 vk:Int
 vn:Int
def opvCells (o:OpV):List Value:=[.int .i64 o.id,.int .i64 o.cl,.string ⟨o.name.toArray⟩,.string ⟨o.key.toArray⟩,.int .i64 o.arg,.int .i64 o.exp,.int .i64 o.call,.int .i64 o.ret,.int .i64 o.vk,.int .i64 o.vn]
def opsRow (l:List OpV):List Value:=l.flatMap opvCells

def z09 (l:List OpV) (x:Int):Option Nat:=l.findIdx? (fun o=>o.id == x)
def idFn (l:List OpV):Lit→Option Value
 | .int .i64 x=>(z09 l x).map (fun i=>Value.int .i64 (i:Int))
 | _=>none
def openOf (l:List OpV) (c:Int):Nat:=(l.filter (fun o=>o.cl == c&&o.ret == 0)).length

structure Rec (w:World) (rc b1 b2 base n:Nat) (v:Value) (model:ByteArray) (ops:List OpV):Prop where
 blk:w.heap[rc]?=some (.cells #[.string model,v,.map (some b1),.map (some b2)] 94 (0,0))
 own:w.ownsRow base 74 10 v ops.length (opsRow ops)
 ids:∃ sz,MapFn w 2 b1 n sz (idFn ops)
 opn:∃ sz f,MapFn w 2 b2 n sz f∧∀ c,(f (.int .i64 c)).getD (.int .i64 0)=.int .i64 (openOf ops c)
 lt1:rc < base
 lt2:b1 < base
 lt3:b2 < base
 ne1:rc≠b1
 ne2:rc≠b2
 ne3:b1≠b2
 few:n≤1000∧ops.length≤n
 wfs:∀ o∈ops,(Lit.int .i64 o.cl).wf=true

theorem Rec.kept {w w':World} {rc b1 b2 base n:Nat} {v:Value} {model:ByteArray} {ops:List OpV} {S:List Nat} (h:Rec w rc b1 b2 base n v model ops) (k:Kept S w w') (hS:∀ x∈S,False):Rec w' rc b1 b2 base n v model ops:=by
 have hn:∀ x,x∉S:=fun x hx=>hS x hx
 obtain ⟨sz,h1⟩:=h.ids
 obtain ⟨sz2,f,h2,h3⟩:=h.opn
 exact ⟨(k.block rc (zBq h.blk) (hn _)).trans h.blk,zzF h.own k (fun x hx=>(hS x hx).elim),⟨sz,h1.kept k (hn _)⟩,⟨sz2,f,h2.kept k (hn _),h3⟩,h.lt1,h.lt2,h.lt3,h.ne1,h.ne2,h.ne3,h.few,h.wfs⟩
theorem Rec.below {w w':World} {rc b1 b2 base n:Nat} {v:Value} {model:ByteArray} {ops:List OpV} (h:Rec w rc b1 b2 base n v model ops) (k:Below w.heap.size w w'):Rec w' rc b1 b2 base n v model ops:=
 h.kept (S:=[]) (Kept.of_below k) (by simp)

def z3k:List UInt8:=[99,97,108,108]
def sBy:List UInt8:=[98,121]
def sOp:List UInt8:=[111,112]
def zqd (ms:List Mem) (nm:List UInt8):Int:=((z8R ms nm).map (fun m=>m.2.2.1)).getD 0
def zbh (ms:List Mem) (nm:List UInt8):List UInt8:=((z8R ms nm).map (fun m=>m.2.2.2)).getD []
def zRl (model:List UInt8) (ops:List OpV) (ms:List Mem) (line:Int):Int×Option OpV:=
 let o:OpV:=⟨zqd ms z3k,zqd ms sBy,zbh ms sOp,zbh ms sKey,zqd ms sArg,zqd ms sExp,line,0,0,0⟩
 match zco model o.name opTab with
 | none=>(4,none)
 | some r=>if r.2.2.1=z8C ms then (if (z09 ops o.id).isSome then (5,none) else if openOf ops o.cl > 0 then (6,none) else (0,some o)) else (4,none)

theorem zxj (ms:List Mem) (nm:List UInt8):∃ a,(z0Q ms (.string nm)).getD (.agg #[.int .i64 0,.int .i64 0,.string ⟨#[]⟩])=.agg #[.int .i64 a,.int .i64 (zqd ms nm),.string ⟨(zbh ms nm).toArray⟩]:=by
 cases h:z8R ms nm with
 | none=>exact ⟨0,by simp [z0Q,zqd,zbh,h]⟩
 | some m=>exact ⟨m.2.1,by simp [z0Q,zqd,zbh,h,aggV]⟩

theorem zxZ {x:Int} (h:(Lit.int .i64 x).wf=true):keyOf Tryz.prog 2 (.int .i64 x)=some (.int .i64 x):=keyOf_int_mk Tryz.underlying2 h

theorem zLY (x y z:Value) (w:World):(Instr.field 244 (.agg #[x,y,z]) 0).run Tryz.prog w=.ok (.agg #[x,y]) w:=by kernel_rfl
theorem z6Y (x y z:Value) (w:World):(Instr.field 244 (.agg #[x,y,z]) 1).run Tryz.prog w=.ok z w:=by kernel_rfl
theorem zwU (x y:Value) (w:World):(Instr.field 72 (.agg #[x,y]) 1).run Tryz.prog w=.ok y w:=by kernel_rfl

def zp1 (f:Lit→Option Value) (c:Int) (x:Int):Lit→Option Value
 | .int .i64 y=>if y=c then some (.int .i64 x) else f (.int .i64 y)
 | l=>f l
theorem zSg (f:Lit→Option Value) (c x:Int):zp1 f c x (.int .i64 c)=some (.int .i64 x):=by simp [zp1]
theorem zPm (f:Lit→Option Value) (c x:Int):∀ l,l≠.int .i64 c→zp1 f c x l=f l:=by
 intro l hl
 unfold zp1
 split
 · rw [if_neg (fun e=>hl (by rw [e]))]
 · rfl
theorem zqg (ops:List OpV) (o:OpV) (c:Int):openOf (ops++[o]) c=openOf ops c+(if o.cl=c∧o.ret=0 then 1 else 0):=by
 unfold openOf
 rw [List.filter_append,List.length_append]
 congr 1
 by_cases h:o.cl=c∧o.ret=0
 · simp [h]
 · rw [if_neg h]
   have:(o.cl == c&&o.ret == 0)=false:=by
    rw [Bool.eq_false_iff];intro hh;simp at hh;exact h hh
   simp [this]
theorem zji (ops:List OpV) (o:OpV) (x:Int) (h:z09 ops o.id=none):z09 (ops++[o]) x=if x=o.id then some ops.length else z09 ops x:=by
 unfold z09 at*
 rw [List.findIdx?_append]
 by_cases e:x=o.id
 · subst e
   rw [h,if_pos rfl];simp
 · rw [if_neg e]
   have hne:(o.id == x)=false:=by simp;exact fun h=>e h.symm
   cases hq:List.findIdx? (fun o=>o.id == x) ops with
   | none=>simp [hne]
   | some i=>simp
theorem zQw (ops:List OpV) (o:OpV) (h:z09 ops o.id=none):idFn (ops++[o]) (.int .i64 o.id)=some (.int .i64 (ops.length:Int))∧∀ l,l≠.int .i64 o.id→idFn (ops++[o]) l=idFn ops l:=by
 constructor
 · simp [idFn,zji ops o _ h]
 · intro l hl
   unfold idFn
   split
   · rename_i x
     rw [zji ops o _ h,if_neg (fun e=>hl (by rw [e]))]
   · rfl
theorem z2L (l:List OpV) (o:OpV):opsRow (l++[o])=opsRow l++opvCells o:=by simp [opsRow]
theorem zIW {w:World} {base:Nat} {e:TypeId} {size:Nat} {v:Value} {n:Nat} {xs:List Value} (h:w.ownsRow base e size v n xs):∃ a c,v=.slice a n c:=by
 rcases h.2 with ⟨rfl,rfl⟩ | ⟨g,cap,cur,rfl,_⟩
 · exact ⟨none,0,rfl⟩
 · exact ⟨_,_,rfl⟩
theorem zSl:(Tryz.prog.info? 74).map (fun i=>(i.zero,i.size,i.bytes))=some (some (.agg #[.int .i64 0,.int .i64 0,.string ⟨#[]⟩,.string ⟨#[]⟩,.int .i64 0,.int .i64 0,.int .i64 0,.int .i64 0,.int .i64 0,.int .i64 0]),10,96):=by kernel_rfl
theorem z9R (w:World) (t:TypeId) (l:List Value):∀ j u,l[j]?=some u→(w.alloc (.cells l.toArray t)).cell? ((⟨w.heap.size,0,none⟩:Addr).add j)=some u:=by
 intro j u hj
 have hb:=ziF w (.cells l.toArray t) w.heap.size rfl
 have e:(⟨w.heap.size,0,none⟩:Addr).add j=⟨w.heap.size,j,none⟩:=by
  by_cases h0:j=0
  · subst h0;simp [Addr.add]
  · simp [Addr.add,h0]
 rw [e,zBk hb];simpa using hj

theorem zti {P:Program} {ops:Array Oper} {o:Oper} {a:Act} {w:World} {K:Act→World→Prop} {Q:Exit→Act→World→Prop} {E:Prop}
 (hg:o.guard=none) (s x:Operand) (t:TypeId) (hop:o.op=Op.call { callee:=Callee.builtin Builtin.append,args:=#[s,x],argTypes:=#[t,t] })
 (v xv v':Value) (w':World) (hs:a.eval s=v) (hx:a.eval x=xv) (hrun:(Builtin.append_ #[t,t] o.type #[v,xv]).run P w=.ok v' w') (hK:K (a.put o.dst v') w'):
 if Region.wanted o (yielded ops a.tmps)=true then Oper.wp P o a w K Q else E:=by
 have hw:Region.wanted o (yielded ops a.tmps)=true:=by simp [Region.wanted,hg]
 rw [if_pos hw]
 unfold Oper.wp
 simp [execOp,hop,resolve,invoke,builtin,hs,hx,hrun,Result.andThen]
 exact hK

theorem Kept.grownS {S:List Nat} {a w w':World} {row:Option Nat} (h:Kept S a w) (hg:w.grownBy w' row) (hr:∀ g,row=some g→g∈S):Kept S a w':=
 ⟨hg.os.trans h.os,hg.tape.trans h.tape,hg.output.trans h.output,Nat.le_trans h.size hg.size,fun i hi hn=>
  (hg.block i (Nat.lt_of_lt_of_le hi h.size) (fun e=>hn (hr i e.symm))).trans (h.block i hi hn)⟩
theorem z1l {ops:List OpV} {f:Lit→Option Value} (h:∀ c,(f (.int .i64 c)).getD (.int .i64 0)=.int .i64 (openOf ops c)) (o:OpV) (hr:o.ret=0) (h0:openOf ops o.cl=0):
 ∀ c,(zp1 f o.cl 1 (.int .i64 c)).getD (.int .i64 0)=.int .i64 (openOf (ops++[o]) c):=by
 intro c
 rw [zqg]
 by_cases e:c=o.cl
 · subst e
   rw [zSg,h0];simp [hr]
 · rw [zPm _ _ _ _ (by intro h';apply e;injection h'),h c,if_neg (fun h'=>e h'.1.symm)];simp

theorem zFY (s n:ByteArray) (w:World) (ho:Ops w) (hng:10≤w.heap.size):
 Calls Tryz.prog 114 #[.string s,.string n] w fun e w'=>∃ (om on:List UInt8) (nd gv:Int) (ok:Bool),e=.returned (.tuple #[.agg #[.string ⟨om.toArray⟩,.string ⟨on.toArray⟩,.int .u8 nd,.int .u8 gv],.bool ok])∧Below w.heap.size w w'∧
  ((ok=true∧zco s.data.toList n.data.toList opTab=some (om,on,nd,gv))∨(ok=false∧zco s.data.toList n.data.toList opTab=none)):=by
 refine (zoY s n w ho hng).mono ?_
 rintro e w' ⟨hb,⟨o,h1,rfl⟩ | ⟨h1,rfl⟩⟩
 · exact ⟨o.1,o.2.1,o.2.2.1,o.2.2.2,true,rfl,hb,Or.inl ⟨rfl,h1⟩⟩
 · exact ⟨[],[],0,0,false,rfl,hb,Or.inr ⟨rfl,h1⟩⟩

structure ZeroOp (w:World) (b:Nat):Prop where
 c0:w.cell? ⟨b,0,none⟩=some (.string ⟨#[]⟩)
 c1:w.cell? ⟨b,1,none⟩=some (.string ⟨#[]⟩)
 c2:w.cell? ⟨b,2,none⟩=some (.int .u8 0)
 c3:w.cell? ⟨b,3,none⟩=some (.int .u8 0)
 f0:w.frozen? ⟨b,0,none⟩=false
 f1:w.frozen? ⟨b,1,none⟩=false
 f2:w.frozen? ⟨b,2,none⟩=false
 f3:w.frozen? ⟨b,3,none⟩=false
 blk:w.heap[b]?=some (.cells #[.string ⟨#[]⟩,.string ⟨#[]⟩,.int .u8 0,.int .u8 0] 90 (0,0))
theorem zkn (s n:ByteArray) (W1 W:World) (hW:Below W1.heap.size W1 W) (ho:Ops W1) (hng:10≤W1.heap.size):
 Calls Tryz.prog 114 #[.string s,.string n] W fun e w'=>∃ (om on:List UInt8) (nd gv:Int) (ok:Bool),e=.returned (.tuple #[.agg #[.string ⟨om.toArray⟩,.string ⟨on.toArray⟩,.int .u8 nd,.int .u8 gv],.bool ok])∧Below W1.heap.size W1 w'∧
  ((ok=true∧zco s.data.toList n.data.toList opTab=some (om,on,nd,gv))∨(ok=false∧zco s.data.toList n.data.toList opTab=none))∧
  (W.heap[W1.heap.size]?=some (.cells #[.string ⟨#[]⟩,.string ⟨#[]⟩,.int .u8 0,.int .u8 0] 90 (0,0))→ZeroOp w' W1.heap.size):=by
 refine (zFY s n W (ho.below (hW.mono hng)) (Nat.le_trans hng hW.size)).mono ?_
 rintro e w' ⟨om,on,nd,gv,ok,rfl,hb,h⟩
 refine ⟨om,on,nd,gv,ok,rfl,hW.trans (hb.mono hW.size),h,fun hz=>?_⟩
 have hk:=(hb.block W1.heap.size (zBq hz)).trans hz
 exact ⟨by rw [zBk hk];rfl,by rw [zBk hk];rfl,by rw [zBk hk];rfl,by rw [zBk hk];rfl,zBn hk _,zBn hk _,zBn hk _,zBn hk _,hk⟩

theorem blk4 {w:World} {b:Nat} {x0 x1 x2 x3:Value} {t:TypeId} (h:w.heap[b]?=some (.cells #[x0,x1,x2,x3] t (0,0))) (y0 y1 y2 y3:Value):
 ((((w.setCell ⟨b,0,none⟩ y0).setCell ⟨b,1,none⟩ y1).setCell ⟨b,2,none⟩ y2).setCell ⟨b,3,none⟩ y3).heap[b]?=some (.cells #[y0,y1,y2,y3] t (0,0)):=by
 rw [zFg (zFg (zFg (zFg h 0 y0) 1 y1) 2 y2) 3 y3];rfl
theorem zmi {w0 w:World} {B b:Nat} (h:Below B w0 w) (hb:B≤b) (y0 y1 y2 y3:Value):Below B w0 ((((w.setCell ⟨b,0,none⟩ y0).setCell ⟨b,1,none⟩ y1).setCell ⟨b,2,none⟩ y2).setCell ⟨b,3,none⟩ y3):=
 (((h.setCell (p:=⟨b,0,none⟩) hb y0).setCell (p:=⟨b,1,none⟩) hb y1).setCell (p:=⟨b,2,none⟩) hb y2).setCell (p:=⟨b,3,none⟩) hb y3

set_option maxHeartbeats 4000000 in
set_option maxRecDepth 100000 in
theorem zEg (w:World) (rc b1 b2 base n bm nm sz L:Nat) (v:Value) (model:ByteArray) (ops:List OpV) (ms:List Mem) (line:Int)
 (hr:Rec w rc b1 b2 base n v model ops) (hm:MapFn w 9 bm nm sz (z0Q ms)) (ho:Ops w) (hng:10≤w.heap.size) (hL:L≤rc∧L≤b1∧L≤b2) (hwf:∀ nm,(Lit.int .i64 (zqd ms nm)).wf=true) (hbs:base≤w.heap.size) (hn9:n≤900):
 Calls Tryz.prog 70 #[.pointer (some ⟨rc,0,none⟩),.map (some bm),.int .i64 line] w fun e w'=>
  e=.returned (.int .i64 (zRl model.data.toList ops ms line).1)∧Below L w w'∧(∀ o,(zRl model.data.toList ops ms line).2=some o→∃ v',Rec w' rc b1 b2 base (n+1) v' model (ops++[o])):=by
 obtain ⟨x1,l1⟩:=zxj ms z3k
 obtain ⟨x2,l2⟩:=zxj ms sBy
 obtain ⟨x3,l3⟩:=zxj ms sOp
 obtain ⟨x4,l4⟩:=zxj ms sKey
 obtain ⟨x5,l5⟩:=zxj ms sArg
 obtain ⟨x6,l6⟩:=zxj ms sExp
 have r1:=hm.run1 lawS Tryz.underlying144 (z7H _) (zjt (s:=⟨#[99,97,108,108]⟩) (by decide))
 have r2:=hm.run1 lawS Tryz.underlying144 (z7H _) (zjt (s:=⟨#[98,121]⟩) (by decide))
 have r3:=hm.run1 lawS Tryz.underlying144 (z7H _) (zjt (s:=⟨#[111,112]⟩) (by decide))
 have r4:=hm.run1 lawS Tryz.underlying144 (z7H _) (zjt (s:=⟨#[107,101,121]⟩) (by decide))
 have r5:=hm.run1 lawS Tryz.underlying144 (z7H _) (zjt (s:=⟨#[97,114,103]⟩) (by decide))
 have r6:=hm.run1 lawS Tryz.underlying144 (z7H _) (zjt (s:=⟨#[101,120,112]⟩) (by decide))
 rw [show ((⟨#[99,97,108,108]⟩:ByteArray)).data.toList=z3k from rfl,l1] at r1
 rw [show ((⟨#[98,121]⟩:ByteArray)).data.toList=sBy from rfl,l2] at r2
 rw [show ((⟨#[111,112]⟩:ByteArray)).data.toList=sOp from rfl,l3] at r3
 rw [show ((⟨#[107,101,121]⟩:ByteArray)).data.toList=sKey from rfl,l4] at r4
 rw [show ((⟨#[97,114,103]⟩:ByteArray)).data.toList=sArg from rfl,l5] at r5
 rw [show ((⟨#[101,120,112]⟩:ByteArray)).data.toList=sExp from rfl,l6] at r6
 have HP:Hid (zRl model.data.toList ops ms line=(match zco model.data.toList (zbh ms sOp) opTab with
  | none=>(4,none)
  | some r=>if r.2.2.1=z8C ms then (if (z09 ops (zqd ms z3k)).isSome then (5,none) else if openOf ops (zqd ms sBy) > 0 then (6,none) else (0,some ⟨zqd ms z3k,zqd ms sBy,zbh ms sOp,zbh ms sKey,zqd ms sArg,zqd ms sExp,line,0,0,0⟩)) else (4,none))):=rfl
 clear l1 l2 l3 l4 l5 l6
 have wf1:=hwf z3k
 have wf2:=hwf sBy
 clear hwf
 generalize zqd ms z3k=o1 at*
 generalize zqd ms sBy=o2 at*
 generalize zbh ms sOp=o3 at*
 generalize zbh ms sKey=o4 at*
 generalize zqd ms sArg=o5 at*
 generalize zqd ms sExp=o6 at*
 have hrcw:=zBq hr.blk
 have hb1w:b1 < w.heap.size:=by obtain ⟨_,h⟩:=hr.ids;exact h.lt
 have hb2w:b2 < w.heap.size:=by obtain ⟨_,_,h,_⟩:=hr.opn;exact h.lt
 have hLw:L≤w.heap.size:=by omega
 have c0:w.cell? ⟨rc,0,none⟩=some (.string model):=by rw [zBk hr.blk];rfl
 have hf0:=zLY
 have hf1:=z6Y
 have hf2:=zwU
 go_enter Tryz.func70,Tryz.ntmps70
 go_wp2
 have W1b:=ziF w (.cells #[.int .i64 o1,.int .i64 o2,.string ⟨o3.toArray⟩,.string ⟨o4.toArray⟩,.int .i64 o5,.int .i64 o6,.int .i64 line,.int .i64 0,.int .i64 0,.int .i64 0] 74) w.heap.size rfl
 have hbl1:Below w.heap.size w (w.alloc (.cells #[.int .i64 o1,.int .i64 o2,.string ⟨o3.toArray⟩,.string ⟨o4.toArray⟩,.int .i64 o5,.int .i64 o6,.int .i64 line,.int .i64 0,.int .i64 0,.int .i64 0] 74)):=(Below.refl _ _).alloc (Nat.le_refl _) _
 clear r1 r2 r3 r4 r5 r6 c0 hf0 hf1 hf2
 generalize w.alloc (.cells #[.int .i64 o1,.int .i64 o2,.string ⟨o3.toArray⟩,.string ⟨o4.toArray⟩,.int .i64 o5,.int .i64 o6,.int .i64 line,.int .i64 0,.int .i64 0,.int .i64 0] 74)=W1 at*
 have hr1:=hr.below hbl1
 have hm1:=hm.below hbl1
 have ho1:Ops W1:=ho.below (hbl1.mono hng)
 have hsz1:=hbl1.size
 have c0:W1.cell? ⟨rc,0,none⟩=some (.string model):=by rw [zBk hr1.blk];rfl
 have d2:W1.cell? ⟨w.heap.size,2,none⟩=some (.string ⟨o3.toArray⟩):=by rw [zBk W1b];rfl
 have hltO:=zBq W1b
 have hltR:=zBq hr1.blk
 have hneO:w.heap.size≠W1.heap.size:=by omega
 have hneR:rc≠W1.heap.size:=by omega
 have hA1:Below W1.heap.size W1 W1.drew:=(Below.refl _ _).drew
 have hA2:∀ o,Below W1.heap.size W1 (W1.alloc o).drew:=fun o=>((Below.refl _ _).alloc (Nat.le_refl _) o).drew
 go_cut [8,9] (fun p8 ok wx=>∃ (pb:Nat) (om on:List UInt8) (nd gv:Int) (okb:Bool),p8=.pointer (some ⟨pb,0,none⟩)∧ok=.bool okb∧Below W1.heap.size W1 wx∧W1.heap.size≤pb∧
  wx.heap[pb]?=some (.cells #[.string ⟨om.toArray⟩,.string ⟨on.toArray⟩,.int .u8 nd,.int .u8 gv] 90 (0,0))∧
  ((okb=true∧zco model.data.toList o3 opTab=some (om,on,nd,gv))∨(okb=false∧zco model.data.toList o3 opTab=none)))
 case first=>
  go_region_with (go_at_call 114;refine (zkn model ⟨o3.toArray⟩ W1 _ (by first | exact hA1 | exact hA2 _) ho1 (by omega)).mono ?_;rintro e w2 ⟨om,on,nd,gv,ok,rfl,hbl2,hfd,hz⟩;try (have hz':=hz (ziF W1 _ _ rfl);obtain ⟨z0,z1,z2,z3,y0,y1,y2,y3,yb⟩:=hz');clear hz)
  all_goals
   go_wp2_with fail
   go_meet
   first
    | exact ⟨w2.heap.size,om,on,nd,gv,ok,rfl,rfl,hbl2.alloc hbl2.size _,hbl2.size,ziF _ _ _ rfl,hfd⟩
    | exact ⟨W1.heap.size,om,on,nd,gv,ok,rfl,rfl,zmi hbl2 (Nat.le_refl _) _ _ _ _,Nat.le_refl _,blk4 yb _ _ _ _,hfd⟩
 case rest=>
  obtain ⟨pb,om,on,nd,gv,okb,rfl,rfl,hbl2,hpb,hob,hfd⟩:=hcut
  have hm2:=hm1.below hbl2
  have hr2:=hr1.below hbl2
  have hz2:=hbl2.size
  have W2b:=(hbl2.block w.heap.size hltO).trans W1b
  have hltP:=zBq hob
  have n2:wc.cell? ⟨pb,2,none⟩=some (.int .u8 nd):=by rw [zBk hob];rfl
  clear hob hA1 hA2 d2 c0 hneO hneR W1b
  cases okb with
  | false=>
    have hfn:zco model.data.toList o3 opTab=none:=by rcases hfd with ⟨h,_⟩ | ⟨_,h⟩;cases h;exact h
    have hX:Hid (zRl model.data.toList ops ms line=(4,none)):=by rw [HP.out,hfn];exact rfl
    clear hfn hfd HP
    go_wp2
    go_quiet (fail)
    go_wp2
    go_ret
    exact ⟨by rw [hX.out];rfl,below_drewN ((hbl1.mono (by omega)).trans (hbl2.mono (by omega))) _,by rw [hX.out];intro o h;cases h⟩
  | true=>
    have hfn:zco model.data.toList o3 opTab=some (om,on,nd,gv):=by rcases hfd with ⟨_,h⟩ | ⟨h,_⟩;exact h;cases h
    have hX:Hid (zRl model.data.toList ops ms line=(if nd=z8C ms then (if (z09 ops o1).isSome then (5,none) else if openOf ops o2 > 0 then (6,none) else (0,some ⟨o1,o2,o3,o4,o5,o6,line,0,0,0⟩)) else (4,none))):=by rw [HP.out,hfn];exact rfl
    clear hfn hfd HP
    have hB1:Below wc.heap.size wc wc.drew:=(Below.refl _ _).drew
    go_wp2
    go_cut [54] (fun t54 wx=>t54=.bool (nd != z8C ms)∧Below wc.heap.size wc wx)
    case first=>
     go_region_with (go_at_call 115;refine (z8H _ bm nm sz ms (hm2.below hB1)).mono ?_;rintro e w5 ⟨rfl,hb5⟩;have n2':w5.cell? ⟨pb,2,none⟩=some (.int .u8 nd):=(hb5.cell (p:=⟨pb,2,none⟩) hltP).trans n2)
     all_goals
      go_wp2_with fail
      go_meet
      exact ⟨rfl,hB1.trans hb5⟩
    case rest=>
     obtain ⟨rfl,hbl3⟩:=hcut
     have hm3:=hm2.below hbl3
     have hr3:=hr2.below hbl3
     have hz3:=hbl3.size
     have W3b:=(hbl3.block w.heap.size (by omega)).trans W2b
     have hbl:Below w.heap.size w wc:=hbl1.trans ((hbl2.mono (by omega)).trans (hbl3.mono (by omega)))
     clear hm2 hr2 W2b hm1 hr1 hm hr hbl1 hbl2 hbl3 n2 hB1 hm3
     by_cases hnd:nd=z8C ms
     · have hne:(nd != z8C ms)=false:=by simp [hnd]
       have hX2:Hid (zRl model.data.toList ops ms line=(if (z09 ops o1).isSome then (5,none) else if openOf ops o2 > 0 then (6,none) else (0,some ⟨o1,o2,o3,o4,o5,o6,line,0,0,0⟩))):=by rw [hX.out,if_pos hnd];exact rfl
       clear hX hnd
       have e2:wc.cell? ⟨rc,2,none⟩=some (.map (some b1)):=by rw [zBk hr3.blk];rfl
       have p0:wc.cell? ⟨w.heap.size,0,none⟩=some (.int .i64 o1):=by rw [zBk W3b];rfl
       obtain ⟨sz1,hid1⟩:=hr3.ids
       have hlk:=(hid1.below ((Below.refl wc.heap.size wc).drew)).runOk lawI Tryz.underlying92 (zG7 _) (zxZ wf1)
       go_wp2
       cases hid:z09 ops o1 with
       | some i=>
         have hX3:Hid (zRl model.data.toList ops ms line=(5,none)):=by rw [hX2.out,hid];exact rfl
         have ei:idFn ops (.int .i64 o1)=some (.int .i64 (i:Int)):=by simp [idFn,hid]
         simp only [ei,Option.getD_some,Option.isSome_some] at hlk
         clear hX2 hid ei hid1 hr3 W3b
         go_region
         all_goals
          go_wp2
          go_ret
          exact ⟨by rw [hX3.out];rfl,(hbl.mono hLw).drew,by rw [hX3.out];intro o h;cases h⟩
       | none=>
         have hX3:Hid (zRl model.data.toList ops ms line=(if openOf ops o2 > 0 then (6,none) else (0,some ⟨o1,o2,o3,o4,o5,o6,line,0,0,0⟩))):=by rw [hX2.out,hid];exact rfl
         have ei:idFn ops (.int .i64 o1)=none:=by simp [idFn,hid]
         have HI:Hid (z09 ops o1=none):=hid
         simp only [ei,Option.getD_none,Option.isSome_none] at hlk
         clear hX2 hid ei
         go_cut [10,11] (fun a b wx=>a=.int .i64 0∧b=.bool false∧wx=wc.drew)
         case first=>
          go_region
          all_goals
           go_wp2_with fail
           go_meet
           exact ⟨rfl,rfl,rfl⟩
         case rest=>
          obtain ⟨rfl,rfl,rfl⟩:=hcut
          have e3:wc.cell? ⟨rc,3,none⟩=some (.map (some b2)):=by rw [zBk hr3.blk];rfl
          have p1:wc.cell? ⟨w.heap.size,1,none⟩=some (.int .i64 o2):=by rw [zBk W3b];rfl
          obtain ⟨sz2,f2,hop2,hcnt⟩:=hr3.opn
          have hlk2:=(hop2.below (((Below.refl wc.heap.size wc).drew).drew)).run1 lawI Tryz.underlying92 (zG7 _) (zxZ wf2)
          rw [hcnt o2] at hlk2
          clear hlk
          go_wp2
          by_cases hbusy:openOf ops o2 > 0
          · have hX4:Hid (zRl model.data.toList ops ms line=(6,none)):=by rw [hX3.out,if_pos hbusy];exact rfl
            have hbz:(0:Int) < (openOf ops o2:Int):=by omega
            clear hX3 hbusy hcnt hop2 hid1 hr3 W3b
            go_region
            all_goals
             go_wp2
             go_ret
             exact ⟨by rw [hX4.out];rfl,(hbl.mono hLw).drew.drew,by rw [hX4.out];intro o h;cases h⟩
          · have hX4:Hid (zRl model.data.toList ops ms line=(0,some ⟨o1,o2,o3,o4,o5,o6,line,0,0,0⟩)):=by rw [hX3.out,if_neg hbusy];exact rfl
            have h0:openOf ops o2=0:=by omega
            rw [h0] at hlk2
            clear hX3 hbusy
            go_cut [73] (fun a wx=>a=.bool false∧wx=wc.drew.drew)
            case first=>
             go_region
             all_goals
              go_wp2_with fail
              go_meet
              exact ⟨rfl,rfl⟩
            case rest=>
             obtain ⟨rfl,rfl⟩:=hcut
             obtain ⟨va,vcap,rfl⟩:=zIW hr3.own
             have e1:wc.cell? ⟨rc,1,none⟩=some (.slice va ops.length vcap):=by rw [zBk hr3.blk];rfl
             have hfew:=hr3.few
             have hsn:=zQw ops ⟨o1,o2,o3,o4,o5,o6,line,0,0,0⟩ HI.out
             obtain ⟨w10,hput1,hids',hk1⟩:=(hid1.below ((((Below.refl wc.heap.size wc).drew).drew).drew)).runPut lawI Tryz.underlying92 (by unfold maxLen;omega) (.int .i64 (ops.length:Int)) (zxZ wf1) trivial (idFn (ops++[⟨o1,o2,o3,o4,o5,o6,line,0,0,0⟩])) hsn.1 hsn.2
             clear hlk2 hsn
             have hwo:∃ wo,wo=wc:=⟨_,rfl⟩
             obtain ⟨wo,rfl⟩:=hwo
             go_wp2
             go_cut [6] (fun a wx=>a=.int .i64 0∧w10=wx)
             case first=>
              go_region
              all_goals
               go_wp2_with fail
               go_meet
               exact ⟨rfl,rfl⟩
             case rest=>
              obtain ⟨rfl,rfl⟩:=hcut
              clear hput1
              have k1:Kept [b1] wo w10:=⟨hk1.os,hk1.tape,hk1.output,hk1.size,hk1.block⟩
              have hrb:=hr3.blk
              have hnes:rc≠b1∧rc≠b2∧b1≠b2∧rc < base∧b1 < base∧b2 < base:=⟨hr3.ne1,hr3.ne2,hr3.ne3,hr3.lt1,hr3.lt2,hr3.lt3⟩
              have hown0:=hr3.own
              have hwfs:=hr3.wfs
              have R10:=(k1.block rc (zBq hrb) (by simp;omega)).trans hrb
              have B10:=(k1.block w.heap.size (zBq W3b) (by simp;omega)).trans W3b
              have hop10:=hop2.kept k1 (by simp;omega)
              have hown10:=zzF hown0 k1 (by simp;omega)
              have hbl10:Below L w w10:=(hbl.mono hLw).trans (k1.below (by have:=hbl.size;omega) (by simp;omega))
              have z10:=k1.size
              have zc:=hbl.size
              clear k1 hk1 hid1 hop2 hown0 hrb hr3 W3b e1 e2 e3 p0 p1 hbl
              have e3:w10.cell? ⟨rc,3,none⟩=some (.map (some b2)):=by rw [zBk R10];rfl
              have p1:w10.cell? ⟨w.heap.size,1,none⟩=some (.int .i64 o2):=by rw [zBk B10];rfl
              have hlk3:=(hop10.below ((Below.refl w10.heap.size w10).drew)).run1 lawI Tryz.underlying92 (zG7 _) (zxZ wf2)
              rw [hcnt o2,h0] at hlk3
              obtain ⟨w11,hput2,hop11,hk2⟩:=(hop10.below ((Below.refl w10.heap.size w10).drew)).runPut lawI Tryz.underlying92 (by unfold maxLen;omega) (.int .i64 1) (zxZ wf2) trivial (zp1 f2 o2 1) (zSg _ _ _) (zPm _ _ _)
              go_wp2
              go_cut [6] (fun a wx=>a=.int .i64 0∧w11=wx)
              case first=>
               go_region
               all_goals
                go_wp2_with fail
                go_meet
                exact ⟨rfl,rfl⟩
              case rest=>
               obtain ⟨rfl,rfl⟩:=hcut
               clear hput2 hlk3
               have k2:Kept [b2] w10 w11:=⟨hk2.os,hk2.tape,hk2.output,hk2.size,hk2.block⟩
               have R11:=(k2.block rc (zBq R10) (by simp;omega)).trans R10
               have B11:=(k2.block w.heap.size (zBq B10) (by simp;omega)).trans B10
               have hids11:=hids'.kept k2 (by simp;omega)
               have hown11:=zzF hown10 k2 (by simp;omega)
               have hbl11:Below L w w11:=hbl10.trans (k2.below (by omega) (by simp;omega))
               have z11:=k2.size
               clear k2 hk2 R10 B10 hids' hown10 hbl10 e3 p1 hop10
               obtain ⟨i0,hi,hz0,hz1,hz2⟩:=info_parts zSl
               obtain ⟨v12,w12,hap,hown12,hgr,_⟩:=run_append_own (P:=Tryz.prog) ((w11.alloc (.cells (opvCells ⟨o1,o2,o3,o4,o5,o6,line,0,0,0⟩).toArray 74)).drew) base 26 26 74 i0 _ 10 96 Tryz.underlying26 hi hz0 hz1 hz2 rfl (by decide) (.slice va ops.length vcap) ops.length (opsRow ops) (hown11.alloc _) ⟨w11.heap.size,0,none⟩ 1 1 (opvCells ⟨o1,o2,o3,o4,o5,o6,line,0,0,0⟩) rfl (z9R w11 _ _) (by intro u hu;simp [opvCells] at hu;rcases hu with rfl | rfl | rfl | rfl | rfl | rfl | rfl | rfl | rfl | rfl <;> rfl) (by unfold maxLen;omega) (by omega) (by show base≤(w11.alloc _).heap.size;simp;omega)
               obtain ⟨a12,c12,rfl⟩:=zIW hown12
               have hap':(Builtin.append_ #[26,26] 26 #[.slice va ops.length vcap,.slice (some ⟨w11.heap.size,0,none⟩) 1 1]).run Tryz.prog ((w11.alloc (.cells #[.int .i64 o1,.int .i64 o2,.string ⟨o3.toArray⟩,.string ⟨o4.toArray⟩,.int .i64 o5,.int .i64 o6,.int .i64 line,.int .i64 0,.int .i64 0,.int .i64 0] 74)).drew)=.ok (.slice a12 (ops.length+1) c12) w12:=hap
               have q0:w11.cell? ⟨w.heap.size,0,none⟩=some (.int .i64 o1):=by rw [zBk B11];rfl
               have q1:w11.cell? ⟨w.heap.size,1,none⟩=some (.int .i64 o2):=by rw [zBk B11];rfl
               have q2:w11.cell? ⟨w.heap.size,2,none⟩=some (.string ⟨o3.toArray⟩):=by rw [zBk B11];rfl
               have q3:w11.cell? ⟨w.heap.size,3,none⟩=some (.string ⟨o4.toArray⟩):=by rw [zBk B11];rfl
               have q4:w11.cell? ⟨w.heap.size,4,none⟩=some (.int .i64 o5):=by rw [zBk B11];rfl
               have q5:w11.cell? ⟨w.heap.size,5,none⟩=some (.int .i64 o6):=by rw [zBk B11];rfl
               have q6:w11.cell? ⟨w.heap.size,6,none⟩=some (.int .i64 line):=by rw [zBk B11];rfl
               have q7:w11.cell? ⟨w.heap.size,7,none⟩=some (.int .i64 0):=by rw [zBk B11];rfl
               have q8:w11.cell? ⟨w.heap.size,8,none⟩=some (.int .i64 0):=by rw [zBk B11];rfl
               have q9:w11.cell? ⟨w.heap.size,9,none⟩=some (.int .i64 0):=by rw [zBk B11];rfl
               have e1:w11.cell? ⟨rc,1,none⟩=some (.slice va ops.length vcap):=by rw [zBk R11];rfl
               have hltB:=zBq B11
               have hltR:=zBq R11
               have hneB:w.heap.size≠w11.heap.size:=by omega
               have hneR:rc≠w11.heap.size:=by omega
               have hrow:∀ g,(Value.slice va ops.length vcap).ownBlock=some g→base≤g:=zYv hown11
               have R12:w12.heap[rc]?=some (.cells #[.string model,.slice va ops.length vcap,.map (some b1),.map (some b2)] 94 (0,0)):=
                (hgr.block rc (by show rc < (w11.alloc _).heap.size;simp;omega) (fun e=>by have:=hrow rc e.symm;omega)).trans ((zD1 w11 _ rc hltR).trans R11)
               have s1:w12.cell? ⟨rc,1,none⟩=some (.slice va ops.length vcap):=by rw [zBk R12];rfl
               have s2:w12.frozen? ⟨rc,1,none⟩=false:=zBn R12 1
               go_wp2
               go_cut [6] (fun a wx=>a=.int .i64 0∧wx=w12.setCell ⟨rc,1,none⟩ (.slice a12 (ops.length+1) c12))
               case first=>
                go_region_law (refine zti rfl _ _ 26 rfl _ _ _ _ rfl rfl hap' ?_)
                all_goals
                 go_wp2_with fail
                 go_meet
                 exact ⟨rfl,rfl⟩
               case rest=>
                obtain ⟨rfl,rfl⟩:=hcut
                clear hap hap'
                go_wp2
                go_ret
                refine ⟨by rw [hX4.out];rfl,?_,?_⟩
                · exact (((hbl11.alloc (by omega) _).drew).grown hgr (by show L≤(w11.alloc _).heap.size;simp;omega) (fun g hg=>by have:=hrow g hg;omega)).setCell (p:=⟨rc,1,none⟩) (by show L≤rc;omega) _
                · intro o ho
                  rw [hX4.out] at ho
                  obtain rfl:(⟨o1,o2,o3,o4,o5,o6,line,0,0,0⟩:OpV)=o:=Option.some.inj ho
                  have KS:Kept (rc::(Value.slice va ops.length vcap).ownBlock.toList) w11 (w12.setCell ⟨rc,1,none⟩ (.slice a12 (ops.length+1) c12)):=
                   ((((Kept.refl _ w11).alloc _).drew).grownS hgr (fun g hg=>by rw [hg];simp)).setCell (p:=⟨rc,1,none⟩) (Or.inl (by simp)) _
                  have hnot:∀ b,b < base→b≠rc→b∉(rc::(Value.slice va ops.length vcap).ownBlock.toList):=by
                   intro b hb hne hm
                   rcases List.mem_cons.1 hm with h | h
                   · exact hne h
                   · rw [Option.mem_toList] at h
                     have:=hrow b h;omega
                  refine ⟨_,⟨by rw [zFg R12];rfl,?_,⟨_,hids11.kept KS (hnot b1 (by omega) (by omega))⟩,⟨_,_,hop11.kept KS (hnot b2 (by omega) (by omega)),z1l hcnt ⟨o1,o2,o3,o4,o5,o6,line,0,0,0⟩ rfl h0⟩,by omega,by omega,by omega,by omega,by omega,by omega,by simp;omega,fun o ho=>(List.mem_append.1 ho).elim (fun h=>hwfs o h) (fun h=>by simp at h;subst h;exact wf2)⟩⟩
                  rw [z2L]
                  have:=ownsRow_setCell_below hown12 (a:=⟨rc,1,none⟩) (by show rc < base;omega) (.slice a12 (ops.length+1) c12)
                  simpa using this
     · have hne:(nd != z8C ms)=true:=by simp [hnd]
       have hX2:Hid (zRl model.data.toList ops ms line=(4,none)):=by rw [hX.out,if_neg hnd];exact rfl
       clear hX hnd
       go_wp2
       go_ret
       exact ⟨by rw [hX2.out];rfl,hbl.mono hLw,by rw [hX2.out];intro o h;cases h⟩
end Go.Proofs.YtbbkihekjdffpaaGreatDoor
