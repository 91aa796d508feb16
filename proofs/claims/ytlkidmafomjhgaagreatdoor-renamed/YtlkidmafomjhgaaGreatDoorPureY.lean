/- Several texts in one. -/
import Derived.Test.YtlkidmafomjhgaaGreatDoorHistZ
import Derived.Test.YtlkidmafomjhgaaGreatDoorPureX
import Derived.OneCell
namespace Go.Proofs.YtlkidmafomjhgaaGreatDoor
open Go.RowKit

def strCells (l:List (List UInt8)):List Value:=l.map (fun x=>Value.string ⟨x.toArray⟩)
theorem zBt (l:List (List UInt8)) (m:List UInt8):strCells (l++[m])=strCells l++[.string ⟨m.toArray⟩]:=by simp [strCells]
theorem strInfo:(Tryz.prog.info? 9).map (fun i=>(i.zero,i.size,i.bytes))=some (some (.string ⟨#[]⟩),1,16):=by kernel_rfl

theorem zHK (w:World) (a:Value) (t:TypeId):∀ j u,[a][j]?=some u→(w.alloc (.cells #[a] t)).cell? ((⟨w.heap.size,0,none⟩:Addr).add j)=some u:=by
 intro j u hj
 match j,hj with
 | 0,hj=>simp at hj;subst hj;simp [Addr.add]


def cnt (nm:List UInt8) (ms:List RM):Nat:=(ms.filter (fun m=>m.1 == nm)).length
def nodup (ms:List RM):Prop:=∀ nm,cnt nm ms≤1

def zIc (ms:List Mem):List Slot→Nat
 | []=>0
 | s::r=>(if (z7R ms s.1).isSome then 1 else 0)+zIc ms r

theorem zzD {w:World} {base:Nat} {e:TypeId} {size:Nat} {v:Value} {n:Nat} {xs:List Value} (h:w.ownsRow base e size v n xs):(v=.slice none 0 0∧n=0)∨∃ g cap,v=.slice (some ⟨g,0,none⟩) n cap∧n≤cap∧base≤g∧g < w.heap.size:=by
 rcases h.2 with ⟨h1,h2⟩ | ⟨g,cap,cur,h1,hbg,hg,hnc,_⟩
 · exact Or.inl ⟨h1,h2⟩
 · exact Or.inr ⟨g,cap,h1,hnc,hbg,zBq hg⟩


def uniq (ops:List OpV):Prop:=(ops.map (·.id)).Nodup
def zQy (ops:List OpV) (line:Int) (q:Nat×Int×Int):List OpV:=match ops[q.1]? with
 | none=>ops
 | some o=>ops.set q.1 (zSi o line q.2.1 q.2.2)

theorem zJm (b:UInt8) (l:List UInt8):Lib.index (b::l) [10]=if b=10 then 0 else if Lib.index l [10]= -1 then -1 else Lib.index l [10]+1:=by
 rw [Lib.index]
 by_cases hb:b=10
 · subst hb;simp [List.isPrefixOf]
 · have:([10]:List UInt8).isPrefixOf (b::l)=false:=by
    simp only [List.isPrefixOf,Bool.and_true]
    rw [beq_eq_false_iff_ne]
    exact fun e=>hb e.symm
   rw [this,if_neg hb]
   simp only [Bool.false_eq_true,if_false,beq_iff_eq]
theorem z2n (b:UInt8) (l:List UInt8):Lib.cut (b::l) [10]=if b=10 then ([],l,true) else (b::(Lib.cut l [10]).1,(Lib.cut l [10]).2.1,(Lib.cut l [10]).2.2):=by
 unfold Lib.cut
 rw [zJm]
 by_cases hb:b=10
 · rw [if_pos hb,if_pos hb];simp
 · rw [if_neg hb,if_neg hb]
   have hge:=Lib.index_ge l [10]
   by_cases hi:Lib.index l [10]= -1
   · rw [if_pos hi,hi];simp
   · rw [if_neg hi,if_pos (by omega),if_pos (by omega)]
     have e:(Lib.index l [10]+1).toNat=(Lib.index l [10]).toNat+1:=by omega
     rw [e]
     simp

def zeroOp:OpV:=⟨0,0,[],[],0,0,0,0,0,0⟩
def opBlk (w:World) (b:Nat) (o:OpV):Prop:=w.heap[b]?=some (.cells #[.int .i64 o.id,.int .i64 o.cl,.string ⟨o.name.toArray⟩,.string ⟨o.key.toArray⟩,.int .i64 o.arg,.int .i64 o.exp,.int .i64 o.call,.int .i64 o.ret,.int .i64 o.vk,.int .i64 o.vn] 48 (0,0))
theorem opBlk.set {w:World} {b:Nat} {o:OpV} (h:opBlk w b o) (p:OpV):opBlk ((((((((((w.setCell ⟨b,0,none⟩ (.int .i64 p.id)).setCell ⟨b,1,none⟩ (.int .i64 p.cl)).setCell ⟨b,2,none⟩ (.string ⟨p.name.toArray⟩)).setCell ⟨b,3,none⟩ (.string ⟨p.key.toArray⟩)).setCell ⟨b,4,none⟩ (.int .i64 p.arg)).setCell ⟨b,5,none⟩ (.int .i64 p.exp)).setCell ⟨b,6,none⟩ (.int .i64 p.call)).setCell ⟨b,7,none⟩ (.int .i64 p.ret)).setCell ⟨b,8,none⟩ (.int .i64 p.vk)).setCell ⟨b,9,none⟩ (.int .i64 p.vn)) b p:=by
 unfold opBlk at*
 rw [zFg (zFg (zFg (zFg (zFg (zFg (zFg (zFg (zFg (zFg h 0 _) 1 _) 2 _) 3 _) 4 _) 5 _) 6 _) 7 _) 8 _) 9 _]
 simp

def vBlk (w:World) (b:Nat) (k n:Int):Prop:=w.heap[b]?=some (.cells #[.int .i64 k,.int .i64 n] 46 (0,0))
theorem vBlk.below {w w':World} {b:Nat} {x y:Int} (h:vBlk w b x y) (k:Below w.heap.size w w'):vBlk w' b x y:=(k.block b (zBq h)).trans h
theorem vBlk.set {w:World} {b:Nat} {x y:Int} (h:vBlk w b x y) (k n:Int):vBlk ((w.setCell ⟨b,0,none⟩ (.int .i64 k)).setCell ⟨b,1,none⟩ (.int .i64 n)) b k n:=by
 unfold vBlk at*
 rw [zFg (zFg h 0 _) 1 _]
 simp
theorem vBlk.other {w:World} {b c:Nat} {x y:Int} (h:vBlk w b x y) (hn:b≠c) (u v:Value):vBlk ((w.setCell ⟨c,0,none⟩ u).setCell ⟨c,1,none⟩ v) b x y:=by
 unfold vBlk at*
 rw [zRA hn,zRA hn];exact h

theorem opBlk.below {w w':World} {b:Nat} {o:OpV} (h:opBlk w b o) (k:Below w.heap.size w w'):opBlk w' b o:=(k.block b (zBq h)).trans h
theorem opBlk.call {w:World} {b:Nat} {o:OpV} (h:opBlk w b o) (line:Int):opBlk (w.setCell ⟨b,6,none⟩ (.int .i64 line)) b { o with call:=line }:=by
 unfold opBlk at*
 rw [zFg h]
 simp


theorem zYz1 {w:World} {base:Nat} {v:Value} {l:List (List UInt8)} (h:w.ownsRow base 9 1 v l.length (strCells l)):
 ∃ oa cap,v=.slice oa l.length cap∧(l≠[]→∃ g,oa=some ⟨g,0,none⟩∧g < w.heap.size∧∀ j x,l[j]?=some x→w.cell? ⟨g,j,none⟩=some (.string ⟨x.toArray⟩)):=by
 rcases zzD h with ⟨rfl,h0⟩ | ⟨g,cap,rfl,_,_,hg⟩
 · exact ⟨none,0,by rw [h0],fun hne=>absurd (List.length_eq_zero_iff.1 h0) hne⟩
 · refine ⟨_,_,rfl,fun _=>⟨g,rfl,hg,?_⟩⟩
   intro j x hj
   have:=h.cells (g:=g) rfl j (.string ⟨x.toArray⟩) (by simp [strCells,hj])
   by_cases h0:j=0
   · subst h0;simpa [Addr.add] using this
   · simpa [Addr.add,h0] using this

end Go.Proofs.YtlkidmafomjhgaaGreatDoor
