/- Several texts in one. -/
import Derived.Test.YtlkidmafomjhgaaGreatDoorHistZ
import Derived.Laws.BytesArg
import Derived.Lib.MapLaws
import Derived.Lib.RuneBytes
import Derived.Lib.Strings
import Derived.Lib.ValidLaws
import Derived.OneCell
namespace Go.Proofs.YtlkidmafomjhgaaGreatDoor
open Go.RowKit

theorem z5A {x:Int} (h0:0≤x) (h1:x≤4611686018427387904):IntKind.i64.wrap x=x:=by
 simp [IntKind.wrap,IntKind.bits,IntKind.signed]
 omega


def zU1 (l:List Nat):List UInt8:=l.map UInt8.ofNat

def zlt:Int→List Nat→Option Int
 | n,[]=>some n
 | n,c::t=>if (c:Int) - 48 < 0∨9 < (c:Int) - 48 then none else if n < (-9223372036854775808+((c:Int) - 48)).tdiv 10 then none else zlt (10*n - ((c:Int) - 48)) t
def z8T (minus:Bool) (t:List Nat):Int×Bool:=
 if t.length < 1∨19 < t.length∨(1 < t.length∧t.headD 0=48) then (0,false)
 else match zlt 0 t with
  | none=>(0,false)
  | some n=>if minus then (n,true) else (if n= -9223372036854775808 then n else -n,decide (-9223372036854775808 < n))
def zyu (l:List Nat):Int×Bool:=if l.headD 0=45 then z8T true l.tail else z8T false l


abbrev Pc:=Nat×List UInt8

def nats (l:List UInt8):List Nat:=l.map UInt8.toNat

def RUf:Nat→List UInt8→List Nat
 | 0,_=>[]
 | f+1,l=>if l=[] then [] else (Lib.decodeL l).1::RUf f (l.drop (Lib.decodeL l).2)
def RU (l:List UInt8):List Nat:=RUf l.length l
theorem zVc (n:Nat):∀ (l:List UInt8) (f g:Nat),l.length≤n→l.length≤f→l.length≤g→RUf f l=RUf g l:=by
 induction n with
 | zero=>
   intro l f g h _ _
   have:l=[]:=List.length_eq_zero_iff.1 (by omega)
   subst this
   cases f <;> cases g <;> simp [RUf]
 | succ n ih=>
   intro l f g h hf hg
   cases l with
   | nil=>cases f <;> cases g <;> simp [RUf]
   | cons a t=>
     simp only [List.length_cons] at hf hg h
     obtain ⟨f,rfl⟩:∃ x,f=x+1:=⟨f - 1,by omega⟩
     obtain ⟨g,rfl⟩:∃ x,g=x+1:=⟨g - 1,by omega⟩
     unfold RUf
     rw [if_neg (by simp),if_neg (by simp)]
     have hw:=Lib.decodeL_width (a::t)
     have hl:((a::t).drop (Lib.decodeL (a::t)).2).length≤t.length:=by
      simp only [List.length_drop,List.length_cons];omega
     rw [ih _ f g (by omega) (by omega) (by omega)]
theorem zLp (l:List UInt8) (hne:l≠[]):RU l=(Lib.decodeL l).1::RU (l.drop (Lib.decodeL l).2):=by
 have hl:0 < l.length:=List.length_pos_iff.2 hne
 have hw:=Lib.decodeL_width l
 obtain ⟨n,hn⟩:∃ n,l.length=n+1:=⟨l.length - 1,by omega⟩
 unfold RU
 rw [hn,RUf,if_neg hne]
 rw [zVc _ _ n ((l.drop (Lib.decodeL l).2).length) (Nat.le_refl _) (by simp only [List.length_drop];omega) (Nat.le_refl _)]
theorem zgF:RU []=[]:=rfl
theorem z2D (a:UInt8) (t:List UInt8) (h:a.toNat < 128):RU (a::t)=a.toNat::RU t:=by
 rw [zLp _ (by simp),Lib.decodeL_ascii a t h];rfl
theorem zdh (s:ByteArray):∀ (f i:Nat),s.size≤i+f→runesL s f i=RU (s.data.toList.drop i):=by
 intro f
 induction f with
 | zero=>
   intro i h
   rw [List.drop_eq_nil_of_le (by simpa using h)];rfl
 | succ f ih=>
   intro i h
   unfold runesL
   by_cases hi:i < s.size
   · rw [if_pos hi,zLp _ (by intro e;have:=congrArg List.length e;simp at this;have:s.data.size=s.size:=rfl;omega),Lib.decodeL_drop,List.drop_drop]
     have hw:=Lib.decodeL_width (s.data.toList.drop i)
     rw [Lib.decodeL_drop] at hw
     rw [ih _ (by omega)]
   · rw [if_neg hi,List.drop_eq_nil_of_le (by simpa using hi)];rfl
theorem zpw (s:ByteArray):runesOf s=RU s.data.toList:=by
 unfold runesOf;rw [zdh s _ _ (by omega),List.drop_zero]


theorem zWB (l:List UInt8):zU1 (nats l)=l:=by
 unfold zU1 nats
 induction l with
 | nil=>rfl
 | cons a t ih=>simp only [List.map_cons,ih];congr 1;exact UInt8.ofNat_toNat
theorem zkw (a:UInt8) (h:a.toNat < 128):Lib.encodeRune (a.toNat:Int)=[a]:=by
 unfold Lib.encodeRune
 rw [Lib.encodeRuneZ_one (by omega) (by omega)]
 simp

def zLi (mark:Nat) (s:ByteArray):Nat×ByteArray×Int×Bool:=
 if mark=34 then (115,s,0,true) else if mark≠119 then (0,⟨#[]⟩,0,false)
 else if (s.toList == [116,114,117,101])=true then (116,⟨#[]⟩,0,true)
 else if (s.toList == [102,97,108,115,101])=true then (102,⟨#[]⟩,0,true)
 else if (s.toList == [110,117,108,108])=true then (110,⟨#[]⟩,0,true)
 else (105,⟨#[]⟩,(zyu (lets s)).1,(zyu (lets s)).2)

abbrev RM:=List UInt8×Nat×List UInt8×Int
def valP (p:Pc):Nat×List UInt8×Int×Bool:=
 ((zLi p.1 ⟨p.2.toArray⟩).1,(zLi p.1 ⟨p.2.toArray⟩).2.1.data.toList,(zLi p.1 ⟨p.2.toArray⟩).2.2.1,(zLi p.1 ⟨p.2.toArray⟩).2.2.2)
def mkRM (k v:Pc):RM:=(k.2,(valP v).1,(valP v).2.1,(valP v).2.2.1)
def T:List Pc→Option (List RM)
 | k::c::v::e::r=>if (valP v).2.2.2=true∧k.1=34∧c.1=58 then
    (if e.1=125∧r=[] then some [mkRM k v] else if e.1=44 then (T r).map (mkRM k v::·) else none) else none
 | _=>none

def allD (l:List Nat):Prop:=∀ c∈l,48≤c∧c≤57
def dval:Nat→List Nat→Nat
 | acc,[]=>acc
 | acc,c::t=>dval (acc*10+(c - 48)) t
theorem zFA (ds:List Nat):∀ acc,acc≤dval acc ds:=by
 induction ds with
 | nil=>intro acc;exact Nat.le_refl _
 | cons c t ih=>intro acc;have:=ih (acc*10+(c - 48));unfold dval;omega
theorem z20 {c:Nat} (h:c < 256):(UInt8.ofNat c).toNat=c:=by simp;omega
theorem pum (M:Nat) (hM:M=18446744073709551615) (ds:List Nat):∀ acc,allD ds→acc≤M→
 Lib.parseUintM M acc (zU1 ds)=if dval acc ds≤M then .ok (dval acc ds) else .range:=by
 induction ds with
 | nil=>intro acc _ h;show (Lib.NumEnd.ok acc:Lib.NumEnd Nat)=if acc≤M then .ok acc else .range;rw [if_pos h]
 | cons c t ih=>
   intro acc hd ha
   have hc:=hd c (by simp)
   have ht:allD t:=fun x hx=>hd x (by simp [hx])
   have hge:=zFA t (acc*10+(c - 48))
   have e:Lib.parseUintM M acc (zU1 (c::t))=if 1844674407370955162≤acc then .range else if M < acc*10+(c - 48) then .range else Lib.parseUintM M (acc*10+(c - 48)) (zU1 t):=by
    show Lib.parseUintM M acc (UInt8.ofNat c::zU1 t)=_
    rw [Lib.parseUintM,z20 (by omega),if_pos hc]
   have e2:dval acc (c::t)=dval (acc*10+(c - 48)) t:=rfl
   rw [e,e2]
   by_cases h1:1844674407370955162≤acc
   · rw [if_pos h1,if_neg (by omega)]
   · rw [if_neg h1]
     by_cases h2:M < acc*10+(c - 48)
     · rw [if_pos h2,if_neg (by omega)]
     · rw [if_neg h2];exact ih _ ht (by omega)

theorem zda {c:Nat} (h:c < 128):Utf8.encode (Int.ofNat c)=⟨#[UInt8.ofNat c]⟩:=by
 have hv:Utf8.valid (Int.ofNat c)=true:=by unfold Utf8.valid;simp;omega
 unfold Utf8.encode
 rw [hv]
 simp [h]
theorem zGz (l:List Nat) (h:∀ c∈l,c < 128):(runesBytes (l.map Int.ofNat)).data.toList=zU1 l:=by
 have key:∀ (l:List Nat) (b:ByteArray),(∀ c∈l,c < 128)→((l.map Int.ofNat).foldl (fun r n=>r++Utf8.encode n) b).data.toList=b.data.toList++zU1 l:=by
  intro l
  induction l with
  | nil=>intro b _;simp [zU1]
  | cons c t ih=>
    intro b h
    rw [List.map_cons,List.foldl_cons,ih _ (fun x hx=>h x (by simp [hx])),zda (h c (by simp))]
    simp [zU1]
 have:=key l ByteArray.empty h
 unfold runesBytes
 rw [this];rfl

def strCells (l:List (List UInt8)):List Value:=l.map (fun x=>Value.string ⟨x.toArray⟩)
theorem zBt (l:List (List UInt8)) (m:List UInt8):strCells (l++[m])=strCells l++[.string ⟨m.toArray⟩]:=by simp [strCells]
theorem strInfo:(Tryz.prog.info? 9).map (fun i=>(i.zero,i.size,i.bytes))=some (some (.string ⟨#[]⟩),1,16):=by kernel_rfl

theorem zHK (w:World) (a:Value) (t:TypeId):∀ j u,[a][j]?=some u→(w.alloc (.cells #[a] t)).cell? ((⟨w.heap.size,0,none⟩:Addr).add j)=some u:=by
 intro j u hj
 match j,hj with
 | 0,hj=>simp at hj;subst hj;simp [Addr.add]


def cnt (nm:List UInt8) (ms:List RM):Nat:=(ms.filter (fun m=>m.1 == nm)).length
def nodup (ms:List RM):Prop:=∀ nm,cnt nm ms≤1

def zIc (ms:List Mem):List Slot→Nat
 | []=>0
 | s::r=>(if (z7R ms s.1).isSome then 1 else 0)+zIc ms r

theorem zzD {w:World} {base:Nat} {e:TypeId} {size:Nat} {v:Value} {n:Nat} {xs:List Value} (h:w.ownsRow base e size v n xs):(v=.slice none 0 0∧n=0)∨∃ g cap,v=.slice (some ⟨g,0,none⟩) n cap∧n≤cap∧base≤g∧g < w.heap.size:=by
 rcases h.2 with ⟨h1,h2⟩ | ⟨g,cap,cur,h1,hbg,hg,hnc,_⟩
 · exact Or.inl ⟨h1,h2⟩
 · exact Or.inr ⟨g,cap,h1,hnc,hbg,zCqB hg⟩


def uniq (ops:List OpV):Prop:=(ops.map (·.id)).Nodup
def zQy (ops:List OpV) (line:Int) (q:Nat×Int×Int):List OpV:=match ops[q.1]? with
 | none=>ops
 | some o=>ops.set q.1 (zSi o line q.2.1 q.2.2)

theorem zJm (b:UInt8) (l:List UInt8):Lib.index (b::l) [10]=if b=10 then 0 else if Lib.index l [10]= -1 then -1 else Lib.index l [10]+1:=by
 rw [Lib.index]
 by_cases hb:b=10
 · subst hb;simp [List.isPrefixOf]
 · have:([10]:List UInt8).isPrefixOf (b::l)=false:=by
    simp only [List.isPrefixOf,Bool.and_true]
    rw [beq_eq_false_iff_ne]
    exact fun e=>hb e.symm
   rw [this,if_neg hb]
   simp only [Bool.false_eq_true,if_false,beq_iff_eq]
theorem z2n (b:UInt8) (l:List UInt8):Lib.cut (b::l) [10]=if b=10 then ([],l,true) else (b::(Lib.cut l [10]).1,(Lib.cut l [10]).2.1,(Lib.cut l [10]).2.2):=by
 unfold Lib.cut
 rw [zJm]
 by_cases hb:b=10
 · rw [if_pos hb,if_pos hb];simp
 · rw [if_neg hb,if_neg hb]
   have hge:=Lib.index_ge l [10]
   by_cases hi:Lib.index l [10]= -1
   · rw [if_pos hi,hi];simp
   · rw [if_neg hi,if_pos (by omega),if_pos (by omega)]
     have e:(Lib.index l [10]+1).toNat=(Lib.index l [10]).toNat+1:=by omega
     rw [e]
     simp

def zeroOp:OpV:=⟨0,0,[],[],0,0,0,0,0,0⟩
def opBlk (w:World) (b:Nat) (o:OpV):Prop:=w.heap[b]?=some (.cells #[.int .i64 o.id,.int .i64 o.cl,.string ⟨o.name.toArray⟩,.string ⟨o.key.toArray⟩,.int .i64 o.arg,.int .i64 o.exp,.int .i64 o.call,.int .i64 o.ret,.int .i64 o.vk,.int .i64 o.vn] 48 (0,0))
theorem opBlk.set {w:World} {b:Nat} {o:OpV} (h:opBlk w b o) (p:OpV):opBlk ((((((((((w.setCell ⟨b,0,none⟩ (.int .i64 p.id)).setCell ⟨b,1,none⟩ (.int .i64 p.cl)).setCell ⟨b,2,none⟩ (.string ⟨p.name.toArray⟩)).setCell ⟨b,3,none⟩ (.string ⟨p.key.toArray⟩)).setCell ⟨b,4,none⟩ (.int .i64 p.arg)).setCell ⟨b,5,none⟩ (.int .i64 p.exp)).setCell ⟨b,6,none⟩ (.int .i64 p.call)).setCell ⟨b,7,none⟩ (.int .i64 p.ret)).setCell ⟨b,8,none⟩ (.int .i64 p.vk)).setCell ⟨b,9,none⟩ (.int .i64 p.vn)) b p:=by
 unfold opBlk at*
 rw [zFg (zFg (zFg (zFg (zFg (zFg (zFg (zFg (zFg (zFg h 0 _) 1 _) 2 _) 3 _) 4 _) 5 _) 6 _) 7 _) 8 _) 9 _]
 simp

def vBlk (w:World) (b:Nat) (k n:Int):Prop:=w.heap[b]?=some (.cells #[.int .i64 k,.int .i64 n] 46 (0,0))
theorem vBlk.below {w w':World} {b:Nat} {x y:Int} (h:vBlk w b x y) (k:Below w.heap.size w w'):vBlk w' b x y:=(k.block b (zCqB h)).trans h
theorem vBlk.set {w:World} {b:Nat} {x y:Int} (h:vBlk w b x y) (k n:Int):vBlk ((w.setCell ⟨b,0,none⟩ (.int .i64 k)).setCell ⟨b,1,none⟩ (.int .i64 n)) b k n:=by
 unfold vBlk at*
 rw [zFg (zFg h 0 _) 1 _]
 simp
theorem vBlk.other {w:World} {b c:Nat} {x y:Int} (h:vBlk w b x y) (hn:b≠c) (u v:Value):vBlk ((w.setCell ⟨c,0,none⟩ u).setCell ⟨c,1,none⟩ v) b x y:=by
 unfold vBlk at*
 rw [zRA hn,zRA hn];exact h

theorem opBlk.below {w w':World} {b:Nat} {o:OpV} (h:opBlk w b o) (k:Below w.heap.size w w'):opBlk w' b o:=(k.block b (zCqB h)).trans h
theorem opBlk.call {w:World} {b:Nat} {o:OpV} (h:opBlk w b o) (line:Int):opBlk (w.setCell ⟨b,6,none⟩ (.int .i64 line)) b { o with call:=line }:=by
 unfold opBlk at*
 rw [zFg h]
 simp


theorem zYz1 {w:World} {base:Nat} {v:Value} {l:List (List UInt8)} (h:w.ownsRow base 9 1 v l.length (strCells l)):
 ∃ oa cap,v=.slice oa l.length cap∧(l≠[]→∃ g,oa=some ⟨g,0,none⟩∧g < w.heap.size∧∀ j x,l[j]?=some x→w.cell? ⟨g,j,none⟩=some (.string ⟨x.toArray⟩)):=by
 rcases zzD h with ⟨rfl,h0⟩ | ⟨g,cap,rfl,_,_,hg⟩
 · exact ⟨none,0,by rw [h0],fun hne=>absurd (List.length_eq_zero_iff.1 h0) hne⟩
 · refine ⟨_,_,rfl,fun _=>⟨g,rfl,hg,?_⟩⟩
   intro j x hj
   have:=h.cells (g:=g) rfl j (.string ⟨x.toArray⟩) (by simp [strCells,hj])
   by_cases h0:j=0
   · subst h0;simpa [Addr.add] using this
   · simpa [Addr.add,h0] using this

end Go.Proofs.YtlkidmafomjhgaaGreatDoor
