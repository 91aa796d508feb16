/- Several texts in one. -/
import Derived.Test.YtoeoinpaidhmcaaGreatDoorProg
import Derived.Test.YtoeoinpaidhmcaaGreatDoorShelf
import Derived.BigCall
import Derived.BigQuiet
import Derived.ChangeAlike
import Derived.Deep.QuietTactic
import Derived.Lib.OthersKept
import Derived.RegionTactic
import Derived.WalkKit
import Derived.WalkLawsBesides
import Derived.WalkSpells
set_option maxHeartbeats 2000000
namespace Go.Proofs.YtoeoinpaidhmcaaGreatDoor
open Go.RowKit
theorem zA (w:World)(o:Obj):Below w.heap.size w (w.alloc o):=(Below.refl _ _).alloc (Nat.le_refl _) _
theorem zB {α:Type}{l:List α}{i:Nat}{a:α}(h:l[i]?=some a):∃h:i<l.length,l[i]=a:=List.getElem?_eq_some_iff.1 h
theorem zC {α:Type}{l:List α}{i:Nat}(h:i<l.length):l[i]?=some l[i]:=List.getElem?_eq_getElem h
theorem zD {B:Nat}{w:World}:Below B w w:=Below.refl _ _
theorem zH {n:Nat}:n≤n:=Nat.le_refl _
theorem zI {a b c:Nat}(h:a<b)(k:b≤c):a<c:=Nat.lt_of_lt_of_le h k
theorem zJ {α:Type}{a b:List α}:(a++b).length=a.length+b.length:=List.length_append
structure Kept (S:List Nat)(w w':World):Prop where
 os:w'.os=w.os
 tape:w'.tape=w.tape
 output:w'.output=w.output
 size:w.heap.size≤w'.heap.size
 block:∀k,k<w.heap.size→k∉S→w'.heap[k]?=w.heap[k]?
theorem Kept.refl (S:List Nat)(w:World):Kept S w w:=⟨rfl,rfl,rfl,Nat.le_refl _,fun _ _ _=>rfl⟩
theorem Kept.trans {S:List Nat}{a b c:World}(h:Kept S a b)(k:Kept S b c):Kept S a c:=
 ⟨k.os.trans h.os,k.tape.trans h.tape,k.output.trans h.output,Nat.le_trans h.size k.size,fun i hi hn=>(k.block i (Nat.lt_of_lt_of_le hi h.size) hn).trans (h.block i hi hn)⟩
theorem Kept.mono {S d:List Nat}{a b:World}(h:Kept S a b)(e:∀x,x<a.heap.size→x∈S→x∈d):Kept d a b:=
 ⟨h.os,h.tape,h.output,h.size,fun i hi hn=>h.block i hi fun hm=>hn (e i hi hm)⟩
theorem Kept.drew {S:List Nat}{a w:World}(h:Kept S a w):Kept S a w.drew:=⟨h.os,h.tape,h.output,h.size,h.block⟩
theorem Kept.alloc {S:List Nat}{a w:World}(h:Kept S a w)(o:Obj):Kept S a (w.alloc o):=
 h.trans ⟨rfl,rfl,rfl,by simp,fun k hk _=>Below.heap_alloc _ _ _ hk⟩
theorem Kept.setCell {S:List Nat}{a w:World}(h:Kept S a w){p:Addr}(b:p.block∈S∨a.heap.size≤p.block)(u:Value):Kept S a (w.setCell p u):=
 ⟨h.os,h.tape,h.output,by have:=h.size;simpa [World.setCell]using this,fun k hk hn=>by
  have d:k≠p.block:=fun e=>b.elim (fun b=>hn (by rw[e];exact b)) (fun b=>by omega);rw[Below.heap_setCell _ _ _ _ d];exact h.block k hk hn⟩
theorem Kept.alike {S:List Nat}{a w w':World}(h:Kept S a w)(k:w'.Alike w)(d:w'.tape=w.tape)(b:w'.os=w.os)(e:w'.output=w.output):Kept S a w':=
 ⟨b.trans h.os,d.trans h.tape,e.trans h.output,by have:=h.size;rw[k.1];exact this,fun i hi hn=>by rw[k.1];exact h.block i hi hn⟩
theorem Kept.below {S:List Nat}{a w:World}{B:Nat}(h:Kept S a w)(hB:B≤a.heap.size)(b:∀x,x∈S→B≤x):Below B a w:=
 ⟨h.os,h.tape,h.output,h.size,fun k hk=>h.block k (by omega) fun hm=>by have:=b k hm;omega⟩
theorem Kept.of_below {S:List Nat}{a w:World}(h:Below a.heap.size a w):Kept S a w:=
 ⟨h.os,h.tape,h.output,h.size,fun k hk _=>h.block k hk⟩
theorem Kept.cell {S:List Nat}{a w:World}(h:Kept S a w){p:Addr}(b:p.block<a.heap.size)(d:p.block∉S):w.cell? p=a.cell? p:=
 World.cell?_of_block (w:=a) (h.block _ b d)
theorem zBq {w:World}{b:Nat}{o:Obj}(h:w.heap[b]?=some o):b<w.heap.size:=(Array.getElem?_eq_some_iff.1 h).1
theorem zBk {w:World}{b:Nat}{c:Array Value}{t:TypeId}{f:Nat×Nat}(h:w.heap[b]?=some (.cells c t f))(i:Nat):w.cell? ⟨b,i,none⟩=c[i]?:=by
 simp[World.cell?,h]
theorem zBn {w:World}{b:Nat}{c:Array Value}{t:TypeId}(h:w.heap[b]?=some (.cells c t (0,0)))(i:Nat):w.frozen? ⟨b,i,none⟩=false:=by
 simp[World.frozen?,h]
theorem zFg {w:World}{b:Nat}{c:Array Value}{t:TypeId}{f:Nat×Nat}(h:w.heap[b]?=some (.cells c t f))(i:Nat)(v:Value):
 (w.setCell ⟨b,i,none⟩ v).heap[b]?=some (.cells (c.setIfInBounds i v) t f):=by
 simp[World.setCell,Array.getElem?_modify,h]
theorem zRA {w:World}{b:Nat}{a:Addr}(h:b≠a.block)(v:Value):(w.setCell a v).heap[b]?=w.heap[b]?:=Below.heap_setCell _ _ _ _ h
open Tryz
theorem zrzG {k:IntKind}{a b:Int}{x y:Bool}(h:a=b)(d:x=y):Ending.returned (.tuple #[.int k a,.bool x])=.returned (.tuple #[.int k b,.bool y]):=by rw[h,d]
theorem z8u {a b:Bool}(h:a=b):Ending.returned (.bool a)=.returned (.bool b):=by rw[h]
def zDm (r:Int):Bool:=decide (55296≤r)&&decide (r<56320)
def lowB (r:Int):Bool:=decide (56320≤r)&&decide (r≤57343)
def hexV (r:Int):Int:=if 48≤r∧r≤57 then r-48 else if 97≤r∧r≤102 then r-97+10 else if 65≤r∧r≤70 then r-65+10 else 0
def hexB (r:Int):Bool:=decide ((48≤r∧r≤57)∨(97≤r∧r≤102)∨(65≤r∧r≤70))
theorem z6T (r:Int)(w:World):
 Calls prog 209 #[.int .i32 r] w fun e w'=>e=.returned (.bool (zDm r))∧w'=w:=by
 go_enter func209,ntmps209;go_wp2
 all_goals go_ret
 all_goals exact⟨z8u (by simp[zDm];try omega),rfl⟩
theorem zOs (r:Int)(w:World):
 Calls prog 208 #[.int .i32 r] w fun e w'=>e=.returned (.bool (lowB r))∧w'=w:=by
 go_enter func208,ntmps208;go_wp2
 all_goals go_ret
 all_goals exact⟨z8u (by simp[lowB];try omega),rfl⟩
theorem zxm (r:Int)(w:World):
 Calls prog 216 #[.int .i32 r] w fun e w'=>e=.returned (.tuple #[.int .i32 (hexV r),.bool (hexB r)])∧w'=w:=by
 go_enter func216,ntmps216;go_wp2
 all_goals go_ret2
 all_goals refine⟨zrzG ?_ ?_,rfl⟩
 all_goals first
  | (unfold hexV;(repeat' split)<;>omega)
  | (unfold hexB;simp;omega)
structure Scan (w:World)(b rb cap:Nat)(rs:List Nat)(k:Nat):Prop where
 blk:w.heap[b]?=some (.cells #[.slice (some ⟨rb,0,none⟩) rs.length cap,.int .i64 k] 168 (0,0))
 row:∃c t f,w.heap[rb]?=some (.cells c t f)∧∀i (h:i<rs.length),c[i]?=some (.int .i32 (rs[i]:Int))
 ne:rb≠b
 le:k≤rs.length
 small:rs.length≤2000000
 bd:∀c∈rs,c≤2147483647
 room:rs.length≤cap
def zEH (l:List Nat):Int:=match l with| []=> -1|c::_=>(c:Int)
theorem zvx {a:List Nat}{k:Nat}(h:k<a.length):zEH (a.drop k)=(a[k]:Int):=by
 rw[List.drop_eq_getElem_cons h];rfl
theorem zMf {a:List Nat}{k:Nat}(h:a.length≤k):zEH (a.drop k)= -1:=by
 rw[List.drop_eq_nil_of_le h];rfl
theorem Scan.c0 {w b rb cap rs k}(h:Scan w b rb cap rs k):w.cell? ⟨b,0,none⟩=some (.slice (some ⟨rb,0,none⟩) rs.length cap):=by
 rw[zBk h.blk];rfl
theorem Scan.c1 {w b rb cap rs k}(h:Scan w b rb cap rs k):w.cell? ⟨b,1,none⟩=some (.int .i64 k):=by
 rw[zBk h.blk];rfl
theorem Scan.f1 {w b rb cap rs k}(h:Scan w b rb cap rs k):w.frozen? ⟨b,1,none⟩=false:=zBn h.blk 1
theorem Scan.cr {w b rb cap rs k}(h:Scan w b rb cap rs k){i:Nat}(d:i<rs.length):w.cell? ⟨rb,i,none⟩=some (.int .i32 (rs[i]:Int)):=by
 obtain⟨c,t,f,a,e⟩:=h.row;rw[zBk a];exact e i d
theorem Scan.alike {w w' b rb cap rs k}(h:Scan w b rb cap rs k)(a:w'.Alike w):Scan w' b rb cap rs k:=
 ⟨by rw[a.1];exact h.blk,by rw[a.1];exact h.row,h.ne,h.le,h.small,h.bd,h.room⟩
theorem Scan.to {w b rb cap rs k}(h:Scan w b rb cap rs k)(k':Nat)(a:k'≤rs.length):Scan (w.setCell ⟨b,1,none⟩ (.int .i64 k')) b rb cap rs k':=
 ⟨by rw[zFg h.blk];rfl,by rw[zRA h.ne];exact h.row,h.ne,a,h.small,h.bd,h.room⟩
theorem Scan.kept {w w' b rb cap rs k S}(h:Scan w b rb cap rs k)(d:Kept S w w')(g:b∉S)(a:rb∉S):Scan w' b rb cap rs k:=by
 obtain⟨c,t,f,e,i⟩:=h.row;exact⟨by rw[d.block b (zBq h.blk) g];exact h.blk,⟨c,t,f,by rw[d.block rb (zBq e) a];exact e,i⟩,h.ne,h.le,h.small,h.bd,h.room⟩
theorem Scan.drewN {w b rb cap rs k}(h:Scan w b rb cap rs k)(n:Nat):Scan (w.drewN n) b rb cap rs k:=⟨h.blk,h.row,h.ne,h.le,h.small,h.bd,h.room⟩
theorem Kept.drewN {S:List Nat}{a w:World}(h:Kept S a w)(n:Nat):Kept S a (w.drewN n):=⟨h.os,h.tape,h.output,h.size,h.block⟩
theorem zPf (b i h k:Nat)(d:List Nat)(w:World)(a:Scan w b i h d k):
 Calls prog 148 #[.pointer (some ⟨b,0,none⟩)] w fun e w'=>e=.returned (.int .i32 (zEH (d.drop k)))∧∃n,w'=w.drewN n:=by
 have o:=a.c0;have m:=a.c1;have p:=a.le;have q:=a.small;by_cases hlt:k<d.length
 ·have l:=a.cr hlt;have g:=zvx hlt;generalize d[k]=r at l g;rw[g];clear g a;generalize d.length=n at*;have j:(k:Int)<(n:Int):=by omega
  go_enter func148,ntmps148;go_wp2;go_quiet (fail);go_wp2;go_quiet (fail);go_wp2;go_ret;exact⟨rfl,_,by rw[World.drewN_drewN]⟩
 ·rw[zMf (by omega)];clear a;generalize d.length=n at*;have j:¬(k:Int)<(n:Int):=by omega
  go_enter func148,ntmps148;go_wp2;go_quiet (fail);go_wp2;go_ret;exact⟨rfl,_,rfl⟩
theorem znY {a:List Nat}{k:Nat}{r:Int}(h:zEH (a.drop k)=r)(b:0≤r):k<a.length:=by
 by_cases hlt:k<a.length
 ·exact hlt
 ·rw[zMf (by omega)]at h;omega
theorem z8M (b i d k:Nat)(g:List Nat)(r:Int)(w:World)(a:Scan w b i d g k)(h:zEH (g.drop k)=r)(j:0≤r):
 Calls prog 112 #[.pointer (some ⟨b,0,none⟩),.int .i32 r] w fun e w'=>e=.returned (.bool true)∧Scan w' b i d g (k+1)∧Kept [b] w w':=by
 have m:=znY h j;have p:=a.small;have l:Hid (zEH (g.drop k)=r):=h;clear h;have o:=a.c1;have q:=a.f1;go_enter func112,ntmps112;go_wp2_with (go_at_call 148;refine(zPf b i d k g _ a).mono ?_;rintro e w' ⟨rfl,n,rfl⟩;rw[l.out]);go_ret;exact⟨rfl,((a.drewN n).to (k+1) (by omega)),((Kept.refl _ _).drewN n).setCell (Or.inl (by simp)) _⟩
theorem zZ5 (b g d k:Nat)(a:List Nat)(r:Int)(w:World)(i:Scan w b g d a k)(h:zEH (a.drop k)≠r):
 Calls prog 112 #[.pointer (some ⟨b,0,none⟩),.int .i32 r] w fun e w'=>e=.returned (.bool false)∧∃n,w'=w.drewN n:=by
 have j:(zEH (a.drop k) != r)=true:=by simp[h]
 clear h;go_enter func112,ntmps112;go_wp2_with (go_at_call 148;refine(zPf b g d k a _ i).mono ?_;rintro e w' ⟨rfl,n,rfl⟩);go_ret;exact⟨rfl,_,rfl⟩
theorem z3C (b h g k:Nat)(a:List Nat)(w:World)(d:Scan w b h g a k):
 Calls prog 170 #[.pointer (some ⟨b,0,none⟩)] w fun e w'=>e=.returned (.int .i32 (zEH (a.drop k)))∧Scan w' b h g a (min (k+1) a.length)∧Kept [b] w w':=by
 have m:=d.small;by_cases hlt:k<a.length
 ·have i:(zEH (a.drop k) != -1)=true:=by rw[zvx hlt];simp
  rw[Nat.min_eq_left (by omega)];have j:=d.c1;have o:=d.f1;go_enter func170,ntmps170;go_wp2_with (go_at_call 148;refine(zPf b h g k a _ d).mono ?_;rintro e w' ⟨rfl,n,rfl⟩);go_ret;exact⟨rfl,((d.drewN n).to (k+1) (by omega)),((Kept.refl _ _).drewN n).setCell (Or.inl (by simp)) _⟩
 ·have i:(zEH (a.drop k) != -1)=false:=by rw[zMf (by omega)];rfl
  have l:=d.le;rw[show min (k+1) a.length=k by omega];go_enter func170,ntmps170;go_wp2_with (go_at_call 148;refine(zPf b h g k a _ d).mono ?_;rintro e w' ⟨rfl,n,rfl⟩);go_ret;exact⟨rfl,d.drewN n,(Kept.refl _ _).drewN n⟩
def zE1 (c:Int):Bool:=c==32||c==9||c==13
def digB (c:Int):Bool:=decide (48≤c)&&decide (c≤57)
def zek:List Nat→List Nat
 | []=>[]
 |c::t=>if zE1 c then zek t else c::t
def zva:List Nat→List Nat
 | []=>[]
 |c::t=>if digB c then zva t else c::t
def z3F (w:World)(b:Nat):Nat:=match w.cell? ⟨b,1,none⟩with|some (.int _ n)=>n.toNat|_=>0
theorem Scan.place {w b rb cap rs k}(h:Scan w b rb cap rs k):z3F w b=k:=by simp[z3F,h.c1]
theorem zOW {a:List Nat}{k c:Nat}{t:List Nat}(h:a.drop k=c::t):a.drop (k+1)=t:=by
 rw[←List.drop_drop,h];rfl
theorem z7P {a:List Nat}{k c:Nat}{t:List Nat}(h:a.drop k=c::t):k<a.length:=by
 by_cases hlt:k<a.length
 ·exact hlt
 ·rw[List.drop_eq_nil_of_le (by omega)]at h;cases h
theorem zn7 (b o g k:Nat)(a:List Nat)(w:World)(A:Scan w b o g a k):
 Calls prog 84 #[.pointer (some ⟨b,0,none⟩)] w fun e w'=>e=.returned (.tuple #[])∧∃k',a.drop k'=zek (a.drop k)∧k≤k'∧Scan w' b o g a k'∧Kept [b] w w':=by
 go_enter func84,ntmps84;go_wp2;go_loopw [] (fun w'=>∃j,zek (a.drop j)=zek (a.drop k)∧k≤j∧Scan w' b o g a j∧Kept [b] w w') (fun w'=>a.length-z3F w' b)
 case atStart=>exact⟨k,rfl,Nat.le_refl _,A,Kept.refl _ _⟩
 case round=>
  obtain⟨j,v,x,h,u⟩:=hrel;have E:=h.small;have n:∀(d:World),zEH (a.drop j)≠ -1→zE1 (zEH (a.drop j))=true→Scan d b o g a (j+1)→Kept [b] wr d→
   (∃j,zek (a.drop j)=zek (a.drop k)∧k≤j∧Scan d b o g a j∧Kept [b] w d)∧a.length-z3F d b<a.length-z3F wr b:=by
   intro d l i m y;rw[m.place,h.place];cases hd:a.drop j with
   |nil=>rw[hd]at l;exact absurd rfl l
   |cons c t=>
     have B:=z7P hd;refine⟨⟨j+1,?_,by omega,m,u.trans y⟩,by omega⟩;rw[zOW hd,←v,hd,zek,if_pos (by rw[hd]at i;exact i)]
  by_cases l:zEH (a.drop j)=32
  ·go_wp2_with fail;refine(z8M b o g j a 32 _ h l (by omega)).mono ?_;rintro e d ⟨rfl,q,p⟩;go_wp2;go_roundw
   case rel=>exact(n d (by rw[l];decide) (by rw[l];decide) q p).1
   case measure=>exact(n d (by rw[l];decide) (by rw[l];decide) q p).2
  ·go_wp2_with fail;refine(zZ5 b o g j a 32 _ h l).mono ?_;rintro e d ⟨rfl,s,rfl⟩;by_cases i:zEH (a.drop j)=9
   ·go_wp2_with fail;refine(z8M b o g j a 9 _ (h.drewN s) i (by omega)).mono ?_;rintro e d ⟨rfl,q,p⟩;go_wp2;go_roundw
    case rel=>exact(n d (by rw[i];decide) (by rw[i];decide) q (((Kept.refl _ _).drewN s).trans p)).1
    case measure=>exact(n d (by rw[i];decide) (by rw[i];decide) q (((Kept.refl _ _).drewN s).trans p)).2
   ·go_wp2_with fail;refine(zZ5 b o g j a 9 _ (h.drewN s) i).mono ?_;rintro e d ⟨rfl,D,rfl⟩;by_cases m:zEH (a.drop j)=13
    ·go_wp2_with fail;refine(z8M b o g j a 13 _ (h.drewN _) m (by omega)).mono ?_;rintro e d ⟨rfl,q,p⟩;go_wp2;go_roundw
     case rel=>exact(n d (by rw[m];decide) (by rw[m];decide) q (((Kept.refl _ _).drewN _).trans p)).1
     case measure=>exact(n d (by rw[m];decide) (by rw[m];decide) q (((Kept.refl _ _).drewN _).trans p)).2
    ·go_wp2_with fail;refine(zZ5 b o g j a 13 _ (h.drewN _) m).mono ?_;rintro e d ⟨rfl,C,rfl⟩;have r:a.drop j=zek (a.drop k):=by
      rw[←v];cases hd:a.drop j with
      |nil=>rfl
      |cons c t=>
        rw[hd]at l i m;rw[zek,if_neg (by simp only [zE1,zEH]at *;simp[l,i,m])]
     have z:Hid (a.drop j=zek (a.drop k)):=r;clear r n v l i m;go_wp2;go_end0;exact⟨rfl,j,z.out,x,h.drewN _,u.drewN _⟩
theorem zHI (b i g k:Nat)(a:List Nat)(w:World)(B:Scan w b i g a k):
 Calls prog 195 #[.pointer (some ⟨b,0,none⟩)] w fun e w'=>e=.returned (.tuple #[])∧∃k',a.drop k'=zva (a.drop k)∧k≤k'∧Scan w' b i g a k'∧Kept [b] w w':=by
 go_enter func195,ntmps195;go_wp2;go_loopw [] (fun w'=>∃j,zva (a.drop j)=zva (a.drop k)∧k≤j∧Scan w' b i g a j∧Kept [b] w w') (fun w'=>a.length-z3F w' b)
 case atStart=>exact⟨k,rfl,Nat.le_refl _,B,Kept.refl _ _⟩
 case round=>
  obtain⟨j,r,q,d,n⟩:=hrel;have F:=d.small;have c1:=d.c1;have f1:=d.f1;cases hd:a.drop j with
  |nil=>
    have v:zEH (a.drop j)= -1:=(by rw[hd];rfl);have l:Hid (a.drop j=zva (a.drop k)):=(by rw[←r,hd];rfl);have m:Hid (zEH (a.drop j)= -1):=v;clear v r hd;go_wp2_with fail;refine(zPf b i g j a _ d).mono ?_;rintro e o ⟨rfl,h,rfl⟩;rw[m.out];go_wp2;go_end0;exact⟨rfl,j,l.out,q,d.drewN h,n.drewN h⟩
  |cons c t=>
    have D:=z7P hd;have m:Hid (zEH (a.drop j)=(c:Int)):=(by rw[hd];exact rfl);have z:Hid (zva (a.drop j)=zva (a.drop k)):=r;have u:Hid (a.drop j=c::t):=hd;clear r hd;by_cases h1:48≤c∧c≤57
    ·obtain⟨E,G⟩:=h1;have s:(48:Int)≤(c:Int):=(by omega);have x:(c:Int)≤57:=(by omega);go_wp2_with fail;refine(zPf b i g j a _ d).mono ?_;rintro e o ⟨rfl,h,rfl⟩;rw[m.out];go_wp2_with fail;refine(zPf b i g j a _ (d.drewN h)).mono ?_;rintro e o ⟨rfl,y,rfl⟩;rw[m.out];go_wp2;go_roundw
     case rel=>
      refine⟨j+1,?_,by omega,(d.drewN _).to (j+1) (by omega),(n.drewN _).setCell (p:=⟨b,1,none⟩) (Or.inl (by simp)) _⟩;rw[zOW u.out,←z.out,u.out,zva,if_pos (by simp[digB];omega)]
     case measure=>
      have A:=((d.drewN (h+y)).to (j+1) (by omega)).place;rw[d.place];have C:((j+1:Nat):Int)=(j:Int)+1:=(by omega);rw[C]at A;rw[show z3F _ b=j+1 from A];omega
    ·have l:Hid (a.drop j=zva (a.drop k)):=by
      rw[←z.out,u.out,zva,if_neg (by simp[digB];omega)];exact rfl
     by_cases h2:48≤c
     ·have s:(48:Int)≤(c:Int):=(by omega);have x:¬(c:Int)≤57:=(by omega);clear h1;go_wp2_with fail;refine(zPf b i g j a _ d).mono ?_;rintro e o ⟨rfl,h,rfl⟩;rw[m.out];go_wp2_with fail;refine(zPf b i g j a _ (d.drewN h)).mono ?_;rintro e o ⟨rfl,y,rfl⟩;rw[m.out];go_wp2;go_end0;exact⟨rfl,j,l.out,q,d.drewN _,n.drewN _⟩
     ·have s:¬(48:Int)≤(c:Int):=(by omega);clear h1;go_wp2_with fail;refine(zPf b i g j a _ d).mono ?_;rintro e o ⟨rfl,h,rfl⟩;rw[m.out];go_wp2;go_end0;exact⟨rfl,j,l.out,q,d.drewN h,n.drewN h⟩
def zyQ:Nat→Int→List Nat→Option Int
 |0,acc,_=>some acc
 |_+1,_,[]=>none
 |m+1,acc,c::t=>if hexB c then zyQ m (acc*16+hexV c) t else none
def four (l:List Nat):Option Int:=zyQ 4 0 l
theorem zLt (r:Int):0≤hexV r∧hexV r≤15:=by unfold hexV;(repeat' split)<;>omega
theorem zdo:hexB (-1)=false:=by decide
theorem zMp {i:Nat}{a:Int}(b:i<4)(h:a<16 ^ i):a≤4095:=by
 have:i=0∨i=1∨i=2∨i=3:=by omega
 rcases this with rfl|rfl|rfl|rfl<;>simp at h<;>omega
theorem zcG {i:Nat}{a d:Int}(h:a<16 ^ i)(b:0≤d)(e:d≤15):a*16+d<16 ^ (i+1):=by
 have:(16:Int) ^ (i+1)=16 ^ i*16:=by rw[Int.pow_succ]
 omega
theorem zR4 (b o l k:Nat)(a:List Nat)(w:World)(z:Scan w b o l a k):
 Calls prog 207 #[.pointer (some ⟨b,0,none⟩)] w fun e w'=>
  ∃k',Scan w' b o l a k'∧Kept [b] w w'∧((∃v,four (a.drop k)=some v∧0≤v∧v≤65535∧k'=k+4∧e=.returned (.tuple #[.int .i32 v,.bool true]))∨
   (four (a.drop k)=none∧e=.returned (.tuple #[.int .i32 0,.bool false]))):=by
 go_enter func207,ntmps207;go_wp2;go_loopw [4,7] (fun n i w'=>∃(j:Nat) (g:Int),j≤4∧i=.int .i64 j∧n=.int .i32 g∧0≤g∧g<16 ^ j∧k+j≤a.length∧zyQ (4-j) g (a.drop (k+j))=four (a.drop k)∧Scan w' b o l a (k+j)∧Kept [b] w w') (fun _ i _=>4-(intOf i).toNat)
 case atStart=>exact⟨0,0,by omega,rfl,rfl,by omega,by decide,z.le,rfl,z,Kept.refl _ _⟩
 case round=>
  obtain⟨j,g,J,rfl,rfl,B,r,G,A,q,m⟩:=hrel;have hR:Hid (zyQ (4-j) g (a.drop (k+j))=four (a.drop k)):=A;clear A;by_cases hlt:j<4
  ·have F:=zMp hlt r;have E:(j:Int)<4:=(by omega);go_wp2_with fail;refine(z3C b o l (k+j) a _ q).mono ?_;rintro e K ⟨rfl,p,s⟩;go_wp2_with fail;refine(zxm _ _).mono ?_;rintro e H ⟨rfl,rfl⟩;cases hd:a.drop (k+j)with
   |nil=>
     have h:Hid (four (a.drop k)=none):=by
      rw[←hR.out,hd,show 4-j=(3-j)+1 by omega];exact rfl
     rw[show zEH []= -1 from rfl,zdo];clear hR hd;generalize hexV (-1)=d;go_wp2;go_ret2;exact⟨_,p,m.trans s,Or.inr ⟨h.out,rfl⟩⟩
   |cons c t=>
     have I:=z7P hd;have D:=zLt c;rw[Nat.min_eq_left (by omega)]at p;rw[show zEH (c::t)=(c:Int)from rfl];cases hx:hexB (c:Int)with
     |true=>
       have C:Hid (zyQ (4-(j+1)) (g*16+hexV c) (a.drop (k+j+1))=four (a.drop k)):=by
        rw[zOW hd,←hR.out,hd,show 4-j=(4-(j+1))+1 by omega,zyQ,if_pos hx];exact rfl
       clear hR hd hx;generalize hexV (c:Int)=d at*;obtain⟨u,y⟩:=D;go_wp2;go_roundw
       case rel=>exact⟨j+1,g*16+d,by omega,by go_num,rfl,by omega,zcG r u y,by omega,C.out,p,m.trans s⟩
       case measure=>simp[intOf];omega
     |false=>
       have h:Hid (four (a.drop k)=none):=by
        rw[←hR.out,hd,show 4-j=(3-j)+1 by omega,zyQ,if_neg (by simp[hx])];exact rfl
       clear hR hd hx;generalize hexV (c:Int)=d at*;go_wp2;go_ret2;exact⟨_,p,m.trans s,Or.inr ⟨h.out,rfl⟩⟩
  ·have x:j=4:=(by omega);subst x;have h:Hid (four (a.drop k)=some g):=(by rw[←hR.out];exact rfl);clear hR;go_wp2;go_ret2;exact⟨_,q,m,Or.inl ⟨g,h.out,B,by omega,rfl,rfl⟩⟩
def lets (s:ByteArray):List Nat:=s.data.toList.map UInt8.toNat
def eats:List Nat→List Nat→Bool
 | [],_=>true
 |_::_,[]=>false
 |a::s,c::l=>a==c&&eats s l
theorem zvH (s:ByteArray)(i:Nat)(h:i<s.size):(lets s).drop i=(s[i]).toNat::(lets s).drop (i+1):=by
 have a:i<(lets s).length:=by simpa [lets]using h
 rw[List.drop_eq_getElem_cons a];congr 1;simp[lets];rfl
theorem Kept.iterAt {S:List Nat}{a w:World}(h:Kept S a w){k:Nat}(b:a.heap.size≤k)(s:ByteArray)(pos:Nat):Kept S a (w.iterAt k s pos):=
 ⟨h.os,h.tape,h.output,by rw[Lib.iterAt_size];exact h.size,fun i hi hn=>by rw[Lib.iterAt_other _ _ _ _ _ (by omega)];exact h.block i hi hn⟩
theorem Scan.iterAt {w b rb cap rs k}(h:Scan w b rb cap rs k){i pos:Nat}{s:ByteArray}(a:w.heap[i]?=some (.stringIter s pos))(d:Nat):Scan (w.iterAt i s d) b rb cap rs k:=by
 obtain⟨c,t,f,g,j⟩:=h.row;have l:b≠i:=by intro e;subst e;rw[h.blk]at a;cases a
 have m:rb≠i:=by intro e;subst e;rw[g]at a;cases a
 exact⟨by rw[Lib.iterAt_other _ _ _ _ _ l];exact h.blk,⟨c,t,f,by rw[Lib.iterAt_other _ _ _ _ _ m];exact g,j⟩,h.ne,h.le,h.small,h.bd,h.room⟩
theorem Scan.alloc {w b rb cap rs k}(h:Scan w b rb cap rs k)(o:Obj):Scan (w.alloc o) b rb cap rs k:=
 h.kept (S:=[]) ((Kept.refl _ _).alloc o) (by simp) (by simp)
theorem zJR (b o g k:Nat)(a:List Nat)(s:ByteArray)(w:World)(C:Scan w b o g a k)(G:∀i (h:i<s.size),(s[i]'h).toNat<128)(K:s.size≤100):
 Calls prog 174 #[.pointer (some ⟨b,0,none⟩),.string s] w fun e w'=>
  ∃k',e=.returned (.bool (eats (lets s) (a.drop k)))∧Scan w' b o g a k'∧Kept [b] w w'∧(eats (lets s) (a.drop k)=true→k'=k+s.size):=by
 have J:b<w.heap.size:=zBq C.blk;go_enter func174,ntmps174;go_wp2;go_loopw [] (fun w'=>∃j:Nat,j≤s.size∧eats ((lets s).drop j) (a.drop (k+j))=eats (lets s) (a.drop k)∧w'.heap[w.heap.size]?=some (.stringIter s j)∧Scan w' b o g a (k+j)∧Kept [b] w w') (fun w'=>s.size-w'.iterPos w.heap.size)
 case atStart=>exact⟨0,by omega,rfl,by rw[World.iter_heap],C.alloc _,(Kept.refl _ _).alloc _⟩
 case round=>
  obtain⟨j,L,D,l,r,y⟩:=hrel;have hR:Hid (eats ((lets s).drop j) (a.drop (k+j))=eats (lets s) (a.drop k)):=D;have z:Hid (wr.heap[w.heap.size]?=some (.stringIter s j)):=l;clear D;by_cases hlt:j<s.size
  ·have p:∀ty,(Instr.next (.pointer (some ⟨w.heap.size,0,none⟩)) true ty).run prog wr=_:=fun ty=>Lib.run_next_ascii_at wr w.heap.size s j ty l hlt (G j hlt);clear l;have m:=r.iterAt z.out (j+1);have n:=y.iterAt zH s (j+1);have q:=Lib.iterAt_heap _ _ _ _ (j+1) z.out;have u:Hid ((wr.iterAt w.heap.size s (j+1)).heap[w.heap.size]?=some (.stringIter s (j+1))):=q;have A:=zvH s j hlt;have HL:Hid ((lets s).drop j=(s[j]).toNat::(lets s).drop (j+1)):=A;clear q A;go_wp2_with fail;by_cases hp:zEH (a.drop (k+j))=((s[j]).toNat:Int)
   ·refine(z8M b o g (k+j) a _ _ m hp (by omega)).mono ?_;rintro e E ⟨rfl,H,B⟩;have F:Hid (eats ((lets s).drop (j+1)) (a.drop (k+j+1))=eats (lets s) (a.drop k)):=by
     cases hd:a.drop (k+j)with
     |nil=>rw[hd]at hp;simp only [zEH]at hp;omega
     |cons c t=>
       rw[zOW hd,←hR.out,hd,HL.out,eats];rw[hd]at hp;have:(s[j]).toNat=c:=(by simp only [zEH]at hp;omega);simp[this,Hid]
    have v:Hid (E.heap[w.heap.size]?=some (.stringIter s (j+1))):=by
     rw[B.block w.heap.size (zBq u.out) (by simp;omega)];exact u.out
    clear hp p;go_wp2;go_roundw
    case rel=>exact⟨j+1,by omega,F.out,v.out,H,n.trans B⟩
    case measure=>
     simp only [World.iterPos,v.out,z.out];omega
   ·refine(zZ5 b o g (k+j) a _ _ m hp).mono ?_;rintro e E ⟨rfl,M,rfl⟩;have d:Hid (eats (lets s) (a.drop k)=false):=by
     rw[←hR.out,HL.out];cases hd:a.drop (k+j)with
     |nil=>exact rfl
     |cons c t=>
       rw[hd]at hp;have:¬(s[j]).toNat=c:=(by simp only [zEH]at hp;omega);simp[eats,this,Hid]
    clear hp p hR HL;go_wp2;go_ret;exact⟨_,by rw[d.out];rfl,m.drewN _,n.drewN _,by rw[d.out];intro h;cases h⟩
  ·have x:j=s.size:=(by omega);have p:∀ty,(Instr.next (.pointer (some ⟨w.heap.size,0,none⟩)) true ty).run prog wr=_:=fun ty=>Lib.run_next_end_at wr w.heap.size s j ty l hlt;have d:Hid (eats (lets s) (a.drop k)=true):=by
    rw[←hR.out,List.drop_eq_nil_of_le (by simp[lets];omega)];exact rfl
   have I:Hid (j=s.size):=x;clear l x hR;go_wp2;go_ret;exact⟨_,by rw[d.out];rfl,r,y,fun _=>by rw[I.out]⟩
def z2Bk (l:List Nat):Option (Int×Nat):=
 match four l with
 |none=>none
 |some v=>if lowB v then none else if zDm v then
  (if eats [92,117] (l.drop 4)then(match four (l.drop 6)with
   |none=>none
   |some m=>if lowB m then some (65536+(v-55296)*1024+(m-56320),10)else none)else none)
   else some (v,4)
theorem z8N:lets ⟨#[92,117]⟩=[92,117]:=by decide
theorem z2B:∀i (h:i<(⟨#[92,117]⟩:ByteArray).size),((⟨#[92,117]⟩:ByteArray)[i]'h).toNat<128:=by decide
theorem zdf (b p i k:Nat)(d:List Nat)(w:World)(G:Scan w b p i d k):
 Calls prog 193 #[.pointer (some ⟨b,0,none⟩)] w fun e w'=>
  ∃k',Scan w' b p i d k'∧Kept [b] w w'∧((∃v n,z2Bk (d.drop k)=some (v,n)∧0≤v∧v≤1114111∧k'=k+n∧e=.returned (.tuple #[.int .i32 v,.bool true]))∨
   (z2Bk (d.drop k)=none∧e=.returned (.tuple #[.int .i32 0,.bool false]))):=by
 go_enter func193,ntmps193;go_wp2_with fail;refine(zR4 b p i k d _ G).mono ?_;rintro e R ⟨P,u,j,⟨v,o,B,M,rfl,rfl⟩|⟨o,rfl⟩⟩
 ·have g:Hid (four (d.drop k)=some v):=o;clear o;go_wp2_with fail;refine(zOs _ _).mono ?_;rintro e A ⟨rfl,rfl⟩;cases hlo:lowB v with
  |true=>
    have a:Hid (z2Bk (d.drop k)=none):=(by unfold z2Bk;rw[g.out];simp[hlo,Hid]);clear hlo g;go_wp2;go_ret2;exact⟨_,u,j,Or.inr ⟨a.out,rfl⟩⟩
  |false=>
    have HL:Hid (lowB v=false):=hlo;clear hlo;go_wp2_with fail;refine(z6T _ _).mono ?_;rintro e A ⟨rfl,rfl⟩;cases hhi:zDm v with
    |false=>
      have a:Hid (z2Bk (d.drop k)=some (v,4)):=(by unfold z2Bk;rw[g.out];simp[HL.out,hhi,Hid]);clear hhi HL g;go_wp2;go_ret2;exact⟨_,u,j,Or.inl ⟨v,4,a.out,B,by omega,rfl,rfl⟩⟩
    |true=>
      have h:Hid (zDm v=true):=hhi;have z:55296≤v∧v<56320:=(by simpa [zDm]using hhi);obtain⟨E,F⟩:=z;clear hhi;go_wp2_with fail;refine(zJR b p i (k+4) d ⟨#[92,117]⟩ _ u z2B (by decide)).mono ?_;rintro e A ⟨I,rfl,C,t,r⟩;rw[z8N]at*;cases he:eats [92,117] (d.drop (k+4))with
      |false=>
        have a:Hid (z2Bk (d.drop k)=none):=(by unfold z2Bk;rw[g.out];simp[HL.out,h.out,List.drop_drop,he,Hid]);clear he HL g h r;go_wp2;go_ret2;exact⟨_,C,j.trans t,Or.inr ⟨a.out,rfl⟩⟩
      |true=>
        have l:Hid (eats [92,117] (d.drop (k+4))=true):=he;obtain rfl:I=k+6:=r he;clear he r;go_wp2_with fail;refine(zR4 b p i (k+6) d _ C).mono ?_;rintro e O ⟨Q,x,y,⟨m,q,L,K,rfl,rfl⟩|⟨q,rfl⟩⟩
        ·have s:Hid (four (d.drop (k+6))=some m):=q;clear q;go_wp2_with fail;refine(zOs _ _).mono ?_;rintro e N ⟨rfl,rfl⟩;cases hlm:lowB m with
         |false=>
           have a:Hid (z2Bk (d.drop k)=none):=(by unfold z2Bk;rw[g.out];simp[HL.out,h.out,List.drop_drop,l.out,s.out,hlm,Hid]);clear hlm HL g h l s;go_wp2;go_ret2;exact⟨_,x,(j.trans t).trans y,Or.inr ⟨a.out,rfl⟩⟩
         |true=>
           have D:56320≤m∧m≤57343:=(by simpa [lowB]using hlm);obtain⟨H,J⟩:=D;have a:Hid (z2Bk (d.drop k)=some (65536+(v-55296)*1024+(m-56320),10)):=(by unfold z2Bk;rw[g.out];simp[HL.out,h.out,List.drop_drop,l.out,s.out,hlm,Hid]);clear hlm HL g h l s;go_wp2;go_ret2;refine⟨_,x,(j.trans t).trans y,Or.inl ⟨_,10,a.out,by omega,by omega,by omega,?_⟩⟩;rfl
        ·have a:Hid (z2Bk (d.drop k)=none):=(by unfold z2Bk;rw[g.out];simp[HL.out,h.out,List.drop_drop,l.out,q,Hid]);clear HL g h l q;go_wp2;go_ret2;exact⟨_,x,(j.trans t).trans y,Or.inr ⟨a.out,rfl⟩⟩
 ·have a:Hid (z2Bk (d.drop k)=none):=by unfold z2Bk;rw[o];exact rfl
  clear o;go_wp2;go_ret2;exact⟨_,u,j,Or.inr ⟨a.out,rfl⟩⟩
def zvTw:List Nat→Option (Int×Nat)
 | []=>none
 |c::t=>if((c:Int)==34)then some ((c:Int),1)else if((c:Int)==92)then some ((c:Int),1)else if((c:Int)==47)then some ((c:Int),1)
   else if((c:Int)==98)then some (8,1)else if((c:Int)==102)then some (12,1)else if((c:Int)==110)then some (10,1)
   else if((c:Int)==114)then some (13,1)else if((c:Int)==116)then some (9,1)
   else if((c:Int)==117)then(match z2Bk t with|some (v,n)=>some (v,n+1)|none=>none)else none
theorem zD2 {e:Ending} {w w':World} {b g d k k':Nat} {a:List Nat} (v:Int) (n:Nat) (m:Scan w' b g d a k') (p:Kept [b] w w') (h:zvTw (a.drop k)=some (v,n)) (l:0≤v) (i:v≤1114111) (j:k'=k+n)
 (o:e=.returned (.tuple #[.int .i32 v,.bool true])):
 ∃k',Scan w' b g d a k'∧Kept [b] w w'∧((∃v n,zvTw (a.drop k)=some (v,n)∧0≤v∧v≤1114111∧k'=k+n∧e=.returned (.tuple #[.int .i32 v,.bool true]))∨
  (zvTw (a.drop k)=none∧e=.returned (.tuple #[.int .i32 0,.bool false]))):=⟨k',m,p,Or.inl ⟨v,n,h,l,i,j,o⟩⟩
theorem z3S {e:Ending} {w w':World} {b g d k k':Nat} {a:List Nat} (i:Scan w' b g d a k') (l:Kept [b] w w') (h:zvTw (a.drop k)=none)
 (j:e=.returned (.tuple #[.int .i32 0,.bool false])):
 ∃k',Scan w' b g d a k'∧Kept [b] w w'∧((∃v n,zvTw (a.drop k)=some (v,n)∧0≤v∧v≤1114111∧k'=k+n∧e=.returned (.tuple #[.int .i32 v,.bool true]))∨
  (zvTw (a.drop k)=none∧e=.returned (.tuple #[.int .i32 0,.bool false]))):=⟨k',i,l,Or.inr ⟨h,j⟩⟩
theorem z5j (b l j k:Nat)(h:List Nat)(w:World)(s:Scan w b l j h k):
 Calls prog 171 #[.pointer (some ⟨b,0,none⟩)] w fun e w'=>
  ∃k',Scan w' b l j h k'∧Kept [b] w w'∧((∃v n,zvTw (h.drop k)=some (v,n)∧0≤v∧v≤1114111∧k'=k+n∧e=.returned (.tuple #[.int .i32 v,.bool true]))∨
   (zvTw (h.drop k)=none∧e=.returned (.tuple #[.int .i32 0,.bool false]))):=by
 go_enter func171,ntmps171;go_wp2_with fail;refine(z3C b l j k h _ s).mono ?_;rintro e A ⟨rfl,g,d⟩;cases hd:h.drop k with
 |nil=>
   have a:Hid (h.drop k=[]):=hd;clear hd;rw[show zEH []= -1 from rfl];go_wp2;go_ret2;exact z3S g d (by rw[a.out];rfl) rfl
 |cons c t=>
   have z:=z7P hd;have a:Hid (h.drop k=c::t):=hd;rw[Nat.min_eq_left (by omega)]at g;rw[show zEH (c::t)=(c:Int)from rfl];clear hd;by_cases hu:((c:Int)==117)=true
   ·have u:c=117:=(by have:=eq_of_beq hu;omega);subst u;clear hu;go_wp2_with fail;refine(zdf b l j (k+1) h _ g).mono ?_;rintro e y ⟨B,r,q,⟨v,n,i,o,p,rfl,rfl⟩|⟨i,rfl⟩⟩
    ·have m:Hid (z2Bk t=some (v,n)):=(by rw[zOW a.out]at i;exact i);clear i;go_wp2;go_ret2;exact zD2 v (n+1) r (d.trans q) (by rw[a.out];simp[zvTw,m.out]) o p (by omega) rfl
    ·have m:Hid (z2Bk t=none):=(by rw[zOW a.out]at i;exact i);clear i;go_wp2;go_ret2;exact z3S r (d.trans q) (by rw[a.out];simp[zvTw,m.out]) rfl
   ·have x:((c:Int)==117)=false:=(by simpa using hu);clear hu;go_wp2
    all_goals go_ret2
    ·exact zD2 (c:Int) 1 g d (by rw[a.out];simp only [zvTw, *];rfl) (by omega) (by have:=eq_of_beq ‹((c:Int)==34)=true›;omega) rfl rfl
    ·exact zD2 (c:Int) 1 g d (by rw[a.out];simp only [zvTw, *];rfl) (by omega) (by have:=eq_of_beq ‹((c:Int)==92)=true›;omega) rfl rfl
    ·exact zD2 (c:Int) 1 g d (by rw[a.out];simp only [zvTw, *];rfl) (by omega) (by have:=eq_of_beq ‹((c:Int)==47)=true›;omega) rfl rfl
    ·exact zD2 8 1 g d (by rw[a.out];simp only [zvTw, *];rfl) (by omega) (by omega) rfl rfl
    ·exact zD2 12 1 g d (by rw[a.out];simp only [zvTw, *];rfl) (by omega) (by omega) rfl rfl
    ·exact zD2 10 1 g d (by rw[a.out];simp only [zvTw, *];rfl) (by omega) (by omega) rfl rfl
    ·exact zD2 13 1 g d (by rw[a.out];simp only [zvTw, *];rfl) (by omega) (by omega) rfl rfl
    ·exact zD2 9 1 g d (by rw[a.out];simp only [zvTw, *];rfl) (by omega) (by omega) rfl rfl
    ·exact z3S g d (by rw[a.out];simp only [zvTw, *];rfl) rfl
theorem Kept.step {S:List Nat}{a w w':World}{B:Nat}(h:Kept S a w)(k:Below B w w')(hB:a.heap.size≤B):Kept S a w':=
 ⟨k.os.trans h.os,k.tape.trans h.tape,k.output.trans h.output,Nat.le_trans h.size k.size,fun i hi hn=>(k.block i (by omega)).trans (h.block i hi hn)⟩
theorem Scan.below {w w':World}{b a d k B:Nat}{g:List Nat}(h:Scan w b a d g k)(e:Below B w w')(i:b<B)(j:a<B):Scan w' b a d g k:=by
 obtain⟨c,t,f,m,l⟩:=h.row;exact⟨by rw[e.block b i];exact h.blk,⟨c,t,f,by rw[e.block a j];exact m,l⟩,h.ne,h.le,h.small,h.bd,h.room⟩
theorem Scan.rbLt {w:World}{b a d k:Nat}{g:List Nat}(h:Scan w b a d g k):a<w.heap.size:=by
 obtain⟨c,t,f,e,i⟩:=h.row;exact zBq e
theorem Scan.bLt {w:World}{b d a k:Nat}{e:List Nat}(h:Scan w b d a e k):b<w.heap.size:=zBq h.blk
theorem zVb {T e:TypeId}{B b:Nat}{p:Value}{j:List Value}{w w':World}{S:List Nat}(h:Lib.BuilderAtF T e B b p j w)(k:Kept S w w')(i:∀x∈S,x<B):Lib.BuilderAtF T e B b p j w':=by
 obtain⟨hB,v,l,a,d⟩:=h;have m:b∉S:=fun hm=>by have:=i b hm;omega
 refine⟨hB,v,(k.block b (zBq l) m).trans l,⟨a.1,?_⟩,d⟩;rcases a.2 with hn|⟨g,cap,cur,fz,hv,hbg,hg,rest⟩
 ·exact .inl hn
 ·have n:g∉S:=fun hm=>by have:=i g hm;omega
  exact .inr ⟨g,cap,cur,fz,hv,hbg,(k.block g (zBq hg) n).trans hg,rest⟩
theorem zVl {T e:TypeId}{B b:Nat}{d:List Value}{w w':World}{S:List Nat}(h:Lib.IsBuilderF T e B b d w)(k:Kept S w w')(a:∀x∈S,x<B):Lib.IsBuilderF T e B b d w':=
 h.elim (fun x=>.inl (zVb x k a)) (fun x=>.inr (zVb x k a))
def z9u:Nat→List UInt8→List Nat→Option (List UInt8×List Nat)
 |0,_,_=>none
 |_+1,_,[]=>none
 |f+1,acc,c::t=>if((c:Int)==34)then some (acc,t)else if(c:Int)<32 then none
   else if((c:Int)==92)then(match zvTw t with|none=>none|some (v,n)=>z9u f (acc++Lib.encodeRune v) (t.drop n))
   else z9u f (acc++Lib.encodeRune c) t
def zhn:List Nat→Option (List UInt8×List Nat)
 | []=>none
 |c::t=>if((c:Int)==34)then z9u (t.length+1) [] t else none
theorem zTu (b A m k:Nat)(a:List Nat)(w:World)(C:Scan w b A m a k):
 Calls prog 149 #[.pointer (some ⟨b,0,none⟩)] w fun e w'=>
  ∃k',Scan w' b A m a k'∧Kept [b] w w'∧((∃v,zhn (a.drop k)=some (v,a.drop k')∧v.length≤4*k'∧e=.returned (.tuple #[.string ⟨v.toArray⟩,.bool true]))∨
   (zhn (a.drop k)=none∧e=.returned (.tuple #[.string ⟨#[]⟩,.bool false]))):=by
 by_cases hp:zEH (a.drop k)=34
 ·have g:∃t,a.drop k=34::t:=by
   cases g:a.drop k with
   |nil=>rw[g]at hp;cases hp
   |cons c t=>rw[g]at hp;simp only [zEH]at hp;exact⟨t,by rw[show c=34 by omega]⟩
  obtain⟨t,g⟩:=g;have I:Hid (zhn (a.drop k)=z9u (t.length+1) [] (a.drop (k+1))):=by rw[zOW g,g];exact rfl
  have L:Hid (a.length=k+1+t.length):=by
   have:=congrArg List.length g;have hk:=C.le;simp at this;show _=_;omega
  clear g;have ah:=C.small;go_enter func149,ntmps149;go_wp2_with fail;refine(z8M b A m k a 34 _ C hp (by omega)).mono ?_;rintro e o ⟨rfl,Q,S⟩;clear hp;go_wp2;have ak:=Q.bLt;have ad:=Q.rbLt;have ai:=C.bLt;have aa:=S.size;go_loopw [] (fun wr=>∃(j f:Nat) (d:List UInt8),z9u f d (a.drop j)=zhn (a.drop k)∧a.length+1≤j+f∧d.length≤4*j∧Lib.IsBuilderF 274 5 o.heap.size o.heap.size (Lib.byteCells d) wr∧o.heap.size≤wr.heap.size∧Scan wr b A m a j∧Kept [b] w wr) (fun wr=>a.length-z3F wr b)
  case atStart=>
   exact⟨k+1,t.length+1,[],I.out.symm,by rw[L.out];omega,by simp,Lib.IsBuilderF.of (Lib.fresh_isBuilder 274 5 o),by simp,Q.alloc _,S.alloc _⟩
  case round=>
   obtain⟨j,f,d,V,hf,ae,Y,U,s,X⟩:=hrel;have q:Hid (z9u f d (a.drop j)=zhn (a.drop k)):=V;clear V I L;have ab:=s.le;obtain⟨f,rfl⟩:∃f',f=f'+1:=⟨f-1,by omega⟩;go_wp2_with fail;refine(z3C b A m j a _ s).mono ?_;rintro e w2 ⟨rfl,B,P⟩;have F:=zVl Y P (by simp;omega);have l:=X.trans P;have r:=Nat.le_trans U P.size;cases g:a.drop j with
   |nil=>
     have y:Hid (zhn (a.drop k)=none):=(by rw[←q.out,g];exact rfl);rw[show zEH []= -1 from rfl];clear g q;go_wp2;go_ret2;exact⟨_,B,l,Or.inr ⟨y.out,rfl⟩⟩
   |cons c t=>
     have hl:=z7P g;have u:Hid (a.drop j=c::t):=g;have h:Hid (a.drop (j+1)=t):=zOW g;have M:c∈a:=List.mem_of_mem_drop (i:=j) (by rw[g];simp);rw[Nat.min_eq_left (by omega)]at B;rw[show zEH (c::t)=(c:Int)from rfl];clear g;by_cases h34:((c:Int)==34)=true
     ·have y:Hid (zhn (a.drop k)=some (d,a.drop (j+1))):=(by rw[←q.out,u.out,h.out,z9u,if_pos h34];exact rfl);clear q u h;go_wp2_with (go_at_call 141;refine(Tryz.Builder_String_any_k o.heap.size o.heap.size d _ F r).mono ?_);rintro e w3 ⟨rfl,_,p,_⟩;go_wp2;go_ret2;exact⟨j+1,B.below p (by omega) (by omega),l.step p (by omega),Or.inl ⟨d,y.out,by omega,rfl⟩⟩
     ·have z:((c:Int)==34)=false:=(by simpa using h34);clear h34;by_cases h32:(c:Int)<32
      ·have y:Hid (zhn (a.drop k)=none):=(by rw[←q.out,u.out,z9u,if_neg (by simp[z]),if_pos h32];exact rfl);clear q u h;go_wp2;go_ret2;exact⟨_,B,l,Or.inr ⟨y.out,rfl⟩⟩
      ·by_cases h92:((c:Int)==92)=true
       ·have J:Hid (zhn (a.drop k)=(match zvTw t with|none=>none|some (v,n)=>z9u f (d++Lib.encodeRune v) (t.drop n))):=by
         rw[←q.out,u.out,z9u,if_neg (by simp[z]),if_neg h32,if_pos h92];exact rfl
        clear q u;go_wp2_with fail;refine(z5j b A m (j+1) a _ B).mono ?_;rintro e w3 ⟨k3,R,K,⟨v,n,x,af,ag,rfl,rfl⟩|⟨x,rfl⟩⟩
        ·have W:=zVl F K (by simp;omega);have G:=Nat.le_trans r K.size;have D:Hid (z9u f (d++Lib.encodeRune v) (a.drop (j+1+n))=zhn (a.drop k)):=by
          rw[h.out]at x;rw[J.out,x,←List.drop_drop,h.out];exact rfl
         clear J h x;go_wp2_with (go_at_call 172;refine(Tryz.Builder_WriteRune_k o.heap.size o.heap.size _ v (by omega) (by omega) _ W (by rw[Lib.byteCells_length];omega) G).mono ?_);rintro e Z ⟨rfl,O,p,_⟩;have H:=Lib.runeCells_le v;rw[Lib.runeCells_length]at H;have E:=R.below p (by omega) (by omega);go_wp2;go_roundw
         case rel=>
          refine⟨j+1+n,f,d++Lib.encodeRune v,D.out,by omega,by simp;omega,?_,Nat.le_trans G p.size,E,(l.trans K).step p (by omega)⟩;rw[Lib.byteCells_append,Lib.byteCells_encodeRune];exact Or.inr O
         case measure=>
          rw[E.place,s.place];omega
        ·have y:Hid (zhn (a.drop k)=none):=(by rw[h.out]at x;rw[J.out,x];exact rfl);clear J x h;go_wp2;go_ret2;exact⟨_,R,l.trans K,Or.inr ⟨y.out,rfl⟩⟩
       ·have N:((c:Int)==92)=false:=(by simpa using h92);have D:Hid (z9u f (d++Lib.encodeRune c) (a.drop (j+1))=zhn (a.drop k)):=by
         rw[h.out,←q.out,u.out];show _=z9u (f+1) d (c::t);rw[z9u,if_neg (by simp[z]),if_neg h32,if_neg (by simp[N])]
        clear q u h h92;have aj:(c:Int)≤2147483647:=by
         have:=s.bd c M;omega
        go_wp2_with (go_at_call 172;refine(Tryz.Builder_WriteRune_k o.heap.size o.heap.size _ (c:Int) (by omega) (by omega) _ F (by rw[Lib.byteCells_length];omega) r).mono ?_);rintro e Z ⟨rfl,O,p,_⟩;have H:=Lib.runeCells_le (c:Int);rw[Lib.runeCells_length]at H;have E:=B.below p (by omega) (by omega);go_wp2;go_roundw
        case rel=>
         refine⟨j+1,f,d++Lib.encodeRune c,D.out,by omega,by simp;omega,?_,Nat.le_trans r p.size,E,l.step p (by omega)⟩;rw[Lib.byteCells_append,Lib.byteCells_encodeRune];exact Or.inr O
        case measure=>
         rw[E.place,s.place];omega
 ·have I:Hid (zhn (a.drop k)=none):=by
   cases g:a.drop k with
   |nil=>exact rfl
   |cons c t=>rw[g]at hp;simp only [zEH]at hp;simp[zhn,hp,Hid]
  go_enter func149,ntmps149;go_wp2_with fail;refine(zZ5 b A m k a 34 _ C hp).mono ?_;rintro e o ⟨rfl,n,rfl⟩;clear hp;go_wp2;go_ret2;exact⟨k,C.drewN n,(Kept.refl _ _).drewN n,Or.inr ⟨I.out,rfl⟩⟩
end Go.Proofs.YtoeoinpaidhmcaaGreatDoor
