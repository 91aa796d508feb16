/- Several texts in one. -/
import Derived.Test.YtbbkihekjdffpaaGreatDoorProg
import Derived.Test.YtbbkihekjdffpaaGreatDoorShelf
import Derived.BigCall
import Derived.BigQuiet
import Derived.ChangeAlike
import Derived.Deep.QuietTactic
import Derived.Lib.OthersKept
import Derived.RegionTactic
import Derived.WalkKit
import Derived.WalkLawsBesides
import Derived.WalkSpells
set_option maxHeartbeats 2000000
namespace Go.Proofs.YtbbkihekjdffpaaGreatDoor
open Go.RowKit
theorem zA (w:World)(o:Obj):Below w.heap.size w (w.alloc o):=(Below.refl _ _).alloc (Nat.le_refl _) _
theorem zB {α:Type}{l:List α}{i:Nat}{a:α}(h:l[i]?=some a):∃h:i<l.length,l[i]=a:=List.getElem?_eq_some_iff.1 h
theorem zC {α:Type}{l:List α}{i:Nat}(h:i<l.length):l[i]?=some l[i]:=List.getElem?_eq_getElem h
theorem zD {B:Nat}{w:World}:Below B w w:=Below.refl _ _
theorem zG {n:Nat}:n≤n:=Nat.le_refl _
theorem zH {a b c:Nat}(h:a<b)(k:b≤c):a<c:=Nat.lt_of_lt_of_le h k
theorem zI {α:Type}{a b:List α}:(a++b).length=a.length+b.length:=List.length_append
structure Kept (S:List Nat)(w w':World):Prop where
 os:w'.os=w.os
 tape:w'.tape=w.tape
 output:w'.output=w.output
 size:w.heap.size≤w'.heap.size
 block:∀k,k<w.heap.size→k∉S→w'.heap[k]?=w.heap[k]?
theorem Kept.refl (S:List Nat)(w:World):Kept S w w:=⟨rfl,rfl,rfl,Nat.le_refl _,fun _ _ _=>rfl⟩
theorem Kept.trans {S:List Nat}{a b c:World}(h:Kept S a b)(k:Kept S b c):Kept S a c:=
 ⟨k.os.trans h.os,k.tape.trans h.tape,k.output.trans h.output,Nat.le_trans h.size k.size,fun i hi hn=>(k.block i (Nat.lt_of_lt_of_le hi h.size) hn).trans (h.block i hi hn)⟩
theorem Kept.mono {S S':List Nat}{a b:World}(h:Kept S a b)(hs:∀x,x<a.heap.size→x∈S→x∈S'):Kept S' a b:=
 ⟨h.os,h.tape,h.output,h.size,fun i hi hn=>h.block i hi fun hm=>hn (hs i hi hm)⟩
theorem Kept.drew {S:List Nat}{a w:World}(h:Kept S a w):Kept S a w.drew:=⟨h.os,h.tape,h.output,h.size,h.block⟩
theorem Kept.alloc {S:List Nat}{a w:World}(h:Kept S a w)(o:Obj):Kept S a (w.alloc o):=
 h.trans ⟨rfl,rfl,rfl,by simp,fun k hk _=>Below.heap_alloc _ _ _ hk⟩
theorem Kept.setCell {S:List Nat}{a w:World}(h:Kept S a w){p:Addr}(hp:p.block∈S∨a.heap.size≤p.block)(u:Value):Kept S a (w.setCell p u):=
 ⟨h.os,h.tape,h.output,by have:=h.size;simpa [World.setCell]using this,fun k hk hn=>by
  have hne:k≠p.block:=fun e=>hp.elim (fun hp=>hn (by rw[e];exact hp)) (fun hp=>by omega);rw[Below.heap_setCell _ _ _ _ hne];exact h.block k hk hn⟩
theorem Kept.alike {S:List Nat}{a w w':World}(h:Kept S a w)(k:w'.Alike w)(ht:w'.tape=w.tape)(ho:w'.os=w.os)(hp:w'.output=w.output):Kept S a w':=
 ⟨ho.trans h.os,ht.trans h.tape,hp.trans h.output,by have:=h.size;rw[k.1];exact this,fun i hi hn=>by rw[k.1];exact h.block i hi hn⟩
theorem Kept.below {S:List Nat}{a w:World}{B:Nat}(h:Kept S a w)(hB:B≤a.heap.size)(hs:∀x,x∈S→B≤x):Below B a w:=
 ⟨h.os,h.tape,h.output,h.size,fun k hk=>h.block k (by omega) fun hm=>by have:=hs k hm;omega⟩
theorem Kept.of_below {S:List Nat}{a w:World}(h:Below a.heap.size a w):Kept S a w:=
 ⟨h.os,h.tape,h.output,h.size,fun k hk _=>h.block k hk⟩
theorem Kept.cell {S:List Nat}{a w:World}(h:Kept S a w){p:Addr}(hb:p.block<a.heap.size)(hn:p.block∉S):w.cell? p=a.cell? p:=
 World.cell?_of_block (w:=a) (h.block _ hb hn)
theorem zBq {w:World}{b:Nat}{o:Obj}(h:w.heap[b]?=some o):b<w.heap.size:=(Array.getElem?_eq_some_iff.1 h).1
theorem zBk {w:World}{b:Nat}{c:Array Value}{t:TypeId}{f:Nat×Nat}(h:w.heap[b]?=some (.cells c t f))(i:Nat):w.cell? ⟨b,i,none⟩=c[i]?:=by
 simp[World.cell?,h]
theorem zBn {w:World}{b:Nat}{c:Array Value}{t:TypeId}(h:w.heap[b]?=some (.cells c t (0,0)))(i:Nat):w.frozen? ⟨b,i,none⟩=false:=by
 simp[World.frozen?,h]
theorem zFg {w:World}{b:Nat}{c:Array Value}{t:TypeId}{f:Nat×Nat}(h:w.heap[b]?=some (.cells c t f))(i:Nat)(v:Value):
 (w.setCell ⟨b,i,none⟩ v).heap[b]?=some (.cells (c.setIfInBounds i v) t f):=by
 simp[World.setCell,Array.getElem?_modify,h]
theorem zRA {w:World}{b:Nat}{a:Addr}(h:b≠a.block)(v:Value):(w.setCell a v).heap[b]?=w.heap[b]?:=Below.heap_setCell _ _ _ _ h
open Tryz
theorem zrzG {k:IntKind}{a b:Int}{x y:Bool}(h:a=b)(h':x=y):Ending.returned (.tuple #[.int k a,.bool x])=.returned (.tuple #[.int k b,.bool y]):=by rw[h,h']
theorem z6u {a b:Bool}(h:a=b):Ending.returned (.bool a)=.returned (.bool b):=by rw[h]
def zDm (r:Int):Bool:=decide (55296≤r)&&decide (r<56320)
def lowB (r:Int):Bool:=decide (56320≤r)&&decide (r≤57343)
def hexV (r:Int):Int:=if 48≤r∧r≤57 then r-48 else if 97≤r∧r≤102 then r-97+10 else if 65≤r∧r≤70 then r-65+10 else 0
def hexB (r:Int):Bool:=decide ((48≤r∧r≤57)∨(97≤r∧r≤102)∨(65≤r∧r≤70))
theorem z6T (r:Int)(w:World):
 Calls prog 199 #[.int .i32 r] w fun e w'=>e=.returned (.bool (zDm r))∧w'=w:=by
 go_enter func199,ntmps199;go_wp2
 all_goals go_ret
 all_goals exact⟨z6u (by simp[zDm];try omega),rfl⟩
theorem zOs (r:Int)(w:World):
 Calls prog 198 #[.int .i32 r] w fun e w'=>e=.returned (.bool (lowB r))∧w'=w:=by
 go_enter func198,ntmps198;go_wp2
 all_goals go_ret
 all_goals exact⟨z6u (by simp[lowB];try omega),rfl⟩
theorem zxm (r:Int)(w:World):
 Calls prog 203 #[.int .i32 r] w fun e w'=>e=.returned (.tuple #[.int .i32 (hexV r),.bool (hexB r)])∧w'=w:=by
 go_enter func203,ntmps203;go_wp2
 all_goals go_ret2
 all_goals refine⟨zrzG ?_ ?_,rfl⟩
 all_goals first
  | (unfold hexV;(repeat' split)<;>omega)
  | (unfold hexB;simp;omega)
structure Scan (w:World)(b rb cap:Nat)(rs:List Nat)(k:Nat):Prop where
 blk:w.heap[b]?=some (.cells #[.slice (some ⟨rb,0,none⟩) rs.length cap,.int .i64 k] 241 (0,0))
 row:∃c t f,w.heap[rb]?=some (.cells c t f)∧∀i (h:i<rs.length),c[i]?=some (.int .i32 (rs[i]:Int))
 ne:rb≠b
 le:k≤rs.length
 small:rs.length≤2000000
 bd:∀c∈rs,c≤2147483647
 room:rs.length≤cap
def zEH (l:List Nat):Int:=match l with| []=> -1|c::_=>(c:Int)
theorem zvx {rs:List Nat}{k:Nat}(h:k<rs.length):zEH (rs.drop k)=(rs[k]:Int):=by
 rw[List.drop_eq_getElem_cons h];rfl
theorem zMf {rs:List Nat}{k:Nat}(h:rs.length≤k):zEH (rs.drop k)= -1:=by
 rw[List.drop_eq_nil_of_le h];rfl
theorem Scan.c0 {w b rb cap rs k}(h:Scan w b rb cap rs k):w.cell? ⟨b,0,none⟩=some (.slice (some ⟨rb,0,none⟩) rs.length cap):=by
 rw[zBk h.blk];rfl
theorem Scan.c1 {w b rb cap rs k}(h:Scan w b rb cap rs k):w.cell? ⟨b,1,none⟩=some (.int .i64 k):=by
 rw[zBk h.blk];rfl
theorem Scan.f1 {w b rb cap rs k}(h:Scan w b rb cap rs k):w.frozen? ⟨b,1,none⟩=false:=zBn h.blk 1
theorem Scan.cr {w b rb cap rs k}(h:Scan w b rb cap rs k){i:Nat}(hi:i<rs.length):w.cell? ⟨rb,i,none⟩=some (.int .i32 (rs[i]:Int)):=by
 obtain⟨c,t,f,hb,hc⟩:=h.row;rw[zBk hb];exact hc i hi
theorem Scan.alike {w w' b rb cap rs k}(h:Scan w b rb cap rs k)(ha:w'.Alike w):Scan w' b rb cap rs k:=
 ⟨by rw[ha.1];exact h.blk,by rw[ha.1];exact h.row,h.ne,h.le,h.small,h.bd,h.room⟩
theorem Scan.to {w b rb cap rs k}(h:Scan w b rb cap rs k)(k':Nat)(hk:k'≤rs.length):Scan (w.setCell ⟨b,1,none⟩ (.int .i64 k')) b rb cap rs k':=
 ⟨by rw[zFg h.blk];rfl,by rw[zRA h.ne];exact h.row,h.ne,hk,h.small,h.bd,h.room⟩
theorem Scan.kept {w w' b rb cap rs k S}(h:Scan w b rb cap rs k)(hk:Kept S w w')(hb:b∉S)(hrb:rb∉S):Scan w' b rb cap rs k:=by
 obtain⟨c,t,f,hr,hc⟩:=h.row;exact⟨by rw[hk.block b (zBq h.blk) hb];exact h.blk,⟨c,t,f,by rw[hk.block rb (zBq hr) hrb];exact hr,hc⟩,h.ne,h.le,h.small,h.bd,h.room⟩
theorem Scan.drewN {w b rb cap rs k}(h:Scan w b rb cap rs k)(n:Nat):Scan (w.drewN n) b rb cap rs k:=⟨h.blk,h.row,h.ne,h.le,h.small,h.bd,h.room⟩
theorem Kept.drewN {S:List Nat}{a w:World}(h:Kept S a w)(n:Nat):Kept S a (w.drewN n):=⟨h.os,h.tape,h.output,h.size,h.block⟩
theorem zPf (b rb cap k:Nat)(rs:List Nat)(w:World)(hs:Scan w b rb cap rs k):
 Calls prog 168 #[.pointer (some ⟨b,0,none⟩)] w fun e w'=>e=.returned (.int .i32 (zEH (rs.drop k)))∧∃n,w'=w.drewN n:=by
 have h0:=hs.c0;have h1:=hs.c1;have hl:=hs.le;have hm:=hs.small;by_cases hlt:k<rs.length
 ·have hr:=hs.cr hlt;have hp:=zvx hlt;generalize rs[k]=r at hr hp;rw[hp];clear hp hs;generalize rs.length=n at*;have hi:(k:Int)<(n:Int):=by omega
  go_enter func168,ntmps168;go_wp2;go_quiet (fail);go_wp2;go_quiet (fail);go_wp2;go_ret;exact⟨rfl,_,by rw[World.drewN_drewN]⟩
 ·rw[zMf (by omega)];clear hs;generalize rs.length=n at*;have hi:¬(k:Int)<(n:Int):=by omega
  go_enter func168,ntmps168;go_wp2;go_quiet (fail);go_wp2;go_ret;exact⟨rfl,_,rfl⟩
theorem znY {rs:List Nat}{k:Nat}{r:Int}(h:zEH (rs.drop k)=r)(hr:0≤r):k<rs.length:=by
 by_cases hlt:k<rs.length
 ·exact hlt
 ·rw[zMf (by omega)]at h;omega
theorem z8M (b rb cap k:Nat)(rs:List Nat)(r:Int)(w:World)(hs:Scan w b rb cap rs k)(hp:zEH (rs.drop k)=r)(hr:0≤r):
 Calls prog 144 #[.pointer (some ⟨b,0,none⟩),.int .i32 r] w fun e w'=>e=.returned (.bool true)∧Scan w' b rb cap rs (k+1)∧Kept [b] w w':=by
 have hlt:=znY hp hr;have hl:=hs.small;have HP:Hid (zEH (rs.drop k)=r):=hp;clear hp;have h1:=hs.c1;have hf:=hs.f1;go_enter func144,ntmps144;go_wp2_with (go_at_call 168;refine(zPf b rb cap k rs _ hs).mono ?_;rintro e w' ⟨rfl,n,rfl⟩;rw[HP.out]);go_ret;exact⟨rfl,((hs.drewN n).to (k+1) (by omega)),((Kept.refl _ _).drewN n).setCell (Or.inl (by simp)) _⟩
theorem zZ5 (b rb cap k:Nat)(rs:List Nat)(r:Int)(w:World)(hs:Scan w b rb cap rs k)(hp:zEH (rs.drop k)≠r):
 Calls prog 144 #[.pointer (some ⟨b,0,none⟩),.int .i32 r] w fun e w'=>e=.returned (.bool false)∧∃n,w'=w.drewN n:=by
 have hb:(zEH (rs.drop k) != r)=true:=by simp[hp]
 clear hp;go_enter func144,ntmps144;go_wp2_with (go_at_call 168;refine(zPf b rb cap k rs _ hs).mono ?_;rintro e w' ⟨rfl,n,rfl⟩);go_ret;exact⟨rfl,_,rfl⟩
theorem z3C (b rb cap k:Nat)(rs:List Nat)(w:World)(hs:Scan w b rb cap rs k):
 Calls prog 183 #[.pointer (some ⟨b,0,none⟩)] w fun e w'=>e=.returned (.int .i32 (zEH (rs.drop k)))∧Scan w' b rb cap rs (min (k+1) rs.length)∧Kept [b] w w':=by
 have hl:=hs.small;by_cases hlt:k<rs.length
 ·have hb:(zEH (rs.drop k) != -1)=true:=by rw[zvx hlt];simp
  rw[Nat.min_eq_left (by omega)];have h1:=hs.c1;have hf:=hs.f1;go_enter func183,ntmps183;go_wp2_with (go_at_call 168;refine(zPf b rb cap k rs _ hs).mono ?_;rintro e w' ⟨rfl,n,rfl⟩);go_ret;exact⟨rfl,((hs.drewN n).to (k+1) (by omega)),((Kept.refl _ _).drewN n).setCell (Or.inl (by simp)) _⟩
 ·have hb:(zEH (rs.drop k) != -1)=false:=by rw[zMf (by omega)];rfl
  have hk:=hs.le;rw[show min (k+1) rs.length=k by omega];go_enter func183,ntmps183;go_wp2_with (go_at_call 168;refine(zPf b rb cap k rs _ hs).mono ?_;rintro e w' ⟨rfl,n,rfl⟩);go_ret;exact⟨rfl,hs.drewN n,(Kept.refl _ _).drewN n⟩
def zE1 (c:Int):Bool:=c==32||c==9||c==13
def digB (c:Int):Bool:=decide (48≤c)&&decide (c≤57)
def zek:List Nat→List Nat
 | []=>[]
 |c::t=>if zE1 c then zek t else c::t
def zva:List Nat→List Nat
 | []=>[]
 |c::t=>if digB c then zva t else c::t
def z3F (w:World)(b:Nat):Nat:=match w.cell? ⟨b,1,none⟩with|some (.int _ n)=>n.toNat|_=>0
theorem Scan.place {w b rb cap rs k}(h:Scan w b rb cap rs k):z3F w b=k:=by simp[z3F,h.c1]
theorem zOW {rs:List Nat}{k c:Nat}{t:List Nat}(h:rs.drop k=c::t):rs.drop (k+1)=t:=by
 rw[←List.drop_drop,h];rfl
theorem z7P {rs:List Nat}{k c:Nat}{t:List Nat}(h:rs.drop k=c::t):k<rs.length:=by
 by_cases hlt:k<rs.length
 ·exact hlt
 ·rw[List.drop_eq_nil_of_le (by omega)]at h;cases h
theorem zn7 (b rb cap k:Nat)(rs:List Nat)(w:World)(hs:Scan w b rb cap rs k):
 Calls prog 111 #[.pointer (some ⟨b,0,none⟩)] w fun e w'=>e=.returned (.tuple #[])∧∃k',rs.drop k'=zek (rs.drop k)∧k≤k'∧Scan w' b rb cap rs k'∧Kept [b] w w':=by
 go_enter func111,ntmps111;go_wp2;go_loopw [] (fun w'=>∃j,zek (rs.drop j)=zek (rs.drop k)∧k≤j∧Scan w' b rb cap rs j∧Kept [b] w w') (fun w'=>rs.length-z3F w' b)
 case atStart=>exact⟨k,rfl,Nat.le_refl _,hs,Kept.refl _ _⟩
 case round=>
  obtain⟨j,hj,hkj,hsj,hkp⟩:=hrel;have hm:=hsj.small;have fin:∀(w1:World),zEH (rs.drop j)≠ -1→zE1 (zEH (rs.drop j))=true→Scan w1 b rb cap rs (j+1)→Kept [b] wr w1→
   (∃j,zek (rs.drop j)=zek (rs.drop k)∧k≤j∧Scan w1 b rb cap rs j∧Kept [b] w w1)∧rs.length-z3F w1 b<rs.length-z3F wr b:=by
   intro w1 h1 h2 h3 h4;rw[h3.place,hsj.place];cases hd:rs.drop j with
   |nil=>rw[hd]at h1;exact absurd rfl h1
   |cons c t=>
     have hlt:=z7P hd;refine⟨⟨j+1,?_,by omega,h3,hkp.trans h4⟩,by omega⟩;rw[zOW hd,←hj,hd,zek,if_pos (by rw[hd]at h2;exact h2)]
  by_cases h1:zEH (rs.drop j)=32
  ·go_wp2_with fail;refine(z8M b rb cap j rs 32 _ hsj h1 (by omega)).mono ?_;rintro e w1 ⟨rfl,g1,g2⟩;go_wp2;go_roundw
   case rel=>exact(fin w1 (by rw[h1];decide) (by rw[h1];decide) g1 g2).1
   case measure=>exact(fin w1 (by rw[h1];decide) (by rw[h1];decide) g1 g2).2
  ·go_wp2_with fail;refine(zZ5 b rb cap j rs 32 _ hsj h1).mono ?_;rintro e w1 ⟨rfl,n1,rfl⟩;by_cases h2:zEH (rs.drop j)=9
   ·go_wp2_with fail;refine(z8M b rb cap j rs 9 _ (hsj.drewN n1) h2 (by omega)).mono ?_;rintro e w1 ⟨rfl,g1,g2⟩;go_wp2;go_roundw
    case rel=>exact(fin w1 (by rw[h2];decide) (by rw[h2];decide) g1 (((Kept.refl _ _).drewN n1).trans g2)).1
    case measure=>exact(fin w1 (by rw[h2];decide) (by rw[h2];decide) g1 (((Kept.refl _ _).drewN n1).trans g2)).2
   ·go_wp2_with fail;refine(zZ5 b rb cap j rs 9 _ (hsj.drewN n1) h2).mono ?_;rintro e w1 ⟨rfl,n2,rfl⟩;by_cases h3:zEH (rs.drop j)=13
    ·go_wp2_with fail;refine(z8M b rb cap j rs 13 _ (hsj.drewN _) h3 (by omega)).mono ?_;rintro e w1 ⟨rfl,g1,g2⟩;go_wp2;go_roundw
     case rel=>exact(fin w1 (by rw[h3];decide) (by rw[h3];decide) g1 (((Kept.refl _ _).drewN _).trans g2)).1
     case measure=>exact(fin w1 (by rw[h3];decide) (by rw[h3];decide) g1 (((Kept.refl _ _).drewN _).trans g2)).2
    ·go_wp2_with fail;refine(zZ5 b rb cap j rs 13 _ (hsj.drewN _) h3).mono ?_;rintro e w1 ⟨rfl,n3,rfl⟩;have hend:rs.drop j=zek (rs.drop k):=by
      rw[←hj];cases hd:rs.drop j with
      |nil=>rfl
      |cons c t=>
        rw[hd]at h1 h2 h3;rw[zek,if_neg (by simp only [zE1,zEH]at *;simp[h1,h2,h3])]
     have HE:Hid (rs.drop j=zek (rs.drop k)):=hend;clear hend fin hj h1 h2 h3;go_wp2;go_end0;exact⟨rfl,j,HE.out,hkj,hsj.drewN _,hkp.drewN _⟩
theorem zHI (b rb cap k:Nat)(rs:List Nat)(w:World)(hs:Scan w b rb cap rs k):
 Calls prog 194 #[.pointer (some ⟨b,0,none⟩)] w fun e w'=>e=.returned (.tuple #[])∧∃k',rs.drop k'=zva (rs.drop k)∧k≤k'∧Scan w' b rb cap rs k'∧Kept [b] w w':=by
 go_enter func194,ntmps194;go_wp2;go_loopw [] (fun w'=>∃j,zva (rs.drop j)=zva (rs.drop k)∧k≤j∧Scan w' b rb cap rs j∧Kept [b] w w') (fun w'=>rs.length-z3F w' b)
 case atStart=>exact⟨k,rfl,Nat.le_refl _,hs,Kept.refl _ _⟩
 case round=>
  obtain⟨j,hj,hkj,hsj,hkp⟩:=hrel;have hm:=hsj.small;have c1:=hsj.c1;have f1:=hsj.f1;cases hd:rs.drop j with
  |nil=>
    have hp:zEH (rs.drop j)= -1:=(by rw[hd];rfl);have hend:Hid (rs.drop j=zva (rs.drop k)):=(by rw[←hj,hd];rfl);have HP:Hid (zEH (rs.drop j)= -1):=hp;clear hp hj hd;go_wp2_with fail;refine(zPf b rb cap j rs _ hsj).mono ?_;rintro e w1 ⟨rfl,n1,rfl⟩;rw[HP.out];go_wp2;go_end0;exact⟨rfl,j,hend.out,hkj,hsj.drewN n1,hkp.drewN n1⟩
  |cons c t=>
    have hlt:=z7P hd;have HP:Hid (zEH (rs.drop j)=(c:Int)):=(by rw[hd];exact rfl);have HJ:Hid (zva (rs.drop j)=zva (rs.drop k)):=hj;have HD:Hid (rs.drop j=c::t):=hd;clear hj hd;by_cases h1:48≤c∧c≤57
    ·obtain⟨ha,hb⟩:=h1;have ha':(48:Int)≤(c:Int):=(by omega);have hb':(c:Int)≤57:=(by omega);go_wp2_with fail;refine(zPf b rb cap j rs _ hsj).mono ?_;rintro e w1 ⟨rfl,n1,rfl⟩;rw[HP.out];go_wp2_with fail;refine(zPf b rb cap j rs _ (hsj.drewN n1)).mono ?_;rintro e w1 ⟨rfl,n2,rfl⟩;rw[HP.out];go_wp2;go_roundw
     case rel=>
      refine⟨j+1,?_,by omega,(hsj.drewN _).to (j+1) (by omega),(hkp.drewN _).setCell (p:=⟨b,1,none⟩) (Or.inl (by simp)) _⟩;rw[zOW HD.out,←HJ.out,HD.out,zva,if_pos (by simp[digB];omega)]
     case measure=>
      have e1:=((hsj.drewN (n1+n2)).to (j+1) (by omega)).place;rw[hsj.place];have e2:((j+1:Nat):Int)=(j:Int)+1:=(by omega);rw[e2]at e1;rw[show z3F _ b=j+1 from e1];omega
    ·have hend:Hid (rs.drop j=zva (rs.drop k)):=by
      rw[←HJ.out,HD.out,zva,if_neg (by simp[digB];omega)];exact rfl
     by_cases h2:48≤c
     ·have ha':(48:Int)≤(c:Int):=(by omega);have hb':¬(c:Int)≤57:=(by omega);clear h1;go_wp2_with fail;refine(zPf b rb cap j rs _ hsj).mono ?_;rintro e w1 ⟨rfl,n1,rfl⟩;rw[HP.out];go_wp2_with fail;refine(zPf b rb cap j rs _ (hsj.drewN n1)).mono ?_;rintro e w1 ⟨rfl,n2,rfl⟩;rw[HP.out];go_wp2;go_end0;exact⟨rfl,j,hend.out,hkj,hsj.drewN _,hkp.drewN _⟩
     ·have ha':¬(48:Int)≤(c:Int):=(by omega);clear h1;go_wp2_with fail;refine(zPf b rb cap j rs _ hsj).mono ?_;rintro e w1 ⟨rfl,n1,rfl⟩;rw[HP.out];go_wp2;go_end0;exact⟨rfl,j,hend.out,hkj,hsj.drewN n1,hkp.drewN n1⟩
def zyQ:Nat→Int→List Nat→Option Int
 |0,acc,_=>some acc
 |_+1,_,[]=>none
 |m+1,acc,c::t=>if hexB c then zyQ m (acc*16+hexV c) t else none
def four (l:List Nat):Option Int:=zyQ 4 0 l
theorem zLt (r:Int):0≤hexV r∧hexV r≤15:=by unfold hexV;(repeat' split)<;>omega
theorem zdo:hexB (-1)=false:=by decide
theorem zMp {i:Nat}{acc:Int}(hi:i<4)(h:acc<16 ^ i):acc≤4095:=by
 have:i=0∨i=1∨i=2∨i=3:=by omega
 rcases this with rfl|rfl|rfl|rfl<;>simp at h<;>omega
theorem zcG {i:Nat}{acc d:Int}(h:acc<16 ^ i)(h0:0≤d)(hd:d≤15):acc*16+d<16 ^ (i+1):=by
 have:(16:Int) ^ (i+1)=16 ^ i*16:=by rw[Int.pow_succ]
 omega
theorem zR4 (b rb cap k:Nat)(rs:List Nat)(w:World)(hs:Scan w b rb cap rs k):
 Calls prog 197 #[.pointer (some ⟨b,0,none⟩)] w fun e w'=>
  ∃k',Scan w' b rb cap rs k'∧Kept [b] w w'∧((∃v,four (rs.drop k)=some v∧0≤v∧v≤65535∧k'=k+4∧e=.returned (.tuple #[.int .i32 v,.bool true]))∨
   (four (rs.drop k)=none∧e=.returned (.tuple #[.int .i32 0,.bool false]))):=by
 go_enter func197,ntmps197;go_wp2;go_loopw [4,7] (fun n i w'=>∃(j:Nat) (acc:Int),j≤4∧i=.int .i64 j∧n=.int .i32 acc∧0≤acc∧acc<16 ^ j∧k+j≤rs.length∧zyQ (4-j) acc (rs.drop (k+j))=four (rs.drop k)∧Scan w' b rb cap rs (k+j)∧Kept [b] w w') (fun _ i _=>4-(intOf i).toNat)
 case atStart=>exact⟨0,0,by omega,rfl,rfl,by omega,by decide,hs.le,rfl,hs,Kept.refl _ _⟩
 case round=>
  obtain⟨j,acc,hj,rfl,rfl,ha0,ha1,hkl,HR,hsj,hkp⟩:=hrel;have hR:Hid (zyQ (4-j) acc (rs.drop (k+j))=four (rs.drop k)):=HR;clear HR;by_cases hlt:j<4
  ·have hab:=zMp hlt ha1;have hlt':(j:Int)<4:=(by omega);go_wp2_with fail;refine(z3C b rb cap (k+j) rs _ hsj).mono ?_;rintro e w1 ⟨rfl,g1,g2⟩;go_wp2_with fail;refine(zxm _ _).mono ?_;rintro e w2 ⟨rfl,rfl⟩;cases hd:rs.drop (k+j)with
   |nil=>
     have hend:Hid (four (rs.drop k)=none):=by
      rw[←hR.out,hd,show 4-j=(3-j)+1 by omega];exact rfl
     rw[show zEH []= -1 from rfl,zdo];clear hR hd;generalize hexV (-1)=d;go_wp2;go_ret2;exact⟨_,g1,hkp.trans g2,Or.inr ⟨hend.out,rfl⟩⟩
   |cons c t=>
     have hl:=z7P hd;have hv:=zLt c;rw[Nat.min_eq_left (by omega)]at g1;rw[show zEH (c::t)=(c:Int)from rfl];cases hx:hexB (c:Int)with
     |true=>
       have hR':Hid (zyQ (4-(j+1)) (acc*16+hexV c) (rs.drop (k+j+1))=four (rs.drop k)):=by
        rw[zOW hd,←hR.out,hd,show 4-j=(4-(j+1))+1 by omega,zyQ,if_pos hx];exact rfl
       clear hR hd hx;generalize hexV (c:Int)=d at*;obtain⟨hv0,hv1⟩:=hv;go_wp2;go_roundw
       case rel=>exact⟨j+1,acc*16+d,by omega,by go_num,rfl,by omega,zcG ha1 hv0 hv1,by omega,hR'.out,g1,hkp.trans g2⟩
       case measure=>simp[intOf];omega
     |false=>
       have hend:Hid (four (rs.drop k)=none):=by
        rw[←hR.out,hd,show 4-j=(3-j)+1 by omega,zyQ,if_neg (by simp[hx])];exact rfl
       clear hR hd hx;generalize hexV (c:Int)=d at*;go_wp2;go_ret2;exact⟨_,g1,hkp.trans g2,Or.inr ⟨hend.out,rfl⟩⟩
  ·have hj4:j=4:=(by omega);subst hj4;have hend:Hid (four (rs.drop k)=some acc):=(by rw[←hR.out];exact rfl);clear hR;go_wp2;go_ret2;exact⟨_,hsj,hkp,Or.inl ⟨acc,hend.out,ha0,by omega,rfl,rfl⟩⟩
def lets (s:ByteArray):List Nat:=s.data.toList.map UInt8.toNat
def eats:List Nat→List Nat→Bool
 | [],_=>true
 |_::_,[]=>false
 |a::s,c::l=>a==c&&eats s l
theorem zvH (s:ByteArray)(i:Nat)(h:i<s.size):(lets s).drop i=(s[i]).toNat::(lets s).drop (i+1):=by
 have hl:i<(lets s).length:=by simpa [lets]using h
 rw[List.drop_eq_getElem_cons hl];congr 1;simp[lets];rfl
theorem Kept.iterAt {S:List Nat}{a w:World}(h:Kept S a w){k:Nat}(hk:a.heap.size≤k)(s:ByteArray)(pos:Nat):Kept S a (w.iterAt k s pos):=
 ⟨h.os,h.tape,h.output,by rw[Lib.iterAt_size];exact h.size,fun i hi hn=>by rw[Lib.iterAt_other _ _ _ _ _ (by omega)];exact h.block i hi hn⟩
theorem Scan.iterAt {w b rb cap rs k}(h:Scan w b rb cap rs k){i pos:Nat}{s:ByteArray}(hi:w.heap[i]?=some (.stringIter s pos))(pos':Nat):Scan (w.iterAt i s pos') b rb cap rs k:=by
 obtain⟨c,t,f,hr,hc⟩:=h.row;have e1:b≠i:=by intro e;subst e;rw[h.blk]at hi;cases hi
 have e2:rb≠i:=by intro e;subst e;rw[hr]at hi;cases hi
 exact⟨by rw[Lib.iterAt_other _ _ _ _ _ e1];exact h.blk,⟨c,t,f,by rw[Lib.iterAt_other _ _ _ _ _ e2];exact hr,hc⟩,h.ne,h.le,h.small,h.bd,h.room⟩
theorem Scan.alloc {w b rb cap rs k}(h:Scan w b rb cap rs k)(o:Obj):Scan (w.alloc o) b rb cap rs k:=
 h.kept (S:=[]) ((Kept.refl _ _).alloc o) (by simp) (by simp)
theorem zJR (b rb cap k:Nat)(rs:List Nat)(s:ByteArray)(w:World)(hs:Scan w b rb cap rs k)(ha:∀i (h:i<s.size),(s[i]'h).toNat<128)(hz:s.size≤100):
 Calls prog 187 #[.pointer (some ⟨b,0,none⟩),.string s] w fun e w'=>
  ∃k',e=.returned (.bool (eats (lets s) (rs.drop k)))∧Scan w' b rb cap rs k'∧Kept [b] w w'∧(eats (lets s) (rs.drop k)=true→k'=k+s.size):=by
 have hbs:b<w.heap.size:=zBq hs.blk;go_enter func187,ntmps187;go_wp2;go_loopw [] (fun w'=>∃j:Nat,j≤s.size∧eats ((lets s).drop j) (rs.drop (k+j))=eats (lets s) (rs.drop k)∧w'.heap[w.heap.size]?=some (.stringIter s j)∧Scan w' b rb cap rs (k+j)∧Kept [b] w w') (fun w'=>s.size-w'.iterPos w.heap.size)
 case atStart=>exact⟨0,by omega,rfl,by rw[World.iter_heap],hs.alloc _,(Kept.refl _ _).alloc _⟩
 case round=>
  obtain⟨j,hj,HR,hit,hsj,hkp⟩:=hrel;have hR:Hid (eats ((lets s).drop j) (rs.drop (k+j))=eats (lets s) (rs.drop k)):=HR;have HI:Hid (wr.heap[w.heap.size]?=some (.stringIter s j)):=hit;clear HR;by_cases hlt:j<s.size
  ·have hnx:∀ty,(Instr.next (.pointer (some ⟨w.heap.size,0,none⟩)) true ty).run prog wr=_:=fun ty=>Lib.run_next_ascii_at wr w.heap.size s j ty hit hlt (ha j hlt);clear hit;have hsj':=hsj.iterAt HI.out (j+1);have hkp':=hkp.iterAt zG s (j+1);have hit':=Lib.iterAt_heap _ _ _ _ (j+1) HI.out;have HI':Hid ((wr.iterAt w.heap.size s (j+1)).heap[w.heap.size]?=some (.stringIter s (j+1))):=hit';have hL:=zvH s j hlt;have HL:Hid ((lets s).drop j=(s[j]).toNat::(lets s).drop (j+1)):=hL;clear hit' hL;go_wp2_with fail;by_cases hp:zEH (rs.drop (k+j))=((s[j]).toNat:Int)
   ·refine(z8M b rb cap (k+j) rs _ _ hsj' hp (by omega)).mono ?_;rintro e w1 ⟨rfl,g1,g2⟩;have hr1:Hid (eats ((lets s).drop (j+1)) (rs.drop (k+j+1))=eats (lets s) (rs.drop k)):=by
     cases hd:rs.drop (k+j)with
     |nil=>rw[hd]at hp;simp only [zEH]at hp;omega
     |cons c t=>
       rw[zOW hd,←hR.out,hd,HL.out,eats];rw[hd]at hp;have:(s[j]).toNat=c:=(by simp only [zEH]at hp;omega);simp[this,Hid]
    have hi1:Hid (w1.heap[w.heap.size]?=some (.stringIter s (j+1))):=by
     rw[g2.block w.heap.size (zBq HI'.out) (by simp;omega)];exact HI'.out
    clear hp hnx;go_wp2;go_roundw
    case rel=>exact⟨j+1,by omega,hr1.out,hi1.out,g1,hkp'.trans g2⟩
    case measure=>
     simp only [World.iterPos,hi1.out,HI.out];omega
   ·refine(zZ5 b rb cap (k+j) rs _ _ hsj' hp).mono ?_;rintro e w1 ⟨rfl,n1,rfl⟩;have hend:Hid (eats (lets s) (rs.drop k)=false):=by
     rw[←hR.out,HL.out];cases hd:rs.drop (k+j)with
     |nil=>exact rfl
     |cons c t=>
       rw[hd]at hp;have:¬(s[j]).toNat=c:=(by simp only [zEH]at hp;omega);simp[eats,this,Hid]
    clear hp hnx hR HL;go_wp2;go_ret;exact⟨_,by rw[hend.out];rfl,hsj'.drewN _,hkp'.drewN _,by rw[hend.out];intro h;cases h⟩
  ·have hj':j=s.size:=(by omega);have hnx:∀ty,(Instr.next (.pointer (some ⟨w.heap.size,0,none⟩)) true ty).run prog wr=_:=fun ty=>Lib.run_next_end_at wr w.heap.size s j ty hit hlt;have hend:Hid (eats (lets s) (rs.drop k)=true):=by
    rw[←hR.out,List.drop_eq_nil_of_le (by simp[lets];omega)];exact rfl
   have HJ:Hid (j=s.size):=hj';clear hit hj' hR;go_wp2;go_ret;exact⟨_,by rw[hend.out];rfl,hsj,hkp,fun _=>by rw[HJ.out]⟩
def z2Bk (l:List Nat):Option (Int×Nat):=
 match four l with
 |none=>none
 |some v=>if lowB v then none else if zDm v then
  (if eats [92,117] (l.drop 4)then(match four (l.drop 6)with
   |none=>none
   |some m=>if lowB m then some (65536+(v-55296)*1024+(m-56320),10)else none)else none)
   else some (v,4)
theorem z8N:lets ⟨#[92,117]⟩=[92,117]:=by decide
theorem z2B:∀i (h:i<(⟨#[92,117]⟩:ByteArray).size),((⟨#[92,117]⟩:ByteArray)[i]'h).toNat<128:=by decide
theorem zdf (b rb cap k:Nat)(rs:List Nat)(w:World)(hs:Scan w b rb cap rs k):
 Calls prog 192 #[.pointer (some ⟨b,0,none⟩)] w fun e w'=>
  ∃k',Scan w' b rb cap rs k'∧Kept [b] w w'∧((∃v n,z2Bk (rs.drop k)=some (v,n)∧0≤v∧v≤1114111∧k'=k+n∧e=.returned (.tuple #[.int .i32 v,.bool true]))∨
   (z2Bk (rs.drop k)=none∧e=.returned (.tuple #[.int .i32 0,.bool false]))):=by
 go_enter func192,ntmps192;go_wp2_with fail;refine(zR4 b rb cap k rs _ hs).mono ?_;rintro e w1 ⟨k1,g1,g2,⟨v,hv,hv0,hv1,rfl,rfl⟩|⟨hv,rfl⟩⟩
 ·have HV:Hid (four (rs.drop k)=some v):=hv;clear hv;go_wp2_with fail;refine(zOs _ _).mono ?_;rintro e w2 ⟨rfl,rfl⟩;cases hlo:lowB v with
  |true=>
    have hend:Hid (z2Bk (rs.drop k)=none):=(by unfold z2Bk;rw[HV.out];simp[hlo,Hid]);clear hlo HV;go_wp2;go_ret2;exact⟨_,g1,g2,Or.inr ⟨hend.out,rfl⟩⟩
  |false=>
    have HL:Hid (lowB v=false):=hlo;clear hlo;go_wp2_with fail;refine(z6T _ _).mono ?_;rintro e w2 ⟨rfl,rfl⟩;cases hhi:zDm v with
    |false=>
      have hend:Hid (z2Bk (rs.drop k)=some (v,4)):=(by unfold z2Bk;rw[HV.out];simp[HL.out,hhi,Hid]);clear hhi HL HV;go_wp2;go_ret2;exact⟨_,g1,g2,Or.inl ⟨v,4,hend.out,hv0,by omega,rfl,rfl⟩⟩
    |true=>
      have HH:Hid (zDm v=true):=hhi;have hvb:55296≤v∧v<56320:=(by simpa [zDm]using hhi);obtain⟨hvb0,hvb1⟩:=hvb;clear hhi;go_wp2_with fail;refine(zJR b rb cap (k+4) rs ⟨#[92,117]⟩ _ g1 z2B (by decide)).mono ?_;rintro e w2 ⟨k2,rfl,g3,g4,hk2⟩;rw[z8N]at*;cases he:eats [92,117] (rs.drop (k+4))with
      |false=>
        have hend:Hid (z2Bk (rs.drop k)=none):=(by unfold z2Bk;rw[HV.out];simp[HL.out,HH.out,List.drop_drop,he,Hid]);clear he HL HV HH hk2;go_wp2;go_ret2;exact⟨_,g3,g2.trans g4,Or.inr ⟨hend.out,rfl⟩⟩
      |true=>
        have HE:Hid (eats [92,117] (rs.drop (k+4))=true):=he;obtain rfl:k2=k+6:=hk2 he;clear he hk2;go_wp2_with fail;refine(zR4 b rb cap (k+6) rs _ g3).mono ?_;rintro e w3 ⟨k3,g5,g6,⟨m,hm,hm0,hm1,rfl,rfl⟩|⟨hm,rfl⟩⟩
        ·have HM:Hid (four (rs.drop (k+6))=some m):=hm;clear hm;go_wp2_with fail;refine(zOs _ _).mono ?_;rintro e w4 ⟨rfl,rfl⟩;cases hlm:lowB m with
         |false=>
           have hend:Hid (z2Bk (rs.drop k)=none):=(by unfold z2Bk;rw[HV.out];simp[HL.out,HH.out,List.drop_drop,HE.out,HM.out,hlm,Hid]);clear hlm HL HV HH HE HM;go_wp2;go_ret2;exact⟨_,g5,(g2.trans g4).trans g6,Or.inr ⟨hend.out,rfl⟩⟩
         |true=>
           have hmb:56320≤m∧m≤57343:=(by simpa [lowB]using hlm);obtain⟨hmb0,hmb1⟩:=hmb;have hend:Hid (z2Bk (rs.drop k)=some (65536+(v-55296)*1024+(m-56320),10)):=(by unfold z2Bk;rw[HV.out];simp[HL.out,HH.out,List.drop_drop,HE.out,HM.out,hlm,Hid]);clear hlm HL HV HH HE HM;go_wp2;go_ret2;refine⟨_,g5,(g2.trans g4).trans g6,Or.inl ⟨_,10,hend.out,by omega,by omega,by omega,?_⟩⟩;rfl
        ·have hend:Hid (z2Bk (rs.drop k)=none):=(by unfold z2Bk;rw[HV.out];simp[HL.out,HH.out,List.drop_drop,HE.out,hm,Hid]);clear HL HV HH HE hm;go_wp2;go_ret2;exact⟨_,g5,(g2.trans g4).trans g6,Or.inr ⟨hend.out,rfl⟩⟩
 ·have hend:Hid (z2Bk (rs.drop k)=none):=by unfold z2Bk;rw[hv];exact rfl
  clear hv;go_wp2;go_ret2;exact⟨_,g1,g2,Or.inr ⟨hend.out,rfl⟩⟩
def zvTw:List Nat→Option (Int×Nat)
 | []=>none
 |c::t=>if((c:Int)==34)then some ((c:Int),1)else if((c:Int)==92)then some ((c:Int),1)else if((c:Int)==47)then some ((c:Int),1)
   else if((c:Int)==98)then some (8,1)else if((c:Int)==102)then some (12,1)else if((c:Int)==110)then some (10,1)
   else if((c:Int)==114)then some (13,1)else if((c:Int)==116)then some (9,1)
   else if((c:Int)==117)then(match z2Bk t with|some (v,n)=>some (v,n+1)|none=>none)else none
theorem zD2 {e:Ending} {w w':World} {b rb cap k k':Nat} {rs:List Nat} (v:Int) (n:Nat) (g1:Scan w' b rb cap rs k') (g2:Kept [b] w w') (h:zvTw (rs.drop k)=some (v,n)) (h0:0≤v) (h1:v≤1114111) (hk:k'=k+n)
 (he:e=.returned (.tuple #[.int .i32 v,.bool true])):
 ∃k',Scan w' b rb cap rs k'∧Kept [b] w w'∧((∃v n,zvTw (rs.drop k)=some (v,n)∧0≤v∧v≤1114111∧k'=k+n∧e=.returned (.tuple #[.int .i32 v,.bool true]))∨
  (zvTw (rs.drop k)=none∧e=.returned (.tuple #[.int .i32 0,.bool false]))):=⟨k',g1,g2,Or.inl ⟨v,n,h,h0,h1,hk,he⟩⟩
theorem z3S {e:Ending} {w w':World} {b rb cap k k':Nat} {rs:List Nat} (g1:Scan w' b rb cap rs k') (g2:Kept [b] w w') (h:zvTw (rs.drop k)=none)
 (he:e=.returned (.tuple #[.int .i32 0,.bool false])):
 ∃k',Scan w' b rb cap rs k'∧Kept [b] w w'∧((∃v n,zvTw (rs.drop k)=some (v,n)∧0≤v∧v≤1114111∧k'=k+n∧e=.returned (.tuple #[.int .i32 v,.bool true]))∨
  (zvTw (rs.drop k)=none∧e=.returned (.tuple #[.int .i32 0,.bool false]))):=⟨k',g1,g2,Or.inr ⟨h,he⟩⟩
theorem z5j (b rb cap k:Nat)(rs:List Nat)(w:World)(hs:Scan w b rb cap rs k):
 Calls prog 184 #[.pointer (some ⟨b,0,none⟩)] w fun e w'=>
  ∃k',Scan w' b rb cap rs k'∧Kept [b] w w'∧((∃v n,zvTw (rs.drop k)=some (v,n)∧0≤v∧v≤1114111∧k'=k+n∧e=.returned (.tuple #[.int .i32 v,.bool true]))∨
   (zvTw (rs.drop k)=none∧e=.returned (.tuple #[.int .i32 0,.bool false]))):=by
 go_enter func184,ntmps184;go_wp2_with fail;refine(z3C b rb cap k rs _ hs).mono ?_;rintro e w1 ⟨rfl,g1,g2⟩;cases hd:rs.drop k with
 |nil=>
   have HD:Hid (rs.drop k=[]):=hd;clear hd;rw[show zEH []= -1 from rfl];go_wp2;go_ret2;exact z3S g1 g2 (by rw[HD.out];rfl) rfl
 |cons c t=>
   have hl:=z7P hd;have HD:Hid (rs.drop k=c::t):=hd;rw[Nat.min_eq_left (by omega)]at g1;rw[show zEH (c::t)=(c:Int)from rfl];clear hd;by_cases hu:((c:Int)==117)=true
   ·have hc:c=117:=(by have:=eq_of_beq hu;omega);subst hc;clear hu;go_wp2_with fail;refine(zdf b rb cap (k+1) rs _ g1).mono ?_;rintro e w2 ⟨k2,g3,g4,⟨v,n,hv,hv0,hv1,rfl,rfl⟩|⟨hv,rfl⟩⟩
    ·have HV:Hid (z2Bk t=some (v,n)):=(by rw[zOW HD.out]at hv;exact hv);clear hv;go_wp2;go_ret2;exact zD2 v (n+1) g3 (g2.trans g4) (by rw[HD.out];simp[zvTw,HV.out]) hv0 hv1 (by omega) rfl
    ·have HV:Hid (z2Bk t=none):=(by rw[zOW HD.out]at hv;exact hv);clear hv;go_wp2;go_ret2;exact z3S g3 (g2.trans g4) (by rw[HD.out];simp[zvTw,HV.out]) rfl
   ·have hu':((c:Int)==117)=false:=(by simpa using hu);clear hu;go_wp2
    all_goals go_ret2
    ·exact zD2 (c:Int) 1 g1 g2 (by rw[HD.out];simp only [zvTw, *];rfl) (by omega) (by have:=eq_of_beq ‹((c:Int)==34)=true›;omega) rfl rfl
    ·exact zD2 (c:Int) 1 g1 g2 (by rw[HD.out];simp only [zvTw, *];rfl) (by omega) (by have:=eq_of_beq ‹((c:Int)==92)=true›;omega) rfl rfl
    ·exact zD2 (c:Int) 1 g1 g2 (by rw[HD.out];simp only [zvTw, *];rfl) (by omega) (by have:=eq_of_beq ‹((c:Int)==47)=true›;omega) rfl rfl
    ·exact zD2 8 1 g1 g2 (by rw[HD.out];simp only [zvTw, *];rfl) (by omega) (by omega) rfl rfl
    ·exact zD2 12 1 g1 g2 (by rw[HD.out];simp only [zvTw, *];rfl) (by omega) (by omega) rfl rfl
    ·exact zD2 10 1 g1 g2 (by rw[HD.out];simp only [zvTw, *];rfl) (by omega) (by omega) rfl rfl
    ·exact zD2 13 1 g1 g2 (by rw[HD.out];simp only [zvTw, *];rfl) (by omega) (by omega) rfl rfl
    ·exact zD2 9 1 g1 g2 (by rw[HD.out];simp only [zvTw, *];rfl) (by omega) (by omega) rfl rfl
    ·exact z3S g1 g2 (by rw[HD.out];simp only [zvTw, *];rfl) rfl
theorem Kept.step {S:List Nat}{a w w':World}{B:Nat}(h:Kept S a w)(k:Below B w w')(hB:a.heap.size≤B):Kept S a w':=
 ⟨k.os.trans h.os,k.tape.trans h.tape,k.output.trans h.output,Nat.le_trans h.size k.size,fun i hi hn=>(k.block i (by omega)).trans (h.block i hi hn)⟩
theorem Scan.below {w w':World}{b rb cap k B:Nat}{rs:List Nat}(h:Scan w b rb cap rs k)(hb:Below B w w')(h1:b<B)(h2:rb<B):Scan w' b rb cap rs k:=by
 obtain⟨c,t,f,hr,hc⟩:=h.row;exact⟨by rw[hb.block b h1];exact h.blk,⟨c,t,f,by rw[hb.block rb h2];exact hr,hc⟩,h.ne,h.le,h.small,h.bd,h.room⟩
theorem Scan.rbLt {w:World}{b rb cap k:Nat}{rs:List Nat}(h:Scan w b rb cap rs k):rb<w.heap.size:=by
 obtain⟨c,t,f,hr,hc⟩:=h.row;exact zBq hr
theorem Scan.bLt {w:World}{b rb cap k:Nat}{rs:List Nat}(h:Scan w b rb cap rs k):b<w.heap.size:=zBq h.blk
theorem zVb {T e:TypeId}{B b:Nat}{p:Value}{bs:List Value}{w w':World}{S:List Nat}(h:Lib.BuilderAtF T e B b p bs w)(k:Kept S w w')(hS:∀x∈S,x<B):Lib.BuilderAtF T e B b p bs w':=by
 obtain⟨hB,v,hb,hown,hne⟩:=h;have nb:b∉S:=fun hm=>by have:=hS b hm;omega
 refine⟨hB,v,(k.block b (zBq hb) nb).trans hb,⟨hown.1,?_⟩,hne⟩;rcases hown.2 with hn|⟨g,cap,cur,fz,hv,hbg,hg,rest⟩
 ·exact .inl hn
 ·have ng:g∉S:=fun hm=>by have:=hS g hm;omega
  exact .inr ⟨g,cap,cur,fz,hv,hbg,(k.block g (zBq hg) ng).trans hg,rest⟩
theorem zVl {T e:TypeId}{B b:Nat}{bs:List Value}{w w':World}{S:List Nat}(h:Lib.IsBuilderF T e B b bs w)(k:Kept S w w')(hS:∀x∈S,x<B):Lib.IsBuilderF T e B b bs w':=
 h.elim (fun x=>.inl (zVb x k hS)) (fun x=>.inr (zVb x k hS))
def z9u:Nat→List UInt8→List Nat→Option (List UInt8×List Nat)
 |0,_,_=>none
 |_+1,_,[]=>none
 |f+1,acc,c::t=>if((c:Int)==34)then some (acc,t)else if(c:Int)<32 then none
   else if((c:Int)==92)then(match zvTw t with|none=>none|some (v,n)=>z9u f (acc++Lib.encodeRune v) (t.drop n))
   else z9u f (acc++Lib.encodeRune c) t
def zgn:List Nat→Option (List UInt8×List Nat)
 | []=>none
 |c::t=>if((c:Int)==34)then z9u (t.length+1) [] t else none
theorem zTu (b rb cap k:Nat)(rs:List Nat)(w:World)(hs:Scan w b rb cap rs k):
 Calls prog 169 #[.pointer (some ⟨b,0,none⟩)] w fun e w'=>
  ∃k',Scan w' b rb cap rs k'∧Kept [b] w w'∧((∃v,zgn (rs.drop k)=some (v,rs.drop k')∧v.length≤4*k'∧e=.returned (.tuple #[.string ⟨v.toArray⟩,.bool true]))∨
   (zgn (rs.drop k)=none∧e=.returned (.tuple #[.string ⟨#[]⟩,.bool false]))):=by
 by_cases hp:zEH (rs.drop k)=34
 ·have hd:∃t,rs.drop k=34::t:=by
   cases hd:rs.drop k with
   |nil=>rw[hd]at hp;cases hp
   |cons c t=>rw[hd]at hp;simp only [zEH]at hp;exact⟨t,by rw[show c=34 by omega]⟩
  obtain⟨t,hd⟩:=hd;have HT:Hid (zgn (rs.drop k)=z9u (t.length+1) [] (rs.drop (k+1))):=by rw[zOW hd,hd];exact rfl
  have hlt:Hid (rs.length=k+1+t.length):=by
   have:=congrArg List.length hd;have hk:=hs.le;simp at this;show _=_;omega
  clear hd;have hsm:=hs.small;go_enter func169,ntmps169;go_wp2_with fail;refine(z8M b rb cap k rs 34 _ hs hp (by omega)).mono ?_;rintro e w1 ⟨rfl,g1,g2⟩;clear hp;go_wp2;have hb1:=g1.bLt;have hrb1:=g1.rbLt;have hbw:=hs.bLt;have hsz1:=g2.size;go_loopw [] (fun wr=>∃(j f:Nat) (acc:List UInt8),z9u f acc (rs.drop j)=zgn (rs.drop k)∧rs.length+1≤j+f∧acc.length≤4*j∧Lib.IsBuilderF 196 5 w1.heap.size w1.heap.size (Lib.byteCells acc) wr∧w1.heap.size≤wr.heap.size∧Scan wr b rb cap rs j∧Kept [b] w wr) (fun wr=>rs.length-z3F wr b)
  case atStart=>
   exact⟨k+1,t.length+1,[],HT.out.symm,by rw[hlt.out];omega,by simp,Lib.IsBuilderF.of (Lib.fresh_isBuilder 196 5 w1),by simp,g1.alloc _,g2.alloc _⟩
  case round=>
   obtain⟨j,f,acc,hj,hf,hal,hI,hsz,hsj,hkp⟩:=hrel;have HJ:Hid (z9u f acc (rs.drop j)=zgn (rs.drop k)):=hj;clear hj HT hlt;have hlej:=hsj.le;obtain⟨f,rfl⟩:∃f',f=f'+1:=⟨f-1,by omega⟩;go_wp2_with fail;refine(z3C b rb cap j rs _ hsj).mono ?_;rintro e w2 ⟨rfl,g3,g4⟩;have hI2:=zVl hI g4 (by simp;omega);have hkp2:=hkp.trans g4;have hsz2:=Nat.le_trans hsz g4.size;cases hd:rs.drop j with
   |nil=>
     have HE:Hid (zgn (rs.drop k)=none):=(by rw[←HJ.out,hd];exact rfl);rw[show zEH []= -1 from rfl];clear hd HJ;go_wp2;go_ret2;exact⟨_,g3,hkp2,Or.inr ⟨HE.out,rfl⟩⟩
   |cons c t=>
     have hl:=z7P hd;have HD:Hid (rs.drop j=c::t):=hd;have HD1:Hid (rs.drop (j+1)=t):=zOW hd;have hmem:c∈rs:=List.mem_of_mem_drop (i:=j) (by rw[hd];simp);rw[Nat.min_eq_left (by omega)]at g3;rw[show zEH (c::t)=(c:Int)from rfl];clear hd;by_cases h34:((c:Int)==34)=true
     ·have HE:Hid (zgn (rs.drop k)=some (acc,rs.drop (j+1))):=(by rw[←HJ.out,HD.out,HD1.out,z9u,if_pos h34];exact rfl);clear HJ HD HD1;go_wp2_with (go_at_call 97;refine(Tryz.Builder_String_any_k w1.heap.size w1.heap.size acc _ hI2 hsz2).mono ?_);rintro e w3 ⟨rfl,_,b1,_⟩;go_wp2;go_ret2;exact⟨j+1,g3.below b1 (by omega) (by omega),hkp2.step b1 (by omega),Or.inl ⟨acc,HE.out,by omega,rfl⟩⟩
     ·have h34':((c:Int)==34)=false:=(by simpa using h34);clear h34;by_cases h32:(c:Int)<32
      ·have HE:Hid (zgn (rs.drop k)=none):=(by rw[←HJ.out,HD.out,z9u,if_neg (by simp[h34']),if_pos h32];exact rfl);clear HJ HD HD1;go_wp2;go_ret2;exact⟨_,g3,hkp2,Or.inr ⟨HE.out,rfl⟩⟩
      ·by_cases h92:((c:Int)==92)=true
       ·have HS:Hid (zgn (rs.drop k)=(match zvTw t with|none=>none|some (v,n)=>z9u f (acc++Lib.encodeRune v) (t.drop n))):=by
         rw[←HJ.out,HD.out,z9u,if_neg (by simp[h34']),if_neg h32,if_pos h92];exact rfl
        clear HJ HD;go_wp2_with fail;refine(z5j b rb cap (j+1) rs _ g3).mono ?_;rintro e w3 ⟨k3,g5,g6,⟨v,n,hv,hv0,hv1,rfl,rfl⟩|⟨hv,rfl⟩⟩
        ·have hI3:=zVl hI2 g6 (by simp;omega);have hsz3:=Nat.le_trans hsz2 g6.size;have HS':Hid (z9u f (acc++Lib.encodeRune v) (rs.drop (j+1+n))=zgn (rs.drop k)):=by
          rw[HD1.out]at hv;rw[HS.out,hv,←List.drop_drop,HD1.out];exact rfl
         clear HS HD1 hv;go_wp2_with (go_at_call 185;refine(Tryz.Builder_WriteRune_k w1.heap.size w1.heap.size _ v (by omega) (by omega) _ hI3 (by rw[Lib.byteCells_length];omega) hsz3).mono ?_);rintro e w4 ⟨rfl,h1,b1,_⟩;have hl4:=Lib.runeCells_le v;rw[Lib.runeCells_length]at hl4;have g7:=g5.below b1 (by omega) (by omega);go_wp2;go_roundw
         case rel=>
          refine⟨j+1+n,f,acc++Lib.encodeRune v,HS'.out,by omega,by simp;omega,?_,Nat.le_trans hsz3 b1.size,g7,(hkp2.trans g6).step b1 (by omega)⟩;rw[Lib.byteCells_append,Lib.byteCells_encodeRune];exact Or.inr h1
         case measure=>
          rw[g7.place,hsj.place];omega
        ·have HE:Hid (zgn (rs.drop k)=none):=(by rw[HD1.out]at hv;rw[HS.out,hv];exact rfl);clear HS hv HD1;go_wp2;go_ret2;exact⟨_,g5,hkp2.trans g6,Or.inr ⟨HE.out,rfl⟩⟩
       ·have h92':((c:Int)==92)=false:=(by simpa using h92);have HS':Hid (z9u f (acc++Lib.encodeRune c) (rs.drop (j+1))=zgn (rs.drop k)):=by
         rw[HD1.out,←HJ.out,HD.out];show _=z9u (f+1) acc (c::t);rw[z9u,if_neg (by simp[h34']),if_neg h32,if_neg (by simp[h92'])]
        clear HJ HD HD1 h92;have hcb:(c:Int)≤2147483647:=by
         have:=hsj.bd c hmem;omega
        go_wp2_with (go_at_call 185;refine(Tryz.Builder_WriteRune_k w1.heap.size w1.heap.size _ (c:Int) (by omega) (by omega) _ hI2 (by rw[Lib.byteCells_length];omega) hsz2).mono ?_);rintro e w4 ⟨rfl,h1,b1,_⟩;have hl4:=Lib.runeCells_le (c:Int);rw[Lib.runeCells_length]at hl4;have g7:=g3.below b1 (by omega) (by omega);go_wp2;go_roundw
        case rel=>
         refine⟨j+1,f,acc++Lib.encodeRune c,HS'.out,by omega,by simp;omega,?_,Nat.le_trans hsz2 b1.size,g7,hkp2.step b1 (by omega)⟩;rw[Lib.byteCells_append,Lib.byteCells_encodeRune];exact Or.inr h1
        case measure=>
         rw[g7.place,hsj.place];omega
 ·have HT:Hid (zgn (rs.drop k)=none):=by
   cases hd:rs.drop k with
   |nil=>exact rfl
   |cons c t=>rw[hd]at hp;simp only [zEH]at hp;simp[zgn,hp,Hid]
  go_enter func169,ntmps169;go_wp2_with fail;refine(zZ5 b rb cap k rs 34 _ hs hp).mono ?_;rintro e w1 ⟨rfl,n,rfl⟩;clear hp;go_wp2;go_ret2;exact⟨k,hs.drewN n,(Kept.refl _ _).drewN n,Or.inr ⟨HT.out,rfl⟩⟩
end Go.Proofs.YtbbkihekjdffpaaGreatDoor
