/- Several texts in one. -/
import Derived.Test.YtbbkihekjdffpaaGreatDoorProg
import Derived.BigQuiet
import Derived.ChangeAlike
import Derived.Deep.QuietTactic
import Derived.Lib.OthersKept
import Derived.RegionTactic
import Derived.WalkKit
import Derived.WalkLawsBesides
import Derived.WalkSpells
set_option maxHeartbeats 400000
namespace Go.Proofs.YtbbkihekjdffpaaGreatDoor
open Go.RowKit

structure Kept (S:List Nat) (w w':World):Prop where
 os:w'.os=w.os
 tape:w'.tape=w.tape
 output:w'.output=w.output
 size:w.heap.size≤w'.heap.size
 block:∀ k,k < w.heap.size→k∉S→w'.heap[k]?=w.heap[k]?

theorem Kept.refl (S:List Nat) (w:World):Kept S w w:=⟨rfl,rfl,rfl,Nat.le_refl _,fun _ _ _=>rfl⟩
theorem Kept.trans {S:List Nat} {a b c:World} (h:Kept S a b) (k:Kept S b c):Kept S a c:=
 ⟨k.os.trans h.os,k.tape.trans h.tape,k.output.trans h.output,Nat.le_trans h.size k.size,fun i hi hn=>(k.block i (Nat.lt_of_lt_of_le hi h.size) hn).trans (h.block i hi hn)⟩
theorem Kept.mono {S S':List Nat} {a b:World} (h:Kept S a b) (hs:∀ x,x < a.heap.size→x∈S→x∈S'):Kept S' a b:=
 ⟨h.os,h.tape,h.output,h.size,fun i hi hn=>h.block i hi fun hm=>hn (hs i hi hm)⟩
theorem Kept.drew {S:List Nat} {a w:World} (h:Kept S a w):Kept S a w.drew:=⟨h.os,h.tape,h.output,h.size,h.block⟩
theorem Kept.alloc {S:List Nat} {a w:World} (h:Kept S a w) (o:Obj):Kept S a (w.alloc o):=
 h.trans ⟨rfl,rfl,rfl,by simp,fun k hk _=>Below.heap_alloc _ _ _ hk⟩
theorem Kept.setCell {S:List Nat} {a w:World} (h:Kept S a w) {p:Addr} (hp:p.block∈S∨a.heap.size≤p.block) (u:Value):Kept S a (w.setCell p u):=
 ⟨h.os,h.tape,h.output,by have:=h.size;simpa [World.setCell] using this,fun k hk hn=>by
  have hne:k≠p.block:=fun e=>hp.elim (fun hp=>hn (by rw [e];exact hp)) (fun hp=>by omega)
  rw [Below.heap_setCell _ _ _ _ hne];exact h.block k hk hn⟩
theorem Kept.alike {S:List Nat} {a w w':World} (h:Kept S a w) (k:w'.Alike w) (ht:w'.tape=w.tape) (ho:w'.os=w.os) (hp:w'.output=w.output):Kept S a w':=
 ⟨ho.trans h.os,ht.trans h.tape,hp.trans h.output,by have:=h.size;rw [k.1];exact this,fun i hi hn=>by rw [k.1];exact h.block i hi hn⟩
theorem Kept.below {S:List Nat} {a w:World} {B:Nat} (h:Kept S a w) (hB:B≤a.heap.size) (hs:∀ x,x∈S→B≤x):Below B a w:=
 ⟨h.os,h.tape,h.output,h.size,fun k hk=>h.block k (by omega) fun hm=>by have:=hs k hm;omega⟩
theorem Kept.of_below {S:List Nat} {a w:World} (h:Below a.heap.size a w):Kept S a w:=
 ⟨h.os,h.tape,h.output,h.size,fun k hk _=>h.block k hk⟩
theorem Kept.cell {S:List Nat} {a w:World} (h:Kept S a w) {p:Addr} (hb:p.block < a.heap.size) (hn:p.block∉S):w.cell? p=a.cell? p:=
 World.cell?_of_block (w:=a) (h.block _ hb hn)
theorem zBq {w:World} {b:Nat} {o:Obj} (h:w.heap[b]?=some o):b < w.heap.size:=(Array.getElem?_eq_some_iff.1 h).1
theorem zBk {w:World} {b:Nat} {c:Array Value} {t:TypeId} {f:Nat×Nat} (h:w.heap[b]?=some (.cells c t f)) (i:Nat):w.cell? ⟨b,i,none⟩=c[i]?:=by
 simp [World.cell?,h]
theorem zBn {w:World} {b:Nat} {c:Array Value} {t:TypeId} (h:w.heap[b]?=some (.cells c t (0,0))) (i:Nat):w.frozen? ⟨b,i,none⟩=false:=by
 simp [World.frozen?,h]
theorem zFg {w:World} {b:Nat} {c:Array Value} {t:TypeId} {f:Nat×Nat} (h:w.heap[b]?=some (.cells c t f)) (i:Nat) (v:Value):
 (w.setCell ⟨b,i,none⟩ v).heap[b]?=some (.cells (c.setIfInBounds i v) t f):=by
 simp [World.setCell,Array.getElem?_modify,h]
theorem zRA {w:World} {b:Nat} {a:Addr} (h:b≠a.block) (v:Value):(w.setCell a v).heap[b]?=w.heap[b]?:=Below.heap_setCell _ _ _ _ h

theorem zqz {k:IntKind} {a b:Int} {x y:Bool} (h:a=b) (h':x=y):Ending.returned (.tuple #[.int k a,.bool x])=.returned (.tuple #[.int k b,.bool y]):=by rw [h,h']
theorem z6u {a b:Bool} (h:a=b):Ending.returned (.bool a)=.returned (.bool b):=by rw [h]

def zDm (r:Int):Bool:=decide (55296≤r)&&decide (r < 56320)
def lowB (r:Int):Bool:=decide (56320≤r)&&decide (r≤57343)
def hexV (r:Int):Int:=if 48≤r∧r≤57 then r - 48 else if 97≤r∧r≤102 then r - 97+10 else if 65≤r∧r≤70 then r - 65+10 else 0
def hexB (r:Int):Bool:=decide ((48≤r∧r≤57)∨(97≤r∧r≤102)∨(65≤r∧r≤70))

theorem z6T (r:Int) (w:World):
 Calls Tryz.prog 199 #[.int .i32 r] w fun e w'=>e=.returned (.bool (zDm r))∧w'=w:=by
 go_enter Tryz.func199,Tryz.ntmps199
 go_wp2
 all_goals go_ret
 all_goals exact ⟨z6u (by simp [zDm];try omega),rfl⟩

theorem zOs (r:Int) (w:World):
 Calls Tryz.prog 198 #[.int .i32 r] w fun e w'=>e=.returned (.bool (lowB r))∧w'=w:=by
 go_enter Tryz.func198,Tryz.ntmps198
 go_wp2
 all_goals go_ret
 all_goals exact ⟨z6u (by simp [lowB];try omega),rfl⟩

theorem zxm (r:Int) (w:World):
 Calls Tryz.prog 203 #[.int .i32 r] w fun e w'=>e=.returned (.tuple #[.int .i32 (hexV r),.bool (hexB r)])∧w'=w:=by
 go_enter Tryz.func203,Tryz.ntmps203
 go_wp2
 all_goals go_ret2
 all_goals refine ⟨zqz ?_ ?_,rfl⟩
 all_goals first
  | (unfold hexV;(repeat' split) <;> omega)
  | (unfold hexB;simp;omega)

structure Scan (w:World) (b rb cap:Nat) (rs:List Nat) (k:Nat):Prop where
 blk:w.heap[b]?=some (.cells #[.slice (some ⟨rb,0,none⟩) rs.length cap,.int .i64 k] 241 (0,0))
 row:∃ c t f,w.heap[rb]?=some (.cells c t f)∧∀ i (h:i < rs.length),c[i]?=some (.int .i32 (rs[i]:Int))
 ne:rb≠b
 le:k≤rs.length
 small:rs.length≤2000000
 bd:∀ c∈rs,c≤2147483647
 room:rs.length≤cap

def zEH (l:List Nat):Int:=match l with | []=> -1 | c::_=>(c:Int)
theorem zvx {rs:List Nat} {k:Nat} (h:k < rs.length):zEH (rs.drop k)=(rs[k]:Int):=by
 rw [List.drop_eq_getElem_cons h];rfl
theorem zMf {rs:List Nat} {k:Nat} (h:rs.length≤k):zEH (rs.drop k)= -1:=by
 rw [List.drop_eq_nil_of_le h];rfl

theorem Scan.c0 {w b rb cap rs k} (h:Scan w b rb cap rs k):w.cell? ⟨b,0,none⟩=some (.slice (some ⟨rb,0,none⟩) rs.length cap):=by
 rw [zBk h.blk];rfl
theorem Scan.c1 {w b rb cap rs k} (h:Scan w b rb cap rs k):w.cell? ⟨b,1,none⟩=some (.int .i64 k):=by
 rw [zBk h.blk];rfl
theorem Scan.f1 {w b rb cap rs k} (h:Scan w b rb cap rs k):w.frozen? ⟨b,1,none⟩=false:=zBn h.blk 1
theorem Scan.cr {w b rb cap rs k} (h:Scan w b rb cap rs k) {i:Nat} (hi:i < rs.length):w.cell? ⟨rb,i,none⟩=some (.int .i32 (rs[i]:Int)):=by
 obtain ⟨c,t,f,hb,hc⟩:=h.row
 rw [zBk hb];exact hc i hi
theorem Scan.alike {w w' b rb cap rs k} (h:Scan w b rb cap rs k) (ha:w'.Alike w):Scan w' b rb cap rs k:=
 ⟨by rw [ha.1];exact h.blk,by rw [ha.1];exact h.row,h.ne,h.le,h.small,h.bd,h.room⟩
theorem Scan.to {w b rb cap rs k} (h:Scan w b rb cap rs k) (k':Nat) (hk:k'≤rs.length):Scan (w.setCell ⟨b,1,none⟩ (.int .i64 k')) b rb cap rs k':=
 ⟨by rw [zFg h.blk];rfl,by rw [zRA h.ne];exact h.row,h.ne,hk,h.small,h.bd,h.room⟩
theorem Scan.kept {w w' b rb cap rs k S} (h:Scan w b rb cap rs k) (hk:Kept S w w') (hb:b∉S) (hrb:rb∉S):Scan w' b rb cap rs k:=by
 obtain ⟨c,t,f,hr,hc⟩:=h.row
 exact ⟨by rw [hk.block b (zBq h.blk) hb];exact h.blk,⟨c,t,f,by rw [hk.block rb (zBq hr) hrb];exact hr,hc⟩,h.ne,h.le,h.small,h.bd,h.room⟩

theorem Scan.drewN {w b rb cap rs k} (h:Scan w b rb cap rs k) (n:Nat):Scan (w.drewN n) b rb cap rs k:=⟨h.blk,h.row,h.ne,h.le,h.small,h.bd,h.room⟩
theorem Kept.drewN {S:List Nat} {a w:World} (h:Kept S a w) (n:Nat):Kept S a (w.drewN n):=⟨h.os,h.tape,h.output,h.size,h.block⟩

theorem zPf (b rb cap k:Nat) (rs:List Nat) (w:World) (hs:Scan w b rb cap rs k):
 Calls Tryz.prog 168 #[.pointer (some ⟨b,0,none⟩)] w fun e w'=>e=.returned (.int .i32 (zEH (rs.drop k)))∧∃ n,w'=w.drewN n:=by
 have h0:=hs.c0
 have h1:=hs.c1
 have hl:=hs.le
 have hm:=hs.small
 by_cases hlt:k < rs.length
 · have hr:=hs.cr hlt
   have hp:=zvx hlt
   generalize rs[k]=r at hr hp
   rw [hp]
   clear hp hs
   generalize rs.length=n at*
   have hi:(k:Int) < (n:Int):=by omega
   go_enter Tryz.func168,Tryz.ntmps168
   go_wp2
   go_quiet (fail)
   go_wp2
   go_quiet (fail)
   go_wp2
   go_ret
   exact ⟨rfl,_,by rw [World.drewN_drewN]⟩
 · rw [zMf (by omega)]
   clear hs
   generalize rs.length=n at*
   have hi:¬ (k:Int) < (n:Int):=by omega
   go_enter Tryz.func168,Tryz.ntmps168
   go_wp2
   go_quiet (fail)
   go_wp2
   go_ret
   exact ⟨rfl,_,rfl⟩

theorem znY {rs:List Nat} {k:Nat} {r:Int} (h:zEH (rs.drop k)=r) (hr:0≤r):k < rs.length:=by
 by_cases hlt:k < rs.length
 · exact hlt
 · rw [zMf (by omega)] at h;omega

theorem z8M (b rb cap k:Nat) (rs:List Nat) (r:Int) (w:World) (hs:Scan w b rb cap rs k) (hp:zEH (rs.drop k)=r) (hr:0≤r):
 Calls Tryz.prog 144 #[.pointer (some ⟨b,0,none⟩),.int .i32 r] w fun e w'=>e=.returned (.bool true)∧Scan w' b rb cap rs (k+1)∧Kept [b] w w':=by
 have hlt:=znY hp hr
 have hl:=hs.small
 have HP:Hid (zEH (rs.drop k)=r):=hp
 clear hp
 have h1:=hs.c1
 have hf:=hs.f1
 go_enter Tryz.func144,Tryz.ntmps144
 go_wp2_with (go_at_call 168;refine (zPf b rb cap k rs _ hs).mono ?_;rintro e w' ⟨rfl,n,rfl⟩;rw [HP.out])
 go_ret
 exact ⟨rfl,((hs.drewN n).to (k+1) (by omega)),((Kept.refl _ _).drewN n).setCell (Or.inl (by simp)) _⟩
theorem zZ5 (b rb cap k:Nat) (rs:List Nat) (r:Int) (w:World) (hs:Scan w b rb cap rs k) (hp:zEH (rs.drop k)≠r):
 Calls Tryz.prog 144 #[.pointer (some ⟨b,0,none⟩),.int .i32 r] w fun e w'=>e=.returned (.bool false)∧∃ n,w'=w.drewN n:=by
 have hb:(zEH (rs.drop k) != r)=true:=by simp [hp]
 clear hp
 go_enter Tryz.func144,Tryz.ntmps144
 go_wp2_with (go_at_call 168;refine (zPf b rb cap k rs _ hs).mono ?_;rintro e w' ⟨rfl,n,rfl⟩)
 go_ret
 exact ⟨rfl,_,rfl⟩

theorem z3C (b rb cap k:Nat) (rs:List Nat) (w:World) (hs:Scan w b rb cap rs k):
 Calls Tryz.prog 183 #[.pointer (some ⟨b,0,none⟩)] w fun e w'=>e=.returned (.int .i32 (zEH (rs.drop k)))∧Scan w' b rb cap rs (min (k+1) rs.length)∧Kept [b] w w':=by
 have hl:=hs.small
 by_cases hlt:k < rs.length
 · have hb:(zEH (rs.drop k) != -1)=true:=by rw [zvx hlt];simp
   rw [Nat.min_eq_left (by omega)]
   have h1:=hs.c1
   have hf:=hs.f1
   go_enter Tryz.func183,Tryz.ntmps183
   go_wp2_with (go_at_call 168;refine (zPf b rb cap k rs _ hs).mono ?_;rintro e w' ⟨rfl,n,rfl⟩)
   go_ret
   exact ⟨rfl,((hs.drewN n).to (k+1) (by omega)),((Kept.refl _ _).drewN n).setCell (Or.inl (by simp)) _⟩
 · have hb:(zEH (rs.drop k) != -1)=false:=by rw [zMf (by omega)];rfl
   have hk:=hs.le
   rw [show min (k+1) rs.length=k by omega]
   go_enter Tryz.func183,Tryz.ntmps183
   go_wp2_with (go_at_call 168;refine (zPf b rb cap k rs _ hs).mono ?_;rintro e w' ⟨rfl,n,rfl⟩)
   go_ret
   exact ⟨rfl,hs.drewN n,(Kept.refl _ _).drewN n⟩

def zE1 (c:Int):Bool:=c == 32||c == 9||c == 13
def digB (c:Int):Bool:=decide (48≤c)&&decide (c≤57)
def zek:List Nat→List Nat
 | []=>[]
 | c::t=>if zE1 c then zek t else c::t
def zva:List Nat→List Nat
 | []=>[]
 | c::t=>if digB c then zva t else c::t

def z3F (w:World) (b:Nat):Nat:=match w.cell? ⟨b,1,none⟩ with | some (.int _ n)=>n.toNat | _=>0
theorem Scan.place {w b rb cap rs k} (h:Scan w b rb cap rs k):z3F w b=k:=by simp [z3F,h.c1]

theorem zOW {rs:List Nat} {k c:Nat} {t:List Nat} (h:rs.drop k=c::t):rs.drop (k+1)=t:=by
 rw [←List.drop_drop,h];rfl
theorem z7P {rs:List Nat} {k c:Nat} {t:List Nat} (h:rs.drop k=c::t):k < rs.length:=by
 by_cases hlt:k < rs.length
 · exact hlt
 · rw [List.drop_eq_nil_of_le (by omega)] at h;cases h

theorem zn7 (b rb cap k:Nat) (rs:List Nat) (w:World) (hs:Scan w b rb cap rs k):
 Calls Tryz.prog 111 #[.pointer (some ⟨b,0,none⟩)] w fun e w'=>e=.returned (.tuple #[])∧∃ k',rs.drop k'=zek (rs.drop k)∧k≤k'∧Scan w' b rb cap rs k'∧Kept [b] w w':=by
 go_enter Tryz.func111,Tryz.ntmps111
 go_wp2
 go_loopw [] (fun w'=>∃ j,zek (rs.drop j)=zek (rs.drop k)∧k≤j∧Scan w' b rb cap rs j∧Kept [b] w w') (fun w'=>rs.length - z3F w' b)
 case atStart=>exact ⟨k,rfl,Nat.le_refl _,hs,Kept.refl _ _⟩
 case round=>
  obtain ⟨j,hj,hkj,hsj,hkp⟩:=hrel
  have hm:=hsj.small
  have fin:∀ (w1:World),zEH (rs.drop j)≠ -1→zE1 (zEH (rs.drop j))=true→Scan w1 b rb cap rs (j+1)→Kept [b] wr w1→
   (∃ j,zek (rs.drop j)=zek (rs.drop k)∧k≤j∧Scan w1 b rb cap rs j∧Kept [b] w w1)∧rs.length - z3F w1 b < rs.length - z3F wr b:=by
   intro w1 h1 h2 h3 h4
   rw [h3.place,hsj.place]
   cases hd:rs.drop j with
   | nil=>rw [hd] at h1;exact absurd rfl h1
   | cons c t=>
     have hlt:=z7P hd
     refine ⟨⟨j+1,?_,by omega,h3,hkp.trans h4⟩,by omega⟩
     rw [zOW hd,←hj,hd,zek,if_pos (by rw [hd] at h2;exact h2)]
  by_cases h1:zEH (rs.drop j)=32
  · go_wp2_with fail
    refine (z8M b rb cap j rs 32 _ hsj h1 (by omega)).mono ?_
    rintro e w1 ⟨rfl,g1,g2⟩
    go_wp2
    go_roundw
    case rel=>exact (fin w1 (by rw [h1];decide) (by rw [h1];decide) g1 g2).1
    case measure=>exact (fin w1 (by rw [h1];decide) (by rw [h1];decide) g1 g2).2
  · go_wp2_with fail
    refine (zZ5 b rb cap j rs 32 _ hsj h1).mono ?_
    rintro e w1 ⟨rfl,n1,rfl⟩
    by_cases h2:zEH (rs.drop j)=9
    · go_wp2_with fail
      refine (z8M b rb cap j rs 9 _ (hsj.drewN n1) h2 (by omega)).mono ?_
      rintro e w1 ⟨rfl,g1,g2⟩
      go_wp2
      go_roundw
      case rel=>exact (fin w1 (by rw [h2];decide) (by rw [h2];decide) g1 (((Kept.refl _ _).drewN n1).trans g2)).1
      case measure=>exact (fin w1 (by rw [h2];decide) (by rw [h2];decide) g1 (((Kept.refl _ _).drewN n1).trans g2)).2
    · go_wp2_with fail
      refine (zZ5 b rb cap j rs 9 _ (hsj.drewN n1) h2).mono ?_
      rintro e w1 ⟨rfl,n2,rfl⟩
      by_cases h3:zEH (rs.drop j)=13
      · go_wp2_with fail
        refine (z8M b rb cap j rs 13 _ (hsj.drewN _) h3 (by omega)).mono ?_
        rintro e w1 ⟨rfl,g1,g2⟩
        go_wp2
        go_roundw
        case rel=>exact (fin w1 (by rw [h3];decide) (by rw [h3];decide) g1 (((Kept.refl _ _).drewN _).trans g2)).1
        case measure=>exact (fin w1 (by rw [h3];decide) (by rw [h3];decide) g1 (((Kept.refl _ _).drewN _).trans g2)).2
      · go_wp2_with fail
        refine (zZ5 b rb cap j rs 13 _ (hsj.drewN _) h3).mono ?_
        rintro e w1 ⟨rfl,n3,rfl⟩
        have hend:rs.drop j=zek (rs.drop k):=by
         rw [←hj]
         cases hd:rs.drop j with
         | nil=>rfl
         | cons c t=>
           rw [hd] at h1 h2 h3
           rw [zek,if_neg (by simp only [zE1,zEH] at *;simp [h1,h2,h3])]
        have HE:Hid (rs.drop j=zek (rs.drop k)):=hend
        clear hend fin hj h1 h2 h3
        go_wp2
        go_end0
        exact ⟨rfl,j,HE.out,hkj,hsj.drewN _,hkp.drewN _⟩

theorem zHI (b rb cap k:Nat) (rs:List Nat) (w:World) (hs:Scan w b rb cap rs k):
 Calls Tryz.prog 194 #[.pointer (some ⟨b,0,none⟩)] w fun e w'=>e=.returned (.tuple #[])∧∃ k',rs.drop k'=zva (rs.drop k)∧k≤k'∧Scan w' b rb cap rs k'∧Kept [b] w w':=by
 go_enter Tryz.func194,Tryz.ntmps194
 go_wp2
 go_loopw [] (fun w'=>∃ j,zva (rs.drop j)=zva (rs.drop k)∧k≤j∧Scan w' b rb cap rs j∧Kept [b] w w') (fun w'=>rs.length - z3F w' b)
 case atStart=>exact ⟨k,rfl,Nat.le_refl _,hs,Kept.refl _ _⟩
 case round=>
  obtain ⟨j,hj,hkj,hsj,hkp⟩:=hrel
  have hm:=hsj.small
  have c1:=hsj.c1
  have f1:=hsj.f1
  cases hd:rs.drop j with
  | nil=>
    have hp:zEH (rs.drop j)= -1:=by rw [hd];rfl
    have hend:Hid (rs.drop j=zva (rs.drop k)):=by rw [←hj,hd];rfl
    have HP:Hid (zEH (rs.drop j)= -1):=hp
    clear hp hj hd
    go_wp2_with fail
    refine (zPf b rb cap j rs _ hsj).mono ?_
    rintro e w1 ⟨rfl,n1,rfl⟩
    rw [HP.out]
    go_wp2
    go_end0
    exact ⟨rfl,j,hend.out,hkj,hsj.drewN n1,hkp.drewN n1⟩
  | cons c t=>
    have hlt:=z7P hd
    have HP:Hid (zEH (rs.drop j)=(c:Int)):=by rw [hd];exact rfl
    have HJ:Hid (zva (rs.drop j)=zva (rs.drop k)):=hj
    have HD:Hid (rs.drop j=c::t):=hd
    clear hj hd
    by_cases h1:48≤c∧c≤57
    · obtain ⟨ha,hb⟩:=h1
      have ha':(48:Int)≤(c:Int):=by omega
      have hb':(c:Int)≤57:=by omega
      go_wp2_with fail
      refine (zPf b rb cap j rs _ hsj).mono ?_
      rintro e w1 ⟨rfl,n1,rfl⟩
      rw [HP.out]
      go_wp2_with fail
      refine (zPf b rb cap j rs _ (hsj.drewN n1)).mono ?_
      rintro e w1 ⟨rfl,n2,rfl⟩
      rw [HP.out]
      go_wp2
      go_roundw
      case rel=>
       refine ⟨j+1,?_,by omega,(hsj.drewN _).to (j+1) (by omega),(hkp.drewN _).setCell (p:=⟨b,1,none⟩) (Or.inl (by simp)) _⟩
       rw [zOW HD.out,←HJ.out,HD.out,zva,if_pos (by simp [digB];omega)]
      case measure=>
       have e1:=((hsj.drewN (n1+n2)).to (j+1) (by omega)).place
       rw [hsj.place]
       have e2:((j+1:Nat):Int)=(j:Int)+1:=by omega
       rw [e2] at e1
       rw [show z3F _ b=j+1 from e1]
       omega
    · have hend:Hid (rs.drop j=zva (rs.drop k)):=by
       rw [←HJ.out,HD.out,zva,if_neg (by simp [digB];omega)]
       exact rfl
      by_cases h2:48≤c
      · have ha':(48:Int)≤(c:Int):=by omega
        have hb':¬ (c:Int)≤57:=by omega
        clear h1
        go_wp2_with fail
        refine (zPf b rb cap j rs _ hsj).mono ?_
        rintro e w1 ⟨rfl,n1,rfl⟩
        rw [HP.out]
        go_wp2_with fail
        refine (zPf b rb cap j rs _ (hsj.drewN n1)).mono ?_
        rintro e w1 ⟨rfl,n2,rfl⟩
        rw [HP.out]
        go_wp2
        go_end0
        exact ⟨rfl,j,hend.out,hkj,hsj.drewN _,hkp.drewN _⟩
      · have ha':¬ (48:Int)≤(c:Int):=by omega
        clear h1
        go_wp2_with fail
        refine (zPf b rb cap j rs _ hsj).mono ?_
        rintro e w1 ⟨rfl,n1,rfl⟩
        rw [HP.out]
        go_wp2
        go_end0
        exact ⟨rfl,j,hend.out,hkj,hsj.drewN n1,hkp.drewN n1⟩
end Go.Proofs.YtbbkihekjdffpaaGreatDoor
