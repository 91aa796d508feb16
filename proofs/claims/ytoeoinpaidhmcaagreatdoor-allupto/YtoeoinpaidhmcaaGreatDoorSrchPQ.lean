/- Several texts in one. -/
import Derived.Test.YtoeoinpaidhmcaaGreatDoorSrchFF
import Derived.Shelf.SlSortCmp.KitK
set_option maxHeartbeats 2000000
set_option maxRecDepth 100000
namespace Go.Proofs.YtoeoinpaidhmcaaGreatDoor.srch
open Go.RowKit
open Go.Sort (swp size_swp insInner insOuter)
section
variable {α:Type} [Inhabited α] (lt:α→α→Bool)
def swLoop (a b:Nat):Nat→Nat→Array α→Array α
 |0,_,d=>d
 |n+1,i,d=>swLoop a b n (i+1) (swp d (a+i) (b+i))
theorem zWt (a b:Nat)(n:Nat):∀(i:Nat) (d:Array α),(swLoop a b n i d).size=d.size:=by
 induction n with
 |zero=>intro i d;rfl
 |succ n ih=>intro i d;show(swLoop a b n (i+1) (swp d (a+i) (b+i))).size=_;rw[ih,size_swp]
def zaR (d:Array α)(a b n:Nat):Array α:=swLoop a b n 0 d
theorem z1k (d:Array α)(a b n:Nat):(zaR d a b n).size=d.size:=zWt a b n 0 d
def rotLoop (m:Nat):Nat→Nat→Nat→Array α→Array α
 |0,_,_,d=>d
 |f+1,i,j,d=>if i=j then zaR d (m-i) m i else if j<i then rotLoop m f (i-j) j (zaR d (m-i) m j)else rotLoop m f i (j-i) (zaR d (m-i) (m+j-i) i)
theorem z5v (m:Nat)(f:Nat):∀(i j:Nat) (d:Array α),(rotLoop m f i j d).size=d.size:=by
 induction f with
 |zero=>intro i j d;rfl
 |succ f ih=>
   intro i j d;unfold rotLoop;split
   ·exact z1k _ _ _ _
   ·split
    ·rw[ih,z1k]
    ·rw[ih,z1k]
def rot (d:Array α)(a m b:Nat):Array α:=rotLoop m (b-a) (m-a) (b-m) d
theorem zdT (d:Array α)(a m b:Nat):(rot d a m b).size=d.size:=z5v m _ _ _ d
def half (p:Nat→Bool):Nat→Nat→Nat→Nat
 |0,i,_=>i
 |f+1,i,j=>if i<j then(if p ((i+j)/2)then half p f ((i+j)/2+1) j else half p f i ((i+j)/2))else i
theorem zw6 (p:Nat→Bool)(f:Nat):∀i j,i≤j→i≤half p f i j∧half p f i j≤j:=by
 induction f with
 |zero=>intro i j h;exact⟨Nat.le_refl _,h⟩
 |succ f ih=>
   intro i j h;unfold half;split
   ·split
    ·have:=ih ((i+j)/2+1) j (by omega);omega
    ·have:=ih i ((i+j)/2) (by omega);omega
   ·omega
def upTo (e:Nat):Nat→Nat→Array α→Array α
 |0,_,d=>d
 |f+1,k,d=>if k<e then upTo e f (k+1) (swp d k (k+1))else d
theorem z1R (e f:Nat):∀(k:Nat) (d:Array α),(upTo e f k d).size=d.size:=by
 induction f with
 |zero=>intro k d;rfl
 | succ f ih=>intro k d;unfold upTo;split;· rw [ih,size_swp]
              ·rfl
def downTo (e:Nat):Nat→Nat→Array α→Array α
 |0,_,d=>d
 |f+1,k,d=>if e<k then downTo e f (k-1) (swp d k (k-1))else d
theorem zj4 (e f:Nat):∀(k:Nat) (d:Array α),(downTo e f k d).size=d.size:=by
 induction f with
 |zero=>intro k d;rfl
 | succ f ih=>intro k d;unfold downTo;split;· rw [ih,size_swp]
              ·rfl
def zzQ (d:Array α)(a m b:Nat):Nat:=
 let mid:=(a+b)/2
 let n:=mid+m
 half (fun c=>!lt d[n-1-c]! d[c]!) (b-a+1) (if mid<m then n-b else a) (if mid<m then mid else m)
def symM:Nat→Nat→Nat→Nat→Array α→Array α
 |0,_,_,_,d=>d
 |f+1,a,m,b,d=>
   if m-a=1 then upTo (half (fun h=>lt d[h]! d[a]!) (b-m+1) m b-1) (b-a) a d
   else if b-m=1 then downTo (half (fun h=>!lt d[m]! d[h]!) (m-a+1) a m) (m-a) m d
   else
    let mid:=(a+b)/2
    let start:=zzQ lt d a m b
    let e:=mid+m-start
    let d1:=if start<m∧m<e then rot d start m e else d
    let d2:=if a<start∧start<mid then symM f a start mid d1 else d1
    if mid<e∧e<b then symM f mid e b d2 else d2
theorem zJ2 (f:Nat):∀(a m b:Nat) (d:Array α),(symM lt f a m b d).size=d.size:=by
 induction f with
 |zero=>intro a m b d;rfl
 |succ f ih=>
   intro a m b d;unfold symM;dsimp only;split
   ·exact z1R _ _ _ _
   ·split
    ·exact zj4 _ _ _ _
    ·have e:(if zzQ lt d a m b<m∧m<(a+b)/2+m-zzQ lt d a m b then rot d (zzQ lt d a m b) m ((a+b)/2+m-zzQ lt d a m b)else d).size=d.size:=by
      split
      ·exact zdT _ _ _ _
      ·rfl
     split<;>split<;>simp only [ih,e]
def zSe:Nat→Nat→Nat→Array α→Nat×Array α
 |0,a,_,d=>(a,d)
 |f+1,a,n,d=>if a+20≤n then zSe f (a+20) n (Sort.insertionSort lt d a (a+20))else(a,d)
def zHU (bs:Nat):Nat→Nat→Nat→Array α→Nat×Array α
 |0,a,_,d=>(a,d)
 |f+1,a,n,d=>if a+2*bs≤n then zHU bs f (a+2*bs) n (symM lt (2*bs+1) a (a+bs) (a+2*bs) d)else(a,d)
def z8r (bs n:Nat)(d:Array α):Array α:=
 let r:=zHU lt bs (n+1) 0 n d
 if r.1+bs<n then symM lt (2*bs+1) r.1 (r.1+bs) n r.2 else r.2
def z2U:Nat→Nat→Nat→Array α→Array α
 |0,_,_,d=>d
 |f+1,bs,n,d=>if bs<n then z2U f (bs*2) n (z8r lt bs n d)else d
def zjN (d:Array α):Array α:=
 let r:=zSe lt (d.size+1) 0 d.size d
 z2U lt (d.size+1) 20 d.size (Sort.insertionSort lt r.2 r.1 d.size)
theorem zFW (a:Nat)(j:Nat):∀(d:Array α),(insInner lt a j d).size=d.size:=by
 induction j with
 |zero=>intro d;rfl
 |succ j ih=>
   intro d;unfold insInner;split
   ·rw[ih,size_swp]
   ·rfl
theorem zct (a b:Nat)(f:Nat):∀(i:Nat) (d:Array α),b-i≤f→(insOuter lt a b i d).size=d.size:=by
 induction f with
 |zero=>
   intro i d h;unfold insOuter;rw[if_neg (by omega)]
 |succ f ih=>
   intro i d h;unfold insOuter;split
   ·rw[ih _ _ (by omega),zFW]
   ·rfl
theorem zpf (d:Array α)(a b:Nat):(Sort.insertionSort lt d a b).size=d.size:=zct lt a b _ _ d zH
/-! what holds of all elements, holds of all behind an exchange -/
def AllP (p:α→Prop)(d:Array α):Prop:=∀i:Nat,p d[i]!
theorem AllP.swp {p:α→Prop}{d:Array α}(h:AllP p d)(i j:Nat):AllP p (swp d i j):=by
 intro k;unfold Go.Sort.swp;by_cases h1:k=j
 ·subst h1;by_cases hk:k<d.size
  ·rw[getElem!_pos _ _ (by simpa using hk)];simp;exact h i
  ·rw[getElem!_neg _ _ (by simpa using hk)];have:=h k;rwa [getElem!_neg d k hk]at this
 ·by_cases hk:k<d.size
  ·rw[getElem!_pos _ _ (by simpa using hk),Array.getElem_setIfInBounds_ne (by simpa using hk) (fun e=>h1 e.symm)];by_cases h2:k=i
   ·subst h2;simp;exact h j
   ·rw[Array.getElem_setIfInBounds_ne hk (fun e=>h2 e.symm)];have:=h k;rwa [getElem!_pos d k hk]at this
  ·rw[getElem!_neg _ _ (by simpa using hk)];have:=h k;rwa [getElem!_neg d k hk]at this
theorem AllP.swLoop {p:α→Prop}(a b:Nat)(n:Nat):∀(i:Nat) {d:Array α},AllP p d→AllP p (swLoop a b n i d):=by
 induction n with
 |zero=>intro i d h;exact h
 |succ n ih=>intro i d h;exact ih (i+1) (h.swp _ _)
theorem AllP.rotLoop {p:α→Prop}(m:Nat)(f:Nat):∀(i j:Nat) {d:Array α},AllP p d→AllP p (rotLoop m f i j d):=by
 induction f with
 |zero=>intro i j d h;exact h
 |succ f ih=>
   intro i j d h;unfold srch.rotLoop;split
   ·exact h.swLoop _ _ _ 0
   ·split
    ·exact ih _ _ (h.swLoop _ _ _ 0)
    ·exact ih _ _ (h.swLoop _ _ _ 0)
theorem AllP.upTo {p:α→Prop}(e f:Nat):∀(k:Nat) {d:Array α},AllP p d→AllP p (upTo e f k d):=by
 induction f with
 |zero=>intro k d h;exact h
 |succ f ih=>
   intro k d h;unfold srch.upTo;split
   ·exact ih _ (h.swp _ _)
   ·exact h
theorem AllP.downTo {p:α→Prop}(e f:Nat):∀(k:Nat) {d:Array α},AllP p d→AllP p (downTo e f k d):=by
 induction f with
 |zero=>intro k d h;exact h
 |succ f ih=>
   intro k d h;unfold srch.downTo;split
   ·exact ih _ (h.swp _ _)
   ·exact h
theorem AllP.symM {p:α→Prop}(f:Nat):∀(a m b:Nat) {d:Array α},AllP p d→AllP p (symM lt f a m b d):=by
 induction f with
 |zero=>intro a m b d h;exact h
 |succ f ih=>
   intro a m b d h;unfold srch.symM;dsimp only;split
   ·exact h.upTo _ _ _
   ·split
    ·exact h.downTo _ _ _
    ·have e:AllP p (if zzQ lt d a m b<m∧m<(a+b)/2+m-zzQ lt d a m b then rot d (zzQ lt d a m b) m ((a+b)/2+m-zzQ lt d a m b)else d):=by
      split
      ·exact h.rotLoop _ _ _ _
      ·exact h
     split<;>split
     ·exact ih _ _ _ (ih _ _ _ e)
     ·exact ih _ _ _ e
     ·exact ih _ _ _ e
     ·exact e
theorem AllP.insInner {p:α→Prop}(a:Nat)(j:Nat):∀ {d:Array α},AllP p d→AllP p (insInner lt a j d):=by
 induction j with
 |zero=>intro d h;exact h
 |succ j ih=>
   intro d h;unfold Go.Sort.insInner;split
   ·exact ih (h.swp _ _)
   ·exact h
theorem AllP.insOuter {p:α→Prop}(a b:Nat)(f:Nat):∀(i:Nat) {d:Array α},b-i≤f→AllP p d→AllP p (insOuter lt a b i d):=by
 induction f with
 |zero=>
   intro i d h e;unfold Go.Sort.insOuter;rw[if_neg (by omega)];exact e
 |succ f ih=>
   intro i d h e;unfold Go.Sort.insOuter;split
   ·exact ih _ (by omega) (e.insInner lt _ _)
   ·exact e
theorem AllP.insS {p:α→Prop}{d:Array α}(h:AllP p d)(a b:Nat):AllP p (Sort.insertionSort lt d a b):=h.insOuter lt a b _ _ zH
theorem zk4 {p:α→Prop}(n f:Nat):∀(a:Nat) {d:Array α},AllP p d→AllP p (zSe lt f a n d).2∧(zSe lt f a n d).2.size=d.size:=by
 induction f with
 |zero=>intro a d h;exact⟨h,rfl⟩
 |succ f ih=>
   intro a d h;unfold zSe;split
   ·have:=ih (a+20) (h.insS lt a (a+20));exact⟨this.1,by rw[this.2,zpf]⟩
   ·exact⟨h,rfl⟩
theorem zwB {p:α→Prop}(b n f:Nat):∀(a:Nat) {d:Array α},AllP p d→AllP p (zHU lt b f a n d).2∧(zHU lt b f a n d).2.size=d.size:=by
 induction f with
 |zero=>intro a d h;exact⟨h,rfl⟩
 |succ f ih=>
   intro a d h;unfold zHU;split
   ·have:=ih (a+2*b) (h.symM lt (2*b+1) a (a+b) (a+2*b));exact⟨this.1,by rw[this.2,zJ2]⟩
   ·exact⟨h,rfl⟩
theorem z1K {p:α→Prop}(b n:Nat){d:Array α}(h:AllP p d):AllP p (z8r lt b n d)∧(z8r lt b n d).size=d.size:=by
 have a:=zwB lt b n (n+1) 0 h;unfold z8r;dsimp only;split
 ·exact⟨a.1.symM lt _ _ _ _,by rw[zJ2,a.2]⟩
 ·exact a
theorem z6U {p:α→Prop}(n f:Nat):∀(a:Nat) {d:Array α},AllP p d→AllP p (z2U lt f a n d)∧(z2U lt f a n d).size=d.size:=by
 induction f with
 |zero=>intro a d h;exact⟨h,rfl⟩
 |succ f ih=>
   intro a d h;unfold z2U;split
   ·have b:=z1K lt a n h;have e:=ih (a*2) b.1;exact⟨e.1,by rw[e.2,b.2]⟩
   ·exact⟨h,rfl⟩
theorem zUI {p:α→Prop}{d:Array α}(h:AllP p d):AllP p (zjN lt d)∧(zjN lt d).size=d.size:=by
 have a:=zk4 lt d.size (d.size+1) 0 h;have b:=z6U lt d.size (d.size+1) 20 (a.1.insS lt (zSe lt (d.size+1) 0 d.size d).1 d.size);unfold zjN;dsimp only;exact⟨b.1,by rw[b.2,zpf,a.2]⟩
end
open Tryz
open Go.Sort (swp size_swp grow grow_grow grow_empty alloc_eq_grow size_grow)
def Grown (w w':World):Prop:=∃q os,w'=grow (w.drewN q) os
theorem Grown.refl (w:World):Grown w w:=⟨0,#[],by rw[grow_empty];rfl⟩
theorem Grown.trans {w a d:World}(h:Grown w a)(k:Grown a d):Grown w d:=by
 obtain⟨q,g,rfl⟩:=h;obtain⟨e,b,rfl⟩:=k;exact⟨q+e,g++b,by rw[←grow_grow,←World.drewN_drewN];rfl⟩
theorem Grown.alloc {w a:World}(h:Grown w a)(o:Obj):Grown w (a.alloc o):=h.trans ⟨0,#[o],by rw[alloc_eq_grow];rfl⟩
theorem Grown.drew {w a:World}(h:Grown w a):Grown w a.drew:=h.trans ⟨1,#[],by rw[grow_empty];rfl⟩
theorem Grown.below {w a:World}(h:Grown w a):Below w.heap.size w a:=by
 obtain⟨q,b,rfl⟩:=h;exact⟨rfl,rfl,rfl,by rw[size_grow];exact Nat.le_add_right _ _,fun k hk=>by show(w.heap++b)[k]?=_;exact Array.getElem?_append_left hk⟩
theorem zYU (o:OpV)(w:World):
 Calls prog 127 #[opAg o] w fun e w'=>e=.returned (.bool (o.ret==0))∧Grown w w':=by
 unfold opAg;go_enter func127,ntmps127;go_wp2;go_ret;exact⟨rfl,(Grown.refl _).alloc _⟩
theorem zEJ (o:OpV)(w:World):
 Calls prog 161 #[opAg o] w fun e w'=>e=.returned (.int .i64 (zSA o))∧Grown w w':=by
 have n:=fun W=>zYU o W;unfold opAg at*;obtain⟨R,hR,g,d⟩:∃R,zSA o=R∧((o.ret==0)=true→R=129)∧((o.ret==0)=false→R=o.ret):=⟨_,rfl,fun h=>if_pos (by simpa using h),fun h=>if_neg (by simpa using h)⟩;rw[hR];clear hR;have j:Hid ((o.ret==0)=true→R=129):=g;have i:Hid ((o.ret==0)=false→R=o.ret):=d;clear g d;go_enter func161,ntmps161;go_wp2_with fail;refine(n _).mono ?_;rintro e m ⟨rfl,a⟩;have b:=a.below;have l:Grown w m:=((Grown.refl _).alloc _).trans a;have q:m.cell? ⟨w.heap.size,7,none⟩=some (.int .i64 o.ret):=(b.cell (p:=⟨w.heap.size,7,none⟩) (by simp)).trans (by simp);clear n b a;cases h:(o.ret==0)with
 |true=>
   have k:=j.out h;clear h j i;go_wp2;go_ret;exact⟨by rw[k];rfl,l⟩
 |false=>
   have k:=i.out h;clear h j i;go_wp2;go_ret;exact⟨by rw[k];rfl,l⟩
theorem zOb (a b:OpV)(w:World):
 Calls prog 160 #[opAg a,opAg b] w fun e w'=>e=.returned (.int .i64 (cmpI (zSA a) (zSA b)))∧Grown w w':=by
 have O:=fun W=>zEJ a W;have hB:=fun W=>zEJ b W;have F:=fun W=>zMb (zSA a) (zSA b) W;generalize zSA a=x at*;generalize zSA b=y at*;generalize cmpI x y=R at*;unfold opAg at*;obtain⟨g,ab,r,n,m,l⟩:∃g,(w.alloc (.cells #[.int .i64 a.id,.int .i64 a.cl,.string ⟨a.name.toArray⟩,.string ⟨a.key.toArray⟩,.int .i64 a.arg,.int .i64 a.exp,.int .i64 a.call,.int .i64 a.ret,.int .i64 a.vk,.int .i64 a.vn] 27)).alloc (.cells #[.int .i64 b.id,.int .i64 b.cl,.string ⟨b.name.toArray⟩,.string ⟨b.key.toArray⟩,.int .i64 b.arg,.int .i64 b.exp,.int .i64 b.call,.int .i64 b.ret,.int .i64 b.vk,.int .i64 b.vn] 27)=g∧Grown w g∧Below w.heap.size w g∧g.heap[w.heap.size]?=some (.cells #[.int .i64 a.id,.int .i64 a.cl,.string ⟨a.name.toArray⟩,.string ⟨a.key.toArray⟩,.int .i64 a.arg,.int .i64 a.exp,.int .i64 a.call,.int .i64 a.ret,.int .i64 a.vk,.int .i64 a.vn] 27 (0,0))∧g.heap[w.heap.size+1]?=some (.cells #[.int .i64 b.id,.int .i64 b.cl,.string ⟨b.name.toArray⟩,.string ⟨b.key.toArray⟩,.int .i64 b.arg,.int .i64 b.exp,.int .i64 b.call,.int .i64 b.ret,.int .i64 b.vk,.int .i64 b.vn] 27 (0,0)):=by
  refine⟨_,rfl,((Grown.refl _).alloc _).alloc _,(zA _ _).alloc (by simp) _,?_,ziF _ _ _ (by simp)⟩;rw[zD1 _ _ _ (by simp)];exact ziF _ _ _ (by simp)
 have M:g.cell? ⟨w.heap.size,0,none⟩=some (.int .i64 a.id):=zBk m 0;have N:g.cell? ⟨w.heap.size,1,none⟩=some (.int .i64 a.cl):=zBk m 1;have G:g.cell? ⟨w.heap.size,2,none⟩=some (.string ⟨a.name.toArray⟩):=zBk m 2;have V:g.cell? ⟨w.heap.size,3,none⟩=some (.string ⟨a.key.toArray⟩):=zBk m 3;have a4:g.cell? ⟨w.heap.size,4,none⟩=some (.int .i64 a.arg):=zBk m 4;have P:g.cell? ⟨w.heap.size,5,none⟩=some (.int .i64 a.exp):=zBk m 5;have S:g.cell? ⟨w.heap.size,6,none⟩=some (.int .i64 a.call):=zBk m 6;have a7:g.cell? ⟨w.heap.size,7,none⟩=some (.int .i64 a.ret):=zBk m 7;have a8:g.cell? ⟨w.heap.size,8,none⟩=some (.int .i64 a.vk):=zBk m 8;have Y:g.cell? ⟨w.heap.size,9,none⟩=some (.int .i64 a.vn):=zBk m 9;have L:g.cell? ⟨w.heap.size+1,0,none⟩=some (.int .i64 b.id):=zBk l 0;have b1:g.cell? ⟨w.heap.size+1,1,none⟩=some (.int .i64 b.cl):=zBk l 1;have Z:g.cell? ⟨w.heap.size+1,2,none⟩=some (.string ⟨b.name.toArray⟩):=zBk l 2;have b3:g.cell? ⟨w.heap.size+1,3,none⟩=some (.string ⟨b.key.toArray⟩):=zBk l 3;have Q:g.cell? ⟨w.heap.size+1,4,none⟩=some (.int .i64 b.arg):=zBk l 4;have U:g.cell? ⟨w.heap.size+1,5,none⟩=some (.int .i64 b.exp):=zBk l 5;have J:g.cell? ⟨w.heap.size+1,6,none⟩=some (.int .i64 b.call):=zBk l 6;have X:g.cell? ⟨w.heap.size+1,7,none⟩=some (.int .i64 b.ret):=zBk l 7;have I:g.cell? ⟨w.heap.size+1,8,none⟩=some (.int .i64 b.vk):=zBk l 8;have H:g.cell? ⟨w.heap.size+1,9,none⟩=some (.int .i64 b.vn):=zBk l 9;have k:=zBq l;have j:=zBq m;have C:=n.size;have B:=Hid.mk' (show Below g.heap.size g g.drew from(zD).drew);have E:=Hid.mk' n;have z:Hid (Grown w g.drew):=r.drew;clear r;clear n m l;go_enter func160,ntmps160;go_wp2_with fail;go_region_held3 (fun w'=>w'.cell? ⟨w.heap.size,0,none⟩=some (.int .i64 a.id)∧w'.cell? ⟨w.heap.size,1,none⟩=some (.int .i64 a.cl)∧w'.cell? ⟨w.heap.size,2,none⟩=some (.string ⟨a.name.toArray⟩)∧w'.cell? ⟨w.heap.size,3,none⟩=some (.string ⟨a.key.toArray⟩)∧w'.cell? ⟨w.heap.size,4,none⟩=some (.int .i64 a.arg)∧w'.cell? ⟨w.heap.size,5,none⟩=some (.int .i64 a.exp)∧w'.cell? ⟨w.heap.size,6,none⟩=some (.int .i64 a.call)∧w'.cell? ⟨w.heap.size,7,none⟩=some (.int .i64 a.ret)∧w'.cell? ⟨w.heap.size,8,none⟩=some (.int .i64 a.vk)∧w'.cell? ⟨w.heap.size,9,none⟩=some (.int .i64 a.vn)∧w'.cell? ⟨w.heap.size+1,0,none⟩=some (.int .i64 b.id)∧w'.cell? ⟨w.heap.size+1,1,none⟩=some (.int .i64 b.cl)∧w'.cell? ⟨w.heap.size+1,2,none⟩=some (.string ⟨b.name.toArray⟩)∧w'.cell? ⟨w.heap.size+1,3,none⟩=some (.string ⟨b.key.toArray⟩)∧w'.cell? ⟨w.heap.size+1,4,none⟩=some (.int .i64 b.arg)∧w'.cell? ⟨w.heap.size+1,5,none⟩=some (.int .i64 b.exp)∧w'.cell? ⟨w.heap.size+1,6,none⟩=some (.int .i64 b.call)∧w'.cell? ⟨w.heap.size+1,7,none⟩=some (.int .i64 b.ret)∧w'.cell? ⟨w.heap.size+1,8,none⟩=some (.int .i64 b.vk)∧w'.cell? ⟨w.heap.size+1,9,none⟩=some (.int .i64 b.vn)) (first|(with_reducible exact A)|(with_reducible exact h)|go_keep) (first
  |(go_at_call 161;refine(O _).mono ?_;rintro e v ⟨rfl,q⟩;have t:=q.below;have D:=Hid.mk' (z.out.trans q);have d:Below g.heap.size g v:=B.out.trans t;have o:=Hid.mk' (E.out.trans (d.mono C));have h:(fun w'=>w'.cell? ⟨w.heap.size,0,none⟩=some (.int .i64 a.id)∧w'.cell? ⟨w.heap.size,1,none⟩=some (.int .i64 a.cl)∧w'.cell? ⟨w.heap.size,2,none⟩=some (.string ⟨a.name.toArray⟩)∧w'.cell? ⟨w.heap.size,3,none⟩=some (.string ⟨a.key.toArray⟩)∧w'.cell? ⟨w.heap.size,4,none⟩=some (.int .i64 a.arg)∧w'.cell? ⟨w.heap.size,5,none⟩=some (.int .i64 a.exp)∧w'.cell? ⟨w.heap.size,6,none⟩=some (.int .i64 a.call)∧w'.cell? ⟨w.heap.size,7,none⟩=some (.int .i64 a.ret)∧w'.cell? ⟨w.heap.size,8,none⟩=some (.int .i64 a.vk)∧w'.cell? ⟨w.heap.size,9,none⟩=some (.int .i64 a.vn)∧w'.cell? ⟨w.heap.size+1,0,none⟩=some (.int .i64 b.id)∧w'.cell? ⟨w.heap.size+1,1,none⟩=some (.int .i64 b.cl)∧w'.cell? ⟨w.heap.size+1,2,none⟩=some (.string ⟨b.name.toArray⟩)∧w'.cell? ⟨w.heap.size+1,3,none⟩=some (.string ⟨b.key.toArray⟩)∧w'.cell? ⟨w.heap.size+1,4,none⟩=some (.int .i64 b.arg)∧w'.cell? ⟨w.heap.size+1,5,none⟩=some (.int .i64 b.exp)∧w'.cell? ⟨w.heap.size+1,6,none⟩=some (.int .i64 b.call)∧w'.cell? ⟨w.heap.size+1,7,none⟩=some (.int .i64 b.ret)∧w'.cell? ⟨w.heap.size+1,8,none⟩=some (.int .i64 b.vk)∧w'.cell? ⟨w.heap.size+1,9,none⟩=some (.int .i64 b.vn)) v:=⟨(d.cell (p:=⟨w.heap.size,0,none⟩) j).trans M,(d.cell (p:=⟨w.heap.size,1,none⟩) j).trans N,(d.cell (p:=⟨w.heap.size,2,none⟩) j).trans G,(d.cell (p:=⟨w.heap.size,3,none⟩) j).trans V,(d.cell (p:=⟨w.heap.size,4,none⟩) j).trans a4,(d.cell (p:=⟨w.heap.size,5,none⟩) j).trans P,(d.cell (p:=⟨w.heap.size,6,none⟩) j).trans S,(d.cell (p:=⟨w.heap.size,7,none⟩) j).trans a7,(d.cell (p:=⟨w.heap.size,8,none⟩) j).trans a8,(d.cell (p:=⟨w.heap.size,9,none⟩) j).trans Y,(d.cell (p:=⟨w.heap.size+1,0,none⟩) k).trans L,(d.cell (p:=⟨w.heap.size+1,1,none⟩) k).trans b1,(d.cell (p:=⟨w.heap.size+1,2,none⟩) k).trans Z,(d.cell (p:=⟨w.heap.size+1,3,none⟩) k).trans b3,(d.cell (p:=⟨w.heap.size+1,4,none⟩) k).trans Q,(d.cell (p:=⟨w.heap.size+1,5,none⟩) k).trans U,(d.cell (p:=⟨w.heap.size+1,6,none⟩) k).trans J,(d.cell (p:=⟨w.heap.size+1,7,none⟩) k).trans X,(d.cell (p:=⟨w.heap.size+1,8,none⟩) k).trans I,(d.cell (p:=⟨w.heap.size+1,9,none⟩) k).trans H⟩)
  |(go_at_call 161;refine(hB _).mono ?_;rintro e K ⟨rfl,s⟩;have i:=s.below;have u:=Hid.mk' (D.out.trans s);have aa:=Hid.mk' (o.out.trans (i.mono o.out.size));have A:=(show(fun w'=>w'.cell? ⟨w.heap.size,0,none⟩=some (.int .i64 a.id)∧w'.cell? ⟨w.heap.size,1,none⟩=some (.int .i64 a.cl)∧w'.cell? ⟨w.heap.size,2,none⟩=some (.string ⟨a.name.toArray⟩)∧w'.cell? ⟨w.heap.size,3,none⟩=some (.string ⟨a.key.toArray⟩)∧w'.cell? ⟨w.heap.size,4,none⟩=some (.int .i64 a.arg)∧w'.cell? ⟨w.heap.size,5,none⟩=some (.int .i64 a.exp)∧w'.cell? ⟨w.heap.size,6,none⟩=some (.int .i64 a.call)∧w'.cell? ⟨w.heap.size,7,none⟩=some (.int .i64 a.ret)∧w'.cell? ⟨w.heap.size,8,none⟩=some (.int .i64 a.vk)∧w'.cell? ⟨w.heap.size,9,none⟩=some (.int .i64 a.vn)∧w'.cell? ⟨w.heap.size+1,0,none⟩=some (.int .i64 b.id)∧w'.cell? ⟨w.heap.size+1,1,none⟩=some (.int .i64 b.cl)∧w'.cell? ⟨w.heap.size+1,2,none⟩=some (.string ⟨b.name.toArray⟩)∧w'.cell? ⟨w.heap.size+1,3,none⟩=some (.string ⟨b.key.toArray⟩)∧w'.cell? ⟨w.heap.size+1,4,none⟩=some (.int .i64 b.arg)∧w'.cell? ⟨w.heap.size+1,5,none⟩=some (.int .i64 b.exp)∧w'.cell? ⟨w.heap.size+1,6,none⟩=some (.int .i64 b.call)∧w'.cell? ⟨w.heap.size+1,7,none⟩=some (.int .i64 b.ret)∧w'.cell? ⟨w.heap.size+1,8,none⟩=some (.int .i64 b.vk)∧w'.cell? ⟨w.heap.size+1,9,none⟩=some (.int .i64 b.vn)) K from⟨(i.cell (p:=⟨w.heap.size,0,none⟩) (zI j d.size)).trans h.1,(i.cell (p:=⟨w.heap.size,1,none⟩) (zI j d.size)).trans h.2.1,(i.cell (p:=⟨w.heap.size,2,none⟩) (zI j d.size)).trans h.2.2.1,(i.cell (p:=⟨w.heap.size,3,none⟩) (zI j d.size)).trans h.2.2.2.1,(i.cell (p:=⟨w.heap.size,4,none⟩) (zI j d.size)).trans h.2.2.2.2.1,(i.cell (p:=⟨w.heap.size,5,none⟩) (zI j d.size)).trans h.2.2.2.2.2.1,(i.cell (p:=⟨w.heap.size,6,none⟩) (zI j d.size)).trans h.2.2.2.2.2.2.1,(i.cell (p:=⟨w.heap.size,7,none⟩) (zI j d.size)).trans h.2.2.2.2.2.2.2.1,(i.cell (p:=⟨w.heap.size,8,none⟩) (zI j d.size)).trans h.2.2.2.2.2.2.2.2.1,(i.cell (p:=⟨w.heap.size,9,none⟩) (zI j d.size)).trans h.2.2.2.2.2.2.2.2.2.1,(i.cell (p:=⟨w.heap.size+1,0,none⟩) (zI k d.size)).trans h.2.2.2.2.2.2.2.2.2.2.1,(i.cell (p:=⟨w.heap.size+1,1,none⟩) (zI k d.size)).trans h.2.2.2.2.2.2.2.2.2.2.2.1,(i.cell (p:=⟨w.heap.size+1,2,none⟩) (zI k d.size)).trans h.2.2.2.2.2.2.2.2.2.2.2.2.1,(i.cell (p:=⟨w.heap.size+1,3,none⟩) (zI k d.size)).trans h.2.2.2.2.2.2.2.2.2.2.2.2.2.1,(i.cell (p:=⟨w.heap.size+1,4,none⟩) (zI k d.size)).trans h.2.2.2.2.2.2.2.2.2.2.2.2.2.2.1,(i.cell (p:=⟨w.heap.size+1,5,none⟩) (zI k d.size)).trans h.2.2.2.2.2.2.2.2.2.2.2.2.2.2.2.1,(i.cell (p:=⟨w.heap.size+1,6,none⟩) (zI k d.size)).trans h.2.2.2.2.2.2.2.2.2.2.2.2.2.2.2.2.1,(i.cell (p:=⟨w.heap.size+1,7,none⟩) (zI k d.size)).trans h.2.2.2.2.2.2.2.2.2.2.2.2.2.2.2.2.2.1,(i.cell (p:=⟨w.heap.size+1,8,none⟩) (zI k d.size)).trans h.2.2.2.2.2.2.2.2.2.2.2.2.2.2.2.2.2.2.1,(i.cell (p:=⟨w.heap.size+1,9,none⟩) (zI k d.size)).trans h.2.2.2.2.2.2.2.2.2.2.2.2.2.2.2.2.2.2.2⟩))
  | (go_at_call 134;refine(F _).mono ?_;rintro e w4 ⟨rfl,rfl⟩))
 all_goals
  go_wp2;go_ret;exact⟨rfl,u.out⟩
theorem zYc (a b:Hap)(w:World):
 Calls prog 133 #[zOh a,zOh b] w fun e w'=>e=.returned (.int .i64 (cmpI a.1 b.1))∧Grown w w':=by
 have h:=fun W=>zMb a.1 b.1 W;obtain⟨x,p⟩:=a;obtain⟨y,q⟩:=b;unfold zOh;dsimp only at*;generalize cmpI x y=R at*;have d:∀(u v:Obj),Grown w ((w.alloc u).alloc v):=fun u v=>((Grown.refl _).alloc _).alloc _;have g:=Hid.mk' d;clear d;go_enter func133,ntmps133;go_wp2_with (go_at_call 134;refine(h _).mono ?_;rintro e i ⟨rfl,rfl⟩)
 all_goals
  go_ret;exact⟨rfl,g.out _ _⟩
structure Mch (σ:Type) where
 here:Gr×σ
 way:List (Stp σ)
 longest:List OpV
 place:Nat
 seen:List (Gr×σ)
structure Out where
 verdict:Nat
 order:List OpV
 left:Int
section
variable {σ:Type} [DecidableEq σ] (doit:σ→OpV→σ×Int×Int) (ops:List OpV)
def look (o:OpV)(m:Mch σ):Bool×Mch σ:=
 if gHas m.here.1 m.place||!zJn (ahG o.call ops 0 (0,0)) m.here.1 then(false,{ m with place:=m.place+1 })
 else
  let r:=doit m.here.2 o
  if o.ret≠0∧(r.2.1,r.2.2)≠(o.vk,o.vn)then(false,{ m with place:=m.place+1 })
  else if(zdS m.here.1 m.place,r.1)∈m.seen then(false,{ m with place:=m.place+1 })
  else(true,{ m with way:=m.way++[⟨m.here.1,m.here.2,m.place⟩],here:=(zdS m.here.1 m.place,r.1),seen:=(zdS m.here.1 m.place,r.1)::m.seen })
def srun:Nat→Int→Bool→Mch σ→Option Out
 |0,_,_,_=>none
 |f+1,b,true,m=>
   if zJn (retG ops 0 (0,0)) m.here.1 then some ⟨1,takenL ops m.way,b⟩
   else srun f b false { m with longest:=if m.longest.length<m.way.length then takenL ops m.way else m.longest,place:=0 }
 |f+1,b,false,m=>
   match ops[m.place]? with
   |some o=>if b≤0 then some ⟨0,[],0⟩else srun f (b-1) (look doit ops o m).1 (look doit ops o m).2
   |none=>
     match m.way.getLast? with
     |none=>some ⟨2,m.longest,b⟩
     |some s=>srun f b false { m with here:=(s.g,s.st),place:=s.pl+1,way:=m.way.dropLast }
theorem z9E (f:Nat):∀(k:Nat) (b:Int) (a:Bool) (m:Mch σ) (r:Out),srun doit ops f b a m=some r→srun doit ops (f+k) b a m=some r:=by
 induction f with
 |zero=>intro k b a m r h;simp[srun]at h
 |succ f ih=>
   intro k b a m r h;rw[show f+1+k=f+k+1 by omega];cases a with
   |true=>
     unfold srun at h⊢;by_cases hw:zJn (retG ops 0 (0,0)) m.here.1
     ·rw[if_pos hw]at h⊢;exact h
     ·rw[if_neg hw]at h⊢;exact ih _ _ _ _ _ h
   |false=>
     unfold srun at h⊢;cases ho:ops[m.place]? with
     |some o=>
       rw[ho]at h;dsimp only at h⊢;by_cases h0:b≤0
       ·rw[if_pos h0]at h⊢;exact h
       ·rw[if_neg h0]at h⊢;exact ih _ _ _ _ _ h
     |none=>
       rw[ho]at h;dsimp only at h⊢;cases hl:m.way.getLast? with
       |none=>
         rw[hl]at h;exact h
       |some s=>
         rw[hl]at h;dsimp only at h⊢;exact ih _ _ _ _ _ h
def Found (s0:σ)(b:Int)(r:Out):Prop:=∃f,srun doit ops f b true ⟨((0,0),s0),[],[],0,[]⟩=some r
theorem Found.one {s0:σ}{b:Int}{r g:Out}(h:Found doit ops s0 b r)(d:Found doit ops s0 b g):r=g:=by
 obtain⟨f,h⟩:=h;obtain⟨e,d⟩:=d;have i:=z9E doit ops f e _ _ _ _ h;have a:=z9E doit ops e f _ _ _ _ d;rw[Nat.add_comm]at a;rw[i]at a;injection a
end
inductive Judged (S:List OpV→Int→Out→Prop):List (List UInt8×List OpV)→Int→List (List OpV)→Nat×List UInt8×List (List OpV)→Prop
 | ok (b:Int) (acc:List (List OpV)):Judged S [] b acc (1,[],acc)
 | unknown (nm:List UInt8) (p:List OpV) (rest:List (List UInt8×List OpV)) (b:Int) (acc:List (List OpV)) (r:Out) (h:S p b r) (hv:r.verdict=0):Judged S ((nm,p)::rest) b acc (0,[],[])
 | illegal (nm:List UInt8) (p:List OpV) (rest:List (List UInt8×List OpV)) (b:Int) (acc:List (List OpV)) (r:Out) (h:S p b r) (hv:r.verdict=2):Judged S ((nm,p)::rest) b acc (2,nm,[r.order])
 | next (nm:List UInt8) (p:List OpV) (rest:List (List UInt8×List OpV)) (b:Int) (acc:List (List OpV)) (r:Out) (v:Nat×List UInt8×List (List OpV)) (h:S p b r) (hv:r.verdict=1) (hr:Judged S rest r.left (acc++[r.order]) v):Judged S ((nm,p)::rest) b acc v
theorem Judged.one {S:List OpV→Int→Out→Prop}(d:∀p b r r',S p b r→S p b r'→r=r'){l:List (List UInt8×List OpV)}{b:Int}{a:List (List OpV)}{v g:Nat×List UInt8×List (List OpV)}(h:Judged S l b a v)(e:Judged S l b a g):v=g:=by
 induction h generalizing g with
 |ok b a=>cases e;rfl
 |unknown nm p rest b a r h hv=>
   cases e with
   |unknown _ _ _ _ _ r' h2 hv2=>rfl
   |illegal _ _ _ _ _ r' h2 hv2=>have:=d _ _ _ _ h h2;subst this;omega
   |next _ _ _ _ _ r' _ h2 hv2 _=>have:=d _ _ _ _ h h2;subst this;omega
 |illegal nm p rest b a r h hv=>
   cases e with
   |unknown _ _ _ _ _ r' h2 hv2=>have:=d _ _ _ _ h h2;subst this;omega
   |illegal _ _ _ _ _ r' h2 hv2=>have:=d _ _ _ _ h h2;subst this;rfl
   |next _ _ _ _ _ r' _ h2 hv2 _=>have:=d _ _ _ _ h h2;subst this;omega
 |next nm p rest b a r v h hv hr ih=>
   cases e with
   |unknown _ _ _ _ _ r' h2 hv2=>have:=d _ _ _ _ h h2;subst this;omega
   |illegal _ _ _ _ _ r' h2 hv2=>have:=d _ _ _ _ h h2;subst this;omega
   |next _ _ _ _ _ r' _ h2 hv2 hr2=>have:=d _ _ _ _ h h2;subst this;exact ih hr2
end Go.Proofs.YtoeoinpaidhmcaaGreatDoor.srch
namespace Go.Proofs.YtoeoinpaidhmcaaGreatDoor.jd
open Go.RowKit Go.Shelf
open Go.Sort (swp size_swp swp_other swp_left swp_right insInner insOuter)
open srch (swLoop zWt zaR z1k rotLoop z5v rot half zw6 upTo z1R downTo zj4 zzQ symM zJ2)
section
variable {α:Type} [Inhabited α]
theorem zhO (d:Array α){x y:Nat}(h:x=y):d[x]! =d[y]!:=by rw[h]
theorem zcp (a b:Nat)(n:Nat):∀(i:Nat) (d:Array α),a+i+n≤b+i→b+i+n≤d.size→∀k:Nat,
 (swLoop a b n i d)[k]! =if a+i≤k∧k<a+i+n then d[k-a+b]! else if b+i≤k∧k<b+i+n then d[k-b+a]! else d[k]!:=by
 induction n with
 |zero=>
   intro i d _ _ k;rw[if_neg (by omega),if_neg (by omega)];rfl
 |succ n ih=>
   intro i d e g k;show(swLoop a b n (i+1) (swp d (a+i) (b+i)))[k]! =_;rw[ih (i+1) _ (by omega) (by rw[size_swp];omega) k];by_cases c1:a+(i+1)≤k∧k<a+(i+1)+n
   ·rw[if_pos c1,if_pos (by omega),swp_other _ _ _ _ (by omega) (by omega)]
   ·rw[if_neg c1];by_cases c2:b+(i+1)≤k∧k<b+(i+1)+n
    ·rw[if_pos c2,if_neg (by omega),if_pos (by omega),swp_other _ _ _ _ (by omega) (by omega)]
    ·rw[if_neg c2];by_cases c3:k=a+i
     ·subst c3;rw[if_pos (by omega),swp_left _ _ _ (by omega) (by omega)];exact zhO d (by omega)
     ·by_cases c4:k=b+i
      ·subst c4;rw[if_neg (by omega),if_pos (by omega),swp_right _ _ _ (by omega)];exact zhO d (by omega)
      ·rw[if_neg (by omega),if_neg (by omega),swp_other _ _ _ _ c3 c4]
theorem z2T (d:Array α)(a b n:Nat)(e:a+n≤b)(g:b+n≤d.size)(k:Nat):(zaR d a b n)[k]! =if a≤k∧k<a+n then d[k-a+b]! else if b≤k∧k<b+n then d[k-b+a]! else d[k]!:=
 zcp a b n 0 d (by omega) (by omega) k
theorem zyhB (m:Nat)(f:Nat):∀(i j:Nat) (d:Array α),0<i→0<j→i≤m→m+j≤d.size→i+j≤f→∀k:Nat,
 (rotLoop m f i j d)[k]! =if m-i≤k∧k<m-i+j then d[k+i]! else if m-i+j≤k∧k<m+j then d[k-j]! else d[k]!:=by
 induction f with
 |zero=>intro i j d b a e g h;omega
 |succ f ih=>
   intro i j d b a e g h k;unfold rotLoop;split
   ·rename_i c;subst c;rw[z2T d _ _ _ (by omega) (by omega)];by_cases c1:m-i≤k∧k<m-i+i
    ·rw[if_pos c1,if_pos c1];exact zhO d (by omega)
    ·rw[if_neg c1,if_neg c1];by_cases c2:m≤k∧k<m+i
     ·rw[if_pos c2,if_pos (by omega)];exact zhO d (by omega)
     ·rw[if_neg c2,if_neg (by omega)]
   ·split
    ·rw[ih (i-j) j _ (by omega) a (by omega) (by rw[z1k];omega) (by omega) k];have S:=z2T d (m-i) m j (by omega) (by omega);by_cases c1:m-i≤k∧k<m-i+j
     ·rw[if_neg (by omega),if_neg (by omega),if_pos c1,S,if_pos (by omega)];exact zhO d (by omega)
     ·rw[if_neg c1];by_cases c2:m-i+j≤k∧k<m-i+j+j
      ·rw[if_pos (by omega),if_pos (by omega),S,if_neg (by omega),if_pos (by omega)];exact zhO d (by omega)
      ·rw[if_neg (by omega)];by_cases c3:m-i+j+j≤k∧k<m+j
       ·rw[if_pos (by omega),if_pos (by omega),S,if_neg (by omega),if_neg (by omega)]
       ·rw[if_neg (by omega),if_neg (by omega),S,if_neg (by omega),if_neg (by omega)]
    ·rw[ih i (j-i) _ b (by omega) e (by rw[z1k];omega) (by omega) k];have S:=z2T d (m-i) (m+j-i) i (by omega) (by omega);by_cases c1:m-i≤k∧k<m-i+(j-i)
     ·rw[if_pos c1,if_pos (by omega),S,if_neg (by omega),if_neg (by omega)]
     ·rw[if_neg c1];by_cases c2:m-i+(j-i)≤k∧k<m+(j-i)
      ·rw[if_pos c2,if_pos (by omega),S,if_pos (by omega)];exact zhO d (by omega)
      ·rw[if_neg c2];by_cases c3:m-i+j≤k∧k<m+j
       ·rw[if_neg (by omega),if_pos c3,S,if_neg (by omega),if_pos (by omega)];exact zhO d (by omega)
       ·rw[if_neg (by omega),if_neg c3,S,if_neg (by omega),if_neg (by omega)]
theorem zz3 (d:Array α)(a m b:Nat)(e:a<m)(g:m<b)(h:b≤d.size)(k:Nat):
 (rot d a m b)[k]! =if a≤k∧k<a+(b-m)then d[k+(m-a)]! else if a+(b-m)≤k∧k<b then d[k-(b-m)]! else d[k]!:=by
 unfold rot;rw[zyhB m (b-a) (m-a) (b-m) d (by omega) (by omega) (by omega) (by omega) (by omega) k,show m-(m-a)=a by omega,show m+(b-m)=b by omega]
theorem z53 (p:Nat→Bool)(f:Nat):∀i j:Nat,i≤j→j-i<f→(half p f i j=i∨p (half p f i j-1)=true)∧(half p f i j=j∨p (half p f i j)=false):=by
 induction f with
 |zero=>intro i j _ h;omega
 |succ f ih=>
   intro i j d e;unfold half;split
   ·split
    ·rename_i hp;obtain⟨a,b⟩:=ih ((i+j)/2+1) j (by omega) (by omega);refine⟨.inr ?_,b⟩;rcases a with a|a
     ·rw[a];exact hp
     ·exact a
    ·rename_i hp;obtain⟨a,b⟩:=ih i ((i+j)/2) (by omega) (by omega);refine⟨a,.inr ?_⟩;rcases b with b|b
     ·rw[b];simpa using hp
     ·exact b
   ·exact⟨.inl rfl,.inl (by omega)⟩
theorem zP6 (e f:Nat):∀(k:Nat) (d:Array α),k≤e→e<d.size→e-k≤f→∀x:Nat,(upTo e f k d)[x]! =if k≤x∧x<e then d[x+1]! else if x=e then d[k]! else d[x]!:=by
 induction f with
 |zero=>
   intro k d a g b x;obtain rfl:k=e:=(by omega);rw[if_neg (by omega)];split
   ·rename_i c;subst c;rfl
   ·rfl
 |succ f ih=>
   intro k d a g b x;unfold upTo;split
   ·rename_i c;rw[ih (k+1) _ (by omega) (by rw[size_swp];omega) (by omega) x];by_cases c1:k+1≤x∧x<e
    ·rw[if_pos c1,if_pos (by omega),swp_other _ _ _ _ (by omega) (by omega)]
    ·rw[if_neg c1];by_cases c2:x=e
     ·rw[if_pos c2,if_neg (by omega),if_pos c2,swp_right _ _ _ (by omega)]
     ·rw[if_neg c2];by_cases c3:x=k
      ·subst c3;rw[if_pos (by omega),swp_left _ _ _ (by omega) (by omega)]
      ·rw[if_neg (by omega),if_neg c2,swp_other _ _ _ _ c3 (by omega)]
   ·obtain rfl:k=e:=(by omega);rw[if_neg (by omega)];split
    ·rename_i c;subst c;rfl
    ·rfl
theorem z06 (e f:Nat):∀(k:Nat) (d:Array α),e≤k→k<d.size→k-e≤f→∀x:Nat,(downTo e f k d)[x]! =if e<x∧x≤k then d[x-1]! else if x=e then d[k]! else d[x]!:=by
 induction f with
 |zero=>
   intro k d a g b x;obtain rfl:k=e:=(by omega);rw[if_neg (by omega)];split
   ·rename_i c;subst c;rfl
   ·rfl
 |succ f ih=>
   intro k d a g b x;unfold downTo;split
   ·rename_i c;rw[ih (k-1) _ (by omega) (by rw[size_swp];omega) (by omega) x];by_cases c1:e<x∧x≤k-1
    ·rw[if_pos c1,if_pos (by omega),swp_other _ _ _ _ (by omega) (by omega)]
    ·rw[if_neg c1];by_cases c2:x=e
     ·rw[if_pos c2,if_neg (by omega),if_pos c2,swp_right _ _ _ (by omega)]
     ·rw[if_neg c2];by_cases c3:x=k
      ·subst c3;rw[if_pos (by omega),swp_left _ _ _ (by omega) (by omega)]
      ·rw[if_neg (by omega),if_neg c2,swp_other _ _ _ _ c3 (by omega)]
   ·obtain rfl:k=e:=(by omega);rw[if_neg (by omega)];split
    ·rename_i c;subst c;rfl
    ·rfl
end
open srch (rot zdT half zw6 upTo z1R downTo zj4 zzQ symM zJ2 zSe zHU z8r z2U zjN zFW)
section
variable {α:Type} [Inhabited α] (lt:α→α→Bool) (R:α→α→Prop)
structure OrdR:Prop where
 tr:∀x y z,R x y→R y z→R x z
 no:∀x y,R x y→lt y x=false
 nt:∀x y z,lt z y=false→lt y x=false→lt z x=false
def SrtR (d:Array α)(a b:Nat):Prop:=∀i j:Nat,a≤i→i<j→j<b→R d[i]! d[j]!
def Cr (x y:α):Prop:=(lt y x=false→R x y)∧(lt y x=true→R y x)
def Moved (d d':Array α)(a b:Nat):Prop:=d'.size=d.size∧(∀k,¬(a≤k∧k<b)→d'[k]! =d[k]!)∧∀k,a≤k→k<b→∃k',a≤k'∧k'<b∧d'[k]! =d[k']!
variable {lt R}
theorem Moved.refl (d:Array α)(a b:Nat):Moved d d a b:=⟨rfl,fun _ _=>rfl,fun k h1 h2=>⟨k,h1,h2,rfl⟩⟩
theorem Moved.trans {d i e:Array α}{a b:Nat}(h:Moved d i a b)(g:Moved i e a b):Moved d e a b:=by
 refine⟨g.1.trans h.1,fun k hk=>(g.2.1 k hk).trans (h.2.1 k hk),fun k h1 h2=>?_⟩;obtain⟨k',m,q,l⟩:=g.2.2 k h1 h2;obtain⟨j,n,o,p⟩:=h.2.2 k' m q;exact⟨j,n,o,l.trans p⟩
theorem Moved.wide {d e:Array α}{a b a' g:Nat}(h:Moved d e a b)(j:a'≤a)(n:b≤g):Moved d e a' g:=by
 refine⟨h.1,fun k hk=>h.2.1 k (by omega),fun k h3 h4=>?_⟩;by_cases c:a≤k∧k<b
 ·obtain⟨k',l,m,i⟩:=h.2.2 k c.1 c.2;exact⟨k',by omega,by omega,i⟩
 ·exact⟨k,h3,h4,h.2.1 k c⟩
theorem SrtR.le (H:OrdR lt R){d:Array α}{a b:Nat}(h:SrtR R d a b){i j:Nat}(g:a≤i)(l:i≤j)(k:j<b)(e:∀x,lt x x=false):lt d[j]! d[i]! =false:=by
 rcases Nat.lt_or_ge i j with c|c
 ·exact H.no _ _ (h i j g c k)
 ·obtain rfl:i=j:=by omega
  exact e _
theorem zD0 (H:OrdR lt R)(A:∀x,lt x x=false)(f:Nat):∀(a m b:Nat) (d:Array α),a<m→m<b→b≤d.size→b-a≤f→SrtR R d a m→SrtR R d m b→(∀i j,a≤i→i<m→m≤j→j<b→Cr lt R d[i]! d[j]!)→
 SrtR R (symM lt f a m b d) a b∧Moved d (symM lt f a m b d) a b:=by
 induction f with
 |zero=>intro a m b d h1 h2 h3 h4;omega
 |succ f ih=>
   intro a m b d h1 h2 h3 h4 B hB I;unfold symM;split
   ·rename_i c;have hm:m=a+1:=(by omega);obtain⟨t,r⟩:=z53 (fun h=>lt d[h]! d[a]!) (b-m+1) m b (by omega) (by omega);have e3:=zw6 (fun h=>lt d[h]! d[a]!) (b-m+1) m b (by omega);generalize half (fun h=>lt d[h]! d[a]!) (b-m+1) m b=h at*;have U:=zP6 (h-1) (b-a) a d (by omega) (by omega) (by omega)
    -- what lies ahead of h is less than d[a], what lies from h on is not
    have lo:∀j,m≤j→j<h→R d[j]! d[a]!:=by
     intro j y u;refine(I a j (by omega) (by omega) y (by omega)).2 ?_;rcases t with t|t
     ·omega
     ·cases hl:lt d[j]! d[a]! with
      |true=>rfl
      |false=>
        have:=H.nt _ _ _ (hB.le H y (show j≤h-1 by omega) (by omega) A) hl;rw[this]at t;cases t
    have Y:∀j,h≤j→j<b→R d[a]! d[j]!:=by
     intro j y u;refine(I a j (by omega) (by omega) (by omega) u).1 ?_;rcases r with r|r
     ·omega
     ·exact H.nt _ _ _ (hB.le H (show m≤h by omega) y u A) r
    refine⟨fun i j hi1 hij u=>?_,z1R _ _ _ _,fun k hk=>?_,fun k hk1 hk2=>?_⟩
    ·rw[U i,U j];by_cases c1:a≤j∧j<h-1
     ·rw[if_pos c1,if_pos (by omega)];exact hB _ _ (by omega) (by omega) (by omega)
     ·rw[if_neg c1];by_cases c2:j=h-1
      ·rw[if_pos c2,if_pos (by omega)];exact lo _ (by omega) (by omega)
      ·rw[if_neg c2];by_cases c3:a≤i∧i<h-1
       ·rw[if_pos c3];exact hB _ _ (by omega) (by omega) (by omega)
       ·rw[if_neg c3];by_cases c4:i=h-1
        ·rw[if_pos c4];exact Y _ (by omega) u
        ·rw[if_neg c4];exact hB _ _ (by omega) hij u
    ·rw[U k,if_neg (by omega),if_neg (by omega)]
    ·rw[U k];by_cases c1:a≤k∧k<h-1
     ·rw[if_pos c1];exact⟨k+1,by omega,by omega,rfl⟩
     ·rw[if_neg c1];by_cases c2:k=h-1
      ·rw[if_pos c2];exact⟨a,by omega,by omega,rfl⟩
      ·rw[if_neg c2];exact⟨k,hk1,hk2,rfl⟩
   ·split
    ·rename_i c;have ai:b=m+1:=(by omega);obtain⟨t,r⟩:=z53 (fun h=>!lt d[m]! d[h]!) (m-a+1) a m (by omega) (by omega);have e3:=zw6 (fun h=>!lt d[m]! d[h]!) (m-a+1) a m (by omega);generalize half (fun h=>!lt d[m]! d[h]!) (m-a+1) a m=h at*;simp only [Bool.not_eq_true',Bool.not_eq_false']at t r;have D:=z06 h (m-a) m d (by omega) (by omega) (by omega);have lo:∀j,a≤j→j<h→R d[j]! d[m]!:=by
      intro j y u;refine(I j m y (by omega) (by omega) (by omega)).1 ?_;rcases t with t|t
      ·omega
      ·exact H.nt _ _ _ t (B.le H y (show j≤h-1 by omega) (by omega) A)
     have Y:∀j,h≤j→j<m→R d[m]! d[j]!:=by
      intro j y u;refine(I j m (by omega) u (by omega) (by omega)).2 ?_;rcases r with r|r
      ·omega
      ·cases hl:lt d[m]! d[j]! with
       |true=>rfl
       |false=>
         have:=H.nt _ _ _ hl (B.le H (show a≤h by omega) y u A);rw[this]at r;cases r
     refine⟨fun i j hi1 hij u=>?_,zj4 _ _ _ _,fun k hk=>?_,fun k hk1 hk2=>?_⟩
     ·rw[D i,D j];by_cases c1:h<i∧i≤m
      ·rw[if_pos c1,if_pos (by omega)];exact B _ _ (by omega) (by omega) (by omega)
      ·rw[if_neg c1];by_cases c2:i=h
       ·rw[if_pos c2,if_pos (by omega)];exact Y _ (by omega) (by omega)
       ·rw[if_neg c2];by_cases c3:h<j∧j≤m
        ·rw[if_pos c3];exact B _ _ (by omega) (by omega) (by omega)
        ·rw[if_neg c3];by_cases c4:j=h
         ·rw[if_pos c4];exact lo _ (by omega) (by omega)
         ·rw[if_neg c4];exact B _ _ (by omega) hij (by omega)
     ·rw[D k,if_neg (by omega),if_neg (by omega)]
     ·rw[D k];by_cases c1:h<k∧k≤m
      ·rw[if_pos c1];exact⟨k-1,by omega,by omega,rfl⟩
      ·rw[if_neg c1];by_cases c2:k=h
       ·rw[if_pos c2];exact⟨m,by omega,by omega,rfl⟩
       ·rw[if_neg c2];exact⟨k,hk1,hk2,rfl⟩
    ·rename_i c1 c2;dsimp only;have J:(if(a+b)/2<m then(a+b)/2+m-b else a)≤zzQ lt d a m b∧zzQ lt d a m b≤(if(a+b)/2<m then(a+b)/2 else m):=zw6 _ _ _ _ (by split<;>omega);have N:=z53 (fun c=>!lt d[(a+b)/2+m-1-c]! d[c]!) (b-a+1) (if(a+b)/2<m then(a+b)/2+m-b else a) (if(a+b)/2<m then(a+b)/2 else m) (by split<;>omega) (by split<;>omega);have V:zzQ lt d a m b=half (fun c=>!lt d[(a+b)/2+m-1-c]! d[c]!) (b-a+1) (if(a+b)/2<m then(a+b)/2+m-b else a) (if(a+b)/2<m then(a+b)/2 else m):=rfl;rw[←V]at N;simp only [Bool.not_eq_true',Bool.not_eq_false']at N;generalize zzQ lt d a m b=s at*;clear V;obtain⟨t,r⟩:=N;obtain⟨l,aa⟩:∃l,(a+b)/2=l:=⟨_,rfl⟩;rw[aa]at J t r⊢;have ah:a<l:=(by omega);have aq:l<b:=(by omega);have am:a≤s:=(by split at J<;>omega);have an:s≤m:=(by split at J<;>omega);have al:s≤l:=(by split at J<;>omega);obtain⟨e,he⟩:∃e,l+m-s=e:=⟨_,rfl⟩;have ak:m≤e:=(by omega);have ao:e≤b:=(by split at J<;>omega);have aj:l≤e:=(by omega);rw[he]
     -- across
     have x1:∀i j,a≤i→i<s→e≤j→j<b→R d[i]! d[j]!:=by
      intro i j n p o w;refine(I i j n (by omega) (by omega) w).1 ?_;rcases t with t|t
      ·split at t<;>omega
      ·rw[show l+m-1-(s-1)=e by omega]at t;exact H.nt _ _ _ (H.nt _ _ _ (hB.le H (show m≤e by omega) o w A) t) (B.le H n (show i≤s-1 by omega) (by omega) A)
     have x2:∀i j,s≤i→i<m→m≤j→j<e→R d[j]! d[i]!:=by
      intro i j n p o w;refine(I i j (by omega) p o (by omega)).2 ?_;rcases r with r|r
      ·split at r<;>omega
      ·rw[show l+m-1-s=e-1 by omega]at r;cases hl:lt d[j]! d[i]! with
       |true=>rfl
       |false=>
         have Z:=H.nt _ _ _ hl (B.le H (show a≤s by omega) n p A);have:=H.nt _ _ _ (hB.le H o (show j≤e-1 by omega) (by omega) A) Z;rw[this]at r;cases r
     -- the rotation
     obtain⟨q,K⟩:∃q,(if s<m∧m<e then rot d s m e else d)=q:=⟨_,rfl⟩;rw[K]
     have S:q.size=d.size:=by
      rw[←K];split
      ·exact zdT _ _ _ _
      ·rfl
     have g:∀k:Nat,q[k]! =if s≤k∧k<l then d[k+(m-s)]! else if l≤k∧k<e then d[k-(e-m)]! else d[k]!:=by
      intro k;rw[←K];split
      ·rw[zz3 d s m e (by omega) (by omega) (by omega) k,show s+(e-m)=l by omega]
      ·by_cases k1:s≤k∧k<l
       ·rw[if_pos k1];exact zhO d (by omega)
       ·rw[if_neg k1];by_cases k2:l≤k∧k<e
        ·rw[if_pos k2];exact zhO d (by omega)
        ·rw[if_neg k2]
     have M1:Moved d q a b:=by
      refine⟨S,fun k hk=>by rw[g k,if_neg (by omega),if_neg (by omega)],fun k n p=>?_⟩;rw[g k];by_cases k1:s≤k∧k<l
      ·rw[if_pos k1];exact⟨k+(m-s),by omega,by omega,rfl⟩
      ·rw[if_neg k1];by_cases k2:l≤k∧k<e
       ·rw[if_pos k2];exact⟨k-(e-m),by omega,by omega,rfl⟩
       ·rw[if_neg k2];exact⟨k,n,p,rfl⟩
     have E:∀k,a≤k→k<s→q[k]! =d[k]!:=fun k _ _=>(by rw[g k,if_neg (by omega),if_neg (by omega)]);have F:∀k,s≤k→k<l→q[k]! =d[k+(m-s)]!:=fun k _ _=>(by rw[g k,if_pos (by omega)]);have C:∀k,l≤k→k<e→q[k]! =d[k-(e-m)]!:=fun k _ _=>(by rw[g k,if_neg (by omega),if_pos (by omega)]);have G:∀k,e≤k→q[k]! =d[k]!:=fun k _=>(by rw[g k,if_neg (by omega),if_neg (by omega)]);clear g K;have s1:SrtR R q a s:=fun i j n p o=>(by rw[E i n (by omega),E j (by omega) o];exact B i j n p (by omega));have s2:SrtR R q s l:=fun i j n p o=>(by rw[F i n (by omega),F j (by omega) o];exact hB _ _ (by omega) (by omega) (by omega));have s3:SrtR R q l e:=fun i j n p o=>(by rw[C i n (by omega),C j (by omega) o];exact B _ _ (by omega) (by omega) (by omega));have s4:SrtR R q e b:=fun i j n p o=>(by rw[G i n,G j (by omega)];exact hB _ _ (by omega) p o);have q1:∀i j,a≤i→i<s→s≤j→j<l→Cr lt R q[i]! q[j]!:=fun i j n p o w=>by
      rw[E i n p,F j o w];exact I _ _ n (by omega) (by omega) (by omega)
     have q2:∀i j,l≤i→i<e→e≤j→j<b→Cr lt R q[i]! q[j]!:=fun i j n p o w=>by
      rw[C i n p,G j o];exact I _ _ (by omega) (by omega) (by omega) w
     have X:∀i j,a≤i→i<l→l≤j→j<b→R q[i]! q[j]!:=by
      intro i j n p o w;rcases Nat.lt_or_ge i s with k1|k1<;>rcases Nat.lt_or_ge j e with k2|k2
      ·rw[E i n k1,C j o k2];exact B _ _ n (by omega) (by omega)
      ·rw[E i n k1,G j k2];exact x1 i j n k1 k2 w
      ·rw[F i k1 p,C j o k2];exact x2 _ _ (by omega) (by omega) (by omega) (by omega)
      ·rw[F i k1 p,G j k2];exact hB _ _ (by omega) (by omega) w
     clear E F C G x1 x2 B hB I t r;obtain⟨z,M⟩:∃z,(if a<s∧s<l then symM lt f a s l q else q)=z:=⟨_,rfl⟩;rw[M];obtain⟨t1,O⟩:SrtR R z a l∧Moved q z a l:=by
      rw[←M];split
      ·rename_i k1;exact ih a s l q k1.1 k1.2 (by omega) (by omega) s1 s2 q1
      ·refine⟨?_,Moved.refl _ _ _⟩;by_cases k2:s=a
       ·rw[←k2];exact s2
       ·rw[show l=s by omega];exact s1
     clear M;have v:∀k,l≤k→z[k]! =q[k]!:=fun k hk=>O.2.1 k (by omega);obtain⟨P,L⟩:∃P,(if l<e∧e<b then symM lt f l e b z else z)=P:=⟨_,rfl⟩;rw[L];have W:SrtR R z l e:=fun i j n p o=>(by rw[v i n,v j (by omega)];exact s3 i j n p o);have Q:SrtR R z e b:=fun i j n p o=>(by rw[v i (by omega),v j (by omega)];exact s4 i j n p o);have ae:∀i j,l≤i→i<e→e≤j→j<b→Cr lt R z[i]! z[j]!:=fun i j n p o w=>(by rw[v i n,v j (by omega)];exact q2 i j n p o w);obtain⟨t2,M3⟩:SrtR R P l b∧Moved z P l b:=by
      rw[←L];split
      ·rename_i k1;exact ih l e b z k1.1 k1.2 (by rw[O.1,S];omega) (by omega) W Q ae
      ·refine⟨?_,Moved.refl _ _ _⟩;by_cases k2:e=l
       ·rw[←k2];exact Q
       ·rw[show b=e by omega];exact W
     clear L;refine⟨fun i j n p o=>?_,M1.trans ((O.wide zH (by omega)).trans (M3.wide (by omega) zH))⟩;rcases Nat.lt_or_ge j l with k1|k1
     ·rw[M3.2.1 i (by omega),M3.2.1 j (by omega)];exact t1 i j n p k1
     ·rcases Nat.lt_or_ge i l with k2|k2
      ·rw[M3.2.1 i (by omega)];obtain⟨j',w,Z,ad⟩:=M3.2.2 j k1 o;rw[ad,v j' w];obtain⟨i',ag,af,ab⟩:=O.2.2 i n k2;rw[ab];exact X i' j' ag af w Z
      ·exact t2 i j k2 p o
end
end Go.Proofs.YtoeoinpaidhmcaaGreatDoor.jd
