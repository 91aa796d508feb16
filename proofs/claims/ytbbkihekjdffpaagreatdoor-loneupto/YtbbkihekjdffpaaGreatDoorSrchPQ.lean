/- Several texts in one. -/
import Derived.Test.YtbbkihekjdffpaaGreatDoorSrchLL
import Derived.Shelf.SlSortCmp.KitK
set_option maxHeartbeats 2000000
set_option maxRecDepth 100000
namespace Go.Proofs.YtbbkihekjdffpaaGreatDoor.srch
open Go.RowKit
open Go.Sort (swp size_swp insInner insOuter)
section
variable {α:Type} [Inhabited α] (lt:α→α→Bool)
def swLoop (a b:Nat):Nat→Nat→Array α→Array α
 | 0,_,d=>d
 | n+1,i,d=>swLoop a b n (i+1) (swp d (a+i) (b+i))
theorem zWt (a b:Nat) (n:Nat):∀ (i:Nat) (d:Array α),(swLoop a b n i d).size=d.size:=by
 induction n with
 | zero=>intro i d;rfl
 | succ n ih=>intro i d;show (swLoop a b n (i+1) (swp d (a+i) (b+i))).size=_;rw [ih,size_swp]
def zaR (d:Array α) (a b n:Nat):Array α:=swLoop a b n 0 d
theorem z1k (d:Array α) (a b n:Nat):(zaR d a b n).size=d.size:=zWt a b n 0 d
def rotLoop (m:Nat):Nat→Nat→Nat→Array α→Array α
 | 0,_,_,d=>d
 | f+1,i,j,d=>if i=j then zaR d (m - i) m i else if j < i then rotLoop m f (i - j) j (zaR d (m - i) m j) else rotLoop m f i (j - i) (zaR d (m - i) (m+j - i) i)
theorem z5v (m:Nat) (f:Nat):∀ (i j:Nat) (d:Array α),(rotLoop m f i j d).size=d.size:=by
 induction f with
 | zero=>intro i j d;rfl
 | succ f ih=>
   intro i j d
   unfold rotLoop
   split
   · exact z1k _ _ _ _
   · split
     · rw [ih,z1k]
     · rw [ih,z1k]
def rot (d:Array α) (a m b:Nat):Array α:=rotLoop m (b - a) (m - a) (b - m) d
theorem zdT (d:Array α) (a m b:Nat):(rot d a m b).size=d.size:=z5v m _ _ _ d
def half (p:Nat→Bool):Nat→Nat→Nat→Nat
 | 0,i,_=>i
 | f+1,i,j=>if i < j then (if p ((i+j) / 2) then half p f ((i+j) / 2+1) j else half p f i ((i+j) / 2)) else i
theorem zw6 (p:Nat→Bool) (f:Nat):∀ i j,i≤j→i≤half p f i j∧half p f i j≤j:=by
 induction f with
 | zero=>intro i j h;exact ⟨Nat.le_refl _,h⟩
 | succ f ih=>
   intro i j h
   unfold half
   split
   · split
     · have:=ih ((i+j) / 2+1) j (by omega);omega
     · have:=ih i ((i+j) / 2) (by omega);omega
   · omega
def upTo (e:Nat):Nat→Nat→Array α→Array α
 | 0,_,d=>d
 | f+1,k,d=>if k < e then upTo e f (k+1) (swp d k (k+1)) else d
theorem z1R (e f:Nat):∀ (k:Nat) (d:Array α),(upTo e f k d).size=d.size:=by
 induction f with
 | zero=>intro k d;rfl
 | succ f ih=>intro k d;unfold upTo;split;· rw [ih,size_swp]
              · rfl
def downTo (e:Nat):Nat→Nat→Array α→Array α
 | 0,_,d=>d
 | f+1,k,d=>if e < k then downTo e f (k - 1) (swp d k (k - 1)) else d
theorem zj4 (e f:Nat):∀ (k:Nat) (d:Array α),(downTo e f k d).size=d.size:=by
 induction f with
 | zero=>intro k d;rfl
 | succ f ih=>intro k d;unfold downTo;split;· rw [ih,size_swp]
              · rfl
def zzQ (d:Array α) (a m b:Nat):Nat:=
 let mid:=(a+b) / 2
 let n:=mid+m
 half (fun c=>!lt d[n - 1 - c]! d[c]!) (b - a+1) (if mid < m then n - b else a) (if mid < m then mid else m)
def symM:Nat→Nat→Nat→Nat→Array α→Array α
 | 0,_,_,_,d=>d
 | f+1,a,m,b,d=>
   if m - a=1 then upTo (half (fun h=>lt d[h]! d[a]!) (b - m+1) m b - 1) (b - a) a d
   else if b - m=1 then downTo (half (fun h=>!lt d[m]! d[h]!) (m - a+1) a m) (m - a) m d
   else
    let mid:=(a+b) / 2
    let start:=zzQ lt d a m b
    let e:=mid+m - start
    let d1:=if start < m∧m < e then rot d start m e else d
    let d2:=if a < start∧start < mid then symM f a start mid d1 else d1
    if mid < e∧e < b then symM f mid e b d2 else d2
theorem zJ2 (f:Nat):∀ (a m b:Nat) (d:Array α),(symM lt f a m b d).size=d.size:=by
 induction f with
 | zero=>intro a m b d;rfl
 | succ f ih=>
   intro a m b d
   unfold symM
   dsimp only
   split
   · exact z1R _ _ _ _
   · split
     · exact zj4 _ _ _ _
     · have h1:(if zzQ lt d a m b < m∧m < (a+b) / 2+m - zzQ lt d a m b then rot d (zzQ lt d a m b) m ((a+b) / 2+m - zzQ lt d a m b) else d).size=d.size:=by
        split
        · exact zdT _ _ _ _
        · rfl
       split <;> split <;> simp only [ih,h1]
def zSe:Nat→Nat→Nat→Array α→Nat×Array α
 | 0,a,_,d=>(a,d)
 | f+1,a,n,d=>if a+20≤n then zSe f (a+20) n (Sort.insertionSort lt d a (a+20)) else (a,d)
def zGU (bs:Nat):Nat→Nat→Nat→Array α→Nat×Array α
 | 0,a,_,d=>(a,d)
 | f+1,a,n,d=>if a+2*bs≤n then zGU bs f (a+2*bs) n (symM lt (2*bs+1) a (a+bs) (a+2*bs) d) else (a,d)
def z8r (bs n:Nat) (d:Array α):Array α:=
 let r:=zGU lt bs (n+1) 0 n d
 if r.1+bs < n then symM lt (2*bs+1) r.1 (r.1+bs) n r.2 else r.2
def z2U:Nat→Nat→Nat→Array α→Array α
 | 0,_,_,d=>d
 | f+1,bs,n,d=>if bs < n then z2U f (bs*2) n (z8r lt bs n d) else d
def zjN (d:Array α):Array α:=
 let r:=zSe lt (d.size+1) 0 d.size d
 z2U lt (d.size+1) 20 d.size (Sort.insertionSort lt r.2 r.1 d.size)
theorem zFW (a:Nat) (j:Nat):∀ (d:Array α),(insInner lt a j d).size=d.size:=by
 induction j with
 | zero=>intro d;rfl
 | succ j ih=>
   intro d
   unfold insInner
   split
   · rw [ih,size_swp]
   · rfl
theorem zct (a b:Nat) (f:Nat):∀ (i:Nat) (d:Array α),b - i≤f→(insOuter lt a b i d).size=d.size:=by
 induction f with
 | zero=>
   intro i d h
   unfold insOuter
   rw [if_neg (by omega)]
 | succ f ih=>
   intro i d h
   unfold insOuter
   split
   · rw [ih _ _ (by omega),zFW]
   · rfl
theorem zpf (d:Array α) (a b:Nat):(Sort.insertionSort lt d a b).size=d.size:=zct lt a b _ _ d (Nat.le_refl _)
/-! what holds of all elements, holds of all behind an exchange -/
def AllP (p:α→Prop) (d:Array α):Prop:=∀ i:Nat,p d[i]!
theorem AllP.swp {p:α→Prop} {d:Array α} (h:AllP p d) (i j:Nat):AllP p (swp d i j):=by
 intro k
 unfold Go.Sort.swp
 by_cases h1:k=j
 · subst h1
   by_cases hk:k < d.size
   · rw [getElem!_pos _ _ (by simpa using hk)];simp;exact h i
   · rw [getElem!_neg _ _ (by simpa using hk)];have:=h k;rwa [getElem!_neg d k hk] at this
 · by_cases hk:k < d.size
   · rw [getElem!_pos _ _ (by simpa using hk),Array.getElem_setIfInBounds_ne (by simpa using hk) (fun e=>h1 e.symm)]
     by_cases h2:k=i
     · subst h2;simp;exact h j
     · rw [Array.getElem_setIfInBounds_ne hk (fun e=>h2 e.symm)];have:=h k;rwa [getElem!_pos d k hk] at this
   · rw [getElem!_neg _ _ (by simpa using hk)];have:=h k;rwa [getElem!_neg d k hk] at this
theorem AllP.swLoop {p:α→Prop} (a b:Nat) (n:Nat):∀ (i:Nat) {d:Array α},AllP p d→AllP p (swLoop a b n i d):=by
 induction n with
 | zero=>intro i d h;exact h
 | succ n ih=>intro i d h;exact ih (i+1) (h.swp _ _)
theorem AllP.rotLoop {p:α→Prop} (m:Nat) (f:Nat):∀ (i j:Nat) {d:Array α},AllP p d→AllP p (rotLoop m f i j d):=by
 induction f with
 | zero=>intro i j d h;exact h
 | succ f ih=>
   intro i j d h
   unfold srch.rotLoop
   split
   · exact h.swLoop _ _ _ 0
   · split
     · exact ih _ _ (h.swLoop _ _ _ 0)
     · exact ih _ _ (h.swLoop _ _ _ 0)
theorem AllP.upTo {p:α→Prop} (e f:Nat):∀ (k:Nat) {d:Array α},AllP p d→AllP p (upTo e f k d):=by
 induction f with
 | zero=>intro k d h;exact h
 | succ f ih=>
   intro k d h
   unfold srch.upTo
   split
   · exact ih _ (h.swp _ _)
   · exact h
theorem AllP.downTo {p:α→Prop} (e f:Nat):∀ (k:Nat) {d:Array α},AllP p d→AllP p (downTo e f k d):=by
 induction f with
 | zero=>intro k d h;exact h
 | succ f ih=>
   intro k d h
   unfold srch.downTo
   split
   · exact ih _ (h.swp _ _)
   · exact h
theorem AllP.symM {p:α→Prop} (f:Nat):∀ (a m b:Nat) {d:Array α},AllP p d→AllP p (symM lt f a m b d):=by
 induction f with
 | zero=>intro a m b d h;exact h
 | succ f ih=>
   intro a m b d h
   unfold srch.symM
   dsimp only
   split
   · exact h.upTo _ _ _
   · split
     · exact h.downTo _ _ _
     · have h1:AllP p (if zzQ lt d a m b < m∧m < (a+b) / 2+m - zzQ lt d a m b then rot d (zzQ lt d a m b) m ((a+b) / 2+m - zzQ lt d a m b) else d):=by
        split
        · exact h.rotLoop _ _ _ _
        · exact h
       split <;> split
       · exact ih _ _ _ (ih _ _ _ h1)
       · exact ih _ _ _ h1
       · exact ih _ _ _ h1
       · exact h1
theorem AllP.insInner {p:α→Prop} (a:Nat) (j:Nat):∀ {d:Array α},AllP p d→AllP p (insInner lt a j d):=by
 induction j with
 | zero=>intro d h;exact h
 | succ j ih=>
   intro d h
   unfold Go.Sort.insInner
   split
   · exact ih (h.swp _ _)
   · exact h
theorem AllP.insOuter {p:α→Prop} (a b:Nat) (f:Nat):∀ (i:Nat) {d:Array α},b - i≤f→AllP p d→AllP p (insOuter lt a b i d):=by
 induction f with
 | zero=>
   intro i d h hd
   unfold Go.Sort.insOuter
   rw [if_neg (by omega)]
   exact hd
 | succ f ih=>
   intro i d h hd
   unfold Go.Sort.insOuter
   split
   · exact ih _ (by omega) (hd.insInner lt _ _)
   · exact hd
theorem AllP.insS {p:α→Prop} {d:Array α} (h:AllP p d) (a b:Nat):AllP p (Sort.insertionSort lt d a b):=h.insOuter lt a b _ _ (Nat.le_refl _)
theorem zk4 {p:α→Prop} (n f:Nat):∀ (a:Nat) {d:Array α},AllP p d→AllP p (zSe lt f a n d).2∧(zSe lt f a n d).2.size=d.size:=by
 induction f with
 | zero=>intro a d h;exact ⟨h,rfl⟩
 | succ f ih=>
   intro a d h
   unfold zSe
   split
   · have:=ih (a+20) (h.insS lt a (a+20));exact ⟨this.1,by rw [this.2,zpf]⟩
   · exact ⟨h,rfl⟩
theorem zwB {p:α→Prop} (bs n f:Nat):∀ (a:Nat) {d:Array α},AllP p d→AllP p (zGU lt bs f a n d).2∧(zGU lt bs f a n d).2.size=d.size:=by
 induction f with
 | zero=>intro a d h;exact ⟨h,rfl⟩
 | succ f ih=>
   intro a d h
   unfold zGU
   split
   · have:=ih (a+2*bs) (h.symM lt (2*bs+1) a (a+bs) (a+2*bs));exact ⟨this.1,by rw [this.2,zJ2]⟩
   · exact ⟨h,rfl⟩
theorem z1K {p:α→Prop} (bs n:Nat) {d:Array α} (h:AllP p d):AllP p (z8r lt bs n d)∧(z8r lt bs n d).size=d.size:=by
 have h1:=zwB lt bs n (n+1) 0 h
 unfold z8r
 dsimp only
 split
 · exact ⟨h1.1.symM lt _ _ _ _,by rw [zJ2,h1.2]⟩
 · exact h1
theorem z6U {p:α→Prop} (n f:Nat):∀ (bs:Nat) {d:Array α},AllP p d→AllP p (z2U lt f bs n d)∧(z2U lt f bs n d).size=d.size:=by
 induction f with
 | zero=>intro bs d h;exact ⟨h,rfl⟩
 | succ f ih=>
   intro bs d h
   unfold z2U
   split
   · have h1:=z1K lt bs n h;have h2:=ih (bs*2) h1.1;exact ⟨h2.1,by rw [h2.2,h1.2]⟩
   · exact ⟨h,rfl⟩
theorem zUI {p:α→Prop} {d:Array α} (h:AllP p d):AllP p (zjN lt d)∧(zjN lt d).size=d.size:=by
 have h1:=zk4 lt d.size (d.size+1) 0 h
 have h2:=z6U lt d.size (d.size+1) 20 (h1.1.insS lt (zSe lt (d.size+1) 0 d.size d).1 d.size)
 unfold zjN
 dsimp only
 exact ⟨h2.1,by rw [h2.2,zpf,h1.2]⟩
end
end Go.Proofs.YtbbkihekjdffpaaGreatDoor.srch
namespace Go.Proofs.YtbbkihekjdffpaaGreatDoor.srch
open Go.RowKit
open Go.Sort (swp size_swp grow grow_grow grow_empty alloc_eq_grow size_grow)
def Grown (w w':World):Prop:=∃ q os,w'=grow (w.drewN q) os
theorem Grown.refl (w:World):Grown w w:=⟨0,#[],by rw [grow_empty];rfl⟩
theorem Grown.trans {w w1 w2:World} (h:Grown w w1) (k:Grown w1 w2):Grown w w2:=by
 obtain ⟨q,os,rfl⟩:=h
 obtain ⟨q',os',rfl⟩:=k
 exact ⟨q+q',os++os',by rw [←grow_grow,←World.drewN_drewN];rfl⟩
theorem Grown.alloc {w w1:World} (h:Grown w w1) (o:Obj):Grown w (w1.alloc o):=h.trans ⟨0,#[o],by rw [alloc_eq_grow];rfl⟩
theorem Grown.drew {w w1:World} (h:Grown w w1):Grown w w1.drew:=h.trans ⟨1,#[],by rw [grow_empty];rfl⟩
theorem Grown.below {w w1:World} (h:Grown w w1):Below w.heap.size w w1:=by
 obtain ⟨q,os,rfl⟩:=h
 exact ⟨rfl,rfl,rfl,by rw [size_grow];exact Nat.le_add_right _ _,fun k hk=>by show (w.heap++os)[k]?=_;exact Array.getElem?_append_left hk⟩
theorem zYU (o:OpV) (w:World):
 Calls Tryz.prog 83 #[opAg o] w fun e w'=>e=.returned (.bool (o.ret == 0))∧Grown w w':=by
 unfold opAg
 go_enter Tryz.func83,Tryz.ntmps83
 go_wp2
 go_ret
 exact ⟨rfl,(Grown.refl _).alloc _⟩
theorem zEJ (o:OpV) (w:World):
 Calls Tryz.prog 125 #[opAg o] w fun e w'=>e=.returned (.int .i64 (zSA o))∧Grown w w':=by
 have hp:=fun W=>zYU o W
 unfold opAg at*
 obtain ⟨R,hR,hR1,hR2⟩:∃ R,zSA o=R∧((o.ret == 0)=true→R=129)∧((o.ret == 0)=false→R=o.ret):=⟨_,rfl,fun h=>if_pos (by simpa using h),fun h=>if_neg (by simpa using h)⟩
 rw [hR]
 clear hR
 have H1:Hid ((o.ret == 0)=true→R=129):=hR1
 have H2:Hid ((o.ret == 0)=false→R=o.ret):=hR2
 clear hR1 hR2
 go_enter Tryz.func125,Tryz.ntmps125
 go_wp2_with fail
 refine (hp _).mono ?_
 rintro e w2 ⟨rfl,hg2⟩
 have hb2:=hg2.below
 have hg:Grown w w2:=((Grown.refl _).alloc _).trans hg2
 have hc:w2.cell? ⟨w.heap.size,7,none⟩=some (.int .i64 o.ret):=(hb2.cell (p:=⟨w.heap.size,7,none⟩) (by simp)).trans (by simp)
 clear hp hb2 hg2
 cases h:(o.ret == 0) with
 | true=>
   have h3:=H1.out h
   clear h H1 H2
   go_wp2
   go_ret
   exact ⟨by rw [h3];rfl,hg⟩
 | false=>
   have h3:=H2.out h
   clear h H1 H2
   go_wp2
   go_ret
   exact ⟨by rw [h3];rfl,hg⟩

theorem zOb (a b:OpV) (w:World):
 Calls Tryz.prog 124 #[opAg a,opAg b] w fun e w'=>e=.returned (.int .i64 (cmpI (zSA a) (zSA b)))∧Grown w w':=by
 have hA:=fun W=>zEJ a W
 have hB:=fun W=>zEJ b W
 have hC:=fun W=>zMb (zSA a) (zSA b) W
 generalize zSA a=x at*
 generalize zSA b=y at*
 generalize cmpI x y=R at*
 unfold opAg at*
 obtain ⟨W2,hW2,hgl,hbl,hAB,hBB⟩:∃ W2,(w.alloc (.cells #[.int .i64 a.id,.int .i64 a.cl,.string ⟨a.name.toArray⟩,.string ⟨a.key.toArray⟩,.int .i64 a.arg,.int .i64 a.exp,.int .i64 a.call,.int .i64 a.ret,.int .i64 a.vk,.int .i64 a.vn] 74)).alloc (.cells #[.int .i64 b.id,.int .i64 b.cl,.string ⟨b.name.toArray⟩,.string ⟨b.key.toArray⟩,.int .i64 b.arg,.int .i64 b.exp,.int .i64 b.call,.int .i64 b.ret,.int .i64 b.vk,.int .i64 b.vn] 74)=W2∧Grown w W2∧Below w.heap.size w W2∧W2.heap[w.heap.size]?=some (.cells #[.int .i64 a.id,.int .i64 a.cl,.string ⟨a.name.toArray⟩,.string ⟨a.key.toArray⟩,.int .i64 a.arg,.int .i64 a.exp,.int .i64 a.call,.int .i64 a.ret,.int .i64 a.vk,.int .i64 a.vn] 74 (0,0))∧W2.heap[w.heap.size+1]?=some (.cells #[.int .i64 b.id,.int .i64 b.cl,.string ⟨b.name.toArray⟩,.string ⟨b.key.toArray⟩,.int .i64 b.arg,.int .i64 b.exp,.int .i64 b.call,.int .i64 b.ret,.int .i64 b.vk,.int .i64 b.vn] 74 (0,0)):=by
  refine ⟨_,rfl,((Grown.refl _).alloc _).alloc _,((Below.refl _ _).alloc (Nat.le_refl _) _).alloc (by simp) _,?_,ziF _ _ _ (by simp)⟩
  rw [zD1 _ _ _ (by simp)];exact ziF _ _ _ (by simp)
 have a0:W2.cell? ⟨w.heap.size,0,none⟩=some (.int .i64 a.id):=zBk hAB 0
 have a1:W2.cell? ⟨w.heap.size,1,none⟩=some (.int .i64 a.cl):=zBk hAB 1
 have a2:W2.cell? ⟨w.heap.size,2,none⟩=some (.string ⟨a.name.toArray⟩):=zBk hAB 2
 have a3:W2.cell? ⟨w.heap.size,3,none⟩=some (.string ⟨a.key.toArray⟩):=zBk hAB 3
 have a4:W2.cell? ⟨w.heap.size,4,none⟩=some (.int .i64 a.arg):=zBk hAB 4
 have a5:W2.cell? ⟨w.heap.size,5,none⟩=some (.int .i64 a.exp):=zBk hAB 5
 have a6:W2.cell? ⟨w.heap.size,6,none⟩=some (.int .i64 a.call):=zBk hAB 6
 have a7:W2.cell? ⟨w.heap.size,7,none⟩=some (.int .i64 a.ret):=zBk hAB 7
 have a8:W2.cell? ⟨w.heap.size,8,none⟩=some (.int .i64 a.vk):=zBk hAB 8
 have a9:W2.cell? ⟨w.heap.size,9,none⟩=some (.int .i64 a.vn):=zBk hAB 9
 have b0:W2.cell? ⟨w.heap.size+1,0,none⟩=some (.int .i64 b.id):=zBk hBB 0
 have b1:W2.cell? ⟨w.heap.size+1,1,none⟩=some (.int .i64 b.cl):=zBk hBB 1
 have b2:W2.cell? ⟨w.heap.size+1,2,none⟩=some (.string ⟨b.name.toArray⟩):=zBk hBB 2
 have b3:W2.cell? ⟨w.heap.size+1,3,none⟩=some (.string ⟨b.key.toArray⟩):=zBk hBB 3
 have b4:W2.cell? ⟨w.heap.size+1,4,none⟩=some (.int .i64 b.arg):=zBk hBB 4
 have b5:W2.cell? ⟨w.heap.size+1,5,none⟩=some (.int .i64 b.exp):=zBk hBB 5
 have b6:W2.cell? ⟨w.heap.size+1,6,none⟩=some (.int .i64 b.call):=zBk hBB 6
 have b7:W2.cell? ⟨w.heap.size+1,7,none⟩=some (.int .i64 b.ret):=zBk hBB 7
 have b8:W2.cell? ⟨w.heap.size+1,8,none⟩=some (.int .i64 b.vk):=zBk hBB 8
 have b9:W2.cell? ⟨w.heap.size+1,9,none⟩=some (.int .i64 b.vn):=zBk hBB 9
 have hlo:=zBq hBB
 have hla:=zBq hAB
 have hsz:=hbl.size
 have HBD:=Hid.mk' (show Below W2.heap.size W2 W2.drew from (Below.refl _ _).drew)
 have HBL:=Hid.mk' hbl
 have HGD:Hid (Grown w W2.drew):=hgl.drew
 clear hgl
 clear hbl hAB hBB
 go_enter Tryz.func124,Tryz.ntmps124
 go_wp2_with fail
 go_region_held3 (fun w'=>w'.cell? ⟨w.heap.size,0,none⟩=some (.int .i64 a.id)∧w'.cell? ⟨w.heap.size,1,none⟩=some (.int .i64 a.cl)∧w'.cell? ⟨w.heap.size,2,none⟩=some (.string ⟨a.name.toArray⟩)∧w'.cell? ⟨w.heap.size,3,none⟩=some (.string ⟨a.key.toArray⟩)∧w'.cell? ⟨w.heap.size,4,none⟩=some (.int .i64 a.arg)∧w'.cell? ⟨w.heap.size,5,none⟩=some (.int .i64 a.exp)∧w'.cell? ⟨w.heap.size,6,none⟩=some (.int .i64 a.call)∧w'.cell? ⟨w.heap.size,7,none⟩=some (.int .i64 a.ret)∧w'.cell? ⟨w.heap.size,8,none⟩=some (.int .i64 a.vk)∧w'.cell? ⟨w.heap.size,9,none⟩=some (.int .i64 a.vn)∧w'.cell? ⟨w.heap.size+1,0,none⟩=some (.int .i64 b.id)∧w'.cell? ⟨w.heap.size+1,1,none⟩=some (.int .i64 b.cl)∧w'.cell? ⟨w.heap.size+1,2,none⟩=some (.string ⟨b.name.toArray⟩)∧w'.cell? ⟨w.heap.size+1,3,none⟩=some (.string ⟨b.key.toArray⟩)∧w'.cell? ⟨w.heap.size+1,4,none⟩=some (.int .i64 b.arg)∧w'.cell? ⟨w.heap.size+1,5,none⟩=some (.int .i64 b.exp)∧w'.cell? ⟨w.heap.size+1,6,none⟩=some (.int .i64 b.call)∧w'.cell? ⟨w.heap.size+1,7,none⟩=some (.int .i64 b.ret)∧w'.cell? ⟨w.heap.size+1,8,none⟩=some (.int .i64 b.vk)∧w'.cell? ⟨w.heap.size+1,9,none⟩=some (.int .i64 b.vn)) (first | (with_reducible exact hS3) | (with_reducible exact hS2) | go_keep) (first
  | (go_at_call 125;refine (hA _).mono ?_;rintro e w2 ⟨rfl,hg20⟩;have hb20:=hg20.below;have hg2:=Hid.mk' (HGD.out.trans hg20);have hb2:Below W2.heap.size W2 w2:=HBD.out.trans hb20;have hbl2:=Hid.mk' (HBL.out.trans (hb2.mono hsz));have hS2:(fun w'=>w'.cell? ⟨w.heap.size,0,none⟩=some (.int .i64 a.id)∧w'.cell? ⟨w.heap.size,1,none⟩=some (.int .i64 a.cl)∧w'.cell? ⟨w.heap.size,2,none⟩=some (.string ⟨a.name.toArray⟩)∧w'.cell? ⟨w.heap.size,3,none⟩=some (.string ⟨a.key.toArray⟩)∧w'.cell? ⟨w.heap.size,4,none⟩=some (.int .i64 a.arg)∧w'.cell? ⟨w.heap.size,5,none⟩=some (.int .i64 a.exp)∧w'.cell? ⟨w.heap.size,6,none⟩=some (.int .i64 a.call)∧w'.cell? ⟨w.heap.size,7,none⟩=some (.int .i64 a.ret)∧w'.cell? ⟨w.heap.size,8,none⟩=some (.int .i64 a.vk)∧w'.cell? ⟨w.heap.size,9,none⟩=some (.int .i64 a.vn)∧w'.cell? ⟨w.heap.size+1,0,none⟩=some (.int .i64 b.id)∧w'.cell? ⟨w.heap.size+1,1,none⟩=some (.int .i64 b.cl)∧w'.cell? ⟨w.heap.size+1,2,none⟩=some (.string ⟨b.name.toArray⟩)∧w'.cell? ⟨w.heap.size+1,3,none⟩=some (.string ⟨b.key.toArray⟩)∧w'.cell? ⟨w.heap.size+1,4,none⟩=some (.int .i64 b.arg)∧w'.cell? ⟨w.heap.size+1,5,none⟩=some (.int .i64 b.exp)∧w'.cell? ⟨w.heap.size+1,6,none⟩=some (.int .i64 b.call)∧w'.cell? ⟨w.heap.size+1,7,none⟩=some (.int .i64 b.ret)∧w'.cell? ⟨w.heap.size+1,8,none⟩=some (.int .i64 b.vk)∧w'.cell? ⟨w.heap.size+1,9,none⟩=some (.int .i64 b.vn)) w2:=⟨(hb2.cell (p:=⟨w.heap.size,0,none⟩) hla).trans a0,(hb2.cell (p:=⟨w.heap.size,1,none⟩) hla).trans a1,(hb2.cell (p:=⟨w.heap.size,2,none⟩) hla).trans a2,(hb2.cell (p:=⟨w.heap.size,3,none⟩) hla).trans a3,(hb2.cell (p:=⟨w.heap.size,4,none⟩) hla).trans a4,(hb2.cell (p:=⟨w.heap.size,5,none⟩) hla).trans a5,(hb2.cell (p:=⟨w.heap.size,6,none⟩) hla).trans a6,(hb2.cell (p:=⟨w.heap.size,7,none⟩) hla).trans a7,(hb2.cell (p:=⟨w.heap.size,8,none⟩) hla).trans a8,(hb2.cell (p:=⟨w.heap.size,9,none⟩) hla).trans a9,(hb2.cell (p:=⟨w.heap.size+1,0,none⟩) hlo).trans b0,(hb2.cell (p:=⟨w.heap.size+1,1,none⟩) hlo).trans b1,(hb2.cell (p:=⟨w.heap.size+1,2,none⟩) hlo).trans b2,(hb2.cell (p:=⟨w.heap.size+1,3,none⟩) hlo).trans b3,(hb2.cell (p:=⟨w.heap.size+1,4,none⟩) hlo).trans b4,(hb2.cell (p:=⟨w.heap.size+1,5,none⟩) hlo).trans b5,(hb2.cell (p:=⟨w.heap.size+1,6,none⟩) hlo).trans b6,(hb2.cell (p:=⟨w.heap.size+1,7,none⟩) hlo).trans b7,(hb2.cell (p:=⟨w.heap.size+1,8,none⟩) hlo).trans b8,(hb2.cell (p:=⟨w.heap.size+1,9,none⟩) hlo).trans b9⟩)
  | (go_at_call 125;refine (hB _).mono ?_;rintro e w3 ⟨rfl,hg3⟩;have hb3:=hg3.below;have hgl3:=Hid.mk' (hg2.out.trans hg3);have hbl3:=Hid.mk' (hbl2.out.trans (hb3.mono hbl2.out.size));have hS3:=(show (fun w'=>w'.cell? ⟨w.heap.size,0,none⟩=some (.int .i64 a.id)∧w'.cell? ⟨w.heap.size,1,none⟩=some (.int .i64 a.cl)∧w'.cell? ⟨w.heap.size,2,none⟩=some (.string ⟨a.name.toArray⟩)∧w'.cell? ⟨w.heap.size,3,none⟩=some (.string ⟨a.key.toArray⟩)∧w'.cell? ⟨w.heap.size,4,none⟩=some (.int .i64 a.arg)∧w'.cell? ⟨w.heap.size,5,none⟩=some (.int .i64 a.exp)∧w'.cell? ⟨w.heap.size,6,none⟩=some (.int .i64 a.call)∧w'.cell? ⟨w.heap.size,7,none⟩=some (.int .i64 a.ret)∧w'.cell? ⟨w.heap.size,8,none⟩=some (.int .i64 a.vk)∧w'.cell? ⟨w.heap.size,9,none⟩=some (.int .i64 a.vn)∧w'.cell? ⟨w.heap.size+1,0,none⟩=some (.int .i64 b.id)∧w'.cell? ⟨w.heap.size+1,1,none⟩=some (.int .i64 b.cl)∧w'.cell? ⟨w.heap.size+1,2,none⟩=some (.string ⟨b.name.toArray⟩)∧w'.cell? ⟨w.heap.size+1,3,none⟩=some (.string ⟨b.key.toArray⟩)∧w'.cell? ⟨w.heap.size+1,4,none⟩=some (.int .i64 b.arg)∧w'.cell? ⟨w.heap.size+1,5,none⟩=some (.int .i64 b.exp)∧w'.cell? ⟨w.heap.size+1,6,none⟩=some (.int .i64 b.call)∧w'.cell? ⟨w.heap.size+1,7,none⟩=some (.int .i64 b.ret)∧w'.cell? ⟨w.heap.size+1,8,none⟩=some (.int .i64 b.vk)∧w'.cell? ⟨w.heap.size+1,9,none⟩=some (.int .i64 b.vn)) w3 from ⟨(hb3.cell (p:=⟨w.heap.size,0,none⟩) (Nat.lt_of_lt_of_le hla hb2.size)).trans hS2.1,(hb3.cell (p:=⟨w.heap.size,1,none⟩) (Nat.lt_of_lt_of_le hla hb2.size)).trans hS2.2.1,(hb3.cell (p:=⟨w.heap.size,2,none⟩) (Nat.lt_of_lt_of_le hla hb2.size)).trans hS2.2.2.1,(hb3.cell (p:=⟨w.heap.size,3,none⟩) (Nat.lt_of_lt_of_le hla hb2.size)).trans hS2.2.2.2.1,(hb3.cell (p:=⟨w.heap.size,4,none⟩) (Nat.lt_of_lt_of_le hla hb2.size)).trans hS2.2.2.2.2.1,(hb3.cell (p:=⟨w.heap.size,5,none⟩) (Nat.lt_of_lt_of_le hla hb2.size)).trans hS2.2.2.2.2.2.1,(hb3.cell (p:=⟨w.heap.size,6,none⟩) (Nat.lt_of_lt_of_le hla hb2.size)).trans hS2.2.2.2.2.2.2.1,(hb3.cell (p:=⟨w.heap.size,7,none⟩) (Nat.lt_of_lt_of_le hla hb2.size)).trans hS2.2.2.2.2.2.2.2.1,(hb3.cell (p:=⟨w.heap.size,8,none⟩) (Nat.lt_of_lt_of_le hla hb2.size)).trans hS2.2.2.2.2.2.2.2.2.1,(hb3.cell (p:=⟨w.heap.size,9,none⟩) (Nat.lt_of_lt_of_le hla hb2.size)).trans hS2.2.2.2.2.2.2.2.2.2.1,(hb3.cell (p:=⟨w.heap.size+1,0,none⟩) (Nat.lt_of_lt_of_le hlo hb2.size)).trans hS2.2.2.2.2.2.2.2.2.2.2.1,(hb3.cell (p:=⟨w.heap.size+1,1,none⟩) (Nat.lt_of_lt_of_le hlo hb2.size)).trans hS2.2.2.2.2.2.2.2.2.2.2.2.1,(hb3.cell (p:=⟨w.heap.size+1,2,none⟩) (Nat.lt_of_lt_of_le hlo hb2.size)).trans hS2.2.2.2.2.2.2.2.2.2.2.2.2.1,(hb3.cell (p:=⟨w.heap.size+1,3,none⟩) (Nat.lt_of_lt_of_le hlo hb2.size)).trans hS2.2.2.2.2.2.2.2.2.2.2.2.2.2.1,(hb3.cell (p:=⟨w.heap.size+1,4,none⟩) (Nat.lt_of_lt_of_le hlo hb2.size)).trans hS2.2.2.2.2.2.2.2.2.2.2.2.2.2.2.1,(hb3.cell (p:=⟨w.heap.size+1,5,none⟩) (Nat.lt_of_lt_of_le hlo hb2.size)).trans hS2.2.2.2.2.2.2.2.2.2.2.2.2.2.2.2.1,(hb3.cell (p:=⟨w.heap.size+1,6,none⟩) (Nat.lt_of_lt_of_le hlo hb2.size)).trans hS2.2.2.2.2.2.2.2.2.2.2.2.2.2.2.2.2.1,(hb3.cell (p:=⟨w.heap.size+1,7,none⟩) (Nat.lt_of_lt_of_le hlo hb2.size)).trans hS2.2.2.2.2.2.2.2.2.2.2.2.2.2.2.2.2.2.1,(hb3.cell (p:=⟨w.heap.size+1,8,none⟩) (Nat.lt_of_lt_of_le hlo hb2.size)).trans hS2.2.2.2.2.2.2.2.2.2.2.2.2.2.2.2.2.2.2.1,(hb3.cell (p:=⟨w.heap.size+1,9,none⟩) (Nat.lt_of_lt_of_le hlo hb2.size)).trans hS2.2.2.2.2.2.2.2.2.2.2.2.2.2.2.2.2.2.2.2⟩))
  | (go_at_call 90;refine (hC _).mono ?_;rintro e w4 ⟨rfl,rfl⟩))
 all_goals
  go_wp2
  go_ret
  exact ⟨rfl,hgl3.out⟩
theorem zYc (a b:Hap) (w:World):
 Calls Tryz.prog 89 #[zOh a,zOh b] w fun e w'=>e=.returned (.int .i64 (cmpI a.1 b.1))∧Grown w w':=by
 have hC:=fun W=>zMb a.1 b.1 W
 obtain ⟨x,p⟩:=a
 obtain ⟨y,q⟩:=b
 unfold zOh
 dsimp only at*
 generalize cmpI x y=R at*
 have hbl:∀ (u v:Obj),Grown w ((w.alloc u).alloc v):=fun u v=>((Grown.refl _).alloc _).alloc _
 have HB:=Hid.mk' hbl
 clear hbl
 go_enter Tryz.func89,Tryz.ntmps89
 go_wp2_with (go_at_call 90;refine (hC _).mono ?_;rintro e w4 ⟨rfl,rfl⟩)
 all_goals
  go_ret
  exact ⟨rfl,HB.out _ _⟩
end Go.Proofs.YtbbkihekjdffpaaGreatDoor.srch
namespace Go.Proofs.YtbbkihekjdffpaaGreatDoor.srch
open Go.RowKit
structure Mch (σ:Type) where
 here:Gr×σ
 way:List (Stp σ)
 longest:List OpV
 place:Nat
 seen:List (Gr×σ)
structure Out where
 verdict:Nat
 order:List OpV
 left:Int
section
variable {σ:Type} [DecidableEq σ] (doit:σ→OpV→σ×Int×Int) (ops:List OpV)
def look (o:OpV) (m:Mch σ):Bool×Mch σ:=
 if gHas m.here.1 m.place||!zJn (ahG o.call ops 0 (0,0)) m.here.1 then (false,{ m with place:=m.place+1 })
 else
  let r:=doit m.here.2 o
  if o.ret≠0∧(r.2.1,r.2.2)≠(o.vk,o.vn) then (false,{ m with place:=m.place+1 })
  else if (zdS m.here.1 m.place,r.1)∈m.seen then (false,{ m with place:=m.place+1 })
  else (true,{ m with way:=m.way++[⟨m.here.1,m.here.2,m.place⟩],here:=(zdS m.here.1 m.place,r.1),seen:=(zdS m.here.1 m.place,r.1)::m.seen })
def srun:Nat→Int→Bool→Mch σ→Option Out
 | 0,_,_,_=>none
 | f+1,b,true,m=>
   if zJn (retG ops 0 (0,0)) m.here.1 then some ⟨1,takenL ops m.way,b⟩
   else srun f b false { m with longest:=if m.longest.length < m.way.length then takenL ops m.way else m.longest,place:=0 }
 | f+1,b,false,m=>
   match ops[m.place]? with
   | some o=>if b≤0 then some ⟨0,[],0⟩ else srun f (b - 1) (look doit ops o m).1 (look doit ops o m).2
   | none=>
     match m.way.getLast? with
     | none=>some ⟨2,m.longest,b⟩
     | some s=>srun f b false { m with here:=(s.g,s.st),place:=s.pl+1,way:=m.way.dropLast }
theorem z9E (f:Nat):∀ (k:Nat) (b:Int) (fo:Bool) (m:Mch σ) (r:Out),srun doit ops f b fo m=some r→srun doit ops (f+k) b fo m=some r:=by
 induction f with
 | zero=>intro k b fo m r h;simp [srun] at h
 | succ f ih=>
   intro k b fo m r h
   rw [show f+1+k=f+k+1 by omega]
   cases fo with
   | true=>
     unfold srun at h ⊢
     by_cases hw:zJn (retG ops 0 (0,0)) m.here.1
     · rw [if_pos hw] at h ⊢
       exact h
     · rw [if_neg hw] at h ⊢
       exact ih _ _ _ _ _ h
   | false=>
     unfold srun at h ⊢
     cases ho:ops[m.place]? with
     | some o=>
       rw [ho] at h
       dsimp only at h ⊢
       by_cases h0:b≤0
       · rw [if_pos h0] at h ⊢
         exact h
       · rw [if_neg h0] at h ⊢
         exact ih _ _ _ _ _ h
     | none=>
       rw [ho] at h
       dsimp only at h ⊢
       cases hl:m.way.getLast? with
       | none=>
         rw [hl] at h
         exact h
       | some s=>
         rw [hl] at h
         dsimp only at h ⊢
         exact ih _ _ _ _ _ h
def Found (s0:σ) (b:Int) (r:Out):Prop:=∃ f,srun doit ops f b true ⟨((0,0),s0),[],[],0,[]⟩=some r
theorem Found.one {s0:σ} {b:Int} {r r':Out} (h:Found doit ops s0 b r) (h':Found doit ops s0 b r'):r=r':=by
 obtain ⟨f,h⟩:=h
 obtain ⟨f',h'⟩:=h'
 have h1:=z9E doit ops f f' _ _ _ _ h
 have h2:=z9E doit ops f' f _ _ _ _ h'
 rw [Nat.add_comm] at h2
 rw [h1] at h2
 injection h2
end
inductive Judged (S:List OpV→Int→Out→Prop):List (List UInt8×List OpV)→Int→List (List OpV)→Nat×List UInt8×List (List OpV)→Prop
 | ok (b:Int) (acc:List (List OpV)):Judged S [] b acc (1,[],acc)
 | unknown (nm:List UInt8) (p:List OpV) (rest:List (List UInt8×List OpV)) (b:Int) (acc:List (List OpV)) (r:Out) (h:S p b r) (hv:r.verdict=0):Judged S ((nm,p)::rest) b acc (0,[],[])
 | illegal (nm:List UInt8) (p:List OpV) (rest:List (List UInt8×List OpV)) (b:Int) (acc:List (List OpV)) (r:Out) (h:S p b r) (hv:r.verdict=2):Judged S ((nm,p)::rest) b acc (2,nm,[r.order])
 | next (nm:List UInt8) (p:List OpV) (rest:List (List UInt8×List OpV)) (b:Int) (acc:List (List OpV)) (r:Out) (v:Nat×List UInt8×List (List OpV)) (h:S p b r) (hv:r.verdict=1) (hr:Judged S rest r.left (acc++[r.order]) v):Judged S ((nm,p)::rest) b acc v
theorem Judged.one {S:List OpV→Int→Out→Prop} (hS:∀ p b r r',S p b r→S p b r'→r=r') {l:List (List UInt8×List OpV)} {b:Int} {acc:List (List OpV)} {v v':Nat×List UInt8×List (List OpV)} (h:Judged S l b acc v) (h':Judged S l b acc v'):v=v':=by
 induction h generalizing v' with
 | ok b acc=>cases h';rfl
 | unknown nm p rest b acc r h hv=>
   cases h' with
   | unknown _ _ _ _ _ r' h2 hv2=>rfl
   | illegal _ _ _ _ _ r' h2 hv2=>have:=hS _ _ _ _ h h2;subst this;omega
   | next _ _ _ _ _ r' _ h2 hv2 _=>have:=hS _ _ _ _ h h2;subst this;omega
 | illegal nm p rest b acc r h hv=>
   cases h' with
   | unknown _ _ _ _ _ r' h2 hv2=>have:=hS _ _ _ _ h h2;subst this;omega
   | illegal _ _ _ _ _ r' h2 hv2=>have:=hS _ _ _ _ h h2;subst this;rfl
   | next _ _ _ _ _ r' _ h2 hv2 _=>have:=hS _ _ _ _ h h2;subst this;omega
 | next nm p rest b acc r v h hv hr ih=>
   cases h' with
   | unknown _ _ _ _ _ r' h2 hv2=>have:=hS _ _ _ _ h h2;subst this;omega
   | illegal _ _ _ _ _ r' h2 hv2=>have:=hS _ _ _ _ h h2;subst this;omega
   | next _ _ _ _ _ r' _ h2 hv2 hr2=>have:=hS _ _ _ _ h h2;subst this;exact ih hr2
end Go.Proofs.YtbbkihekjdffpaaGreatDoor.srch
