/- Several texts in one. -/
import Derived.Test.YtoeoinpaidhmcaaGreatDoorScanZ
import Derived.BigRegion
import Derived.Deep.DeepCutAuto
import Derived.Deep.RegionLaw
import Derived.Deep.RegionWith
set_option maxHeartbeats 4000000
set_option maxRecDepth 100000
namespace Go.Proofs.YtoeoinpaidhmcaaGreatDoor
open Tryz
open Go.RowKit Go.Maps
def z8R (ms:List Mem)(nm:List UInt8):Option Mem:=ms.find? (fun m=>m.1==nm)
def z0Q (ms:List Mem):Lit→Option Value
 |.string l=>(z8R ms l).map (fun m=>aggV m.2)
 |_=>none
def za6:List Mem→Bool
 | []=>true
 |m::r=>(z8R r m.1).isNone&&za6 r
theorem zvz (a b:List Mem)(d:List UInt8):z8R (a++b) d=(z8R a d).or (z8R b d):=by
 unfold z8R;rw[List.find?_append]
theorem zFq (l:List Mem)(m:Mem):za6 (l++[m])=(za6 l&&(z8R l m.1).isNone):=by
 induction l with
 |nil=>simp[za6,z8R]
 |cons a r ih=>
   rw[List.cons_append,za6,za6,ih,zvz];have i:z8R [m] a.1=if m.1==a.1 then some m else none:=by simp[z8R,List.find?_cons];split<;>simp_all
   have j:z8R (a::r) m.1=if a.1==m.1 then some a else z8R r m.1:=by simp[z8R,List.find?_cons];split<;>simp_all
   rw[i,j];by_cases h:m.1=a.1
   ·have d:a.1=m.1:=h.symm;simp[h]
   ·have d:¬a.1=m.1:=fun e=>h e.symm;have g:(m.1==a.1)=false:=(by simpa using h);have b:(a.1==m.1)=false:=(by simpa using d);rw[g,b];cases z8R r a.1<;>cases z8R r m.1<;>cases za6 r<;>rfl
theorem zvo (l r:List Mem)(h:za6 l=false):za6 (l++r)=false:=by
 induction l with
 |nil=>cases h
 |cons a t ih=>
   rw[List.cons_append,za6,zvz];rw[za6]at h;cases hf:z8R t a.1 with
   |some x=>simp
   |none=>
     rw[hf]at h;rw[ih (by simpa using h)];simp
theorem ze6 {l:List Mem}{m:Mem}(h:z8R l m.1=none):z0Q (l++[m]) (.string m.1)=some (aggV m.2)∧∀x,x≠.string m.1→z0Q (l++[m]) x=z0Q l x:=by
 constructor
 ·show((z8R (l++[m]) m.1).map _)=_;rw[zvz,h];simp[z8R]
 ·intro x a;cases x with
  |string nm=>
    show((z8R (l++[m]) nm).map _)=(z8R l nm).map _;rw[zvz];have:z8R [m] nm=none:=by
     have:¬m.1=nm:=fun e=>a (by rw[e]);simp[z8R,this]
    rw[this];simp
  |_=>rfl
theorem zjt {s:ByteArray}(h:s.size≤maxLen):keyOf prog 9 (.string s)=some (.string s.data.toList):=Go.WideMaps.keyOf_string_mk underlying9 h
theorem zJ5 (g:List Mem)(i:Nat)(h:i<g.length):(zLk g)[i*4]?=some (.string ⟨(g[i]).1.toArray⟩)∧(zLk g)[i*4+1]?=some (.int .i64 (g[i]).2.1)∧(zLk g)[i*4+2]?=some (.int .i64 (g[i]).2.2.1)∧(zLk g)[i*4+3]?=some (.string ⟨(g[i]).2.2.2.toArray⟩):=by
 induction g generalizing i with
 |nil=>simp at h
 |cons m r ih=>
   have e:zLk (m::r)=zIS m++zLk r:=(by simp[zLk]);have j:(zIS m).length=4:=rfl;rw[e];cases i with
   |zero=>simp[zIS]
   |succ i=>
     obtain⟨a,b,c,d⟩:=ih i (by simpa using h);refine⟨?_,?_,?_,?_⟩
     ·rw[List.getElem?_append_right (by omega),j,show(i+1)*4-4=i*4 by omega,a];simp
     ·rw[List.getElem?_append_right (by omega),j,show(i+1)*4+1-4=i*4+1 by omega,b];simp
     ·rw[List.getElem?_append_right (by omega),j,show(i+1)*4+2-4=i*4+2 by omega,c];simp
     ·rw[List.getElem?_append_right (by omega),j,show(i+1)*4+3-4=i*4+3 by omega,d];simp
theorem zs2 {w:World}{b g d:Nat}{a:List Mem}(h:w.ownsRow b 173 4 (.slice (some ⟨g,0,none⟩) a.length d) a.length (zLk a)):
 ∀j u,(zLk a)[j]?=some u→w.cell? ⟨g,j,none⟩=some u:=by
 intro j u e;have:=h.cells (g:=g) rfl j u e;by_cases h0:j=0
 ·subst h0;simpa [Addr.add]using this
 ·simpa [Addr.add,h0]using this
theorem zSd (w:World)(H g E:Nat)(a:List Mem)(q:w.ownsRow H 173 4 (.slice (some ⟨g,0,none⟩) a.length E) a.length (zLk a))(hl:a.length≤2000000)(L:∀m∈a,m.1.length≤100000000):
 Calls prog 45 #[.slice (some ⟨g,0,none⟩) a.length E] w fun e w'=>
  Below w.heap.size w w'∧((za6 a=true∧MapFn w' 9 w.heap.size a.length a.length (z0Q a)∧e=.returned (.tuple #[.map (some w.heap.size),.bool true]))∨(za6 a=false∧e=.returned (.tuple #[.map none,.bool false]))):=by
 have aa:=@run_makeMap prog;have o:g<w.heap.size:=by
  rcases q.2 with ⟨B,_⟩|⟨g',V,ad,B,_,P,_⟩
  ·cases B
  ·simp at B;rw[B.1];exact zBq P
 have d:=zs2 q;clear q;go_enter func45,ntmps45;go_wp2;go_loopw [12] (fun i wr=>∃j:Nat,j≤a.length∧i=.int .i64 j∧za6 (a.take j)=true∧MapFn wr 9 w.heap.size j j (z0Q (a.take j))∧Below w.heap.size w wr) (fun i _=>a.length-(intOf i).toNat)
 case atStart=>exact⟨0,Nat.zero_le _,rfl,rfl,(MapFn.made w _).congr (fun x=>by cases x<;>rfl),zA _ _⟩
 case round=>
  obtain⟨j,hj,rfl,F,n,b⟩:=hrel;have r:Hid (za6 (a.take j)=true):=F;clear F;by_cases hlt:j<a.length
  ·obtain⟨c0,c1,M,O⟩:=zJ5 a j hlt;have S:wr.cell? ⟨g,j*4,none⟩=_:=(b.cell (p:=⟨g,j*4,none⟩) o).trans (d _ _ c0);have Y:wr.cell? ⟨g,j*4+1,none⟩=_:=(b.cell (p:=⟨g,j*4+1,none⟩) o).trans (d _ _ c1);have U:wr.cell? ⟨g,j*4+2,none⟩=_:=(b.cell (p:=⟨g,j*4+2,none⟩) o).trans (d _ _ M);have d3:wr.cell? ⟨g,j*4+3,none⟩=_:=(b.cell (p:=⟨g,j*4+3,none⟩) o).trans (d _ _ O);have N:=L a[j] (List.getElem_mem hlt);have D:a.take (j+1)=a.take j++[a[j]]:=(by rw[List.take_succ_eq_append_getElem hlt]);have z:Hid (a.take (j+1)=a.take j++[a[j]]):=D;clear D c0 c1 M O d;generalize a[j]=m at*;obtain⟨k,mk,A,y⟩:=m;simp only at S Y U d3 N;have G:=(n.alloc (.cells #[.string ⟨k.toArray⟩,.int .i64 mk,.int .i64 A,.string ⟨y.toArray⟩] 173)).runOk lawS underlying111 (z7H _) (zjt (s:=⟨k.toArray⟩) (by unfold maxLen;show k.toArray.size≤_;simp;omega));have ab:(j:Int)<(a.length:Int):=(by omega);cases hf:z8R (a.take j) k with
   |some m'=>
     have J:Hid (za6 a=false):=by
      have Z:za6 (a.take (j+1))=false:=(by rw[z.out,zFq,r.out,hf];rfl);have:=zvo (a.take (j+1)) (a.drop (j+1)) Z;rw[List.take_append_drop]at this;exact this
     obtain⟨a1,Q,W,X⟩:=m';have t:z0Q (a.take j) (.string k)=some (.agg #[.int .i64 Q,.int .i64 W,.string ⟨X.toArray⟩]):=(by simp[z0Q,hf,aggV]);simp only [t,Option.getD_some,Option.isSome_some]at G;clear hf t z r;go_wp2;go_ret2;exact⟨(b.alloc b.size _).alloc (by have:=b.size;simp;omega) _,Or.inr ⟨J.out,rfl⟩⟩
   |none=>
     have t:z0Q (a.take j) (.string k)=none:=(by simp[z0Q,hf]);have K:Hid (za6 (a.take (j+1))=true):=(by rw[z.out,zFq,r.out,hf];exact rfl);simp only [t,Option.getD_none,Option.isSome_none]at G;have v:=ze6 (l:=a.take j) (m:=(k,mk,A,y)) hf;obtain⟨w',R,h,u⟩:=((n.alloc (.cells #[.string ⟨k.toArray⟩,.int .i64 mk,.int .i64 A,.string ⟨y.toArray⟩] 173)).alloc (.cells #[.int .i64 0,.int .i64 0,.string ⟨#[]⟩] 171)).runPut lawS underlying111 (by unfold maxLen;omega) (.agg #[.int .i64 mk,.int .i64 A,.string ⟨y.toArray⟩]) (zjt (s:=⟨k.toArray⟩) (by unfold maxLen;show k.toArray.size≤_;simp;omega)) trivial (z0Q (a.take j++[(k,mk,A,y)])) v.1 v.2;rw[←z.out]at h;simp only [t]at h;have C:MapFn w' 9 w.heap.size (j+1) (j+1) (z0Q (a.take (j+1))):=(by simpa using h);have I:Below w.heap.size w w':=((b.alloc b.size _).alloc (by have:=b.size;simp;omega) _).trans (u.below (by have:=b.size;simp;omega) (by simp));clear hf t z r v h u;go_wp2;go_roundw
     case rel=>exact⟨j+1,by omega,by go_num,K.out,C,I⟩
     case measure=>simp[intOf];omega
  ·obtain rfl:j=a.length:=(by omega);rw[List.take_length]at n;have J:Hid (za6 a=true):=(by have:=r.out;rw[List.take_length]at this;exact this);clear r;go_wp2;go_ret2;exact⟨b,Or.inl ⟨J.out,n,rfl⟩⟩
theorem zfC (w:World):
 Calls prog 45 #[.slice none 0 0] w fun e w'=>
  Below w.heap.size w w'∧MapFn w' 9 w.heap.size 0 0 (z0Q [])∧e=.returned (.tuple #[.map (some w.heap.size),.bool true]):=by
 have a:=@run_makeMap prog;go_enter func45,ntmps45;go_wp2;refine wp_loop_rounds 1 ?_;rw[rounds_succ];go_wp2;go_ret2;exact⟨zA _ _,(MapFn.made w _).congr (fun x=>by cases x<;>rfl),rfl⟩
theorem zfv (w:World)(b:Nat)(v:Value)(a:List Mem)(d:w.ownsRow b 173 4 v a.length (zLk a))(l:a.length≤2000000)(i:∀m∈a,m.1.length≤100000000):
 Calls prog 45 #[v] w fun e w'=>
  Below w.heap.size w w'∧((za6 a=true∧MapFn w' 9 w.heap.size a.length a.length (z0Q a)∧e=.returned (.tuple #[.map (some w.heap.size),.bool true]))∨(za6 a=false∧e=.returned (.tuple #[.map none,.bool false]))):=by
 rcases d.2 with ⟨rfl,k⟩|⟨g,h,o,rfl,r⟩
 ·have:a=[]:=List.length_eq_zero_iff.1 k;subst this;refine(zfC w).mono ?_;rintro e w' ⟨j,n,rfl⟩;exact⟨j,Or.inl ⟨rfl,n,rfl⟩⟩
 ·exact zSd w b g h a d l i
abbrev Slot:=List UInt8×Bool×List Int
def callSlots:List Slot:=[([99,97,108,108],true,[1]),([98,121],true,[1]),([111,112],true,[3]),([107,101,121],false,[3]),([97,114,103],false,[1]),([101,120,112],false,[1])]
def retSlots:List Slot:=[([114,101,116],true,[1]),([118,97,108],true,[0,1,2])]
def ShapeAt (w:World)(g:Nat)(sl:List Slot):Prop:=
 ∀i (h:i<sl.length),w.cell? ⟨g,i*3,none⟩=some (.string ⟨(sl[i]).1.toArray⟩)∧w.cell? ⟨g,i*3+1,none⟩=some (.bool (sl[i]).2.1)∧
  ∃gk c,w.cell? ⟨g,i*3+2,none⟩=some (.slice (some ⟨gk,0,none⟩) (sl[i]).2.2.length c)∧gk<w.heap.size∧∀j,j<(sl[i]).2.2.length→w.cell? ⟨gk,0+j,none⟩=some (.int .i64 ((sl[i]).2.2.getD j 0))
def zmy (ms:List Mem):List Slot→Nat→Option Nat
 | [],n=>some n
 |s::r,n=>match z8R ms s.1 with
   |none=>if s.2.1 then none else zmy ms r n
   |some m=>if s.2.2.contains m.2.1 then zmy ms r (n+1)else none
def z5q (ms:List Mem)(sl:List Slot):Bool:=match zmy ms sl 0 with|none=>false|some n=>n==ms.length
theorem ziF (W:World)(o:Obj)(n:Nat)(h:n=W.heap.size):(W.alloc o).heap[n]?=some o:=by
 subst h;show(W.heap.push o)[W.heap.size]?=_;simp
theorem zD1 (W:World)(o:Obj)(n:Nat)(h:n<W.heap.size):(W.alloc o).heap[n]?=W.heap[n]?:=Below.heap_alloc _ _ _ h
theorem zSV {w:World} {g gk i:Nat} {c d:Array Value} {t l:TypeId} {f k:Nat×Nat} {s:Slot} (a:w.heap[g]?=some (.cells c t f)) (m:c[i*3]?=some (.string ⟨s.1.toArray⟩)) (h:c[i*3+1]?=some (.bool s.2.1))
 (e:Nat) (n:c[i*3+2]?=some (.slice (some ⟨gk,0,none⟩) s.2.2.length e)) (b:w.heap[gk]?=some (.cells d l k)) (o:∀j,j<s.2.2.length→d[j]?=some (.int .i64 (s.2.2.getD j 0))):
 w.cell? ⟨g,i*3,none⟩=some (.string ⟨s.1.toArray⟩)∧w.cell? ⟨g,i*3+1,none⟩=some (.bool s.2.1)∧
 ∃gk c,w.cell? ⟨g,i*3+2,none⟩=some (.slice (some ⟨gk,0,none⟩) s.2.2.length c)∧gk<w.heap.size∧∀j,j<s.2.2.length→w.cell? ⟨gk,0+j,none⟩=some (.int .i64 (s.2.2.getD j 0)):=
 ⟨by rw[zBk a,m],by rw[zBk a,h],gk,e,by rw[zBk a,n],zBq b,fun j hj=>by rw[zBk b,Nat.zero_add];exact o j hj⟩
theorem zCqh (v:Int):∀j,j < [v].length→(#[Value.int .i64 v])[j]?=some (.int .i64 ([v].getD j 0)):=by
 intro j a;have:j=0:=by simp at a;omega
 subst this;rfl
theorem z2f (a b c:Int):∀j,j < [a,b,c].length→(#[Value.int .i64 a,.int .i64 b,.int .i64 c])[j]?=some (.int .i64 ([a,b,c].getD j 0)):=by
 intro j d;have:j=0∨j=1∨j=2:=by simp at d;omega
 rcases this with rfl|rfl|rfl<;>rfl
theorem zcO (w:World):
 Calls prog 47 #[] w fun e w'=>∃g,e=.returned (.slice (some ⟨g,0,none⟩) 6 6)∧w.heap.size≤g∧g<w'.heap.size∧Below w.heap.size w w'∧ShapeAt w' g callSlots:=by
 go_enter func47,ntmps47;go_wp2;go_ret;refine⟨_,rfl,by omega,by simp,?_,?_⟩
 ·exact(((((((zA _ _).alloc (by simp) _).alloc (by simp;omega) _).alloc (by simp;omega) _).alloc (by simp;omega) _).alloc (by simp;omega) _).alloc (by simp;omega) _)
 ·intro i h
  match i,h with
  |0,_=>exact zSV (s:=callSlots[0]) (gk:=w.heap.size) (ziF _ _ _ (by simp)) rfl rfl 1 rfl ((zD1 _ _ _ (by simp<;>omega)).trans ((zD1 _ _ _ (by simp<;>omega)).trans ((zD1 _ _ _ (by simp<;>omega)).trans ((zD1 _ _ _ (by simp<;>omega)).trans ((zD1 _ _ _ (by simp<;>omega)).trans ((zD1 _ _ _ (by simp<;>omega)).trans (ziF _ _ _ (by simp)))))))) (zCqh 1)
  |1,_=>exact zSV (s:=callSlots[1]) (gk:=w.heap.size+1) (ziF _ _ _ (by simp)) rfl rfl 1 rfl ((zD1 _ _ _ (by simp<;>omega)).trans ((zD1 _ _ _ (by simp<;>omega)).trans ((zD1 _ _ _ (by simp<;>omega)).trans ((zD1 _ _ _ (by simp<;>omega)).trans ((zD1 _ _ _ (by simp<;>omega)).trans (ziF _ _ _ (by simp))))))) (zCqh 1)
  |2,_=>exact zSV (s:=callSlots[2]) (gk:=w.heap.size+1+1) (ziF _ _ _ (by simp)) rfl rfl 1 rfl ((zD1 _ _ _ (by simp<;>omega)).trans ((zD1 _ _ _ (by simp<;>omega)).trans ((zD1 _ _ _ (by simp<;>omega)).trans ((zD1 _ _ _ (by simp<;>omega)).trans (ziF _ _ _ (by simp)))))) (zCqh 3)
  |3,_=>exact zSV (s:=callSlots[3]) (gk:=w.heap.size+1+1+1) (ziF _ _ _ (by simp)) rfl rfl 1 rfl ((zD1 _ _ _ (by simp<;>omega)).trans ((zD1 _ _ _ (by simp<;>omega)).trans ((zD1 _ _ _ (by simp<;>omega)).trans (ziF _ _ _ (by simp))))) (zCqh 3)
  |4,_=>exact zSV (s:=callSlots[4]) (gk:=w.heap.size+1+1+1+1) (ziF _ _ _ (by simp)) rfl rfl 1 rfl ((zD1 _ _ _ (by simp<;>omega)).trans ((zD1 _ _ _ (by simp<;>omega)).trans (ziF _ _ _ (by simp)))) (zCqh 1)
  |5,_=>exact zSV (s:=callSlots[5]) (gk:=w.heap.size+1+1+1+1+1) (ziF _ _ _ (by simp)) rfl rfl 1 rfl ((zD1 _ _ _ (by simp<;>omega)).trans (ziF _ _ _ (by simp))) (zCqh 1)
  |n+6,h=>simp[callSlots]at h;omega
theorem zRx (w:World):
 Calls prog 49 #[] w fun e w'=>∃g,e=.returned (.slice (some ⟨g,0,none⟩) 2 2)∧w.heap.size≤g∧g<w'.heap.size∧Below w.heap.size w w'∧ShapeAt w' g retSlots:=by
 go_enter func49,ntmps49;go_wp2;go_ret;refine⟨_,rfl,by omega,by simp,?_,?_⟩
 ·exact(((zA _ _).alloc (by simp) _).alloc (by simp;omega) _)
 ·intro i h
  match i,h with
  |0,_=>exact zSV (s:=retSlots[0]) (gk:=w.heap.size) (ziF _ _ _ (by simp)) rfl rfl 1 rfl ((zD1 _ _ _ (by simp<;>omega)).trans ((zD1 _ _ _ (by simp<;>omega)).trans (ziF _ _ _ (by simp)))) (zCqh 1)
  |1,_=>exact zSV (s:=retSlots[1]) (gk:=w.heap.size+1) (ziF _ _ _ (by simp)) rfl rfl 3 rfl ((zD1 _ _ _ (by simp<;>omega)).trans (ziF _ _ _ (by simp))) (z2f 0 1 2)
  |n+2,h=>simp[retSlots]at h;omega
theorem ShapeAt.below {w w':World}{g:Nat}{d:List Slot}(h:ShapeAt w g d)(a:g<w.heap.size)(k:Below w.heap.size w w'):ShapeAt w' g d:=by
 intro i m;obtain⟨l,e,gk,c,n,b,o⟩:=h i m;exact⟨(k.cell (p:=⟨g,i*3,none⟩) a).trans l,(k.cell (p:=⟨g,i*3+1,none⟩) a).trans e,gk,c,(k.cell (p:=⟨g,i*3+2,none⟩) a).trans n,zI b k.size,fun j hj=>(k.cell (p:=⟨gk,0+j,none⟩) b).trans (o j hj)⟩
theorem zKU {α:Type}(l:List α)(j:Nat)(h:j<l.length):l.drop j=l[j]::l.drop (j+1):=List.drop_eq_getElem_cons h
theorem zBH (w:World) (L n g M:Nat) (b:List Mem) (a:List Slot) (k:MapFn w 9 L n b.length (z0Q b)) (N:g<w.heap.size) (o:ShapeAt w g a) (Z:a.length≤1000) (_hml:b.length≤2000000)
 (H:∀s∈a,s.1.length≤1000∧s.2.2.length≤1000):
 Calls prog 46 #[.map (some L),.slice (some ⟨g,0,none⟩) a.length M] w fun e w'=>e=.returned (.bool (z5q b a))∧Below w.heap.size w w':=by
 go_enter func46,ntmps46;go_wp2;go_loopw [5,12] (fun fd i wr=>∃j c:Nat,j≤a.length∧c≤j∧i=.int .i64 j∧fd=.int .i64 c∧zmy b (a.drop j) c=zmy b a 0∧Below w.heap.size w wr) (fun _ i _=>a.length-(intOf i).toNat)
 case atStart=>exact⟨0,0,Nat.zero_le _,Nat.zero_le _,rfl,rfl,rfl,zD⟩
 case round=>
  obtain⟨j,c,I,hc,rfl,rfl,K,h⟩:=hrel;have hR:Hid (zmy b (a.drop j) c=zmy b a 0):=K;clear K;have q:=h.size;have l:=k.below h;by_cases hlt:j<a.length
  ·obtain⟨O,S,gk,E,P,G,F⟩:=(o.below N h) j hlt;have u:Hid (a.drop j=a[j]::a.drop (j+1)):=zKU a j hlt;have J:=H a[j] (List.getElem_mem hlt);generalize a[j]=s at*;obtain⟨t,y,d⟩:=s;simp only at O S P F J;have X:(j:Int)<(a.length:Int):=(by omega);have D:=(l.alloc (.cells #[.string ⟨t.toArray⟩,.bool y,.slice (some ⟨gk,0,none⟩) d.length E] 176)).runOk lawS underlying111 (z7H _) (zjt (s:=⟨t.toArray⟩) (by unfold maxLen;show t.toArray.size≤_;simp;omega));cases hf:z8R b t with
   |none=>
     have v:z0Q b (.string t)=none:=(by simp[z0Q,hf]);simp only [v,Option.getD_none,Option.isSome_none]at D;cases y with
     |true=>
       have z:Hid (z5q b a=false):=by
        unfold z5q;rw[←hR.out,u.out,zmy];simp[hf,Hid]
       clear hf v hR u k o l;go_wp2;go_ret;exact⟨by rw[z.out];rfl,(h.alloc q _).alloc (by simp;omega) _⟩
     |false=>
       have A:Hid (zmy b (a.drop (j+1)) c=zmy b a 0):=by
        rw[←hR.out,u.out];show _=zmy b (_::_) c;rw[zmy];simp[hf]
       clear hf v hR u k o l;go_wp2;go_roundw
       case rel=>exact⟨j+1,c,by omega,by omega,by go_num,rfl,A.out,(h.alloc q _).alloc (by simp;omega) _⟩
       case measure=>simp[intOf];omega
   |some m=>
     obtain⟨a1,r,Q,R⟩:=m;have v:z0Q b (.string t)=some (.agg #[.int .i64 r,.int .i64 Q,.string ⟨R.toArray⟩]):=(by simp[z0Q,hf,aggV]);simp only [v,Option.getD_some,Option.isSome_some]at D;have B:Hid (zmy b a 0=if d.contains r then zmy b (a.drop (j+1)) (c+1)else none):=by
      rw[←hR.out,u.out];show zmy b (_::_) c=_;rw[zmy];simp[hf]
     have x:∀W:World,Below w.heap.size w W→Below wr.heap.size wr W→Calls prog 86 #[.slice (some ⟨gk,0,none⟩) d.length E,.int .i64 r] W fun e w'=>e=.returned (.bool (d.contains r))∧w'=W:=by
      intro W _ V;have:=Tryz.slices_Contains_int gk 0 d.length E d r W zH (by omega) (fun j I=>(V.cell (p:=⟨gk,0+j,none⟩) G).trans (F j I));rw[List.take_length]at this;exact this
     clear hf v hR u k o l F;go_wp2_with (go_at_call 86;refine(x _ ((h.alloc q _).alloc (by simp;omega) _) ((zA _ _).alloc (by simp) _)).mono ?_);rintro e Y ⟨rfl,rfl⟩;cases hk:d.contains r with
     |true=>
       have A:Hid (zmy b (a.drop (j+1)) (c+1)=zmy b a 0):=(by rw[B.out,if_pos hk];exact rfl);clear hk B x;go_wp2;go_roundw
       case rel=>exact⟨j+1,c+1,by omega,by omega,by go_num,by go_num,A.out,(h.alloc q _).alloc (by simp;omega) _⟩
       case measure=>simp[intOf];omega
     |false=>
       have z:Hid (z5q b a=false):=(by unfold z5q;rw[B.out,if_neg (by rw[hk];exact Bool.false_ne_true)];exact rfl);clear hk B x;go_wp2;go_ret;exact⟨by rw[z.out];rfl,(h.alloc q _).alloc (by simp;omega) _⟩
  ·have C:j=a.length:=(by omega);have z:Hid (z5q b a=((c:Int)==(b.length:Int))):=by
    unfold z5q;rw[←hR.out,C,List.drop_length,zmy];show(c==b.length)=_;rw[Bool.eq_iff_iff];simp;omega
   clear hR C;have U:=l.runLen underlying111 3;go_wp2;go_ret;exact⟨by rw[z.out];rfl,h⟩
abbrev zqk:=List UInt8×List UInt8×Int×Int
def sReg:List UInt8:=[114,101,103,105,115,116,101,114]
def sKv:List UInt8:=[107,118]
def zsK:List UInt8:=[113,117,101,117,101]
def sSet:List UInt8:=[115,101,116]
def zyy:List UInt8:=[108,111,99,107]
def opTab:List zqk:=[(sReg,[114,101,97,100],0,2),(sReg,[119,114,105,116,101],2,1),(sReg,[99,97,115],6,4),
 (sKv,[103,101,116],1,3),(sKv,[112,117,116],3,1),(sKv,[100,101,108],1,4),(zsK,[101,110,113],2,1),(zsK,[100,101,113],0,3),
 (sSet,[97,100,100],1,4),(sSet,[114,101,109],1,4),(sSet,[104,97,115],1,4),(zyy,[97,99,113],0,4),(zyy,[114,101,108],0,4)]
def zq5 (o:zqk):List Value:=[.string ⟨o.1.toArray⟩,.string ⟨o.2.1.toArray⟩,.int .u8 o.2.2.1,.int .u8 o.2.2.2]
def zeb:Array Value:=(opTab.flatMap zq5).toArray
def Ops (w:World):Prop:=w.var? prog "linear/models.operations"=some zeb
theorem Ops.below {w w':World}(h:Ops w)(k:Below 10 w w'):Ops w':=var?_below k (show prog.globalNamed "linear/models.operations"=some 0 by kernel_rfl) (by omega) h
theorem Ops.blk {w:World}(h:Ops w):∃t f,w.heap[0]?=some (.cells zeb t f):=by
 unfold Ops World.var? at h;rw[show prog.globalNamed "linear/models.operations"=some 0 by kernel_rfl]at h;simp only [Option.bind_some]at h;split at h
 ·rename_i cs t f hb;exact⟨t,f,by rw[hb];simp at h;rw[h]⟩
 ·cases h
def zQS (o:zqk):Value:=.agg #[.string ⟨o.1.toArray⟩,.string ⟨o.2.1.toArray⟩,.int .u8 o.2.2.1,.int .u8 o.2.2.2]
theorem zsU (j:Nat)(h:j<opTab.length)(w:World):(Instr.index 61 (.agg zeb) (.int .i64 j)).run prog w=.ok (zQS opTab[j]) w:=by
 match j,h with
 |0,_=>show Sem.run prog (Instr.index 61 (.agg zeb) (.int .i64 ((0:Nat):Int))) w=.ok (zQS opTab[0]) w;kernel_rfl
 |1,_=>show Sem.run prog (Instr.index 61 (.agg zeb) (.int .i64 ((1:Nat):Int))) w=.ok (zQS opTab[1]) w;kernel_rfl
 |2,_=>show Sem.run prog (Instr.index 61 (.agg zeb) (.int .i64 ((2:Nat):Int))) w=.ok (zQS opTab[2]) w;kernel_rfl
 |3,_=>show Sem.run prog (Instr.index 61 (.agg zeb) (.int .i64 ((3:Nat):Int))) w=.ok (zQS opTab[3]) w;kernel_rfl
 |4,_=>show Sem.run prog (Instr.index 61 (.agg zeb) (.int .i64 ((4:Nat):Int))) w=.ok (zQS opTab[4]) w;kernel_rfl
 |5,_=>show Sem.run prog (Instr.index 61 (.agg zeb) (.int .i64 ((5:Nat):Int))) w=.ok (zQS opTab[5]) w;kernel_rfl
 |6,_=>show Sem.run prog (Instr.index 61 (.agg zeb) (.int .i64 ((6:Nat):Int))) w=.ok (zQS opTab[6]) w;kernel_rfl
 |7,_=>show Sem.run prog (Instr.index 61 (.agg zeb) (.int .i64 ((7:Nat):Int))) w=.ok (zQS opTab[7]) w;kernel_rfl
 |8,_=>show Sem.run prog (Instr.index 61 (.agg zeb) (.int .i64 ((8:Nat):Int))) w=.ok (zQS opTab[8]) w;kernel_rfl
 |9,_=>show Sem.run prog (Instr.index 61 (.agg zeb) (.int .i64 ((9:Nat):Int))) w=.ok (zQS opTab[9]) w;kernel_rfl
 |10,_=>show Sem.run prog (Instr.index 61 (.agg zeb) (.int .i64 ((10:Nat):Int))) w=.ok (zQS opTab[10]) w;kernel_rfl
 |11,_=>show Sem.run prog (Instr.index 61 (.agg zeb) (.int .i64 ((11:Nat):Int))) w=.ok (zQS opTab[11]) w;kernel_rfl
 |12,_=>show Sem.run prog (Instr.index 61 (.agg zeb) (.int .i64 ((12:Nat):Int))) w=.ok (zQS opTab[12]) w;kernel_rfl
 |n+13,h=>simp[opTab]at h;omega
def zOI (m:List UInt8)(l:List zqk):Bool:=l.any (fun o=>o.1==m)
def zco (m n:List UInt8)(l:List zqk):Option zqk:=l.find? (fun o=>o.1==m&&o.2.1==n)
theorem zYW (s:ByteArray):s.toList=s.data.toList:=by
 exact ByteArray.toList_eq s
theorem zZL (s:ByteArray)(w:World)(q:Ops w)(_hng:10≤w.heap.size):
 Calls prog 11 #[.string s] w fun e w'=>e=.returned (.bool (zOI s.data.toList opTab))∧Below w.heap.size w w':=by
 obtain⟨t,p,n⟩:=q.blk;go_enter func11,ntmps11;go_wp2_with (refine wpList_load_row rfl 61 _ rfl 0 rfl t _ p _ n underlying61 rfl (by kernel_rfl) ?_);go_loopw [6] (fun i wr=>∃j:Nat,j≤opTab.length∧i=.int .i64 j∧zOI s.data.toList (opTab.drop j)=zOI s.data.toList opTab∧Below w.heap.size w wr) (fun i _=>opTab.length-(intOf i).toNat)
 case atStart=>exact⟨0,Nat.zero_le _,rfl,rfl,zD⟩
 case round=>
  obtain⟨j,u,rfl,hR,a⟩:=hrel;have b:Hid (zOI s.data.toList (opTab.drop j)=zOI s.data.toList opTab):=hR;clear hR n;by_cases hlt:j<opTab.length
  ·have l:=zsU j hlt;have g:Hid (opTab.drop j=opTab[j]::opTab.drop (j+1)):=zKU _ j hlt;have m:(j:Int)<13:=(by simp[opTab]at hlt;omega);generalize opTab[j]=o at*;obtain⟨r,on,x,v⟩:=o;unfold zQS at l;simp only at l;have h:=a.size;cases hq:(r==s.toList)with
   |true=>
     have d:Hid (zOI s.data.toList opTab=true):=(by rw[←b.out,g.out];simp[zOI,←zYW,hq,Hid]);clear b g;go_wp2;go_ret;exact⟨by rw[d.out];rfl,a.alloc h _⟩
   |false=>
     have d:Hid (zOI s.data.toList (opTab.drop (j+1))=zOI s.data.toList opTab):=(by rw[←b.out,g.out];simp[zOI,←zYW,hq,Hid]);clear b g;go_wp2;go_roundw
     case rel=>exact⟨j+1,by omega,by go_num,d.out,a.alloc h _⟩
     case measure=>simp[intOf];omega
  ·have k:j=opTab.length:=(by omega);have d:Hid (zOI s.data.toList opTab=false):=(by rw[←b.out,k,List.drop_length];exact rfl);have m:¬(j:Int)<13:=(by simp[opTab]at hlt;omega);clear b k;go_wp2;go_ret;exact⟨by rw[d.out];rfl,a⟩
theorem zoY (s n:ByteArray)(w:World)(G:Ops w)(I:10≤w.heap.size):
 Calls prog 28 #[.string s,.string n] w fun e w'=>Below w.heap.size w w'∧
  ((∃o,zco s.data.toList n.data.toList opTab=some o∧e=.returned (.tuple #[zQS o,.bool true]))∨(zco s.data.toList n.data.toList opTab=none∧e=.returned (.tuple #[zQS ([],[],0,0),.bool false]))):=by
 obtain⟨H,F,E⟩:=G.blk;go_enter func28,ntmps28;go_wp2_with (refine wpList_load_row rfl 61 _ rfl 0 rfl H _ F _ ((zD1 _ _ _ (by omega)).trans E) underlying61 rfl (by kernel_rfl) ?_);go_loopw [9] (fun i wr=>∃j:Nat,j≤opTab.length∧i=.int .i64 j∧zco s.data.toList n.data.toList (opTab.drop j)=zco s.data.toList n.data.toList opTab∧Below w.heap.size w wr∧wr.heap[w.heap.size]?=some (.cells #[.string ⟨#[]⟩,.string ⟨#[]⟩,.int .u8 0,.int .u8 0] 60 (0,0))) (fun i _=>opTab.length-(intOf i).toNat)
 case atStart=>exact⟨0,Nat.zero_le _,rfl,rfl,zA _ _,ziF _ _ _ rfl⟩
 case round=>
  obtain⟨j,K,rfl,hR,b,a⟩:=hrel;have d:Hid (zco s.data.toList n.data.toList (opTab.drop j)=zco s.data.toList n.data.toList opTab):=hR;clear hR E;have l:=zBq a;have B:=zBk a 0;have D:=zBk a 1;have C:=zBk a 2;have z:=zBk a 3;have M:=zBn a 0;have f1:=zBn a 1;have L:=zBn a 2;have J:=zBn a 3;simp at B D C z;by_cases hlt:j<opTab.length
  ·have y:=zsU j hlt;have k:Hid (opTab.drop j=opTab[j]::opTab.drop (j+1)):=zKU _ j hlt;have A:(j:Int)<13:=(by simp[opTab]at hlt;omega);generalize opTab[j]=o at*;obtain⟨q,on,t,r⟩:=o;unfold zQS at y;simp only at y;have u:=b.size;cases hq:(q==s.toList)with
   |true=>
     cases hq2:(on==n.toList)with
     |true=>
       have h:Hid (zco s.data.toList n.data.toList opTab=some (q,on,t,r)):=(by rw[←d.out,k.out];simp[zco,←zYW,hq,hq2,Hid]);clear d k a;go_wp2;exact bodyPost_ret (v:=.tuple #[zQS (q,on,t,r),.bool true]) (by simp[results,results28,go_sem,B,D,C,z,l,zQS]) rfl ⟨((((b.setCell (p:=⟨w.heap.size,0,none⟩) zH _).setCell (p:=⟨w.heap.size,1,none⟩) zH _).setCell (p:=⟨w.heap.size,2,none⟩) zH _).setCell (p:=⟨w.heap.size,3,none⟩) zH _).alloc (by simp[World.setCell];omega) _,Or.inl ⟨_,h.out,rfl⟩⟩
     |false=>
       have h:Hid (zco s.data.toList n.data.toList (opTab.drop (j+1))=zco s.data.toList n.data.toList opTab):=(by rw[←d.out,k.out];simp[zco,←zYW,hq2,Hid]);have g:=(zD1 wr (.cells #[.string ⟨q.toArray⟩,.string ⟨on.toArray⟩,.int .u8 t,.int .u8 r] 60) w.heap.size l).trans a;have m:Hid _:=g;clear d k a g;go_wp2;go_roundw
       case rel=>exact⟨j+1,by omega,by go_num,h.out,b.alloc u _,m.out⟩
       case measure=>simp[intOf];omega
   |false=>
     have h:Hid (zco s.data.toList n.data.toList (opTab.drop (j+1))=zco s.data.toList n.data.toList opTab):=(by rw[←d.out,k.out];simp[zco,←zYW,hq,Hid]);have g:=(zD1 wr (.cells #[.string ⟨q.toArray⟩,.string ⟨on.toArray⟩,.int .u8 t,.int .u8 r] 60) w.heap.size l).trans a;have m:Hid _:=g;clear d k a g;go_wp2;go_roundw
     case rel=>exact⟨j+1,by omega,by go_num,h.out,b.alloc u _,m.out⟩
     case measure=>simp[intOf];omega
  ·have x:j=opTab.length:=(by omega);have h:Hid (zco s.data.toList n.data.toList opTab=none):=(by rw[←d.out,x,List.drop_length];exact rfl);have A:¬(j:Int)<13:=(by simp[opTab]at hlt;omega);clear d x a;go_wp2;exact bodyPost_ret (v:=.tuple #[zQS ([],[],0,0),.bool false]) (by simp[results,results28,go_sem,B,D,C,z,zQS]) rfl ⟨(((b.setCell (p:=⟨w.heap.size,0,none⟩) zH _).setCell (p:=⟨w.heap.size,1,none⟩) zH _).setCell (p:=⟨w.heap.size,2,none⟩) zH _).setCell (p:=⟨w.heap.size,3,none⟩) zH _,Or.inr ⟨h.out,rfl⟩⟩
def sKey:List UInt8:=[107,101,121]
def sArg:List UInt8:=[97,114,103]
def sExp:List UInt8:=[101,120,112]
def z8C (ms:List Mem):Int:=(if(z8R ms sKey).isSome then 1 else 0)+(if(z8R ms sArg).isSome then 2 else 0)+(if(z8R ms sExp).isSome then 4 else 0)
theorem zBE (d:List Mem)(e:List UInt8):∃a b c,(z0Q d (.string e)).getD (.agg #[.int .i64 0,.int .i64 0,.string ⟨#[]⟩])=.agg #[.int .i64 a,.int .i64 b,.string c]∧(z0Q d (.string e)).isSome=(z8R d e).isSome:=by
 cases h:z8R d e with
 |none=>exact⟨0,0,⟨#[]⟩,by simp[z0Q,h],by simp[z0Q,h]⟩
 |some m=>exact⟨m.2.1,m.2.2.1,⟨m.2.2.2.toArray⟩,by simp[z0Q,h,aggV],by simp[z0Q,h]⟩
theorem z8H (w:World)(l n sz:Nat)(b:List Mem)(a:MapFn w 9 l n sz (z0Q b)):
 Calls prog 87 #[.map (some l)] w fun e w'=>e=.returned (.int .u8 (z8C b))∧Below w.heap.size w w':=by
 obtain⟨j,o,k,m,h⟩:=zBE b sKey;obtain⟨t,q,v,i,d⟩:=zBE b sArg;obtain⟨C,B,D,p,g⟩:=zBE b sExp;have r:=a.runOk lawS underlying111 (z7H _) (zjt (s:=⟨#[107,101,121]⟩) (by decide));have A:=(a.alloc (.cells #[.int .i64 j,.int .i64 o,.string k] 171)).runOk lawS underlying111 (z7H _) (zjt (s:=⟨#[97,114,103]⟩) (by decide));have u:=((a.alloc (.cells #[.int .i64 j,.int .i64 o,.string k] 171)).alloc (.cells #[.int .i64 t,.int .i64 q,.string v] 171)).runOk lawS underlying111 (z7H _) (zjt (s:=⟨#[101,120,112]⟩) (by decide));rw[show((⟨#[107,101,121]⟩:ByteArray)).data.toList=sKey from rfl,m,h]at r;rw[show((⟨#[97,114,103]⟩:ByteArray)).data.toList=sArg from rfl,i,d]at A;rw[show((⟨#[101,120,112]⟩:ByteArray)).data.toList=sExp from rfl,p,g]at u;unfold z8C;clear m h i d p g a;generalize (z8R b sKey).isSome=x at*;generalize (z8R b sArg).isSome=y at*;generalize (z8R b sExp).isSome=z at*;cases x<;>cases y<;>cases z
 all_goals
  go_enter func87,ntmps87;go_wp2;go_ret;refine⟨?_,((zA _ _).alloc (by simp) _).alloc (by simp;omega) _⟩
  first
   | rfl
   | (simp;done)
   | decide
def zIyy (g kind:Int):Bool:=decide (0≤kind∧kind≤2)&&decide ((g/(2 ^ kind.toNat))%2=1)
theorem zAh (m n:ByteArray)(h g a:Int)(w:World)(b:g=0∨g=1∨g=2∨g=3∨g=4)(d:a=0∨a=1∨a=2):
 Calls prog 88 #[.agg #[.string m,.string n,.int .u8 h,.int .u8 g],.int .i64 a] w fun e w'=>e=.returned (.bool (zIyy g a))∧Below w.heap.size w w':=by
 rcases d with rfl|rfl|rfl<;>rcases b with rfl|rfl|rfl|rfl|rfl
 all_goals
  go_enter func88,ntmps88;go_wp2;go_quiet (fail);go_wp2;go_ret;refine⟨?_,below_drewN (zA _ _) _⟩
  first
   | rfl
   | (simp[zIyy];done)
   | decide
structure OpV where
 id:Int
 cl:Int
 name:List UInt8
 key:List UInt8
 arg:Int
 exp:Int
 call:Int
 ret:Int
 vk:Int
 vn:Int
def opvCells (o:OpV):List Value:=[.int .i64 o.id,.int .i64 o.cl,.string ⟨o.name.toArray⟩,.string ⟨o.key.toArray⟩,.int .i64 o.arg,.int .i64 o.exp,.int .i64 o.call,.int .i64 o.ret,.int .i64 o.vk,.int .i64 o.vn]
def opsRow (l:List OpV):List Value:=l.flatMap opvCells
def z09 (l:List OpV)(x:Int):Option Nat:=l.findIdx? (fun o=>o.id==x)
def idFn (l:List OpV):Lit→Option Value
 |.int .i64 x=>(z09 l x).map (fun i=>Value.int .i64 (i:Int))
 |_=>none
def openOf (l:List OpV)(c:Int):Nat:=(l.filter (fun o=>o.cl==c&&o.ret==0)).length
structure Rec (w:World)(rc b1 b2 base n:Nat)(v:Value)(model:ByteArray)(ops:List OpV):Prop where
 blk:w.heap[rc]?=some (.cells #[.string model,v,.map (some b1),.map (some b2)] 64 (0,0))
 own:w.ownsRow base 27 10 v ops.length (opsRow ops)
 ids:∃sz,MapFn w 2 b1 n sz (idFn ops)
 opn:∃sz f,MapFn w 2 b2 n sz f∧∀c,(f (.int .i64 c)).getD (.int .i64 0)=.int .i64 (openOf ops c)
 lt1:rc<base
 lt2:b1<base
 lt3:b2<base
 ne1:rc≠b1
 ne2:rc≠b2
 ne3:b1≠b2
 few:n≤1000∧ops.length≤n
 wfs:∀o∈ops,(Lit.int .i64 o.cl).wf=true
theorem Rec.kept {w w':World}{g m l b n:Nat}{v:Value}{a:ByteArray}{d:List OpV}{S:List Nat}(h:Rec w g m l b n v a d)(k:Kept S w w')(j:∀x∈S,False):Rec w' g m l b n v a d:=by
 have e:∀x,x∉S:=fun x hx=>j x hx;obtain⟨sz,p⟩:=h.ids;obtain⟨i,f,o,q⟩:=h.opn;exact⟨(k.block g (zBq h.blk) (e _)).trans h.blk,zzF h.own k (fun x hx=>(j x hx).elim),⟨sz,p.kept k (e _)⟩,⟨i,f,o.kept k (e _),q⟩,h.lt1,h.lt2,h.lt3,h.ne1,h.ne2,h.ne3,h.few,h.wfs⟩
theorem Rec.below {w w':World}{g i e b n:Nat}{v:Value}{a:ByteArray}{d:List OpV}(h:Rec w g i e b n v a d)(k:Below w.heap.size w w'):Rec w' g i e b n v a d:=
 h.kept (S:=[]) (Kept.of_below k) (by simp)
def z3k:List UInt8:=[99,97,108,108]
def sBy:List UInt8:=[98,121]
def sOp:List UInt8:=[111,112]
def zqd (ms:List Mem)(nm:List UInt8):Int:=((z8R ms nm).map (fun m=>m.2.2.1)).getD 0
def zch (ms:List Mem)(nm:List UInt8):List UInt8:=((z8R ms nm).map (fun m=>m.2.2.2)).getD []
def zRl (model:List UInt8)(ops:List OpV)(ms:List Mem)(line:Int):Int×Option OpV:=
 let o:OpV:=⟨zqd ms z3k,zqd ms sBy,zch ms sOp,zch ms sKey,zqd ms sArg,zqd ms sExp,line,0,0,0⟩
 match zco model o.name opTab with
 |none=>(4,none)
 |some r=>if r.2.2.1=z8C ms then(if(z09 ops o.id).isSome then(5,none)else if openOf ops o.cl > 0 then(6,none)else(0,some o))else(4,none)
theorem zxj (b:List Mem)(d:List UInt8):∃a,(z0Q b (.string d)).getD (.agg #[.int .i64 0,.int .i64 0,.string ⟨#[]⟩])=.agg #[.int .i64 a,.int .i64 (zqd b d),.string ⟨(zch b d).toArray⟩]:=by
 cases h:z8R b d with
 |none=>exact⟨0,by simp[z0Q,zqd,zch,h]⟩
 |some m=>exact⟨m.2.1,by simp[z0Q,zqd,zch,h,aggV]⟩
theorem zxZ {x:Int}(h:(Lit.int .i64 x).wf=true):keyOf prog 2 (.int .i64 x)=some (.int .i64 x):=keyOf_int_mk underlying2 h
theorem zLY (x y z:Value)(w:World):(Instr.field 171 (.agg #[x,y,z]) 0).run prog w=.ok (.agg #[x,y]) w:=by kernel_rfl
theorem z6Y (x y z:Value)(w:World):(Instr.field 171 (.agg #[x,y,z]) 1).run prog w=.ok z w:=by kernel_rfl
theorem zwU (x y:Value)(w:World):(Instr.field 25 (.agg #[x,y]) 1).run prog w=.ok y w:=by kernel_rfl
def zp1 (f:Lit→Option Value)(c:Int)(x:Int):Lit→Option Value
 |.int .i64 y=>if y=c then some (.int .i64 x)else f (.int .i64 y)
 |l=>f l
theorem zSg (f:Lit→Option Value)(c x:Int):zp1 f c x (.int .i64 c)=some (.int .i64 x):=by simp[zp1]
theorem zPm (f:Lit→Option Value)(c x:Int):∀l,l≠.int .i64 c→zp1 f c x l=f l:=by
 intro l a;unfold zp1;split
 ·rw[if_neg (fun e=>a (by rw[e]))]
 ·rfl
theorem zqg (a:List OpV)(o:OpV)(c:Int):openOf (a++[o]) c=openOf a c+(if o.cl=c∧o.ret=0 then 1 else 0):=by
 unfold openOf;rw[List.filter_append,zJ];congr 1;by_cases h:o.cl=c∧o.ret=0
 ·simp[h]
 ·rw[if_neg h];have:(o.cl==c&&o.ret==0)=false:=by
   rw[Bool.eq_false_iff];intro b;simp at b;exact h b
  simp[this]
theorem zji (a:List OpV)(o:OpV)(x:Int)(h:z09 a o.id=none):z09 (a++[o]) x=if x=o.id then some a.length else z09 a x:=by
 unfold z09 at*;rw[List.findIdx?_append];by_cases e:x=o.id
 ·subst e;rw[h,if_pos rfl];simp
 ·rw[if_neg e];have b:(o.id==x)=false:=by simp;exact fun h=>e h.symm
  cases hq:List.findIdx? (fun o=>o.id==x) a with
  |none=>simp[b]
  |some i=>simp
theorem zQw (a:List OpV)(o:OpV)(h:z09 a o.id=none):idFn (a++[o]) (.int .i64 o.id)=some (.int .i64 (a.length:Int))∧∀l,l≠.int .i64 o.id→idFn (a++[o]) l=idFn a l:=by
 constructor
 ·simp[idFn,zji a o _ h]
 ·intro l b;unfold idFn;split
  ·rename_i x;rw[zji a o _ h,if_neg (fun e=>b (by rw[e]))]
  ·rfl
theorem z2L (l:List OpV)(o:OpV):opsRow (l++[o])=opsRow l++opvCells o:=by simp[opsRow]
theorem zIW {w:World}{b:Nat}{e:TypeId}{d:Nat}{v:Value}{n:Nat}{i:List Value}(h:w.ownsRow b e d v n i):∃a c,v=.slice a n c:=by
 rcases h.2 with ⟨rfl,rfl⟩|⟨g,j,k,rfl,_⟩
 ·exact⟨none,0,rfl⟩
 ·exact⟨_,_,rfl⟩
theorem zSl:(prog.info? 27).map (fun i=>(i.zero,i.size,i.bytes))=some (some (.agg #[.int .i64 0,.int .i64 0,.string ⟨#[]⟩,.string ⟨#[]⟩,.int .i64 0,.int .i64 0,.int .i64 0,.int .i64 0,.int .i64 0,.int .i64 0]),10,96):=by kernel_rfl
theorem z9R (w:World)(t:TypeId)(l:List Value):∀j u,l[j]?=some u→(w.alloc (.cells l.toArray t)).cell? ((⟨w.heap.size,0,none⟩:Addr).add j)=some u:=by
 intro j u b;have a:=ziF w (.cells l.toArray t) w.heap.size rfl;have e:(⟨w.heap.size,0,none⟩:Addr).add j=⟨w.heap.size,j,none⟩:=by
  by_cases h0:j=0
  ·subst h0;simp[Addr.add]
  ·simp[Addr.add,h0]
 rw[e,zBk a];simpa using b
theorem zti {P:Program} {b:Array Oper} {o:Oper} {a:Act} {w:World} {K:Act→World→Prop} {Q:Exit→Act→World→Prop} {E:Prop}
 (i:o.guard=none) (s x:Operand) (t:TypeId) (e:o.op=Op.call { callee:=Callee.builtin Builtin.append,args:=#[s,x],argTypes:=#[t,t] })
 (v h g:Value) (w':World) (j:a.eval s=v) (k:a.eval x=h) (d:(Builtin.append_ #[t,t] o.type #[v,h]).run P w=.ok g w') (hK:K (a.put o.dst g) w'):
 if Region.wanted o (yielded b a.tmps)=true then Oper.wp P o a w K Q else E:=by
 have l:Region.wanted o (yielded b a.tmps)=true:=by simp[Region.wanted,i]
 rw[if_pos l];unfold Oper.wp;simp[execOp,e,resolve,invoke,builtin,j,k,d,Result.andThen];exact hK
theorem Kept.grownS {S:List Nat}{a w w':World}{d:Option Nat}(h:Kept S a w)(b:w.grownBy w' d)(j:∀g,d=some g→g∈S):Kept S a w':=
 ⟨b.os.trans h.os,b.tape.trans h.tape,b.output.trans h.output,Nat.le_trans h.size b.size,fun i hi hn=>
  (b.block i (zI hi h.size) (fun e=>hn (j i e.symm))).trans (h.block i hi hn)⟩
theorem z1l {a:List OpV}{f:Lit→Option Value}(h:∀c,(f (.int .i64 c)).getD (.int .i64 0)=.int .i64 (openOf a c))(o:OpV)(g:o.ret=0)(d:openOf a o.cl=0):
 ∀c,(zp1 f o.cl 1 (.int .i64 c)).getD (.int .i64 0)=.int .i64 (openOf (a++[o]) c):=by
 intro c;rw[zqg];by_cases e:c=o.cl
 ·subst e;rw[zSg,d];simp[g]
 ·rw[zPm _ _ _ _ (by intro b;apply e;injection b),h c,if_neg (fun b=>e b.1.symm)];simp
theorem zFY (s n:ByteArray)(w:World)(g:Ops w)(d:10≤w.heap.size):
 Calls prog 28 #[.string s,.string n] w fun e w'=>∃(om on:List UInt8) (nd gv:Int) (ok:Bool),e=.returned (.tuple #[.agg #[.string ⟨om.toArray⟩,.string ⟨on.toArray⟩,.int .u8 nd,.int .u8 gv],.bool ok])∧Below w.heap.size w w'∧
  ((ok=true∧zco s.data.toList n.data.toList opTab=some (om,on,nd,gv))∨(ok=false∧zco s.data.toList n.data.toList opTab=none)):=by
 refine(zoY s n w g d).mono ?_;rintro e w' ⟨b,⟨o,a,rfl⟩|⟨a,rfl⟩⟩
 ·exact⟨o.1,o.2.1,o.2.2.1,o.2.2.2,true,rfl,b,Or.inl ⟨rfl,a⟩⟩
 ·exact⟨[],[],0,0,false,rfl,b,Or.inr ⟨rfl,a⟩⟩
structure ZeroOp (w:World)(b:Nat):Prop where
 c0:w.cell? ⟨b,0,none⟩=some (.string ⟨#[]⟩)
 c1:w.cell? ⟨b,1,none⟩=some (.string ⟨#[]⟩)
 c2:w.cell? ⟨b,2,none⟩=some (.int .u8 0)
 c3:w.cell? ⟨b,3,none⟩=some (.int .u8 0)
 f0:w.frozen? ⟨b,0,none⟩=false
 f1:w.frozen? ⟨b,1,none⟩=false
 f2:w.frozen? ⟨b,2,none⟩=false
 f3:w.frozen? ⟨b,3,none⟩=false
 blk:w.heap[b]?=some (.cells #[.string ⟨#[]⟩,.string ⟨#[]⟩,.int .u8 0,.int .u8 0] 60 (0,0))
theorem zkn (s n:ByteArray)(b W:World)(j:Below b.heap.size b W)(m:Ops b)(k:10≤b.heap.size):
 Calls prog 28 #[.string s,.string n] W fun e w'=>∃(g on:List UInt8) (i d:Int) (ok:Bool),e=.returned (.tuple #[.agg #[.string ⟨g.toArray⟩,.string ⟨on.toArray⟩,.int .u8 i,.int .u8 d],.bool ok])∧Below b.heap.size b w'∧
  ((ok=true∧zco s.data.toList n.data.toList opTab=some (g,on,i,d))∨(ok=false∧zco s.data.toList n.data.toList opTab=none))∧
  (W.heap[b.heap.size]?=some (.cells #[.string ⟨#[]⟩,.string ⟨#[]⟩,.int .u8 0,.int .u8 0] 60 (0,0))→ZeroOp w' b.heap.size):=by
 refine(zFY s n W (m.below (j.mono k)) (Nat.le_trans k j.size)).mono ?_;rintro e w' ⟨g,on,i,d,ok,rfl,l,h⟩;refine⟨g,on,i,d,ok,rfl,j.trans (l.mono j.size),h,fun hz=>?_⟩;have a:=(l.block b.heap.size (zBq hz)).trans hz;exact⟨by rw[zBk a];rfl,by rw[zBk a];rfl,by rw[zBk a];rfl,by rw[zBk a];rfl,zBn a _,zBn a _,zBn a _,zBn a _,a⟩
theorem blk4 {w:World}{b:Nat}{i j k l:Value}{t:TypeId}(h:w.heap[b]?=some (.cells #[i,j,k,l] t (0,0)))(d g e a:Value):
 ((((w.setCell ⟨b,0,none⟩ d).setCell ⟨b,1,none⟩ g).setCell ⟨b,2,none⟩ e).setCell ⟨b,3,none⟩ a).heap[b]?=some (.cells #[d,g,e,a] t (0,0)):=by
 rw[zFg (zFg (zFg (zFg h 0 d) 1 g) 2 e) 3 a];rfl
theorem zmi {i w:World}{B b:Nat}(h:Below B i w)(a:B≤b)(e j g d:Value):Below B i ((((w.setCell ⟨b,0,none⟩ e).setCell ⟨b,1,none⟩ j).setCell ⟨b,2,none⟩ g).setCell ⟨b,3,none⟩ d):=
 (((h.setCell (p:=⟨b,0,none⟩) a e).setCell (p:=⟨b,1,none⟩) a j).setCell (p:=⟨b,2,none⟩) a g).setCell (p:=⟨b,3,none⟩) a d
theorem zEg (w:World) (q N F y n bm nm sz L:Nat) (v:Value) (k:ByteArray) (d:List OpV) (l:List Mem) (j:Int)
 (hr:Rec w q N F y n v k d) (O:MapFn w 9 bm nm sz (z0Q l)) (ho:Ops w) (a7:10≤w.heap.size) (hL:L≤q∧L≤N∧L≤F) (aw:∀nm,(Lit.int .i64 (zqd l nm)).wf=true) (bt:y≤w.heap.size) (bs:n≤900):
 Calls prog 48 #[.pointer (some ⟨q,0,none⟩),.map (some bm),.int .i64 j] w fun e w'=>
  e=.returned (.int .i64 (zRl k.data.toList d l j).1)∧Below L w w'∧(∀o,(zRl k.data.toList d l j).2=some o→∃v',Rec w' q N F y (n+1) v' k (d++[o])):=by
 obtain⟨x1,l1⟩:=zxj l z3k;obtain⟨x2,l2⟩:=zxj l sBy;obtain⟨x3,l3⟩:=zxj l sOp;obtain⟨x4,l4⟩:=zxj l sKey;obtain⟨x5,l5⟩:=zxj l sArg;obtain⟨x6,l6⟩:=zxj l sExp;have r1:=O.run1 lawS underlying111 (z7H _) (zjt (s:=⟨#[99,97,108,108]⟩) (by decide));have r2:=O.run1 lawS underlying111 (z7H _) (zjt (s:=⟨#[98,121]⟩) (by decide));have r3:=O.run1 lawS underlying111 (z7H _) (zjt (s:=⟨#[111,112]⟩) (by decide));have r4:=O.run1 lawS underlying111 (z7H _) (zjt (s:=⟨#[107,101,121]⟩) (by decide));have r5:=O.run1 lawS underlying111 (z7H _) (zjt (s:=⟨#[97,114,103]⟩) (by decide));have r6:=O.run1 lawS underlying111 (z7H _) (zjt (s:=⟨#[101,120,112]⟩) (by decide));rw[show((⟨#[99,97,108,108]⟩:ByteArray)).data.toList=z3k from rfl,l1]at r1;rw[show((⟨#[98,121]⟩:ByteArray)).data.toList=sBy from rfl,l2]at r2;rw[show((⟨#[111,112]⟩:ByteArray)).data.toList=sOp from rfl,l3]at r3;rw[show((⟨#[107,101,121]⟩:ByteArray)).data.toList=sKey from rfl,l4]at r4;rw[show((⟨#[97,114,103]⟩:ByteArray)).data.toList=sArg from rfl,l5]at r5;rw[show((⟨#[101,120,112]⟩:ByteArray)).data.toList=sExp from rfl,l6]at r6;have HP:Hid (zRl k.data.toList d l j=(match zco k.data.toList (zch l sOp) opTab with
  |none=>(4,none)
  |some r=>if r.2.2.1=z8C l then(if(z09 d (zqd l z3k)).isSome then(5,none)else if openOf d (zqd l sBy) > 0 then(6,none)else(0,some ⟨zqd l z3k,zqd l sBy,zch l sOp,zch l sKey,zqd l sArg,zqd l sExp,j,0,0,0⟩))else(4,none))):=rfl
 clear l1 l2 l3 l4 l5 l6;have aY:=aw z3k;have ao:=aw sBy;clear aw;generalize zqd l z3k=o1 at*;generalize zqd l sBy=o2 at*;generalize zch l sOp=o3 at*;generalize zch l sKey=o4 at*;generalize zqd l sArg=o5 at*;generalize zqd l sExp=o6 at*;have bg:=zBq hr.blk;have bj:N<w.heap.size:=by obtain⟨_,h⟩:=hr.ids;exact h.lt
 have bh:F<w.heap.size:=by obtain⟨_,_,h,_⟩:=hr.opn;exact h.lt
 have an:L≤w.heap.size:=by omega
 have c0:w.cell? ⟨q,0,none⟩=some (.string k):=by rw[zBk hr.blk];rfl
 have a4:=zLY;have a8:=z6Y;have bc:=zwU;go_enter func48,ntmps48;go_wp2;have ah:=ziF w (.cells #[.int .i64 o1,.int .i64 o2,.string ⟨o3.toArray⟩,.string ⟨o4.toArray⟩,.int .i64 o5,.int .i64 o6,.int .i64 j,.int .i64 0,.int .i64 0,.int .i64 0] 27) w.heap.size rfl;have C:Below w.heap.size w (w.alloc (.cells #[.int .i64 o1,.int .i64 o2,.string ⟨o3.toArray⟩,.string ⟨o4.toArray⟩,.int .i64 o5,.int .i64 o6,.int .i64 j,.int .i64 0,.int .i64 0,.int .i64 0] 27)):=zA _ _;clear r1 r2 r3 r4 r5 r6 c0 a4 a8 bc;generalize w.alloc (.cells #[.int .i64 o1,.int .i64 o2,.string ⟨o3.toArray⟩,.string ⟨o4.toArray⟩,.int .i64 o5,.int .i64 o6,.int .i64 j,.int .i64 0,.int .i64 0,.int .i64 0] 27)=W1 at*;have ak:=hr.below C;have aR:=O.below C;have bb:Ops W1:=ho.below (C.mono a7);have be:=C.size;have c0:W1.cell? ⟨q,0,none⟩=some (.string k):=by rw[zBk ak.blk];rfl
 have d2:W1.cell? ⟨w.heap.size,2,none⟩=some (.string ⟨o3.toArray⟩):=by rw[zBk ah];rfl
 have a2:=zBq ah;have ay:=zBq ak.blk;have a3:w.heap.size≠W1.heap.size:=by omega
 have aB:q≠W1.heap.size:=by omega
 have aU:Below W1.heap.size W1 W1.drew:=(zD).drew;have aX:∀o,Below W1.heap.size W1 (W1.alloc o).drew:=fun o=>((zD).alloc zH o).drew;go_cut [8,9] (fun p8 ok wx=>∃(pb:Nat) (om on:List UInt8) (D gv:Int) (ab:Bool),p8=.pointer (some ⟨pb,0,none⟩)∧ok=.bool ab∧Below W1.heap.size W1 wx∧W1.heap.size≤pb∧
  wx.heap[pb]?=some (.cells #[.string ⟨om.toArray⟩,.string ⟨on.toArray⟩,.int .u8 D,.int .u8 gv] 60 (0,0))∧
  ((ab=true∧zco k.data.toList o3 opTab=some (om,on,D,gv))∨(ab=false∧zco k.data.toList o3 opTab=none)))
 case first=>
  go_region_with (go_at_call 28;refine(zkn k ⟨o3.toArray⟩ W1 _ (by first|exact aU|exact aX _) bb (by omega)).mono ?_;rintro e w2 ⟨om,on,D,gv,ok,rfl,x,M,hz⟩;try (have bd:=hz (ziF W1 _ _ rfl);obtain⟨z0,z1,z2,z3,y0,y1,y2,y3,yb⟩:=bd);clear hz)
  all_goals
   go_wp2_with fail;go_meet
   first
    | exact⟨w2.heap.size,om,on,D,gv,ok,rfl,rfl,x.alloc x.size _,x.size,ziF _ _ _ rfl,M⟩
    | exact⟨W1.heap.size,om,on,D,gv,ok,rfl,rfl,zmi x zH _ _ _ _,Nat.le_refl _,blk4 yb _ _ _ _,M⟩
 case rest=>
  obtain⟨pb,om,on,D,gv,ab,rfl,rfl,x,bo,aK,M⟩:=hcut;have aH:=aR.below x;have aW:=ak.below x;have aT:=x.size;have aZ:=(x.block w.heap.size a2).trans ah;have a1:=zBq aK;have n2:wc.cell? ⟨pb,2,none⟩=some (.int .u8 D):=by rw[zBk aK];rfl
  clear aK aU aX d2 c0 a3 aB ah;cases ab with
  |false=>
    have Z:zco k.data.toList o3 opTab=none:=(by rcases M with ⟨h,_⟩|⟨_,h⟩;cases h;exact h);have hX:Hid (zRl k.data.toList d l j=(4,none)):=(by rw[HP.out,Z];exact rfl);clear Z M HP;go_wp2;go_quiet (fail);go_wp2;go_ret;exact⟨by rw[hX.out];rfl,below_drewN ((C.mono (by omega)).trans (x.mono (by omega))) _,by rw[hX.out];intro o h;cases h⟩
  |true=>
    have Z:zco k.data.toList o3 opTab=some (om,on,D,gv):=(by rcases M with ⟨_,h⟩|⟨h,_⟩;exact h;cases h);have hX:Hid (zRl k.data.toList d l j=(if D=z8C l then(if(z09 d o1).isSome then(5,none)else if openOf d o2 > 0 then(6,none)else(0,some ⟨o1,o2,o3,o4,o5,o6,j,0,0,0⟩))else(4,none))):=(by rw[HP.out,Z];exact rfl);clear Z M HP;have aM:Below wc.heap.size wc wc.drew:=(zD).drew;go_wp2;go_cut [54] (fun t54 wx=>t54=.bool (D != z8C l)∧Below wc.heap.size wc wx)
    case first=>
     go_region_with (go_at_call 87;refine(z8H _ bm nm sz l (aH.below aM)).mono ?_;rintro e w5 ⟨rfl,aS⟩;have bx:w5.cell? ⟨pb,2,none⟩=some (.int .u8 D):=(aS.cell (p:=⟨pb,2,none⟩) a1).trans n2)
     all_goals
      go_wp2_with fail;go_meet;exact⟨rfl,aM.trans aS⟩
    case rest=>
     obtain⟨rfl,E⟩:=hcut;have a9:=aH.below E;have t:=aW.below E;have bz:=E.size;have K:=(E.block w.heap.size (by omega)).trans aZ;have I:Below w.heap.size w wc:=C.trans ((x.mono (by omega)).trans (E.mono (by omega)));clear aH aW aZ aR ak O hr C x E n2 aM a9;by_cases hnd:D=z8C l
     ·have az:(D != z8C l)=false:=(by simp[hnd]);have H:Hid (zRl k.data.toList d l j=(if(z09 d o1).isSome then(5,none)else if openOf d o2 > 0 then(6,none)else(0,some ⟨o1,o2,o3,o4,o5,o6,j,0,0,0⟩))):=(by rw[hX.out,if_pos hnd];exact rfl);clear hX hnd;have e2:wc.cell? ⟨q,2,none⟩=some (.map (some N)):=(by rw[zBk t.blk];rfl);have p0:wc.cell? ⟨w.heap.size,0,none⟩=some (.int .i64 o1):=(by rw[zBk K];rfl);obtain⟨bn,J⟩:=t.ids;have aE:=(J.below ((Below.refl wc.heap.size wc).drew)).runOk lawI underlying62 (zG7 _) (zxZ aY);go_wp2;cases hid:z09 d o1 with
      |some i=>
        have G:Hid (zRl k.data.toList d l j=(5,none)):=(by rw[H.out,hid];exact rfl);have ei:idFn d (.int .i64 o1)=some (.int .i64 (i:Int)):=(by simp[idFn,hid]);simp only [ei,Option.getD_some,Option.isSome_some]at aE;clear H hid ei J t K;go_region
        all_goals
         go_wp2;go_ret;exact⟨by rw[G.out];rfl,(I.mono an).drew,by rw[G.out];intro o h;cases h⟩
      |none=>
        have G:Hid (zRl k.data.toList d l j=(if openOf d o2 > 0 then(6,none)else(0,some ⟨o1,o2,o3,o4,o5,o6,j,0,0,0⟩))):=(by rw[H.out,hid];exact rfl);have ei:idFn d (.int .i64 o1)=none:=(by simp[idFn,hid]);have HI:Hid (z09 d o1=none):=hid;simp only [ei,Option.getD_none,Option.isSome_none]at aE;clear H hid ei;go_cut [10,11] (fun a b wx=>a=.int .i64 0∧b=.bool false∧wx=wc.drew)
        case first=>
         go_region
         all_goals
          go_wp2_with fail;go_meet;exact⟨rfl,rfl,rfl⟩
        case rest=>
         obtain⟨rfl,rfl,rfl⟩:=hcut;have e3:wc.cell? ⟨q,3,none⟩=some (.map (some F)):=(by rw[zBk t.blk];rfl);have p1:wc.cell? ⟨w.heap.size,1,none⟩=some (.int .i64 o2):=(by rw[zBk K];rfl);obtain⟨bp,f2,U,W⟩:=t.opn;have af:=(U.below (((Below.refl wc.heap.size wc).drew).drew)).run1 lawI underlying62 (zG7 _) (zxZ ao);rw[W o2]at af;clear aE;go_wp2;by_cases hbusy:openOf d o2 > 0
         ·have aa:Hid (zRl k.data.toList d l j=(6,none)):=(by rw[G.out,if_pos hbusy];exact rfl);have bw:(0:Int)<(openOf d o2:Int):=(by omega);clear G hbusy W U J t K;go_region
          all_goals
           go_wp2;go_ret;exact⟨by rw[aa.out];rfl,(I.mono an).drew.drew,by rw[aa.out];intro o h;cases h⟩
         ·have aa:Hid (zRl k.data.toList d l j=(0,some ⟨o1,o2,o3,o4,o5,o6,j,0,0,0⟩)):=(by rw[G.out,if_neg hbusy];exact rfl);have h0:openOf d o2=0:=(by omega);rw[h0]at af;clear G hbusy;go_cut [73] (fun a wx=>a=.bool false∧wx=wc.drew.drew)
          case first=>
           go_region
           all_goals
            go_wp2_with fail;go_meet;exact⟨rfl,rfl⟩
          case rest=>
           obtain⟨rfl,rfl⟩:=hcut;obtain⟨X,z,rfl⟩:=zIW t.own;have e1:wc.cell? ⟨q,1,none⟩=some (.slice X d.length z):=(by rw[zBk t.blk];rfl);have bi:=t.few;have aJ:=zQw d ⟨o1,o2,o3,o4,o5,o6,j,0,0,0⟩ HI.out;obtain⟨B,aO,au,S⟩:=(J.below ((((Below.refl wc.heap.size wc).drew).drew).drew)).runPut lawI underlying62 (by unfold maxLen;omega) (.int .i64 (d.length:Int)) (zxZ aY) trivial (idFn (d++[⟨o1,o2,o3,o4,o5,o6,j,0,0,0⟩])) aJ.1 aJ.2;clear af aJ;have ba:∃wo,wo=wc:=⟨_,rfl⟩;obtain⟨wo,rfl⟩:=ba;go_wp2;go_cut [6] (fun a wx=>a=.int .i64 0∧B=wx)
           case first=>
            go_region
            all_goals
             go_wp2_with fail;go_meet;exact⟨rfl,rfl⟩
           case rest=>
            obtain⟨rfl,rfl⟩:=hcut;clear aO;have k1:Kept [N] wo B:=⟨S.os,S.tape,S.output,S.size,S.block⟩;have aC:=t.blk;have bk:q≠N∧q≠F∧N≠F∧q<y∧N<y∧F<y:=⟨t.ne1,t.ne2,t.ne3,t.lt1,t.lt2,t.lt3⟩;have aq:=t.own;have a0:=t.wfs;have aj:=(k1.block q (zBq aC) (by simp;omega)).trans aC;have al:=(k1.block w.heap.size (zBq K) (by simp;omega)).trans K;have V:=U.kept k1 (by simp;omega);have ae:=zzF aq k1 (by simp;omega);have ai:Below L w B:=(I.mono an).trans (k1.below (by have:=I.size;omega) (by simp;omega));have bq:=k1.size;have zc:=I.size;clear k1 S J U aq aC t K e1 e2 e3 p0 p1 I;have e3:B.cell? ⟨q,3,none⟩=some (.map (some F)):=(by rw[zBk aj];rfl);have p1:B.cell? ⟨w.heap.size,1,none⟩=some (.int .i64 o2):=(by rw[zBk al];rfl);have aA:=(V.below ((Below.refl B.heap.size B).drew)).run1 lawI underlying62 (zG7 _) (zxZ ao);rw[W o2,h0]at aA;obtain⟨m,aN,aP,Q⟩:=(V.below ((Below.refl B.heap.size B).drew)).runPut lawI underlying62 (by unfold maxLen;omega) (.int .i64 1) (zxZ ao) trivial (zp1 f2 o2 1) (zSg _ _ _) (zPm _ _ _);go_wp2;go_cut [6] (fun a wx=>a=.int .i64 0∧m=wx)
            case first=>
             go_region
             all_goals
              go_wp2_with fail;go_meet;exact⟨rfl,rfl⟩
            case rest=>
             obtain⟨rfl,rfl⟩:=hcut;clear aN aA;have k2:Kept [F] B m:=⟨Q.os,Q.tape,Q.output,Q.size,Q.block⟩;have av:=(k2.block q (zBq aj) (by simp;omega)).trans aj;have A:=(k2.block w.heap.size (zBq al) (by simp;omega)).trans al;have ax:=au.kept k2 (by simp;omega);have ad:=zzF ae k2 (by simp;omega);have aQ:Below L w m:=ai.trans (k2.below (by omega) (by simp;omega));have bu:=k2.size;clear k2 Q aj al au ae ai e3 p1 V;obtain⟨i0,hi,a5,a6,aT⟩:=info_parts zSl;obtain⟨br,R,aV,Y,aI,_⟩:=run_append_own (P:=prog) ((m.alloc (.cells (opvCells ⟨o1,o2,o3,o4,o5,o6,j,0,0,0⟩).toArray 27)).drew) y 30 30 27 i0 _ 10 96 underlying30 hi a5 a6 aT rfl (by decide) (.slice X d.length z) d.length (opsRow d) (ad.alloc _) ⟨m.heap.size,0,none⟩ 1 1 (opvCells ⟨o1,o2,o3,o4,o5,o6,j,0,0,0⟩) rfl (z9R m _ _) (by intro u hu;simp[opvCells]at hu;rcases hu with rfl|rfl|rfl|rfl|rfl|rfl|rfl|rfl|rfl|rfl<;>rfl) (by unfold maxLen;omega) (by omega) (by show y≤(m.alloc _).heap.size;simp;omega);obtain⟨am,ar,rfl⟩:=zIW Y;have aD:(Builtin.append_ #[30,30] 30 #[.slice X d.length z,.slice (some ⟨m.heap.size,0,none⟩) 1 1]).run prog ((m.alloc (.cells #[.int .i64 o1,.int .i64 o2,.string ⟨o3.toArray⟩,.string ⟨o4.toArray⟩,.int .i64 o5,.int .i64 o6,.int .i64 j,.int .i64 0,.int .i64 0,.int .i64 0] 27)).drew)=.ok (.slice am (d.length+1) ar) R:=aV;have q0:m.cell? ⟨w.heap.size,0,none⟩=some (.int .i64 o1):=(by rw[zBk A];rfl);have q1:m.cell? ⟨w.heap.size,1,none⟩=some (.int .i64 o2):=(by rw[zBk A];rfl);have q2:m.cell? ⟨w.heap.size,2,none⟩=some (.string ⟨o3.toArray⟩):=(by rw[zBk A];rfl);have q3:m.cell? ⟨w.heap.size,3,none⟩=some (.string ⟨o4.toArray⟩):=(by rw[zBk A];rfl);have q4:m.cell? ⟨w.heap.size,4,none⟩=some (.int .i64 o5):=(by rw[zBk A];rfl);have q5:m.cell? ⟨w.heap.size,5,none⟩=some (.int .i64 o6):=(by rw[zBk A];rfl);have q6:m.cell? ⟨w.heap.size,6,none⟩=some (.int .i64 j):=(by rw[zBk A];rfl);have q7:m.cell? ⟨w.heap.size,7,none⟩=some (.int .i64 0):=(by rw[zBk A];rfl);have q8:m.cell? ⟨w.heap.size,8,none⟩=some (.int .i64 0):=(by rw[zBk A];rfl);have q9:m.cell? ⟨w.heap.size,9,none⟩=some (.int .i64 0):=(by rw[zBk A];rfl);have e1:m.cell? ⟨q,1,none⟩=some (.slice X d.length z):=(by rw[zBk av];rfl);have bf:=zBq A;have ay:=zBq av;have bl:w.heap.size≠m.heap.size:=(by omega);have aB:q≠m.heap.size:=(by omega);have ag:∀g,(Value.slice X d.length z).ownBlock=some g→y≤g:=zYv ad;have aL:R.heap[q]?=some (.cells #[.string k,.slice X d.length z,.map (some N),.map (some F)] 64 (0,0)):=
              (aI.block q (by show q<(m.alloc _).heap.size;simp;omega) (fun e=>by have:=ag q e.symm;omega)).trans ((zD1 m _ q ay).trans av)
             have s1:R.cell? ⟨q,1,none⟩=some (.slice X d.length z):=(by rw[zBk aL];rfl);have s2:R.frozen? ⟨q,1,none⟩=false:=zBn aL 1;go_wp2;go_cut [6] (fun a wx=>a=.int .i64 0∧wx=R.setCell ⟨q,1,none⟩ (.slice am (d.length+1) ar))
             case first=>
              go_region_law (refine zti rfl _ _ 30 rfl _ _ _ _ rfl rfl aD ?_)
              all_goals
               go_wp2_with fail;go_meet;exact⟨rfl,rfl⟩
             case rest=>
              obtain⟨rfl,rfl⟩:=hcut;clear aV aD;go_wp2;go_ret;refine⟨by rw[aa.out];rfl,?_,?_⟩
              ·exact(((aQ.alloc (by omega) _).drew).grown aI (by show L≤(m.alloc _).heap.size;simp;omega) (fun g hg=>by have:=ag g hg;omega)).setCell (p:=⟨q,1,none⟩) (by show L≤q;omega) _
              ·intro o ho;rw[aa.out]at ho;obtain rfl:(⟨o1,o2,o3,o4,o5,o6,j,0,0,0⟩:OpV)=o:=Option.some.inj ho;have KS:Kept (q::(Value.slice X d.length z).ownBlock.toList) m (R.setCell ⟨q,1,none⟩ (.slice am (d.length+1) ar)):=
                ((((Kept.refl _ m).alloc _).drew).grownS aI (fun g hg=>by rw[hg];simp)).setCell (p:=⟨q,1,none⟩) (Or.inl (by simp)) _
               have aF:∀b,b<y→b≠q→b∉(q::(Value.slice X d.length z).ownBlock.toList):=by
                intro b hb az O;rcases List.mem_cons.1 O with h|h
                ·exact az h
                ·rw[Option.mem_toList]at h;have:=ag b h;omega
               refine⟨_,⟨by rw[zFg aL];rfl,?_,⟨_,ax.kept KS (aF N (by omega) (by omega))⟩,⟨_,_,aP.kept KS (aF F (by omega) (by omega)),z1l W ⟨o1,o2,o3,o4,o5,o6,j,0,0,0⟩ rfl h0⟩,by omega,by omega,by omega,by omega,by omega,by omega,by simp;omega,fun o ho=>(List.mem_append.1 ho).elim (fun h=>a0 o h) (fun h=>by simp at h;subst h;exact ao)⟩⟩;rw[z2L];have:=ownsRow_setCell_below Y (a:=⟨q,1,none⟩) (by show q<y;omega) (.slice am (d.length+1) ar);simpa using this
     ·have az:(D != z8C l)=true:=(by simp[hnd]);have H:Hid (zRl k.data.toList d l j=(4,none)):=(by rw[hX.out,if_neg hnd];exact rfl);clear hX hnd;go_wp2;go_ret;exact⟨by rw[H.out];rfl,I.mono an,by rw[H.out];intro o h;cases h⟩
end Go.Proofs.YtoeoinpaidhmcaaGreatDoor
