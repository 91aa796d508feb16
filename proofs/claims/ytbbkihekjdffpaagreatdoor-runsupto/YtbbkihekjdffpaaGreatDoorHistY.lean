/- Several texts in one. -/
import Derived.Test.YtbbkihekjdffpaaGreatDoorScanZ
import Derived.Deep.DeepCutAuto
import Derived.Deep.RegionLaw
import Derived.Deep.RegionWith
set_option maxHeartbeats 4000000
set_option maxRecDepth 100000
namespace Go.Proofs.YtbbkihekjdffpaaGreatDoor
open Tryz
open Go.RowKit Go.Maps
def z8R (ms:List Mem)(nm:List UInt8):Option Mem:=ms.find? (fun m=>m.1==nm)
def z0Q (ms:List Mem):Lit→Option Value
 |.string l=>(z8R ms l).map (fun m=>aggV m.2)
 |_=>none
def za6:List Mem→Bool
 | []=>true
 |m::r=>(z8R r m.1).isNone&&za6 r
theorem zvz (a b:List Mem)(nm:List UInt8):z8R (a++b) nm=(z8R a nm).or (z8R b nm):=by
 unfold z8R;rw[List.find?_append]
theorem zFq (l:List Mem)(m:Mem):za6 (l++[m])=(za6 l&&(z8R l m.1).isNone):=by
 induction l with
 |nil=>simp[za6,z8R]
 |cons a r ih=>
   rw[List.cons_append,za6,za6,ih,zvz];have e1:z8R [m] a.1=if m.1==a.1 then some m else none:=by simp[z8R,List.find?_cons];split<;>simp_all
   have e2:z8R (a::r) m.1=if a.1==m.1 then some a else z8R r m.1:=by simp[z8R,List.find?_cons];split<;>simp_all
   rw[e1,e2];by_cases h:m.1=a.1
   ·have h':a.1=m.1:=h.symm;simp[h]
   ·have h':¬a.1=m.1:=fun e=>h e.symm;have hb:(m.1==a.1)=false:=(by simpa using h);have hb':(a.1==m.1)=false:=(by simpa using h');rw[hb,hb'];cases z8R r a.1<;>cases z8R r m.1<;>cases za6 r<;>rfl
theorem zvo (l r:List Mem)(h:za6 l=false):za6 (l++r)=false:=by
 induction l with
 |nil=>cases h
 |cons a t ih=>
   rw[List.cons_append,za6,zvz];rw[za6]at h;cases hf:z8R t a.1 with
   |some x=>simp
   |none=>
     rw[hf]at h;rw[ih (by simpa using h)];simp
theorem ze6 {l:List Mem}{m:Mem}(h:z8R l m.1=none):z0Q (l++[m]) (.string m.1)=some (aggV m.2)∧∀x,x≠.string m.1→z0Q (l++[m]) x=z0Q l x:=by
 constructor
 ·show((z8R (l++[m]) m.1).map _)=_;rw[zvz,h];simp[z8R]
 ·intro x hx;cases x with
  |string nm=>
    show((z8R (l++[m]) nm).map _)=(z8R l nm).map _;rw[zvz];have:z8R [m] nm=none:=by
     have:¬m.1=nm:=fun e=>hx (by rw[e]);simp[z8R,this]
    rw[this];simp
  |_=>rfl
theorem zjt {s:ByteArray}(h:s.size≤maxLen):keyOf prog 9 (.string s)=some (.string s.data.toList):=Go.WideMaps.keyOf_string_mk underlying9 h
theorem zJ5 (ms:List Mem)(i:Nat)(h:i<ms.length):(zLk ms)[i*4]?=some (.string ⟨(ms[i]).1.toArray⟩)∧(zLk ms)[i*4+1]?=some (.int .i64 (ms[i]).2.1)∧(zLk ms)[i*4+2]?=some (.int .i64 (ms[i]).2.2.1)∧(zLk ms)[i*4+3]?=some (.string ⟨(ms[i]).2.2.2.toArray⟩):=by
 induction ms generalizing i with
 |nil=>simp at h
 |cons m r ih=>
   have e:zLk (m::r)=zIS m++zLk r:=(by simp[zLk]);have hl:(zIS m).length=4:=rfl;rw[e];cases i with
   |zero=>simp[zIS]
   |succ i=>
     obtain⟨a,b,c,d⟩:=ih i (by simpa using h);refine⟨?_,?_,?_,?_⟩
     ·rw[List.getElem?_append_right (by omega),hl,show(i+1)*4-4=i*4 by omega,a];simp
     ·rw[List.getElem?_append_right (by omega),hl,show(i+1)*4+1-4=i*4+1 by omega,b];simp
     ·rw[List.getElem?_append_right (by omega),hl,show(i+1)*4+2-4=i*4+2 by omega,c];simp
     ·rw[List.getElem?_append_right (by omega),hl,show(i+1)*4+3-4=i*4+3 by omega,d];simp
theorem zs2 {w:World}{base g cap:Nat}{ms:List Mem}(h:w.ownsRow base 246 4 (.slice (some ⟨g,0,none⟩) ms.length cap) ms.length (zLk ms)):
 ∀j u,(zLk ms)[j]?=some u→w.cell? ⟨g,j,none⟩=some u:=by
 intro j u hj;have:=h.cells (g:=g) rfl j u hj;by_cases h0:j=0
 ·subst h0;simpa [Addr.add]using this
 ·simpa [Addr.add,h0]using this
theorem zSd (w:World)(base g cap:Nat)(ms:List Mem)(hown:w.ownsRow base 246 4 (.slice (some ⟨g,0,none⟩) ms.length cap) ms.length (zLk ms))(hl:ms.length≤2000000)(hbd:∀m∈ms,m.1.length≤100000000):
 Calls prog 67 #[.slice (some ⟨g,0,none⟩) ms.length cap] w fun e w'=>
  Below w.heap.size w w'∧((za6 ms=true∧MapFn w' 9 w.heap.size ms.length ms.length (z0Q ms)∧e=.returned (.tuple #[.map (some w.heap.size),.bool true]))∨(za6 ms=false∧e=.returned (.tuple #[.map none,.bool false]))):=by
 have hmm:=@run_makeMap prog;have hglt:g<w.heap.size:=by
  rcases hown.2 with ⟨h1,_⟩|⟨g',cap',cur,h1,_,hg,_⟩
  ·cases h1
  ·simp at h1;rw[h1.1];exact zBq hg
 have hcells:=zs2 hown;clear hown;go_enter func67,ntmps67;go_wp2;go_loopw [12] (fun i wr=>∃j:Nat,j≤ms.length∧i=.int .i64 j∧za6 (ms.take j)=true∧MapFn wr 9 w.heap.size j j (z0Q (ms.take j))∧Below w.heap.size w wr) (fun i _=>ms.length-(intOf i).toNat)
 case atStart=>exact⟨0,Nat.zero_le _,rfl,rfl,(MapFn.made w _).congr (fun x=>by cases x<;>rfl),zA _ _⟩
 case round=>
  obtain⟨j,hj,rfl,hno,hmap,hbl⟩:=hrel;have HN:Hid (za6 (ms.take j)=true):=hno;clear hno;by_cases hlt:j<ms.length
  ·obtain⟨c0,c1,c2,c3⟩:=zJ5 ms j hlt;have d0:wr.cell? ⟨g,j*4,none⟩=_:=(hbl.cell (p:=⟨g,j*4,none⟩) hglt).trans (hcells _ _ c0);have d1:wr.cell? ⟨g,j*4+1,none⟩=_:=(hbl.cell (p:=⟨g,j*4+1,none⟩) hglt).trans (hcells _ _ c1);have d2:wr.cell? ⟨g,j*4+2,none⟩=_:=(hbl.cell (p:=⟨g,j*4+2,none⟩) hglt).trans (hcells _ _ c2);have d3:wr.cell? ⟨g,j*4+3,none⟩=_:=(hbl.cell (p:=⟨g,j*4+3,none⟩) hglt).trans (hcells _ _ c3);have hnb:=hbd ms[j] (List.getElem_mem hlt);have htk:ms.take (j+1)=ms.take j++[ms[j]]:=(by rw[List.take_succ_eq_append_getElem hlt]);have HT:Hid (ms.take (j+1)=ms.take j++[ms[j]]):=htk;clear htk c0 c1 c2 c3 hcells;generalize ms[j]=m at*;obtain⟨nm,mk,mn,mt⟩:=m;simp only at d0 d1 d2 d3 hnb;have hlk:=(hmap.alloc (.cells #[.string ⟨nm.toArray⟩,.int .i64 mk,.int .i64 mn,.string ⟨mt.toArray⟩] 246)).runOk lawS underlying144 (z7H _) (zjt (s:=⟨nm.toArray⟩) (by unfold maxLen;show nm.toArray.size≤_;simp;omega));have hji:(j:Int)<(ms.length:Int):=(by omega);cases hf:z8R (ms.take j) nm with
   |some m'=>
     have hE:Hid (za6 ms=false):=by
      have e1:za6 (ms.take (j+1))=false:=(by rw[HT.out,zFq,HN.out,hf];rfl);have:=zvo (ms.take (j+1)) (ms.drop (j+1)) e1;rw[List.take_append_drop]at this;exact this
     obtain⟨a1,a2,a3,a4⟩:=m';have e2:z0Q (ms.take j) (.string nm)=some (.agg #[.int .i64 a2,.int .i64 a3,.string ⟨a4.toArray⟩]):=(by simp[z0Q,hf,aggV]);simp only [e2,Option.getD_some,Option.isSome_some]at hlk;clear hf e2 HT HN;go_wp2;go_ret2;exact⟨(hbl.alloc hbl.size _).alloc (by have:=hbl.size;simp;omega) _,Or.inr ⟨hE.out,rfl⟩⟩
   |none=>
     have e2:z0Q (ms.take j) (.string nm)=none:=(by simp[z0Q,hf]);have hN':Hid (za6 (ms.take (j+1))=true):=(by rw[HT.out,zFq,HN.out,hf];exact rfl);simp only [e2,Option.getD_none,Option.isSome_none]at hlk;have hsn:=ze6 (l:=ms.take j) (m:=(nm,mk,mn,mt)) hf;obtain⟨w',hput,hmap',hkp'⟩:=((hmap.alloc (.cells #[.string ⟨nm.toArray⟩,.int .i64 mk,.int .i64 mn,.string ⟨mt.toArray⟩] 246)).alloc (.cells #[.int .i64 0,.int .i64 0,.string ⟨#[]⟩] 244)).runPut lawS underlying144 (by unfold maxLen;omega) (.agg #[.int .i64 mk,.int .i64 mn,.string ⟨mt.toArray⟩]) (zjt (s:=⟨nm.toArray⟩) (by unfold maxLen;show nm.toArray.size≤_;simp;omega)) trivial (z0Q (ms.take j++[(nm,mk,mn,mt)])) hsn.1 hsn.2;rw[←HT.out]at hmap';simp only [e2]at hmap';have hmap2:MapFn w' 9 w.heap.size (j+1) (j+1) (z0Q (ms.take (j+1))):=(by simpa using hmap');have hbl':Below w.heap.size w w':=((hbl.alloc hbl.size _).alloc (by have:=hbl.size;simp;omega) _).trans (hkp'.below (by have:=hbl.size;simp;omega) (by simp));clear hf e2 HT HN hsn hmap' hkp';go_wp2;go_roundw
     case rel=>exact⟨j+1,by omega,by go_num,hN'.out,hmap2,hbl'⟩
     case measure=>simp[intOf];omega
  ·obtain rfl:j=ms.length:=(by omega);rw[List.take_length]at hmap;have hE:Hid (za6 ms=true):=(by have:=HN.out;rw[List.take_length]at this;exact this);clear HN;go_wp2;go_ret2;exact⟨hbl,Or.inl ⟨hE.out,hmap,rfl⟩⟩
theorem zfC (w:World):
 Calls prog 67 #[.slice none 0 0] w fun e w'=>
  Below w.heap.size w w'∧MapFn w' 9 w.heap.size 0 0 (z0Q [])∧e=.returned (.tuple #[.map (some w.heap.size),.bool true]):=by
 have hmm:=@run_makeMap prog;go_enter func67,ntmps67;go_wp2;refine wp_loop_rounds 1 ?_;rw[rounds_succ];go_wp2;go_ret2;exact⟨zA _ _,(MapFn.made w _).congr (fun x=>by cases x<;>rfl),rfl⟩
theorem zfv (w:World)(base:Nat)(v:Value)(ms:List Mem)(hown:w.ownsRow base 246 4 v ms.length (zLk ms))(hl:ms.length≤2000000)(hbd:∀m∈ms,m.1.length≤100000000):
 Calls prog 67 #[v] w fun e w'=>
  Below w.heap.size w w'∧((za6 ms=true∧MapFn w' 9 w.heap.size ms.length ms.length (z0Q ms)∧e=.returned (.tuple #[.map (some w.heap.size),.bool true]))∨(za6 ms=false∧e=.returned (.tuple #[.map none,.bool false]))):=by
 rcases hown.2 with ⟨rfl,h0⟩|⟨g,cap,cur,rfl,r⟩
 ·have:ms=[]:=List.length_eq_zero_iff.1 h0;subst this;refine(zfC w).mono ?_;rintro e w' ⟨h1,h2,rfl⟩;exact⟨h1,Or.inl ⟨rfl,h2,rfl⟩⟩
 ·exact zSd w base g cap ms hown hl hbd
abbrev Slot:=List UInt8×Bool×List Int
def callSlots:List Slot:=[([99,97,108,108],true,[1]),([98,121],true,[1]),([111,112],true,[3]),([107,101,121],false,[3]),([97,114,103],false,[1]),([101,120,112],false,[1])]
def retSlots:List Slot:=[([114,101,116],true,[1]),([118,97,108],true,[0,1,2])]
def ShapeAt (w:World)(g:Nat)(sl:List Slot):Prop:=
 ∀i (h:i<sl.length),w.cell? ⟨g,i*3,none⟩=some (.string ⟨(sl[i]).1.toArray⟩)∧w.cell? ⟨g,i*3+1,none⟩=some (.bool (sl[i]).2.1)∧
  ∃gk c,w.cell? ⟨g,i*3+2,none⟩=some (.slice (some ⟨gk,0,none⟩) (sl[i]).2.2.length c)∧gk<w.heap.size∧∀j,j<(sl[i]).2.2.length→w.cell? ⟨gk,0+j,none⟩=some (.int .i64 ((sl[i]).2.2.getD j 0))
def zmy (ms:List Mem):List Slot→Nat→Option Nat
 | [],n=>some n
 |s::r,n=>match z8R ms s.1 with
   |none=>if s.2.1 then none else zmy ms r n
   |some m=>if s.2.2.contains m.2.1 then zmy ms r (n+1)else none
def z5q (ms:List Mem)(sl:List Slot):Bool:=match zmy ms sl 0 with|none=>false|some n=>n==ms.length
theorem ziF (W:World)(o:Obj)(n:Nat)(h:n=W.heap.size):(W.alloc o).heap[n]?=some o:=by
 subst h;show(W.heap.push o)[W.heap.size]?=_;simp
theorem zD1 (W:World)(o:Obj)(n:Nat)(h:n<W.heap.size):(W.alloc o).heap[n]?=W.heap[n]?:=Below.heap_alloc _ _ _ h
theorem zSV {w:World} {g gk i:Nat} {c ck:Array Value} {t tk:TypeId} {f fk:Nat×Nat} {s:Slot} (hg:w.heap[g]?=some (.cells c t f)) (h0:c[i*3]?=some (.string ⟨s.1.toArray⟩)) (h1:c[i*3+1]?=some (.bool s.2.1))
 (cp:Nat) (h2:c[i*3+2]?=some (.slice (some ⟨gk,0,none⟩) s.2.2.length cp)) (hk:w.heap[gk]?=some (.cells ck tk fk)) (hc:∀j,j<s.2.2.length→ck[j]?=some (.int .i64 (s.2.2.getD j 0))):
 w.cell? ⟨g,i*3,none⟩=some (.string ⟨s.1.toArray⟩)∧w.cell? ⟨g,i*3+1,none⟩=some (.bool s.2.1)∧
 ∃gk c,w.cell? ⟨g,i*3+2,none⟩=some (.slice (some ⟨gk,0,none⟩) s.2.2.length c)∧gk<w.heap.size∧∀j,j<s.2.2.length→w.cell? ⟨gk,0+j,none⟩=some (.int .i64 (s.2.2.getD j 0)):=
 ⟨by rw[zBk hg,h0],by rw[zBk hg,h1],gk,cp,by rw[zBk hg,h2],zBq hk,fun j hj=>by rw[zBk hk,Nat.zero_add];exact hc j hj⟩
theorem zCqh (v:Int):∀j,j < [v].length→(#[Value.int .i64 v])[j]?=some (.int .i64 ([v].getD j 0)):=by
 intro j hj;have:j=0:=by simp at hj;omega
 subst this;rfl
theorem z2f (a b c:Int):∀j,j < [a,b,c].length→(#[Value.int .i64 a,.int .i64 b,.int .i64 c])[j]?=some (.int .i64 ([a,b,c].getD j 0)):=by
 intro j hj;have:j=0∨j=1∨j=2:=by simp at hj;omega
 rcases this with rfl|rfl|rfl<;>rfl
theorem zcO (w:World):
 Calls prog 69 #[] w fun e w'=>∃g,e=.returned (.slice (some ⟨g,0,none⟩) 6 6)∧w.heap.size≤g∧g<w'.heap.size∧Below w.heap.size w w'∧ShapeAt w' g callSlots:=by
 go_enter func69,ntmps69;go_wp2;go_ret;refine⟨_,rfl,by omega,by simp,?_,?_⟩
 ·exact(((((((zA _ _).alloc (by simp) _).alloc (by simp;omega) _).alloc (by simp;omega) _).alloc (by simp;omega) _).alloc (by simp;omega) _).alloc (by simp;omega) _)
 ·intro i h
  match i,h with
  |0,_=>exact zSV (s:=callSlots[0]) (gk:=w.heap.size) (ziF _ _ _ (by simp)) rfl rfl 1 rfl ((zD1 _ _ _ (by simp<;>omega)).trans ((zD1 _ _ _ (by simp<;>omega)).trans ((zD1 _ _ _ (by simp<;>omega)).trans ((zD1 _ _ _ (by simp<;>omega)).trans ((zD1 _ _ _ (by simp<;>omega)).trans ((zD1 _ _ _ (by simp<;>omega)).trans (ziF _ _ _ (by simp)))))))) (zCqh 1)
  |1,_=>exact zSV (s:=callSlots[1]) (gk:=w.heap.size+1) (ziF _ _ _ (by simp)) rfl rfl 1 rfl ((zD1 _ _ _ (by simp<;>omega)).trans ((zD1 _ _ _ (by simp<;>omega)).trans ((zD1 _ _ _ (by simp<;>omega)).trans ((zD1 _ _ _ (by simp<;>omega)).trans ((zD1 _ _ _ (by simp<;>omega)).trans (ziF _ _ _ (by simp))))))) (zCqh 1)
  |2,_=>exact zSV (s:=callSlots[2]) (gk:=w.heap.size+1+1) (ziF _ _ _ (by simp)) rfl rfl 1 rfl ((zD1 _ _ _ (by simp<;>omega)).trans ((zD1 _ _ _ (by simp<;>omega)).trans ((zD1 _ _ _ (by simp<;>omega)).trans ((zD1 _ _ _ (by simp<;>omega)).trans (ziF _ _ _ (by simp)))))) (zCqh 3)
  |3,_=>exact zSV (s:=callSlots[3]) (gk:=w.heap.size+1+1+1) (ziF _ _ _ (by simp)) rfl rfl 1 rfl ((zD1 _ _ _ (by simp<;>omega)).trans ((zD1 _ _ _ (by simp<;>omega)).trans ((zD1 _ _ _ (by simp<;>omega)).trans (ziF _ _ _ (by simp))))) (zCqh 3)
  |4,_=>exact zSV (s:=callSlots[4]) (gk:=w.heap.size+1+1+1+1) (ziF _ _ _ (by simp)) rfl rfl 1 rfl ((zD1 _ _ _ (by simp<;>omega)).trans ((zD1 _ _ _ (by simp<;>omega)).trans (ziF _ _ _ (by simp)))) (zCqh 1)
  |5,_=>exact zSV (s:=callSlots[5]) (gk:=w.heap.size+1+1+1+1+1) (ziF _ _ _ (by simp)) rfl rfl 1 rfl ((zD1 _ _ _ (by simp<;>omega)).trans (ziF _ _ _ (by simp))) (zCqh 1)
  |n+6,h=>simp[callSlots]at h;omega
theorem zRx (w:World):
 Calls prog 71 #[] w fun e w'=>∃g,e=.returned (.slice (some ⟨g,0,none⟩) 2 2)∧w.heap.size≤g∧g<w'.heap.size∧Below w.heap.size w w'∧ShapeAt w' g retSlots:=by
 go_enter func71,ntmps71;go_wp2;go_ret;refine⟨_,rfl,by omega,by simp,?_,?_⟩
 ·exact(((zA _ _).alloc (by simp) _).alloc (by simp;omega) _)
 ·intro i h
  match i,h with
  |0,_=>exact zSV (s:=retSlots[0]) (gk:=w.heap.size) (ziF _ _ _ (by simp)) rfl rfl 1 rfl ((zD1 _ _ _ (by simp<;>omega)).trans ((zD1 _ _ _ (by simp<;>omega)).trans (ziF _ _ _ (by simp)))) (zCqh 1)
  |1,_=>exact zSV (s:=retSlots[1]) (gk:=w.heap.size+1) (ziF _ _ _ (by simp)) rfl rfl 3 rfl ((zD1 _ _ _ (by simp<;>omega)).trans (ziF _ _ _ (by simp))) (z2f 0 1 2)
  |n+2,h=>simp[retSlots]at h;omega
theorem ShapeAt.below {w w':World}{g:Nat}{sl:List Slot}(h:ShapeAt w g sl)(hg:g<w.heap.size)(k:Below w.heap.size w w'):ShapeAt w' g sl:=by
 intro i hi;obtain⟨h0,h1,gk,c,h2,h3,h4⟩:=h i hi;exact⟨(k.cell (p:=⟨g,i*3,none⟩) hg).trans h0,(k.cell (p:=⟨g,i*3+1,none⟩) hg).trans h1,gk,c,(k.cell (p:=⟨g,i*3+2,none⟩) hg).trans h2,zH h3 k.size,fun j hj=>(k.cell (p:=⟨gk,0+j,none⟩) h3).trans (h4 j hj)⟩
theorem zKU {α:Type}(l:List α)(j:Nat)(h:j<l.length):l.drop j=l[j]::l.drop (j+1):=List.drop_eq_getElem_cons h
theorem zBH (w:World) (bm n g cap:Nat) (ms:List Mem) (sl:List Slot) (hmap0:MapFn w 9 bm n ms.length (z0Q ms)) (hg:g<w.heap.size) (hsh0:ShapeAt w g sl) (hl:sl.length≤1000) (_hml:ms.length≤2000000)
 (hnm:∀s∈sl,s.1.length≤1000∧s.2.2.length≤1000):
 Calls prog 68 #[.map (some bm),.slice (some ⟨g,0,none⟩) sl.length cap] w fun e w'=>e=.returned (.bool (z5q ms sl))∧Below w.heap.size w w':=by
 go_enter func68,ntmps68;go_wp2;go_loopw [5,12] (fun fd i wr=>∃j c:Nat,j≤sl.length∧c≤j∧i=.int .i64 j∧fd=.int .i64 c∧zmy ms (sl.drop j) c=zmy ms sl 0∧Below w.heap.size w wr) (fun _ i _=>sl.length-(intOf i).toNat)
 case atStart=>exact⟨0,0,Nat.zero_le _,Nat.zero_le _,rfl,rfl,rfl,zD⟩
 case round=>
  obtain⟨j,c,hj,hc,rfl,rfl,HR,hbl⟩:=hrel;have hR:Hid (zmy ms (sl.drop j) c=zmy ms sl 0):=HR;clear HR;have hsz:=hbl.size;have hmap:=hmap0.below hbl;by_cases hlt:j<sl.length
  ·obtain⟨d0,d1,gk,ck,d2,hgk,d3⟩:=(hsh0.below hg hbl) j hlt;have hD:Hid (sl.drop j=sl[j]::sl.drop (j+1)):=zKU sl j hlt;have hnb:=hnm sl[j] (List.getElem_mem hlt);generalize sl[j]=s at*;obtain⟨nm,must,kinds⟩:=s;simp only at d0 d1 d2 d3 hnb;have hji:(j:Int)<(sl.length:Int):=(by omega);have hlk:=(hmap.alloc (.cells #[.string ⟨nm.toArray⟩,.bool must,.slice (some ⟨gk,0,none⟩) kinds.length ck] 249)).runOk lawS underlying144 (z7H _) (zjt (s:=⟨nm.toArray⟩) (by unfold maxLen;show nm.toArray.size≤_;simp;omega));cases hf:z8R ms nm with
   |none=>
     have e2:z0Q ms (.string nm)=none:=(by simp[z0Q,hf]);simp only [e2,Option.getD_none,Option.isSome_none]at hlk;cases must with
     |true=>
       have hE:Hid (z5q ms sl=false):=by
        unfold z5q;rw[←hR.out,hD.out,zmy];simp[hf,Hid]
       clear hf e2 hR hD hmap0 hsh0 hmap;go_wp2;go_ret;exact⟨by rw[hE.out];rfl,(hbl.alloc hsz _).alloc (by simp;omega) _⟩
     |false=>
       have hR':Hid (zmy ms (sl.drop (j+1)) c=zmy ms sl 0):=by
        rw[←hR.out,hD.out];show _=zmy ms (_::_) c;rw[zmy];simp[hf]
       clear hf e2 hR hD hmap0 hsh0 hmap;go_wp2;go_roundw
       case rel=>exact⟨j+1,c,by omega,by omega,by go_num,rfl,hR'.out,(hbl.alloc hsz _).alloc (by simp;omega) _⟩
       case measure=>simp[intOf];omega
   |some m=>
     obtain⟨a1,a2,a3,a4⟩:=m;have e2:z0Q ms (.string nm)=some (.agg #[.int .i64 a2,.int .i64 a3,.string ⟨a4.toArray⟩]):=(by simp[z0Q,hf,aggV]);simp only [e2,Option.getD_some,Option.isSome_some]at hlk;have hS:Hid (zmy ms sl 0=if kinds.contains a2 then zmy ms (sl.drop (j+1)) (c+1)else none):=by
      rw[←hR.out,hD.out];show zmy ms (_::_) c=_;rw[zmy];simp[hf]
     have hcl:∀W:World,Below w.heap.size w W→Below wr.heap.size wr W→Calls prog 113 #[.slice (some ⟨gk,0,none⟩) kinds.length ck,.int .i64 a2] W fun e w'=>e=.returned (.bool (kinds.contains a2))∧w'=W:=by
      intro W _ hW;have:=Tryz.slices_Contains_int gk 0 kinds.length ck kinds a2 W zG (by omega) (fun j hj=>(hW.cell (p:=⟨gk,0+j,none⟩) hgk).trans (d3 j hj));rw[List.take_length]at this;exact this
     clear hf e2 hR hD hmap0 hsh0 hmap d3;go_wp2_with (go_at_call 113;refine(hcl _ ((hbl.alloc hsz _).alloc (by simp;omega) _) ((zA _ _).alloc (by simp) _)).mono ?_);rintro e w2 ⟨rfl,rfl⟩;cases hk:kinds.contains a2 with
     |true=>
       have hR':Hid (zmy ms (sl.drop (j+1)) (c+1)=zmy ms sl 0):=(by rw[hS.out,if_pos hk];exact rfl);clear hk hS hcl;go_wp2;go_roundw
       case rel=>exact⟨j+1,c+1,by omega,by omega,by go_num,by go_num,hR'.out,(hbl.alloc hsz _).alloc (by simp;omega) _⟩
       case measure=>simp[intOf];omega
     |false=>
       have hE:Hid (z5q ms sl=false):=(by unfold z5q;rw[hS.out,if_neg (by rw[hk];exact Bool.false_ne_true)];exact rfl);clear hk hS hcl;go_wp2;go_ret;exact⟨by rw[hE.out];rfl,(hbl.alloc hsz _).alloc (by simp;omega) _⟩
  ·have hjl:j=sl.length:=(by omega);have hE:Hid (z5q ms sl=((c:Int)==(ms.length:Int))):=by
    unfold z5q;rw[←hR.out,hjl,List.drop_length,zmy];show(c==ms.length)=_;rw[Bool.eq_iff_iff];simp;omega
   clear hR hjl;have hlen:=hmap.runLen underlying144 3;go_wp2;go_ret;exact⟨by rw[hE.out];rfl,hbl⟩
abbrev zqk:=List UInt8×List UInt8×Int×Int
def sReg:List UInt8:=[114,101,103,105,115,116,101,114]
def sKv:List UInt8:=[107,118]
def zsK:List UInt8:=[113,117,101,117,101]
def sSet:List UInt8:=[115,101,116]
def zyy:List UInt8:=[108,111,99,107]
def opTab:List zqk:=[(sReg,[114,101,97,100],0,2),(sReg,[119,114,105,116,101],2,1),(sReg,[99,97,115],6,4),
 (sKv,[103,101,116],1,3),(sKv,[112,117,116],3,1),(sKv,[100,101,108],1,4),(zsK,[101,110,113],2,1),(zsK,[100,101,113],0,3),
 (sSet,[97,100,100],1,4),(sSet,[114,101,109],1,4),(sSet,[104,97,115],1,4),(zyy,[97,99,113],0,4),(zyy,[114,101,108],0,4)]
def zq5 (o:zqk):List Value:=[.string ⟨o.1.toArray⟩,.string ⟨o.2.1.toArray⟩,.int .u8 o.2.2.1,.int .u8 o.2.2.2]
def zeb:Array Value:=(opTab.flatMap zq5).toArray
def Ops (w:World):Prop:=w.var? prog "linear/models.operations"=some zeb
theorem Ops.below {w w':World}(h:Ops w)(k:Below 10 w w'):Ops w':=var?_below k (show prog.globalNamed "linear/models.operations"=some 0 by kernel_rfl) (by omega) h
theorem Ops.blk {w:World}(h:Ops w):∃t f,w.heap[0]?=some (.cells zeb t f):=by
 unfold Ops World.var? at h;rw[show prog.globalNamed "linear/models.operations"=some 0 by kernel_rfl]at h;simp only [Option.bind_some]at h;split at h
 ·rename_i cs t f hb;exact⟨t,f,by rw[hb];simp at h;rw[h]⟩
 ·cases h
def zQS (o:zqk):Value:=.agg #[.string ⟨o.1.toArray⟩,.string ⟨o.2.1.toArray⟩,.int .u8 o.2.2.1,.int .u8 o.2.2.2]
theorem zsU (j:Nat)(h:j<opTab.length)(w:World):(Instr.index 91 (.agg zeb) (.int .i64 j)).run prog w=.ok (zQS opTab[j]) w:=by
 match j,h with
 |0,_=>show Sem.run prog (Instr.index 91 (.agg zeb) (.int .i64 ((0:Nat):Int))) w=.ok (zQS opTab[0]) w;kernel_rfl
 |1,_=>show Sem.run prog (Instr.index 91 (.agg zeb) (.int .i64 ((1:Nat):Int))) w=.ok (zQS opTab[1]) w;kernel_rfl
 |2,_=>show Sem.run prog (Instr.index 91 (.agg zeb) (.int .i64 ((2:Nat):Int))) w=.ok (zQS opTab[2]) w;kernel_rfl
 |3,_=>show Sem.run prog (Instr.index 91 (.agg zeb) (.int .i64 ((3:Nat):Int))) w=.ok (zQS opTab[3]) w;kernel_rfl
 |4,_=>show Sem.run prog (Instr.index 91 (.agg zeb) (.int .i64 ((4:Nat):Int))) w=.ok (zQS opTab[4]) w;kernel_rfl
 |5,_=>show Sem.run prog (Instr.index 91 (.agg zeb) (.int .i64 ((5:Nat):Int))) w=.ok (zQS opTab[5]) w;kernel_rfl
 |6,_=>show Sem.run prog (Instr.index 91 (.agg zeb) (.int .i64 ((6:Nat):Int))) w=.ok (zQS opTab[6]) w;kernel_rfl
 |7,_=>show Sem.run prog (Instr.index 91 (.agg zeb) (.int .i64 ((7:Nat):Int))) w=.ok (zQS opTab[7]) w;kernel_rfl
 |8,_=>show Sem.run prog (Instr.index 91 (.agg zeb) (.int .i64 ((8:Nat):Int))) w=.ok (zQS opTab[8]) w;kernel_rfl
 |9,_=>show Sem.run prog (Instr.index 91 (.agg zeb) (.int .i64 ((9:Nat):Int))) w=.ok (zQS opTab[9]) w;kernel_rfl
 |10,_=>show Sem.run prog (Instr.index 91 (.agg zeb) (.int .i64 ((10:Nat):Int))) w=.ok (zQS opTab[10]) w;kernel_rfl
 |11,_=>show Sem.run prog (Instr.index 91 (.agg zeb) (.int .i64 ((11:Nat):Int))) w=.ok (zQS opTab[11]) w;kernel_rfl
 |12,_=>show Sem.run prog (Instr.index 91 (.agg zeb) (.int .i64 ((12:Nat):Int))) w=.ok (zQS opTab[12]) w;kernel_rfl
 |n+13,h=>simp[opTab]at h;omega
def zOI (m:List UInt8)(l:List zqk):Bool:=l.any (fun o=>o.1==m)
def zco (m n:List UInt8)(l:List zqk):Option zqk:=l.find? (fun o=>o.1==m&&o.2.1==n)
theorem zYW (s:ByteArray):s.toList=s.data.toList:=by
 exact ByteArray.toList_eq s
theorem zZL (s:ByteArray)(w:World)(ho:Ops w)(_hng:10≤w.heap.size):
 Calls prog 18 #[.string s] w fun e w'=>e=.returned (.bool (zOI s.data.toList opTab))∧Below w.heap.size w w':=by
 obtain⟨tt,ff,hb⟩:=ho.blk;go_enter func18,ntmps18;go_wp2_with (refine wpList_load_row rfl 91 _ rfl 0 rfl tt _ ff _ hb underlying91 rfl (by kernel_rfl) ?_);go_loopw [6] (fun i wr=>∃j:Nat,j≤opTab.length∧i=.int .i64 j∧zOI s.data.toList (opTab.drop j)=zOI s.data.toList opTab∧Below w.heap.size w wr) (fun i _=>opTab.length-(intOf i).toNat)
 case atStart=>exact⟨0,Nat.zero_le _,rfl,rfl,zD⟩
 case round=>
  obtain⟨j,hj,rfl,hR,hbl⟩:=hrel;have HR:Hid (zOI s.data.toList (opTab.drop j)=zOI s.data.toList opTab):=hR;clear hR hb;by_cases hlt:j<opTab.length
  ·have hix:=zsU j hlt;have hD:Hid (opTab.drop j=opTab[j]::opTab.drop (j+1)):=zKU _ j hlt;have hlt':(j:Int)<13:=(by simp[opTab]at hlt;omega);generalize opTab[j]=o at*;obtain⟨om,on,o1,o2⟩:=o;unfold zQS at hix;simp only at hix;have hsz:=hbl.size;cases hq:(om==s.toList)with
   |true=>
     have hE:Hid (zOI s.data.toList opTab=true):=(by rw[←HR.out,hD.out];simp[zOI,←zYW,hq,Hid]);clear HR hD;go_wp2;go_ret;exact⟨by rw[hE.out];rfl,hbl.alloc hsz _⟩
   |false=>
     have hE:Hid (zOI s.data.toList (opTab.drop (j+1))=zOI s.data.toList opTab):=(by rw[←HR.out,hD.out];simp[zOI,←zYW,hq,Hid]);clear HR hD;go_wp2;go_roundw
     case rel=>exact⟨j+1,by omega,by go_num,hE.out,hbl.alloc hsz _⟩
     case measure=>simp[intOf];omega
  ·have hjl:j=opTab.length:=(by omega);have hE:Hid (zOI s.data.toList opTab=false):=(by rw[←HR.out,hjl,List.drop_length];exact rfl);have hlt':¬(j:Int)<13:=(by simp[opTab]at hlt;omega);clear HR hjl;go_wp2;go_ret;exact⟨by rw[hE.out];rfl,hbl⟩
theorem zoY (s n:ByteArray)(w:World)(ho:Ops w)(hng:10≤w.heap.size):
 Calls prog 114 #[.string s,.string n] w fun e w'=>Below w.heap.size w w'∧
  ((∃o,zco s.data.toList n.data.toList opTab=some o∧e=.returned (.tuple #[zQS o,.bool true]))∨(zco s.data.toList n.data.toList opTab=none∧e=.returned (.tuple #[zQS ([],[],0,0),.bool false]))):=by
 obtain⟨tt,ff,hb⟩:=ho.blk;go_enter func114,ntmps114;go_wp2_with (refine wpList_load_row rfl 91 _ rfl 0 rfl tt _ ff _ ((zD1 _ _ _ (by omega)).trans hb) underlying91 rfl (by kernel_rfl) ?_);go_loopw [9] (fun i wr=>∃j:Nat,j≤opTab.length∧i=.int .i64 j∧zco s.data.toList n.data.toList (opTab.drop j)=zco s.data.toList n.data.toList opTab∧Below w.heap.size w wr∧wr.heap[w.heap.size]?=some (.cells #[.string ⟨#[]⟩,.string ⟨#[]⟩,.int .u8 0,.int .u8 0] 90 (0,0))) (fun i _=>opTab.length-(intOf i).toNat)
 case atStart=>exact⟨0,Nat.zero_le _,rfl,rfl,zA _ _,ziF _ _ _ rfl⟩
 case round=>
  obtain⟨j,hj,rfl,hR,hbl,hr⟩:=hrel;have HR:Hid (zco s.data.toList n.data.toList (opTab.drop j)=zco s.data.toList n.data.toList opTab):=hR;clear hR hb;have hrl:=zBq hr;have r0:=zBk hr 0;have r1:=zBk hr 1;have r2:=zBk hr 2;have r3:=zBk hr 3;have f0:=zBn hr 0;have f1:=zBn hr 1;have f2:=zBn hr 2;have f3:=zBn hr 3;simp at r0 r1 r2 r3;by_cases hlt:j<opTab.length
  ·have hix:=zsU j hlt;have hD:Hid (opTab.drop j=opTab[j]::opTab.drop (j+1)):=zKU _ j hlt;have hlt':(j:Int)<13:=(by simp[opTab]at hlt;omega);generalize opTab[j]=o at*;obtain⟨om,on,o1,o2⟩:=o;unfold zQS at hix;simp only at hix;have hsz:=hbl.size;cases hq:(om==s.toList)with
   |true=>
     cases hq2:(on==n.toList)with
     |true=>
       have hE:Hid (zco s.data.toList n.data.toList opTab=some (om,on,o1,o2)):=(by rw[←HR.out,hD.out];simp[zco,←zYW,hq,hq2,Hid]);clear HR hD hr;go_wp2;exact bodyPost_ret (v:=.tuple #[zQS (om,on,o1,o2),.bool true]) (by simp[results,results114,go_sem,r0,r1,r2,r3,hrl,zQS]) rfl ⟨((((hbl.setCell (p:=⟨w.heap.size,0,none⟩) zG _).setCell (p:=⟨w.heap.size,1,none⟩) zG _).setCell (p:=⟨w.heap.size,2,none⟩) zG _).setCell (p:=⟨w.heap.size,3,none⟩) zG _).alloc (by simp[World.setCell];omega) _,Or.inl ⟨_,hE.out,rfl⟩⟩
     |false=>
       have hE:Hid (zco s.data.toList n.data.toList (opTab.drop (j+1))=zco s.data.toList n.data.toList opTab):=(by rw[←HR.out,hD.out];simp[zco,←zYW,hq2,Hid]);have hr':=(zD1 wr (.cells #[.string ⟨om.toArray⟩,.string ⟨on.toArray⟩,.int .u8 o1,.int .u8 o2] 90) w.heap.size hrl).trans hr;have HR':Hid _:=hr';clear HR hD hr hr';go_wp2;go_roundw
       case rel=>exact⟨j+1,by omega,by go_num,hE.out,hbl.alloc hsz _,HR'.out⟩
       case measure=>simp[intOf];omega
   |false=>
     have hE:Hid (zco s.data.toList n.data.toList (opTab.drop (j+1))=zco s.data.toList n.data.toList opTab):=(by rw[←HR.out,hD.out];simp[zco,←zYW,hq,Hid]);have hr':=(zD1 wr (.cells #[.string ⟨om.toArray⟩,.string ⟨on.toArray⟩,.int .u8 o1,.int .u8 o2] 90) w.heap.size hrl).trans hr;have HR':Hid _:=hr';clear HR hD hr hr';go_wp2;go_roundw
     case rel=>exact⟨j+1,by omega,by go_num,hE.out,hbl.alloc hsz _,HR'.out⟩
     case measure=>simp[intOf];omega
  ·have hjl:j=opTab.length:=(by omega);have hE:Hid (zco s.data.toList n.data.toList opTab=none):=(by rw[←HR.out,hjl,List.drop_length];exact rfl);have hlt':¬(j:Int)<13:=(by simp[opTab]at hlt;omega);clear HR hjl hr;go_wp2;exact bodyPost_ret (v:=.tuple #[zQS ([],[],0,0),.bool false]) (by simp[results,results114,go_sem,r0,r1,r2,r3,zQS]) rfl ⟨(((hbl.setCell (p:=⟨w.heap.size,0,none⟩) zG _).setCell (p:=⟨w.heap.size,1,none⟩) zG _).setCell (p:=⟨w.heap.size,2,none⟩) zG _).setCell (p:=⟨w.heap.size,3,none⟩) zG _,Or.inr ⟨hE.out,rfl⟩⟩
def sKey:List UInt8:=[107,101,121]
def sArg:List UInt8:=[97,114,103]
def sExp:List UInt8:=[101,120,112]
def z8C (ms:List Mem):Int:=(if(z8R ms sKey).isSome then 1 else 0)+(if(z8R ms sArg).isSome then 2 else 0)+(if(z8R ms sExp).isSome then 4 else 0)
theorem zBE (ms:List Mem)(nm:List UInt8):∃a b c,(z0Q ms (.string nm)).getD (.agg #[.int .i64 0,.int .i64 0,.string ⟨#[]⟩])=.agg #[.int .i64 a,.int .i64 b,.string c]∧(z0Q ms (.string nm)).isSome=(z8R ms nm).isSome:=by
 cases h:z8R ms nm with
 |none=>exact⟨0,0,⟨#[]⟩,by simp[z0Q,h],by simp[z0Q,h]⟩
 |some m=>exact⟨m.2.1,m.2.2.1,⟨m.2.2.2.toArray⟩,by simp[z0Q,h,aggV],by simp[z0Q,h]⟩
theorem z8H (w:World)(bm n sz:Nat)(ms:List Mem)(hmap:MapFn w 9 bm n sz (z0Q ms)):
 Calls prog 115 #[.map (some bm)] w fun e w'=>e=.returned (.int .u8 (z8C ms))∧Below w.heap.size w w':=by
 obtain⟨k1,k2,k3,hk,hkb⟩:=zBE ms sKey;obtain⟨a1,a2,a3,ha,hab⟩:=zBE ms sArg;obtain⟨e1,e2,e3,he,heb⟩:=zBE ms sExp;have l1:=hmap.runOk lawS underlying144 (z7H _) (zjt (s:=⟨#[107,101,121]⟩) (by decide));have l2:=(hmap.alloc (.cells #[.int .i64 k1,.int .i64 k2,.string k3] 244)).runOk lawS underlying144 (z7H _) (zjt (s:=⟨#[97,114,103]⟩) (by decide));have l3:=((hmap.alloc (.cells #[.int .i64 k1,.int .i64 k2,.string k3] 244)).alloc (.cells #[.int .i64 a1,.int .i64 a2,.string a3] 244)).runOk lawS underlying144 (z7H _) (zjt (s:=⟨#[101,120,112]⟩) (by decide));rw[show((⟨#[107,101,121]⟩:ByteArray)).data.toList=sKey from rfl,hk,hkb]at l1;rw[show((⟨#[97,114,103]⟩:ByteArray)).data.toList=sArg from rfl,ha,hab]at l2;rw[show((⟨#[101,120,112]⟩:ByteArray)).data.toList=sExp from rfl,he,heb]at l3;unfold z8C;clear hk hkb ha hab he heb hmap;generalize (z8R ms sKey).isSome=x at*;generalize (z8R ms sArg).isSome=y at*;generalize (z8R ms sExp).isSome=z at*;cases x<;>cases y<;>cases z
 all_goals
  go_enter func115,ntmps115;go_wp2;go_ret;refine⟨?_,((zA _ _).alloc (by simp) _).alloc (by simp;omega) _⟩
  first
   | rfl
   | (simp;done)
   | decide
def zIyy (g kind:Int):Bool:=decide (0≤kind∧kind≤2)&&decide ((g/(2 ^ kind.toNat))%2=1)
theorem zAh (m n:ByteArray)(nd g kind:Int)(w:World)(hg:g=0∨g=1∨g=2∨g=3∨g=4)(h0:kind=0∨kind=1∨kind=2):
 Calls prog 116 #[.agg #[.string m,.string n,.int .u8 nd,.int .u8 g],.int .i64 kind] w fun e w'=>e=.returned (.bool (zIyy g kind))∧Below w.heap.size w w':=by
 rcases h0 with rfl|rfl|rfl<;>rcases hg with rfl|rfl|rfl|rfl|rfl
 all_goals
  go_enter func116,ntmps116;go_wp2;go_quiet (fail);go_wp2;go_ret;refine⟨?_,below_drewN (zA _ _) _⟩
  first
   | rfl
   | (simp[zIyy];done)
   | decide
structure OpV where
 id:Int
 cl:Int
 name:List UInt8
 key:List UInt8
 arg:Int
 exp:Int
 call:Int
 ret:Int
 vk:Int
 vn:Int
def opvCells (o:OpV):List Value:=[.int .i64 o.id,.int .i64 o.cl,.string ⟨o.name.toArray⟩,.string ⟨o.key.toArray⟩,.int .i64 o.arg,.int .i64 o.exp,.int .i64 o.call,.int .i64 o.ret,.int .i64 o.vk,.int .i64 o.vn]
def opsRow (l:List OpV):List Value:=l.flatMap opvCells
def z09 (l:List OpV)(x:Int):Option Nat:=l.findIdx? (fun o=>o.id==x)
def idFn (l:List OpV):Lit→Option Value
 |.int .i64 x=>(z09 l x).map (fun i=>Value.int .i64 (i:Int))
 |_=>none
def openOf (l:List OpV)(c:Int):Nat:=(l.filter (fun o=>o.cl==c&&o.ret==0)).length
structure Rec (w:World)(rc b1 b2 base n:Nat)(v:Value)(model:ByteArray)(ops:List OpV):Prop where
 blk:w.heap[rc]?=some (.cells #[.string model,v,.map (some b1),.map (some b2)] 94 (0,0))
 own:w.ownsRow base 74 10 v ops.length (opsRow ops)
 ids:∃sz,MapFn w 2 b1 n sz (idFn ops)
 opn:∃sz f,MapFn w 2 b2 n sz f∧∀c,(f (.int .i64 c)).getD (.int .i64 0)=.int .i64 (openOf ops c)
 lt1:rc<base
 lt2:b1<base
 lt3:b2<base
 ne1:rc≠b1
 ne2:rc≠b2
 ne3:b1≠b2
 few:n≤1000∧ops.length≤n
 wfs:∀o∈ops,(Lit.int .i64 o.cl).wf=true
theorem Rec.kept {w w':World}{rc b1 b2 base n:Nat}{v:Value}{model:ByteArray}{ops:List OpV}{S:List Nat}(h:Rec w rc b1 b2 base n v model ops)(k:Kept S w w')(hS:∀x∈S,False):Rec w' rc b1 b2 base n v model ops:=by
 have hn:∀x,x∉S:=fun x hx=>hS x hx;obtain⟨sz,h1⟩:=h.ids;obtain⟨sz2,f,h2,h3⟩:=h.opn;exact⟨(k.block rc (zBq h.blk) (hn _)).trans h.blk,zzF h.own k (fun x hx=>(hS x hx).elim),⟨sz,h1.kept k (hn _)⟩,⟨sz2,f,h2.kept k (hn _),h3⟩,h.lt1,h.lt2,h.lt3,h.ne1,h.ne2,h.ne3,h.few,h.wfs⟩
theorem Rec.below {w w':World}{rc b1 b2 base n:Nat}{v:Value}{model:ByteArray}{ops:List OpV}(h:Rec w rc b1 b2 base n v model ops)(k:Below w.heap.size w w'):Rec w' rc b1 b2 base n v model ops:=
 h.kept (S:=[]) (Kept.of_below k) (by simp)
def z3k:List UInt8:=[99,97,108,108]
def sBy:List UInt8:=[98,121]
def sOp:List UInt8:=[111,112]
def zqd (ms:List Mem)(nm:List UInt8):Int:=((z8R ms nm).map (fun m=>m.2.2.1)).getD 0
def zbh (ms:List Mem)(nm:List UInt8):List UInt8:=((z8R ms nm).map (fun m=>m.2.2.2)).getD []
def zRl (model:List UInt8)(ops:List OpV)(ms:List Mem)(line:Int):Int×Option OpV:=
 let o:OpV:=⟨zqd ms z3k,zqd ms sBy,zbh ms sOp,zbh ms sKey,zqd ms sArg,zqd ms sExp,line,0,0,0⟩
 match zco model o.name opTab with
 |none=>(4,none)
 |some r=>if r.2.2.1=z8C ms then(if(z09 ops o.id).isSome then(5,none)else if openOf ops o.cl > 0 then(6,none)else(0,some o))else(4,none)
theorem zxj (ms:List Mem)(nm:List UInt8):∃a,(z0Q ms (.string nm)).getD (.agg #[.int .i64 0,.int .i64 0,.string ⟨#[]⟩])=.agg #[.int .i64 a,.int .i64 (zqd ms nm),.string ⟨(zbh ms nm).toArray⟩]:=by
 cases h:z8R ms nm with
 |none=>exact⟨0,by simp[z0Q,zqd,zbh,h]⟩
 |some m=>exact⟨m.2.1,by simp[z0Q,zqd,zbh,h,aggV]⟩
theorem zxZ {x:Int}(h:(Lit.int .i64 x).wf=true):keyOf prog 2 (.int .i64 x)=some (.int .i64 x):=keyOf_int_mk underlying2 h
theorem zLY (x y z:Value)(w:World):(Instr.field 244 (.agg #[x,y,z]) 0).run prog w=.ok (.agg #[x,y]) w:=by kernel_rfl
theorem z6Y (x y z:Value)(w:World):(Instr.field 244 (.agg #[x,y,z]) 1).run prog w=.ok z w:=by kernel_rfl
theorem zwU (x y:Value)(w:World):(Instr.field 72 (.agg #[x,y]) 1).run prog w=.ok y w:=by kernel_rfl
def zp1 (f:Lit→Option Value)(c:Int)(x:Int):Lit→Option Value
 |.int .i64 y=>if y=c then some (.int .i64 x)else f (.int .i64 y)
 |l=>f l
theorem zSg (f:Lit→Option Value)(c x:Int):zp1 f c x (.int .i64 c)=some (.int .i64 x):=by simp[zp1]
theorem zPm (f:Lit→Option Value)(c x:Int):∀l,l≠.int .i64 c→zp1 f c x l=f l:=by
 intro l hl;unfold zp1;split
 ·rw[if_neg (fun e=>hl (by rw[e]))]
 ·rfl
theorem zqg (ops:List OpV)(o:OpV)(c:Int):openOf (ops++[o]) c=openOf ops c+(if o.cl=c∧o.ret=0 then 1 else 0):=by
 unfold openOf;rw[List.filter_append,zI];congr 1;by_cases h:o.cl=c∧o.ret=0
 ·simp[h]
 ·rw[if_neg h];have:(o.cl==c&&o.ret==0)=false:=by
   rw[Bool.eq_false_iff];intro hh;simp at hh;exact h hh
  simp[this]
theorem zji (ops:List OpV)(o:OpV)(x:Int)(h:z09 ops o.id=none):z09 (ops++[o]) x=if x=o.id then some ops.length else z09 ops x:=by
 unfold z09 at*;rw[List.findIdx?_append];by_cases e:x=o.id
 ·subst e;rw[h,if_pos rfl];simp
 ·rw[if_neg e];have hne:(o.id==x)=false:=by simp;exact fun h=>e h.symm
  cases hq:List.findIdx? (fun o=>o.id==x) ops with
  |none=>simp[hne]
  |some i=>simp
theorem zQw (ops:List OpV)(o:OpV)(h:z09 ops o.id=none):idFn (ops++[o]) (.int .i64 o.id)=some (.int .i64 (ops.length:Int))∧∀l,l≠.int .i64 o.id→idFn (ops++[o]) l=idFn ops l:=by
 constructor
 ·simp[idFn,zji ops o _ h]
 ·intro l hl;unfold idFn;split
  ·rename_i x;rw[zji ops o _ h,if_neg (fun e=>hl (by rw[e]))]
  ·rfl
theorem z2L (l:List OpV)(o:OpV):opsRow (l++[o])=opsRow l++opvCells o:=by simp[opsRow]
theorem zIW {w:World}{base:Nat}{e:TypeId}{size:Nat}{v:Value}{n:Nat}{xs:List Value}(h:w.ownsRow base e size v n xs):∃a c,v=.slice a n c:=by
 rcases h.2 with ⟨rfl,rfl⟩|⟨g,cap,cur,rfl,_⟩
 ·exact⟨none,0,rfl⟩
 ·exact⟨_,_,rfl⟩
theorem zSl:(prog.info? 74).map (fun i=>(i.zero,i.size,i.bytes))=some (some (.agg #[.int .i64 0,.int .i64 0,.string ⟨#[]⟩,.string ⟨#[]⟩,.int .i64 0,.int .i64 0,.int .i64 0,.int .i64 0,.int .i64 0,.int .i64 0]),10,96):=by kernel_rfl
theorem z9R (w:World)(t:TypeId)(l:List Value):∀j u,l[j]?=some u→(w.alloc (.cells l.toArray t)).cell? ((⟨w.heap.size,0,none⟩:Addr).add j)=some u:=by
 intro j u hj;have hb:=ziF w (.cells l.toArray t) w.heap.size rfl;have e:(⟨w.heap.size,0,none⟩:Addr).add j=⟨w.heap.size,j,none⟩:=by
  by_cases h0:j=0
  ·subst h0;simp[Addr.add]
  ·simp[Addr.add,h0]
 rw[e,zBk hb];simpa using hj
theorem zti {P:Program} {ops:Array Oper} {o:Oper} {a:Act} {w:World} {K:Act→World→Prop} {Q:Exit→Act→World→Prop} {E:Prop}
 (hg:o.guard=none) (s x:Operand) (t:TypeId) (hop:o.op=Op.call { callee:=Callee.builtin Builtin.append,args:=#[s,x],argTypes:=#[t,t] })
 (v xv v':Value) (w':World) (hs:a.eval s=v) (hx:a.eval x=xv) (hrun:(Builtin.append_ #[t,t] o.type #[v,xv]).run P w=.ok v' w') (hK:K (a.put o.dst v') w'):
 if Region.wanted o (yielded ops a.tmps)=true then Oper.wp P o a w K Q else E:=by
 have hw:Region.wanted o (yielded ops a.tmps)=true:=by simp[Region.wanted,hg]
 rw[if_pos hw];unfold Oper.wp;simp[execOp,hop,resolve,invoke,builtin,hs,hx,hrun,Result.andThen];exact hK
theorem Kept.grownS {S:List Nat}{a w w':World}{row:Option Nat}(h:Kept S a w)(hg:w.grownBy w' row)(hr:∀g,row=some g→g∈S):Kept S a w':=
 ⟨hg.os.trans h.os,hg.tape.trans h.tape,hg.output.trans h.output,Nat.le_trans h.size hg.size,fun i hi hn=>
  (hg.block i (zH hi h.size) (fun e=>hn (hr i e.symm))).trans (h.block i hi hn)⟩
theorem z1l {ops:List OpV}{f:Lit→Option Value}(h:∀c,(f (.int .i64 c)).getD (.int .i64 0)=.int .i64 (openOf ops c))(o:OpV)(hr:o.ret=0)(h0:openOf ops o.cl=0):
 ∀c,(zp1 f o.cl 1 (.int .i64 c)).getD (.int .i64 0)=.int .i64 (openOf (ops++[o]) c):=by
 intro c;rw[zqg];by_cases e:c=o.cl
 ·subst e;rw[zSg,h0];simp[hr]
 ·rw[zPm _ _ _ _ (by intro h';apply e;injection h'),h c,if_neg (fun h'=>e h'.1.symm)];simp
theorem zFY (s n:ByteArray)(w:World)(ho:Ops w)(hng:10≤w.heap.size):
 Calls prog 114 #[.string s,.string n] w fun e w'=>∃(om on:List UInt8) (nd gv:Int) (ok:Bool),e=.returned (.tuple #[.agg #[.string ⟨om.toArray⟩,.string ⟨on.toArray⟩,.int .u8 nd,.int .u8 gv],.bool ok])∧Below w.heap.size w w'∧
  ((ok=true∧zco s.data.toList n.data.toList opTab=some (om,on,nd,gv))∨(ok=false∧zco s.data.toList n.data.toList opTab=none)):=by
 refine(zoY s n w ho hng).mono ?_;rintro e w' ⟨hb,⟨o,h1,rfl⟩|⟨h1,rfl⟩⟩
 ·exact⟨o.1,o.2.1,o.2.2.1,o.2.2.2,true,rfl,hb,Or.inl ⟨rfl,h1⟩⟩
 ·exact⟨[],[],0,0,false,rfl,hb,Or.inr ⟨rfl,h1⟩⟩
structure ZeroOp (w:World)(b:Nat):Prop where
 c0:w.cell? ⟨b,0,none⟩=some (.string ⟨#[]⟩)
 c1:w.cell? ⟨b,1,none⟩=some (.string ⟨#[]⟩)
 c2:w.cell? ⟨b,2,none⟩=some (.int .u8 0)
 c3:w.cell? ⟨b,3,none⟩=some (.int .u8 0)
 f0:w.frozen? ⟨b,0,none⟩=false
 f1:w.frozen? ⟨b,1,none⟩=false
 f2:w.frozen? ⟨b,2,none⟩=false
 f3:w.frozen? ⟨b,3,none⟩=false
 blk:w.heap[b]?=some (.cells #[.string ⟨#[]⟩,.string ⟨#[]⟩,.int .u8 0,.int .u8 0] 90 (0,0))
theorem zkn (s n:ByteArray)(W1 W:World)(hW:Below W1.heap.size W1 W)(ho:Ops W1)(hng:10≤W1.heap.size):
 Calls prog 114 #[.string s,.string n] W fun e w'=>∃(om on:List UInt8) (nd gv:Int) (ok:Bool),e=.returned (.tuple #[.agg #[.string ⟨om.toArray⟩,.string ⟨on.toArray⟩,.int .u8 nd,.int .u8 gv],.bool ok])∧Below W1.heap.size W1 w'∧
  ((ok=true∧zco s.data.toList n.data.toList opTab=some (om,on,nd,gv))∨(ok=false∧zco s.data.toList n.data.toList opTab=none))∧
  (W.heap[W1.heap.size]?=some (.cells #[.string ⟨#[]⟩,.string ⟨#[]⟩,.int .u8 0,.int .u8 0] 90 (0,0))→ZeroOp w' W1.heap.size):=by
 refine(zFY s n W (ho.below (hW.mono hng)) (Nat.le_trans hng hW.size)).mono ?_;rintro e w' ⟨om,on,nd,gv,ok,rfl,hb,h⟩;refine⟨om,on,nd,gv,ok,rfl,hW.trans (hb.mono hW.size),h,fun hz=>?_⟩;have hk:=(hb.block W1.heap.size (zBq hz)).trans hz;exact⟨by rw[zBk hk];rfl,by rw[zBk hk];rfl,by rw[zBk hk];rfl,by rw[zBk hk];rfl,zBn hk _,zBn hk _,zBn hk _,zBn hk _,hk⟩
theorem blk4 {w:World}{b:Nat}{x0 x1 x2 x3:Value}{t:TypeId}(h:w.heap[b]?=some (.cells #[x0,x1,x2,x3] t (0,0)))(y0 y1 y2 y3:Value):
 ((((w.setCell ⟨b,0,none⟩ y0).setCell ⟨b,1,none⟩ y1).setCell ⟨b,2,none⟩ y2).setCell ⟨b,3,none⟩ y3).heap[b]?=some (.cells #[y0,y1,y2,y3] t (0,0)):=by
 rw[zFg (zFg (zFg (zFg h 0 y0) 1 y1) 2 y2) 3 y3];rfl
theorem zmi {w0 w:World}{B b:Nat}(h:Below B w0 w)(hb:B≤b)(y0 y1 y2 y3:Value):Below B w0 ((((w.setCell ⟨b,0,none⟩ y0).setCell ⟨b,1,none⟩ y1).setCell ⟨b,2,none⟩ y2).setCell ⟨b,3,none⟩ y3):=
 (((h.setCell (p:=⟨b,0,none⟩) hb y0).setCell (p:=⟨b,1,none⟩) hb y1).setCell (p:=⟨b,2,none⟩) hb y2).setCell (p:=⟨b,3,none⟩) hb y3
theorem zEg (w:World) (rc b1 b2 base n bm nm sz L:Nat) (v:Value) (model:ByteArray) (ops:List OpV) (ms:List Mem) (line:Int)
 (hr:Rec w rc b1 b2 base n v model ops) (hm:MapFn w 9 bm nm sz (z0Q ms)) (ho:Ops w) (hng:10≤w.heap.size) (hL:L≤rc∧L≤b1∧L≤b2) (hwf:∀nm,(Lit.int .i64 (zqd ms nm)).wf=true) (hbs:base≤w.heap.size) (hn9:n≤900):
 Calls prog 70 #[.pointer (some ⟨rc,0,none⟩),.map (some bm),.int .i64 line] w fun e w'=>
  e=.returned (.int .i64 (zRl model.data.toList ops ms line).1)∧Below L w w'∧(∀o,(zRl model.data.toList ops ms line).2=some o→∃v',Rec w' rc b1 b2 base (n+1) v' model (ops++[o])):=by
 obtain⟨x1,l1⟩:=zxj ms z3k;obtain⟨x2,l2⟩:=zxj ms sBy;obtain⟨x3,l3⟩:=zxj ms sOp;obtain⟨x4,l4⟩:=zxj ms sKey;obtain⟨x5,l5⟩:=zxj ms sArg;obtain⟨x6,l6⟩:=zxj ms sExp;have r1:=hm.run1 lawS underlying144 (z7H _) (zjt (s:=⟨#[99,97,108,108]⟩) (by decide));have r2:=hm.run1 lawS underlying144 (z7H _) (zjt (s:=⟨#[98,121]⟩) (by decide));have r3:=hm.run1 lawS underlying144 (z7H _) (zjt (s:=⟨#[111,112]⟩) (by decide));have r4:=hm.run1 lawS underlying144 (z7H _) (zjt (s:=⟨#[107,101,121]⟩) (by decide));have r5:=hm.run1 lawS underlying144 (z7H _) (zjt (s:=⟨#[97,114,103]⟩) (by decide));have r6:=hm.run1 lawS underlying144 (z7H _) (zjt (s:=⟨#[101,120,112]⟩) (by decide));rw[show((⟨#[99,97,108,108]⟩:ByteArray)).data.toList=z3k from rfl,l1]at r1;rw[show((⟨#[98,121]⟩:ByteArray)).data.toList=sBy from rfl,l2]at r2;rw[show((⟨#[111,112]⟩:ByteArray)).data.toList=sOp from rfl,l3]at r3;rw[show((⟨#[107,101,121]⟩:ByteArray)).data.toList=sKey from rfl,l4]at r4;rw[show((⟨#[97,114,103]⟩:ByteArray)).data.toList=sArg from rfl,l5]at r5;rw[show((⟨#[101,120,112]⟩:ByteArray)).data.toList=sExp from rfl,l6]at r6;have HP:Hid (zRl model.data.toList ops ms line=(match zco model.data.toList (zbh ms sOp) opTab with
  |none=>(4,none)
  |some r=>if r.2.2.1=z8C ms then(if(z09 ops (zqd ms z3k)).isSome then(5,none)else if openOf ops (zqd ms sBy) > 0 then(6,none)else(0,some ⟨zqd ms z3k,zqd ms sBy,zbh ms sOp,zbh ms sKey,zqd ms sArg,zqd ms sExp,line,0,0,0⟩))else(4,none))):=rfl
 clear l1 l2 l3 l4 l5 l6;have wf1:=hwf z3k;have wf2:=hwf sBy;clear hwf;generalize zqd ms z3k=o1 at*;generalize zqd ms sBy=o2 at*;generalize zbh ms sOp=o3 at*;generalize zbh ms sKey=o4 at*;generalize zqd ms sArg=o5 at*;generalize zqd ms sExp=o6 at*;have hrcw:=zBq hr.blk;have hb1w:b1<w.heap.size:=by obtain⟨_,h⟩:=hr.ids;exact h.lt
 have hb2w:b2<w.heap.size:=by obtain⟨_,_,h,_⟩:=hr.opn;exact h.lt
 have hLw:L≤w.heap.size:=by omega
 have c0:w.cell? ⟨rc,0,none⟩=some (.string model):=by rw[zBk hr.blk];rfl
 have hf0:=zLY;have hf1:=z6Y;have hf2:=zwU;go_enter func70,ntmps70;go_wp2;have W1b:=ziF w (.cells #[.int .i64 o1,.int .i64 o2,.string ⟨o3.toArray⟩,.string ⟨o4.toArray⟩,.int .i64 o5,.int .i64 o6,.int .i64 line,.int .i64 0,.int .i64 0,.int .i64 0] 74) w.heap.size rfl;have hbl1:Below w.heap.size w (w.alloc (.cells #[.int .i64 o1,.int .i64 o2,.string ⟨o3.toArray⟩,.string ⟨o4.toArray⟩,.int .i64 o5,.int .i64 o6,.int .i64 line,.int .i64 0,.int .i64 0,.int .i64 0] 74)):=zA _ _;clear r1 r2 r3 r4 r5 r6 c0 hf0 hf1 hf2;generalize w.alloc (.cells #[.int .i64 o1,.int .i64 o2,.string ⟨o3.toArray⟩,.string ⟨o4.toArray⟩,.int .i64 o5,.int .i64 o6,.int .i64 line,.int .i64 0,.int .i64 0,.int .i64 0] 74)=W1 at*;have hr1:=hr.below hbl1;have hm1:=hm.below hbl1;have ho1:Ops W1:=ho.below (hbl1.mono hng);have hsz1:=hbl1.size;have c0:W1.cell? ⟨rc,0,none⟩=some (.string model):=by rw[zBk hr1.blk];rfl
 have d2:W1.cell? ⟨w.heap.size,2,none⟩=some (.string ⟨o3.toArray⟩):=by rw[zBk W1b];rfl
 have hltO:=zBq W1b;have hltR:=zBq hr1.blk;have hneO:w.heap.size≠W1.heap.size:=by omega
 have hneR:rc≠W1.heap.size:=by omega
 have hA1:Below W1.heap.size W1 W1.drew:=(zD).drew;have hA2:∀o,Below W1.heap.size W1 (W1.alloc o).drew:=fun o=>((zD).alloc zG o).drew;go_cut [8,9] (fun p8 ok wx=>∃(pb:Nat) (om on:List UInt8) (nd gv:Int) (okb:Bool),p8=.pointer (some ⟨pb,0,none⟩)∧ok=.bool okb∧Below W1.heap.size W1 wx∧W1.heap.size≤pb∧
  wx.heap[pb]?=some (.cells #[.string ⟨om.toArray⟩,.string ⟨on.toArray⟩,.int .u8 nd,.int .u8 gv] 90 (0,0))∧
  ((okb=true∧zco model.data.toList o3 opTab=some (om,on,nd,gv))∨(okb=false∧zco model.data.toList o3 opTab=none)))
 case first=>
  go_region_with (go_at_call 114;refine(zkn model ⟨o3.toArray⟩ W1 _ (by first|exact hA1|exact hA2 _) ho1 (by omega)).mono ?_;rintro e w2 ⟨om,on,nd,gv,ok,rfl,hbl2,hfd,hz⟩;try (have hz':=hz (ziF W1 _ _ rfl);obtain⟨z0,z1,z2,z3,y0,y1,y2,y3,yb⟩:=hz');clear hz)
  all_goals
   go_wp2_with fail;go_meet
   first
    | exact⟨w2.heap.size,om,on,nd,gv,ok,rfl,rfl,hbl2.alloc hbl2.size _,hbl2.size,ziF _ _ _ rfl,hfd⟩
    | exact⟨W1.heap.size,om,on,nd,gv,ok,rfl,rfl,zmi hbl2 zG _ _ _ _,Nat.le_refl _,blk4 yb _ _ _ _,hfd⟩
 case rest=>
  obtain⟨pb,om,on,nd,gv,okb,rfl,rfl,hbl2,hpb,hob,hfd⟩:=hcut;have hm2:=hm1.below hbl2;have hr2:=hr1.below hbl2;have hz2:=hbl2.size;have W2b:=(hbl2.block w.heap.size hltO).trans W1b;have hltP:=zBq hob;have n2:wc.cell? ⟨pb,2,none⟩=some (.int .u8 nd):=by rw[zBk hob];rfl
  clear hob hA1 hA2 d2 c0 hneO hneR W1b;cases okb with
  |false=>
    have hfn:zco model.data.toList o3 opTab=none:=(by rcases hfd with ⟨h,_⟩|⟨_,h⟩;cases h;exact h);have hX:Hid (zRl model.data.toList ops ms line=(4,none)):=(by rw[HP.out,hfn];exact rfl);clear hfn hfd HP;go_wp2;go_quiet (fail);go_wp2;go_ret;exact⟨by rw[hX.out];rfl,below_drewN ((hbl1.mono (by omega)).trans (hbl2.mono (by omega))) _,by rw[hX.out];intro o h;cases h⟩
  |true=>
    have hfn:zco model.data.toList o3 opTab=some (om,on,nd,gv):=(by rcases hfd with ⟨_,h⟩|⟨h,_⟩;exact h;cases h);have hX:Hid (zRl model.data.toList ops ms line=(if nd=z8C ms then(if(z09 ops o1).isSome then(5,none)else if openOf ops o2 > 0 then(6,none)else(0,some ⟨o1,o2,o3,o4,o5,o6,line,0,0,0⟩))else(4,none))):=(by rw[HP.out,hfn];exact rfl);clear hfn hfd HP;have hB1:Below wc.heap.size wc wc.drew:=(zD).drew;go_wp2;go_cut [54] (fun t54 wx=>t54=.bool (nd != z8C ms)∧Below wc.heap.size wc wx)
    case first=>
     go_region_with (go_at_call 115;refine(z8H _ bm nm sz ms (hm2.below hB1)).mono ?_;rintro e w5 ⟨rfl,hb5⟩;have n2':w5.cell? ⟨pb,2,none⟩=some (.int .u8 nd):=(hb5.cell (p:=⟨pb,2,none⟩) hltP).trans n2)
     all_goals
      go_wp2_with fail;go_meet;exact⟨rfl,hB1.trans hb5⟩
    case rest=>
     obtain⟨rfl,hbl3⟩:=hcut;have hm3:=hm2.below hbl3;have hr3:=hr2.below hbl3;have hz3:=hbl3.size;have W3b:=(hbl3.block w.heap.size (by omega)).trans W2b;have hbl:Below w.heap.size w wc:=hbl1.trans ((hbl2.mono (by omega)).trans (hbl3.mono (by omega)));clear hm2 hr2 W2b hm1 hr1 hm hr hbl1 hbl2 hbl3 n2 hB1 hm3;by_cases hnd:nd=z8C ms
     ·have hne:(nd != z8C ms)=false:=(by simp[hnd]);have hX2:Hid (zRl model.data.toList ops ms line=(if(z09 ops o1).isSome then(5,none)else if openOf ops o2 > 0 then(6,none)else(0,some ⟨o1,o2,o3,o4,o5,o6,line,0,0,0⟩))):=(by rw[hX.out,if_pos hnd];exact rfl);clear hX hnd;have e2:wc.cell? ⟨rc,2,none⟩=some (.map (some b1)):=(by rw[zBk hr3.blk];rfl);have p0:wc.cell? ⟨w.heap.size,0,none⟩=some (.int .i64 o1):=(by rw[zBk W3b];rfl);obtain⟨sz1,hid1⟩:=hr3.ids;have hlk:=(hid1.below ((Below.refl wc.heap.size wc).drew)).runOk lawI underlying92 (zG7 _) (zxZ wf1);go_wp2;cases hid:z09 ops o1 with
      |some i=>
        have hX3:Hid (zRl model.data.toList ops ms line=(5,none)):=(by rw[hX2.out,hid];exact rfl);have ei:idFn ops (.int .i64 o1)=some (.int .i64 (i:Int)):=(by simp[idFn,hid]);simp only [ei,Option.getD_some,Option.isSome_some]at hlk;clear hX2 hid ei hid1 hr3 W3b;go_region
        all_goals
         go_wp2;go_ret;exact⟨by rw[hX3.out];rfl,(hbl.mono hLw).drew,by rw[hX3.out];intro o h;cases h⟩
      |none=>
        have hX3:Hid (zRl model.data.toList ops ms line=(if openOf ops o2 > 0 then(6,none)else(0,some ⟨o1,o2,o3,o4,o5,o6,line,0,0,0⟩))):=(by rw[hX2.out,hid];exact rfl);have ei:idFn ops (.int .i64 o1)=none:=(by simp[idFn,hid]);have HI:Hid (z09 ops o1=none):=hid;simp only [ei,Option.getD_none,Option.isSome_none]at hlk;clear hX2 hid ei;go_cut [10,11] (fun a b wx=>a=.int .i64 0∧b=.bool false∧wx=wc.drew)
        case first=>
         go_region
         all_goals
          go_wp2_with fail;go_meet;exact⟨rfl,rfl,rfl⟩
        case rest=>
         obtain⟨rfl,rfl,rfl⟩:=hcut;have e3:wc.cell? ⟨rc,3,none⟩=some (.map (some b2)):=(by rw[zBk hr3.blk];rfl);have p1:wc.cell? ⟨w.heap.size,1,none⟩=some (.int .i64 o2):=(by rw[zBk W3b];rfl);obtain⟨sz2,f2,hop2,hcnt⟩:=hr3.opn;have hlk2:=(hop2.below (((Below.refl wc.heap.size wc).drew).drew)).run1 lawI underlying92 (zG7 _) (zxZ wf2);rw[hcnt o2]at hlk2;clear hlk;go_wp2;by_cases hbusy:openOf ops o2 > 0
         ·have hX4:Hid (zRl model.data.toList ops ms line=(6,none)):=(by rw[hX3.out,if_pos hbusy];exact rfl);have hbz:(0:Int)<(openOf ops o2:Int):=(by omega);clear hX3 hbusy hcnt hop2 hid1 hr3 W3b;go_region
          all_goals
           go_wp2;go_ret;exact⟨by rw[hX4.out];rfl,(hbl.mono hLw).drew.drew,by rw[hX4.out];intro o h;cases h⟩
         ·have hX4:Hid (zRl model.data.toList ops ms line=(0,some ⟨o1,o2,o3,o4,o5,o6,line,0,0,0⟩)):=(by rw[hX3.out,if_neg hbusy];exact rfl);have h0:openOf ops o2=0:=(by omega);rw[h0]at hlk2;clear hX3 hbusy;go_cut [73] (fun a wx=>a=.bool false∧wx=wc.drew.drew)
          case first=>
           go_region
           all_goals
            go_wp2_with fail;go_meet;exact⟨rfl,rfl⟩
          case rest=>
           obtain⟨rfl,rfl⟩:=hcut;obtain⟨va,vcap,rfl⟩:=zIW hr3.own;have e1:wc.cell? ⟨rc,1,none⟩=some (.slice va ops.length vcap):=(by rw[zBk hr3.blk];rfl);have hfew:=hr3.few;have hsn:=zQw ops ⟨o1,o2,o3,o4,o5,o6,line,0,0,0⟩ HI.out;obtain⟨w10,hput1,hids',hk1⟩:=(hid1.below ((((Below.refl wc.heap.size wc).drew).drew).drew)).runPut lawI underlying92 (by unfold maxLen;omega) (.int .i64 (ops.length:Int)) (zxZ wf1) trivial (idFn (ops++[⟨o1,o2,o3,o4,o5,o6,line,0,0,0⟩])) hsn.1 hsn.2;clear hlk2 hsn;have hwo:∃wo,wo=wc:=⟨_,rfl⟩;obtain⟨wo,rfl⟩:=hwo;go_wp2;go_cut [6] (fun a wx=>a=.int .i64 0∧w10=wx)
           case first=>
            go_region
            all_goals
             go_wp2_with fail;go_meet;exact⟨rfl,rfl⟩
           case rest=>
            obtain⟨rfl,rfl⟩:=hcut;clear hput1;have k1:Kept [b1] wo w10:=⟨hk1.os,hk1.tape,hk1.output,hk1.size,hk1.block⟩;have hrb:=hr3.blk;have hnes:rc≠b1∧rc≠b2∧b1≠b2∧rc<base∧b1<base∧b2<base:=⟨hr3.ne1,hr3.ne2,hr3.ne3,hr3.lt1,hr3.lt2,hr3.lt3⟩;have hown0:=hr3.own;have hwfs:=hr3.wfs;have R10:=(k1.block rc (zBq hrb) (by simp;omega)).trans hrb;have B10:=(k1.block w.heap.size (zBq W3b) (by simp;omega)).trans W3b;have hop10:=hop2.kept k1 (by simp;omega);have hown10:=zzF hown0 k1 (by simp;omega);have hbl10:Below L w w10:=(hbl.mono hLw).trans (k1.below (by have:=hbl.size;omega) (by simp;omega));have z10:=k1.size;have zc:=hbl.size;clear k1 hk1 hid1 hop2 hown0 hrb hr3 W3b e1 e2 e3 p0 p1 hbl;have e3:w10.cell? ⟨rc,3,none⟩=some (.map (some b2)):=(by rw[zBk R10];rfl);have p1:w10.cell? ⟨w.heap.size,1,none⟩=some (.int .i64 o2):=(by rw[zBk B10];rfl);have hlk3:=(hop10.below ((Below.refl w10.heap.size w10).drew)).run1 lawI underlying92 (zG7 _) (zxZ wf2);rw[hcnt o2,h0]at hlk3;obtain⟨w11,hput2,hop11,hk2⟩:=(hop10.below ((Below.refl w10.heap.size w10).drew)).runPut lawI underlying92 (by unfold maxLen;omega) (.int .i64 1) (zxZ wf2) trivial (zp1 f2 o2 1) (zSg _ _ _) (zPm _ _ _);go_wp2;go_cut [6] (fun a wx=>a=.int .i64 0∧w11=wx)
            case first=>
             go_region
             all_goals
              go_wp2_with fail;go_meet;exact⟨rfl,rfl⟩
            case rest=>
             obtain⟨rfl,rfl⟩:=hcut;clear hput2 hlk3;have k2:Kept [b2] w10 w11:=⟨hk2.os,hk2.tape,hk2.output,hk2.size,hk2.block⟩;have R11:=(k2.block rc (zBq R10) (by simp;omega)).trans R10;have B11:=(k2.block w.heap.size (zBq B10) (by simp;omega)).trans B10;have hids11:=hids'.kept k2 (by simp;omega);have hown11:=zzF hown10 k2 (by simp;omega);have hbl11:Below L w w11:=hbl10.trans (k2.below (by omega) (by simp;omega));have z11:=k2.size;clear k2 hk2 R10 B10 hids' hown10 hbl10 e3 p1 hop10;obtain⟨i0,hi,hz0,hz1,hz2⟩:=info_parts zSl;obtain⟨v12,w12,hap,hown12,hgr,_⟩:=run_append_own (P:=prog) ((w11.alloc (.cells (opvCells ⟨o1,o2,o3,o4,o5,o6,line,0,0,0⟩).toArray 74)).drew) base 26 26 74 i0 _ 10 96 underlying26 hi hz0 hz1 hz2 rfl (by decide) (.slice va ops.length vcap) ops.length (opsRow ops) (hown11.alloc _) ⟨w11.heap.size,0,none⟩ 1 1 (opvCells ⟨o1,o2,o3,o4,o5,o6,line,0,0,0⟩) rfl (z9R w11 _ _) (by intro u hu;simp[opvCells]at hu;rcases hu with rfl|rfl|rfl|rfl|rfl|rfl|rfl|rfl|rfl|rfl<;>rfl) (by unfold maxLen;omega) (by omega) (by show base≤(w11.alloc _).heap.size;simp;omega);obtain⟨a12,c12,rfl⟩:=zIW hown12;have hap':(Builtin.append_ #[26,26] 26 #[.slice va ops.length vcap,.slice (some ⟨w11.heap.size,0,none⟩) 1 1]).run prog ((w11.alloc (.cells #[.int .i64 o1,.int .i64 o2,.string ⟨o3.toArray⟩,.string ⟨o4.toArray⟩,.int .i64 o5,.int .i64 o6,.int .i64 line,.int .i64 0,.int .i64 0,.int .i64 0] 74)).drew)=.ok (.slice a12 (ops.length+1) c12) w12:=hap;have q0:w11.cell? ⟨w.heap.size,0,none⟩=some (.int .i64 o1):=(by rw[zBk B11];rfl);have q1:w11.cell? ⟨w.heap.size,1,none⟩=some (.int .i64 o2):=(by rw[zBk B11];rfl);have q2:w11.cell? ⟨w.heap.size,2,none⟩=some (.string ⟨o3.toArray⟩):=(by rw[zBk B11];rfl);have q3:w11.cell? ⟨w.heap.size,3,none⟩=some (.string ⟨o4.toArray⟩):=(by rw[zBk B11];rfl);have q4:w11.cell? ⟨w.heap.size,4,none⟩=some (.int .i64 o5):=(by rw[zBk B11];rfl);have q5:w11.cell? ⟨w.heap.size,5,none⟩=some (.int .i64 o6):=(by rw[zBk B11];rfl);have q6:w11.cell? ⟨w.heap.size,6,none⟩=some (.int .i64 line):=(by rw[zBk B11];rfl);have q7:w11.cell? ⟨w.heap.size,7,none⟩=some (.int .i64 0):=(by rw[zBk B11];rfl);have q8:w11.cell? ⟨w.heap.size,8,none⟩=some (.int .i64 0):=(by rw[zBk B11];rfl);have q9:w11.cell? ⟨w.heap.size,9,none⟩=some (.int .i64 0):=(by rw[zBk B11];rfl);have e1:w11.cell? ⟨rc,1,none⟩=some (.slice va ops.length vcap):=(by rw[zBk R11];rfl);have hltB:=zBq B11;have hltR:=zBq R11;have hneB:w.heap.size≠w11.heap.size:=(by omega);have hneR:rc≠w11.heap.size:=(by omega);have hrow:∀g,(Value.slice va ops.length vcap).ownBlock=some g→base≤g:=zYv hown11;have R12:w12.heap[rc]?=some (.cells #[.string model,.slice va ops.length vcap,.map (some b1),.map (some b2)] 94 (0,0)):=
              (hgr.block rc (by show rc<(w11.alloc _).heap.size;simp;omega) (fun e=>by have:=hrow rc e.symm;omega)).trans ((zD1 w11 _ rc hltR).trans R11)
             have s1:w12.cell? ⟨rc,1,none⟩=some (.slice va ops.length vcap):=(by rw[zBk R12];rfl);have s2:w12.frozen? ⟨rc,1,none⟩=false:=zBn R12 1;go_wp2;go_cut [6] (fun a wx=>a=.int .i64 0∧wx=w12.setCell ⟨rc,1,none⟩ (.slice a12 (ops.length+1) c12))
             case first=>
              go_region_law (refine zti rfl _ _ 26 rfl _ _ _ _ rfl rfl hap' ?_)
              all_goals
               go_wp2_with fail;go_meet;exact⟨rfl,rfl⟩
             case rest=>
              obtain⟨rfl,rfl⟩:=hcut;clear hap hap';go_wp2;go_ret;refine⟨by rw[hX4.out];rfl,?_,?_⟩
              ·exact(((hbl11.alloc (by omega) _).drew).grown hgr (by show L≤(w11.alloc _).heap.size;simp;omega) (fun g hg=>by have:=hrow g hg;omega)).setCell (p:=⟨rc,1,none⟩) (by show L≤rc;omega) _
              ·intro o ho;rw[hX4.out]at ho;obtain rfl:(⟨o1,o2,o3,o4,o5,o6,line,0,0,0⟩:OpV)=o:=Option.some.inj ho;have KS:Kept (rc::(Value.slice va ops.length vcap).ownBlock.toList) w11 (w12.setCell ⟨rc,1,none⟩ (.slice a12 (ops.length+1) c12)):=
                ((((Kept.refl _ w11).alloc _).drew).grownS hgr (fun g hg=>by rw[hg];simp)).setCell (p:=⟨rc,1,none⟩) (Or.inl (by simp)) _
               have hnot:∀b,b<base→b≠rc→b∉(rc::(Value.slice va ops.length vcap).ownBlock.toList):=by
                intro b hb hne hm;rcases List.mem_cons.1 hm with h|h
                ·exact hne h
                ·rw[Option.mem_toList]at h;have:=hrow b h;omega
               refine⟨_,⟨by rw[zFg R12];rfl,?_,⟨_,hids11.kept KS (hnot b1 (by omega) (by omega))⟩,⟨_,_,hop11.kept KS (hnot b2 (by omega) (by omega)),z1l hcnt ⟨o1,o2,o3,o4,o5,o6,line,0,0,0⟩ rfl h0⟩,by omega,by omega,by omega,by omega,by omega,by omega,by simp;omega,fun o ho=>(List.mem_append.1 ho).elim (fun h=>hwfs o h) (fun h=>by simp at h;subst h;exact wf2)⟩⟩;rw[z2L];have:=ownsRow_setCell_below hown12 (a:=⟨rc,1,none⟩) (by show rc<base;omega) (.slice a12 (ops.length+1) c12);simpa using this
     ·have hne:(nd != z8C ms)=true:=(by simp[hnd]);have hX2:Hid (zRl model.data.toList ops ms line=(4,none)):=(by rw[hX.out,if_neg hnd];exact rfl);clear hX hnd;go_wp2;go_ret;exact⟨by rw[hX2.out];rfl,hbl.mono hLw,by rw[hX2.out];intro o h;cases h⟩
end Go.Proofs.YtbbkihekjdffpaaGreatDoor
