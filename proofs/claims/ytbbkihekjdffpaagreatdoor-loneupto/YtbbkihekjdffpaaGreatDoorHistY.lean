/- Several texts in one. -/
import Derived.Test.YtbbkihekjdffpaaGreatDoorScanZ
set_option maxHeartbeats 2000000
set_option maxRecDepth 100000
namespace Go.Proofs.YtbbkihekjdffpaaGreatDoor
open Go.RowKit Go.Maps

def z8R (ms:List Mem) (nm:List UInt8):Option Mem:=ms.find? (fun m=>m.1 == nm)
def z0Q (ms:List Mem):Lit→Option Value
 | .string l=>(z8R ms l).map (fun m=>aggV m.2)
 | _=>none
def za6:List Mem→Bool
 | []=>true
 | m::r=>(z8R r m.1).isNone&&za6 r

theorem zvz (a b:List Mem) (nm:List UInt8):z8R (a++b) nm=(z8R a nm).or (z8R b nm):=by
 unfold z8R;rw [List.find?_append]
theorem zFq (l:List Mem) (m:Mem):za6 (l++[m])=(za6 l&&(z8R l m.1).isNone):=by
 induction l with
 | nil=>simp [za6,z8R]
 | cons a r ih=>
   rw [List.cons_append,za6,za6,ih,zvz]
   have e1:z8R [m] a.1=if m.1 == a.1 then some m else none:=by simp [z8R,List.find?_cons];split <;> simp_all
   have e2:z8R (a::r) m.1=if a.1 == m.1 then some a else z8R r m.1:=by simp [z8R,List.find?_cons];split <;> simp_all
   rw [e1,e2]
   by_cases h:m.1=a.1
   · have h':a.1=m.1:=h.symm
     simp [h]
   · have h':¬ a.1=m.1:=fun e=>h e.symm
     have hb:(m.1 == a.1)=false:=by simpa using h
     have hb':(a.1 == m.1)=false:=by simpa using h'
     rw [hb,hb']
     cases z8R r a.1 <;> cases z8R r m.1 <;> cases za6 r <;> rfl
theorem zvo (l r:List Mem) (h:za6 l=false):za6 (l++r)=false:=by
 induction l with
 | nil=>cases h
 | cons a t ih=>
   rw [List.cons_append,za6,zvz]
   rw [za6] at h
   cases hf:z8R t a.1 with
   | some x=>simp
   | none=>
     rw [hf] at h
     rw [ih (by simpa using h)];simp

theorem ze6 {l:List Mem} {m:Mem} (h:z8R l m.1=none):z0Q (l++[m]) (.string m.1)=some (aggV m.2)∧∀ x,x≠.string m.1→z0Q (l++[m]) x=z0Q l x:=by
 constructor
 · show ((z8R (l++[m]) m.1).map _)=_
   rw [zvz,h];simp [z8R]
 · intro x hx
   cases x with
   | string nm=>
     show ((z8R (l++[m]) nm).map _)=(z8R l nm).map _
     rw [zvz]
     have:z8R [m] nm=none:=by
      have:¬ m.1=nm:=fun e=>hx (by rw [e])
      simp [z8R,this]
     rw [this];simp
   | _=>rfl

theorem zjt {s:ByteArray} (h:s.size≤maxLen):keyOf Tryz.prog 9 (.string s)=some (.string s.data.toList):=Go.WideMaps.keyOf_string_mk Tryz.underlying9 h

theorem zJ5 (ms:List Mem) (i:Nat) (h:i < ms.length):(zLk ms)[i*4]?=some (.string ⟨(ms[i]).1.toArray⟩)∧(zLk ms)[i*4+1]?=some (.int .i64 (ms[i]).2.1)∧(zLk ms)[i*4+2]?=some (.int .i64 (ms[i]).2.2.1)∧(zLk ms)[i*4+3]?=some (.string ⟨(ms[i]).2.2.2.toArray⟩):=by
 induction ms generalizing i with
 | nil=>simp at h
 | cons m r ih=>
   have e:zLk (m::r)=zIS m++zLk r:=by simp [zLk]
   have hl:(zIS m).length=4:=rfl
   rw [e]
   cases i with
   | zero=>simp [zIS]
   | succ i=>
     obtain ⟨a,b,c,d⟩:=ih i (by simpa using h)
     refine ⟨?_,?_,?_,?_⟩
     · rw [List.getElem?_append_right (by omega),hl,show (i+1)*4 - 4=i*4 by omega,a];simp
     · rw [List.getElem?_append_right (by omega),hl,show (i+1)*4+1 - 4=i*4+1 by omega,b];simp
     · rw [List.getElem?_append_right (by omega),hl,show (i+1)*4+2 - 4=i*4+2 by omega,c];simp
     · rw [List.getElem?_append_right (by omega),hl,show (i+1)*4+3 - 4=i*4+3 by omega,d];simp

theorem zs2 {w:World} {base g cap:Nat} {ms:List Mem} (h:w.ownsRow base 246 4 (.slice (some ⟨g,0,none⟩) ms.length cap) ms.length (zLk ms)):
 ∀ j u,(zLk ms)[j]?=some u→w.cell? ⟨g,j,none⟩=some u:=by
 intro j u hj
 have:=h.cells (g:=g) rfl j u hj
 by_cases h0:j=0
 · subst h0;simpa [Addr.add] using this
 · simpa [Addr.add,h0] using this

theorem zSd (w:World) (base g cap:Nat) (ms:List Mem) (hown:w.ownsRow base 246 4 (.slice (some ⟨g,0,none⟩) ms.length cap) ms.length (zLk ms)) (hl:ms.length≤2000000) (hbd:∀ m∈ms,m.1.length≤100000000):
 Calls Tryz.prog 67 #[.slice (some ⟨g,0,none⟩) ms.length cap] w fun e w'=>
  Below w.heap.size w w'∧((za6 ms=true∧MapFn w' 9 w.heap.size ms.length ms.length (z0Q ms)∧e=.returned (.tuple #[.map (some w.heap.size),.bool true]))∨(za6 ms=false∧e=.returned (.tuple #[.map none,.bool false]))):=by
 have hmm:=@run_makeMap Tryz.prog
 have hglt:g < w.heap.size:=by
  rcases hown.2 with ⟨h1,_⟩ | ⟨g',cap',cur,h1,_,hg,_⟩
  · cases h1
  · simp at h1;rw [h1.1];exact zBq hg
 have hcells:=zs2 hown
 clear hown
 go_enter Tryz.func67,Tryz.ntmps67
 go_wp2
 go_loopw [12] (fun i wr=>∃ j:Nat,j≤ms.length∧i=.int .i64 j∧za6 (ms.take j)=true∧MapFn wr 9 w.heap.size j j (z0Q (ms.take j))∧Below w.heap.size w wr) (fun i _=>ms.length - (intOf i).toNat)
 case atStart=>exact ⟨0,Nat.zero_le _,rfl,rfl,(MapFn.made w _).congr (fun x=>by cases x <;> rfl),(Below.refl _ _).alloc (Nat.le_refl _) _⟩
 case round=>
  obtain ⟨j,hj,rfl,hno,hmap,hbl⟩:=hrel
  have HN:Hid (za6 (ms.take j)=true):=hno
  clear hno
  by_cases hlt:j < ms.length
  · obtain ⟨c0,c1,c2,c3⟩:=zJ5 ms j hlt
    have d0:wr.cell? ⟨g,j*4,none⟩=_:=(hbl.cell (p:=⟨g,j*4,none⟩) hglt).trans (hcells _ _ c0)
    have d1:wr.cell? ⟨g,j*4+1,none⟩=_:=(hbl.cell (p:=⟨g,j*4+1,none⟩) hglt).trans (hcells _ _ c1)
    have d2:wr.cell? ⟨g,j*4+2,none⟩=_:=(hbl.cell (p:=⟨g,j*4+2,none⟩) hglt).trans (hcells _ _ c2)
    have d3:wr.cell? ⟨g,j*4+3,none⟩=_:=(hbl.cell (p:=⟨g,j*4+3,none⟩) hglt).trans (hcells _ _ c3)
    have hnb:=hbd ms[j] (List.getElem_mem hlt)
    have htk:ms.take (j+1)=ms.take j++[ms[j]]:=by rw [List.take_succ_eq_append_getElem hlt]
    have HT:Hid (ms.take (j+1)=ms.take j++[ms[j]]):=htk
    clear htk c0 c1 c2 c3 hcells
    generalize ms[j]=m at*
    obtain ⟨nm,mk,mn,mt⟩:=m
    simp only at d0 d1 d2 d3 hnb
    have hlk:=(hmap.alloc (.cells #[.string ⟨nm.toArray⟩,.int .i64 mk,.int .i64 mn,.string ⟨mt.toArray⟩] 246)).runOk lawS Tryz.underlying144 (z7H _) (zjt (s:=⟨nm.toArray⟩) (by unfold maxLen;show nm.toArray.size≤_;simp;omega))
    have hji:(j:Int) < (ms.length:Int):=by omega
    cases hf:z8R (ms.take j) nm with
    | some m'=>
      have hE:Hid (za6 ms=false):=by
       have e1:za6 (ms.take (j+1))=false:=by rw [HT.out,zFq,HN.out,hf];rfl
       have:=zvo (ms.take (j+1)) (ms.drop (j+1)) e1
       rw [List.take_append_drop] at this;exact this
      obtain ⟨a1,a2,a3,a4⟩:=m'
      have e2:z0Q (ms.take j) (.string nm)=some (.agg #[.int .i64 a2,.int .i64 a3,.string ⟨a4.toArray⟩]):=by simp [z0Q,hf,aggV]
      simp only [e2,Option.getD_some,Option.isSome_some] at hlk
      clear hf e2 HT HN
      go_wp2
      go_ret2
      exact ⟨(hbl.alloc hbl.size _).alloc (by have:=hbl.size;simp;omega) _,Or.inr ⟨hE.out,rfl⟩⟩
    | none=>
      have e2:z0Q (ms.take j) (.string nm)=none:=by simp [z0Q,hf]
      have hN':Hid (za6 (ms.take (j+1))=true):=by rw [HT.out,zFq,HN.out,hf];exact rfl
      simp only [e2,Option.getD_none,Option.isSome_none] at hlk
      have hsn:=ze6 (l:=ms.take j) (m:=(nm,mk,mn,mt)) hf
      obtain ⟨w',hput,hmap',hkp'⟩:=((hmap.alloc (.cells #[.string ⟨nm.toArray⟩,.int .i64 mk,.int .i64 mn,.string ⟨mt.toArray⟩] 246)).alloc (.cells #[.int .i64 0,.int .i64 0,.string ⟨#[]⟩] 244)).runPut lawS Tryz.underlying144 (by unfold maxLen;omega) (.agg #[.int .i64 mk,.int .i64 mn,.string ⟨mt.toArray⟩]) (zjt (s:=⟨nm.toArray⟩) (by unfold maxLen;show nm.toArray.size≤_;simp;omega)) trivial (z0Q (ms.take j++[(nm,mk,mn,mt)])) hsn.1 hsn.2
      rw [←HT.out] at hmap'
      simp only [e2] at hmap'
      have hmap2:MapFn w' 9 w.heap.size (j+1) (j+1) (z0Q (ms.take (j+1))):=by simpa using hmap'
      have hbl':Below w.heap.size w w':=((hbl.alloc hbl.size _).alloc (by have:=hbl.size;simp;omega) _).trans (hkp'.below (by have:=hbl.size;simp;omega) (by simp))
      clear hf e2 HT HN hsn hmap' hkp'
      go_wp2
      go_roundw
      case rel=>exact ⟨j+1,by omega,by go_num,hN'.out,hmap2,hbl'⟩
      case measure=>simp [intOf];omega
  · obtain rfl:j=ms.length:=by omega
    rw [List.take_length] at hmap
    have hE:Hid (za6 ms=true):=by have:=HN.out;rw [List.take_length] at this;exact this
    clear HN
    go_wp2
    go_ret2
    exact ⟨hbl,Or.inl ⟨hE.out,hmap,rfl⟩⟩

theorem zfC (w:World):
 Calls Tryz.prog 67 #[.slice none 0 0] w fun e w'=>
  Below w.heap.size w w'∧MapFn w' 9 w.heap.size 0 0 (z0Q [])∧e=.returned (.tuple #[.map (some w.heap.size),.bool true]):=by
 have hmm:=@run_makeMap Tryz.prog
 go_enter Tryz.func67,Tryz.ntmps67
 go_wp2
 refine wp_loop_rounds 1 ?_
 rw [rounds_succ]
 go_wp2
 go_ret2
 exact ⟨(Below.refl _ _).alloc (Nat.le_refl _) _,(MapFn.made w _).congr (fun x=>by cases x <;> rfl),rfl⟩

theorem zfv (w:World) (base:Nat) (v:Value) (ms:List Mem) (hown:w.ownsRow base 246 4 v ms.length (zLk ms)) (hl:ms.length≤2000000) (hbd:∀ m∈ms,m.1.length≤100000000):
 Calls Tryz.prog 67 #[v] w fun e w'=>
  Below w.heap.size w w'∧((za6 ms=true∧MapFn w' 9 w.heap.size ms.length ms.length (z0Q ms)∧e=.returned (.tuple #[.map (some w.heap.size),.bool true]))∨(za6 ms=false∧e=.returned (.tuple #[.map none,.bool false]))):=by
 rcases hown.2 with ⟨rfl,h0⟩ | ⟨g,cap,cur,rfl,r⟩
 · have:ms=[]:=List.length_eq_zero_iff.1 h0
   subst this
   refine (zfC w).mono ?_
   rintro e w' ⟨h1,h2,rfl⟩
   exact ⟨h1,Or.inl ⟨rfl,h2,rfl⟩⟩
 · exact zSd w base g cap ms hown hl hbd

abbrev Slot:=List UInt8×Bool×List Int
def callSlots:List Slot:=[([99,97,108,108],true,[1]),([98,121],true,[1]),([111,112],true,[3]),([107,101,121],false,[3]),([97,114,103],false,[1]),([101,120,112],false,[1])]
def retSlots:List Slot:=[([114,101,116],true,[1]),([118,97,108],true,[0,1,2])]

def ShapeAt (w:World) (g:Nat) (sl:List Slot):Prop:=
 ∀ i (h:i < sl.length),w.cell? ⟨g,i*3,none⟩=some (.string ⟨(sl[i]).1.toArray⟩)∧w.cell? ⟨g,i*3+1,none⟩=some (.bool (sl[i]).2.1)∧
  ∃ gk c,w.cell? ⟨g,i*3+2,none⟩=some (.slice (some ⟨gk,0,none⟩) (sl[i]).2.2.length c)∧gk < w.heap.size∧∀ j,j < (sl[i]).2.2.length→w.cell? ⟨gk,0+j,none⟩=some (.int .i64 ((sl[i]).2.2.getD j 0))

def zmy (ms:List Mem):List Slot→Nat→Option Nat
 | [],n=>some n
 | s::r,n=>match z8R ms s.1 with
   | none=>if s.2.1 then none else zmy ms r n
   | some m=>if s.2.2.contains m.2.1 then zmy ms r (n+1) else none
def z5q (ms:List Mem) (sl:List Slot):Bool:=match zmy ms sl 0 with | none=>false | some n=>n == ms.length

theorem ziF (W:World) (o:Obj) (n:Nat) (h:n=W.heap.size):(W.alloc o).heap[n]?=some o:=by
 subst h;show (W.heap.push o)[W.heap.size]?=_;simp
theorem zD1 (W:World) (o:Obj) (n:Nat) (h:n < W.heap.size):(W.alloc o).heap[n]?=W.heap[n]?:=Below.heap_alloc _ _ _ h

theorem zSV {w:World} {g gk i:Nat} {c ck:Array Value} {t tk:TypeId} {f fk:Nat×Nat} {s:Slot} (hg:w.heap[g]?=some (.cells c t f)) (h0:c[i*3]?=some (.string ⟨s.1.toArray⟩)) (h1:c[i*3+1]?=some (.bool s.2.1))
 (cp:Nat) (h2:c[i*3+2]?=some (.slice (some ⟨gk,0,none⟩) s.2.2.length cp)) (hk:w.heap[gk]?=some (.cells ck tk fk)) (hc:∀ j,j < s.2.2.length→ck[j]?=some (.int .i64 (s.2.2.getD j 0))):
 w.cell? ⟨g,i*3,none⟩=some (.string ⟨s.1.toArray⟩)∧w.cell? ⟨g,i*3+1,none⟩=some (.bool s.2.1)∧
 ∃ gk c,w.cell? ⟨g,i*3+2,none⟩=some (.slice (some ⟨gk,0,none⟩) s.2.2.length c)∧gk < w.heap.size∧∀ j,j < s.2.2.length→w.cell? ⟨gk,0+j,none⟩=some (.int .i64 (s.2.2.getD j 0)):=
 ⟨by rw [zBk hg,h0],by rw [zBk hg,h1],gk,cp,by rw [zBk hg,h2],zBq hk,fun j hj=>by rw [zBk hk,Nat.zero_add];exact hc j hj⟩

theorem zzq (v:Int):∀ j,j < [v].length→(#[Value.int .i64 v])[j]?=some (.int .i64 ([v].getD j 0)):=by
 intro j hj
 have:j=0:=by simp at hj;omega
 subst this;rfl
theorem z2f (a b c:Int):∀ j,j < [a,b,c].length→(#[Value.int .i64 a,.int .i64 b,.int .i64 c])[j]?=some (.int .i64 ([a,b,c].getD j 0)):=by
 intro j hj
 have:j=0∨j=1∨j=2:=by simp at hj;omega
 rcases this with rfl | rfl | rfl <;> rfl

theorem zcO (w:World):
 Calls Tryz.prog 69 #[] w fun e w'=>∃ g,e=.returned (.slice (some ⟨g,0,none⟩) 6 6)∧w.heap.size≤g∧g < w'.heap.size∧Below w.heap.size w w'∧ShapeAt w' g callSlots:=by
 go_enter Tryz.func69,Tryz.ntmps69
 go_wp2
 go_ret
 refine ⟨_,rfl,by omega,by simp,?_,?_⟩
 · exact ((((((((Below.refl _ _).alloc (Nat.le_refl _) _).alloc (by simp) _).alloc (by simp;omega) _).alloc (by simp;omega) _).alloc (by simp;omega) _).alloc (by simp;omega) _).alloc (by simp;omega) _)
 · intro i h
   match i,h with
   | 0,_=>exact zSV (s:=callSlots[0]) (gk:=w.heap.size) (ziF _ _ _ (by simp)) rfl rfl 1 rfl ((zD1 _ _ _ (by simp <;> omega)).trans ((zD1 _ _ _ (by simp <;> omega)).trans ((zD1 _ _ _ (by simp <;> omega)).trans ((zD1 _ _ _ (by simp <;> omega)).trans ((zD1 _ _ _ (by simp <;> omega)).trans ((zD1 _ _ _ (by simp <;> omega)).trans (ziF _ _ _ (by simp)))))))) (zzq 1)
   | 1,_=>exact zSV (s:=callSlots[1]) (gk:=w.heap.size+1) (ziF _ _ _ (by simp)) rfl rfl 1 rfl ((zD1 _ _ _ (by simp <;> omega)).trans ((zD1 _ _ _ (by simp <;> omega)).trans ((zD1 _ _ _ (by simp <;> omega)).trans ((zD1 _ _ _ (by simp <;> omega)).trans ((zD1 _ _ _ (by simp <;> omega)).trans (ziF _ _ _ (by simp))))))) (zzq 1)
   | 2,_=>exact zSV (s:=callSlots[2]) (gk:=w.heap.size+1+1) (ziF _ _ _ (by simp)) rfl rfl 1 rfl ((zD1 _ _ _ (by simp <;> omega)).trans ((zD1 _ _ _ (by simp <;> omega)).trans ((zD1 _ _ _ (by simp <;> omega)).trans ((zD1 _ _ _ (by simp <;> omega)).trans (ziF _ _ _ (by simp)))))) (zzq 3)
   | 3,_=>exact zSV (s:=callSlots[3]) (gk:=w.heap.size+1+1+1) (ziF _ _ _ (by simp)) rfl rfl 1 rfl ((zD1 _ _ _ (by simp <;> omega)).trans ((zD1 _ _ _ (by simp <;> omega)).trans ((zD1 _ _ _ (by simp <;> omega)).trans (ziF _ _ _ (by simp))))) (zzq 3)
   | 4,_=>exact zSV (s:=callSlots[4]) (gk:=w.heap.size+1+1+1+1) (ziF _ _ _ (by simp)) rfl rfl 1 rfl ((zD1 _ _ _ (by simp <;> omega)).trans ((zD1 _ _ _ (by simp <;> omega)).trans (ziF _ _ _ (by simp)))) (zzq 1)
   | 5,_=>exact zSV (s:=callSlots[5]) (gk:=w.heap.size+1+1+1+1+1) (ziF _ _ _ (by simp)) rfl rfl 1 rfl ((zD1 _ _ _ (by simp <;> omega)).trans (ziF _ _ _ (by simp))) (zzq 1)
   | n+6,h=>simp [callSlots] at h;omega

theorem zRx (w:World):
 Calls Tryz.prog 71 #[] w fun e w'=>∃ g,e=.returned (.slice (some ⟨g,0,none⟩) 2 2)∧w.heap.size≤g∧g < w'.heap.size∧Below w.heap.size w w'∧ShapeAt w' g retSlots:=by
 go_enter Tryz.func71,Tryz.ntmps71
 go_wp2
 go_ret
 refine ⟨_,rfl,by omega,by simp,?_,?_⟩
 · exact ((((Below.refl _ _).alloc (Nat.le_refl _) _).alloc (by simp) _).alloc (by simp;omega) _)
 · intro i h
   match i,h with
   | 0,_=>exact zSV (s:=retSlots[0]) (gk:=w.heap.size) (ziF _ _ _ (by simp)) rfl rfl 1 rfl ((zD1 _ _ _ (by simp <;> omega)).trans ((zD1 _ _ _ (by simp <;> omega)).trans (ziF _ _ _ (by simp)))) (zzq 1)
   | 1,_=>exact zSV (s:=retSlots[1]) (gk:=w.heap.size+1) (ziF _ _ _ (by simp)) rfl rfl 3 rfl ((zD1 _ _ _ (by simp <;> omega)).trans (ziF _ _ _ (by simp))) (z2f 0 1 2)
   | n+2,h=>simp [retSlots] at h;omega

theorem ShapeAt.below {w w':World} {g:Nat} {sl:List Slot} (h:ShapeAt w g sl) (hg:g < w.heap.size) (k:Below w.heap.size w w'):ShapeAt w' g sl:=by
 intro i hi
 obtain ⟨h0,h1,gk,c,h2,h3,h4⟩:=h i hi
 exact ⟨(k.cell (p:=⟨g,i*3,none⟩) hg).trans h0,(k.cell (p:=⟨g,i*3+1,none⟩) hg).trans h1,gk,c,(k.cell (p:=⟨g,i*3+2,none⟩) hg).trans h2,Nat.lt_of_lt_of_le h3 k.size,fun j hj=>(k.cell (p:=⟨gk,0+j,none⟩) h3).trans (h4 j hj)⟩

theorem zKU {α:Type} (l:List α) (j:Nat) (h:j < l.length):l.drop j=l[j]::l.drop (j+1):=List.drop_eq_getElem_cons h

theorem zBH (w:World) (bm n g cap:Nat) (ms:List Mem) (sl:List Slot) (hmap0:MapFn w 9 bm n ms.length (z0Q ms)) (hg:g < w.heap.size) (hsh0:ShapeAt w g sl) (hl:sl.length≤1000) (_hml:ms.length≤2000000)
 (hnm:∀ s∈sl,s.1.length≤1000∧s.2.2.length≤1000):
 Calls Tryz.prog 68 #[.map (some bm),.slice (some ⟨g,0,none⟩) sl.length cap] w fun e w'=>e=.returned (.bool (z5q ms sl))∧Below w.heap.size w w':=by
 go_enter Tryz.func68,Tryz.ntmps68
 go_wp2
 go_loopw [5,12] (fun fd i wr=>∃ j c:Nat,j≤sl.length∧c≤j∧i=.int .i64 j∧fd=.int .i64 c∧zmy ms (sl.drop j) c=zmy ms sl 0∧Below w.heap.size w wr) (fun _ i _=>sl.length - (intOf i).toNat)
 case atStart=>exact ⟨0,0,Nat.zero_le _,Nat.zero_le _,rfl,rfl,rfl,Below.refl _ _⟩
 case round=>
  obtain ⟨j,c,hj,hc,rfl,rfl,HR,hbl⟩:=hrel
  have hR:Hid (zmy ms (sl.drop j) c=zmy ms sl 0):=HR
  clear HR
  have hsz:=hbl.size
  have hmap:=hmap0.below hbl
  by_cases hlt:j < sl.length
  · obtain ⟨d0,d1,gk,ck,d2,hgk,d3⟩:=(hsh0.below hg hbl) j hlt
    have hD:Hid (sl.drop j=sl[j]::sl.drop (j+1)):=zKU sl j hlt
    have hnb:=hnm sl[j] (List.getElem_mem hlt)
    generalize sl[j]=s at*
    obtain ⟨nm,must,kinds⟩:=s
    simp only at d0 d1 d2 d3 hnb
    have hji:(j:Int) < (sl.length:Int):=by omega
    have hlk:=(hmap.alloc (.cells #[.string ⟨nm.toArray⟩,.bool must,.slice (some ⟨gk,0,none⟩) kinds.length ck] 249)).runOk lawS Tryz.underlying144 (z7H _) (zjt (s:=⟨nm.toArray⟩) (by unfold maxLen;show nm.toArray.size≤_;simp;omega))
    cases hf:z8R ms nm with
    | none=>
      have e2:z0Q ms (.string nm)=none:=by simp [z0Q,hf]
      simp only [e2,Option.getD_none,Option.isSome_none] at hlk
      cases must with
      | true=>
        have hE:Hid (z5q ms sl=false):=by
         unfold z5q;rw [←hR.out,hD.out,zmy];simp [hf,Hid]
        clear hf e2 hR hD hmap0 hsh0 hmap
        go_wp2
        go_ret
        exact ⟨by rw [hE.out];rfl,(hbl.alloc hsz _).alloc (by simp;omega) _⟩
      | false=>
        have hR':Hid (zmy ms (sl.drop (j+1)) c=zmy ms sl 0):=by
         rw [←hR.out,hD.out];show _=zmy ms (_::_) c;rw [zmy];simp [hf]
        clear hf e2 hR hD hmap0 hsh0 hmap
        go_wp2
        go_roundw
        case rel=>exact ⟨j+1,c,by omega,by omega,by go_num,rfl,hR'.out,(hbl.alloc hsz _).alloc (by simp;omega) _⟩
        case measure=>simp [intOf];omega
    | some m=>
      obtain ⟨a1,a2,a3,a4⟩:=m
      have e2:z0Q ms (.string nm)=some (.agg #[.int .i64 a2,.int .i64 a3,.string ⟨a4.toArray⟩]):=by simp [z0Q,hf,aggV]
      simp only [e2,Option.getD_some,Option.isSome_some] at hlk
      have hS:Hid (zmy ms sl 0=if kinds.contains a2 then zmy ms (sl.drop (j+1)) (c+1) else none):=by
       rw [←hR.out,hD.out];show zmy ms (_::_) c=_;rw [zmy];simp [hf]
      have hcl:∀ W:World,Below w.heap.size w W→Below wr.heap.size wr W→Calls Tryz.prog 113 #[.slice (some ⟨gk,0,none⟩) kinds.length ck,.int .i64 a2] W fun e w'=>e=.returned (.bool (kinds.contains a2))∧w'=W:=by
       intro W _ hW
       have:=Tryz.slices_Contains_int gk 0 kinds.length ck kinds a2 W (Nat.le_refl _) (by omega) (fun j hj=>(hW.cell (p:=⟨gk,0+j,none⟩) hgk).trans (d3 j hj))
       rw [List.take_length] at this
       exact this
      clear hf e2 hR hD hmap0 hsh0 hmap d3
      go_wp2_with (go_at_call 113;refine (hcl _ ((hbl.alloc hsz _).alloc (by simp;omega) _) (((Below.refl _ _).alloc (Nat.le_refl _) _).alloc (by simp) _)).mono ?_)
      rintro e w2 ⟨rfl,rfl⟩
      cases hk:kinds.contains a2 with
      | true=>
        have hR':Hid (zmy ms (sl.drop (j+1)) (c+1)=zmy ms sl 0):=by rw [hS.out,if_pos hk];exact rfl
        clear hk hS hcl
        go_wp2
        go_roundw
        case rel=>exact ⟨j+1,c+1,by omega,by omega,by go_num,by go_num,hR'.out,(hbl.alloc hsz _).alloc (by simp;omega) _⟩
        case measure=>simp [intOf];omega
      | false=>
        have hE:Hid (z5q ms sl=false):=by unfold z5q;rw [hS.out,if_neg (by rw [hk];exact Bool.false_ne_true)];exact rfl
        clear hk hS hcl
        go_wp2
        go_ret
        exact ⟨by rw [hE.out];rfl,(hbl.alloc hsz _).alloc (by simp;omega) _⟩
  · have hjl:j=sl.length:=by omega
    have hE:Hid (z5q ms sl=((c:Int) == (ms.length:Int))):=by
     unfold z5q;rw [←hR.out,hjl,List.drop_length,zmy]
     show (c == ms.length)=_
     rw [Bool.eq_iff_iff];simp;omega
    clear hR hjl
    have hlen:=hmap.runLen Tryz.underlying144 3
    go_wp2
    go_ret
    exact ⟨by rw [hE.out];rfl,hbl⟩

abbrev zqk:=List UInt8×List UInt8×Int×Int
def sReg:List UInt8:=[114,101,103,105,115,116,101,114]
def sKv:List UInt8:=[107,118]
def zsK:List UInt8:=[113,117,101,117,101]
def sSet:List UInt8:=[115,101,116]
def zyy:List UInt8:=[108,111,99,107]
def opTab:List zqk:=[(sReg,[114,101,97,100],0,2),(sReg,[119,114,105,116,101],2,1),(sReg,[99,97,115],6,4),
 (sKv,[103,101,116],1,3),(sKv,[112,117,116],3,1),(sKv,[100,101,108],1,4),(zsK,[101,110,113],2,1),(zsK,[100,101,113],0,3),
 (sSet,[97,100,100],1,4),(sSet,[114,101,109],1,4),(sSet,[104,97,115],1,4),(zyy,[97,99,113],0,4),(zyy,[114,101,108],0,4)]
def zq5 (o:zqk):List Value:=[.string ⟨o.1.toArray⟩,.string ⟨o.2.1.toArray⟩,.int .u8 o.2.2.1,.int .u8 o.2.2.2]
def zeb:Array Value:=(opTab.flatMap zq5).toArray

def Ops (w:World):Prop:=w.var? Tryz.prog "linear/models.operations"=some zeb
theorem Ops.below {w w':World} (h:Ops w) (k:Below 10 w w'):Ops w':=var?_below k (show Tryz.prog.globalNamed "linear/models.operations"=some 0 by kernel_rfl) (by omega) h
theorem Ops.blk {w:World} (h:Ops w):∃ t f,w.heap[0]?=some (.cells zeb t f):=by
 unfold Ops World.var? at h
 rw [show Tryz.prog.globalNamed "linear/models.operations"=some 0 by kernel_rfl] at h
 simp only [Option.bind_some] at h
 split at h
 · rename_i cs t f hb;exact ⟨t,f,by rw [hb];simp at h;rw [h]⟩
 · cases h

def zQS (o:zqk):Value:=.agg #[.string ⟨o.1.toArray⟩,.string ⟨o.2.1.toArray⟩,.int .u8 o.2.2.1,.int .u8 o.2.2.2]
theorem zsU (j:Nat) (h:j < opTab.length) (w:World):(Instr.index 91 (.agg zeb) (.int .i64 j)).run Tryz.prog w=.ok (zQS opTab[j]) w:=by
 match j,h with
 | 0,_=>show Sem.run Tryz.prog (Instr.index 91 (.agg zeb) (.int .i64 ((0:Nat):Int))) w=.ok (zQS opTab[0]) w;kernel_rfl
 | 1,_=>show Sem.run Tryz.prog (Instr.index 91 (.agg zeb) (.int .i64 ((1:Nat):Int))) w=.ok (zQS opTab[1]) w;kernel_rfl
 | 2,_=>show Sem.run Tryz.prog (Instr.index 91 (.agg zeb) (.int .i64 ((2:Nat):Int))) w=.ok (zQS opTab[2]) w;kernel_rfl
 | 3,_=>show Sem.run Tryz.prog (Instr.index 91 (.agg zeb) (.int .i64 ((3:Nat):Int))) w=.ok (zQS opTab[3]) w;kernel_rfl
 | 4,_=>show Sem.run Tryz.prog (Instr.index 91 (.agg zeb) (.int .i64 ((4:Nat):Int))) w=.ok (zQS opTab[4]) w;kernel_rfl
 | 5,_=>show Sem.run Tryz.prog (Instr.index 91 (.agg zeb) (.int .i64 ((5:Nat):Int))) w=.ok (zQS opTab[5]) w;kernel_rfl
 | 6,_=>show Sem.run Tryz.prog (Instr.index 91 (.agg zeb) (.int .i64 ((6:Nat):Int))) w=.ok (zQS opTab[6]) w;kernel_rfl
 | 7,_=>show Sem.run Tryz.prog (Instr.index 91 (.agg zeb) (.int .i64 ((7:Nat):Int))) w=.ok (zQS opTab[7]) w;kernel_rfl
 | 8,_=>show Sem.run Tryz.prog (Instr.index 91 (.agg zeb) (.int .i64 ((8:Nat):Int))) w=.ok (zQS opTab[8]) w;kernel_rfl
 | 9,_=>show Sem.run Tryz.prog (Instr.index 91 (.agg zeb) (.int .i64 ((9:Nat):Int))) w=.ok (zQS opTab[9]) w;kernel_rfl
 | 10,_=>show Sem.run Tryz.prog (Instr.index 91 (.agg zeb) (.int .i64 ((10:Nat):Int))) w=.ok (zQS opTab[10]) w;kernel_rfl
 | 11,_=>show Sem.run Tryz.prog (Instr.index 91 (.agg zeb) (.int .i64 ((11:Nat):Int))) w=.ok (zQS opTab[11]) w;kernel_rfl
 | 12,_=>show Sem.run Tryz.prog (Instr.index 91 (.agg zeb) (.int .i64 ((12:Nat):Int))) w=.ok (zQS opTab[12]) w;kernel_rfl
 | n+13,h=>simp [opTab] at h;omega

def zOI (m:List UInt8) (l:List zqk):Bool:=l.any (fun o=>o.1 == m)
def zco (m n:List UInt8) (l:List zqk):Option zqk:=l.find? (fun o=>o.1 == m&&o.2.1 == n)

theorem zYW (s:ByteArray):s.toList=s.data.toList:=by
 exact ByteArray.toList_eq s

theorem zZL (s:ByteArray) (w:World) (ho:Ops w) (_hng:10≤w.heap.size):
 Calls Tryz.prog 18 #[.string s] w fun e w'=>e=.returned (.bool (zOI s.data.toList opTab))∧Below w.heap.size w w':=by
 obtain ⟨tt,ff,hb⟩:=ho.blk
 go_enter Tryz.func18,Tryz.ntmps18
 go_wp2_with (refine wpList_load_row rfl 91 _ rfl 0 rfl tt _ ff _ hb Tryz.underlying91 rfl (by kernel_rfl) ?_)
 go_loopw [6] (fun i wr=>∃ j:Nat,j≤opTab.length∧i=.int .i64 j∧zOI s.data.toList (opTab.drop j)=zOI s.data.toList opTab∧Below w.heap.size w wr) (fun i _=>opTab.length - (intOf i).toNat)
 case atStart=>exact ⟨0,Nat.zero_le _,rfl,rfl,Below.refl _ _⟩
 case round=>
  obtain ⟨j,hj,rfl,hR,hbl⟩:=hrel
  have HR:Hid (zOI s.data.toList (opTab.drop j)=zOI s.data.toList opTab):=hR
  clear hR hb
  by_cases hlt:j < opTab.length
  · have hix:=zsU j hlt
    have hD:Hid (opTab.drop j=opTab[j]::opTab.drop (j+1)):=zKU _ j hlt
    have hlt':(j:Int) < 13:=by simp [opTab] at hlt;omega
    generalize opTab[j]=o at*
    obtain ⟨om,on,o1,o2⟩:=o
    unfold zQS at hix
    simp only at hix
    have hsz:=hbl.size
    cases hq:(om == s.toList) with
    | true=>
      have hE:Hid (zOI s.data.toList opTab=true):=by rw [←HR.out,hD.out];simp [zOI,←zYW,hq,Hid]
      clear HR hD
      go_wp2
      go_ret
      exact ⟨by rw [hE.out];rfl,hbl.alloc hsz _⟩
    | false=>
      have hE:Hid (zOI s.data.toList (opTab.drop (j+1))=zOI s.data.toList opTab):=by rw [←HR.out,hD.out];simp [zOI,←zYW,hq,Hid]
      clear HR hD
      go_wp2
      go_roundw
      case rel=>exact ⟨j+1,by omega,by go_num,hE.out,hbl.alloc hsz _⟩
      case measure=>simp [intOf];omega
  · have hjl:j=opTab.length:=by omega
    have hE:Hid (zOI s.data.toList opTab=false):=by rw [←HR.out,hjl,List.drop_length];exact rfl
    have hlt':¬ (j:Int) < 13:=by simp [opTab] at hlt;omega
    clear HR hjl
    go_wp2
    go_ret
    exact ⟨by rw [hE.out];rfl,hbl⟩

theorem zoY (s n:ByteArray) (w:World) (ho:Ops w) (hng:10≤w.heap.size):
 Calls Tryz.prog 114 #[.string s,.string n] w fun e w'=>Below w.heap.size w w'∧
  ((∃ o,zco s.data.toList n.data.toList opTab=some o∧e=.returned (.tuple #[zQS o,.bool true]))∨(zco s.data.toList n.data.toList opTab=none∧e=.returned (.tuple #[zQS ([],[],0,0),.bool false]))):=by
 obtain ⟨tt,ff,hb⟩:=ho.blk
 go_enter Tryz.func114,Tryz.ntmps114
 go_wp2_with (refine wpList_load_row rfl 91 _ rfl 0 rfl tt _ ff _ ((zD1 _ _ _ (by omega)).trans hb) Tryz.underlying91 rfl (by kernel_rfl) ?_)
 go_loopw [9] (fun i wr=>∃ j:Nat,j≤opTab.length∧i=.int .i64 j∧zco s.data.toList n.data.toList (opTab.drop j)=zco s.data.toList n.data.toList opTab∧Below w.heap.size w wr∧wr.heap[w.heap.size]?=some (.cells #[.string ⟨#[]⟩,.string ⟨#[]⟩,.int .u8 0,.int .u8 0] 90 (0,0))) (fun i _=>opTab.length - (intOf i).toNat)
 case atStart=>exact ⟨0,Nat.zero_le _,rfl,rfl,(Below.refl _ _).alloc (Nat.le_refl _) _,ziF _ _ _ rfl⟩
 case round=>
  obtain ⟨j,hj,rfl,hR,hbl,hr⟩:=hrel
  have HR:Hid (zco s.data.toList n.data.toList (opTab.drop j)=zco s.data.toList n.data.toList opTab):=hR
  clear hR hb
  have hrl:=zBq hr
  have r0:=zBk hr 0
  have r1:=zBk hr 1
  have r2:=zBk hr 2
  have r3:=zBk hr 3
  have f0:=zBn hr 0
  have f1:=zBn hr 1
  have f2:=zBn hr 2
  have f3:=zBn hr 3
  simp at r0 r1 r2 r3
  by_cases hlt:j < opTab.length
  · have hix:=zsU j hlt
    have hD:Hid (opTab.drop j=opTab[j]::opTab.drop (j+1)):=zKU _ j hlt
    have hlt':(j:Int) < 13:=by simp [opTab] at hlt;omega
    generalize opTab[j]=o at*
    obtain ⟨om,on,o1,o2⟩:=o
    unfold zQS at hix
    simp only at hix
    have hsz:=hbl.size
    cases hq:(om == s.toList) with
    | true=>
      cases hq2:(on == n.toList) with
      | true=>
        have hE:Hid (zco s.data.toList n.data.toList opTab=some (om,on,o1,o2)):=by rw [←HR.out,hD.out];simp [zco,←zYW,hq,hq2,Hid]
        clear HR hD hr
        go_wp2
        exact bodyPost_ret (v:=.tuple #[zQS (om,on,o1,o2),.bool true]) (by simp [results,Tryz.results114,go_sem,r0,r1,r2,r3,hrl,zQS]) rfl ⟨((((hbl.setCell (p:=⟨w.heap.size,0,none⟩) (Nat.le_refl _) _).setCell (p:=⟨w.heap.size,1,none⟩) (Nat.le_refl _) _).setCell (p:=⟨w.heap.size,2,none⟩) (Nat.le_refl _) _).setCell (p:=⟨w.heap.size,3,none⟩) (Nat.le_refl _) _).alloc (by simp [World.setCell];omega) _,Or.inl ⟨_,hE.out,rfl⟩⟩
      | false=>
        have hE:Hid (zco s.data.toList n.data.toList (opTab.drop (j+1))=zco s.data.toList n.data.toList opTab):=by rw [←HR.out,hD.out];simp [zco,←zYW,hq2,Hid]
        have hr':=(zD1 wr (.cells #[.string ⟨om.toArray⟩,.string ⟨on.toArray⟩,.int .u8 o1,.int .u8 o2] 90) w.heap.size hrl).trans hr
        have HR':Hid _:=hr'
        clear HR hD hr hr'
        go_wp2
        go_roundw
        case rel=>exact ⟨j+1,by omega,by go_num,hE.out,hbl.alloc hsz _,HR'.out⟩
        case measure=>simp [intOf];omega
    | false=>
      have hE:Hid (zco s.data.toList n.data.toList (opTab.drop (j+1))=zco s.data.toList n.data.toList opTab):=by rw [←HR.out,hD.out];simp [zco,←zYW,hq,Hid]
      have hr':=(zD1 wr (.cells #[.string ⟨om.toArray⟩,.string ⟨on.toArray⟩,.int .u8 o1,.int .u8 o2] 90) w.heap.size hrl).trans hr
      have HR':Hid _:=hr'
      clear HR hD hr hr'
      go_wp2
      go_roundw
      case rel=>exact ⟨j+1,by omega,by go_num,hE.out,hbl.alloc hsz _,HR'.out⟩
      case measure=>simp [intOf];omega
  · have hjl:j=opTab.length:=by omega
    have hE:Hid (zco s.data.toList n.data.toList opTab=none):=by rw [←HR.out,hjl,List.drop_length];exact rfl
    have hlt':¬ (j:Int) < 13:=by simp [opTab] at hlt;omega
    clear HR hjl hr
    go_wp2
    exact bodyPost_ret (v:=.tuple #[zQS ([],[],0,0),.bool false]) (by simp [results,Tryz.results114,go_sem,r0,r1,r2,r3,zQS]) rfl ⟨(((hbl.setCell (p:=⟨w.heap.size,0,none⟩) (Nat.le_refl _) _).setCell (p:=⟨w.heap.size,1,none⟩) (Nat.le_refl _) _).setCell (p:=⟨w.heap.size,2,none⟩) (Nat.le_refl _) _).setCell (p:=⟨w.heap.size,3,none⟩) (Nat.le_refl _) _,Or.inr ⟨hE.out,rfl⟩⟩

def sKey:List UInt8:=[107,101,121]
def sArg:List UInt8:=[97,114,103]
def sExp:List UInt8:=[101,120,112]
def z8C (ms:List Mem):Int:=(if (z8R ms sKey).isSome then 1 else 0)+(if (z8R ms sArg).isSome then 2 else 0)+(if (z8R ms sExp).isSome then 4 else 0)

theorem zBE (ms:List Mem) (nm:List UInt8):∃ a b c,(z0Q ms (.string nm)).getD (.agg #[.int .i64 0,.int .i64 0,.string ⟨#[]⟩])=.agg #[.int .i64 a,.int .i64 b,.string c]∧(z0Q ms (.string nm)).isSome=(z8R ms nm).isSome:=by
 cases h:z8R ms nm with
 | none=>exact ⟨0,0,⟨#[]⟩,by simp [z0Q,h],by simp [z0Q,h]⟩
 | some m=>exact ⟨m.2.1,m.2.2.1,⟨m.2.2.2.toArray⟩,by simp [z0Q,h,aggV],by simp [z0Q,h]⟩

theorem z8H (w:World) (bm n sz:Nat) (ms:List Mem) (hmap:MapFn w 9 bm n sz (z0Q ms)):
 Calls Tryz.prog 115 #[.map (some bm)] w fun e w'=>e=.returned (.int .u8 (z8C ms))∧Below w.heap.size w w':=by
 obtain ⟨k1,k2,k3,hk,hkb⟩:=zBE ms sKey
 obtain ⟨a1,a2,a3,ha,hab⟩:=zBE ms sArg
 obtain ⟨e1,e2,e3,he,heb⟩:=zBE ms sExp
 have l1:=hmap.runOk lawS Tryz.underlying144 (z7H _) (zjt (s:=⟨#[107,101,121]⟩) (by decide))
 have l2:=(hmap.alloc (.cells #[.int .i64 k1,.int .i64 k2,.string k3] 244)).runOk lawS Tryz.underlying144 (z7H _) (zjt (s:=⟨#[97,114,103]⟩) (by decide))
 have l3:=((hmap.alloc (.cells #[.int .i64 k1,.int .i64 k2,.string k3] 244)).alloc (.cells #[.int .i64 a1,.int .i64 a2,.string a3] 244)).runOk lawS Tryz.underlying144 (z7H _) (zjt (s:=⟨#[101,120,112]⟩) (by decide))
 rw [show ((⟨#[107,101,121]⟩:ByteArray)).data.toList=sKey from rfl,hk,hkb] at l1
 rw [show ((⟨#[97,114,103]⟩:ByteArray)).data.toList=sArg from rfl,ha,hab] at l2
 rw [show ((⟨#[101,120,112]⟩:ByteArray)).data.toList=sExp from rfl,he,heb] at l3
 unfold z8C
 clear hk hkb ha hab he heb hmap
 generalize (z8R ms sKey).isSome=x at*
 generalize (z8R ms sArg).isSome=y at*
 generalize (z8R ms sExp).isSome=z at*
 cases x <;> cases y <;> cases z
 all_goals
  go_enter Tryz.func115,Tryz.ntmps115
  go_wp2
  go_ret
  refine ⟨?_,(((Below.refl _ _).alloc (Nat.le_refl _) _).alloc (by simp) _).alloc (by simp;omega) _⟩
  first
   | rfl
   | (simp;done)
   | decide

def zIyy (g kind:Int):Bool:=decide (0≤kind∧kind≤2)&&decide ((g / (2 ^ kind.toNat)) % 2=1)

theorem zAh (m n:ByteArray) (nd g kind:Int) (w:World) (hg:g=0∨g=1∨g=2∨g=3∨g=4) (h0:kind=0∨kind=1∨kind=2):
 Calls Tryz.prog 116 #[.agg #[.string m,.string n,.int .u8 nd,.int .u8 g],.int .i64 kind] w fun e w'=>e=.returned (.bool (zIyy g kind))∧Below w.heap.size w w':=by
 rcases h0 with rfl | rfl | rfl <;> rcases hg with rfl | rfl | rfl | rfl | rfl
 all_goals
  go_enter Tryz.func116,Tryz.ntmps116
  go_wp2
  go_quiet (fail)
  go_wp2
  go_ret
  refine ⟨?_,below_drewN ((Below.refl _ _).alloc (Nat.le_refl _) _) _⟩
  first
   | rfl
   | (simp [zIyy];done)
   | decide
end Go.Proofs.YtbbkihekjdffpaaGreatDoor
