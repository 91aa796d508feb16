/- Several texts in one. -/
import Derived.Test.YtlkidmafomjhgaaGreatDoorSrchQX
import Derived.Sort.KeysCollected
set_option maxHeartbeats 4000000
set_option maxRecDepth 100000
namespace Go.Proofs.YtlkidmafomjhgaaGreatDoor.srch
open Go.RowKit Go.Maps
def flt (k:List UInt8) (l:List OpV):List OpV:=l.filter (fun o=>decide (o.key=k))
theorem znu (k:List UInt8) (l:List OpV) (o:OpV):flt k (l++[o])=if o.key=k then flt k l++[o] else flt k l:=by
 unfold flt
 rw [List.filter_append]
 by_cases h:o.key=k
 · rw [if_pos h];simp [h]
 · rw [if_neg h];simp [h]
theorem zdB (k:List UInt8) (l:List OpV):(flt k l).length≤l.length:=List.length_filter_le _ _
def keysU:List OpV→List (List UInt8)
 | []=>[]
 | o::t=>if o.key∈keysU t then keysU t else o.key::keysU t
theorem z1b (l:List OpV):(keysU l).Nodup:=by
 induction l with
 | nil=>exact List.nodup_nil
 | cons o t ih=>
   unfold keysU
   split
   · exact ih
   · exact List.nodup_cons.2 ⟨‹_›,ih⟩
theorem zPi (l:List OpV) (k:List UInt8):k∈keysU l↔flt k l≠[]:=by
 induction l with
 | nil=>simp [keysU,flt]
 | cons o t ih=>
   unfold keysU
   by_cases h:o.key=k
   · have hf:flt k (o::t)≠[]:=by unfold flt;simp [h]
     simp only [hf,ne_eq,not_false_iff,iff_true]
     split
     · rw [←h];assumption
     · rw [←h];simp
   · have hf:flt k (o::t)=flt k t:=by unfold flt;simp [h]
     rw [hf,←ih]
     split
     · rfl
     · simp [Ne.symm h]
theorem z4i (l:List OpV):(keysU l).length≤l.length:=by
 induction l with
 | nil=>simp [keysU]
 | cons o t ih=>
   unfold keysU
   split <;> simp <;> omega
theorem z2a (W:World) (base:Nat) (a:Option Addr) (n c:Nat) (xs:List Value) (s:OpV) (h:W.ownsRow base 48 10 (.slice a n c) n xs) (hn:n≤3000000) (hb:base≤W.heap.size):
 ∃ a' c' w',(Builtin.append_ #[23,23] 23 #[.slice a n c,.slice (some ⟨W.heap.size,0,none⟩) 1 1]).run Tryz.prog (W.alloc (.cells (opvCells s).toArray 48))=.ok (.slice a' (n+1) c') w'∧w'.ownsRow base 48 10 (.slice a' (n+1) c') (n+1) (xs++opvCells s)∧Kept (Value.slice a n c).ownBlock.toList W w'∧((Value.slice a' (n+1) c').ownBlock=(Value.slice a n c).ownBlock∨∃ g,(Value.slice a' (n+1) c').ownBlock=some g∧W.heap.size≤g):=by
 obtain ⟨i0,hi0',hz0,hz1,hz2⟩:=info_parts zSl
 obtain ⟨v7,w7,h1,h2,h3,_,h5⟩:=run_append_own_at (P:=Tryz.prog) (W.alloc (.cells (opvCells s).toArray 48)) base 23 23 48 i0 _ 10 96 Tryz.underlying23 hi0' hz0 hz1 hz2 rfl (by decide) (.slice a n c) n xs (h.alloc _) ⟨W.heap.size,0,none⟩ 1 1 (opvCells s) rfl (z9R W _ _) (by intro u hu;simp [opvCells] at hu;rcases hu with rfl | rfl | rfl | rfl | rfl | rfl | rfl | rfl | rfl | rfl <;> rfl) (by unfold maxLen;omega) (by omega) (by simp;omega)
 obtain ⟨a',c',rfl⟩:=zIW h2
 have hk:Kept (Value.slice a n c).ownBlock.toList W w7:=((Kept.refl _ W).alloc _).grownS h3 (fun g' hg'=>by rw [hg'];simp)
 exact ⟨a',c',w7,h1,h2,hk,h5.imp id (fun e=>⟨_,e,by simp⟩)⟩
structure KM (bm:Nat) (W:World) (l:List OpV) (a:List UInt8→Option Addr) (c:List UInt8→Nat):Prop where
 map:∃ n sz f,MapFn W 9 bm n sz f∧n≤l.length∧(∀ k,f (.string k)=if flt k l=[] then none else some (.slice (a k) (flt k l).length (c k)))∧∀ kl,f kl≠none→∃ k,kl=.string k
 own:∀ k,W.ownsRow (bm+1) 48 10 (.slice (a k) (flt k l).length (c k)) (flt k l).length (opsRow (flt k l))
 nil:∀ k,flt k l=[]→a k=none∧c k=0
 dis:∀ k k' g,k≠k'→(Value.slice (a k) (flt k l).length (c k)).ownBlock=some g→(Value.slice (a k') (flt k' l).length (c k')).ownBlock≠some g
theorem KM.start (W:World):KM W.heap.size (W.alloc (.map #[] 0)) [] (fun _=>none) (fun _=>0):=
 ⟨⟨0,0,fun _=>none,MapFn.made W _,Nat.le_refl _,fun k=>by simp [flt],fun kl h=>absurd rfl h⟩,fun k=>World.ownsRow_nil _ _ _ _,fun k _=>⟨rfl,rfl⟩,fun k k' g _ h=>by simp [Value.ownBlock] at h⟩
theorem KM.on {bm:Nat} {W W':World} {l:List OpV} {a:List UInt8→Option Addr} {c:List UInt8→Nat} (h:KM bm W l a c) (hb:Below W.heap.size W W'):KM bm W' l a c:=by
 obtain ⟨⟨n,sz,f,h1,h2⟩,h3,h4,h5⟩:=h
 exact ⟨⟨n,sz,f,h1.below hb,h2⟩,fun k=>zcc (h3 k) (fun g hg=>hb.block g ((h3 k).lt g hg).2),h4,h5⟩
theorem zNl (w:World):(zeroValue 23).run Tryz.prog w=.ok (.slice none 0 0) w:=by kernel_rfl
theorem KM.look {bm:Nat} {W:World} {l:List OpV} {a:List UInt8→Option Addr} {c:List UInt8→Nat} (h:KM bm W l a c) (k:List UInt8) (hk:k.length≤10000000):
 (Instr.lookup 122 (.map (some bm)) (.string ⟨k.toArray⟩) false).run Tryz.prog W=.ok (.slice (a k) (flt k l).length (c k)) W:=by
 obtain ⟨⟨n,sz,f,h1,_,h2,_⟩,_,h4,_⟩:=h
 have hkk:=zjt (s:=⟨k.toArray⟩) (by show k.toArray.size≤_;rw [List.size_toArray];unfold maxLen;omega)
 have hr:=h1.run1 lawS Tryz.underlying122 (zNl W) hkk
 rw [hr,h2]
 by_cases e:flt k l=[]
 · rw [if_pos e,(h4 k e).1,(h4 k e).2,e];rfl
 · rw [if_neg e];rfl
theorem KM.put {bm:Nat} {W:World} {l:List OpV} {a:List UInt8→Option Addr} {c:List UInt8→Nat} (h:KM bm W l a c) (o:OpV) (hk:o.key.length≤10000000) (hl:l.length≤1000):
 ∃ a' c' w7 w9,(Builtin.append_ #[23,23] 23 #[.slice (a o.key) (flt o.key l).length (c o.key),.slice (some ⟨W.heap.size,0,none⟩) 1 1]).run Tryz.prog (W.alloc (.cells (opvCells o).toArray 48))=.ok (.slice a' ((flt o.key l).length+1) c') w7∧
  (Instr.mapUpdate 122 (.map (some bm)) (.string ⟨o.key.toArray⟩) (.slice a' ((flt o.key l).length+1) c')).run Tryz.prog w7=.ok () w9∧Below bm W w7∧Below bm W w9∧(∀ g,g < W.heap.size→g≠bm→(Value.slice (a o.key) (flt o.key l).length (c o.key)).ownBlock≠some g→w7.heap[g]?=W.heap[g]?∧w9.heap[g]?=W.heap[g]?)∧
  KM bm w9 (l++[o]) (fun k=>if k=o.key then a' else a k) (fun k=>if k=o.key then c' else c k):=by
 classical
 have hlk:=zdB o.key l
 obtain ⟨⟨n,sz,f,h1,hn,h2,hS⟩,h3,h4,h5⟩:=h
 have hbm:=h1.lt
 obtain ⟨a',c',w7,hap,hown,hkp,hloc⟩:=z2a W (bm+1) (a o.key) (flt o.key l).length (c o.key) _ o (h3 o.key) (by omega) (by omega)
 have hge:∀ k g,(Value.slice (a k) (flt k l).length (c k)).ownBlock=some g→bm < g∧g < W.heap.size:=fun k g hg=>(h3 k).lt g hg
 have hM7:MapFn w7 9 bm n sz f:=h1.kept hkp (fun hm=>by have:=(hge o.key bm (by simpa using hm)).1;omega)
 have hkk:=zjt (s:=⟨o.key.toArray⟩) (by show o.key.toArray.size≤_;rw [List.size_toArray];unfold maxLen;omega)
 obtain ⟨w9,hput,hM9,hk9⟩:=hM7.runPut lawS Tryz.underlying122 (by unfold maxLen;omega) (.slice a' ((flt o.key l).length+1) c') hkk trivial (fun kl=>if kl=.string o.key then some (.slice a' ((flt o.key l).length+1) c') else f kl) (by simp) (fun x hx=>by simp at hx;simp [hx])
 have h7:∀ g,g < W.heap.size→(Value.slice (a o.key) (flt o.key l).length (c o.key)).ownBlock≠some g→w7.heap[g]?=W.heap[g]?:=fun g hg hne=>hkp.block g hg (fun hm=>hne (by simpa using hm))
 have h9:∀ g,g < W.heap.size→g≠bm→(Value.slice (a o.key) (flt o.key l).length (c o.key)).ownBlock≠some g→w9.heap[g]?=W.heap[g]?:=fun g hg hb hne=>(hk9.block g (Nat.lt_of_lt_of_le hg hkp.size) (by simpa using hb)).trans (h7 g hg hne)
 have hb7:Below bm W w7:=hkp.below (by omega) (fun g hg=>by have:=(hge o.key g (by simpa using hg)).1;omega)
 have hb9:Below bm W w9:=hb7.trans (hk9.below (by have:=hb7.size;omega) (fun g hg=>by simp at hg;omega))
 refine ⟨a',c',w7,w9,hap,hput,hb7,hb9,fun g h h' h''=>⟨h7 g h h'',h9 g h h' h''⟩,⟨_,_,_,hM9,by rw [List.length_append];simp;omega,fun k=>?_,fun kl hkl=>?_⟩,fun k=>?_,fun k hk=>?_,fun k k' g hkk' hg=>?_⟩
 · rw [znu]
   by_cases e:k=o.key
   · subst e;simp
   · have e':¬ o.key=k:=fun x=>e x.symm
     simp only [if_neg e',Lit.string.injEq,if_neg e]
     exact h2 k
 · by_cases e:kl=.string o.key
   · exact ⟨_,e⟩
   · simp only [if_neg e] at hkl;exact hS kl hkl
 · rw [znu]
   by_cases e:k=o.key
   · subst e
     simp only [if_true,List.length_append,List.length_singleton]
     have:=zcc (w':=w9) hown (fun g hg=>hk9.block g (hown.lt g hg).2 (by have:=(hown.lt g hg).1;simp;omega))
     rw [show opsRow (flt o.key l++[o])=opsRow (flt o.key l)++opvCells o by unfold opsRow;simp]
     exact this
   · have e':¬ o.key=k:=fun x=>e x.symm
     simp only [if_neg e',if_neg e]
     exact zcc (h3 k) (fun g hg=>h9 g (hge k g hg).2 (by have:=(hge k g hg).1;omega) (h5 k o.key g e hg))
 · rw [znu] at hk
   by_cases e:k=o.key
   · subst e;simp at hk
   · have e':¬ o.key=k:=fun x=>e x.symm
     rw [if_neg e'] at hk
     simp only [if_neg e]
     exact h4 k hk
 · simp only [znu] at hg ⊢
   by_cases e:k=o.key
   · subst e
     have e2:¬ k'=o.key:=fun x=>hkk' x.symm
     have e2':¬ o.key=k':=hkk'
     simp only [if_true,List.length_append,List.length_singleton] at hg
     simp only [if_neg e2,if_neg e2']
     intro hq
     rcases hloc with h | ⟨g3,h,hge3⟩
     · rw [h] at hg;exact h5 o.key k' g hkk' hg hq
     · rw [h] at hg;injection hg with hg;have:=(hge k' g hq).2;omega
   · have e':¬ o.key=k:=fun x=>e x.symm
     simp only [if_neg e',if_neg e] at hg
     by_cases e2:k'=o.key
     · subst e2
       simp only [if_true,List.length_append,List.length_singleton]
       intro hq
       rcases hloc with h | ⟨g3,h,hge3⟩
       · rw [h] at hq;exact h5 k o.key g hkk' hg hq
       · rw [h] at hq;injection hq with hq;have:=(hge k g hg).2;omega
     · have e2':¬ o.key=k':=fun x=>e2 x.symm
       simp only [if_neg e2,if_neg e2']
       exact h5 k k' g hkk' hg
theorem KM.keys {bm:Nat} {W:World} {l:List OpV} {a:List UInt8→Option Addr} {c:List UInt8→Nat} (h:KM bm W l a c):∃ n D,W.ownsMap Tryz.prog 9 zXz bm n D∧Maps.size D≤l.length∧(keysU l).Perm (strKeys D):=by
 obtain ⟨⟨n,sz,f,⟨D,h1,h2,⟨es,rfl,hp⟩,h4⟩,hn,h5,h6⟩,_⟩:=h
 refine ⟨n,.map es,h1,Nat.le_trans h1.size_le hn,perm_strKeys hp (fun p hp'=>?_) (z1b l) (fun x=>?_)⟩
 · obtain ⟨es2,e2,hk2⟩:=h1.keysOf
   injection e2 with e2
   obtain ⟨key,hkey⟩:=hk2 p (by rw [←e2];exact hp')
   obtain ⟨x,_,hx,_⟩:=Maps.keyOf_str Tryz.underlying9 hkey
   exact ⟨x,hx⟩
 · rw [zPi,(h4 _).1,h5]
   by_cases e:flt x l=[]
   · simp [e]
   · simp [e]
end Go.Proofs.YtlkidmafomjhgaaGreatDoor.srch
namespace Go.Proofs.YtlkidmafomjhgaaGreatDoor.srch
open Go.RowKit Go.Maps Go.Sort Go.Shelf
theorem zJC (m:Nat):AnyZ.SortsIn Tryz.prog Tryz.sortedS_ren Fence.wide m:=
 ⟨fun blk off cap ss W hH hblk hsz=>callsIn_wide.2 (AnyM.slices_Sort_string Tryz.sortS blk off cap ss W hH hblk hsz),
  fun p cap W=>callsIn_wide.2 (AnyM.slices_Sort_string_none Tryz.sortS p cap W)⟩
theorem zl2 (mb:Option Nat) (W:World):Calls Tryz.prog 62 #[.map mb] W fun e w'=>e=.returned (.func (.func 96) #[] #[.pointer (some ⟨W.heap.size,0,none⟩)])∧w'=W.alloc (.cells #[.map mb] 122):=
 (callsIn_wide (n:=5)).1 (AnyZ.keys_in Tryz.keysO Fence.wide 5 trivial rfl mb W)
theorem zWf {H:Type} (b nn:Nat) (D0:DataW H) (R:Value→Option (DataW H×List MemPlace)) (w:World) (hown:w.ownsMap Tryz.prog 9 R b nn D0) (hmax:Maps.size D0≤maxLen) (hbytes:Maps.size D0*16≤140737488355328):
 Calls Tryz.prog 61 #[.func (.func 96) #[] #[.pointer (some ⟨w.heap.size,0,none⟩)]] (w.alloc (.cells #[.map (some b)] 122)) fun e w'=>∃ (v:Value) (ss:List (List UInt8)),e=.returned v∧ss.Perm (strKeys D0)∧
  w'.ownsRow (w.alloc (.cells #[.map (some b)] 122)).heap.size 9 1 v ss.length ((ss.mergeSort (fun x y=>decide (x≤y))).map encStr)∧(v=.slice none 0 0↔ss=[])∧Below (w.alloc (.cells #[.map (some b)] 122)).heap.size (w.alloc (.cells #[.map (some b)] 122)) w':=by
 have hbl:=hown.lt
 have hseq:SeqGives Fence.wide 2 Tryz.prog 96 #[.pointer (some ⟨w.heap.size,0,none⟩)] encStr (fun ss=>ss.Perm (strKeys D0)) (Maps.size D0) (w.alloc (.cells #[.map (some b)] 122)):=
  AnyZ.keys_gives (ρ:=Tryz.keysO_ren) { Tryz.keysO with } Fence.wide _ trivial rfl (by omega) w.heap.size b nn D0 _ (by simp) (by simp) (by
   obtain ⟨es,clock,hb,Ft,hs,hD⟩:=hown
   exact ⟨es,clock,(Below.heap_alloc _ _ b hbl).trans hb,Ft,hs,hD⟩)
 exact (callsIn_wide (n:=5)).1 (AnyZ.sorted_in Tryz.sortedS Fence.wide 5 trivial trivial trivial trivial rfl (by omega) (zJC _) (enters_of Tryz.func95 (by kernel_rfl) rfl) 96 #[.pointer (some ⟨w.heap.size,0,none⟩)] trivial (enters_of Tryz.func96 (by kernel_rfl) rfl) _ _ hmax hbytes _ hseq)
end Go.Proofs.YtlkidmafomjhgaaGreatDoor.srch
namespace Go.Proofs.YtlkidmafomjhgaaGreatDoor.srch
open Go.RowKit Go.Maps Go.Sort
def sortedU (l:List OpV):List (List UInt8):=(keysU l).mergeSort (fun x y=>decide (x≤y))
def byKeyP (l:List OpV):List (List UInt8×List OpV):=(sortedU l).map (fun k=>(qKey k,flt k l))
theorem zXk (l:List OpV):(sortedU l).length≤l.length:=by
 unfold sortedU
 rw [List.length_mergeSort]
 exact z4i l
theorem zMI {l:List OpV} {k:List UInt8} (h:k∈sortedU l):flt k l≠[]:=by
 unfold sortedU at h
 rw [List.mem_mergeSort] at h
 exact (zPi l k).1 h
theorem zY9:(Tryz.prog.info? 114).map (fun i=>(i.zero,i.size,i.bytes))=some (some (.agg #[.string ⟨#[]⟩,.slice none 0 0]),2,40):=by kernel_rfl
theorem z0L (W:World) (base:Nat) (a:Option Addr) (n c:Nat) (xs:List Value) (s:ByteArray) (x:Option Addr) (k y:Nat) (h:W.ownsRow base 114 2 (.slice a n c) n xs) (hn:n≤3000000) (hb:base≤W.heap.size):
 ∃ a' c' w',(Builtin.append_ #[86,86] 86 #[.slice a n c,.slice (some ⟨W.heap.size,0,none⟩) 1 1]).run Tryz.prog (W.alloc (.cells #[.string s,.slice x k y] 114))=.ok (.slice a' (n+1) c') w'∧w'.ownsRow base 114 2 (.slice a' (n+1) c') (n+1) (xs++[.string s,.slice x k y])∧Below base W w':=by
 obtain ⟨i0,hi0',hz0,hz1,hz2⟩:=info_parts zY9
 obtain ⟨v7,w7,h1,h2,h3,_⟩:=run_append_own (P:=Tryz.prog) (W.alloc (.cells ([.string s,.slice x k y]:List Value).toArray 114)) base 86 86 114 i0 _ 2 40 Tryz.underlying86 hi0' hz0 hz1 hz2 rfl (by decide) (.slice a n c) n xs (h.alloc _) ⟨W.heap.size,0,none⟩ 1 1 [.string s,.slice x k y] rfl (z9R W _ _) (by intro u hu;simp at hu;rcases hu with rfl | rfl <;> rfl) (by unfold maxLen;omega) (by omega) (by simp;omega)
 obtain ⟨a',c',rfl⟩:=zIW h2
 have hrow:∀ g,(Value.slice a n c).ownBlock=some g→base≤g:=zYv h
 have hk:Kept (Value.slice a n c).ownBlock.toList W w7:=((Kept.refl _ W).alloc _).grownS h3 (fun g' hg'=>by rw [hg'];simp)
 exact ⟨a',c',w7,h1,h2,hk.below hb (fun g hg=>hrow g (by simpa using hg))⟩
def pRow (l:List OpV) (a:List UInt8→Option Addr) (c:List UInt8→Nat) (ks:List (List UInt8)):List Value:=ks.flatMap (fun k=>[.string ⟨(qKey k).toArray⟩,.slice (a k) (flt k l).length (c k)])
theorem z2R (l:List OpV) (a:List UInt8→Option Addr) (c:List UInt8→Nat) (ks:List (List UInt8)) (j:Nat) (h:j < ks.length):pRow l a c (ks.take (j+1))=pRow l a c (ks.take j)++[.string ⟨(qKey ks[j]).toArray⟩,.slice (a ks[j]) (flt ks[j] l).length (c ks[j])]:=by
 unfold pRow
 rw [List.take_succ_eq_append_getElem h,List.flatMap_append]
 simp
theorem zUW (l:List OpV) (a:List UInt8→Option Addr) (c:List UInt8→Nat) (ks:List (List UInt8)) (j:Nat) (h:j < ks.length):(pRow l a c ks)[j*2]?=some (.string ⟨(qKey ks[j]).toArray⟩)∧(pRow l a c ks)[j*2+1]?=some (.slice (a ks[j]) (flt ks[j] l).length (c ks[j])):=by
 induction ks generalizing j with
 | nil=>simp at h
 | cons k t ih=>
   unfold pRow at ih ⊢
   rw [List.flatMap_cons]
   cases j with
   | zero=>simp
   | succ j=>
     have:=ih j (by simpa using h)
     rw [show (j+1)*2=j*2+2 by omega]
     simp only [List.cons_append,List.nil_append,List.getElem?_cons_succ,List.getElem_cons_succ]
     exact this
theorem zZY {bm:Nat} {W:World} {l:List OpV} {a:List UInt8→Option Addr} {c:List UInt8→Nat} (h:KM bm W l a c) (k:List UInt8):OAt W (a k) (flt k l):=z6a (h.own k)
theorem zpj (oa:Option Addr) (cap:Nat) (ops:List OpV) (w:World) (hr:OAt w oa ops) (hl:ops.length≤128) (hk:∀ o∈ops,o.key.length≤10000000):
 Calls Tryz.prog 48 #[.slice oa ops.length cap] w fun e w'=>∃ a c,e=.returned (.slice a (byKeyP ops).length c)∧PAt w' a (byKeyP ops)∧Below w.heap.size w w':=by
 have hmm:=@run_makeMap Tryz.prog
 have HK:=Hid.mk' hk
 clear hk
 go_enter Tryz.func48,Tryz.ntmps48
 go_wp2_with fail
 go_loopw [12] (fun i wr=>∃ (j:Nat) (a:List UInt8→Option Addr) (c:List UInt8→Nat),i=.int .i64 (j:Int)∧j≤ops.length∧Hid (KM w.heap.size wr (ops.take j) a c)∧Hid (Below w.heap.size w wr)) (fun i _=>ops.length - (intOf i).toNat)
 case atStart=>exact ⟨0,_,_,rfl,by omega,Hid.mk' (KM.start w),Hid.mk' ((Below.refl _ _).alloc (Nat.le_refl _) _)⟩
 case round=>
  obtain ⟨j,a,c,rfl,hj,HM,HB⟩:=hrel
  by_cases hin:j < ops.length
  · have hin':(j:Int) < (ops.length:Int):=by omega
    have hne:ops≠[]:=by intro h;rw [h] at hin;simp at hin
    obtain ⟨g,rfl,hg,hc⟩:=(hr.below HB.out) hne
    have hcell:∀ c u,c < 10→(opvCells ops[j])[c]?=some u→wr.cell? ⟨g,j*10+c,none⟩=some u:=fun c u hcc hu=>hc _ _ ((zvc ops j hin c hcc).trans hu)
    have hT:=Hid.mk' (List.take_succ_eq_append_getElem hin)
    have hko:=HK.out _ (List.getElem_mem hin)
    generalize ops[j]=o at*
    have q0:wr.cell? ⟨g,j*10,none⟩=some (.int .i64 o.id):=hcell 0 _ (by omega) rfl
    have q1:=hcell 1 _ (by omega) rfl
    have q2:=hcell 2 _ (by omega) rfl
    have q3:=hcell 3 _ (by omega) rfl
    have q4:=hcell 4 _ (by omega) rfl
    have q5:=hcell 5 _ (by omega) rfl
    have q6:=hcell 6 _ (by omega) rfl
    have q7:=hcell 7 _ (by omega) rfl
    have q8:=hcell 8 _ (by omega) rfl
    have q9:=hcell 9 _ (by omega) rfl
    clear hcell hc
    go_wp2_with fail
    obtain ⟨W1,hW1⟩:∃ W1,W1=wr.alloc (.cells #[.int .i64 o.id,.int .i64 o.cl,.string ⟨o.name.toArray⟩,.string ⟨o.key.toArray⟩,.int .i64 o.arg,.int .i64 o.exp,.int .i64 o.call,.int .i64 o.ret,.int .i64 o.vk,.int .i64 o.vn] 48):=⟨_,rfl⟩
    rw [←hW1]
    have hB5:W1.heap[wr.heap.size]?=some (.cells #[.int .i64 o.id,.int .i64 o.cl,.string ⟨o.name.toArray⟩,.string ⟨o.key.toArray⟩,.int .i64 o.arg,.int .i64 o.exp,.int .i64 o.call,.int .i64 o.ret,.int .i64 o.vk,.int .i64 o.vn] 48 (0,0)):=by rw [hW1];exact ziF _ _ _ rfl
    have hb1:Below wr.heap.size wr W1:=by rw [hW1];exact (Below.refl _ _).alloc (Nat.le_refl _) _
    have hnr:∀ k,(Value.slice (a k) (flt k (ops.take j)).length (c k)).ownBlock≠some wr.heap.size:=fun k e=>by have:=((HM.out.own k).lt _ e).2;omega
    have hbw:w.heap.size < wr.heap.size:=by obtain ⟨⟨_,_,_,h,_⟩,_⟩:=HM.out;exact h.lt
    have M1:=HM.out.on (hb1.trans (Below.refl _ W1).drew)
    have hlt5:=zCqB hB5
    have hk0:=M1.look o.key hko
    have hk1:(Instr.lookup 122 (.map (some w.heap.size)) (.string ⟨o.key.toArray⟩) false).run Tryz.prog (W1.alloc (.cells #[.int .i64 o.id,.int .i64 o.cl,.string ⟨o.name.toArray⟩,.string ⟨o.key.toArray⟩,.int .i64 o.arg,.int .i64 o.exp,.int .i64 o.call,.int .i64 o.ret,.int .i64 o.vk,.int .i64 o.vn] 48)).drew=.ok (.slice (a o.key) (flt o.key (ops.take j)).length (c o.key)) (W1.alloc (.cells #[.int .i64 o.id,.int .i64 o.cl,.string ⟨o.name.toArray⟩,.string ⟨o.key.toArray⟩,.int .i64 o.arg,.int .i64 o.exp,.int .i64 o.call,.int .i64 o.ret,.int .i64 o.vk,.int .i64 o.vn] 48)).drew:=(M1.on ((Below.refl _ W1.drew).alloc (Nat.le_refl _) (.cells #[.int .i64 o.id,.int .i64 o.cl,.string ⟨o.name.toArray⟩,.string ⟨o.key.toArray⟩,.int .i64 o.arg,.int .i64 o.exp,.int .i64 o.call,.int .i64 o.ret,.int .i64 o.vk,.int .i64 o.vn] 48))).look o.key hko
    obtain ⟨a',c',w7,w9,hap,hput,hb7,hb9,hst,M9⟩:=M1.put o hko (by rw [List.length_take];omega)
    rw [show W1.drew.heap.size=W1.heap.size from rfl] at hap
    have hap':(Builtin.append_ #[23,23] 23 #[.slice (a o.key) (flt o.key (ops.take j)).length (c o.key),.slice (some ⟨W1.heap.size,0,none⟩) 1 1]).run Tryz.prog (W1.alloc (.cells #[.int .i64 o.id,.int .i64 o.cl,.string ⟨o.name.toArray⟩,.string ⟨o.key.toArray⟩,.int .i64 o.arg,.int .i64 o.exp,.int .i64 o.call,.int .i64 o.ret,.int .i64 o.vk,.int .i64 o.vn] 48)).drew=.ok (.slice a' ((flt o.key (ops.take j)).length+1) c') w7:=hap
    have hs5:=hst wr.heap.size hlt5 (by omega) (hnr o.key)
    have M10:=Hid.mk' M9
    have HB9:=Hid.mk' ((HB.out.trans (hb1.mono (by omega))).trans ((Below.refl _ W1).drew.trans hb9))
    clear M1 M9 hap hb7 hb9 hst hnr hW1 hb1 q0 q1 q2 q3 q4 q5 q6 q7 q8 q9 HM HB
    generalize (flt o.key (ops.take j)).length=nn at hk0 hk1 hap' hput
    generalize a o.key=aa at hk0 hk1 hap' hput
    generalize c o.key=cc at hk0 hk1 hap' hput
    generalize wr.heap.size=e5 at hB5 hlt5 hs5 hbw ⊢
    have mkS:∀ W:World,W.heap[e5]?=some (.cells #[.int .i64 o.id,.int .i64 o.cl,.string ⟨o.name.toArray⟩,.string ⟨o.key.toArray⟩,.int .i64 o.arg,.int .i64 o.exp,.int .i64 o.call,.int .i64 o.ret,.int .i64 o.vk,.int .i64 o.vn] 48 (0,0))→(fun w'=>w'.cell? ⟨e5,0,none⟩=some (.int .i64 o.id)∧w'.cell? ⟨e5,1,none⟩=some (.int .i64 o.cl)∧w'.cell? ⟨e5,2,none⟩=some (.string ⟨o.name.toArray⟩)∧w'.cell? ⟨e5,3,none⟩=some (.string ⟨o.key.toArray⟩)∧w'.cell? ⟨e5,4,none⟩=some (.int .i64 o.arg)∧w'.cell? ⟨e5,5,none⟩=some (.int .i64 o.exp)∧w'.cell? ⟨e5,6,none⟩=some (.int .i64 o.call)∧w'.cell? ⟨e5,7,none⟩=some (.int .i64 o.ret)∧w'.cell? ⟨e5,8,none⟩=some (.int .i64 o.vk)∧w'.cell? ⟨e5,9,none⟩=some (.int .i64 o.vn)) W:=fun W h=>⟨(zBk h 0).trans rfl,(zBk h 1).trans rfl,(zBk h 2).trans rfl,(zBk h 3).trans rfl,(zBk h 4).trans rfl,(zBk h 5).trans rfl,(zBk h 6).trans rfl,(zBk h 7).trans rfl,(zBk h 8).trans rfl,(zBk h 9).trans rfl⟩
    have hS1:=mkS W1.drew hB5
    have hS2:=mkS (W1.alloc (.cells #[.int .i64 o.id,.int .i64 o.cl,.string ⟨o.name.toArray⟩,.string ⟨o.key.toArray⟩,.int .i64 o.arg,.int .i64 o.exp,.int .i64 o.call,.int .i64 o.ret,.int .i64 o.vk,.int .i64 o.vn] 48)).drew ((zD1 _ _ _ hlt5).trans hB5)
    have hS7:=mkS w7 (hs5.1.trans hB5)
    have hS9:=mkS w9 (hs5.2.trans hB5)
    have r1:=mkS W1 hB5
    obtain ⟨d0,d1,d2,d3,d4,d5,d6,d7,d8,d9⟩:=r1
    clear mkS hB5 hs5
    go_region_held3 (fun w'=>w'.cell? ⟨e5,0,none⟩=some (.int .i64 o.id)∧w'.cell? ⟨e5,1,none⟩=some (.int .i64 o.cl)∧w'.cell? ⟨e5,2,none⟩=some (.string ⟨o.name.toArray⟩)∧w'.cell? ⟨e5,3,none⟩=some (.string ⟨o.key.toArray⟩)∧w'.cell? ⟨e5,4,none⟩=some (.int .i64 o.arg)∧w'.cell? ⟨e5,5,none⟩=some (.int .i64 o.exp)∧w'.cell? ⟨e5,6,none⟩=some (.int .i64 o.call)∧w'.cell? ⟨e5,7,none⟩=some (.int .i64 o.ret)∧w'.cell? ⟨e5,8,none⟩=some (.int .i64 o.vk)∧w'.cell? ⟨e5,9,none⟩=some (.int .i64 o.vn)) (first | (with_reducible exact hS2) | (with_reducible exact hS7) | (with_reducible exact hS9) | go_keep) (refine zti rfl _ _ 23 rfl _ _ _ _ rfl rfl hap' ?_)
    all_goals
     clear hk0 hk1 hap' hput hS1 hS2 hS7 hS9 d0 d1 d2 d3 d4 d5 d6 d7 d8 d9
     go_wp2
     go_round
     case measure=>simp [intOf];omega
     case rel=>exact ⟨j+1,_,_,by go_num,by omega,by rw [hT.out];exact M10,HB9⟩
  · have hin':¬ (j:Int) < (ops.length:Int):=by omega
    have hjl:j=ops.length:=by omega
    subst hjl
    rw [List.take_length] at HM
    clear hin hj hr
    obtain ⟨nD,D,hD1,hD2,hD3⟩:=HM.out.keys
    have hso:=zWf _ nD D zXz wr hD1 (by unfold maxLen;omega) (by omega)
    go_wp2_with (first
     | (go_at_call 62;refine (zl2 _ _).mono ?_;rintro e w2 ⟨rfl,rfl⟩)
     | (go_at_call 61;refine hso.mono ?_;rintro e w3 ⟨v,ss,rfl,hS,hrow,hnil,hb3⟩;have hb3':Below wr.heap.size wr w3:=((Below.refl _ wr).alloc (Nat.le_refl _) _).trans (hb3.mono (by simp));obtain ⟨KS,hKS⟩:∃ KS,Hid (KS=sortedU ops):=⟨_,rfl⟩;have hmS:ss.mergeSort (fun x y=>decide (x≤y))=KS:=by { rw [hKS.out];exact mergeSort_of_perm (hS.trans hD3.symm) };have hlS:ss.length=KS.length:=by { rw [←hmS,List.length_mergeSort] };rw [hmS,hlS] at hrow;obtain ⟨va,vc,rfl⟩:=zIW hrow))
    have hkl:∀ k∈KS,k.length≤10000000:=by
     intro k hk
     rw [hKS.out] at hk
     obtain ⟨o,ho⟩:=List.exists_mem_of_ne_nil _ (zMI hk)
     unfold flt at ho
     rw [List.mem_filter] at ho
     have:=HK.out o ho.1
     rw [of_decide_eq_true ho.2] at this
     exact this
    have hKl:KS.length≤128:=by rw [hKS.out];have:=zXk ops;omega
    have M3:=Hid.mk' (HM.out.on hb3')
    have HB3:=Hid.mk' (HB.out.trans (hb3'.mono HB.out.size))
    have HR:=Hid.mk' hrow
    have HKL:=Hid.mk' hkl
    have HKS:Hid (KS=sortedU ops):=hKS
    have hbs:=hb3'.size
    clear hkl hso hD1 hD2 hD3 hS hrow hnil hb3 hb3' hKS hmS hlS HM HB HK hbs
    go_loopw [6,31] (fun s i w4=>∃ (j:Nat) (a2:Option Addr) (c2:Nat),s=.slice a2 j c2∧i=.int .i64 (j:Int)∧j≤KS.length∧Hid (w4.ownsRow w3.heap.size 114 2 (.slice a2 j c2) j (pRow ops a c (KS.take j)))∧Hid (Below w3.heap.size w3 w4)) (fun _ i _=>KS.length - (intOf i).toNat)
    case atStart=>exact ⟨0,none,0,rfl,rfl,by omega,Hid.mk' (World.ownsRow_nil _ _ _ _),Hid.mk' (Below.refl _ _)⟩
    case round=>
     obtain ⟨j,a2,c2,rfl,rfl,hj,HO,HW⟩:=hrel
     by_cases hin:j < KS.length
     · have hin2:(j:Int) < (KS.length:Int):=by omega
       obtain ⟨gv,rfl,hgv3,hcv⟩:∃ gv,va=some ⟨gv,0,none⟩∧gv < w3.heap.size∧∀ i (h:i < KS.length),wr.cell? ⟨gv,i,none⟩=some (.string ⟨KS[i].toArray⟩):=by
        have hx:=HR.out
        obtain ⟨_,⟨_,h3⟩ | ⟨g,cp,cur,h3,_,hb,_⟩⟩:=hx
        · omega
        · injection h3 with h3
          subst h3
          refine ⟨g,rfl,zCqB hb,fun i h=>?_⟩
          have h4:=HR.out.cells (g:=g) rfl i (.string ⟨KS[i].toArray⟩) (by rw [List.getElem?_map,List.getElem?_eq_getElem h];rfl)
          rw [Addr.add_lit,Nat.zero_add] at h4
          exact (HW.out.cell (p:=⟨g,i,none⟩) (zCqB hb)).trans h4
       have hc:=hcv j hin
       have hT:=Hid.mk' (z2R ops a c KS j hin)
       have hkk:=HKL.out _ (List.getElem_mem hin)
       generalize KS[j]=key at hc hT hkk
       clear hcv
       have hq:=fun W=>zif key W hkk
       have HL:=Hid.mk' (fun W (h:Below w3.heap.size w3 W)=>(M3.out.on h).look key hkk)
       have l0:=HL.out wr.drew (HW.out.trans (Below.refl _ _).drew)
       have hzz:=HW.out.size
       have hgv:gv < wr.heap.size:=Nat.lt_of_lt_of_le hgv3 hzz
       generalize flt key ops=fk at hT HL l0
       generalize a key=ak at hT HL l0
       generalize c key=ck at hT HL l0
       go_wp2_with fail
       go_region_law (first
        | (go_simp;go_at_call 63;refine (hq _).mono ?_;rintro e w5 ⟨rfl,hb50⟩;have hb5:Below wr.heap.size wr w5:=(Below.refl _ wr).drew.trans hb50;have l5:=HL.out w5 (HW.out.trans (hb5.mono hzz));obtain ⟨a3,c3,w7,hap,hown7,hb7⟩:=z0L w5 w3.heap.size a2 j c2 _ ⟨(qKey key).toArray⟩ ak fk.length ck (zcc HO.out (fun g hg=>hb5.block g (HO.out.lt g hg).2)) (by omega) (by have:=hb5.size;omega);have H7:=Hid.mk' (And.intro hown7 ((HW.out.trans (hb5.mono hzz)).trans hb7));clear hown7 hb7 hb5 hb50)
        | (refine zti rfl _ _ 86 rfl _ _ _ _ rfl rfl hap ?_))
       all_goals
        clear l0 l5 hap hq
        go_wp2
        go_round
        case measure=>simp [intOf];omega
        case rel=>exact ⟨j+1,a3,c3,rfl,by go_num,by omega,by rw [hT.out];exact Hid.mk' H7.out.1,Hid.mk' H7.out.2⟩
     · have hin2:¬ (j:Int) < (KS.length:Int):=by omega
       have hjl:j=KS.length:=by omega
       subst hjl
       rw [List.take_length] at HO
       go_wp2
       go_ret
       have hlen:(byKeyP ops).length=KS.length:=by unfold byKeyP;rw [List.length_map,HKS.out]
       refine ⟨a2,⟨c2,by rw [hlen];rfl⟩,?_,HB3.out.trans (HW.out.mono HB3.out.size)⟩
       intro hne
       obtain ⟨_,⟨_,h3⟩ | ⟨g,cp,cur,h3,_,hb,_⟩⟩:=HO.out
       · exact absurd (List.eq_nil_of_length_eq_zero (by rw [hlen];exact h3)) hne
       · injection h3 with h3
         subst h3
         refine ⟨g,rfl,zCqB hb,fun i hi=>?_⟩
         have hi':i < KS.length:=by rw [←hlen];exact hi
         have he:(byKeyP ops)[i]=(qKey KS[i],flt KS[i] ops):=by
          have:(byKeyP ops)[i]?=some (qKey KS[i],flt KS[i] ops):=by
           unfold byKeyP
           rw [List.getElem?_map,←HKS.out,List.getElem?_eq_getElem hi']
           rfl
          rw [List.getElem?_eq_getElem hi] at this
          exact Option.some.inj this
         rw [he]
         obtain ⟨g1,g2⟩:=zUW ops a c KS i hi'
         have h4:=HO.out.cells (g:=g) rfl (i*2) _ g1
         have h5:=HO.out.cells (g:=g) rfl (i*2+1) _ g2
         rw [Addr.add_lit,Nat.zero_add] at h4 h5
         exact ⟨_,_,h4,h5,(zZY M3.out KS[i]).below HW.out⟩
end Go.Proofs.YtlkidmafomjhgaaGreatDoor.srch
