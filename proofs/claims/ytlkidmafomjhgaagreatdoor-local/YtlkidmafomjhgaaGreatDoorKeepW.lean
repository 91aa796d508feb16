/- Several texts in one. -/
import Derived.Test.YtlkidmafomjhgaaGreatDoorKeepV
import Derived.Deep.Upon
namespace Go.Proofs.YtlkidmafomjhgaaGreatDoor.keep
open Go.RowKit

def small (x:Int):Prop:= -1000≤x∧x≤1000
def ThRow (w:World) (TS:List Nat) (v:Value) (n:Nat):Prop:=(n=0∧v=.slice none 0 0)∨∃ g off cap,v=.slice (some ⟨g,off,none⟩) n cap∧g∈TS∧g < w.heap.size∧n≤cap∧cap≤maxLen∧
 (∀ j,j < n→∃ x,w.cell? ⟨g,off+j,none⟩=some (.int .i64 x)∧small x)∧(∀ j,j < cap→(w.cell? ⟨g,off+j,none⟩).isSome=true∧w.frozen? ⟨g,off+j,none⟩=false)
theorem ThRow.slice {w:World} {TS:List Nat} {v:Value} {n:Nat} (h:ThRow w TS v n):∃ oa cap,v=.slice oa n cap:=by
 rcases h with ⟨rfl,rfl⟩ | ⟨g,off,cap,rfl,_⟩
 · exact ⟨_,_,rfl⟩
 · exact ⟨_,_,rfl⟩
structure TStep (S TS:List Nat) (w w':World):Prop where
 kept:Kept (S++TS) w w'
 cells:∀ a:Addr,a.block∈TS→a.block < w.heap.size→w'.cell? a=w.cell? a∨((w.cell? a).isSome=true∧∃ x,w'.cell? a=some (.int .i64 x)∧small x)
 frozen:∀ a:Addr,a.block∈TS→a.block < w.heap.size→w'.frozen? a=w.frozen? a
theorem TStep.of_kept {S TS:List Nat} {w w':World} (h:Kept S w w') (hd:∀ x∈TS,x∉S):TStep S TS w w':=
 ⟨h.mono (fun x _ hx=>by simp [hx]),fun _ ha hb=>Or.inl (h.cell hb (hd _ ha)),fun _ ha hb=>h.frozen hb (hd _ ha)⟩
theorem ThRow.step {S TS TS':List Nat} {w w':World} {v:Value} {n:Nat} (h:ThRow w TS v n) (k:TStep S TS w w') (hT:∀ x∈TS,x∈TS'):ThRow w' TS' v n:=by
 rcases h with h | ⟨g,off,cap,hv,hg,hlt,hnc,hcm,h1,h2⟩
 · exact Or.inl h
 · refine Or.inr ⟨g,off,cap,hv,hT g hg,Nat.lt_of_lt_of_le hlt k.kept.size,hnc,hcm,fun j hj=>?_,fun j hj=>?_⟩
   · rcases k.cells ⟨g,off+j,none⟩ hg hlt with e | ⟨_,x,e,hx⟩
     · rw [e];exact h1 j hj
     · exact ⟨x,e,hx⟩
   · refine ⟨?_,(k.frozen ⟨g,off+j,none⟩ hg hlt).trans (h2 j hj).2⟩
     rcases k.cells ⟨g,off+j,none⟩ hg hlt with e | ⟨_,x,e,hx⟩
     · rw [e];exact (h2 j hj).1
     · rw [e];rfl

set_option maxHeartbeats 1000000 in
theorem zzT (b o:Nat) (oa:Option Addr) (n cap:Nat) (w:World) (hc:w.cell? ⟨b,o,none⟩=some (.slice oa n cap)):
 Calls Tryz.prog 38 #[.pointer (some ⟨b,o,none⟩)] w fun e w'=>e=.returned (.bool (decide (0 < n)))∧w'=w:=by
 go_enter Tryz.func38,Tryz.ntmps38
 go_wp2
 go_ret
 exact ⟨by simp,rfl⟩
set_option maxHeartbeats 1000000 in
theorem zR0 (b o:Nat) (v:Value) (n:Int) (w:World) (hc:w.cell? ⟨b,o,none⟩=some v) (hf:w.frozen? ⟨b,o,none⟩=false) (hb:b < w.heap.size):
 Calls Tryz.prog 35 #[.pointer (some ⟨b,o,none⟩),.int .i64 n] w fun e w'=>(∃ v,e=.returned v)∧w'=(w.setCell ⟨b,o,none⟩ (.slice (some ⟨w.heap.size,0,none⟩) 1 1)).alloc (.cells #[.int .i64 n] 2):=by
 go_enter Tryz.func35,Tryz.ntmps35
 go_wp2
 go_end0
 exact ⟨⟨_,rfl⟩,rfl⟩

structure ThAt (w:World) (wb o:Nat) (TS:List Nat) (wc:Array Value) (n:Nat):Prop where
 blk:w.heap[wb]?=some (.cells wc 67 (0,0))
 row:∃ v,wc[o]?=some v∧ThRow w TS v n
 ne:wb∉TS
theorem ThAt.step {w w':World} {wb o:Nat} {TS:List Nat} {wc:Array Value} {n:Nat} (h:ThAt w wb o TS wc n) (k:Below w.heap.size w w'):ThAt w' wb o TS wc n:=by
 obtain ⟨v,h1,h2⟩:=h.row
 exact ⟨(k.block wb (zBq h.blk)).trans h.blk,⟨v,h1,h2.step (S:=[]) (TStep.of_kept (Kept.of_below k) (by simp)) (fun _ h=>h)⟩,h.ne⟩
def zaK (wb o:Nat) (TS:List Nat) (wc:Array Value) (n0 lo:Nat) (ok:Int→Int→Prop) (w:World) (e:Ending) (w':World):Prop:=
 ∃ (kk nn:Int) (v':Value) (n':Nat) (TS':List Nat),e=.returned (.agg #[.int .i64 kk,.int .i64 nn])∧ok kk nn∧lo≤n'∧n'≤n0+1∧(∀ x∈TS,x∈TS')∧(∀ x∈TS',x∈TS∨w.heap.size≤x)∧
  w'.heap[wb]?=some (.cells (wc.setIfInBounds o v') 67 (0,0))∧ThRow w' TS' v' n'∧TStep [wb] TS w w'
theorem zhI {w:World} {wb o n:Nat} {TS:List Nat} {wc:Array Value} (h:ThAt w wb o TS wc n) (x:Int) (hx:small x):
 let w':=(w.setCell ⟨wb,o,none⟩ (.slice (some ⟨w.heap.size,0,none⟩) 1 1)).alloc (.cells #[.int .i64 x] 2)
 w'.heap[wb]?=some (.cells (wc.setIfInBounds o (.slice (some ⟨w.heap.size,0,none⟩) 1 1)) 67 (0,0))∧ThRow w' (w.heap.size::TS) (.slice (some ⟨w.heap.size,0,none⟩) 1 1) 1∧TStep [wb] TS w w':=by
 have hsz:(w.setCell ⟨wb,o,none⟩ (.slice (some ⟨w.heap.size,0,none⟩) 1 1)).heap.size=w.heap.size:=by simp [World.setCell]
 have hlt:=zBq h.blk
 refine ⟨?_,?_,?_⟩
 · rw [zD1 _ _ _ (by rw [hsz];exact hlt),zFg h.blk]
 · have hb:=ziF (w.setCell ⟨wb,o,none⟩ (.slice (some ⟨w.heap.size,0,none⟩) 1 1)) (.cells #[.int .i64 x] 2) w.heap.size hsz.symm
   refine Or.inr ⟨_,_,_,rfl,by simp,zBq hb,Nat.le_refl _,by unfold maxLen;omega,?_,?_⟩
   · intro j hj
     obtain rfl:j=0:=by omega
     exact ⟨x,by rw [zBk hb];rfl,hx⟩
   · intro j hj
     obtain rfl:j=0:=by omega
     exact ⟨by rw [zBk hb];rfl,zBn hb _⟩
 · exact TStep.of_kept (((Kept.refl [wb] w).setCell (p:=⟨wb,o,none⟩) (Or.inl (by simp)) _).alloc _) (fun y hy=>by
    simp only [List.mem_cons,List.not_mem_nil,or_false];rintro rfl;exact h.ne hy)
theorem zWG:(Tryz.prog.info? 2).map (fun i=>(i.zero,i.size,i.bytes))=some (some (.int .i64 0),1,8):=by kernel_rfl
theorem z0m {w:World} {base:Nat} {v:Value} {l:List Int} (h:w.ownsRow base 2 1 v l.length (l.map (Value.int .i64))) (hs:∀ x∈l,small x) (hne:l≠[]):∃ g,base≤g∧ThRow w [g] v l.length:=by
 rcases h.2 with ⟨_,h0⟩ | ⟨g,cap,cur,rfl,hb,hg,hnc,hcm,hcs,htake⟩
 · exact absurd (List.length_eq_zero_iff.1 h0) hne
 · refine ⟨g,hb,Or.inr ⟨g,0,cap,rfl,by simp,zBq hg,hnc,hcm,fun j hj=>?_,fun j hj=>?_⟩⟩
   · refine ⟨l[j],?_,hs _ (List.getElem_mem hj)⟩
     rw [Nat.zero_add,zBk hg]
     have:(cur.toList.take l.length)[j]?=(l.map (Value.int .i64))[j]?:=by
      have e:=htake
      simp only [Nat.mul_one] at e
      rw [e]
     rw [List.getElem?_take,if_pos hj] at this
     rw [←Array.getElem?_toList,this,List.getElem?_map,List.getElem?_eq_getElem hj];rfl
   · rw [Nat.zero_add,zBk hg]
     exact ⟨by simp at hcs;simp;omega,zBn hg _⟩
theorem ThRow.mono {w:World} {TS TS':List Nat} {v:Value} {n:Nat} (h:ThRow w TS v n) (hT:∀ x∈TS,x∈TS'):ThRow w TS' v n:=by
 rcases h with h | ⟨g,off,cap,hv,hg,r⟩
 · exact Or.inl h
 · exact Or.inr ⟨g,off,cap,hv,hT g hg,r⟩
theorem z6j {w:World} {g off n:Nat} (h:∀ j,j < n→∃ x,w.cell? ⟨g,off+j,none⟩=some (.int .i64 x)∧small x):
 ∃ l:List Int,l.length=n∧(∀ x∈l,small x)∧∀ j u,(l.map (Value.int .i64))[j]?=some u→w.cell? ⟨g,off+j,none⟩=some u:=by
 induction n with
 | zero=>exact ⟨[],rfl,by simp,by simp⟩
 | succ n ih=>
   obtain ⟨l,h1,h2,h3⟩:=ih (fun j hj=>h j (by omega))
   obtain ⟨x,hx,hxs⟩:=h n (by omega)
   refine ⟨l++[x],by simp [h1],?_,?_⟩
   · intro y hy
     rcases List.mem_append.1 hy with hy | hy
     · exact h2 y hy
     · simp at hy;subst hy;exact hxs
   · intro j u hj
     rw [List.map_append] at hj
     by_cases hjl:j < l.length
     · rw [List.getElem?_append_left (by simpa using hjl)] at hj;exact h3 j u hj
     · rw [List.getElem?_append_right (by simpa using hjl)] at hj
       simp only [List.length_map,List.map_cons,List.map_nil] at hj
       have hj0:j - l.length=0:=by
        have:=(List.getElem?_eq_some_iff.1 hj).1
        simp at this;omega
       rw [hj0] at hj
       simp at hj
       subst hj
       rw [show j=n by omega];exact hx
theorem zyP {W:World} {TS:List Nat} {v:Value} {n:Nat} (h:ThRow W TS v n) (hn:n≤1000000) (arg:Int) (ha:small arg):
 ∃ v' w' TS',(Builtin.append_ #[62,62] 62 #[v,.slice (some ⟨W.heap.size,0,none⟩) 1 1]).run Tryz.prog ((W.alloc (.cells #[.int .i64 arg] 2)).drew)=.ok v' w'∧ThRow w' TS' v' (n+1)∧TStep [] TS W w'∧(∀ x∈TS,x∈TS')∧(∀ x∈TS',x∈TS∨W.heap.size≤x):=by
 obtain ⟨i0,hi,hz0,hz1,hz2⟩:=info_parts zWG
 have hbl:Below W.heap.size W ((W.alloc (.cells #[.int .i64 arg] 2)).drew):=((Below.refl _ _).alloc (Nat.le_refl _) _).drew
 have hsz:((W.alloc (.cells #[.int .i64 arg] 2)).drew).heap.size=W.heap.size+1:=by simp
 have hnew:∀ j u,[Value.int .i64 arg][j]?=some u→((W.alloc (.cells #[.int .i64 arg] 2)).drew).cell? ((⟨W.heap.size,0,none⟩:Addr).add j)=some u:=by
  intro j u hj
  match j,hj with
  | 0,hj=>
    simp at hj
    subst hj
    show (W.alloc (.cells #[.int .i64 arg] 2)).cell? _=_
    simp [Addr.add]
 rcases h with ⟨rfl,rfl⟩ | ⟨g,off,cap,rfl,hg,hlt,hnc,hcm,hcs,hfr⟩
 · obtain ⟨v',w',hap,hown,hgr,_⟩:=run_append_own (P:=Tryz.prog) ((W.alloc (.cells #[.int .i64 arg] 2)).drew) W.heap.size 62 62 2 i0 _ 1 8 Tryz.underlying62 hi hz0 hz1 hz2 rfl (by decide) (.slice none 0 0) 0 [] (World.ownsRow_nil _ _ _ _) ⟨W.heap.size,0,none⟩ 1 1 [.int .i64 arg] rfl hnew (by intro u hu;simp at hu;subst hu;rfl) (by unfold maxLen;omega) (by omega) (by rw [hsz];omega)
   obtain ⟨g,hg,hth⟩:=z0m (l:=[arg]) (by simpa using hown) (by intro x hx;simp at hx;subst hx;exact ha) (by simp)
   have hb2:Below W.heap.size W w':=hbl.grown hgr (by rw [hsz];omega) (fun k hk=>by cases hk)
   exact ⟨v',w',g::TS,hap,hth.mono (by simp),TStep.of_kept (Kept.of_below hb2) (by simp),fun x hx=>by simp [hx],fun x hx=>by rcases List.mem_cons.1 hx with rfl | h;exact Or.inr hg;exact Or.inl h⟩
 · by_cases hroom:n+1≤cap
   · have hap:=run_append_room_cells (P:=Tryz.prog) ((W.alloc (.cells #[.int .i64 arg] 2)).drew) 62 62 2 i0 Tryz.underlying62 hi g off n cap ⟨W.heap.size,0,none⟩ 1 1 [.int .i64 arg] (by rw [hz1];rfl) hnew (by intro u hu;simp at hu;subst hu;rfl) hroom
      (fun j hj=>by
       obtain rfl:j=0:=by simp at hj;omega
       rw [hz1,Nat.mul_one,Nat.add_zero,hbl.cell (p:=⟨g,off+n,none⟩) hlt];exact (hfr n (by omega)).1)
      (fun j hj=>by
       obtain rfl:j=0:=by simp at hj;omega
       rw [hz1,Nat.mul_one,Nat.add_zero,hbl.frozen (p:=⟨g,off+n,none⟩) hlt];exact (hfr n (by omega)).2)
     rw [hz1,Nat.mul_one] at hap
     have e1:((W.alloc (.cells #[.int .i64 arg] 2)).drew).setCells g (off+n) [.int .i64 arg]=((W.alloc (.cells #[.int .i64 arg] 2)).drew).setCell ⟨g,off+n,none⟩ (.int .i64 arg):=rfl
     rw [e1] at hap
     have hthere:=(hfr n (by omega)).1
     have hcell:∀ a:Addr,a.block < W.heap.size→(((W.alloc (.cells #[.int .i64 arg] 2)).drew).setCell ⟨g,off+n,none⟩ (.int .i64 arg)).cell? a=W.cell? a∨((W.cell? a).isSome=true∧∃ x,(((W.alloc (.cells #[.int .i64 arg] 2)).drew).setCell ⟨g,off+n,none⟩ (.int .i64 arg)).cell? a=some (.int .i64 x)∧small x):=by
      intro a hal
      by_cases hae:a=⟨g,off+n,none⟩
      · subst hae
        obtain ⟨u,hu⟩:=Option.isSome_iff_exists.1 hthere
        exact Or.inr ⟨hthere,arg,World.cell?_setCell_same _ _ _ ((hbl.cell (p:=⟨g,off+n,none⟩) hlt).trans hu),ha⟩
      · exact Or.inl ((World.cell?_setCell_other _ _ _ _ (fun e=>hae e.symm)).trans (hbl.cell (p:=a) hal))
     have hfrz:∀ a:Addr,a.block < W.heap.size→(((W.alloc (.cells #[.int .i64 arg] 2)).drew).setCell ⟨g,off+n,none⟩ (.int .i64 arg)).frozen? a=W.frozen? a:=by
      intro a hal
      rw [World.frozen?_setCell];exact hbl.frozen (p:=a) hal
     have hst:TStep [] TS W (((W.alloc (.cells #[.int .i64 arg] 2)).drew).setCell ⟨g,off+n,none⟩ (.int .i64 arg)):=
      ⟨((Kept.of_below hbl).setCell (p:=⟨g,off+n,none⟩) (Or.inl (by simpa using hg)) _),fun a _ hal=>hcell a hal,fun a _ hal=>hfrz a hal⟩
     refine ⟨_,_,TS,hap,?_,hst,fun _ h=>h,fun _ h=>Or.inl h⟩
     have hlt':g < (((W.alloc (.cells #[.int .i64 arg] 2)).drew).setCell ⟨g,off+n,none⟩ (.int .i64 arg)).heap.size:=Nat.lt_of_lt_of_le hlt hst.kept.size
     refine Or.inr ⟨g,off,cap,rfl,hg,hlt',hroom,hcm,fun j hj=>?_,fun j hj=>?_⟩
     · by_cases hjn:j=n
       · subst hjn
         obtain ⟨u,hu⟩:=Option.isSome_iff_exists.1 hthere
         exact ⟨arg,World.cell?_setCell_same _ _ _ ((hbl.cell (p:=⟨g,off+j,none⟩) hlt).trans hu),ha⟩
       · rcases hcell ⟨g,off+j,none⟩ hlt with e | ⟨_,x,e,hx⟩
         · rw [e];exact hcs j (by omega)
         · exact ⟨x,e,hx⟩
     · refine ⟨?_,(hfrz ⟨g,off+j,none⟩ hlt).trans (hfr j hj).2⟩
       rcases hcell ⟨g,off+j,none⟩ hlt with e | ⟨_,x,e,hx⟩
       · rw [e];exact (hfr j hj).1
       · rw [e];rfl
   · obtain ⟨l,hl1,hl2,hl3⟩:=z6j hcs
     obtain ⟨v',w',hap,hown,hgr⟩:=run_append_arg_grows (P:=Tryz.prog) ((W.alloc (.cells #[.int .i64 arg] 2)).drew) 62 62 2 i0 _ 1 8 Tryz.underlying62 hi hz0 hz1 hz2 rfl (by decide) ⟨g,off,none⟩ n cap (l.map (Value.int .i64)) (by simp [hl1]) (fun j u hj=>by
      have e:(⟨g,off,none⟩:Addr).add j=⟨g,off+j,none⟩:=by
       by_cases h0:j=0
       · subst h0;simp [Addr.add]
       · simp [Addr.add,h0]
      rw [e,hbl.cell (p:=⟨g,off+j,none⟩) hlt];exact hl3 j u hj) ⟨W.heap.size,0,none⟩ 1 1 [.int .i64 arg] rfl hnew (by omega) (by unfold maxLen;omega) (by omega)
     obtain ⟨g',hg',hth⟩:=z0m (l:=l++[arg]) (by simpa [hl1] using hown) (by intro x hx;rcases List.mem_append.1 hx with hx | hx;exact hl2 x hx;simp at hx;subst hx;exact ha) (by simp)
     have hb2:Below W.heap.size W w':=hbl.grown hgr (by rw [hsz];omega) (fun k hk=>by cases hk)
     refine ⟨v',w',g'::TS,hap,?_,TStep.of_kept (Kept.of_below hb2) (by simp),fun x hx=>by simp [hx],fun x hx=>by rcases List.mem_cons.1 hx with rfl | h;exact Or.inr (by omega);exact Or.inl h⟩
     have:=hth.mono (TS':=g'::TS) (by simp)
     simpa [hl1] using this
end Go.Proofs.YtlkidmafomjhgaaGreatDoor.keep
