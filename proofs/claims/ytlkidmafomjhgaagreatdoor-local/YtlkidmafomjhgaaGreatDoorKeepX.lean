/- Several texts in one. -/
import Derived.Test.YtlkidmafomjhgaaGreatDoorKeepF
import Derived.Deep.RegionHeld3
set_option maxHeartbeats 4000000
set_option maxRecDepth 100000
namespace Go.Proofs.YtlkidmafomjhgaaGreatDoor.keep
open Go.RowKit

theorem TStep.set {TS:List Nat} {W w2 w5:World} {wb:Nat} (h:TStep [] TS W w2) (k:Kept [wb] w2 w5) (hne:wb∉TS):TStep [wb] TS W w5:=by
 have hn:∀ a:Addr,a.block∈TS→a.block∉[wb]:=fun a ha=>by simp only [List.mem_cons,List.not_mem_nil,or_false];rintro rfl;exact hne ha
 refine ⟨(h.kept.mono (fun x _ hx=>by simp at hx;simp [hx])).trans (k.mono (fun x _ hx=>by simp at hx;simp [hx])),fun a ha hl=>?_,fun a ha hl=>?_⟩
 · rw [k.cell (p:=a) (Nat.lt_of_lt_of_le hl h.kept.size) (hn a ha)];exact h.cells a ha hl
 · exact (k.frozen (p:=a) (Nat.lt_of_lt_of_le hl h.kept.size) (hn a ha)).trans (h.frozen a ha hl)
theorem z0h (wb o n:Nat) (TS:List Nat) (wc:Array Value) (id cl:Int) (key:List UInt8) (arg exp call ret vk vn:Int) (w:World) (h:ThAt w wb o TS wc n) (hts:∀ x∈TS,x < w.heap.size) (hn:n≤1000000):
 Calls Tryz.prog 26 #[.pointer (some ⟨wb,o,none⟩),opA id cl [114,101,108] key arg exp call ret vk vn] w fun e w'=>zaK wb o TS wc n 0 (fun k n=>k=2∧(n=0∨n=1)) w e w':=by
 unfold opA
 obtain ⟨W,oa,cap,hW,hI⟩:=zM4 id cl [114,101,108] key arg exp call ret vk vn h
 have c1:=hI.c1
 have c2:=hI.c2
 have c4:=hI.c4
 have c5:=hI.c5
 have hc:=hI.cell
 have hf:=hI.fz
 have hsz:=hI.below.size
 have hlt:=hI.lt
 have hltW:wb < W.heap.size:=by omega
 have hrb:=zBq hI.res
 have r0:W.cell? ⟨w.heap.size+1,0,none⟩=some (.int .i64 0):=by rw [zBk hI.res];rfl
 have r1:W.cell? ⟨w.heap.size+1,1,none⟩=some (.int .i64 0):=by rw [zBk hI.res];rfl
 have rf0:W.frozen? ⟨w.heap.size+1,0,none⟩=false:=zBn hI.res 0
 have rf1:W.frozen? ⟨w.heap.size+1,1,none⟩=false:=zBn hI.res 1
 go_enter Tryz.func26,Tryz.ntmps26
 go_wp2_with fail
 refine (zzT wb o oa n cap W hc).mono ?_
 rintro e w1 ⟨rfl,hw⟩
 have hw':=hw.symm
 clear hw
 subst hw'
 by_cases h1:1≤n
 · have hnd:decide (0 < n)=true:=by simp;omega
   obtain ⟨g,off,cap',hoa,hg,hgl,hnc,hcm,hcs,hfr⟩:∃ g off cap',Value.slice oa n cap=.slice (some ⟨g,off,none⟩) n cap'∧g∈TS∧g < W.heap.size∧n≤cap'∧cap'≤maxLen∧
    (∀ j,j < n→∃ x,W.cell? ⟨g,off+j,none⟩=some (.int .i64 x)∧small x)∧(∀ j,j < cap'→(W.cell? ⟨g,off+j,none⟩).isSome=true∧W.frozen? ⟨g,off+j,none⟩=false):=by
    rcases hI.row with ⟨h0,_⟩ | h
    · omega
    · exact h
   injection hoa with hoa1 hoa2 hoa3
   subst hoa1
   subst hoa3
   obtain ⟨x,hx,hxs⟩:=hcs 0 (by omega)
   rw [Nat.add_zero] at hx
   have hn0:(0:Int) < (n:Int):=by omega
   by_cases he:x=cl
   · have he':(x == cl)=true:=by simp [he]
     clear he
     go_wp2
     go_quiet (fail)
     replace hI:=hI.drewN nq
     clear c1 c2 c4 c5 hc hf hsz hltW hrb r0 r1 rf0 rf1
     generalize W.drewN nq=W at*
     have c1:=hI.c1
     have c2:=hI.c2
     have c4:=hI.c4
     have c5:=hI.c5
     have hc:=hI.cell
     have hf:=hI.fz
     have hsz:=hI.below.size
     have hltW:wb < W.heap.size:=by omega
     have hrb:=zBq hI.res
     have r0:W.cell? ⟨w.heap.size+1,0,none⟩=some (.int .i64 0):=by rw [zBk hI.res];rfl
     have r1:W.cell? ⟨w.heap.size+1,1,none⟩=some (.int .i64 0):=by rw [zBk hI.res];rfl
     have rf0:W.frozen? ⟨w.heap.size+1,0,none⟩=false:=zBn hI.res 0
     have rf1:W.frozen? ⟨w.heap.size+1,1,none⟩=false:=zBn hI.res 1
     obtain ⟨s1,s2,s3,hk2⟩:=zJl hI.at_
     obtain ⟨w2,hw2⟩:∃ w2,W.setCell ⟨wb,o,none⟩ (.slice none 0 0)=w2:=⟨_,rfl⟩
     rw [hw2] at s1 s2 s3 hk2
     have hres2:vBlk w2 (w.heap.size+1) 0 0:=(hk2.block _ hrb (by simp;omega)).trans hI.res
     have hz2:=hk2.size
     go_wp2_with fail
     refine (ze7 true _).mono ?_
     rintro e w3 ⟨rfl,hb3⟩
     have hres3:vBlk w3 (w.heap.size+1) 0 0:=hres2.below hb3
     have q0:w3.cell? ⟨w.heap.size+1,0,none⟩=some (.int .i64 0):=by rw [zBk hres3];rfl
     have q1:w3.cell? ⟨w.heap.size+1,1,none⟩=some (.int .i64 0):=by rw [zBk hres3];rfl
     have qf0:w3.frozen? ⟨w.heap.size+1,0,none⟩=false:=zBn hres3 0
     have qf1:w3.frozen? ⟨w.heap.size+1,1,none⟩=false:=zBn hres3 1
     go_wp2
     refine bodyPost_ret (v:=.agg #[.int .i64 2,.int .i64 1]) (zu9 _ _ (w.heap.size+1) 2 1 (by simp) (vBlk.set hres3 _ _)) rfl ?_
     exact zXf hlt ((hb3.block wb (zBq s1)).trans s1) (s2.step (S:=[]) (TStep.of_kept (Kept.of_below hb3) (by simp)) (fun _ h=>h)) ((TStep.pre hI.below s3).next (Kept.of_below (S:=[]) hb3) (by simp))
      (fun _ h=>h) (fun _ h=>Or.inl h) (fun hm=>by have:=hts _ hm;omega) (by omega) (by omega) _ _ ⟨rfl,Or.inr rfl⟩
   · have he':(x == cl)=false:=by simp [he]
     clear he
     go_wp2
     go_quiet (fail)
     replace hI:=hI.drewN nq
     clear c1 c2 c4 c5 hc hf hsz hltW hrb r0 r1 rf0 rf1
     generalize W.drewN nq=W at*
     have c1:=hI.c1
     have c2:=hI.c2
     have c4:=hI.c4
     have c5:=hI.c5
     have hc:=hI.cell
     have hf:=hI.fz
     have hsz:=hI.below.size
     have hltW:wb < W.heap.size:=by omega
     have hrb:=zBq hI.res
     have r0:W.cell? ⟨w.heap.size+1,0,none⟩=some (.int .i64 0):=by rw [zBk hI.res];rfl
     have r1:W.cell? ⟨w.heap.size+1,1,none⟩=some (.int .i64 0):=by rw [zBk hI.res];rfl
     have rf0:W.frozen? ⟨w.heap.size+1,0,none⟩=false:=zBn hI.res 0
     have rf1:W.frozen? ⟨w.heap.size+1,1,none⟩=false:=zBn hI.res 1
     have hres2:=hI.res
     go_wp2_with fail
     refine (ze7 false _).mono ?_
     rintro e w3 ⟨rfl,hb3⟩
     have hres3:vBlk w3 (w.heap.size+1) 0 0:=hres2.below hb3
     have q0:w3.cell? ⟨w.heap.size+1,0,none⟩=some (.int .i64 0):=by rw [zBk hres3];rfl
     have q1:w3.cell? ⟨w.heap.size+1,1,none⟩=some (.int .i64 0):=by rw [zBk hres3];rfl
     have qf0:w3.frozen? ⟨w.heap.size+1,0,none⟩=false:=zBn hres3 0
     have qf1:w3.frozen? ⟨w.heap.size+1,1,none⟩=false:=zBn hres3 1
     go_wp2
     refine bodyPost_ret (v:=.agg #[.int .i64 2,.int .i64 0]) (zu9 _ _ (w.heap.size+1) 2 0 (by simp) (vBlk.set hres3 _ _)) rfl ?_
     exact zXf (TS':=TS) hlt (by rw [zQK hI.val];exact (hb3.block wb (zBq hI.at_.blk)).trans hI.at_.blk) (hI.row.step (S:=[]) (TStep.of_kept (Kept.of_below hb3) (by simp)) (fun _ h=>h)) ((TStep.pre hI.below (TStep.of_kept (S:=[wb]) (Kept.refl [wb] W) (fun y hy=>by simp only [List.mem_cons,List.not_mem_nil,or_false];rintro rfl;exact hI.at_.ne hy))).next (Kept.of_below (S:=[]) hb3) (by simp))
      (fun _ h=>h) (fun _ h=>Or.inl h) (fun hm=>by have:=hts _ hm;omega) (by omega) (by omega) _ _ ⟨rfl,Or.inl rfl⟩
 · have hnd:decide (0 < n)=false:=by simp;omega
   go_wp2
   go_quiet (fail)
   replace hI:=hI.drewN nq
   clear c1 c2 c4 c5 hc hf hsz hltW hrb r0 r1 rf0 rf1
   generalize W.drewN nq=W at*
   have c1:=hI.c1
   have c2:=hI.c2
   have c4:=hI.c4
   have c5:=hI.c5
   have hc:=hI.cell
   have hf:=hI.fz
   have hsz:=hI.below.size
   have hltW:wb < W.heap.size:=by omega
   have hrb:=zBq hI.res
   have r0:W.cell? ⟨w.heap.size+1,0,none⟩=some (.int .i64 0):=by rw [zBk hI.res];rfl
   have r1:W.cell? ⟨w.heap.size+1,1,none⟩=some (.int .i64 0):=by rw [zBk hI.res];rfl
   have rf0:W.frozen? ⟨w.heap.size+1,0,none⟩=false:=zBn hI.res 0
   have rf1:W.frozen? ⟨w.heap.size+1,1,none⟩=false:=zBn hI.res 1
   have hres2:=hI.res
   go_wp2_with fail
   refine (ze7 false _).mono ?_
   rintro e w3 ⟨rfl,hb3⟩
   have hres3:vBlk w3 (w.heap.size+1) 0 0:=hres2.below hb3
   have q0:w3.cell? ⟨w.heap.size+1,0,none⟩=some (.int .i64 0):=by rw [zBk hres3];rfl
   have q1:w3.cell? ⟨w.heap.size+1,1,none⟩=some (.int .i64 0):=by rw [zBk hres3];rfl
   have qf0:w3.frozen? ⟨w.heap.size+1,0,none⟩=false:=zBn hres3 0
   have qf1:w3.frozen? ⟨w.heap.size+1,1,none⟩=false:=zBn hres3 1
   go_wp2
   refine bodyPost_ret (v:=.agg #[.int .i64 2,.int .i64 0]) (zu9 _ _ (w.heap.size+1) 2 0 (by simp) (vBlk.set hres3 _ _)) rfl ?_
   exact zXf (TS':=TS) hlt (by rw [zQK hI.val];exact (hb3.block wb (zBq hI.at_.blk)).trans hI.at_.blk) (hI.row.step (S:=[]) (TStep.of_kept (Kept.of_below hb3) (by simp)) (fun _ h=>h)) ((TStep.pre hI.below (TStep.of_kept (S:=[wb]) (Kept.refl [wb] W) (fun y hy=>by simp only [List.mem_cons,List.not_mem_nil,or_false];rintro rfl;exact hI.at_.ne hy))).next (Kept.of_below (S:=[]) hb3) (by simp))
    (fun _ h=>h) (fun _ h=>Or.inl h) (fun hm=>by have:=hts _ hm;omega) (by omega) (by omega) _ _ ⟨rfl,Or.inl rfl⟩
theorem zCt (wb o n:Nat) (TS:List Nat) (wc:Array Value) (id cl:Int) (key:List UInt8) (arg exp call ret vk vn:Int) (w:World) (h:ThAt w wb o TS wc n) (hts:∀ x∈TS,x < w.heap.size) (hn:n≤1000000):
 Calls Tryz.prog 26 #[.pointer (some ⟨wb,o,none⟩),opA id cl [100,101,113] key arg exp call ret vk vn] w fun e w'=>zaK wb o TS wc n 0 (fun k n=>(k=1∧small n)∨(k=0∧n=0)) w e w':=by
 unfold opA
 obtain ⟨W,oa,cap,hW,hI⟩:=zM4 id cl [100,101,113] key arg exp call ret vk vn h
 have c1:=hI.c1
 have c2:=hI.c2
 have c4:=hI.c4
 have c5:=hI.c5
 have hc:=hI.cell
 have hf:=hI.fz
 have hsz:=hI.below.size
 have hlt:=hI.lt
 have hltW:wb < W.heap.size:=by omega
 have hrb:=zBq hI.res
 have r0:W.cell? ⟨w.heap.size+1,0,none⟩=some (.int .i64 0):=by rw [zBk hI.res];rfl
 have r1:W.cell? ⟨w.heap.size+1,1,none⟩=some (.int .i64 0):=by rw [zBk hI.res];rfl
 have rf0:W.frozen? ⟨w.heap.size+1,0,none⟩=false:=zBn hI.res 0
 have rf1:W.frozen? ⟨w.heap.size+1,1,none⟩=false:=zBn hI.res 1
 go_enter Tryz.func26,Tryz.ntmps26
 go_wp2_with fail
 refine (zzT wb o oa n cap W hc).mono ?_
 rintro e w1 ⟨rfl,hw⟩
 have hw':=hw.symm
 clear hw
 subst hw'
 by_cases h1:1≤n
 · skip
   obtain ⟨g,off,cap',hoa,hg,hgl,hnc,hcm,hcs,hfr⟩:∃ g off cap',Value.slice oa n cap=.slice (some ⟨g,off,none⟩) n cap'∧g∈TS∧g < W.heap.size∧n≤cap'∧cap'≤maxLen∧
    (∀ j,j < n→∃ x,W.cell? ⟨g,off+j,none⟩=some (.int .i64 x)∧small x)∧(∀ j,j < cap'→(W.cell? ⟨g,off+j,none⟩).isSome=true∧W.frozen? ⟨g,off+j,none⟩=false):=by
    rcases hI.row with ⟨h0,_⟩ | h
    · omega
    · exact h
   injection hoa with hoa1 hoa2 hoa3
   subst hoa1
   subst hoa3
   obtain ⟨x,hx,hxs⟩:=hcs 0 (by omega)
   rw [Nat.add_zero] at hx
   have hn0:(0:Int) < (n:Int):=by omega
   have hnd:decide (0 < n)=true:=by simp;omega
   have hn1:(1:Int)≤(n:Int):=by omega
   have hc1:(1:Int)≤(cap:Int):=by omega
   by_cases hcap:cap=1
   · have hnz:n - 1=0:=by omega
     subst hcap
     obtain ⟨w2,hw2⟩:∃ w2,W.setCell ⟨wb,o,none⟩ (Value.slice (some ⟨g,off,none⟩) 0 0)=w2:=⟨_,rfl⟩
     have hk2:Kept [wb] W w2:=by rw [←hw2];exact (Kept.refl [wb] W).setCell (p:=⟨wb,o,none⟩) (Or.inl (by simp)) _
     have s1:w2.heap[wb]?=some (.cells (wc.setIfInBounds o (Value.slice (some ⟨g,off,none⟩) 0 0)) 67 (0,0)):=by rw [←hw2,zFg hI.at_.blk]
     have s3:TStep [wb] TS W w2:=TStep.of_kept hk2 (fun y hy=>by simp only [List.mem_cons,List.not_mem_nil,or_false];rintro rfl;exact hI.at_.ne hy)
     have s0:ThRow W TS (Value.slice (some ⟨g,off,none⟩) 0 0) 0:=Or.inr ⟨g,off,0,rfl,hg,hgl,by omega,by omega,fun j hj=>by omega,fun j hj=>by omega⟩
     have s2:=s0.step s3 (fun _ h=>h)
     have hres2:vBlk w2 (w.heap.size+1) 0 0:=(hk2.block _ hrb (by simp;omega)).trans hI.res
     go_wp2_with fail
     refine (zyj x _).mono ?_
     rintro e w3 ⟨rfl,hb3⟩
     have hres3:vBlk w3 (w.heap.size+1) 0 0:=hres2.below hb3
     have q0:w3.cell? ⟨w.heap.size+1,0,none⟩=some (.int .i64 0):=by rw [zBk hres3];rfl
     have q1:w3.cell? ⟨w.heap.size+1,1,none⟩=some (.int .i64 0):=by rw [zBk hres3];rfl
     have qf0:w3.frozen? ⟨w.heap.size+1,0,none⟩=false:=zBn hres3 0
     have qf1:w3.frozen? ⟨w.heap.size+1,1,none⟩=false:=zBn hres3 1
     go_wp2
     refine bodyPost_ret (v:=.agg #[.int .i64 1,.int .i64 x]) (zu9 _ _ (w.heap.size+1) 1 x (by simp) (vBlk.set hres3 _ _)) rfl ?_
     exact zXf hlt ((hb3.block wb (zBq s1)).trans s1) (s2.step (S:=[]) (TStep.of_kept (Kept.of_below hb3) (by simp)) (fun _ h=>h)) ((TStep.pre hI.below s3).next (Kept.of_below (S:=[]) hb3) (by simp))
      (fun _ h=>h) (fun _ h=>Or.inl h) (fun hm=>by have:=hts _ hm;omega) (by omega) (by omega) _ _ (Or.inl ⟨rfl,hxs⟩)
   · skip
     obtain ⟨w2,hw2⟩:∃ w2,W.setCell ⟨wb,o,none⟩ (Value.slice (some ⟨g,off+1,none⟩) (n - 1) (cap - 1))=w2:=⟨_,rfl⟩
     have hk2:Kept [wb] W w2:=by rw [←hw2];exact (Kept.refl [wb] W).setCell (p:=⟨wb,o,none⟩) (Or.inl (by simp)) _
     have s1:w2.heap[wb]?=some (.cells (wc.setIfInBounds o (Value.slice (some ⟨g,off+1,none⟩) (n - 1) (cap - 1))) 67 (0,0)):=by rw [←hw2,zFg hI.at_.blk]
     have s3:TStep [wb] TS W w2:=TStep.of_kept hk2 (fun y hy=>by simp only [List.mem_cons,List.not_mem_nil,or_false];rintro rfl;exact hI.at_.ne hy)
     have s0:ThRow W TS (Value.slice (some ⟨g,off+1,none⟩) (n - 1) (cap - 1)) (n - 1):=Or.inr ⟨g,off+1,cap - 1,rfl,hg,hgl,by omega,by omega,fun j hj=>by rw [show off+1+j=off+(j+1) by omega];exact hcs (j+1) (by omega),fun j hj=>by rw [show off+1+j=off+(j+1) by omega];exact hfr (j+1) (by omega)⟩
     have s2:=s0.step s3 (fun _ h=>h)
     have hres2:vBlk w2 (w.heap.size+1) 0 0:=(hk2.block _ hrb (by simp;omega)).trans hI.res
     go_wp2_with fail
     refine (zyj x _).mono ?_
     rintro e w3 ⟨rfl,hb3⟩
     have hres3:vBlk w3 (w.heap.size+1) 0 0:=hres2.below hb3
     have q0:w3.cell? ⟨w.heap.size+1,0,none⟩=some (.int .i64 0):=by rw [zBk hres3];rfl
     have q1:w3.cell? ⟨w.heap.size+1,1,none⟩=some (.int .i64 0):=by rw [zBk hres3];rfl
     have qf0:w3.frozen? ⟨w.heap.size+1,0,none⟩=false:=zBn hres3 0
     have qf1:w3.frozen? ⟨w.heap.size+1,1,none⟩=false:=zBn hres3 1
     go_wp2
     refine bodyPost_ret (v:=.agg #[.int .i64 1,.int .i64 x]) (zu9 _ _ (w.heap.size+1) 1 x (by simp) (vBlk.set hres3 _ _)) rfl ?_
     exact zXf hlt ((hb3.block wb (zBq s1)).trans s1) (s2.step (S:=[]) (TStep.of_kept (Kept.of_below hb3) (by simp)) (fun _ h=>h)) ((TStep.pre hI.below s3).next (Kept.of_below (S:=[]) hb3) (by simp))
      (fun _ h=>h) (fun _ h=>Or.inl h) (fun hm=>by have:=hts _ hm;omega) (by omega) (by omega) _ _ (Or.inl ⟨rfl,hxs⟩)
 · have hnd:decide (0 < n)=false:=by simp;omega
   have hres2:=hI.res
   go_wp2_with fail
   refine (zDv _).mono ?_
   rintro e w3 ⟨rfl,hb3⟩
   have hres3:vBlk w3 (w.heap.size+1) 0 0:=hres2.below hb3
   have q0:w3.cell? ⟨w.heap.size+1,0,none⟩=some (.int .i64 0):=by rw [zBk hres3];rfl
   have q1:w3.cell? ⟨w.heap.size+1,1,none⟩=some (.int .i64 0):=by rw [zBk hres3];rfl
   have qf0:w3.frozen? ⟨w.heap.size+1,0,none⟩=false:=zBn hres3 0
   have qf1:w3.frozen? ⟨w.heap.size+1,1,none⟩=false:=zBn hres3 1
   go_wp2
   refine bodyPost_ret (v:=.agg #[.int .i64 0,.int .i64 0]) (zu9 _ _ (w.heap.size+1) 0 0 (by simp) (vBlk.set hres3 _ _)) rfl ?_
   exact zXf (TS':=TS) hlt (by rw [zQK hI.val];exact (hb3.block wb (zBq hI.at_.blk)).trans hI.at_.blk) (hI.row.step (S:=[]) (TStep.of_kept (Kept.of_below hb3) (by simp)) (fun _ h=>h)) ((TStep.pre hI.below (TStep.of_kept (S:=[wb]) (Kept.refl [wb] W) (fun y hy=>by simp only [List.mem_cons,List.not_mem_nil,or_false];rintro rfl;exact hI.at_.ne hy))).next (Kept.of_below (S:=[]) hb3) (by simp))
    (fun _ h=>h) (fun _ h=>Or.inl h) (fun hm=>by have:=hts _ hm;omega) (by omega) (by omega) _ _ (Or.inr ⟨rfl,rfl⟩)
theorem zdn (wb o n:Nat) (TS:List Nat) (wc:Array Value) (id cl:Int) (key:List UInt8) (arg exp call ret vk vn:Int) (w:World) (h:ThAt w wb o TS wc n) (hts:∀ x∈TS,x < w.heap.size) (hn:n≤1000000) (ha:small arg):
 Calls Tryz.prog 26 #[.pointer (some ⟨wb,o,none⟩),opA id cl [101,110,113] key arg exp call ret vk vn] w fun e w'=>zaK wb o TS wc n 0 (fun k n=>k=0∧n=0) w e w':=by
 unfold opA
 obtain ⟨W,oa,cap,hW,hI⟩:=zM4 id cl [101,110,113] key arg exp call ret vk vn h
 have c1:=hI.c1
 have c2:=hI.c2
 have c4:=hI.c4
 have c5:=hI.c5
 have hc:=hI.cell
 have hf:=hI.fz
 have hsz:=hI.below.size
 have hlt:=hI.lt
 have hltW:wb < W.heap.size:=by omega
 have hrb:=zBq hI.res
 have r0:W.cell? ⟨w.heap.size+1,0,none⟩=some (.int .i64 0):=by rw [zBk hI.res];rfl
 have r1:W.cell? ⟨w.heap.size+1,1,none⟩=some (.int .i64 0):=by rw [zBk hI.res];rfl
 have rf0:W.frozen? ⟨w.heap.size+1,0,none⟩=false:=zBn hI.res 0
 have rf1:W.frozen? ⟨w.heap.size+1,1,none⟩=false:=zBn hI.res 1
 go_enter Tryz.func26,Tryz.ntmps26
 go_wp2_with fail
 refine (zzT wb o oa n cap W hc).mono ?_
 rintro e w1 ⟨rfl,hw⟩
 have hw':=hw.symm
 clear hw
 subst hw'
 rename Array Value=>wca
 obtain ⟨v',w2,TS',hap,hth,hst,hT1,hT2⟩:=zyP hI.row hn arg ha
 have hk2:=hst.kept
 have hwbT:wb∉([]:List Nat)++TS:=by simpa using hI.at_.ne
 have s0:w2.heap[wb]?=some (.cells wca 67 (0,0)):=(hk2.block wb hltW hwbT).trans hI.at_.blk
 have t1:w2.cell? ⟨wb,o,none⟩=some (.slice oa n cap):=by rw [zBk s0];exact hI.val
 have t2:w2.frozen? ⟨wb,o,none⟩=false:=zBn s0 _
 have hne1:wb≠W.heap.size:=by omega
 have hne2:w.heap.size≠W.heap.size:=by omega
 obtain ⟨va,vcap,rfl⟩:=hth.slice
 go_wp2
 go_cut [4] (fun a wx=>a=.pointer (some ⟨w.heap.size+1,0,none⟩)∧wx=w2.setCell ⟨wb,o,none⟩ (.slice va (n+1) vcap))
 case first=>
  go_region_law (refine zti rfl _ _ 62 rfl _ _ _ _ rfl rfl hap ?_)
  all_goals
   go_wp2_with fail
   go_meet
   exact ⟨rfl,rfl⟩
 case rest=>
  obtain ⟨rfl,hwx⟩:=hcut
  have hk5:Kept [wb] w2 wc:=by rw [hwx];exact (Kept.refl [wb] w2).setCell (p:=⟨wb,o,none⟩) (Or.inl (by simp)) _
  have s1:wc.heap[wb]?=some (.cells (wca.setIfInBounds o (.slice va (n+1) vcap)) 67 (0,0)):=by rw [hwx,zFg s0]
  have hne5:wb∉TS':=fun hm=>by rcases hT2 wb hm with h | h;exact hI.at_.ne h;omega
  have s2:ThRow wc TS' (.slice va (n+1) vcap) (n+1):=hth.step (S:=[wb]) (TStep.of_kept hk5 (fun y hy=>by simp only [List.mem_cons,List.not_mem_nil,or_false];rintro rfl;exact hne5 hy)) (fun _ h=>h)
  have s3:TStep [wb] TS W wc:=hst.set hk5 hI.at_.ne
  have hres2:vBlk wc (w.heap.size+1) 0 0:=(hk5.block _ (Nat.lt_of_lt_of_le hrb hk2.size) (by simp;omega)).trans ((hk2.block _ hrb (fun hm=>by have:=hts _ (by simpa using hm);omega)).trans hI.res)
  clear hwx hap t1 t2 c1 c2 c4 c5 hc hf r0 r1 rf0 rf1 s0 hk2 hk5
  generalize wc=w2 at*
  go_wp2_with fail
  refine (zDv _).mono ?_
  rintro e w3 ⟨rfl,hb3⟩
  have hres3:vBlk w3 (w.heap.size+1) 0 0:=hres2.below hb3
  have q0:w3.cell? ⟨w.heap.size+1,0,none⟩=some (.int .i64 0):=by rw [zBk hres3];rfl
  have q1:w3.cell? ⟨w.heap.size+1,1,none⟩=some (.int .i64 0):=by rw [zBk hres3];rfl
  have qf0:w3.frozen? ⟨w.heap.size+1,0,none⟩=false:=zBn hres3 0
  have qf1:w3.frozen? ⟨w.heap.size+1,1,none⟩=false:=zBn hres3 1
  go_wp2
  refine bodyPost_ret (v:=.agg #[.int .i64 0,.int .i64 0]) (zu9 _ _ (w.heap.size+1) 0 0 (by simp) (vBlk.set hres3 _ _)) rfl ?_
  exact zXf hlt ((hb3.block wb (zBq s1)).trans s1) (s2.step (S:=[]) (TStep.of_kept (Kept.of_below hb3) (by simp)) (fun _ h=>h)) ((TStep.pre hI.below s3).next (Kept.of_below (S:=[]) hb3) (by simp))
   hT1 (fun x hx=>(hT2 x hx).imp (fun h=>h) (fun h=>by omega)) (fun hm=>by rcases hT2 _ hm with h | h;have:=hts _ h;omega;omega) (by omega) (by omega) _ _ ⟨rfl,rfl⟩

def zf6 (k n:Int):Prop:=k=0∧n=0
def zio (k n:Int):Prop:=k=1∧small n
def zKe (k n:Int):Prop:=k=2∧(n=0∨n=1)
def zxk (i k:Nat) (kk nn:Int):Prop:=match i,k with
 | 0,0=>zio kk nn | 0,1=>zf6 kk nn | 0,_=>zKe kk nn
 | 1,0=>zio kk nn∨zf6 kk nn | 1,1=>zf6 kk nn | 1,_=>zKe kk nn
 | 2,0=>zf6 kk nn | 2,_=>zio kk nn∨zf6 kk nn
 | _,_=>zKe kk nn
def loN (i:Nat):Nat:=if i=0 then 1 else 0
theorem zA0 (i k:Nat) (hi:i < 5) (hk:k < opN i) (wb o n:Nat) (TS:List Nat) (wc:Array Value) (id cl:Int) (key:List UInt8) (arg exp call ret vk vn:Int) (w:World) (h:ThAt w wb o TS wc n) (hts:∀ x∈TS,x < w.heap.size) (hn:n≤1000000) (hreg:loN i≤n) (ha:small arg) (hcl:small cl):
 Calls Tryz.prog 26 #[.pointer (some ⟨wb,o,none⟩),opA id cl (opS i k) key arg exp call ret vk vn] w fun e w'=>zaK wb o TS wc n (loN i) (zxk i k) w e w':=by
 match i,k,hi,hk with
 | 0,0,_,_=>exact zi2 wb o n TS wc id cl key arg exp call ret vk vn w h hts hn hreg
 | 0,1,_,_=>exact zVo wb o n TS wc id cl key arg exp call ret vk vn w h hts hn ha
 | 0,2,_,_=>exact zlt wb o n TS wc id cl key arg exp call ret vk vn w h hts hn hreg ha
 | 1,0,_,_=>exact zUG wb o n TS wc id cl key arg exp call ret vk vn w h hts hn
 | 1,1,_,_=>exact zh3 wb o n TS wc id cl key arg exp call ret vk vn w h hts hn ha
 | 1,2,_,_=>exact zp5 wb o n TS wc id cl key arg exp call ret vk vn w h hts hn
 | 2,0,_,_=>exact zdn wb o n TS wc id cl key arg exp call ret vk vn w h hts hn ha
 | 2,1,_,_=>exact zCt wb o n TS wc id cl key arg exp call ret vk vn w h hts hn
 | 3,0,_,_=>exact zFc wb o n TS wc id cl key arg exp call ret vk vn w h hts hn
 | 3,1,_,_=>exact zTg wb o n TS wc id cl key arg exp call ret vk vn w h hts hn
 | 3,2,_,_=>exact zPf wb o n TS wc id cl key arg exp call ret vk vn w h hts hn
 | 4,0,_,_=>exact zIt wb o n TS wc id cl key arg exp call ret vk vn w h hts hn hcl
 | 4,1,_,_=>exact z0h wb o n TS wc id cl key arg exp call ret vk vn w h hts hn

def zPy (i:Nat) (w:World) (e:Ending) (w':World):Prop:=∃ (v0:Value) (n0:Nat) (TS:List Nat),e=.returned (.pointer (some ⟨w.heap.size,0,none⟩))∧loN i≤n0∧n0≤1∧ThRow w' TS v0 n0∧(∀ x∈TS,w.heap.size < x∧x < w'.heap.size)∧
 w'.heap[w.heap.size]?=some (.cells #[.string ⟨(modS i).toArray⟩,v0,.slice none 0 0,.slice none 0 0] 67 (0,0))∧Below w.heap.size w w'
theorem zSz (i:Nat) (hi:i < 5) (w:World):
 Calls Tryz.prog 23 #[.string ⟨(modS i).toArray⟩] w fun e w'=>zPy i w e w':=by
 have hnz:∀ j,j≠0→j < 5→loN j=0:=fun j h _=>if_neg h
 obtain rfl | rfl | rfl | rfl | rfl:i=0∨i=1∨i=2∨i=3∨i=4:=by omega
 · unfold modS sReg
   have hb:=ziF w (.cells #[.string ⟨#[114,101,103,105,115,116,101,114]⟩,.slice none 0 0,.slice none 0 0,.slice none 0 0] 67) w.heap.size rfl
   have hbl:Below w.heap.size w (w.alloc (.cells #[.string ⟨#[114,101,103,105,115,116,101,114]⟩,.slice none 0 0,.slice none 0 0,.slice none 0 0] 67)):=(Below.refl _ _).alloc (Nat.le_refl _) _
   go_enter Tryz.func23,Tryz.ntmps23
   go_wp2_with fail
   refine (zR0 w.heap.size 1 (.slice none 0 0) 0 _ (by rw [zBk hb];rfl) (zBn hb 1) (by simp)).mono ?_
   rintro e w2 ⟨⟨vv,rfl⟩,hw2⟩
   obtain ⟨s1,s2,s3⟩:=zhI (w:=w.alloc (.cells #[.string ⟨#[114,101,103,105,115,116,101,114]⟩,.slice none 0 0,.slice none 0 0,.slice none 0 0] 67)) (wb:=w.heap.size) (o:=1) (n:=0) (TS:=[]) ⟨hb,⟨_,rfl,Or.inl ⟨rfl,rfl⟩⟩,by simp⟩ 0 ⟨by omega,by omega⟩
   rw [←hw2] at s1 s2 s3
   have hk2:=s3.kept
   have hb2:Below w.heap.size w w2:=hbl.trans (hk2.below (by simp) (by simp))
   have hz:(w.alloc (.cells #[.string ⟨#[114,101,103,105,115,116,101,114]⟩,.slice none 0 0,.slice none 0 0,.slice none 0 0] 67)).heap.size=w.heap.size+1:=by simp
   have hz2:w2.heap.size=w.heap.size+2:=by rw [hw2];simp
   rw [hz] at s1 s2
   clear hw2 hbl hb s3 hk2
   go_wp2
   go_ret
   exact ⟨_,1,_,rfl,Nat.le_refl _,Nat.le_refl _,s2,fun x hx=>by simp at hx;omega,s1,hb2⟩
 all_goals
  unfold modS
  first | unfold sKv | unfold zsK | unfold sSet | unfold zyy
  go_enter Tryz.func23,Tryz.ntmps23
  go_wp2
  go_ret
  exact ⟨.slice none 0 0,0,[],rfl,Nat.le_refl _,by omega,Or.inl ⟨rfl,rfl⟩,by simp,ziF _ _ _ rfl,(Below.refl _ _).alloc (Nat.le_refl _) _⟩

def zhe (l:List (List UInt8)):List UInt8:=l.flatMap (fun x=>x++[10])
theorem text_any (oa:Option Addr) (cap:Nat) (ls:List (List UInt8)) (w:World) (hr:ls≠[]→∃ g,oa=some ⟨g,0,none⟩∧SRow w g ls) (hl:ls.length≤1000) (hll:∀ l∈ls,l.length≤1000000):
 Calls Tryz.prog 12 #[.slice oa ls.length cap] w fun e w'=>e=.returned (.string ⟨(zhe ls).toArray⟩)∧Below w.heap.size w w':=by
 go_enter Tryz.func12,Tryz.ntmps12
 go_wp2
 go_loopw [3,4] (fun s i wr=>∃ (j:Nat),s=.string ⟨(zhe (ls.take j)).toArray⟩∧i=.int .i64 (j:Int)∧j≤ls.length∧(zhe (ls.take j)).length≤1000001*j∧Below w.heap.size w wr) (fun _ i _=>ls.length - (intOf i).toNat)
 case atStart=>exact ⟨0,rfl,rfl,by omega,by simp [zhe],Below.refl _ _⟩
 case round=>
  obtain ⟨j,rfl,rfl,hj,htl,hbl⟩:=hrel
  by_cases hin:j < ls.length
  · have hin':(j:Int) < (ls.length:Int):=by omega
    obtain ⟨g,rfl,hg⟩:=hr (by intro h;rw [h] at hin;simp at hin)
    have hc:=(hbl.cell (p:=⟨g,j,none⟩) hg.1).trans (hg.2 j ls[j] (List.getElem?_eq_getElem hin))
    have hxl:=hll _ (List.getElem_mem hin)
    have hE:Hid (zhe (ls.take (j+1))=zhe (ls.take j)++ls[j]++[10]):=by
     show _=_
     rw [List.take_succ_eq_append_getElem hin]
     unfold zhe
     rw [List.flatMap_append]
     simp only [List.flatMap_cons,List.flatMap_nil,List.append_nil,List.append_assoc]
    generalize ls[j]=x at*
    generalize hT:zhe (ls.take j)=T at*
    go_wp2
    go_roundw
    case rel=>exact ⟨j+1,by rw [hE.out,←zAs,←zAs],by go_num,by omega,by rw [hE.out];simp;omega,hbl⟩
    case measure=>simp [intOf];omega
  · obtain rfl:j=ls.length:=by omega
    have hin':¬ (ls.length:Int) < (ls.length:Int):=by omega
    rw [List.take_length]
    go_wp2
    go_ret
    exact ⟨rfl,hbl⟩

def mRet (id:Int):List UInt8:=[34,114,101,116,34,58]++sgnP id
def mVal (k n:Int):List UInt8:=[34,118,97,108,34,58]++zTS k n
def zZ7 (id vk vn:Int) (d:List Int):List UInt8×List Int:=zZ9 [mRet id,mVal vk vn] d
theorem zfoB (k n:Int) (h:zVP k n):(zTS k n).length≤7:=by
 unfold zTS
 rcases h with ⟨rfl,rfl⟩ | ⟨rfl,h1,h2⟩ | ⟨rfl,rfl | rfl⟩
 · decide
 · rw [if_pos rfl];exact zkB n h1 h2
 · decide
 · decide
theorem zZm (W:World) (l:List ByteArray) (ms:List (List UInt8)) (h:l=ms.map fun m=>⟨m.toArray⟩):SRow (W.alloc (.cells (l.map Value.string).toArray 9)) W.heap.size ms:=by
 subst h
 have hb:=ziF W (.cells ((ms.map fun m=>(⟨m.toArray⟩:ByteArray)).map Value.string).toArray 9) W.heap.size rfl
 refine ⟨zBq hb,fun j x hj=>?_⟩
 rw [zBk hb]
 simp [hj]
theorem z2S (b:Nat) (sv:Value) (code d:List Int) (m1 m2:List UInt8) (x y:ByteArray) (W:World) (hd:Dice W b sv code d) (hx:x=⟨m1.toArray⟩) (hy:y=⟨m2.toArray⟩) (h1:m1.length≤1000) (h2:m2.length≤1000):
 Calls Tryz.prog 33 #[.pointer (some ⟨b,0,none⟩),.slice (some ⟨W.heap.size,0,none⟩) 2 2] (W.alloc (.cells #[.string x,.string y] 9)) fun e w'=>
  e=.returned (.string ⟨(zZ9 [m1,m2] d).1.toArray⟩)∧Dice w' b sv code (zZ9 [m1,m2] d).2∧Kept [b] W w':=by
 have hlt:=hd.lt
 have hbl:Below W.heap.size W (W.alloc (.cells #[.string x,.string y] 9)):=(Below.refl _ _).alloc (Nat.le_refl _) _
 refine (zkk b W.heap.size 2 sv code d [m1,m2] (W.alloc (.cells #[.string x,.string y] 9)) (hd.below hbl) (zZm W [x,y] [m1,m2] (by simp [hx,hy])) (by omega) (by simp) (by simp) (by intro m hm;simp at hm;rcases hm with rfl | rfl <;> assumption)).mono ?_
 rintro e w' ⟨rfl,hd',hk⟩
 exact ⟨rfl,hd',(Kept.of_below hbl).trans hk⟩
theorem zRZ (b:Nat) (sv:Value) (code d:List Int) (id cl:Int) (name key:List UInt8) (arg exp call ret vk vn:Int) (w:World) (hd:Dice w b sv code d) (hi0: -1000000 < id) (hi1:id < 1000000) (hv:zVP vk vn):
 Calls Tryz.prog 21 #[.pointer (some ⟨b,0,none⟩),opA id cl name key arg exp call ret vk vn] w fun e w'=>
  e=.returned (.string ⟨(zZ7 id vk vn d).1.toArray⟩)∧Dice w' b sv code (zZ7 id vk vn d).2∧Kept [b] w w':=by
 unfold opA
 obtain ⟨W,hW,hb,hO⟩:∃ W,w.alloc (.cells #[.int .i64 id,.int .i64 cl,.string ⟨name.toArray⟩,.string ⟨key.toArray⟩,.int .i64 arg,.int .i64 exp,.int .i64 call,.int .i64 ret,.int .i64 vk,.int .i64 vn] 48)=W∧Below w.heap.size w W∧W.heap[w.heap.size]?=some (.cells #[.int .i64 id,.int .i64 cl,.string ⟨name.toArray⟩,.string ⟨key.toArray⟩,.int .i64 arg,.int .i64 exp,.int .i64 call,.int .i64 ret,.int .i64 vk,.int .i64 vn] 48 (0,0)):=
  ⟨_,rfl,(Below.refl _ _).alloc (Nat.le_refl _) _,ziF _ _ _ rfl⟩
 have hd1:=hd.below hb
 have c0:W.cell? ⟨w.heap.size,0,none⟩=some (.int .i64 id):=by rw [zBk hO];rfl
 have c8:W.cell? ⟨w.heap.size,8,none⟩=some (.int .i64 vk):=by rw [zBk hO];rfl
 have c9:W.cell? ⟨w.heap.size,9,none⟩=some (.int .i64 vn):=by rw [zBk hO];rfl
 have hltW:=zBq hO
 have hltb:=hd.lt
 have hnb:w.heap.size∉[b]:=by simp;omega
 have hs1:=zkB id hi0 hi1
 have hs2:=zfoB vk vn hv
 have hm1:(mRet id).length≤1000:=by simp [mRet];omega
 have hz1:(9223372036854775807 < 6+(sgnP id).length)=False:=by simp;omega
 have hz2:(9223372036854775807 < 6+(zTS vk vn).length)=False:=by simp;omega
 have hm2:(mVal vk vn).length≤1000:=by simp [mVal];omega
 go_enter Tryz.func21,Tryz.ntmps21
 go_wp2_with fail
 go_region_held3 (fun w'=>w'.cell? ⟨w.heap.size,0,none⟩=some (.int .i64 id)∧w'.cell? ⟨w.heap.size,8,none⟩=some (.int .i64 vk)∧w'.cell? ⟨w.heap.size,9,none⟩=some (.int .i64 vn)) (go_keep) (first
  | (go_at_call 22;refine (zT1 id _ hi0 hi1).mono ?_;rintro e w2 ⟨rfl,hb2⟩;have d0:=(hb2.cell (p:=⟨w.heap.size,0,none⟩) hltW).trans c0;have d8:=(hb2.cell (p:=⟨w.heap.size,8,none⟩) hltW).trans c8;have d9:=(hb2.cell (p:=⟨w.heap.size,9,none⟩) hltW).trans c9;have hlt2:=Nat.lt_of_lt_of_le hltW hb2.size;have hd2:=(hd1.drewN 1).below hb2)
  | (go_at_call 34;refine (zMxv vk vn _ hv).mono ?_;rintro e w3 ⟨rfl,hb3⟩;have e0:=(hb3.cell (p:=⟨w.heap.size,0,none⟩) hlt2).trans d0;have e8:=(hb3.cell (p:=⟨w.heap.size,8,none⟩) hlt2).trans d8;have e9:=(hb3.cell (p:=⟨w.heap.size,9,none⟩) hlt2).trans d9;have hlt3:=Nat.lt_of_lt_of_le hlt2 hb3.size;have hd3:=hd2.below hb3)
  | (go_at_call 33;refine (z2S b sv code d (mRet id) (mVal vk vn) _ _ w3 hd3 (zAs _ _) (zAs _ _) hm1 hm2).mono ?_;rintro e w4 ⟨rfl,hd4,hk4⟩;have f0:=(hk4.cell (p:=⟨w.heap.size,0,none⟩) hlt3 hnb).trans e0;have f8:=(hk4.cell (p:=⟨w.heap.size,8,none⟩) hlt3 hnb).trans e8;have f9:=(hk4.cell (p:=⟨w.heap.size,9,none⟩) hlt3 hnb).trans e9))
 all_goals
  go_wp2
  go_ret
  exact ⟨rfl,hd4,(Kept.of_below (S:=[b]) (((hb.drew).trans (hb2.mono (by simpa using hb.size))).trans (hb3.mono (Nat.le_trans hb.size hb2.size)))).trans (hk4.mono (by simp))⟩

def mCall (b0:List UInt8) (id:Int):List UInt8:=[34,99,97,108,108,34]++b0++[58]++b0++sgnP id
def mBy (cl:Int):List UInt8:=[34,98,121,34,58]++sgnP cl
def mOp (name:List UInt8):List UInt8:=[34,111,112,34,58,34]++name++[34]
def mKey (s:List UInt8):List UInt8:=[34,107,101,121,34,58,34]++s++[34]
def mExp (n:Int):List UInt8:=[34,101,120,112,34,58]++sgnP n
def mArg (n:Int):List UInt8:=[34,97,114,103,34,58]++sgnP n
def zdF (kd:Bool) (id cl:Int) (name:List UInt8) (arg exp:Int) (k:Nat) (d:List Int):List UInt8×List Int:=
 let d1:=(blankP d).2
 let l:=[mCall (blankP d).1 id,mBy cl,mOp name]++(if kd then [mKey (zPM k d1).1] else [])++(if name=[99,97,115] then [mExp exp,mArg arg] else if name=[119,114,105,116,101]∨name=[112,117,116]∨name=[101,110,113] then [mArg arg] else [])
 zZ9 l (if kd then (zPM k d1).2 else d1)
theorem z6i (w:World) (base:Nat) (l:List (List UInt8)) (hb:base≤w.heap.size) (hl:l.length≤1000) (v:Value) (hv:v=.slice (some ⟨w.heap.size,0,none⟩) l.length l.length):(w.alloc (.cells (strCells l).toArray 9)).ownsRow base 9 1 v l.length (strCells l):=by
 subst hv
 refine ⟨by simp [strCells],.inr ⟨w.heap.size,l.length,(strCells l).toArray,rfl,hb,ziF _ _ _ rfl,Nat.le_refl _,by unfold maxLen;omega,by simp [strCells],?_⟩⟩
 show ((strCells l).toArray.toList).take (l.length*1)=strCells l
 rw [List.take_of_length_le (by simp [strCells])]
theorem z3D (k p:Nat):(spS k p).length≤18:=by
 unfold spS;split <;> simp

theorem zLA (b:Nat) (sv:Value) (code d:List Int) (i:Nat) (hi:i < 5) (id cl:Int) (name key:List UInt8) (arg exp call ret vk vn:Int) (k:Nat) (hk:k < 3) (w:World) (hd:Dice w b sv code d) (hi0: -1000000 < id) (hi1:id < 1000000) (hcl:small cl) (ha:small arg) (he:small exp) (hnl:name.length≤5):
 Calls Tryz.prog 30 #[.pointer (some ⟨b,0,none⟩),opA id cl name key arg exp call ret vk vn,.int .i64 (k:Int),.string ⟨(modS i).toArray⟩] w fun e w'=>
  e=.returned (.string ⟨(zdF (zSt i) id cl name arg exp k d).1.toArray⟩)∧Dice w' b sv code (zdF (zSt i) id cl name arg exp k d).2∧Kept [b] w w':=by
 obtain ⟨R,HR,hRe⟩:∃ R,Hid (R=zZ9 ([mCall (blankP d).1 id,mBy cl,mOp name]++(if zSt i=true then [mKey (zPM k (blankP d).2).1] else [])++(if name=[99,97,115] then [mExp exp,mArg arg] else if name=[119,114,105,116,101]∨name=[112,117,116]∨name=[101,110,113] then [mArg arg] else [])) (if zSt i=true then (zPM k (blankP d).2).2 else (blankP d).2))∧zdF (zSt i) id cl name arg exp k d=R:=⟨_,rfl,rfl⟩
 rw [hRe]
 clear hRe
 unfold opA
 obtain ⟨W,hW,hb,hO⟩:∃ W,w.alloc (.cells #[.int .i64 id,.int .i64 cl,.string ⟨name.toArray⟩,.string ⟨key.toArray⟩,.int .i64 arg,.int .i64 exp,.int .i64 call,.int .i64 ret,.int .i64 vk,.int .i64 vn] 48)=W∧Below w.heap.size w W∧W.heap[w.heap.size]?=some (.cells #[.int .i64 id,.int .i64 cl,.string ⟨name.toArray⟩,.string ⟨key.toArray⟩,.int .i64 arg,.int .i64 exp,.int .i64 call,.int .i64 ret,.int .i64 vk,.int .i64 vn] 48 (0,0)):=
  ⟨_,rfl,(Below.refl _ _).alloc (Nat.le_refl _) _,ziF _ _ _ rfl⟩
 have hd1:=hd.below hb
 have hltb:=hd.lt
 have hzW:=hb.size
 have hnb:w.heap.size∉[b]:=by simp;omega
 have hbk:=zf5 b sv code d W hd1
 have hbl0:=za4 d
 generalize (blankP d).1=b0 at*
 generalize (blankP d).2=d1 at*
 go_enter Tryz.func30,Tryz.ntmps30
 go_wp2_with fail
 refine hbk.mono ?_
 rintro e w1 ⟨rfl,hd2,hk2⟩
 have hO1:=(hk2.block w.heap.size (zBq hO) hnb).trans hO
 have hltO:=zBq hO1
 have c0:w1.cell? ⟨w.heap.size,0,none⟩=some (.int .i64 id):=by rw [zBk hO1];rfl
 have c1:w1.cell? ⟨w.heap.size,1,none⟩=some (.int .i64 cl):=by rw [zBk hO1];rfl
 have c2:w1.cell? ⟨w.heap.size,2,none⟩=some (.string ⟨name.toArray⟩):=by rw [zBk hO1];rfl
 have hs1:=zkB id hi0 hi1
 have hs2:=zkB cl (by have:=hcl.1;omega) (by have:=hcl.2;omega)
 have hsg1:=fun W=>zT1 id W hi0 hi1
 have hsg2:=fun W=>zT1 cl W (by have:=hcl.1;omega) (by have:=hcl.2;omega)
 clear hbk hW hd hd1
 have z1:(9223372036854775807 < 6+b0.length)=False:=by simp;omega
 have z2:(9223372036854775807 < 6+b0.length+1)=False:=by simp;omega
 have z3:(9223372036854775807 < 6+b0.length+1+b0.length)=False:=by simp;omega
 have z4:(9223372036854775807 < 6+b0.length+1+b0.length+(sgnP id).length)=False:=by simp;omega
 have z5:(9223372036854775807 < 5+(sgnP cl).length)=False:=by simp;omega
 have z6:(9223372036854775807 < 6+name.length)=False:=by simp;omega
 have z7:(9223372036854775807 < 6+name.length+1)=False:=by simp;omega
 go_wp2_with fail
 go_cut [10] (fun a wx=>∃ g,a=.slice (some ⟨g,0,none⟩) 3 3∧wx.ownsRow (w.heap.size+1) 9 1 a 3 (strCells [mCall b0 id,mBy cl,mOp name])∧Below w1.heap.size w1 wx)
 case first=>
  go_region_held3 (fun w'=>w'.cell? ⟨w.heap.size,0,none⟩=some (.int .i64 id)∧w'.cell? ⟨w.heap.size,1,none⟩=some (.int .i64 cl)∧w'.cell? ⟨w.heap.size,2,none⟩=some (.string ⟨name.toArray⟩)) (go_keep) (first
   | (go_at_call 22;have hq:=d0;refine (hsg2 _).mono ?_;rintro e w3 ⟨rfl,hb3⟩;have e0:=(hb3.cell (p:=⟨w.heap.size,0,none⟩) hlt2).trans d0;have e1:=(hb3.cell (p:=⟨w.heap.size,1,none⟩) hlt2).trans dd1;have e2:=(hb3.cell (p:=⟨w.heap.size,2,none⟩) hlt2).trans dd2;have hlt3:=Nat.lt_of_lt_of_le hlt2 hb3.size)
   | (go_at_call 22;refine (hsg1 _).mono ?_;rintro e w2 ⟨rfl,hb2⟩;have d0:=(hb2.cell (p:=⟨w.heap.size,0,none⟩) hltO).trans c0;have dd1:=(hb2.cell (p:=⟨w.heap.size,1,none⟩) hltO).trans c1;have dd2:=(hb2.cell (p:=⟨w.heap.size,2,none⟩) hltO).trans c2;have hlt2:=Nat.lt_of_lt_of_le hltO hb2.size))
  all_goals
   go_wp2_with fail
   go_meet
   have y1:((⟨#[34,99,97,108,108,34]⟩:ByteArray)++⟨b0.toArray⟩++⟨#[58]⟩++⟨b0.toArray⟩++⟨(sgnP id).toArray⟩)=⟨(mCall b0 id).toArray⟩:=by
    show ((⟨[34,99,97,108,108,34].toArray⟩:ByteArray)++⟨b0.toArray⟩++⟨[58].toArray⟩++⟨b0.toArray⟩++⟨(sgnP id).toArray⟩)=_
    simp only [zAs];rfl
   have y2:((⟨#[34,98,121,34,58]⟩:ByteArray)++⟨(sgnP cl).toArray⟩)=⟨(mBy cl).toArray⟩:=zAs [34,98,121,34,58] (sgnP cl)
   have y3:((⟨#[34,111,112,34,58,34]⟩:ByteArray)++⟨name.toArray⟩++⟨#[34]⟩)=⟨(mOp name).toArray⟩:=by
    show ((⟨[34,111,112,34,58,34].toArray⟩:ByteArray)++⟨name.toArray⟩++⟨[34].toArray⟩)=_
    simp only [zAs];rfl
   rw [y1,y2,y3]
   have hb23:Below w1.heap.size w1 w3:=((Below.refl _ _).drew.trans hb2).trans (hb3.mono hb2.size)
   exact ⟨w3.heap.size,rfl,z6i w3 (w.heap.size+1) [mCall b0 id,mBy cl,mOp name] (by have:=hb23.size;have:=hk2.size;have:=zBq hO;omega) (by simp) _ rfl,hb23.alloc hb23.size _⟩
 case rest=>
  obtain ⟨g,rfl,hown,hbx⟩:=hcut
  have hd3:=hd2.below hbx
  have hO3:=(hbx.block w.heap.size hltO).trans hO1
  have hk3:Kept [b] W wc:=hk2.trans (Kept.of_below hbx)
  have hlt3:=zBq hO3
  have hlm:(mCall b0 id).length≤1000∧(mBy cl).length≤1000∧(mOp name).length≤1000:=⟨by simp [mCall];omega,by simp [mBy];omega,by simp [mOp];omega⟩
  have hkdd:=zUa i hi
  clear z1 z2 z3 z4 z5 z6 z7 c0 c1 c2 hO1 hltO hsg1 hsg2 hbx hd2 hk2 hO
  have hlm3:∀ m∈[mCall b0 id,mBy cl,mOp name],m.length≤1000:=by intro m hm;simp at hm;rcases hm with rfl | rfl | rfl;exact hlm.1;exact hlm.2.1;exact hlm.2.2
  have hl33:[mCall b0 id,mBy cl,mOp name].length=3:=rfl
  generalize hL3:[mCall b0 id,mBy cl,mOp name]=l3 at*
  have HL3:Hid ([mCall b0 id,mBy cl,mOp name]=l3):=hL3
  clear hL3
  have hKw:Kept [b] w wc:=(Kept.of_below hb).trans hk3
  obtain ⟨i0,hi0',hz0,hz1,hz2⟩:=info_parts strInfo
  clear hk3 hlm
  go_wp2_with fail
  refine (hkdd _).mono ?_
  rintro e w5 ⟨rfl,hw⟩
  have hw':=hw.symm
  clear hw hkdd
  subst hw'
  obtain ⟨l4,d4,hl4,hD4,hlm4,hl44⟩:∃ (l4:List (List UInt8)) (d4:List Int),Hid (l3++(if zSt i=true then [mKey (zPM k d1).1] else [])=l4)∧Hid ((if zSt i=true then (zPM k d1).2 else d1)=d4)∧(∀ m∈l4,m.length≤1000)∧3≤l4.length∧l4.length≤4:=by
   refine ⟨_,_,rfl,rfl,?_,?_,?_⟩
   · intro m hm
     rcases List.mem_append.1 hm with hm | hm
     · exact hlm3 m hm
     · split at hm
       · simp at hm;subst hm
         have:=z3D k (z1S (spN k) d1).1
         show ([34,107,101,121,34,58,34]++(spS k (z1S (spN k) d1).1)++[34]).length≤1000
         simp;omega
       · cases hm
   · simp [hl33]
   · simp only [List.length_append,hl33];split <;> simp
  go_upto_if 32 with fail
  go_cut [10] (fun a wx=>wx.ownsRow (w.heap.size+1) 9 1 a l4.length (strCells l4)∧Dice wx b sv code d4∧Kept [b] w wx∧wx.heap[w.heap.size]?=some (.cells #[.int .i64 id,.int .i64 cl,.string ⟨name.toArray⟩,.string ⟨key.toArray⟩,.int .i64 arg,.int .i64 exp,.int .i64 call,.int .i64 ret,.int .i64 vk,.int .i64 vn] 48 (0,0)))
  case first=>
   cases hkd:zSt i with
   | false=>
     rw [hkd] at hl4 hD4
     have e1:l3=l4:=by have:=hl4.out;simpa using this
     have e2:d1=d4:=hD4.out
     subst e1
     subst e2
     go_wp2_with fail
     go_meet
     exact ⟨by rw [hl33];exact hown,hd3,hKw,hO3⟩
   | true=>
     rw [hkd] at hl4 hD4
     have hsp:=znb k hk b sv code d1 wc hd3
     have hspl:=z3D k (z1S (spN k) d1).1
     have e1:Hid (l4=l3++[mKey (zPM k d1).1]):=hl4.out.symm
     have e2:(zPM k d1).2=d4:=hD4.out
     rw [e2] at hsp
     have hs3:(zPM k d1).1.length≤18:=hspl
     generalize (zPM k d1).1=sp at*
     clear hl4 hD4 e2 hspl
     go_wp2_with fail
     refine hsp.mono ?_
     rintro e w6 ⟨rfl,hd6,hk6⟩
     have own6:=zzF hown hk6 (by simp;omega)
     have hz6:=hk6.size
     have hzc:=hKw.size
     have ym:((⟨#[34,107,101,121,34,58,34]⟩:ByteArray)++⟨sp.toArray⟩++⟨#[34]⟩)=⟨(mKey sp).toArray⟩:=by
      show ((⟨[34,107,101,121,34,58,34].toArray⟩:ByteArray)++⟨sp.toArray⟩++⟨[34].toArray⟩)=_
      simp only [zAs];rfl
     go_wp2_with (at_builtin;refine wpList_append_own _ rfl _ _ 24 rfl (w.heap.size+1) 9 i0 (.string ⟨#[]⟩) 1 16 Tryz.underlying24 hi0' hz0 hz1 hz2 rfl (by decide) _ _ _ rfl (own6.alloc _) ⟨w6.heap.size,0,none⟩ 1 1 [.string (⟨#[34,107,101,121,34,58,34]⟩++⟨sp.toArray⟩++⟨#[34]⟩)] rfl rfl ?c1 ?c2 ?c3 ?c4 ?c5 ?_)
     case c1=>exact zHK _ _ _
     case c2=>intro u hu;simp at hu;subst hu;rfl
     case c3=>unfold maxLen;omega
     case c4=>omega
     case c5=>simp;omega
     intro v7 w7 own7 grow7 _
     have hS6:∀ x∈(Value.slice (some ⟨g,0,none⟩) 3 3).ownBlock.toList,w.heap.size+1≤x:=fun x hx=>zYv own6 x (by simpa using hx)
     have hk7:Kept (Value.slice (some ⟨g,0,none⟩) 3 3).ownBlock.toList w6 w7:=((Kept.refl _ w6).alloc _).grownS grow7 (fun g' hg'=>by rw [hg'];simp)
     have hd7:=hd6.kept hk7 (fun x hx=>by have:=hS6 x hx;omega)
     have hO6:=(hk6.block w.heap.size hlt3 hnb).trans hO3
     have hO7:=(hk7.block w.heap.size (zBq hO6) (fun hm=>by have:=hS6 _ hm;omega)).trans hO6
     have hK7:Kept [b] w w7:=zh0 (zh0 hKw hk6 (by simp)) hk7 (fun x hx=>Or.inr (by have:=hS6 x hx;omega))
     go_wp2_with fail
     go_meet
     refine ⟨?_,hd7,hK7,hO7⟩
     rw [e1.out,zBt,List.length_append,hl33]
     exact own7
  case rest=>
   obtain ⟨own4,hd4,hK4,hO4⟩:=hcut
   have c2:wc.cell? ⟨w.heap.size,2,none⟩=some (.string ⟨name.toArray⟩):=by rw [zBk hO4];rfl
   have c4:wc.cell? ⟨w.heap.size,4,none⟩=some (.int .i64 arg):=by rw [zBk hO4];rfl
   have c5:wc.cell? ⟨w.heap.size,5,none⟩=some (.int .i64 exp):=by rw [zBk hO4];rfl
   have hz4:=hK4.size
   have HF:Hid (R=zZ9 (l4++(if name=[99,97,115] then [mExp exp,mArg arg] else if name=[119,114,105,116,101]∨name=[112,117,116]∨name=[101,110,113] then [mArg arg] else [])) d4):=by
    show _=_
    rw [HR.out,hl4.out,hD4.out]
   clear hown hd3 hO3 hKw HR
   by_cases h1:name=[99,97,115]
   · skip
     subst h1
     have hsa:=zkB arg (by have:=ha.1;omega) (by have:=ha.2;omega)
     have hse:=zkB exp (by have:=he.1;omega) (by have:=he.2;omega)
     have ya:((⟨#[34,97,114,103,34,58]⟩:ByteArray)++⟨(sgnP arg).toArray⟩)=⟨(mArg arg).toArray⟩:=zAs [34,97,114,103,34,58] (sgnP arg)
     have ye:((⟨#[34,101,120,112,34,58]⟩:ByteArray)++⟨(sgnP exp).toArray⟩)=⟨(mExp exp).toArray⟩:=zAs [34,101,120,112,34,58] (sgnP exp)
     have hma:(mArg arg).length≤1000:=by simp [mArg];omega
     have hme:(mExp exp).length≤1000:=by simp [mExp];omega
     have hfin:Hid (R=zZ9 (l4++[mExp exp,mArg arg]) d4):=HF.out
     have z1:(9223372036854775807 < 6+(sgnP exp).length)=False:=by simp;omega
     have z2:(9223372036854775807 < 6+(sgnP arg).length)=False:=by simp;omega
     have hlt4:=zBq hO4
     obtain ⟨oa4,cap4,rfl⟩:=zIW own4
     have hAP:∀ W6:World,w.heap.size+1≤W6.heap.size→W6.ownsRow (w.heap.size+1) 9 1 (.slice oa4 l4.length cap4) l4.length (strCells l4)→∃ v7 w7,(Builtin.append_ #[24,24] 24 #[.slice oa4 l4.length cap4,.slice (some ⟨W6.heap.size,0,none⟩) 2 2]).run Tryz.prog (W6.alloc (.cells #[.string ⟨(mExp exp).toArray⟩,.string ⟨(mArg arg).toArray⟩] 9))=.ok v7 w7∧w7.ownsRow (w.heap.size+1) 9 1 v7 (l4.length+2) (strCells l4++[.string ⟨(mExp exp).toArray⟩,.string ⟨(mArg arg).toArray⟩])∧(W6.alloc (.cells #[.string ⟨(mExp exp).toArray⟩,.string ⟨(mArg arg).toArray⟩] 9)).grownBy w7 (Value.slice oa4 l4.length cap4).ownBlock:=by
      intro W6 hW6 hown6
      obtain ⟨v7,w7,h1,h2,h3,_⟩:=run_append_own (P:=Tryz.prog) (W6.alloc (.cells #[.string ⟨(mExp exp).toArray⟩,.string ⟨(mArg arg).toArray⟩] 9)) (w.heap.size+1) 24 24 9 i0 _ 1 16 Tryz.underlying24 hi0' hz0 hz1 hz2 rfl (by decide) (.slice oa4 l4.length cap4) l4.length (strCells l4) (hown6.alloc _) ⟨W6.heap.size,0,none⟩ 2 2 [.string ⟨(mExp exp).toArray⟩,.string ⟨(mArg arg).toArray⟩] rfl (fun j u hj=>by
       have hb:=ziF W6 (.cells #[.string ⟨(mExp exp).toArray⟩,.string ⟨(mArg arg).toArray⟩] 9) W6.heap.size rfl
       match j,hj with
       | 0,hj=>simp at hj;subst hj;show World.cell? _ ⟨W6.heap.size,0,none⟩=_;rw [zBk hb];rfl
       | 1,hj=>simp at hj;subst hj;show World.cell? _ ⟨W6.heap.size,0+1,none⟩=_;rw [zBk hb];rfl) (by intro u hu;simp at hu;rcases hu with rfl | rfl <;> rfl) (by unfold maxLen;omega) (by omega) (by simp;omega)
      exact ⟨v7,w7,h1,h2,h3⟩
     have HAP:Hid (∀ W6:World,w.heap.size+1≤W6.heap.size→W6.ownsRow (w.heap.size+1) 9 1 (.slice oa4 l4.length cap4) l4.length (strCells l4)→∃ v7 w7,(Builtin.append_ #[24,24] 24 #[.slice oa4 l4.length cap4,.slice (some ⟨W6.heap.size,0,none⟩) 2 2]).run Tryz.prog (W6.alloc (.cells #[.string ⟨(mExp exp).toArray⟩,.string ⟨(mArg arg).toArray⟩] 9))=.ok v7 w7∧w7.ownsRow (w.heap.size+1) 9 1 v7 (l4.length+2) (strCells l4++[.string ⟨(mExp exp).toArray⟩,.string ⟨(mArg arg).toArray⟩])∧(W6.alloc (.cells #[.string ⟨(mExp exp).toArray⟩,.string ⟨(mArg arg).toArray⟩] 9)).grownBy w7 (Value.slice oa4 l4.length cap4).ownBlock):=hAP
     have hS4:∀ x∈(Value.slice oa4 l4.length cap4).ownBlock.toList,w.heap.size+1≤x:=fun x hx=>zYv own4 x (by simpa using hx)
     clear HF hl4 hAP
     go_wp2
     go_region_held3 (fun w'=>w'.cell? ⟨w.heap.size,4,none⟩=some (.int .i64 arg)∧w'.cell? ⟨w.heap.size,5,none⟩=some (.int .i64 exp)) (go_keep) (first
      | (go_at_call 22;have hq:=d4c;refine (zT1 arg _ (by have:=ha.1;omega) (by have:=ha.2;omega)).mono ?_;rintro e w3 ⟨rfl,hb3⟩;have e4:=(hb3.cell (p:=⟨w.heap.size,4,none⟩) hlt2).trans d4c;have e5:=(hb3.cell (p:=⟨w.heap.size,5,none⟩) hlt2).trans d5c;have hlt3:=Nat.lt_of_lt_of_le hlt2 hb3.size;have own3:=zzF own2 (Kept.of_below (S:=[]) hb3) (by simp);obtain ⟨v7,w7,hap,own7,grow7⟩:=HAP.out w3 (by omega) own3;have hk7:Kept (Value.slice oa4 l4.length cap4).ownBlock.toList w3 w7:=((Kept.refl _ w3).alloc _).grownS grow7 (fun g' hg'=>by rw [hg'];simp);have hn7:w.heap.size∉(Value.slice oa4 l4.length cap4).ownBlock.toList:=(fun hm=>by have:=hS4 _ hm;omega);have f4:=(hk7.cell (p:=⟨w.heap.size,4,none⟩) hlt3 hn7).trans e4;have f5:=(hk7.cell (p:=⟨w.heap.size,5,none⟩) hlt3 hn7).trans e5)
      | (go_at_call 22;refine (zT1 exp _ (by have:=he.1;omega) (by have:=he.2;omega)).mono ?_;rintro e w2 ⟨rfl,hb2⟩;have d4c:=(hb2.cell (p:=⟨w.heap.size,4,none⟩) hlt4).trans c4;have d5c:=(hb2.cell (p:=⟨w.heap.size,5,none⟩) hlt4).trans c5;have hlt2:=Nat.lt_of_lt_of_le hlt4 hb2.size;have own2:=zzF own4 (Kept.of_below (S:=[]) ((Below.refl wc.heap.size wc).drew.trans hb2)) (by simp))
      | (refine zti rfl _ _ 24 rfl _ _ _ _ rfl rfl hap ?_))
     all_goals
      have hbl3:Below wc.heap.size wc w3:=((Below.refl wc.heap.size wc).drew.trans hb2).trans (hb3.mono hb2.size)
      have hd5:=(hd4.below hbl3).kept hk7 (fun x hx=>by have:=hS4 x hx;omega)
      have hK5:Kept [b] w w7:=zh0 (zh0 hK4 (Kept.of_below (S:=[]) hbl3) (by simp)) hk7 (fun x hx=>Or.inr (by have:=hS4 x hx;omega))
      have own5:w7.ownsRow (w.heap.size+1) 9 1 v7 (l4++[mExp exp,mArg arg]).length (strCells (l4++[mExp exp,mArg arg])):=by
       rw [show strCells (l4++[mExp exp,mArg arg])=strCells l4++[.string ⟨(mExp exp).toArray⟩,.string ⟨(mArg arg).toArray⟩] by simp [strCells],List.length_append]
       exact own7
      have hlm5:∀ m∈l4++[mExp exp,mArg arg],m.length≤1000:=by intro m hm;rcases List.mem_append.1 hm with hm | hm;exact hlm4 m hm;simp at hm;rcases hm with rfl | rfl;exact hme;exact hma
      have hl55:3≤(l4++[mExp exp,mArg arg]).length∧(l4++[mExp exp,mArg arg]).length≤6:=by simp;omega
      clear own7 grow7 hk7 hap
      generalize l4++[mExp exp,mArg arg]=l5 at*
      obtain ⟨oa5,cap5,rfl,hr5⟩:=zYz1 own5
      obtain ⟨g5,rfl,hg5,hc5⟩:=hr5 (by intro h;rw [h] at hl55;simp at hl55)
      have hgb5:g5≠b:=by have:=zYv own5 g5 rfl;omega
      go_wp2_with fail
      refine (zkk b g5 cap5 sv code d4 l5 _ hd5 ⟨hg5,hc5⟩ hgb5 (by omega) (by omega) hlm5).mono ?_
      rintro e w9 ⟨rfl,hd9,hk9⟩
      go_wp2
      go_ret
      rw [hfin.out]
      exact ⟨rfl,hd9,zh0 hK5 hk9 (by simp)⟩
   · by_cases h2:name=[119,114,105,116,101]∨name=[112,117,116]∨name=[101,110,113]
     · rcases h2 with rfl | rfl | rfl
       all_goals
        have hfin:Hid (R=zZ9 (l4++[mArg arg]) d4):=HF.out
        clear HF
        have hsa:=zkB arg (by have:=ha.1;omega) (by have:=ha.2;omega)
        have ya:((⟨#[34,97,114,103,34,58]⟩:ByteArray)++⟨(sgnP arg).toArray⟩)=⟨(mArg arg).toArray⟩:=zAs [34,97,114,103,34,58] (sgnP arg)
        have hma:(mArg arg).length≤1000:=by simp [mArg];omega
        go_wp2_with fail
        refine (zT1 arg _ (by have:=ha.1;omega) (by have:=ha.2;omega)).mono ?_
        rintro e w6 ⟨rfl,hb6⟩
        have own6:=zzF own4 (Kept.of_below (S:=[]) hb6) (by simp)
        have hz6:=hb6.size
        obtain ⟨oa4,cap4,rfl⟩:=zIW own6
        go_wp2_with (at_builtin;refine wpList_append_own _ rfl _ _ 24 rfl (w.heap.size+1) 9 i0 (.string ⟨#[]⟩) 1 16 Tryz.underlying24 hi0' hz0 hz1 hz2 rfl (by decide) _ _ _ rfl (own6.alloc _) ⟨w6.heap.size,0,none⟩ 1 1 [.string ⟨(mArg arg).toArray⟩] rfl rfl ?c1 ?c2 ?c3 ?c4 ?c5 ?_)
        case c1=>exact zHK _ _ _
        case c2=>intro u hu;simp at hu;subst hu;rfl
        case c3=>unfold maxLen;omega
        case c4=>omega
        case c5=>simp;omega
        intro v7 w7 own7 grow7 _
        have hS6:∀ x∈(Value.slice oa4 l4.length cap4).ownBlock.toList,w.heap.size+1≤x:=fun x hx=>zYv own6 x (by simpa using hx)
        have hk7:Kept (Value.slice oa4 l4.length cap4).ownBlock.toList w6 w7:=((Kept.refl _ w6).alloc _).grownS grow7 (fun g' hg'=>by rw [hg'];simp)
        have hd5:=(hd4.below hb6).kept hk7 (fun x hx=>by have:=hS6 x hx;omega)
        have hK5:Kept [b] w w7:=zh0 (zh0 hK4 (Kept.of_below (S:=[]) hb6) (by simp)) hk7 (fun x hx=>Or.inr (by have:=hS6 x hx;omega))
        have own5:w7.ownsRow (w.heap.size+1) 9 1 v7 (l4++[mArg arg]).length (strCells (l4++[mArg arg])):=by rw [zBt,List.length_append];exact own7
        have hlm5:∀ m∈l4++[mArg arg],m.length≤1000:=by intro m hm;rcases List.mem_append.1 hm with hm | hm;exact hlm4 m hm;simp at hm;subst hm;exact hma
        have hl55:3≤(l4++[mArg arg]).length∧(l4++[mArg arg]).length≤6:=by simp;omega
        clear own7 grow7 hk7 hS6 own6
        generalize l4++[mArg arg]=l5 at*
        obtain ⟨oa5,cap5,rfl,hr5⟩:=zYz1 own5
        obtain ⟨g5,rfl,hg5,hc5⟩:=hr5 (by intro h;rw [h] at hl55;simp at hl55)
        have hgb5:g5≠b:=by have:=zYv own5 g5 rfl;omega
        go_wp2_with fail
        refine (zkk b g5 cap5 sv code d4 l5 _ hd5 ⟨hg5,hc5⟩ hgb5 (by omega) (by omega) hlm5).mono ?_
        rintro e w9 ⟨rfl,hd9,hk9⟩
        go_wp2
        go_ret
        rw [hfin.out]
        exact ⟨rfl,hd9,zh0 hK5 hk9 (by simp)⟩
     · have n1:(name == [99,97,115])=false:=by simp [h1]
       have n2:(name == [119,114,105,116,101])=false:=by simp;exact fun h=>h2 (Or.inl h)
       have n3:(name == [112,117,116])=false:=by simp;exact fun h=>h2 (Or.inr (Or.inl h))
       have n4:(name == [101,110,113])=false:=by simp;exact fun h=>h2 (Or.inr (Or.inr h))
       have hfin:Hid (R=zZ9 l4 d4):=by
        show _=_
        rw [HF.out,if_neg h1,if_neg h2,List.append_nil]
       have own5:=own4
       have hd5:=hd4
       have hK5:=hK4
       have hlm5:=hlm4
       have hl55:3≤l4.length∧l4.length≤6:=by omega
       clear HF own4 hd4 hK4 hlm4 hl4
       generalize l4=l5 at*
       obtain ⟨oa5,cap5,rfl,hr5⟩:=zYz1 own5
       obtain ⟨g5,rfl,hg5,hc5⟩:=hr5 (by intro h;rw [h] at hl55;simp at hl55)
       have hgb5:g5≠b:=by have:=zYv own5 g5 rfl;omega
       go_wp2_with fail
       refine (zkk b g5 cap5 sv code d4 l5 _ hd5 ⟨hg5,hc5⟩ hgb5 (by omega) (by omega) hlm5).mono ?_
       rintro e w9 ⟨rfl,hd9,hk9⟩
       go_wp2
       go_ret
       rw [hfin.out]
       exact ⟨rfl,hd9,zh0 hK5 hk9 (by simp)⟩
end Go.Proofs.YtlkidmafomjhgaaGreatDoor.keep
