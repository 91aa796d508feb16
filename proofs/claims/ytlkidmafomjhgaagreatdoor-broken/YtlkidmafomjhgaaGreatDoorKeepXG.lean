/- Several texts in one. -/
import Derived.Test.YtlkidmafomjhgaaGreatDoorKeepXF
set_option maxHeartbeats 2000000
set_option maxRecDepth 100000
namespace Go.Proofs.YtlkidmafomjhgaaGreatDoor.keep
open Go.RowKit

theorem zWX (wb o:Nat) (l:List Int) (n:Nat) (TS:List Nat) (wc:Array Value) (id cl:Int) (key:List UInt8) (arg exp call ret vk vn:Int) (w:World) (h:AtX w wb o TS wc l n) (hts:∀ x∈TS,x < w.heap.size):
 Calls Tryz.prog 26 #[.pointer (some ⟨wb,o,none⟩),opA id cl [114,101,108] key arg exp call ret vk vn] w fun e w'=>zef wb o TS wc (xRel cl l) w e w':=by
 unfold opA
 obtain ⟨W,oa,cap,hW,hI⟩:=inX_ id cl [114,101,108] key arg exp call ret vk vn h
 have c1:=hI.c1
 have c2:=hI.c2
 have c4:=hI.c4
 have c5:=hI.c5
 have hc:=hI.cell
 have hf:=hI.fz
 have hsz:=hI.below.size
 have hlt:=hI.lt
 have hl:=hI.row.len
 have hltW:wb < W.heap.size:=by omega
 have hrb:=zCqB hI.res
 have r0:W.cell? ⟨w.heap.size+1,0,none⟩=some (.int .i64 0):=by rw [zBk hI.res];rfl
 have r1:W.cell? ⟨w.heap.size+1,1,none⟩=some (.int .i64 0):=by rw [zBk hI.res];rfl
 have rf0:W.frozen? ⟨w.heap.size+1,0,none⟩=false:=zBn hI.res 0
 have rf1:W.frozen? ⟨w.heap.size+1,1,none⟩=false:=zBn hI.res 1
 go_enter Tryz.func26,Tryz.ntmps26
 go_wp2_with fail
 refine (zzT wb o oa n cap W hc).mono ?_
 rintro e w1 ⟨rfl,hw⟩
 have hw':=hw.symm
 clear hw
 subst hw'
 by_cases h1:1≤n
 · have hnd:decide (0 < n)=true:=by simp;omega
   obtain ⟨g,off,x,r,hoa1,hg,hgl,hnc,hcm,hlr,hx,htl⟩:=hI.row.head h1
   subst hoa1
   subst hlr
   have hlr:=hl
   clear hl
   have hn0:(0:Int) < (n:Int):=by omega
   by_cases he:x=cl
   · have he':(x == cl)=true:=by simp [he]
     clear he
     go_wp2
     go_quiet (fail)
     replace hI:=hI.drewN nq
     clear c1 c2 c4 c5 hc hf hsz hltW hrb r0 r1 rf0 rf1
     generalize W.drewN nq=W at*
     have c1:=hI.c1
     have c2:=hI.c2
     have c4:=hI.c4
     have c5:=hI.c5
     have hc:=hI.cell
     have hf:=hI.fz
     have hsz:=hI.below.size
     have hltW:wb < W.heap.size:=by omega
     have hrb:=zCqB hI.res
     have r0:W.cell? ⟨w.heap.size+1,0,none⟩=some (.int .i64 0):=by rw [zBk hI.res];rfl
     have r1:W.cell? ⟨w.heap.size+1,1,none⟩=some (.int .i64 0):=by rw [zBk hI.res];rfl
     have rf0:W.frozen? ⟨w.heap.size+1,0,none⟩=false:=zBn hI.res 0
     have rf1:W.frozen? ⟨w.heap.size+1,1,none⟩=false:=zBn hI.res 1
     obtain ⟨s1,s2,s3,hk2⟩:=nilX hI.at_
     obtain ⟨w2,hw2⟩:∃ w2,W.setCell ⟨wb,o,none⟩ (.slice none 0 0)=w2:=⟨_,rfl⟩
     rw [hw2] at s1 s2 s3 hk2
     have hres2:vBlk w2 (w.heap.size+1) 0 0:=(hk2.block _ hrb (by simp;omega)).trans hI.res
     have hz2:=hk2.size
     go_wp2_with fail
     refine (ze7 true _).mono ?_
     rintro e w3 ⟨rfl,hb3⟩
     have hres3:vBlk w3 (w.heap.size+1) 0 0:=hres2.below hb3
     have q0:w3.cell? ⟨w.heap.size+1,0,none⟩=some (.int .i64 0):=by rw [zBk hres3];rfl
     have q1:w3.cell? ⟨w.heap.size+1,1,none⟩=some (.int .i64 0):=by rw [zBk hres3];rfl
     have qf0:w3.frozen? ⟨w.heap.size+1,0,none⟩=false:=zBn hres3 0
     have qf1:w3.frozen? ⟨w.heap.size+1,1,none⟩=false:=zBn hres3 1
     go_wp2
     refine bodyPost_ret (v:=.agg #[.int .i64 2,.int .i64 1]) (zu9 _ _ (w.heap.size+1) 2 1 (by simp) (vBlk.set hres3 _ _)) rfl ?_
     exact finX hlt ((hb3.block wb (zCqB s1)).trans s1) (s2.keep (Kept.of_below (S:=[]) hb3) (by simp)) (((Kept.of_below hI.below).trans s3).trans (Kept.of_below hb3))
      (fun _ h=>h) (fun _ h=>Or.inl h) (fun hm=>by have:=hts _ hm;omega) _ _ (by first | rfl | simp [xRel,he'] | (first | rfl | (rcases l with _ | ⟨_,_⟩ <;> first | rfl | (exfalso;simp at hl;omega))))
   · have he':(x == cl)=false:=by simp [he]
     clear he
     go_wp2
     go_quiet (fail)
     replace hI:=hI.drewN nq
     clear c1 c2 c4 c5 hc hf hsz hltW hrb r0 r1 rf0 rf1
     generalize W.drewN nq=W at*
     have c1:=hI.c1
     have c2:=hI.c2
     have c4:=hI.c4
     have c5:=hI.c5
     have hc:=hI.cell
     have hf:=hI.fz
     have hsz:=hI.below.size
     have hltW:wb < W.heap.size:=by omega
     have hrb:=zCqB hI.res
     have r0:W.cell? ⟨w.heap.size+1,0,none⟩=some (.int .i64 0):=by rw [zBk hI.res];rfl
     have r1:W.cell? ⟨w.heap.size+1,1,none⟩=some (.int .i64 0):=by rw [zBk hI.res];rfl
     have rf0:W.frozen? ⟨w.heap.size+1,0,none⟩=false:=zBn hI.res 0
     have rf1:W.frozen? ⟨w.heap.size+1,1,none⟩=false:=zBn hI.res 1
     have hres2:=hI.res
     go_wp2_with fail
     refine (ze7 false _).mono ?_
     rintro e w3 ⟨rfl,hb3⟩
     have hres3:vBlk w3 (w.heap.size+1) 0 0:=hres2.below hb3
     have q0:w3.cell? ⟨w.heap.size+1,0,none⟩=some (.int .i64 0):=by rw [zBk hres3];rfl
     have q1:w3.cell? ⟨w.heap.size+1,1,none⟩=some (.int .i64 0):=by rw [zBk hres3];rfl
     have qf0:w3.frozen? ⟨w.heap.size+1,0,none⟩=false:=zBn hres3 0
     have qf1:w3.frozen? ⟨w.heap.size+1,1,none⟩=false:=zBn hres3 1
     go_wp2
     refine bodyPost_ret (v:=.agg #[.int .i64 2,.int .i64 0]) (zu9 _ _ (w.heap.size+1) 2 0 (by simp) (vBlk.set hres3 _ _)) rfl ?_
     exact finX (TS':=TS) hlt (by rw [zQK hI.val];exact (hb3.block wb (zCqB hI.at_.blk)).trans hI.at_.blk) (hI.row.keep (Kept.of_below (S:=[]) hb3) (by simp)) ((Kept.of_below hI.below).trans (Kept.of_below hb3))
      (fun _ h=>h) (fun _ h=>Or.inl h) (fun hm=>by have:=hts _ hm;omega) _ _ (by first | rfl | simp [xRel,he'] | (first | rfl | (rcases l with _ | ⟨_,_⟩ <;> first | rfl | (exfalso;simp at hl;omega))))
 · have hnd:decide (0 < n)=false:=by simp;omega
   go_wp2
   go_quiet (fail)
   replace hI:=hI.drewN nq
   clear c1 c2 c4 c5 hc hf hsz hltW hrb r0 r1 rf0 rf1
   generalize W.drewN nq=W at*
   have c1:=hI.c1
   have c2:=hI.c2
   have c4:=hI.c4
   have c5:=hI.c5
   have hc:=hI.cell
   have hf:=hI.fz
   have hsz:=hI.below.size
   have hltW:wb < W.heap.size:=by omega
   have hrb:=zCqB hI.res
   have r0:W.cell? ⟨w.heap.size+1,0,none⟩=some (.int .i64 0):=by rw [zBk hI.res];rfl
   have r1:W.cell? ⟨w.heap.size+1,1,none⟩=some (.int .i64 0):=by rw [zBk hI.res];rfl
   have rf0:W.frozen? ⟨w.heap.size+1,0,none⟩=false:=zBn hI.res 0
   have rf1:W.frozen? ⟨w.heap.size+1,1,none⟩=false:=zBn hI.res 1
   have hres2:=hI.res
   go_wp2_with fail
   refine (ze7 false _).mono ?_
   rintro e w3 ⟨rfl,hb3⟩
   have hres3:vBlk w3 (w.heap.size+1) 0 0:=hres2.below hb3
   have q0:w3.cell? ⟨w.heap.size+1,0,none⟩=some (.int .i64 0):=by rw [zBk hres3];rfl
   have q1:w3.cell? ⟨w.heap.size+1,1,none⟩=some (.int .i64 0):=by rw [zBk hres3];rfl
   have qf0:w3.frozen? ⟨w.heap.size+1,0,none⟩=false:=zBn hres3 0
   have qf1:w3.frozen? ⟨w.heap.size+1,1,none⟩=false:=zBn hres3 1
   go_wp2
   refine bodyPost_ret (v:=.agg #[.int .i64 2,.int .i64 0]) (zu9 _ _ (w.heap.size+1) 2 0 (by simp) (vBlk.set hres3 _ _)) rfl ?_
   exact finX (TS':=TS) hlt (by rw [zQK hI.val];exact (hb3.block wb (zCqB hI.at_.blk)).trans hI.at_.blk) (hI.row.keep (Kept.of_below (S:=[]) hb3) (by simp)) ((Kept.of_below hI.below).trans (Kept.of_below hb3))
    (fun _ h=>h) (fun _ h=>Or.inl h) (fun hm=>by have:=hts _ hm;omega) _ _ (by first | rfl | simp [xRel,he'] | (first | rfl | (rcases l with _ | ⟨_,_⟩ <;> first | rfl | (exfalso;simp at hl;omega))))
theorem z21 (wb o:Nat) (l:List Int) (n:Nat) (TS:List Nat) (wc:Array Value) (id cl:Int) (key:List UInt8) (arg exp call ret vk vn:Int) (w:World) (h:AtX w wb o TS wc l n) (hts:∀ x∈TS,x < w.heap.size):
 Calls Tryz.prog 26 #[.pointer (some ⟨wb,o,none⟩),opA id cl [100,101,113] key arg exp call ret vk vn] w fun e w'=>zef wb o TS wc (xDeq l) w e w':=by
 unfold opA
 obtain ⟨W,oa,cap,hW,hI⟩:=inX_ id cl [100,101,113] key arg exp call ret vk vn h
 have c1:=hI.c1
 have c2:=hI.c2
 have c4:=hI.c4
 have c5:=hI.c5
 have hc:=hI.cell
 have hf:=hI.fz
 have hsz:=hI.below.size
 have hlt:=hI.lt
 have hl:=hI.row.len
 have hltW:wb < W.heap.size:=by omega
 have hrb:=zCqB hI.res
 have r0:W.cell? ⟨w.heap.size+1,0,none⟩=some (.int .i64 0):=by rw [zBk hI.res];rfl
 have r1:W.cell? ⟨w.heap.size+1,1,none⟩=some (.int .i64 0):=by rw [zBk hI.res];rfl
 have rf0:W.frozen? ⟨w.heap.size+1,0,none⟩=false:=zBn hI.res 0
 have rf1:W.frozen? ⟨w.heap.size+1,1,none⟩=false:=zBn hI.res 1
 go_enter Tryz.func26,Tryz.ntmps26
 go_wp2_with fail
 refine (zzT wb o oa n cap W hc).mono ?_
 rintro e w1 ⟨rfl,hw⟩
 have hw':=hw.symm
 clear hw
 subst hw'
 by_cases h1:1≤n
 · skip
   obtain ⟨g,off,x,r,hoa1,hg,hgl,hnc,hcm,hlr,hx,htl⟩:=hI.row.head h1
   subst hoa1
   subst hlr
   have hlr:=hl
   clear hl
   have hn0:(0:Int) < (n:Int):=by omega
   have hnd:decide (0 < n)=true:=by simp;omega
   have hn1:(1:Int)≤(n:Int):=by omega
   have hc1:(1:Int)≤(cap:Int):=by omega
   by_cases hcap:cap=1
   · have hnz:n - 1=0:=by omega
     subst hcap
     obtain ⟨w2,hw2⟩:∃ w2,W.setCell ⟨wb,o,none⟩ (Value.slice (some ⟨g,off,none⟩) 0 0)=w2:=⟨_,rfl⟩
     have hk2:Kept [wb] W w2:=by rw [←hw2];exact (Kept.refl [wb] W).setCell (p:=⟨wb,o,none⟩) (Or.inl (by simp)) _
     have s1:w2.heap[wb]?=some (.cells (wc.setIfInBounds o (Value.slice (some ⟨g,off,none⟩) 0 0)) 67 (0,0)):=by rw [←hw2,zFg hI.at_.blk]
     have s3:Kept ([wb]++TS) W w2:=hk2.mono (fun x _ hx=>by simp at hx;simp [hx])
     have s0:=htl
     rw [if_pos rfl] at s0
     have s2:=s0.keep hk2 (fun y hy=>by simp only [List.mem_cons,List.not_mem_nil,or_false];rintro rfl;exact hI.at_.ne hy)
     clear htl s0
     have hres2:vBlk w2 (w.heap.size+1) 0 0:=(hk2.block _ hrb (by simp;omega)).trans hI.res
     go_wp2_with fail
     refine (zyj x _).mono ?_
     rintro e w3 ⟨rfl,hb3⟩
     have hres3:vBlk w3 (w.heap.size+1) 0 0:=hres2.below hb3
     have q0:w3.cell? ⟨w.heap.size+1,0,none⟩=some (.int .i64 0):=by rw [zBk hres3];rfl
     have q1:w3.cell? ⟨w.heap.size+1,1,none⟩=some (.int .i64 0):=by rw [zBk hres3];rfl
     have qf0:w3.frozen? ⟨w.heap.size+1,0,none⟩=false:=zBn hres3 0
     have qf1:w3.frozen? ⟨w.heap.size+1,1,none⟩=false:=zBn hres3 1
     go_wp2
     refine bodyPost_ret (v:=.agg #[.int .i64 1,.int .i64 x]) (zu9 _ _ (w.heap.size+1) 1 x (by simp) (vBlk.set hres3 _ _)) rfl ?_
     exact finX hlt ((hb3.block wb (zCqB s1)).trans s1) (s2.keep (Kept.of_below (S:=[]) hb3) (by simp)) (((Kept.of_below hI.below).trans s3).trans (Kept.of_below hb3))
      (fun _ h=>h) (fun _ h=>Or.inl h) (fun hm=>by have:=hts _ hm;omega) _ _ (by first | rfl | (rcases l with _ | ⟨_,_⟩ <;> first | rfl | (exfalso;simp at hl;omega)))
   · skip
     obtain ⟨w2,hw2⟩:∃ w2,W.setCell ⟨wb,o,none⟩ (Value.slice (some ⟨g,off+1,none⟩) (n - 1) (cap - 1))=w2:=⟨_,rfl⟩
     have hk2:Kept [wb] W w2:=by rw [←hw2];exact (Kept.refl [wb] W).setCell (p:=⟨wb,o,none⟩) (Or.inl (by simp)) _
     have s1:w2.heap[wb]?=some (.cells (wc.setIfInBounds o (Value.slice (some ⟨g,off+1,none⟩) (n - 1) (cap - 1))) 67 (0,0)):=by rw [←hw2,zFg hI.at_.blk]
     have s3:Kept ([wb]++TS) W w2:=hk2.mono (fun x _ hx=>by simp at hx;simp [hx])
     have s0:=htl
     rw [if_neg hcap] at s0
     have s2:=s0.keep hk2 (fun y hy=>by simp only [List.mem_cons,List.not_mem_nil,or_false];rintro rfl;exact hI.at_.ne hy)
     clear htl s0
     have hres2:vBlk w2 (w.heap.size+1) 0 0:=(hk2.block _ hrb (by simp;omega)).trans hI.res
     go_wp2_with fail
     refine (zyj x _).mono ?_
     rintro e w3 ⟨rfl,hb3⟩
     have hres3:vBlk w3 (w.heap.size+1) 0 0:=hres2.below hb3
     have q0:w3.cell? ⟨w.heap.size+1,0,none⟩=some (.int .i64 0):=by rw [zBk hres3];rfl
     have q1:w3.cell? ⟨w.heap.size+1,1,none⟩=some (.int .i64 0):=by rw [zBk hres3];rfl
     have qf0:w3.frozen? ⟨w.heap.size+1,0,none⟩=false:=zBn hres3 0
     have qf1:w3.frozen? ⟨w.heap.size+1,1,none⟩=false:=zBn hres3 1
     go_wp2
     refine bodyPost_ret (v:=.agg #[.int .i64 1,.int .i64 x]) (zu9 _ _ (w.heap.size+1) 1 x (by simp) (vBlk.set hres3 _ _)) rfl ?_
     exact finX hlt ((hb3.block wb (zCqB s1)).trans s1) (s2.keep (Kept.of_below (S:=[]) hb3) (by simp)) (((Kept.of_below hI.below).trans s3).trans (Kept.of_below hb3))
      (fun _ h=>h) (fun _ h=>Or.inl h) (fun hm=>by have:=hts _ hm;omega) _ _ (by first | rfl | (rcases l with _ | ⟨_,_⟩ <;> first | rfl | (exfalso;simp at hl;omega)))
 · have hnd:decide (0 < n)=false:=by simp;omega
   have hres2:=hI.res
   go_wp2_with fail
   refine (zDv _).mono ?_
   rintro e w3 ⟨rfl,hb3⟩
   have hres3:vBlk w3 (w.heap.size+1) 0 0:=hres2.below hb3
   have q0:w3.cell? ⟨w.heap.size+1,0,none⟩=some (.int .i64 0):=by rw [zBk hres3];rfl
   have q1:w3.cell? ⟨w.heap.size+1,1,none⟩=some (.int .i64 0):=by rw [zBk hres3];rfl
   have qf0:w3.frozen? ⟨w.heap.size+1,0,none⟩=false:=zBn hres3 0
   have qf1:w3.frozen? ⟨w.heap.size+1,1,none⟩=false:=zBn hres3 1
   go_wp2
   refine bodyPost_ret (v:=.agg #[.int .i64 0,.int .i64 0]) (zu9 _ _ (w.heap.size+1) 0 0 (by simp) (vBlk.set hres3 _ _)) rfl ?_
   exact finX (TS':=TS) hlt (by rw [zQK hI.val];exact (hb3.block wb (zCqB hI.at_.blk)).trans hI.at_.blk) (hI.row.keep (Kept.of_below (S:=[]) hb3) (by simp)) ((Kept.of_below hI.below).trans (Kept.of_below hb3))
    (fun _ h=>h) (fun _ h=>Or.inl h) (fun hm=>by have:=hts _ hm;omega) _ _ (by first | rfl | (rcases l with _ | ⟨_,_⟩ <;> first | rfl | (exfalso;simp at hl;omega)))
theorem zQe (wb o:Nat) (l:List Int) (n:Nat) (TS:List Nat) (wc:Array Value) (id cl:Int) (key:List UInt8) (arg exp call ret vk vn:Int) (w:World) (h:AtX w wb o TS wc l n) (hts:∀ x∈TS,x < w.heap.size) (hn:n≤1000000) (ha:small arg):
 Calls Tryz.prog 26 #[.pointer (some ⟨wb,o,none⟩),opA id cl [101,110,113] key arg exp call ret vk vn] w fun e w'=>zef wb o TS wc (l++[arg],0,0) w e w':=by
 unfold opA
 obtain ⟨W,oa,cap,hW,hI⟩:=inX_ id cl [101,110,113] key arg exp call ret vk vn h
 have c1:=hI.c1
 have c2:=hI.c2
 have c4:=hI.c4
 have c5:=hI.c5
 have hc:=hI.cell
 have hf:=hI.fz
 have hsz:=hI.below.size
 have hlt:=hI.lt
 have hl:=hI.row.len
 have hltW:wb < W.heap.size:=by omega
 have hrb:=zCqB hI.res
 have r0:W.cell? ⟨w.heap.size+1,0,none⟩=some (.int .i64 0):=by rw [zBk hI.res];rfl
 have r1:W.cell? ⟨w.heap.size+1,1,none⟩=some (.int .i64 0):=by rw [zBk hI.res];rfl
 have rf0:W.frozen? ⟨w.heap.size+1,0,none⟩=false:=zBn hI.res 0
 have rf1:W.frozen? ⟨w.heap.size+1,1,none⟩=false:=zBn hI.res 1
 go_enter Tryz.func26,Tryz.ntmps26
 go_wp2_with fail
 refine (zzT wb o oa n cap W hc).mono ?_
 rintro e w1 ⟨rfl,hw⟩
 have hw':=hw.symm
 clear hw
 subst hw'
 rename Array Value=>wca
 obtain ⟨v',w2,TS',hap,hth,hst,hT1,hT2⟩:=enqX hI.row hn arg ha
 have hk2:=hst
 have hwbT:wb∉TS:=hI.at_.ne
 have s0:w2.heap[wb]?=some (.cells wca 67 (0,0)):=(hk2.block wb hltW hwbT).trans hI.at_.blk
 have t1:w2.cell? ⟨wb,o,none⟩=some (.slice oa n cap):=by rw [zBk s0];exact hI.val
 have t2:w2.frozen? ⟨wb,o,none⟩=false:=zBn s0 _
 have hne1:wb≠W.heap.size:=by omega
 have hne2:w.heap.size≠W.heap.size:=by omega
 obtain ⟨va,vcap,rfl⟩:=hth.slice
 go_wp2
 go_cut [4] (fun a wx=>a=.pointer (some ⟨w.heap.size+1,0,none⟩)∧wx=w2.setCell ⟨wb,o,none⟩ (.slice va (n+1) vcap))
 case first=>
  go_region_law (refine zti rfl _ _ 62 rfl _ _ _ _ rfl rfl hap ?_)
  all_goals
   go_wp2_with fail
   go_meet
   exact ⟨rfl,rfl⟩
 case rest=>
  obtain ⟨rfl,hwx⟩:=hcut
  have hk5:Kept [wb] w2 wc:=by rw [hwx];exact (Kept.refl [wb] w2).setCell (p:=⟨wb,o,none⟩) (Or.inl (by simp)) _
  have s1:wc.heap[wb]?=some (.cells (wca.setIfInBounds o (.slice va (n+1) vcap)) 67 (0,0)):=by rw [hwx,zFg s0]
  have hne5:wb∉TS':=fun hm=>by rcases hT2 wb hm with h | h;exact hI.at_.ne h;omega
  have s2:=hth.keep hk5 (fun y hy=>by simp only [List.mem_cons,List.not_mem_nil,or_false];rintro rfl;exact hne5 hy)
  have s3:Kept ([wb]++TS) W wc:=(hk2.mono (fun x _ hx=>by simp [hx])).trans (hk5.mono (fun x _ hx=>by simp at hx;simp [hx]))
  have hres2:vBlk wc (w.heap.size+1) 0 0:=(hk5.block _ (Nat.lt_of_lt_of_le hrb hk2.size) (by simp;omega)).trans ((hk2.block _ hrb (fun hm=>by have:=hts _ hm;omega)).trans hI.res)
  clear hwx hap t1 t2 c1 c2 c4 c5 hc hf r0 r1 rf0 rf1 s0 hk2 hk5
  generalize wc=w2 at*
  go_wp2_with fail
  refine (zDv _).mono ?_
  rintro e w3 ⟨rfl,hb3⟩
  have hres3:vBlk w3 (w.heap.size+1) 0 0:=hres2.below hb3
  have q0:w3.cell? ⟨w.heap.size+1,0,none⟩=some (.int .i64 0):=by rw [zBk hres3];rfl
  have q1:w3.cell? ⟨w.heap.size+1,1,none⟩=some (.int .i64 0):=by rw [zBk hres3];rfl
  have qf0:w3.frozen? ⟨w.heap.size+1,0,none⟩=false:=zBn hres3 0
  have qf1:w3.frozen? ⟨w.heap.size+1,1,none⟩=false:=zBn hres3 1
  go_wp2
  refine bodyPost_ret (v:=.agg #[.int .i64 0,.int .i64 0]) (zu9 _ _ (w.heap.size+1) 0 0 (by simp) (vBlk.set hres3 _ _)) rfl ?_
  exact finX hlt ((hb3.block wb (zCqB s1)).trans s1) (s2.keep (Kept.of_below (S:=[]) hb3) (by simp)) (((Kept.of_below hI.below).trans s3).trans (Kept.of_below hb3))
   hT1 (fun x hx=>(hT2 x hx).imp (fun h=>h) (fun h=>by omega)) (fun hm=>by rcases hT2 _ hm with h | h;have:=hts _ h;omega;omega) _ _ (by first | rfl | (rcases l with _ | ⟨_,_⟩ <;> first | rfl | (exfalso;simp at hl;omega)))

def effP (i k:Nat) (cl arg exp:Int) (l:List Int):List Int×Int×Int:=match i,k with
 | 0,0=>(l,1,l.headD 0) | 0,1=>([arg],0,0) | 0,_=>xCas arg exp l
 | 1,0=>xGet l | 1,1=>([arg],0,0) | 1,_=>([],2,xHas l)
 | 2,0=>(l++[arg],0,0) | 2,_=>xDeq l
 | 3,0=>([1],2,xNot l) | 3,1=>([],2,xHas l) | 3,_=>(l,2,xHas l)
 | _,0=>xAcq cl l | _,_=>xRel cl l
theorem zmV {i k:Nat} {cl arg exp:Int} {l:List Int} (hi:i < 5) (hk:k < opN i) (hl:∀ x∈l,small x) (hr:loN i≤l.length):
 zxk i k (effP i k cl arg exp l).2.1 (effP i k cl arg exp l).2.2∧loN i≤(effP i k cl arg exp l).1.length∧(effP i k cl arg exp l).1.length≤l.length+1:=by
 have hB:∀ x:Int,x=0∨x=1→zKe 2 x:=fun x h=>⟨rfl,h⟩
 have hH:xHas l=0∨xHas l=1:=by unfold xHas;split <;> simp
 have hN:xNot l=0∨xNot l=1:=by unfold xNot;split <;> simp
 match i,k,hi,hk with
 | 0,0,_,_=>
   rcases l with _ | ⟨x,r⟩
   · simp [loN] at hr
   · exact ⟨⟨rfl,hl x (by simp)⟩,hr,by simp [effP]⟩
 | 0,1,_,_=>exact ⟨⟨rfl,rfl⟩,by simp [effP,loN],by simp [effP]⟩
 | 0,2,_,_=>
   simp only [effP,xCas]
   cases h:l.headD 0 == exp
   · exact ⟨hB _ (Or.inl rfl),hr,by simp⟩
   · exact ⟨hB _ (Or.inr rfl),by simp [loN],by simp⟩
 | 1,0,_,_=>
   rcases l with _ | ⟨x,r⟩
   · exact ⟨Or.inr ⟨rfl,rfl⟩,by simp [loN],by simp [effP,xGet]⟩
   · exact ⟨Or.inl ⟨rfl,hl x (by simp)⟩,by simp [loN],by simp [effP,xGet]⟩
 | 1,1,_,_=>exact ⟨⟨rfl,rfl⟩,by simp [effP,loN],by simp [effP]⟩
 | 1,2,_,_=>exact ⟨hB _ hH,by simp [loN],by simp [effP]⟩
 | 2,0,_,_=>exact ⟨⟨rfl,rfl⟩,by simp [loN],by simp [effP]⟩
 | 2,1,_,_=>
   rcases l with _ | ⟨x,r⟩
   · exact ⟨Or.inr ⟨rfl,rfl⟩,by simp [loN],by simp [effP,xDeq]⟩
   · exact ⟨Or.inl ⟨rfl,hl x (by simp)⟩,by simp [loN],by simp [effP,xDeq];omega⟩
 | 3,0,_,_=>exact ⟨hB _ hN,by simp [loN],by simp [effP]⟩
 | 3,1,_,_=>exact ⟨hB _ hH,by simp [loN],by simp [effP]⟩
 | 3,2,_,_=>exact ⟨hB _ hH,by simp [loN],by simp [effP]⟩
 | 4,0,_,_=>
   rcases l with _ | ⟨x,r⟩
   · exact ⟨hB _ (Or.inr rfl),by simp [loN],by simp [effP,xAcq]⟩
   · exact ⟨hB _ (Or.inl rfl),by simp [loN],by simp [effP,xAcq]⟩
 | 4,1,_,_=>
   rcases l with _ | ⟨x,r⟩
   · exact ⟨hB _ (Or.inl rfl),by simp [loN],by simp [effP,xRel]⟩
   · simp only [effP,xRel]
     cases h:x == cl
     · exact ⟨hB _ (Or.inl rfl),by simp [loN],by simp⟩
     · exact ⟨hB _ (Or.inr rfl),by simp [loN],by simp⟩
theorem do_x (i k:Nat) (hi:i < 5) (hk:k < opN i) (wb o:Nat) (l:List Int) (n:Nat) (TS:List Nat) (wc:Array Value) (id cl:Int) (key:List UInt8) (arg exp call ret vk vn:Int) (w:World) (h:AtX w wb o TS wc l n) (hts:∀ x∈TS,x < w.heap.size) (hn:n≤1000000) (hreg:loN i≤n) (ha:small arg) (hcl:small cl):
 Calls Tryz.prog 26 #[.pointer (some ⟨wb,o,none⟩),opA id cl (opS i k) key arg exp call ret vk vn] w fun e w'=>zef wb o TS wc (effP i k cl arg exp l) w e w':=by
 match i,k,hi,hk with
 | 0,0,_,_=>exact zx1 wb o l n TS wc id cl key arg exp call ret vk vn w h hts hreg
 | 0,1,_,_=>exact z9n wb o l n TS wc id cl key arg exp call ret vk vn w h hts ha
 | 0,2,_,_=>exact zdz wb o l n TS wc id cl key arg exp call ret vk vn w h hts hreg ha
 | 1,0,_,_=>exact zhL wb o l n TS wc id cl key arg exp call ret vk vn w h hts
 | 1,1,_,_=>exact zM4 wb o l n TS wc id cl key arg exp call ret vk vn w h hts ha
 | 1,2,_,_=>exact z8p wb o l n TS wc id cl key arg exp call ret vk vn w h hts
 | 2,0,_,_=>exact zQe wb o l n TS wc id cl key arg exp call ret vk vn w h hts hn ha
 | 2,1,_,_=>exact z21 wb o l n TS wc id cl key arg exp call ret vk vn w h hts
 | 3,0,_,_=>exact z0fm wb o l n TS wc id cl key arg exp call ret vk vn w h hts
 | 3,1,_,_=>exact zXe wb o l n TS wc id cl key arg exp call ret vk vn w h hts
 | 3,2,_,_=>exact zQL wb o l n TS wc id cl key arg exp call ret vk vn w h hts
 | 4,0,_,_=>exact zof wb o l n TS wc id cl key arg exp call ret vk vn w h hts hcl
 | 4,1,_,_=>exact zWX wb o l n TS wc id cl key arg exp call ret vk vn w h hts

def zbw (i:Nat):List Int:=if i=0 then [0] else []
def zHX (i:Nat) (w:World) (e:Ending) (w':World):Prop:=∃ (v0:Value) (TS:List Nat),e=.returned (.pointer (some ⟨w.heap.size,0,none⟩))∧ThX w' TS v0 (zbw i) (zbw i).length∧(∀ x∈TS,w.heap.size < x∧x < w'.heap.size)∧
 w'.heap[w.heap.size]?=some (.cells #[.string ⟨(modS i).toArray⟩,v0,.slice none 0 0,.slice none 0 0] 67 (0,0))∧Below w.heap.size w w'
theorem z0S (i:Nat) (hi:i < 5) (w:World):
 Calls Tryz.prog 23 #[.string ⟨(modS i).toArray⟩] w fun e w'=>zHX i w e w':=by
 obtain rfl | rfl | rfl | rfl | rfl:i=0∨i=1∨i=2∨i=3∨i=4:=by omega
 · unfold modS sReg
   have hb:=ziF w (.cells #[.string ⟨#[114,101,103,105,115,116,101,114]⟩,.slice none 0 0,.slice none 0 0,.slice none 0 0] 67) w.heap.size rfl
   have hbl:Below w.heap.size w (w.alloc (.cells #[.string ⟨#[114,101,103,105,115,116,101,114]⟩,.slice none 0 0,.slice none 0 0,.slice none 0 0] 67)):=(Below.refl _ _).alloc (Nat.le_refl _) _
   go_enter Tryz.func23,Tryz.ntmps23
   go_wp2_with fail
   refine (zR0 w.heap.size 1 (.slice none 0 0) 0 _ (by rw [zBk hb];rfl) (zBn hb 1) (by simp)).mono ?_
   rintro e w2 ⟨⟨vv,rfl⟩,hw2⟩
   obtain ⟨s1,s2,s3⟩:=setX (w:=w.alloc (.cells #[.string ⟨#[114,101,103,105,115,116,101,114]⟩,.slice none 0 0,.slice none 0 0,.slice none 0 0] 67)) (wb:=w.heap.size) (o:=1) (n:=0) (l:=[]) (TS:=[]) ⟨hb,⟨_,rfl,Or.inl ⟨rfl,rfl,rfl⟩⟩,by simp⟩ 0 ⟨by omega,by omega⟩
   rw [←hw2] at s1 s2 s3
   have hk2:=s3
   have hb2:Below w.heap.size w w2:=hbl.trans (hk2.below (by simp) (by simp))
   have hz:(w.alloc (.cells #[.string ⟨#[114,101,103,105,115,116,101,114]⟩,.slice none 0 0,.slice none 0 0,.slice none 0 0] 67)).heap.size=w.heap.size+1:=by simp
   have hz2:w2.heap.size=w.heap.size+2:=by rw [hw2];simp
   rw [hz] at s1 s2
   clear hw2 hbl hb s3 hk2
   go_wp2
   go_ret
   exact ⟨_,_,rfl,s2,fun x hx=>by simp at hx;omega,s1,hb2⟩
 all_goals
  unfold modS
  first | unfold sKv | unfold zsK | unfold sSet | unfold zyy
  go_enter Tryz.func23,Tryz.ntmps23
  go_wp2
  go_ret
  exact ⟨.slice none 0 0,[],rfl,Or.inl ⟨rfl,rfl,rfl⟩,by simp,ziF _ _ _ rfl,(Below.refl _ _).alloc (Nat.le_refl _) _⟩

end Go.Proofs.YtlkidmafomjhgaaGreatDoor.keep
