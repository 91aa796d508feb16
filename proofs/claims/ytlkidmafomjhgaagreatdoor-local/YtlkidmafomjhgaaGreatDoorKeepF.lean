/- One text. -/
import Derived.Test.YtlkidmafomjhgaaGreatDoorKeepW
set_option maxHeartbeats 2000000
set_option maxRecDepth 100000
namespace Go.Proofs.YtlkidmafomjhgaaGreatDoor.keep
open Go.RowKit

def opA (id cl:Int) (name key:List UInt8) (arg exp call ret vk vn:Int):Value:=.agg #[.int .i64 id,.int .i64 cl,.string ⟨name.toArray⟩,.string ⟨key.toArray⟩,.int .i64 arg,.int .i64 exp,.int .i64 call,.int .i64 ret,.int .i64 vk,.int .i64 vn]
theorem zh0 {S R:List Nat} {a b c:World} (h:Kept S a b) (k:Kept R b c) (hR:∀ x∈R,x∈S∨a.heap.size≤x):Kept S a c:=
 ⟨k.os.trans h.os,k.tape.trans h.tape,k.output.trans h.output,Nat.le_trans h.size k.size,fun i hi hn=>(k.block i (Nat.lt_of_lt_of_le hi h.size) (fun hm=>(hR i hm).elim hn (fun h=>by omega))).trans (h.block i hi hn)⟩
theorem TStep.pre {S TS:List Nat} {w W w':World} (hb:Below w.heap.size w W) (h:TStep S TS W w'):TStep S TS w w':=by
 refine ⟨(Kept.of_below hb).trans h.kept,fun a ha hl=>?_,fun a ha hl=>?_⟩
 · have:=h.cells a ha (Nat.lt_of_lt_of_le hl hb.size)
   rw [hb.cell (p:=a) hl] at this
   exact this
 · exact (h.frozen a ha (Nat.lt_of_lt_of_le hl hb.size)).trans (hb.frozen (p:=a) hl)
theorem TStep.next {S TS R:List Nat} {w w1 w2:World} (h:TStep S TS w w1) (k:Kept R w1 w2) (hR:∀ x∈R,w.heap.size≤x):TStep S TS w w2:=by
 have hn:∀ a:Addr,a.block < w.heap.size→a.block∉R:=fun a ha hm=>by have:=hR _ hm;omega
 refine ⟨zh0 h.kept k (fun x hx=>Or.inr (hR x hx)),fun a ha hl=>?_,fun a ha hl=>?_⟩
 · rw [k.cell (p:=a) (Nat.lt_of_lt_of_le hl h.kept.size) (hn a hl)];exact h.cells a ha hl
 · exact (k.frozen (p:=a) (Nat.lt_of_lt_of_le hl h.kept.size) (hn a hl)).trans (h.frozen a ha hl)
structure DoIn (w W:World) (wb o:Nat) (TS:List Nat) (wc:Array Value) (oa:Option Addr) (n cap:Nat) (cl:Int) (name:List UInt8) (arg exp:Int):Prop where
 below:Below w.heap.size w W
 at_:ThAt W wb o TS wc n
 res:vBlk W (w.heap.size+1) 0 0
 c1:W.cell? ⟨w.heap.size,1,none⟩=some (.int .i64 cl)
 c2:W.cell? ⟨w.heap.size,2,none⟩=some (.string ⟨name.toArray⟩)
 c4:W.cell? ⟨w.heap.size,4,none⟩=some (.int .i64 arg)
 c5:W.cell? ⟨w.heap.size,5,none⟩=some (.int .i64 exp)
 cell:W.cell? ⟨wb,o,none⟩=some (.slice oa n cap)
 fz:W.frozen? ⟨wb,o,none⟩=false
 lt:wb < w.heap.size
 val:wc[o]?=some (.slice oa n cap)
 old:o < wc.size
 row:ThRow W TS (.slice oa n cap) n
theorem zM4 {w:World} {wb o n:Nat} {TS:List Nat} {wc:Array Value} (id cl:Int) (name key:List UInt8) (arg exp call ret vk vn:Int) (h:ThAt w wb o TS wc n):
 ∃ W oa cap,(w.alloc (.cells #[.int .i64 id,.int .i64 cl,.string ⟨name.toArray⟩,.string ⟨key.toArray⟩,.int .i64 arg,.int .i64 exp,.int .i64 call,.int .i64 ret,.int .i64 vk,.int .i64 vn] 48)).alloc (.cells #[.int .i64 0,.int .i64 0] 46)=W∧DoIn w W wb o TS wc oa n cap cl name arg exp:=by
 obtain ⟨v,hv,hr⟩:=h.row
 obtain ⟨oa,cap,rfl⟩:=hr.slice
 have hb:Below w.heap.size w ((w.alloc (.cells #[.int .i64 id,.int .i64 cl,.string ⟨name.toArray⟩,.string ⟨key.toArray⟩,.int .i64 arg,.int .i64 exp,.int .i64 call,.int .i64 ret,.int .i64 vk,.int .i64 vn] 48)).alloc (.cells #[.int .i64 0,.int .i64 0] 46)):=((Below.refl _ _).alloc (Nat.le_refl _) _).alloc (by simp) _
 have hO:((w.alloc (.cells #[.int .i64 id,.int .i64 cl,.string ⟨name.toArray⟩,.string ⟨key.toArray⟩,.int .i64 arg,.int .i64 exp,.int .i64 call,.int .i64 ret,.int .i64 vk,.int .i64 vn] 48)).alloc (.cells #[.int .i64 0,.int .i64 0] 46)).heap[w.heap.size]?=some (.cells #[.int .i64 id,.int .i64 cl,.string ⟨name.toArray⟩,.string ⟨key.toArray⟩,.int .i64 arg,.int .i64 exp,.int .i64 call,.int .i64 ret,.int .i64 vk,.int .i64 vn] 48):=(zD1 _ _ _ (by simp)).trans (ziF _ _ _ rfl)
 have h1:=h.step hb
 refine ⟨_,oa,cap,rfl,hb,h1,ziF _ _ _ (by simp),?_,?_,?_,?_,by rw [zBk h1.blk];exact hv,zBn h1.blk _,zBq h.blk,hv,(Array.getElem?_eq_some_iff.1 hv).1,?_⟩
 · rw [zBk hO];rfl
 · rw [zBk hO];rfl
 · rw [zBk hO];rfl
 · rw [zBk hO];rfl
 · obtain ⟨v2,hv2,hr2⟩:=h1.row
   rw [hv] at hv2
   rw [Option.some.inj hv2];exact hr2
theorem DoIn.drewN {w W:World} {wb o:Nat} {TS:List Nat} {wc:Array Value} {oa:Option Addr} {n cap:Nat} {cl:Int} {name:List UInt8} {arg exp:Int} (h:DoIn w W wb o TS wc oa n cap cl name arg exp) (k:Nat):DoIn w (W.drewN k) wb o TS wc oa n cap cl name arg exp:=
 ⟨below_drewN h.below k,h.at_.step (below_drewN (Below.refl _ _) k),h.res,h.c1,h.c2,h.c4,h.c5,h.cell,h.fz,h.lt,h.val,h.old,h.row.step (S:=[]) (TStep.of_kept ((Kept.refl [] W).drewN k) (by simp)) (fun _ h=>h)⟩
theorem zu9 (tm:Array Value) (W:World) (b:Nat) (k n:Int) (h7:tm[4]?.getD undef=.pointer (some ⟨b,0,none⟩)) (hb:vBlk W b k n):
 (results Tryz.f26 tm).run Tryz.prog W=.ok (.agg #[.int .i64 k,.int .i64 n]) W:=by
 have c0:W.cell? ⟨b,0,none⟩=some (.int .i64 k):=by rw [zBk hb];rfl
 have c1:W.cell? ⟨b,1,none⟩=some (.int .i64 n):=by rw [zBk hb];rfl
 simp [results,Tryz.results26,go_sem,h7,c0,c1]
theorem zXf {w w3:World} {wb o:Nat} {TS TS':List Nat} {wc:Array Value} {n0 lo:Nat} {ok:Int→Int→Prop} {v':Value} {n':Nat} (hlt:wb < w.heap.size) (hblk:w3.heap[wb]?=some (.cells (wc.setIfInBounds o v') 67 (0,0))) (hrow:ThRow w3 TS' v' n') (hst:TStep [wb] TS w w3)
 (h1:∀ x∈TS,x∈TS') (h2:∀ x∈TS',x∈TS∨w.heap.size≤x) (h3:w.heap.size+1∉TS') (hn:lo≤n') (hn2:n'≤n0+1) (k x:Int) (hok:ok k x):
 zaK wb o TS wc n0 lo ok w (.returned (.agg #[.int .i64 k,.int .i64 x])) ((w3.setCell ⟨w.heap.size+1,0,none⟩ (.int .i64 k)).setCell ⟨w.heap.size+1,1,none⟩ (.int .i64 x)):=by
 have hk:Kept [w.heap.size+1] w3 ((w3.setCell ⟨w.heap.size+1,0,none⟩ (.int .i64 k)).setCell ⟨w.heap.size+1,1,none⟩ (.int .i64 x)):=((Kept.refl _ _).setCell (p:=⟨w.heap.size+1,0,none⟩) (Or.inl (by simp)) _).setCell (p:=⟨w.heap.size+1,1,none⟩) (Or.inl (by simp)) _
 refine ⟨k,x,v',n',TS',rfl,hok,hn,hn2,h1,h2,(hk.block wb (zBq hblk) (by simp;omega)).trans hblk,hrow.step (S:=[w.heap.size+1]) (TStep.of_kept hk (fun y hy=>by simp only [List.mem_cons,List.not_mem_nil,or_false];rintro rfl;exact h3 hy)) (fun _ h=>h),hst.next hk (by simp)⟩
theorem zJl {w:World} {wb o n:Nat} {TS:List Nat} {wc:Array Value} (h:ThAt w wb o TS wc n):
 (w.setCell ⟨wb,o,none⟩ (.slice none 0 0)).heap[wb]?=some (.cells (wc.setIfInBounds o (.slice none 0 0)) 67 (0,0))∧ThRow (w.setCell ⟨wb,o,none⟩ (.slice none 0 0)) TS (.slice none 0 0) 0∧TStep [wb] TS w (w.setCell ⟨wb,o,none⟩ (.slice none 0 0))∧Kept [wb] w (w.setCell ⟨wb,o,none⟩ (.slice none 0 0)):=by
 have hk:Kept [wb] w (w.setCell ⟨wb,o,none⟩ (.slice none 0 0)):=(Kept.refl [wb] w).setCell (p:=⟨wb,o,none⟩) (Or.inl (by simp)) _
 exact ⟨by rw [zFg h.blk],Or.inl ⟨rfl,rfl⟩,TStep.of_kept hk (fun y hy=>by simp only [List.mem_cons,List.not_mem_nil,or_false];rintro rfl;exact h.ne hy),hk⟩
theorem zQK {wc:Array Value} {o:Nat} {v:Value} (h:wc[o]?=some v):wc.setIfInBounds o v=wc:=by
 apply Array.ext_getElem?
 intro i
 rw [Array.getElem?_setIfInBounds]
 split
 · rename_i hi
   subst hi
   have:=(Array.getElem?_eq_some_iff.1 h).1
   simp only [this,if_true]
   exact h.symm
 · rfl
theorem zVo (wb o n:Nat) (TS:List Nat) (wc:Array Value) (id cl:Int) (key:List UInt8) (arg exp call ret vk vn:Int) (w:World) (h:ThAt w wb o TS wc n) (hts:∀ x∈TS,x < w.heap.size) (hn:n≤1000000) (ha:small arg):
 Calls Tryz.prog 26 #[.pointer (some ⟨wb,o,none⟩),opA id cl [119,114,105,116,101] key arg exp call ret vk vn] w fun e w'=>zaK wb o TS wc n 1 (fun k n=>k=0∧n=0) w e w':=by
 unfold opA
 obtain ⟨W,oa,cap,hW,hI⟩:=zM4 id cl [119,114,105,116,101] key arg exp call ret vk vn h
 have c1:=hI.c1
 have c2:=hI.c2
 have c4:=hI.c4
 have c5:=hI.c5
 have hc:=hI.cell
 have hf:=hI.fz
 have hsz:=hI.below.size
 have hlt:=hI.lt
 have hltW:wb < W.heap.size:=by omega
 have hrb:=zBq hI.res
 have r0:W.cell? ⟨w.heap.size+1,0,none⟩=some (.int .i64 0):=by rw [zBk hI.res];rfl
 have r1:W.cell? ⟨w.heap.size+1,1,none⟩=some (.int .i64 0):=by rw [zBk hI.res];rfl
 have rf0:W.frozen? ⟨w.heap.size+1,0,none⟩=false:=zBn hI.res 0
 have rf1:W.frozen? ⟨w.heap.size+1,1,none⟩=false:=zBn hI.res 1
 go_enter Tryz.func26,Tryz.ntmps26
 go_wp2_with fail
 refine (zzT wb o oa n cap W hc).mono ?_
 rintro e w1 ⟨rfl,hw⟩
 have hw':=hw.symm
 clear hw
 subst hw'
 go_wp2_with fail
 refine (zR0 wb o _ arg W hc hf hltW).mono ?_
 rintro e w2 ⟨⟨vv,rfl⟩,hw2⟩
 obtain ⟨s1,s2,s3⟩:=zhI hI.at_ arg ha
 rw [←hw2] at s1 s2 s3
 have hk2:Kept [wb] W w2:=by rw [hw2];exact ((Kept.refl [wb] W).setCell (p:=⟨wb,o,none⟩) (Or.inl (by simp)) _).alloc _
 have hres2:vBlk w2 (w.heap.size+1) 0 0:=(hk2.block _ hrb (by simp;omega)).trans hI.res
 have hz2:=hk2.size
 clear hw2 c1 c2 c4 c5 hc hf r0 r1 rf0 rf1
 go_wp2_with fail
 refine (zDv _).mono ?_
 rintro e w3 ⟨rfl,hb3⟩
 have hres3:vBlk w3 (w.heap.size+1) 0 0:=hres2.below hb3
 have q0:w3.cell? ⟨w.heap.size+1,0,none⟩=some (.int .i64 0):=by rw [zBk hres3];rfl
 have q1:w3.cell? ⟨w.heap.size+1,1,none⟩=some (.int .i64 0):=by rw [zBk hres3];rfl
 have qf0:w3.frozen? ⟨w.heap.size+1,0,none⟩=false:=zBn hres3 0
 have qf1:w3.frozen? ⟨w.heap.size+1,1,none⟩=false:=zBn hres3 1
 go_wp2
 refine bodyPost_ret (v:=.agg #[.int .i64 0,.int .i64 0]) (zu9 _ _ (w.heap.size+1) 0 0 (by simp) (vBlk.set hres3 _ _)) rfl ?_
 exact zXf hlt ((hb3.block wb (zBq s1)).trans s1) (s2.step (S:=[]) (TStep.of_kept (Kept.of_below hb3) (by simp)) (fun _ h=>h)) ((TStep.pre hI.below s3).next (Kept.of_below (S:=[]) hb3) (by simp))
  (fun x hx=>by simp [hx]) (fun x hx=>by rcases List.mem_cons.1 hx with h | h;exact Or.inr (by omega);exact Or.inl h) (fun hm=>by rcases List.mem_cons.1 hm with h | h;omega;have:=hts _ h;omega) (by omega) (by omega) _ _ ⟨rfl,rfl⟩
theorem zh3 (wb o n:Nat) (TS:List Nat) (wc:Array Value) (id cl:Int) (key:List UInt8) (arg exp call ret vk vn:Int) (w:World) (h:ThAt w wb o TS wc n) (hts:∀ x∈TS,x < w.heap.size) (hn:n≤1000000) (ha:small arg):
 Calls Tryz.prog 26 #[.pointer (some ⟨wb,o,none⟩),opA id cl [112,117,116] key arg exp call ret vk vn] w fun e w'=>zaK wb o TS wc n 0 (fun k n=>k=0∧n=0) w e w':=by
 unfold opA
 obtain ⟨W,oa,cap,hW,hI⟩:=zM4 id cl [112,117,116] key arg exp call ret vk vn h
 have c1:=hI.c1
 have c2:=hI.c2
 have c4:=hI.c4
 have c5:=hI.c5
 have hc:=hI.cell
 have hf:=hI.fz
 have hsz:=hI.below.size
 have hlt:=hI.lt
 have hltW:wb < W.heap.size:=by omega
 have hrb:=zBq hI.res
 have r0:W.cell? ⟨w.heap.size+1,0,none⟩=some (.int .i64 0):=by rw [zBk hI.res];rfl
 have r1:W.cell? ⟨w.heap.size+1,1,none⟩=some (.int .i64 0):=by rw [zBk hI.res];rfl
 have rf0:W.frozen? ⟨w.heap.size+1,0,none⟩=false:=zBn hI.res 0
 have rf1:W.frozen? ⟨w.heap.size+1,1,none⟩=false:=zBn hI.res 1
 go_enter Tryz.func26,Tryz.ntmps26
 go_wp2_with fail
 refine (zzT wb o oa n cap W hc).mono ?_
 rintro e w1 ⟨rfl,hw⟩
 have hw':=hw.symm
 clear hw
 subst hw'
 go_wp2_with fail
 refine (zR0 wb o _ arg W hc hf hltW).mono ?_
 rintro e w2 ⟨⟨vv,rfl⟩,hw2⟩
 obtain ⟨s1,s2,s3⟩:=zhI hI.at_ arg ha
 rw [←hw2] at s1 s2 s3
 have hk2:Kept [wb] W w2:=by rw [hw2];exact ((Kept.refl [wb] W).setCell (p:=⟨wb,o,none⟩) (Or.inl (by simp)) _).alloc _
 have hres2:vBlk w2 (w.heap.size+1) 0 0:=(hk2.block _ hrb (by simp;omega)).trans hI.res
 have hz2:=hk2.size
 clear hw2 c1 c2 c4 c5 hc hf r0 r1 rf0 rf1
 go_wp2_with fail
 refine (zDv _).mono ?_
 rintro e w3 ⟨rfl,hb3⟩
 have hres3:vBlk w3 (w.heap.size+1) 0 0:=hres2.below hb3
 have q0:w3.cell? ⟨w.heap.size+1,0,none⟩=some (.int .i64 0):=by rw [zBk hres3];rfl
 have q1:w3.cell? ⟨w.heap.size+1,1,none⟩=some (.int .i64 0):=by rw [zBk hres3];rfl
 have qf0:w3.frozen? ⟨w.heap.size+1,0,none⟩=false:=zBn hres3 0
 have qf1:w3.frozen? ⟨w.heap.size+1,1,none⟩=false:=zBn hres3 1
 go_wp2
 refine bodyPost_ret (v:=.agg #[.int .i64 0,.int .i64 0]) (zu9 _ _ (w.heap.size+1) 0 0 (by simp) (vBlk.set hres3 _ _)) rfl ?_
 exact zXf hlt ((hb3.block wb (zBq s1)).trans s1) (s2.step (S:=[]) (TStep.of_kept (Kept.of_below hb3) (by simp)) (fun _ h=>h)) ((TStep.pre hI.below s3).next (Kept.of_below (S:=[]) hb3) (by simp))
  (fun x hx=>by simp [hx]) (fun x hx=>by rcases List.mem_cons.1 hx with h | h;exact Or.inr (by omega);exact Or.inl h) (fun hm=>by rcases List.mem_cons.1 hm with h | h;omega;have:=hts _ h;omega) (by omega) (by omega) _ _ ⟨rfl,rfl⟩
theorem zi2 (wb o n:Nat) (TS:List Nat) (wc:Array Value) (id cl:Int) (key:List UInt8) (arg exp call ret vk vn:Int) (w:World) (h:ThAt w wb o TS wc n) (hts:∀ x∈TS,x < w.heap.size) (hn:n≤1000000) (h1:1≤n):
 Calls Tryz.prog 26 #[.pointer (some ⟨wb,o,none⟩),opA id cl [114,101,97,100] key arg exp call ret vk vn] w fun e w'=>zaK wb o TS wc n 1 (fun k n=>k=1∧small n) w e w':=by
 unfold opA
 obtain ⟨W,oa,cap,hW,hI⟩:=zM4 id cl [114,101,97,100] key arg exp call ret vk vn h
 have c1:=hI.c1
 have c2:=hI.c2
 have c4:=hI.c4
 have c5:=hI.c5
 have hc:=hI.cell
 have hf:=hI.fz
 have hsz:=hI.below.size
 have hlt:=hI.lt
 have hltW:wb < W.heap.size:=by omega
 have hrb:=zBq hI.res
 have r0:W.cell? ⟨w.heap.size+1,0,none⟩=some (.int .i64 0):=by rw [zBk hI.res];rfl
 have r1:W.cell? ⟨w.heap.size+1,1,none⟩=some (.int .i64 0):=by rw [zBk hI.res];rfl
 have rf0:W.frozen? ⟨w.heap.size+1,0,none⟩=false:=zBn hI.res 0
 have rf1:W.frozen? ⟨w.heap.size+1,1,none⟩=false:=zBn hI.res 1
 go_enter Tryz.func26,Tryz.ntmps26
 go_wp2_with fail
 refine (zzT wb o oa n cap W hc).mono ?_
 rintro e w1 ⟨rfl,hw⟩
 have hw':=hw.symm
 clear hw
 subst hw'
 obtain ⟨g,off,cap',hoa,hg,hgl,hnc,hcm,hcs,hfr⟩:∃ g off cap',Value.slice oa n cap=.slice (some ⟨g,off,none⟩) n cap'∧g∈TS∧g < W.heap.size∧n≤cap'∧cap'≤maxLen∧
  (∀ j,j < n→∃ x,W.cell? ⟨g,off+j,none⟩=some (.int .i64 x)∧small x)∧(∀ j,j < cap'→(W.cell? ⟨g,off+j,none⟩).isSome=true∧W.frozen? ⟨g,off+j,none⟩=false):=by
  rcases hI.row with ⟨h0,_⟩ | h
  · omega
  · exact h
 injection hoa with hoa1 hoa2 hoa3
 subst hoa1
 subst hoa3
 obtain ⟨x,hx,hxs⟩:=hcs 0 (by omega)
 rw [Nat.add_zero] at hx
 have hn0:(0:Int) < (n:Int):=by omega
 have hnd:decide (0 < n)=true:=by simp;omega
 have hres2:=hI.res
 go_wp2_with fail
 refine (zyj x _).mono ?_
 rintro e w3 ⟨rfl,hb3⟩
 have hres3:vBlk w3 (w.heap.size+1) 0 0:=hres2.below hb3
 have q0:w3.cell? ⟨w.heap.size+1,0,none⟩=some (.int .i64 0):=by rw [zBk hres3];rfl
 have q1:w3.cell? ⟨w.heap.size+1,1,none⟩=some (.int .i64 0):=by rw [zBk hres3];rfl
 have qf0:w3.frozen? ⟨w.heap.size+1,0,none⟩=false:=zBn hres3 0
 have qf1:w3.frozen? ⟨w.heap.size+1,1,none⟩=false:=zBn hres3 1
 go_wp2
 refine bodyPost_ret (v:=.agg #[.int .i64 1,.int .i64 x]) (zu9 _ _ (w.heap.size+1) 1 x (by simp) (vBlk.set hres3 _ _)) rfl ?_
 exact zXf (TS':=TS) hlt (by rw [zQK hI.val];exact (hb3.block wb (zBq hI.at_.blk)).trans hI.at_.blk) (hI.row.step (S:=[]) (TStep.of_kept (Kept.of_below hb3) (by simp)) (fun _ h=>h)) ((TStep.pre hI.below (TStep.of_kept (S:=[wb]) (Kept.refl [wb] W) (fun y hy=>by simp only [List.mem_cons,List.not_mem_nil,or_false];rintro rfl;exact hI.at_.ne hy))).next (Kept.of_below (S:=[]) hb3) (by simp))
  (fun _ h=>h) (fun _ h=>Or.inl h) (fun hm=>by have:=hts _ hm;omega) (by omega) (by omega) _ _ ⟨rfl,hxs⟩
theorem zlt (wb o n:Nat) (TS:List Nat) (wc:Array Value) (id cl:Int) (key:List UInt8) (arg exp call ret vk vn:Int) (w:World) (h:ThAt w wb o TS wc n) (hts:∀ x∈TS,x < w.heap.size) (hn:n≤1000000) (h1:1≤n) (ha:small arg):
 Calls Tryz.prog 26 #[.pointer (some ⟨wb,o,none⟩),opA id cl [99,97,115] key arg exp call ret vk vn] w fun e w'=>zaK wb o TS wc n 1 (fun k n=>k=2∧(n=0∨n=1)) w e w':=by
 unfold opA
 obtain ⟨W,oa,cap,hW,hI⟩:=zM4 id cl [99,97,115] key arg exp call ret vk vn h
 have c1:=hI.c1
 have c2:=hI.c2
 have c4:=hI.c4
 have c5:=hI.c5
 have hc:=hI.cell
 have hf:=hI.fz
 have hsz:=hI.below.size
 have hlt:=hI.lt
 have hltW:wb < W.heap.size:=by omega
 have hrb:=zBq hI.res
 have r0:W.cell? ⟨w.heap.size+1,0,none⟩=some (.int .i64 0):=by rw [zBk hI.res];rfl
 have r1:W.cell? ⟨w.heap.size+1,1,none⟩=some (.int .i64 0):=by rw [zBk hI.res];rfl
 have rf0:W.frozen? ⟨w.heap.size+1,0,none⟩=false:=zBn hI.res 0
 have rf1:W.frozen? ⟨w.heap.size+1,1,none⟩=false:=zBn hI.res 1
 go_enter Tryz.func26,Tryz.ntmps26
 go_wp2_with fail
 refine (zzT wb o oa n cap W hc).mono ?_
 rintro e w1 ⟨rfl,hw⟩
 have hw':=hw.symm
 clear hw
 subst hw'
 obtain ⟨g,off,cap',hoa,hg,hgl,hnc,hcm,hcs,hfr⟩:∃ g off cap',Value.slice oa n cap=.slice (some ⟨g,off,none⟩) n cap'∧g∈TS∧g < W.heap.size∧n≤cap'∧cap'≤maxLen∧
  (∀ j,j < n→∃ x,W.cell? ⟨g,off+j,none⟩=some (.int .i64 x)∧small x)∧(∀ j,j < cap'→(W.cell? ⟨g,off+j,none⟩).isSome=true∧W.frozen? ⟨g,off+j,none⟩=false):=by
  rcases hI.row with ⟨h0,_⟩ | h
  · omega
  · exact h
 injection hoa with hoa1 hoa2 hoa3
 subst hoa1
 subst hoa3
 obtain ⟨x,hx,hxs⟩:=hcs 0 (by omega)
 rw [Nat.add_zero] at hx
 have hn0:(0:Int) < (n:Int):=by omega
 have hnd:decide (0 < n)=true:=by simp;omega
 by_cases he:x=exp
 · have he':(x == exp)=true:=by simp [he]
   clear he
   go_wp2
   go_quiet (fail)
   replace hI:=hI.drewN nq
   clear c1 c2 c4 c5 hc hf hsz hltW hrb r0 r1 rf0 rf1
   generalize W.drewN nq=W at*
   have c1:=hI.c1
   have c2:=hI.c2
   have c4:=hI.c4
   have c5:=hI.c5
   have hc:=hI.cell
   have hf:=hI.fz
   have hsz:=hI.below.size
   have hltW:wb < W.heap.size:=by omega
   have hrb:=zBq hI.res
   have r0:W.cell? ⟨w.heap.size+1,0,none⟩=some (.int .i64 0):=by rw [zBk hI.res];rfl
   have r1:W.cell? ⟨w.heap.size+1,1,none⟩=some (.int .i64 0):=by rw [zBk hI.res];rfl
   have rf0:W.frozen? ⟨w.heap.size+1,0,none⟩=false:=zBn hI.res 0
   have rf1:W.frozen? ⟨w.heap.size+1,1,none⟩=false:=zBn hI.res 1
   go_wp2_with fail
   refine (zR0 wb o _ arg W hc hf hltW).mono ?_
   rintro e w2 ⟨⟨vv,rfl⟩,hw2⟩
   obtain ⟨s1,s2,s3⟩:=zhI hI.at_ arg ha
   rw [←hw2] at s1 s2 s3
   have hk2:Kept [wb] W w2:=by rw [hw2];exact ((Kept.refl [wb] W).setCell (p:=⟨wb,o,none⟩) (Or.inl (by simp)) _).alloc _
   have hres2:vBlk w2 (w.heap.size+1) 0 0:=(hk2.block _ hrb (by simp;omega)).trans hI.res
   have hz2:=hk2.size
   clear hw2 c1 c2 c4 c5 hc hf r0 r1 rf0 rf1
   go_wp2_with fail
   refine (ze7 true _).mono ?_
   rintro e w3 ⟨rfl,hb3⟩
   have hres3:vBlk w3 (w.heap.size+1) 0 0:=hres2.below hb3
   have q0:w3.cell? ⟨w.heap.size+1,0,none⟩=some (.int .i64 0):=by rw [zBk hres3];rfl
   have q1:w3.cell? ⟨w.heap.size+1,1,none⟩=some (.int .i64 0):=by rw [zBk hres3];rfl
   have qf0:w3.frozen? ⟨w.heap.size+1,0,none⟩=false:=zBn hres3 0
   have qf1:w3.frozen? ⟨w.heap.size+1,1,none⟩=false:=zBn hres3 1
   go_wp2
   refine bodyPost_ret (v:=.agg #[.int .i64 2,.int .i64 1]) (zu9 _ _ (w.heap.size+1) 2 1 (by simp) (vBlk.set hres3 _ _)) rfl ?_
   exact zXf hlt ((hb3.block wb (zBq s1)).trans s1) (s2.step (S:=[]) (TStep.of_kept (Kept.of_below hb3) (by simp)) (fun _ h=>h)) ((TStep.pre hI.below s3).next (Kept.of_below (S:=[]) hb3) (by simp))
    (fun x hx=>by simp [hx]) (fun x hx=>by rcases List.mem_cons.1 hx with h | h;exact Or.inr (by omega);exact Or.inl h) (fun hm=>by rcases List.mem_cons.1 hm with h | h;omega;have:=hts _ h;omega) (by omega) (by omega) _ _ ⟨rfl,Or.inr rfl⟩
 · have he':(x == exp)=false:=by simp [he]
   clear he
   go_wp2
   go_quiet (fail)
   replace hI:=hI.drewN nq
   clear c1 c2 c4 c5 hc hf hsz hltW hrb r0 r1 rf0 rf1
   generalize W.drewN nq=W at*
   have c1:=hI.c1
   have c2:=hI.c2
   have c4:=hI.c4
   have c5:=hI.c5
   have hc:=hI.cell
   have hf:=hI.fz
   have hsz:=hI.below.size
   have hltW:wb < W.heap.size:=by omega
   have hrb:=zBq hI.res
   have r0:W.cell? ⟨w.heap.size+1,0,none⟩=some (.int .i64 0):=by rw [zBk hI.res];rfl
   have r1:W.cell? ⟨w.heap.size+1,1,none⟩=some (.int .i64 0):=by rw [zBk hI.res];rfl
   have rf0:W.frozen? ⟨w.heap.size+1,0,none⟩=false:=zBn hI.res 0
   have rf1:W.frozen? ⟨w.heap.size+1,1,none⟩=false:=zBn hI.res 1
   have hres2:=hI.res
   go_wp2_with fail
   refine (ze7 false _).mono ?_
   rintro e w3 ⟨rfl,hb3⟩
   have hres3:vBlk w3 (w.heap.size+1) 0 0:=hres2.below hb3
   have q0:w3.cell? ⟨w.heap.size+1,0,none⟩=some (.int .i64 0):=by rw [zBk hres3];rfl
   have q1:w3.cell? ⟨w.heap.size+1,1,none⟩=some (.int .i64 0):=by rw [zBk hres3];rfl
   have qf0:w3.frozen? ⟨w.heap.size+1,0,none⟩=false:=zBn hres3 0
   have qf1:w3.frozen? ⟨w.heap.size+1,1,none⟩=false:=zBn hres3 1
   go_wp2
   refine bodyPost_ret (v:=.agg #[.int .i64 2,.int .i64 0]) (zu9 _ _ (w.heap.size+1) 2 0 (by simp) (vBlk.set hres3 _ _)) rfl ?_
   exact zXf (TS':=TS) hlt (by rw [zQK hI.val];exact (hb3.block wb (zBq hI.at_.blk)).trans hI.at_.blk) (hI.row.step (S:=[]) (TStep.of_kept (Kept.of_below hb3) (by simp)) (fun _ h=>h)) ((TStep.pre hI.below (TStep.of_kept (S:=[wb]) (Kept.refl [wb] W) (fun y hy=>by simp only [List.mem_cons,List.not_mem_nil,or_false];rintro rfl;exact hI.at_.ne hy))).next (Kept.of_below (S:=[]) hb3) (by simp))
    (fun _ h=>h) (fun _ h=>Or.inl h) (fun hm=>by have:=hts _ hm;omega) (by omega) (by omega) _ _ ⟨rfl,Or.inl rfl⟩
theorem zUG (wb o n:Nat) (TS:List Nat) (wc:Array Value) (id cl:Int) (key:List UInt8) (arg exp call ret vk vn:Int) (w:World) (h:ThAt w wb o TS wc n) (hts:∀ x∈TS,x < w.heap.size) (hn:n≤1000000):
 Calls Tryz.prog 26 #[.pointer (some ⟨wb,o,none⟩),opA id cl [103,101,116] key arg exp call ret vk vn] w fun e w'=>zaK wb o TS wc n 0 (fun k n=>(k=1∧small n)∨(k=0∧n=0)) w e w':=by
 unfold opA
 obtain ⟨W,oa,cap,hW,hI⟩:=zM4 id cl [103,101,116] key arg exp call ret vk vn h
 have c1:=hI.c1
 have c2:=hI.c2
 have c4:=hI.c4
 have c5:=hI.c5
 have hc:=hI.cell
 have hf:=hI.fz
 have hsz:=hI.below.size
 have hlt:=hI.lt
 have hltW:wb < W.heap.size:=by omega
 have hrb:=zBq hI.res
 have r0:W.cell? ⟨w.heap.size+1,0,none⟩=some (.int .i64 0):=by rw [zBk hI.res];rfl
 have r1:W.cell? ⟨w.heap.size+1,1,none⟩=some (.int .i64 0):=by rw [zBk hI.res];rfl
 have rf0:W.frozen? ⟨w.heap.size+1,0,none⟩=false:=zBn hI.res 0
 have rf1:W.frozen? ⟨w.heap.size+1,1,none⟩=false:=zBn hI.res 1
 go_enter Tryz.func26,Tryz.ntmps26
 go_wp2_with fail
 refine (zzT wb o oa n cap W hc).mono ?_
 rintro e w1 ⟨rfl,hw⟩
 have hw':=hw.symm
 clear hw
 subst hw'
 by_cases h1:1≤n
 · skip
   obtain ⟨g,off,cap',hoa,hg,hgl,hnc,hcm,hcs,hfr⟩:∃ g off cap',Value.slice oa n cap=.slice (some ⟨g,off,none⟩) n cap'∧g∈TS∧g < W.heap.size∧n≤cap'∧cap'≤maxLen∧
    (∀ j,j < n→∃ x,W.cell? ⟨g,off+j,none⟩=some (.int .i64 x)∧small x)∧(∀ j,j < cap'→(W.cell? ⟨g,off+j,none⟩).isSome=true∧W.frozen? ⟨g,off+j,none⟩=false):=by
    rcases hI.row with ⟨h0,_⟩ | h
    · omega
    · exact h
   injection hoa with hoa1 hoa2 hoa3
   subst hoa1
   subst hoa3
   obtain ⟨x,hx,hxs⟩:=hcs 0 (by omega)
   rw [Nat.add_zero] at hx
   have hn0:(0:Int) < (n:Int):=by omega
   have hnd:decide (0 < n)=true:=by simp;omega
   have hres2:=hI.res
   go_wp2_with fail
   refine (zyj x _).mono ?_
   rintro e w3 ⟨rfl,hb3⟩
   have hres3:vBlk w3 (w.heap.size+1) 0 0:=hres2.below hb3
   have q0:w3.cell? ⟨w.heap.size+1,0,none⟩=some (.int .i64 0):=by rw [zBk hres3];rfl
   have q1:w3.cell? ⟨w.heap.size+1,1,none⟩=some (.int .i64 0):=by rw [zBk hres3];rfl
   have qf0:w3.frozen? ⟨w.heap.size+1,0,none⟩=false:=zBn hres3 0
   have qf1:w3.frozen? ⟨w.heap.size+1,1,none⟩=false:=zBn hres3 1
   go_wp2
   refine bodyPost_ret (v:=.agg #[.int .i64 1,.int .i64 x]) (zu9 _ _ (w.heap.size+1) 1 x (by simp) (vBlk.set hres3 _ _)) rfl ?_
   exact zXf (TS':=TS) hlt (by rw [zQK hI.val];exact (hb3.block wb (zBq hI.at_.blk)).trans hI.at_.blk) (hI.row.step (S:=[]) (TStep.of_kept (Kept.of_below hb3) (by simp)) (fun _ h=>h)) ((TStep.pre hI.below (TStep.of_kept (S:=[wb]) (Kept.refl [wb] W) (fun y hy=>by simp only [List.mem_cons,List.not_mem_nil,or_false];rintro rfl;exact hI.at_.ne hy))).next (Kept.of_below (S:=[]) hb3) (by simp))
    (fun _ h=>h) (fun _ h=>Or.inl h) (fun hm=>by have:=hts _ hm;omega) (by omega) (by omega) _ _ (Or.inl ⟨rfl,hxs⟩)
 · have hnd:decide (0 < n)=false:=by simp;omega
   have hres2:=hI.res
   go_wp2_with fail
   refine (zDv _).mono ?_
   rintro e w3 ⟨rfl,hb3⟩
   have hres3:vBlk w3 (w.heap.size+1) 0 0:=hres2.below hb3
   have q0:w3.cell? ⟨w.heap.size+1,0,none⟩=some (.int .i64 0):=by rw [zBk hres3];rfl
   have q1:w3.cell? ⟨w.heap.size+1,1,none⟩=some (.int .i64 0):=by rw [zBk hres3];rfl
   have qf0:w3.frozen? ⟨w.heap.size+1,0,none⟩=false:=zBn hres3 0
   have qf1:w3.frozen? ⟨w.heap.size+1,1,none⟩=false:=zBn hres3 1
   go_wp2
   refine bodyPost_ret (v:=.agg #[.int .i64 0,.int .i64 0]) (zu9 _ _ (w.heap.size+1) 0 0 (by simp) (vBlk.set hres3 _ _)) rfl ?_
   exact zXf (TS':=TS) hlt (by rw [zQK hI.val];exact (hb3.block wb (zBq hI.at_.blk)).trans hI.at_.blk) (hI.row.step (S:=[]) (TStep.of_kept (Kept.of_below hb3) (by simp)) (fun _ h=>h)) ((TStep.pre hI.below (TStep.of_kept (S:=[wb]) (Kept.refl [wb] W) (fun y hy=>by simp only [List.mem_cons,List.not_mem_nil,or_false];rintro rfl;exact hI.at_.ne hy))).next (Kept.of_below (S:=[]) hb3) (by simp))
    (fun _ h=>h) (fun _ h=>Or.inl h) (fun hm=>by have:=hts _ hm;omega) (by omega) (by omega) _ _ (Or.inr ⟨rfl,rfl⟩)
theorem zp5 (wb o n:Nat) (TS:List Nat) (wc:Array Value) (id cl:Int) (key:List UInt8) (arg exp call ret vk vn:Int) (w:World) (h:ThAt w wb o TS wc n) (hts:∀ x∈TS,x < w.heap.size) (hn:n≤1000000):
 Calls Tryz.prog 26 #[.pointer (some ⟨wb,o,none⟩),opA id cl [100,101,108] key arg exp call ret vk vn] w fun e w'=>zaK wb o TS wc n 0 (fun k n=>k=2∧(n=0∨n=1)) w e w':=by
 unfold opA
 obtain ⟨W,oa,cap,hW,hI⟩:=zM4 id cl [100,101,108] key arg exp call ret vk vn h
 have c1:=hI.c1
 have c2:=hI.c2
 have c4:=hI.c4
 have c5:=hI.c5
 have hc:=hI.cell
 have hf:=hI.fz
 have hsz:=hI.below.size
 have hlt:=hI.lt
 have hltW:wb < W.heap.size:=by omega
 have hrb:=zBq hI.res
 have r0:W.cell? ⟨w.heap.size+1,0,none⟩=some (.int .i64 0):=by rw [zBk hI.res];rfl
 have r1:W.cell? ⟨w.heap.size+1,1,none⟩=some (.int .i64 0):=by rw [zBk hI.res];rfl
 have rf0:W.frozen? ⟨w.heap.size+1,0,none⟩=false:=zBn hI.res 0
 have rf1:W.frozen? ⟨w.heap.size+1,1,none⟩=false:=zBn hI.res 1
 go_enter Tryz.func26,Tryz.ntmps26
 go_wp2_with fail
 refine (zzT wb o oa n cap W hc).mono ?_
 rintro e w1 ⟨rfl,hw⟩
 have hw':=hw.symm
 clear hw
 subst hw'
 by_cases h1:1≤n
 · have hnd:decide (0 < n)=true:=by simp;omega
   obtain ⟨s1,s2,s3,hk2⟩:=zJl hI.at_
   obtain ⟨w2,hw2⟩:∃ w2,W.setCell ⟨wb,o,none⟩ (.slice none 0 0)=w2:=⟨_,rfl⟩
   rw [hw2] at s1 s2 s3 hk2
   have hres2:vBlk w2 (w.heap.size+1) 0 0:=(hk2.block _ hrb (by simp;omega)).trans hI.res
   have hz2:=hk2.size
   go_wp2_with fail
   refine (ze7 true _).mono ?_
   rintro e w3 ⟨rfl,hb3⟩
   have hres3:vBlk w3 (w.heap.size+1) 0 0:=hres2.below hb3
   have q0:w3.cell? ⟨w.heap.size+1,0,none⟩=some (.int .i64 0):=by rw [zBk hres3];rfl
   have q1:w3.cell? ⟨w.heap.size+1,1,none⟩=some (.int .i64 0):=by rw [zBk hres3];rfl
   have qf0:w3.frozen? ⟨w.heap.size+1,0,none⟩=false:=zBn hres3 0
   have qf1:w3.frozen? ⟨w.heap.size+1,1,none⟩=false:=zBn hres3 1
   go_wp2
   refine bodyPost_ret (v:=.agg #[.int .i64 2,.int .i64 1]) (zu9 _ _ (w.heap.size+1) 2 1 (by simp) (vBlk.set hres3 _ _)) rfl ?_
   exact zXf hlt ((hb3.block wb (zBq s1)).trans s1) (s2.step (S:=[]) (TStep.of_kept (Kept.of_below hb3) (by simp)) (fun _ h=>h)) ((TStep.pre hI.below s3).next (Kept.of_below (S:=[]) hb3) (by simp))
    (fun _ h=>h) (fun _ h=>Or.inl h) (fun hm=>by have:=hts _ hm;omega) (by omega) (by omega) _ _ ⟨rfl,Or.inr rfl⟩
 · have hnd:decide (0 < n)=false:=by simp;omega
   obtain ⟨s1,s2,s3,hk2⟩:=zJl hI.at_
   obtain ⟨w2,hw2⟩:∃ w2,W.setCell ⟨wb,o,none⟩ (.slice none 0 0)=w2:=⟨_,rfl⟩
   rw [hw2] at s1 s2 s3 hk2
   have hres2:vBlk w2 (w.heap.size+1) 0 0:=(hk2.block _ hrb (by simp;omega)).trans hI.res
   have hz2:=hk2.size
   go_wp2_with fail
   refine (ze7 false _).mono ?_
   rintro e w3 ⟨rfl,hb3⟩
   have hres3:vBlk w3 (w.heap.size+1) 0 0:=hres2.below hb3
   have q0:w3.cell? ⟨w.heap.size+1,0,none⟩=some (.int .i64 0):=by rw [zBk hres3];rfl
   have q1:w3.cell? ⟨w.heap.size+1,1,none⟩=some (.int .i64 0):=by rw [zBk hres3];rfl
   have qf0:w3.frozen? ⟨w.heap.size+1,0,none⟩=false:=zBn hres3 0
   have qf1:w3.frozen? ⟨w.heap.size+1,1,none⟩=false:=zBn hres3 1
   go_wp2
   refine bodyPost_ret (v:=.agg #[.int .i64 2,.int .i64 0]) (zu9 _ _ (w.heap.size+1) 2 0 (by simp) (vBlk.set hres3 _ _)) rfl ?_
   exact zXf hlt ((hb3.block wb (zBq s1)).trans s1) (s2.step (S:=[]) (TStep.of_kept (Kept.of_below hb3) (by simp)) (fun _ h=>h)) ((TStep.pre hI.below s3).next (Kept.of_below (S:=[]) hb3) (by simp))
    (fun _ h=>h) (fun _ h=>Or.inl h) (fun hm=>by have:=hts _ hm;omega) (by omega) (by omega) _ _ ⟨rfl,Or.inl rfl⟩
theorem zTg (wb o n:Nat) (TS:List Nat) (wc:Array Value) (id cl:Int) (key:List UInt8) (arg exp call ret vk vn:Int) (w:World) (h:ThAt w wb o TS wc n) (hts:∀ x∈TS,x < w.heap.size) (hn:n≤1000000):
 Calls Tryz.prog 26 #[.pointer (some ⟨wb,o,none⟩),opA id cl [114,101,109] key arg exp call ret vk vn] w fun e w'=>zaK wb o TS wc n 0 (fun k n=>k=2∧(n=0∨n=1)) w e w':=by
 unfold opA
 obtain ⟨W,oa,cap,hW,hI⟩:=zM4 id cl [114,101,109] key arg exp call ret vk vn h
 have c1:=hI.c1
 have c2:=hI.c2
 have c4:=hI.c4
 have c5:=hI.c5
 have hc:=hI.cell
 have hf:=hI.fz
 have hsz:=hI.below.size
 have hlt:=hI.lt
 have hltW:wb < W.heap.size:=by omega
 have hrb:=zBq hI.res
 have r0:W.cell? ⟨w.heap.size+1,0,none⟩=some (.int .i64 0):=by rw [zBk hI.res];rfl
 have r1:W.cell? ⟨w.heap.size+1,1,none⟩=some (.int .i64 0):=by rw [zBk hI.res];rfl
 have rf0:W.frozen? ⟨w.heap.size+1,0,none⟩=false:=zBn hI.res 0
 have rf1:W.frozen? ⟨w.heap.size+1,1,none⟩=false:=zBn hI.res 1
 go_enter Tryz.func26,Tryz.ntmps26
 go_wp2_with fail
 refine (zzT wb o oa n cap W hc).mono ?_
 rintro e w1 ⟨rfl,hw⟩
 have hw':=hw.symm
 clear hw
 subst hw'
 by_cases h1:1≤n
 · have hnd:decide (0 < n)=true:=by simp;omega
   obtain ⟨s1,s2,s3,hk2⟩:=zJl hI.at_
   obtain ⟨w2,hw2⟩:∃ w2,W.setCell ⟨wb,o,none⟩ (.slice none 0 0)=w2:=⟨_,rfl⟩
   rw [hw2] at s1 s2 s3 hk2
   have hres2:vBlk w2 (w.heap.size+1) 0 0:=(hk2.block _ hrb (by simp;omega)).trans hI.res
   have hz2:=hk2.size
   go_wp2_with fail
   refine (ze7 true _).mono ?_
   rintro e w3 ⟨rfl,hb3⟩
   have hres3:vBlk w3 (w.heap.size+1) 0 0:=hres2.below hb3
   have q0:w3.cell? ⟨w.heap.size+1,0,none⟩=some (.int .i64 0):=by rw [zBk hres3];rfl
   have q1:w3.cell? ⟨w.heap.size+1,1,none⟩=some (.int .i64 0):=by rw [zBk hres3];rfl
   have qf0:w3.frozen? ⟨w.heap.size+1,0,none⟩=false:=zBn hres3 0
   have qf1:w3.frozen? ⟨w.heap.size+1,1,none⟩=false:=zBn hres3 1
   go_wp2
   refine bodyPost_ret (v:=.agg #[.int .i64 2,.int .i64 1]) (zu9 _ _ (w.heap.size+1) 2 1 (by simp) (vBlk.set hres3 _ _)) rfl ?_
   exact zXf hlt ((hb3.block wb (zBq s1)).trans s1) (s2.step (S:=[]) (TStep.of_kept (Kept.of_below hb3) (by simp)) (fun _ h=>h)) ((TStep.pre hI.below s3).next (Kept.of_below (S:=[]) hb3) (by simp))
    (fun _ h=>h) (fun _ h=>Or.inl h) (fun hm=>by have:=hts _ hm;omega) (by omega) (by omega) _ _ ⟨rfl,Or.inr rfl⟩
 · have hnd:decide (0 < n)=false:=by simp;omega
   obtain ⟨s1,s2,s3,hk2⟩:=zJl hI.at_
   obtain ⟨w2,hw2⟩:∃ w2,W.setCell ⟨wb,o,none⟩ (.slice none 0 0)=w2:=⟨_,rfl⟩
   rw [hw2] at s1 s2 s3 hk2
   have hres2:vBlk w2 (w.heap.size+1) 0 0:=(hk2.block _ hrb (by simp;omega)).trans hI.res
   have hz2:=hk2.size
   go_wp2_with fail
   refine (ze7 false _).mono ?_
   rintro e w3 ⟨rfl,hb3⟩
   have hres3:vBlk w3 (w.heap.size+1) 0 0:=hres2.below hb3
   have q0:w3.cell? ⟨w.heap.size+1,0,none⟩=some (.int .i64 0):=by rw [zBk hres3];rfl
   have q1:w3.cell? ⟨w.heap.size+1,1,none⟩=some (.int .i64 0):=by rw [zBk hres3];rfl
   have qf0:w3.frozen? ⟨w.heap.size+1,0,none⟩=false:=zBn hres3 0
   have qf1:w3.frozen? ⟨w.heap.size+1,1,none⟩=false:=zBn hres3 1
   go_wp2
   refine bodyPost_ret (v:=.agg #[.int .i64 2,.int .i64 0]) (zu9 _ _ (w.heap.size+1) 2 0 (by simp) (vBlk.set hres3 _ _)) rfl ?_
   exact zXf hlt ((hb3.block wb (zBq s1)).trans s1) (s2.step (S:=[]) (TStep.of_kept (Kept.of_below hb3) (by simp)) (fun _ h=>h)) ((TStep.pre hI.below s3).next (Kept.of_below (S:=[]) hb3) (by simp))
    (fun _ h=>h) (fun _ h=>Or.inl h) (fun hm=>by have:=hts _ hm;omega) (by omega) (by omega) _ _ ⟨rfl,Or.inl rfl⟩
theorem zPf (wb o n:Nat) (TS:List Nat) (wc:Array Value) (id cl:Int) (key:List UInt8) (arg exp call ret vk vn:Int) (w:World) (h:ThAt w wb o TS wc n) (hts:∀ x∈TS,x < w.heap.size) (hn:n≤1000000):
 Calls Tryz.prog 26 #[.pointer (some ⟨wb,o,none⟩),opA id cl [104,97,115] key arg exp call ret vk vn] w fun e w'=>zaK wb o TS wc n 0 (fun k n=>k=2∧(n=0∨n=1)) w e w':=by
 unfold opA
 obtain ⟨W,oa,cap,hW,hI⟩:=zM4 id cl [104,97,115] key arg exp call ret vk vn h
 have c1:=hI.c1
 have c2:=hI.c2
 have c4:=hI.c4
 have c5:=hI.c5
 have hc:=hI.cell
 have hf:=hI.fz
 have hsz:=hI.below.size
 have hlt:=hI.lt
 have hltW:wb < W.heap.size:=by omega
 have hrb:=zBq hI.res
 have r0:W.cell? ⟨w.heap.size+1,0,none⟩=some (.int .i64 0):=by rw [zBk hI.res];rfl
 have r1:W.cell? ⟨w.heap.size+1,1,none⟩=some (.int .i64 0):=by rw [zBk hI.res];rfl
 have rf0:W.frozen? ⟨w.heap.size+1,0,none⟩=false:=zBn hI.res 0
 have rf1:W.frozen? ⟨w.heap.size+1,1,none⟩=false:=zBn hI.res 1
 go_enter Tryz.func26,Tryz.ntmps26
 go_wp2_with fail
 refine (zzT wb o oa n cap W hc).mono ?_
 rintro e w1 ⟨rfl,hw⟩
 have hw':=hw.symm
 clear hw
 subst hw'
 by_cases h1:1≤n
 · have hnd:decide (0 < n)=true:=by simp;omega
   have hres2:=hI.res
   go_wp2_with fail
   refine (ze7 true _).mono ?_
   rintro e w3 ⟨rfl,hb3⟩
   have hres3:vBlk w3 (w.heap.size+1) 0 0:=hres2.below hb3
   have q0:w3.cell? ⟨w.heap.size+1,0,none⟩=some (.int .i64 0):=by rw [zBk hres3];rfl
   have q1:w3.cell? ⟨w.heap.size+1,1,none⟩=some (.int .i64 0):=by rw [zBk hres3];rfl
   have qf0:w3.frozen? ⟨w.heap.size+1,0,none⟩=false:=zBn hres3 0
   have qf1:w3.frozen? ⟨w.heap.size+1,1,none⟩=false:=zBn hres3 1
   go_wp2
   refine bodyPost_ret (v:=.agg #[.int .i64 2,.int .i64 1]) (zu9 _ _ (w.heap.size+1) 2 1 (by simp) (vBlk.set hres3 _ _)) rfl ?_
   exact zXf (TS':=TS) hlt (by rw [zQK hI.val];exact (hb3.block wb (zBq hI.at_.blk)).trans hI.at_.blk) (hI.row.step (S:=[]) (TStep.of_kept (Kept.of_below hb3) (by simp)) (fun _ h=>h)) ((TStep.pre hI.below (TStep.of_kept (S:=[wb]) (Kept.refl [wb] W) (fun y hy=>by simp only [List.mem_cons,List.not_mem_nil,or_false];rintro rfl;exact hI.at_.ne hy))).next (Kept.of_below (S:=[]) hb3) (by simp))
    (fun _ h=>h) (fun _ h=>Or.inl h) (fun hm=>by have:=hts _ hm;omega) (by omega) (by omega) _ _ ⟨rfl,Or.inr rfl⟩
 · have hnd:decide (0 < n)=false:=by simp;omega
   have hres2:=hI.res
   go_wp2_with fail
   refine (ze7 false _).mono ?_
   rintro e w3 ⟨rfl,hb3⟩
   have hres3:vBlk w3 (w.heap.size+1) 0 0:=hres2.below hb3
   have q0:w3.cell? ⟨w.heap.size+1,0,none⟩=some (.int .i64 0):=by rw [zBk hres3];rfl
   have q1:w3.cell? ⟨w.heap.size+1,1,none⟩=some (.int .i64 0):=by rw [zBk hres3];rfl
   have qf0:w3.frozen? ⟨w.heap.size+1,0,none⟩=false:=zBn hres3 0
   have qf1:w3.frozen? ⟨w.heap.size+1,1,none⟩=false:=zBn hres3 1
   go_wp2
   refine bodyPost_ret (v:=.agg #[.int .i64 2,.int .i64 0]) (zu9 _ _ (w.heap.size+1) 2 0 (by simp) (vBlk.set hres3 _ _)) rfl ?_
   exact zXf (TS':=TS) hlt (by rw [zQK hI.val];exact (hb3.block wb (zBq hI.at_.blk)).trans hI.at_.blk) (hI.row.step (S:=[]) (TStep.of_kept (Kept.of_below hb3) (by simp)) (fun _ h=>h)) ((TStep.pre hI.below (TStep.of_kept (S:=[wb]) (Kept.refl [wb] W) (fun y hy=>by simp only [List.mem_cons,List.not_mem_nil,or_false];rintro rfl;exact hI.at_.ne hy))).next (Kept.of_below (S:=[]) hb3) (by simp))
    (fun _ h=>h) (fun _ h=>Or.inl h) (fun hm=>by have:=hts _ hm;omega) (by omega) (by omega) _ _ ⟨rfl,Or.inl rfl⟩
theorem zFc (wb o n:Nat) (TS:List Nat) (wc:Array Value) (id cl:Int) (key:List UInt8) (arg exp call ret vk vn:Int) (w:World) (h:ThAt w wb o TS wc n) (hts:∀ x∈TS,x < w.heap.size) (hn:n≤1000000):
 Calls Tryz.prog 26 #[.pointer (some ⟨wb,o,none⟩),opA id cl [97,100,100] key arg exp call ret vk vn] w fun e w'=>zaK wb o TS wc n 0 (fun k n=>k=2∧(n=0∨n=1)) w e w':=by
 unfold opA
 obtain ⟨W,oa,cap,hW,hI⟩:=zM4 id cl [97,100,100] key arg exp call ret vk vn h
 have c1:=hI.c1
 have c2:=hI.c2
 have c4:=hI.c4
 have c5:=hI.c5
 have hc:=hI.cell
 have hf:=hI.fz
 have hsz:=hI.below.size
 have hlt:=hI.lt
 have hltW:wb < W.heap.size:=by omega
 have hrb:=zBq hI.res
 have r0:W.cell? ⟨w.heap.size+1,0,none⟩=some (.int .i64 0):=by rw [zBk hI.res];rfl
 have r1:W.cell? ⟨w.heap.size+1,1,none⟩=some (.int .i64 0):=by rw [zBk hI.res];rfl
 have rf0:W.frozen? ⟨w.heap.size+1,0,none⟩=false:=zBn hI.res 0
 have rf1:W.frozen? ⟨w.heap.size+1,1,none⟩=false:=zBn hI.res 1
 go_enter Tryz.func26,Tryz.ntmps26
 go_wp2_with fail
 refine (zzT wb o oa n cap W hc).mono ?_
 rintro e w1 ⟨rfl,hw⟩
 have hw':=hw.symm
 clear hw
 subst hw'
 by_cases h1:1≤n
 · have hnd:decide (0 < n)=true:=by simp;omega
   go_wp2_with fail
   refine (zR0 wb o _ 1 W hc hf hltW).mono ?_
   rintro e w2 ⟨⟨vv,rfl⟩,hw2⟩
   obtain ⟨s1,s2,s3⟩:=zhI hI.at_ 1 ⟨by omega,by omega⟩
   rw [←hw2] at s1 s2 s3
   have hk2:Kept [wb] W w2:=by rw [hw2];exact ((Kept.refl [wb] W).setCell (p:=⟨wb,o,none⟩) (Or.inl (by simp)) _).alloc _
   have hres2:vBlk w2 (w.heap.size+1) 0 0:=(hk2.block _ hrb (by simp;omega)).trans hI.res
   have hz2:=hk2.size
   clear hw2 c1 c2 c4 c5 hc hf r0 r1 rf0 rf1
   go_wp2_with fail
   refine (ze7 false _).mono ?_
   rintro e w3 ⟨rfl,hb3⟩
   have hres3:vBlk w3 (w.heap.size+1) 0 0:=hres2.below hb3
   have q0:w3.cell? ⟨w.heap.size+1,0,none⟩=some (.int .i64 0):=by rw [zBk hres3];rfl
   have q1:w3.cell? ⟨w.heap.size+1,1,none⟩=some (.int .i64 0):=by rw [zBk hres3];rfl
   have qf0:w3.frozen? ⟨w.heap.size+1,0,none⟩=false:=zBn hres3 0
   have qf1:w3.frozen? ⟨w.heap.size+1,1,none⟩=false:=zBn hres3 1
   go_wp2
   refine bodyPost_ret (v:=.agg #[.int .i64 2,.int .i64 0]) (zu9 _ _ (w.heap.size+1) 2 0 (by simp) (vBlk.set hres3 _ _)) rfl ?_
   exact zXf hlt ((hb3.block wb (zBq s1)).trans s1) (s2.step (S:=[]) (TStep.of_kept (Kept.of_below hb3) (by simp)) (fun _ h=>h)) ((TStep.pre hI.below s3).next (Kept.of_below (S:=[]) hb3) (by simp))
    (fun x hx=>by simp [hx]) (fun x hx=>by rcases List.mem_cons.1 hx with h | h;exact Or.inr (by omega);exact Or.inl h) (fun hm=>by rcases List.mem_cons.1 hm with h | h;omega;have:=hts _ h;omega) (by omega) (by omega) _ _ ⟨rfl,Or.inl rfl⟩
 · have hnd:decide (0 < n)=false:=by simp;omega
   go_wp2_with fail
   refine (zR0 wb o _ 1 W hc hf hltW).mono ?_
   rintro e w2 ⟨⟨vv,rfl⟩,hw2⟩
   obtain ⟨s1,s2,s3⟩:=zhI hI.at_ 1 ⟨by omega,by omega⟩
   rw [←hw2] at s1 s2 s3
   have hk2:Kept [wb] W w2:=by rw [hw2];exact ((Kept.refl [wb] W).setCell (p:=⟨wb,o,none⟩) (Or.inl (by simp)) _).alloc _
   have hres2:vBlk w2 (w.heap.size+1) 0 0:=(hk2.block _ hrb (by simp;omega)).trans hI.res
   have hz2:=hk2.size
   clear hw2 c1 c2 c4 c5 hc hf r0 r1 rf0 rf1
   go_wp2_with fail
   refine (ze7 true _).mono ?_
   rintro e w3 ⟨rfl,hb3⟩
   have hres3:vBlk w3 (w.heap.size+1) 0 0:=hres2.below hb3
   have q0:w3.cell? ⟨w.heap.size+1,0,none⟩=some (.int .i64 0):=by rw [zBk hres3];rfl
   have q1:w3.cell? ⟨w.heap.size+1,1,none⟩=some (.int .i64 0):=by rw [zBk hres3];rfl
   have qf0:w3.frozen? ⟨w.heap.size+1,0,none⟩=false:=zBn hres3 0
   have qf1:w3.frozen? ⟨w.heap.size+1,1,none⟩=false:=zBn hres3 1
   go_wp2
   refine bodyPost_ret (v:=.agg #[.int .i64 2,.int .i64 1]) (zu9 _ _ (w.heap.size+1) 2 1 (by simp) (vBlk.set hres3 _ _)) rfl ?_
   exact zXf hlt ((hb3.block wb (zBq s1)).trans s1) (s2.step (S:=[]) (TStep.of_kept (Kept.of_below hb3) (by simp)) (fun _ h=>h)) ((TStep.pre hI.below s3).next (Kept.of_below (S:=[]) hb3) (by simp))
    (fun x hx=>by simp [hx]) (fun x hx=>by rcases List.mem_cons.1 hx with h | h;exact Or.inr (by omega);exact Or.inl h) (fun hm=>by rcases List.mem_cons.1 hm with h | h;omega;have:=hts _ h;omega) (by omega) (by omega) _ _ ⟨rfl,Or.inr rfl⟩
theorem zIt (wb o n:Nat) (TS:List Nat) (wc:Array Value) (id cl:Int) (key:List UInt8) (arg exp call ret vk vn:Int) (w:World) (h:ThAt w wb o TS wc n) (hts:∀ x∈TS,x < w.heap.size) (hn:n≤1000000) (ha:small cl):
 Calls Tryz.prog 26 #[.pointer (some ⟨wb,o,none⟩),opA id cl [97,99,113] key arg exp call ret vk vn] w fun e w'=>zaK wb o TS wc n 0 (fun k n=>k=2∧(n=0∨n=1)) w e w':=by
 unfold opA
 obtain ⟨W,oa,cap,hW,hI⟩:=zM4 id cl [97,99,113] key arg exp call ret vk vn h
 have c1:=hI.c1
 have c2:=hI.c2
 have c4:=hI.c4
 have c5:=hI.c5
 have hc:=hI.cell
 have hf:=hI.fz
 have hsz:=hI.below.size
 have hlt:=hI.lt
 have hltW:wb < W.heap.size:=by omega
 have hrb:=zBq hI.res
 have r0:W.cell? ⟨w.heap.size+1,0,none⟩=some (.int .i64 0):=by rw [zBk hI.res];rfl
 have r1:W.cell? ⟨w.heap.size+1,1,none⟩=some (.int .i64 0):=by rw [zBk hI.res];rfl
 have rf0:W.frozen? ⟨w.heap.size+1,0,none⟩=false:=zBn hI.res 0
 have rf1:W.frozen? ⟨w.heap.size+1,1,none⟩=false:=zBn hI.res 1
 go_enter Tryz.func26,Tryz.ntmps26
 go_wp2_with fail
 refine (zzT wb o oa n cap W hc).mono ?_
 rintro e w1 ⟨rfl,hw⟩
 have hw':=hw.symm
 clear hw
 subst hw'
 by_cases h1:1≤n
 · have hnd:decide (0 < n)=true:=by simp;omega
   have hres2:=hI.res
   go_wp2_with fail
   refine (ze7 false _).mono ?_
   rintro e w3 ⟨rfl,hb3⟩
   have hres3:vBlk w3 (w.heap.size+1) 0 0:=hres2.below hb3
   have q0:w3.cell? ⟨w.heap.size+1,0,none⟩=some (.int .i64 0):=by rw [zBk hres3];rfl
   have q1:w3.cell? ⟨w.heap.size+1,1,none⟩=some (.int .i64 0):=by rw [zBk hres3];rfl
   have qf0:w3.frozen? ⟨w.heap.size+1,0,none⟩=false:=zBn hres3 0
   have qf1:w3.frozen? ⟨w.heap.size+1,1,none⟩=false:=zBn hres3 1
   go_wp2
   refine bodyPost_ret (v:=.agg #[.int .i64 2,.int .i64 0]) (zu9 _ _ (w.heap.size+1) 2 0 (by simp) (vBlk.set hres3 _ _)) rfl ?_
   exact zXf (TS':=TS) hlt (by rw [zQK hI.val];exact (hb3.block wb (zBq hI.at_.blk)).trans hI.at_.blk) (hI.row.step (S:=[]) (TStep.of_kept (Kept.of_below hb3) (by simp)) (fun _ h=>h)) ((TStep.pre hI.below (TStep.of_kept (S:=[wb]) (Kept.refl [wb] W) (fun y hy=>by simp only [List.mem_cons,List.not_mem_nil,or_false];rintro rfl;exact hI.at_.ne hy))).next (Kept.of_below (S:=[]) hb3) (by simp))
    (fun _ h=>h) (fun _ h=>Or.inl h) (fun hm=>by have:=hts _ hm;omega) (by omega) (by omega) _ _ ⟨rfl,Or.inl rfl⟩
 · have hnd:decide (0 < n)=false:=by simp;omega
   go_wp2_with fail
   refine (zR0 wb o _ cl W hc hf hltW).mono ?_
   rintro e w2 ⟨⟨vv,rfl⟩,hw2⟩
   obtain ⟨s1,s2,s3⟩:=zhI hI.at_ cl ha
   rw [←hw2] at s1 s2 s3
   have hk2:Kept [wb] W w2:=by rw [hw2];exact ((Kept.refl [wb] W).setCell (p:=⟨wb,o,none⟩) (Or.inl (by simp)) _).alloc _
   have hres2:vBlk w2 (w.heap.size+1) 0 0:=(hk2.block _ hrb (by simp;omega)).trans hI.res
   have hz2:=hk2.size
   clear hw2 c1 c2 c4 c5 hc hf r0 r1 rf0 rf1
   go_wp2_with fail
   refine (ze7 true _).mono ?_
   rintro e w3 ⟨rfl,hb3⟩
   have hres3:vBlk w3 (w.heap.size+1) 0 0:=hres2.below hb3
   have q0:w3.cell? ⟨w.heap.size+1,0,none⟩=some (.int .i64 0):=by rw [zBk hres3];rfl
   have q1:w3.cell? ⟨w.heap.size+1,1,none⟩=some (.int .i64 0):=by rw [zBk hres3];rfl
   have qf0:w3.frozen? ⟨w.heap.size+1,0,none⟩=false:=zBn hres3 0
   have qf1:w3.frozen? ⟨w.heap.size+1,1,none⟩=false:=zBn hres3 1
   go_wp2
   refine bodyPost_ret (v:=.agg #[.int .i64 2,.int .i64 1]) (zu9 _ _ (w.heap.size+1) 2 1 (by simp) (vBlk.set hres3 _ _)) rfl ?_
   exact zXf hlt ((hb3.block wb (zBq s1)).trans s1) (s2.step (S:=[]) (TStep.of_kept (Kept.of_below hb3) (by simp)) (fun _ h=>h)) ((TStep.pre hI.below s3).next (Kept.of_below (S:=[]) hb3) (by simp))
    (fun x hx=>by simp [hx]) (fun x hx=>by rcases List.mem_cons.1 hx with h | h;exact Or.inr (by omega);exact Or.inl h) (fun hm=>by rcases List.mem_cons.1 hm with h | h;omega;have:=hts _ h;omega) (by omega) (by omega) _ _ ⟨rfl,Or.inr rfl⟩
end Go.Proofs.YtlkidmafomjhgaaGreatDoor.keep
