/- One text. -/
import Derived.Test.YtlkidmafomjhgaaGreatDoorKeepX
set_option maxHeartbeats 2000000
set_option maxRecDepth 100000
namespace Go.Proofs.YtlkidmafomjhgaaGreatDoor.keep
open Go.RowKit

def xCas (arg exp:Int) (l:List Int):List Int×Int×Int:=bif l.headD 0 == exp then ([arg],2,1) else (l,2,0)
def xGet (l:List Int):List Int×Int×Int:=match l with | []=>([],0,0) | x::r=>(x::r,1,x)
def xDeq (l:List Int):List Int×Int×Int:=match l with | []=>([],0,0) | x::r=>(r,1,x)
def xHas (l:List Int):Int:=match l with | []=>0 | _::_=>1
def xNot (l:List Int):Int:=match l with | []=>1 | _::_=>0
def xAcq (cl:Int) (l:List Int):List Int×Int×Int:=match l with | []=>([cl],2,1) | x::r=>(x::r,2,0)
def xRel (cl:Int) (l:List Int):List Int×Int×Int:=match l with | []=>([],2,0) | x::r=>bif x == cl then ([],2,1) else (x::r,2,0)
structure InX (w W:World) (wb o:Nat) (TS:List Nat) (wc:Array Value) (oa:Option Addr) (l:List Int) (n cap:Nat) (cl:Int) (name:List UInt8) (arg exp:Int):Prop where
 below:Below w.heap.size w W
 at_:AtX W wb o TS wc l n
 res:vBlk W (w.heap.size+1) 0 0
 c1:W.cell? ⟨w.heap.size,1,none⟩=some (.int .i64 cl)
 c2:W.cell? ⟨w.heap.size,2,none⟩=some (.string ⟨name.toArray⟩)
 c4:W.cell? ⟨w.heap.size,4,none⟩=some (.int .i64 arg)
 c5:W.cell? ⟨w.heap.size,5,none⟩=some (.int .i64 exp)
 cell:W.cell? ⟨wb,o,none⟩=some (.slice oa n cap)
 fz:W.frozen? ⟨wb,o,none⟩=false
 lt:wb < w.heap.size
 val:wc[o]?=some (.slice oa n cap)
 old:o < wc.size
 row:ThX W TS (.slice oa n cap) l n
theorem inX_ {w:World} {wb o n:Nat} {l:List Int} {TS:List Nat} {wc:Array Value} (id cl:Int) (name key:List UInt8) (arg exp call ret vk vn:Int) (h:AtX w wb o TS wc l n):
 ∃ W oa cap,(w.alloc (.cells #[.int .i64 id,.int .i64 cl,.string ⟨name.toArray⟩,.string ⟨key.toArray⟩,.int .i64 arg,.int .i64 exp,.int .i64 call,.int .i64 ret,.int .i64 vk,.int .i64 vn] 48)).alloc (.cells #[.int .i64 0,.int .i64 0] 46)=W∧InX w W wb o TS wc oa l n cap cl name arg exp:=by
 obtain ⟨v,hv,hr⟩:=h.row
 obtain ⟨oa,cap,rfl⟩:=hr.slice
 have hb:Below w.heap.size w ((w.alloc (.cells #[.int .i64 id,.int .i64 cl,.string ⟨name.toArray⟩,.string ⟨key.toArray⟩,.int .i64 arg,.int .i64 exp,.int .i64 call,.int .i64 ret,.int .i64 vk,.int .i64 vn] 48)).alloc (.cells #[.int .i64 0,.int .i64 0] 46)):=((Below.refl _ _).alloc (Nat.le_refl _) _).alloc (by simp) _
 have hO:((w.alloc (.cells #[.int .i64 id,.int .i64 cl,.string ⟨name.toArray⟩,.string ⟨key.toArray⟩,.int .i64 arg,.int .i64 exp,.int .i64 call,.int .i64 ret,.int .i64 vk,.int .i64 vn] 48)).alloc (.cells #[.int .i64 0,.int .i64 0] 46)).heap[w.heap.size]?=some (.cells #[.int .i64 id,.int .i64 cl,.string ⟨name.toArray⟩,.string ⟨key.toArray⟩,.int .i64 arg,.int .i64 exp,.int .i64 call,.int .i64 ret,.int .i64 vk,.int .i64 vn] 48):=(zD1 _ _ _ (by simp)).trans (ziF _ _ _ rfl)
 have h1:=h.step hb
 refine ⟨_,oa,cap,rfl,hb,h1,ziF _ _ _ (by simp),?_,?_,?_,?_,by rw [zBk h1.blk];exact hv,zBn h1.blk _,zCqB h.blk,hv,(Array.getElem?_eq_some_iff.1 hv).1,?_⟩
 · rw [zBk hO];rfl
 · rw [zBk hO];rfl
 · rw [zBk hO];rfl
 · rw [zBk hO];rfl
 · obtain ⟨v2,hv2,hr2⟩:=h1.row
   rw [hv] at hv2
   rw [Option.some.inj hv2];exact hr2
theorem InX.drewN {w W:World} {wb o:Nat} {TS:List Nat} {wc:Array Value} {oa:Option Addr} {l:List Int} {n cap:Nat} {cl:Int} {name:List UInt8} {arg exp:Int} (h:InX w W wb o TS wc oa l n cap cl name arg exp) (k:Nat):InX w (W.drewN k) wb o TS wc oa l n cap cl name arg exp:=
 ⟨below_drewN h.below k,h.at_.step (below_drewN (Below.refl _ _) k),h.res,h.c1,h.c2,h.c4,h.c5,h.cell,h.fz,h.lt,h.val,h.old,h.row.keep ((Kept.refl [] W).drewN k) (by simp)⟩
theorem finX {w w3:World} {wb o:Nat} {TS TS':List Nat} {wc:Array Value} {lv:List Int×Int×Int} {v':Value} {l':List Int} {n':Nat} (hlt:wb < w.heap.size) (hblk:w3.heap[wb]?=some (.cells (wc.setIfInBounds o v') 67 (0,0))) (hrow:ThX w3 TS' v' l' n') (hst:Kept ([wb]++TS) w w3)
 (h1:∀ x∈TS,x∈TS') (h2:∀ x∈TS',x∈TS∨w.heap.size≤x) (h3:w.heap.size+1∉TS') (k x:Int) (hlv:lv=(l',k,x)):
 zef wb o TS wc lv w (.returned (.agg #[.int .i64 k,.int .i64 x])) ((w3.setCell ⟨w.heap.size+1,0,none⟩ (.int .i64 k)).setCell ⟨w.heap.size+1,1,none⟩ (.int .i64 x)):=by
 have hk:Kept [w.heap.size+1] w3 ((w3.setCell ⟨w.heap.size+1,0,none⟩ (.int .i64 k)).setCell ⟨w.heap.size+1,1,none⟩ (.int .i64 x)):=((Kept.refl _ _).setCell (p:=⟨w.heap.size+1,0,none⟩) (Or.inl (by simp)) _).setCell (p:=⟨w.heap.size+1,1,none⟩) (Or.inl (by simp)) _
 subst hlv
 refine ⟨v',TS',rfl,h1,h2,(hk.block wb (zCqB hblk) (by simp;omega)).trans hblk,?_,zh0 hst hk (fun x hx=>Or.inr (by simp at hx;omega))⟩
 have hr:=hrow.keep hk (fun y hy=>by simp only [List.mem_cons,List.not_mem_nil,or_false];rintro rfl;exact h3 hy)
 have e:=hr.len
 subst e
 exact hr
theorem nilX {w:World} {wb o n:Nat} {l:List Int} {TS:List Nat} {wc:Array Value} (h:AtX w wb o TS wc l n):
 (w.setCell ⟨wb,o,none⟩ (.slice none 0 0)).heap[wb]?=some (.cells (wc.setIfInBounds o (.slice none 0 0)) 67 (0,0))∧ThX (w.setCell ⟨wb,o,none⟩ (.slice none 0 0)) TS (.slice none 0 0) [] 0∧Kept ([wb]++TS) w (w.setCell ⟨wb,o,none⟩ (.slice none 0 0))∧Kept [wb] w (w.setCell ⟨wb,o,none⟩ (.slice none 0 0)):=by
 have hk:Kept [wb] w (w.setCell ⟨wb,o,none⟩ (.slice none 0 0)):=(Kept.refl [wb] w).setCell (p:=⟨wb,o,none⟩) (Or.inl (by simp)) _
 exact ⟨by rw [zFg h.blk],Or.inl ⟨rfl,rfl,rfl⟩,hk.mono (fun x _ hx=>by simp at hx;simp [hx]),hk⟩
theorem z9n (wb o:Nat) (l:List Int) (n:Nat) (TS:List Nat) (wc:Array Value) (id cl:Int) (key:List UInt8) (arg exp call ret vk vn:Int) (w:World) (h:AtX w wb o TS wc l n) (hts:∀ x∈TS,x < w.heap.size) (ha:small arg):
 Calls Tryz.prog 26 #[.pointer (some ⟨wb,o,none⟩),opA id cl [119,114,105,116,101] key arg exp call ret vk vn] w fun e w'=>zef wb o TS wc ([arg],0,0) w e w':=by
 unfold opA
 obtain ⟨W,oa,cap,hW,hI⟩:=inX_ id cl [119,114,105,116,101] key arg exp call ret vk vn h
 have c1:=hI.c1
 have c2:=hI.c2
 have c4:=hI.c4
 have c5:=hI.c5
 have hc:=hI.cell
 have hf:=hI.fz
 have hsz:=hI.below.size
 have hlt:=hI.lt
 have hl:=hI.row.len
 have hltW:wb < W.heap.size:=by omega
 have hrb:=zCqB hI.res
 have r0:W.cell? ⟨w.heap.size+1,0,none⟩=some (.int .i64 0):=by rw [zBk hI.res];rfl
 have r1:W.cell? ⟨w.heap.size+1,1,none⟩=some (.int .i64 0):=by rw [zBk hI.res];rfl
 have rf0:W.frozen? ⟨w.heap.size+1,0,none⟩=false:=zBn hI.res 0
 have rf1:W.frozen? ⟨w.heap.size+1,1,none⟩=false:=zBn hI.res 1
 go_enter Tryz.func26,Tryz.ntmps26
 go_wp2_with fail
 refine (zzT wb o oa n cap W hc).mono ?_
 rintro e w1 ⟨rfl,hw⟩
 have hw':=hw.symm
 clear hw
 subst hw'
 go_wp2_with fail
 refine (zR0 wb o _ arg W hc hf hltW).mono ?_
 rintro e w2 ⟨⟨vv,rfl⟩,hw2⟩
 obtain ⟨s1,s2,s3⟩:=setX hI.at_ arg ha
 rw [←hw2] at s1 s2 s3
 have hk2:Kept [wb] W w2:=by rw [hw2];exact ((Kept.refl [wb] W).setCell (p:=⟨wb,o,none⟩) (Or.inl (by simp)) _).alloc _
 have hres2:vBlk w2 (w.heap.size+1) 0 0:=(hk2.block _ hrb (by simp;omega)).trans hI.res
 have hz2:=hk2.size
 clear hw2 c1 c2 c4 c5 hc hf r0 r1 rf0 rf1
 go_wp2_with fail
 refine (zDv _).mono ?_
 rintro e w3 ⟨rfl,hb3⟩
 have hres3:vBlk w3 (w.heap.size+1) 0 0:=hres2.below hb3
 have q0:w3.cell? ⟨w.heap.size+1,0,none⟩=some (.int .i64 0):=by rw [zBk hres3];rfl
 have q1:w3.cell? ⟨w.heap.size+1,1,none⟩=some (.int .i64 0):=by rw [zBk hres3];rfl
 have qf0:w3.frozen? ⟨w.heap.size+1,0,none⟩=false:=zBn hres3 0
 have qf1:w3.frozen? ⟨w.heap.size+1,1,none⟩=false:=zBn hres3 1
 go_wp2
 refine bodyPost_ret (v:=.agg #[.int .i64 0,.int .i64 0]) (zu9 _ _ (w.heap.size+1) 0 0 (by simp) (vBlk.set hres3 _ _)) rfl ?_
 exact finX hlt ((hb3.block wb (zCqB s1)).trans s1) (s2.keep (Kept.of_below (S:=[]) hb3) (by simp)) (((Kept.of_below hI.below).trans s3).trans (Kept.of_below hb3))
  (fun x hx=>by simp [hx]) (fun x hx=>by rcases List.mem_cons.1 hx with h | h;exact Or.inr (by omega);exact Or.inl h) (fun hm=>by rcases List.mem_cons.1 hm with h | h;omega;have:=hts _ h;omega) _ _ (by first | rfl | (rcases l with _ | ⟨_,_⟩ <;> first | rfl | (exfalso;simp at hl;omega)))
theorem zM4 (wb o:Nat) (l:List Int) (n:Nat) (TS:List Nat) (wc:Array Value) (id cl:Int) (key:List UInt8) (arg exp call ret vk vn:Int) (w:World) (h:AtX w wb o TS wc l n) (hts:∀ x∈TS,x < w.heap.size) (ha:small arg):
 Calls Tryz.prog 26 #[.pointer (some ⟨wb,o,none⟩),opA id cl [112,117,116] key arg exp call ret vk vn] w fun e w'=>zef wb o TS wc ([arg],0,0) w e w':=by
 unfold opA
 obtain ⟨W,oa,cap,hW,hI⟩:=inX_ id cl [112,117,116] key arg exp call ret vk vn h
 have c1:=hI.c1
 have c2:=hI.c2
 have c4:=hI.c4
 have c5:=hI.c5
 have hc:=hI.cell
 have hf:=hI.fz
 have hsz:=hI.below.size
 have hlt:=hI.lt
 have hl:=hI.row.len
 have hltW:wb < W.heap.size:=by omega
 have hrb:=zCqB hI.res
 have r0:W.cell? ⟨w.heap.size+1,0,none⟩=some (.int .i64 0):=by rw [zBk hI.res];rfl
 have r1:W.cell? ⟨w.heap.size+1,1,none⟩=some (.int .i64 0):=by rw [zBk hI.res];rfl
 have rf0:W.frozen? ⟨w.heap.size+1,0,none⟩=false:=zBn hI.res 0
 have rf1:W.frozen? ⟨w.heap.size+1,1,none⟩=false:=zBn hI.res 1
 go_enter Tryz.func26,Tryz.ntmps26
 go_wp2_with fail
 refine (zzT wb o oa n cap W hc).mono ?_
 rintro e w1 ⟨rfl,hw⟩
 have hw':=hw.symm
 clear hw
 subst hw'
 go_wp2_with fail
 refine (zR0 wb o _ arg W hc hf hltW).mono ?_
 rintro e w2 ⟨⟨vv,rfl⟩,hw2⟩
 obtain ⟨s1,s2,s3⟩:=setX hI.at_ arg ha
 rw [←hw2] at s1 s2 s3
 have hk2:Kept [wb] W w2:=by rw [hw2];exact ((Kept.refl [wb] W).setCell (p:=⟨wb,o,none⟩) (Or.inl (by simp)) _).alloc _
 have hres2:vBlk w2 (w.heap.size+1) 0 0:=(hk2.block _ hrb (by simp;omega)).trans hI.res
 have hz2:=hk2.size
 clear hw2 c1 c2 c4 c5 hc hf r0 r1 rf0 rf1
 go_wp2_with fail
 refine (zDv _).mono ?_
 rintro e w3 ⟨rfl,hb3⟩
 have hres3:vBlk w3 (w.heap.size+1) 0 0:=hres2.below hb3
 have q0:w3.cell? ⟨w.heap.size+1,0,none⟩=some (.int .i64 0):=by rw [zBk hres3];rfl
 have q1:w3.cell? ⟨w.heap.size+1,1,none⟩=some (.int .i64 0):=by rw [zBk hres3];rfl
 have qf0:w3.frozen? ⟨w.heap.size+1,0,none⟩=false:=zBn hres3 0
 have qf1:w3.frozen? ⟨w.heap.size+1,1,none⟩=false:=zBn hres3 1
 go_wp2
 refine bodyPost_ret (v:=.agg #[.int .i64 0,.int .i64 0]) (zu9 _ _ (w.heap.size+1) 0 0 (by simp) (vBlk.set hres3 _ _)) rfl ?_
 exact finX hlt ((hb3.block wb (zCqB s1)).trans s1) (s2.keep (Kept.of_below (S:=[]) hb3) (by simp)) (((Kept.of_below hI.below).trans s3).trans (Kept.of_below hb3))
  (fun x hx=>by simp [hx]) (fun x hx=>by rcases List.mem_cons.1 hx with h | h;exact Or.inr (by omega);exact Or.inl h) (fun hm=>by rcases List.mem_cons.1 hm with h | h;omega;have:=hts _ h;omega) _ _ (by first | rfl | (rcases l with _ | ⟨_,_⟩ <;> first | rfl | (exfalso;simp at hl;omega)))
theorem zx1 (wb o:Nat) (l:List Int) (n:Nat) (TS:List Nat) (wc:Array Value) (id cl:Int) (key:List UInt8) (arg exp call ret vk vn:Int) (w:World) (h:AtX w wb o TS wc l n) (hts:∀ x∈TS,x < w.heap.size) (h1:1≤n):
 Calls Tryz.prog 26 #[.pointer (some ⟨wb,o,none⟩),opA id cl [114,101,97,100] key arg exp call ret vk vn] w fun e w'=>zef wb o TS wc (l,1,l.headD 0) w e w':=by
 unfold opA
 obtain ⟨W,oa,cap,hW,hI⟩:=inX_ id cl [114,101,97,100] key arg exp call ret vk vn h
 have c1:=hI.c1
 have c2:=hI.c2
 have c4:=hI.c4
 have c5:=hI.c5
 have hc:=hI.cell
 have hf:=hI.fz
 have hsz:=hI.below.size
 have hlt:=hI.lt
 have hl:=hI.row.len
 have hltW:wb < W.heap.size:=by omega
 have hrb:=zCqB hI.res
 have r0:W.cell? ⟨w.heap.size+1,0,none⟩=some (.int .i64 0):=by rw [zBk hI.res];rfl
 have r1:W.cell? ⟨w.heap.size+1,1,none⟩=some (.int .i64 0):=by rw [zBk hI.res];rfl
 have rf0:W.frozen? ⟨w.heap.size+1,0,none⟩=false:=zBn hI.res 0
 have rf1:W.frozen? ⟨w.heap.size+1,1,none⟩=false:=zBn hI.res 1
 go_enter Tryz.func26,Tryz.ntmps26
 go_wp2_with fail
 refine (zzT wb o oa n cap W hc).mono ?_
 rintro e w1 ⟨rfl,hw⟩
 have hw':=hw.symm
 clear hw
 subst hw'
 obtain ⟨g,off,x,r,hoa1,hg,hgl,hnc,hcm,hlr,hx,htl⟩:=hI.row.head h1
 subst hoa1
 subst hlr
 have hlr:=hl
 clear hl
 have hn0:(0:Int) < (n:Int):=by omega
 have hnd:decide (0 < n)=true:=by simp;omega
 have hres2:=hI.res
 go_wp2_with fail
 refine (zyj x _).mono ?_
 rintro e w3 ⟨rfl,hb3⟩
 have hres3:vBlk w3 (w.heap.size+1) 0 0:=hres2.below hb3
 have q0:w3.cell? ⟨w.heap.size+1,0,none⟩=some (.int .i64 0):=by rw [zBk hres3];rfl
 have q1:w3.cell? ⟨w.heap.size+1,1,none⟩=some (.int .i64 0):=by rw [zBk hres3];rfl
 have qf0:w3.frozen? ⟨w.heap.size+1,0,none⟩=false:=zBn hres3 0
 have qf1:w3.frozen? ⟨w.heap.size+1,1,none⟩=false:=zBn hres3 1
 go_wp2
 refine bodyPost_ret (v:=.agg #[.int .i64 1,.int .i64 x]) (zu9 _ _ (w.heap.size+1) 1 x (by simp) (vBlk.set hres3 _ _)) rfl ?_
 exact finX (TS':=TS) hlt (by rw [zQK hI.val];exact (hb3.block wb (zCqB hI.at_.blk)).trans hI.at_.blk) (hI.row.keep (Kept.of_below (S:=[]) hb3) (by simp)) ((Kept.of_below hI.below).trans (Kept.of_below hb3))
  (fun _ h=>h) (fun _ h=>Or.inl h) (fun hm=>by have:=hts _ hm;omega) _ _ (by first | rfl | (rcases l with _ | ⟨_,_⟩ <;> first | rfl | (exfalso;simp at hl;omega)))
theorem zdz (wb o:Nat) (l:List Int) (n:Nat) (TS:List Nat) (wc:Array Value) (id cl:Int) (key:List UInt8) (arg exp call ret vk vn:Int) (w:World) (h:AtX w wb o TS wc l n) (hts:∀ x∈TS,x < w.heap.size) (h1:1≤n) (ha:small arg):
 Calls Tryz.prog 26 #[.pointer (some ⟨wb,o,none⟩),opA id cl [99,97,115] key arg exp call ret vk vn] w fun e w'=>zef wb o TS wc (xCas arg exp l) w e w':=by
 unfold opA
 obtain ⟨W,oa,cap,hW,hI⟩:=inX_ id cl [99,97,115] key arg exp call ret vk vn h
 have c1:=hI.c1
 have c2:=hI.c2
 have c4:=hI.c4
 have c5:=hI.c5
 have hc:=hI.cell
 have hf:=hI.fz
 have hsz:=hI.below.size
 have hlt:=hI.lt
 have hl:=hI.row.len
 have hltW:wb < W.heap.size:=by omega
 have hrb:=zCqB hI.res
 have r0:W.cell? ⟨w.heap.size+1,0,none⟩=some (.int .i64 0):=by rw [zBk hI.res];rfl
 have r1:W.cell? ⟨w.heap.size+1,1,none⟩=some (.int .i64 0):=by rw [zBk hI.res];rfl
 have rf0:W.frozen? ⟨w.heap.size+1,0,none⟩=false:=zBn hI.res 0
 have rf1:W.frozen? ⟨w.heap.size+1,1,none⟩=false:=zBn hI.res 1
 go_enter Tryz.func26,Tryz.ntmps26
 go_wp2_with fail
 refine (zzT wb o oa n cap W hc).mono ?_
 rintro e w1 ⟨rfl,hw⟩
 have hw':=hw.symm
 clear hw
 subst hw'
 obtain ⟨g,off,x,r,hoa1,hg,hgl,hnc,hcm,hlr,hx,htl⟩:=hI.row.head h1
 subst hoa1
 subst hlr
 have hlr:=hl
 clear hl
 have hn0:(0:Int) < (n:Int):=by omega
 have hnd:decide (0 < n)=true:=by simp;omega
 by_cases he:x=exp
 · have he':(x == exp)=true:=by simp [he]
   clear he
   go_wp2
   go_quiet (fail)
   replace hI:=hI.drewN nq
   clear c1 c2 c4 c5 hc hf hsz hltW hrb r0 r1 rf0 rf1
   generalize W.drewN nq=W at*
   have c1:=hI.c1
   have c2:=hI.c2
   have c4:=hI.c4
   have c5:=hI.c5
   have hc:=hI.cell
   have hf:=hI.fz
   have hsz:=hI.below.size
   have hltW:wb < W.heap.size:=by omega
   have hrb:=zCqB hI.res
   have r0:W.cell? ⟨w.heap.size+1,0,none⟩=some (.int .i64 0):=by rw [zBk hI.res];rfl
   have r1:W.cell? ⟨w.heap.size+1,1,none⟩=some (.int .i64 0):=by rw [zBk hI.res];rfl
   have rf0:W.frozen? ⟨w.heap.size+1,0,none⟩=false:=zBn hI.res 0
   have rf1:W.frozen? ⟨w.heap.size+1,1,none⟩=false:=zBn hI.res 1
   go_wp2_with fail
   refine (zR0 wb o _ arg W hc hf hltW).mono ?_
   rintro e w2 ⟨⟨vv,rfl⟩,hw2⟩
   obtain ⟨s1,s2,s3⟩:=setX hI.at_ arg ha
   rw [←hw2] at s1 s2 s3
   have hk2:Kept [wb] W w2:=by rw [hw2];exact ((Kept.refl [wb] W).setCell (p:=⟨wb,o,none⟩) (Or.inl (by simp)) _).alloc _
   have hres2:vBlk w2 (w.heap.size+1) 0 0:=(hk2.block _ hrb (by simp;omega)).trans hI.res
   have hz2:=hk2.size
   clear hw2 c1 c2 c4 c5 hc hf r0 r1 rf0 rf1
   go_wp2_with fail
   refine (ze7 true _).mono ?_
   rintro e w3 ⟨rfl,hb3⟩
   have hres3:vBlk w3 (w.heap.size+1) 0 0:=hres2.below hb3
   have q0:w3.cell? ⟨w.heap.size+1,0,none⟩=some (.int .i64 0):=by rw [zBk hres3];rfl
   have q1:w3.cell? ⟨w.heap.size+1,1,none⟩=some (.int .i64 0):=by rw [zBk hres3];rfl
   have qf0:w3.frozen? ⟨w.heap.size+1,0,none⟩=false:=zBn hres3 0
   have qf1:w3.frozen? ⟨w.heap.size+1,1,none⟩=false:=zBn hres3 1
   go_wp2
   refine bodyPost_ret (v:=.agg #[.int .i64 2,.int .i64 1]) (zu9 _ _ (w.heap.size+1) 2 1 (by simp) (vBlk.set hres3 _ _)) rfl ?_
   exact finX hlt ((hb3.block wb (zCqB s1)).trans s1) (s2.keep (Kept.of_below (S:=[]) hb3) (by simp)) (((Kept.of_below hI.below).trans s3).trans (Kept.of_below hb3))
    (fun x hx=>by simp [hx]) (fun x hx=>by rcases List.mem_cons.1 hx with h | h;exact Or.inr (by omega);exact Or.inl h) (fun hm=>by rcases List.mem_cons.1 hm with h | h;omega;have:=hts _ h;omega) _ _ (by first | rfl | simp [xCas,he'] | (first | rfl | (rcases l with _ | ⟨_,_⟩ <;> first | rfl | (exfalso;simp at hl;omega))))
 · have he':(x == exp)=false:=by simp [he]
   clear he
   go_wp2
   go_quiet (fail)
   replace hI:=hI.drewN nq
   clear c1 c2 c4 c5 hc hf hsz hltW hrb r0 r1 rf0 rf1
   generalize W.drewN nq=W at*
   have c1:=hI.c1
   have c2:=hI.c2
   have c4:=hI.c4
   have c5:=hI.c5
   have hc:=hI.cell
   have hf:=hI.fz
   have hsz:=hI.below.size
   have hltW:wb < W.heap.size:=by omega
   have hrb:=zCqB hI.res
   have r0:W.cell? ⟨w.heap.size+1,0,none⟩=some (.int .i64 0):=by rw [zBk hI.res];rfl
   have r1:W.cell? ⟨w.heap.size+1,1,none⟩=some (.int .i64 0):=by rw [zBk hI.res];rfl
   have rf0:W.frozen? ⟨w.heap.size+1,0,none⟩=false:=zBn hI.res 0
   have rf1:W.frozen? ⟨w.heap.size+1,1,none⟩=false:=zBn hI.res 1
   have hres2:=hI.res
   go_wp2_with fail
   refine (ze7 false _).mono ?_
   rintro e w3 ⟨rfl,hb3⟩
   have hres3:vBlk w3 (w.heap.size+1) 0 0:=hres2.below hb3
   have q0:w3.cell? ⟨w.heap.size+1,0,none⟩=some (.int .i64 0):=by rw [zBk hres3];rfl
   have q1:w3.cell? ⟨w.heap.size+1,1,none⟩=some (.int .i64 0):=by rw [zBk hres3];rfl
   have qf0:w3.frozen? ⟨w.heap.size+1,0,none⟩=false:=zBn hres3 0
   have qf1:w3.frozen? ⟨w.heap.size+1,1,none⟩=false:=zBn hres3 1
   go_wp2
   refine bodyPost_ret (v:=.agg #[.int .i64 2,.int .i64 0]) (zu9 _ _ (w.heap.size+1) 2 0 (by simp) (vBlk.set hres3 _ _)) rfl ?_
   exact finX (TS':=TS) hlt (by rw [zQK hI.val];exact (hb3.block wb (zCqB hI.at_.blk)).trans hI.at_.blk) (hI.row.keep (Kept.of_below (S:=[]) hb3) (by simp)) ((Kept.of_below hI.below).trans (Kept.of_below hb3))
    (fun _ h=>h) (fun _ h=>Or.inl h) (fun hm=>by have:=hts _ hm;omega) _ _ (by first | rfl | simp [xCas,he'] | (first | rfl | (rcases l with _ | ⟨_,_⟩ <;> first | rfl | (exfalso;simp at hl;omega))))
theorem zhL (wb o:Nat) (l:List Int) (n:Nat) (TS:List Nat) (wc:Array Value) (id cl:Int) (key:List UInt8) (arg exp call ret vk vn:Int) (w:World) (h:AtX w wb o TS wc l n) (hts:∀ x∈TS,x < w.heap.size):
 Calls Tryz.prog 26 #[.pointer (some ⟨wb,o,none⟩),opA id cl [103,101,116] key arg exp call ret vk vn] w fun e w'=>zef wb o TS wc (xGet l) w e w':=by
 unfold opA
 obtain ⟨W,oa,cap,hW,hI⟩:=inX_ id cl [103,101,116] key arg exp call ret vk vn h
 have c1:=hI.c1
 have c2:=hI.c2
 have c4:=hI.c4
 have c5:=hI.c5
 have hc:=hI.cell
 have hf:=hI.fz
 have hsz:=hI.below.size
 have hlt:=hI.lt
 have hl:=hI.row.len
 have hltW:wb < W.heap.size:=by omega
 have hrb:=zCqB hI.res
 have r0:W.cell? ⟨w.heap.size+1,0,none⟩=some (.int .i64 0):=by rw [zBk hI.res];rfl
 have r1:W.cell? ⟨w.heap.size+1,1,none⟩=some (.int .i64 0):=by rw [zBk hI.res];rfl
 have rf0:W.frozen? ⟨w.heap.size+1,0,none⟩=false:=zBn hI.res 0
 have rf1:W.frozen? ⟨w.heap.size+1,1,none⟩=false:=zBn hI.res 1
 go_enter Tryz.func26,Tryz.ntmps26
 go_wp2_with fail
 refine (zzT wb o oa n cap W hc).mono ?_
 rintro e w1 ⟨rfl,hw⟩
 have hw':=hw.symm
 clear hw
 subst hw'
 by_cases h1:1≤n
 · skip
   obtain ⟨g,off,x,r,hoa1,hg,hgl,hnc,hcm,hlr,hx,htl⟩:=hI.row.head h1
   subst hoa1
   subst hlr
   have hlr:=hl
   clear hl
   have hn0:(0:Int) < (n:Int):=by omega
   have hnd:decide (0 < n)=true:=by simp;omega
   have hres2:=hI.res
   go_wp2_with fail
   refine (zyj x _).mono ?_
   rintro e w3 ⟨rfl,hb3⟩
   have hres3:vBlk w3 (w.heap.size+1) 0 0:=hres2.below hb3
   have q0:w3.cell? ⟨w.heap.size+1,0,none⟩=some (.int .i64 0):=by rw [zBk hres3];rfl
   have q1:w3.cell? ⟨w.heap.size+1,1,none⟩=some (.int .i64 0):=by rw [zBk hres3];rfl
   have qf0:w3.frozen? ⟨w.heap.size+1,0,none⟩=false:=zBn hres3 0
   have qf1:w3.frozen? ⟨w.heap.size+1,1,none⟩=false:=zBn hres3 1
   go_wp2
   refine bodyPost_ret (v:=.agg #[.int .i64 1,.int .i64 x]) (zu9 _ _ (w.heap.size+1) 1 x (by simp) (vBlk.set hres3 _ _)) rfl ?_
   exact finX (TS':=TS) hlt (by rw [zQK hI.val];exact (hb3.block wb (zCqB hI.at_.blk)).trans hI.at_.blk) (hI.row.keep (Kept.of_below (S:=[]) hb3) (by simp)) ((Kept.of_below hI.below).trans (Kept.of_below hb3))
    (fun _ h=>h) (fun _ h=>Or.inl h) (fun hm=>by have:=hts _ hm;omega) _ _ (by first | rfl | (rcases l with _ | ⟨_,_⟩ <;> first | rfl | (exfalso;simp at hl;omega)))
 · have hnd:decide (0 < n)=false:=by simp;omega
   have hres2:=hI.res
   go_wp2_with fail
   refine (zDv _).mono ?_
   rintro e w3 ⟨rfl,hb3⟩
   have hres3:vBlk w3 (w.heap.size+1) 0 0:=hres2.below hb3
   have q0:w3.cell? ⟨w.heap.size+1,0,none⟩=some (.int .i64 0):=by rw [zBk hres3];rfl
   have q1:w3.cell? ⟨w.heap.size+1,1,none⟩=some (.int .i64 0):=by rw [zBk hres3];rfl
   have qf0:w3.frozen? ⟨w.heap.size+1,0,none⟩=false:=zBn hres3 0
   have qf1:w3.frozen? ⟨w.heap.size+1,1,none⟩=false:=zBn hres3 1
   go_wp2
   refine bodyPost_ret (v:=.agg #[.int .i64 0,.int .i64 0]) (zu9 _ _ (w.heap.size+1) 0 0 (by simp) (vBlk.set hres3 _ _)) rfl ?_
   exact finX (TS':=TS) hlt (by rw [zQK hI.val];exact (hb3.block wb (zCqB hI.at_.blk)).trans hI.at_.blk) (hI.row.keep (Kept.of_below (S:=[]) hb3) (by simp)) ((Kept.of_below hI.below).trans (Kept.of_below hb3))
    (fun _ h=>h) (fun _ h=>Or.inl h) (fun hm=>by have:=hts _ hm;omega) _ _ (by first | rfl | (rcases l with _ | ⟨_,_⟩ <;> first | rfl | (exfalso;simp at hl;omega)))
theorem z8p (wb o:Nat) (l:List Int) (n:Nat) (TS:List Nat) (wc:Array Value) (id cl:Int) (key:List UInt8) (arg exp call ret vk vn:Int) (w:World) (h:AtX w wb o TS wc l n) (hts:∀ x∈TS,x < w.heap.size):
 Calls Tryz.prog 26 #[.pointer (some ⟨wb,o,none⟩),opA id cl [100,101,108] key arg exp call ret vk vn] w fun e w'=>zef wb o TS wc ([],2,xHas l) w e w':=by
 unfold opA
 obtain ⟨W,oa,cap,hW,hI⟩:=inX_ id cl [100,101,108] key arg exp call ret vk vn h
 have c1:=hI.c1
 have c2:=hI.c2
 have c4:=hI.c4
 have c5:=hI.c5
 have hc:=hI.cell
 have hf:=hI.fz
 have hsz:=hI.below.size
 have hlt:=hI.lt
 have hl:=hI.row.len
 have hltW:wb < W.heap.size:=by omega
 have hrb:=zCqB hI.res
 have r0:W.cell? ⟨w.heap.size+1,0,none⟩=some (.int .i64 0):=by rw [zBk hI.res];rfl
 have r1:W.cell? ⟨w.heap.size+1,1,none⟩=some (.int .i64 0):=by rw [zBk hI.res];rfl
 have rf0:W.frozen? ⟨w.heap.size+1,0,none⟩=false:=zBn hI.res 0
 have rf1:W.frozen? ⟨w.heap.size+1,1,none⟩=false:=zBn hI.res 1
 go_enter Tryz.func26,Tryz.ntmps26
 go_wp2_with fail
 refine (zzT wb o oa n cap W hc).mono ?_
 rintro e w1 ⟨rfl,hw⟩
 have hw':=hw.symm
 clear hw
 subst hw'
 by_cases h1:1≤n
 · have hnd:decide (0 < n)=true:=by simp;omega
   obtain ⟨s1,s2,s3,hk2⟩:=nilX hI.at_
   obtain ⟨w2,hw2⟩:∃ w2,W.setCell ⟨wb,o,none⟩ (.slice none 0 0)=w2:=⟨_,rfl⟩
   rw [hw2] at s1 s2 s3 hk2
   have hres2:vBlk w2 (w.heap.size+1) 0 0:=(hk2.block _ hrb (by simp;omega)).trans hI.res
   have hz2:=hk2.size
   go_wp2_with fail
   refine (ze7 true _).mono ?_
   rintro e w3 ⟨rfl,hb3⟩
   have hres3:vBlk w3 (w.heap.size+1) 0 0:=hres2.below hb3
   have q0:w3.cell? ⟨w.heap.size+1,0,none⟩=some (.int .i64 0):=by rw [zBk hres3];rfl
   have q1:w3.cell? ⟨w.heap.size+1,1,none⟩=some (.int .i64 0):=by rw [zBk hres3];rfl
   have qf0:w3.frozen? ⟨w.heap.size+1,0,none⟩=false:=zBn hres3 0
   have qf1:w3.frozen? ⟨w.heap.size+1,1,none⟩=false:=zBn hres3 1
   go_wp2
   refine bodyPost_ret (v:=.agg #[.int .i64 2,.int .i64 1]) (zu9 _ _ (w.heap.size+1) 2 1 (by simp) (vBlk.set hres3 _ _)) rfl ?_
   exact finX hlt ((hb3.block wb (zCqB s1)).trans s1) (s2.keep (Kept.of_below (S:=[]) hb3) (by simp)) (((Kept.of_below hI.below).trans s3).trans (Kept.of_below hb3))
    (fun _ h=>h) (fun _ h=>Or.inl h) (fun hm=>by have:=hts _ hm;omega) _ _ (by first | rfl | (rcases l with _ | ⟨_,_⟩ <;> first | rfl | (exfalso;simp at hl;omega)))
 · have hnd:decide (0 < n)=false:=by simp;omega
   obtain ⟨s1,s2,s3,hk2⟩:=nilX hI.at_
   obtain ⟨w2,hw2⟩:∃ w2,W.setCell ⟨wb,o,none⟩ (.slice none 0 0)=w2:=⟨_,rfl⟩
   rw [hw2] at s1 s2 s3 hk2
   have hres2:vBlk w2 (w.heap.size+1) 0 0:=(hk2.block _ hrb (by simp;omega)).trans hI.res
   have hz2:=hk2.size
   go_wp2_with fail
   refine (ze7 false _).mono ?_
   rintro e w3 ⟨rfl,hb3⟩
   have hres3:vBlk w3 (w.heap.size+1) 0 0:=hres2.below hb3
   have q0:w3.cell? ⟨w.heap.size+1,0,none⟩=some (.int .i64 0):=by rw [zBk hres3];rfl
   have q1:w3.cell? ⟨w.heap.size+1,1,none⟩=some (.int .i64 0):=by rw [zBk hres3];rfl
   have qf0:w3.frozen? ⟨w.heap.size+1,0,none⟩=false:=zBn hres3 0
   have qf1:w3.frozen? ⟨w.heap.size+1,1,none⟩=false:=zBn hres3 1
   go_wp2
   refine bodyPost_ret (v:=.agg #[.int .i64 2,.int .i64 0]) (zu9 _ _ (w.heap.size+1) 2 0 (by simp) (vBlk.set hres3 _ _)) rfl ?_
   exact finX hlt ((hb3.block wb (zCqB s1)).trans s1) (s2.keep (Kept.of_below (S:=[]) hb3) (by simp)) (((Kept.of_below hI.below).trans s3).trans (Kept.of_below hb3))
    (fun _ h=>h) (fun _ h=>Or.inl h) (fun hm=>by have:=hts _ hm;omega) _ _ (by first | rfl | (rcases l with _ | ⟨_,_⟩ <;> first | rfl | (exfalso;simp at hl;omega)))
theorem zXe (wb o:Nat) (l:List Int) (n:Nat) (TS:List Nat) (wc:Array Value) (id cl:Int) (key:List UInt8) (arg exp call ret vk vn:Int) (w:World) (h:AtX w wb o TS wc l n) (hts:∀ x∈TS,x < w.heap.size):
 Calls Tryz.prog 26 #[.pointer (some ⟨wb,o,none⟩),opA id cl [114,101,109] key arg exp call ret vk vn] w fun e w'=>zef wb o TS wc ([],2,xHas l) w e w':=by
 unfold opA
 obtain ⟨W,oa,cap,hW,hI⟩:=inX_ id cl [114,101,109] key arg exp call ret vk vn h
 have c1:=hI.c1
 have c2:=hI.c2
 have c4:=hI.c4
 have c5:=hI.c5
 have hc:=hI.cell
 have hf:=hI.fz
 have hsz:=hI.below.size
 have hlt:=hI.lt
 have hl:=hI.row.len
 have hltW:wb < W.heap.size:=by omega
 have hrb:=zCqB hI.res
 have r0:W.cell? ⟨w.heap.size+1,0,none⟩=some (.int .i64 0):=by rw [zBk hI.res];rfl
 have r1:W.cell? ⟨w.heap.size+1,1,none⟩=some (.int .i64 0):=by rw [zBk hI.res];rfl
 have rf0:W.frozen? ⟨w.heap.size+1,0,none⟩=false:=zBn hI.res 0
 have rf1:W.frozen? ⟨w.heap.size+1,1,none⟩=false:=zBn hI.res 1
 go_enter Tryz.func26,Tryz.ntmps26
 go_wp2_with fail
 refine (zzT wb o oa n cap W hc).mono ?_
 rintro e w1 ⟨rfl,hw⟩
 have hw':=hw.symm
 clear hw
 subst hw'
 by_cases h1:1≤n
 · have hnd:decide (0 < n)=true:=by simp;omega
   obtain ⟨s1,s2,s3,hk2⟩:=nilX hI.at_
   obtain ⟨w2,hw2⟩:∃ w2,W.setCell ⟨wb,o,none⟩ (.slice none 0 0)=w2:=⟨_,rfl⟩
   rw [hw2] at s1 s2 s3 hk2
   have hres2:vBlk w2 (w.heap.size+1) 0 0:=(hk2.block _ hrb (by simp;omega)).trans hI.res
   have hz2:=hk2.size
   go_wp2_with fail
   refine (ze7 true _).mono ?_
   rintro e w3 ⟨rfl,hb3⟩
   have hres3:vBlk w3 (w.heap.size+1) 0 0:=hres2.below hb3
   have q0:w3.cell? ⟨w.heap.size+1,0,none⟩=some (.int .i64 0):=by rw [zBk hres3];rfl
   have q1:w3.cell? ⟨w.heap.size+1,1,none⟩=some (.int .i64 0):=by rw [zBk hres3];rfl
   have qf0:w3.frozen? ⟨w.heap.size+1,0,none⟩=false:=zBn hres3 0
   have qf1:w3.frozen? ⟨w.heap.size+1,1,none⟩=false:=zBn hres3 1
   go_wp2
   refine bodyPost_ret (v:=.agg #[.int .i64 2,.int .i64 1]) (zu9 _ _ (w.heap.size+1) 2 1 (by simp) (vBlk.set hres3 _ _)) rfl ?_
   exact finX hlt ((hb3.block wb (zCqB s1)).trans s1) (s2.keep (Kept.of_below (S:=[]) hb3) (by simp)) (((Kept.of_below hI.below).trans s3).trans (Kept.of_below hb3))
    (fun _ h=>h) (fun _ h=>Or.inl h) (fun hm=>by have:=hts _ hm;omega) _ _ (by first | rfl | (rcases l with _ | ⟨_,_⟩ <;> first | rfl | (exfalso;simp at hl;omega)))
 · have hnd:decide (0 < n)=false:=by simp;omega
   obtain ⟨s1,s2,s3,hk2⟩:=nilX hI.at_
   obtain ⟨w2,hw2⟩:∃ w2,W.setCell ⟨wb,o,none⟩ (.slice none 0 0)=w2:=⟨_,rfl⟩
   rw [hw2] at s1 s2 s3 hk2
   have hres2:vBlk w2 (w.heap.size+1) 0 0:=(hk2.block _ hrb (by simp;omega)).trans hI.res
   have hz2:=hk2.size
   go_wp2_with fail
   refine (ze7 false _).mono ?_
   rintro e w3 ⟨rfl,hb3⟩
   have hres3:vBlk w3 (w.heap.size+1) 0 0:=hres2.below hb3
   have q0:w3.cell? ⟨w.heap.size+1,0,none⟩=some (.int .i64 0):=by rw [zBk hres3];rfl
   have q1:w3.cell? ⟨w.heap.size+1,1,none⟩=some (.int .i64 0):=by rw [zBk hres3];rfl
   have qf0:w3.frozen? ⟨w.heap.size+1,0,none⟩=false:=zBn hres3 0
   have qf1:w3.frozen? ⟨w.heap.size+1,1,none⟩=false:=zBn hres3 1
   go_wp2
   refine bodyPost_ret (v:=.agg #[.int .i64 2,.int .i64 0]) (zu9 _ _ (w.heap.size+1) 2 0 (by simp) (vBlk.set hres3 _ _)) rfl ?_
   exact finX hlt ((hb3.block wb (zCqB s1)).trans s1) (s2.keep (Kept.of_below (S:=[]) hb3) (by simp)) (((Kept.of_below hI.below).trans s3).trans (Kept.of_below hb3))
    (fun _ h=>h) (fun _ h=>Or.inl h) (fun hm=>by have:=hts _ hm;omega) _ _ (by first | rfl | (rcases l with _ | ⟨_,_⟩ <;> first | rfl | (exfalso;simp at hl;omega)))
theorem zQL (wb o:Nat) (l:List Int) (n:Nat) (TS:List Nat) (wc:Array Value) (id cl:Int) (key:List UInt8) (arg exp call ret vk vn:Int) (w:World) (h:AtX w wb o TS wc l n) (hts:∀ x∈TS,x < w.heap.size):
 Calls Tryz.prog 26 #[.pointer (some ⟨wb,o,none⟩),opA id cl [104,97,115] key arg exp call ret vk vn] w fun e w'=>zef wb o TS wc (l,2,xHas l) w e w':=by
 unfold opA
 obtain ⟨W,oa,cap,hW,hI⟩:=inX_ id cl [104,97,115] key arg exp call ret vk vn h
 have c1:=hI.c1
 have c2:=hI.c2
 have c4:=hI.c4
 have c5:=hI.c5
 have hc:=hI.cell
 have hf:=hI.fz
 have hsz:=hI.below.size
 have hlt:=hI.lt
 have hl:=hI.row.len
 have hltW:wb < W.heap.size:=by omega
 have hrb:=zCqB hI.res
 have r0:W.cell? ⟨w.heap.size+1,0,none⟩=some (.int .i64 0):=by rw [zBk hI.res];rfl
 have r1:W.cell? ⟨w.heap.size+1,1,none⟩=some (.int .i64 0):=by rw [zBk hI.res];rfl
 have rf0:W.frozen? ⟨w.heap.size+1,0,none⟩=false:=zBn hI.res 0
 have rf1:W.frozen? ⟨w.heap.size+1,1,none⟩=false:=zBn hI.res 1
 go_enter Tryz.func26,Tryz.ntmps26
 go_wp2_with fail
 refine (zzT wb o oa n cap W hc).mono ?_
 rintro e w1 ⟨rfl,hw⟩
 have hw':=hw.symm
 clear hw
 subst hw'
 by_cases h1:1≤n
 · have hnd:decide (0 < n)=true:=by simp;omega
   have hres2:=hI.res
   go_wp2_with fail
   refine (ze7 true _).mono ?_
   rintro e w3 ⟨rfl,hb3⟩
   have hres3:vBlk w3 (w.heap.size+1) 0 0:=hres2.below hb3
   have q0:w3.cell? ⟨w.heap.size+1,0,none⟩=some (.int .i64 0):=by rw [zBk hres3];rfl
   have q1:w3.cell? ⟨w.heap.size+1,1,none⟩=some (.int .i64 0):=by rw [zBk hres3];rfl
   have qf0:w3.frozen? ⟨w.heap.size+1,0,none⟩=false:=zBn hres3 0
   have qf1:w3.frozen? ⟨w.heap.size+1,1,none⟩=false:=zBn hres3 1
   go_wp2
   refine bodyPost_ret (v:=.agg #[.int .i64 2,.int .i64 1]) (zu9 _ _ (w.heap.size+1) 2 1 (by simp) (vBlk.set hres3 _ _)) rfl ?_
   exact finX (TS':=TS) hlt (by rw [zQK hI.val];exact (hb3.block wb (zCqB hI.at_.blk)).trans hI.at_.blk) (hI.row.keep (Kept.of_below (S:=[]) hb3) (by simp)) ((Kept.of_below hI.below).trans (Kept.of_below hb3))
    (fun _ h=>h) (fun _ h=>Or.inl h) (fun hm=>by have:=hts _ hm;omega) _ _ (by first | rfl | (rcases l with _ | ⟨_,_⟩ <;> first | rfl | (exfalso;simp at hl;omega)))
 · have hnd:decide (0 < n)=false:=by simp;omega
   have hres2:=hI.res
   go_wp2_with fail
   refine (ze7 false _).mono ?_
   rintro e w3 ⟨rfl,hb3⟩
   have hres3:vBlk w3 (w.heap.size+1) 0 0:=hres2.below hb3
   have q0:w3.cell? ⟨w.heap.size+1,0,none⟩=some (.int .i64 0):=by rw [zBk hres3];rfl
   have q1:w3.cell? ⟨w.heap.size+1,1,none⟩=some (.int .i64 0):=by rw [zBk hres3];rfl
   have qf0:w3.frozen? ⟨w.heap.size+1,0,none⟩=false:=zBn hres3 0
   have qf1:w3.frozen? ⟨w.heap.size+1,1,none⟩=false:=zBn hres3 1
   go_wp2
   refine bodyPost_ret (v:=.agg #[.int .i64 2,.int .i64 0]) (zu9 _ _ (w.heap.size+1) 2 0 (by simp) (vBlk.set hres3 _ _)) rfl ?_
   exact finX (TS':=TS) hlt (by rw [zQK hI.val];exact (hb3.block wb (zCqB hI.at_.blk)).trans hI.at_.blk) (hI.row.keep (Kept.of_below (S:=[]) hb3) (by simp)) ((Kept.of_below hI.below).trans (Kept.of_below hb3))
    (fun _ h=>h) (fun _ h=>Or.inl h) (fun hm=>by have:=hts _ hm;omega) _ _ (by first | rfl | (rcases l with _ | ⟨_,_⟩ <;> first | rfl | (exfalso;simp at hl;omega)))
theorem z0fm (wb o:Nat) (l:List Int) (n:Nat) (TS:List Nat) (wc:Array Value) (id cl:Int) (key:List UInt8) (arg exp call ret vk vn:Int) (w:World) (h:AtX w wb o TS wc l n) (hts:∀ x∈TS,x < w.heap.size):
 Calls Tryz.prog 26 #[.pointer (some ⟨wb,o,none⟩),opA id cl [97,100,100] key arg exp call ret vk vn] w fun e w'=>zef wb o TS wc ([1],2,xNot l) w e w':=by
 unfold opA
 obtain ⟨W,oa,cap,hW,hI⟩:=inX_ id cl [97,100,100] key arg exp call ret vk vn h
 have c1:=hI.c1
 have c2:=hI.c2
 have c4:=hI.c4
 have c5:=hI.c5
 have hc:=hI.cell
 have hf:=hI.fz
 have hsz:=hI.below.size
 have hlt:=hI.lt
 have hl:=hI.row.len
 have hltW:wb < W.heap.size:=by omega
 have hrb:=zCqB hI.res
 have r0:W.cell? ⟨w.heap.size+1,0,none⟩=some (.int .i64 0):=by rw [zBk hI.res];rfl
 have r1:W.cell? ⟨w.heap.size+1,1,none⟩=some (.int .i64 0):=by rw [zBk hI.res];rfl
 have rf0:W.frozen? ⟨w.heap.size+1,0,none⟩=false:=zBn hI.res 0
 have rf1:W.frozen? ⟨w.heap.size+1,1,none⟩=false:=zBn hI.res 1
 go_enter Tryz.func26,Tryz.ntmps26
 go_wp2_with fail
 refine (zzT wb o oa n cap W hc).mono ?_
 rintro e w1 ⟨rfl,hw⟩
 have hw':=hw.symm
 clear hw
 subst hw'
 by_cases h1:1≤n
 · have hnd:decide (0 < n)=true:=by simp;omega
   go_wp2_with fail
   refine (zR0 wb o _ 1 W hc hf hltW).mono ?_
   rintro e w2 ⟨⟨vv,rfl⟩,hw2⟩
   obtain ⟨s1,s2,s3⟩:=setX hI.at_ 1 ⟨by omega,by omega⟩
   rw [←hw2] at s1 s2 s3
   have hk2:Kept [wb] W w2:=by rw [hw2];exact ((Kept.refl [wb] W).setCell (p:=⟨wb,o,none⟩) (Or.inl (by simp)) _).alloc _
   have hres2:vBlk w2 (w.heap.size+1) 0 0:=(hk2.block _ hrb (by simp;omega)).trans hI.res
   have hz2:=hk2.size
   clear hw2 c1 c2 c4 c5 hc hf r0 r1 rf0 rf1
   go_wp2_with fail
   refine (ze7 false _).mono ?_
   rintro e w3 ⟨rfl,hb3⟩
   have hres3:vBlk w3 (w.heap.size+1) 0 0:=hres2.below hb3
   have q0:w3.cell? ⟨w.heap.size+1,0,none⟩=some (.int .i64 0):=by rw [zBk hres3];rfl
   have q1:w3.cell? ⟨w.heap.size+1,1,none⟩=some (.int .i64 0):=by rw [zBk hres3];rfl
   have qf0:w3.frozen? ⟨w.heap.size+1,0,none⟩=false:=zBn hres3 0
   have qf1:w3.frozen? ⟨w.heap.size+1,1,none⟩=false:=zBn hres3 1
   go_wp2
   refine bodyPost_ret (v:=.agg #[.int .i64 2,.int .i64 0]) (zu9 _ _ (w.heap.size+1) 2 0 (by simp) (vBlk.set hres3 _ _)) rfl ?_
   exact finX hlt ((hb3.block wb (zCqB s1)).trans s1) (s2.keep (Kept.of_below (S:=[]) hb3) (by simp)) (((Kept.of_below hI.below).trans s3).trans (Kept.of_below hb3))
    (fun x hx=>by simp [hx]) (fun x hx=>by rcases List.mem_cons.1 hx with h | h;exact Or.inr (by omega);exact Or.inl h) (fun hm=>by rcases List.mem_cons.1 hm with h | h;omega;have:=hts _ h;omega) _ _ (by first | rfl | (rcases l with _ | ⟨_,_⟩ <;> first | rfl | (exfalso;simp at hl;omega)))
 · have hnd:decide (0 < n)=false:=by simp;omega
   go_wp2_with fail
   refine (zR0 wb o _ 1 W hc hf hltW).mono ?_
   rintro e w2 ⟨⟨vv,rfl⟩,hw2⟩
   obtain ⟨s1,s2,s3⟩:=setX hI.at_ 1 ⟨by omega,by omega⟩
   rw [←hw2] at s1 s2 s3
   have hk2:Kept [wb] W w2:=by rw [hw2];exact ((Kept.refl [wb] W).setCell (p:=⟨wb,o,none⟩) (Or.inl (by simp)) _).alloc _
   have hres2:vBlk w2 (w.heap.size+1) 0 0:=(hk2.block _ hrb (by simp;omega)).trans hI.res
   have hz2:=hk2.size
   clear hw2 c1 c2 c4 c5 hc hf r0 r1 rf0 rf1
   go_wp2_with fail
   refine (ze7 true _).mono ?_
   rintro e w3 ⟨rfl,hb3⟩
   have hres3:vBlk w3 (w.heap.size+1) 0 0:=hres2.below hb3
   have q0:w3.cell? ⟨w.heap.size+1,0,none⟩=some (.int .i64 0):=by rw [zBk hres3];rfl
   have q1:w3.cell? ⟨w.heap.size+1,1,none⟩=some (.int .i64 0):=by rw [zBk hres3];rfl
   have qf0:w3.frozen? ⟨w.heap.size+1,0,none⟩=false:=zBn hres3 0
   have qf1:w3.frozen? ⟨w.heap.size+1,1,none⟩=false:=zBn hres3 1
   go_wp2
   refine bodyPost_ret (v:=.agg #[.int .i64 2,.int .i64 1]) (zu9 _ _ (w.heap.size+1) 2 1 (by simp) (vBlk.set hres3 _ _)) rfl ?_
   exact finX hlt ((hb3.block wb (zCqB s1)).trans s1) (s2.keep (Kept.of_below (S:=[]) hb3) (by simp)) (((Kept.of_below hI.below).trans s3).trans (Kept.of_below hb3))
    (fun x hx=>by simp [hx]) (fun x hx=>by rcases List.mem_cons.1 hx with h | h;exact Or.inr (by omega);exact Or.inl h) (fun hm=>by rcases List.mem_cons.1 hm with h | h;omega;have:=hts _ h;omega) _ _ (by first | rfl | (rcases l with _ | ⟨_,_⟩ <;> first | rfl | (exfalso;simp at hl;omega)))
theorem zof (wb o:Nat) (l:List Int) (n:Nat) (TS:List Nat) (wc:Array Value) (id cl:Int) (key:List UInt8) (arg exp call ret vk vn:Int) (w:World) (h:AtX w wb o TS wc l n) (hts:∀ x∈TS,x < w.heap.size) (ha:small cl):
 Calls Tryz.prog 26 #[.pointer (some ⟨wb,o,none⟩),opA id cl [97,99,113] key arg exp call ret vk vn] w fun e w'=>zef wb o TS wc (xAcq cl l) w e w':=by
 unfold opA
 obtain ⟨W,oa,cap,hW,hI⟩:=inX_ id cl [97,99,113] key arg exp call ret vk vn h
 have c1:=hI.c1
 have c2:=hI.c2
 have c4:=hI.c4
 have c5:=hI.c5
 have hc:=hI.cell
 have hf:=hI.fz
 have hsz:=hI.below.size
 have hlt:=hI.lt
 have hl:=hI.row.len
 have hltW:wb < W.heap.size:=by omega
 have hrb:=zCqB hI.res
 have r0:W.cell? ⟨w.heap.size+1,0,none⟩=some (.int .i64 0):=by rw [zBk hI.res];rfl
 have r1:W.cell? ⟨w.heap.size+1,1,none⟩=some (.int .i64 0):=by rw [zBk hI.res];rfl
 have rf0:W.frozen? ⟨w.heap.size+1,0,none⟩=false:=zBn hI.res 0
 have rf1:W.frozen? ⟨w.heap.size+1,1,none⟩=false:=zBn hI.res 1
 go_enter Tryz.func26,Tryz.ntmps26
 go_wp2_with fail
 refine (zzT wb o oa n cap W hc).mono ?_
 rintro e w1 ⟨rfl,hw⟩
 have hw':=hw.symm
 clear hw
 subst hw'
 by_cases h1:1≤n
 · have hnd:decide (0 < n)=true:=by simp;omega
   have hres2:=hI.res
   go_wp2_with fail
   refine (ze7 false _).mono ?_
   rintro e w3 ⟨rfl,hb3⟩
   have hres3:vBlk w3 (w.heap.size+1) 0 0:=hres2.below hb3
   have q0:w3.cell? ⟨w.heap.size+1,0,none⟩=some (.int .i64 0):=by rw [zBk hres3];rfl
   have q1:w3.cell? ⟨w.heap.size+1,1,none⟩=some (.int .i64 0):=by rw [zBk hres3];rfl
   have qf0:w3.frozen? ⟨w.heap.size+1,0,none⟩=false:=zBn hres3 0
   have qf1:w3.frozen? ⟨w.heap.size+1,1,none⟩=false:=zBn hres3 1
   go_wp2
   refine bodyPost_ret (v:=.agg #[.int .i64 2,.int .i64 0]) (zu9 _ _ (w.heap.size+1) 2 0 (by simp) (vBlk.set hres3 _ _)) rfl ?_
   exact finX (TS':=TS) hlt (by rw [zQK hI.val];exact (hb3.block wb (zCqB hI.at_.blk)).trans hI.at_.blk) (hI.row.keep (Kept.of_below (S:=[]) hb3) (by simp)) ((Kept.of_below hI.below).trans (Kept.of_below hb3))
    (fun _ h=>h) (fun _ h=>Or.inl h) (fun hm=>by have:=hts _ hm;omega) _ _ (by first | rfl | (rcases l with _ | ⟨_,_⟩ <;> first | rfl | (exfalso;simp at hl;omega)))
 · have hnd:decide (0 < n)=false:=by simp;omega
   go_wp2_with fail
   refine (zR0 wb o _ cl W hc hf hltW).mono ?_
   rintro e w2 ⟨⟨vv,rfl⟩,hw2⟩
   obtain ⟨s1,s2,s3⟩:=setX hI.at_ cl ha
   rw [←hw2] at s1 s2 s3
   have hk2:Kept [wb] W w2:=by rw [hw2];exact ((Kept.refl [wb] W).setCell (p:=⟨wb,o,none⟩) (Or.inl (by simp)) _).alloc _
   have hres2:vBlk w2 (w.heap.size+1) 0 0:=(hk2.block _ hrb (by simp;omega)).trans hI.res
   have hz2:=hk2.size
   clear hw2 c1 c2 c4 c5 hc hf r0 r1 rf0 rf1
   go_wp2_with fail
   refine (ze7 true _).mono ?_
   rintro e w3 ⟨rfl,hb3⟩
   have hres3:vBlk w3 (w.heap.size+1) 0 0:=hres2.below hb3
   have q0:w3.cell? ⟨w.heap.size+1,0,none⟩=some (.int .i64 0):=by rw [zBk hres3];rfl
   have q1:w3.cell? ⟨w.heap.size+1,1,none⟩=some (.int .i64 0):=by rw [zBk hres3];rfl
   have qf0:w3.frozen? ⟨w.heap.size+1,0,none⟩=false:=zBn hres3 0
   have qf1:w3.frozen? ⟨w.heap.size+1,1,none⟩=false:=zBn hres3 1
   go_wp2
   refine bodyPost_ret (v:=.agg #[.int .i64 2,.int .i64 1]) (zu9 _ _ (w.heap.size+1) 2 1 (by simp) (vBlk.set hres3 _ _)) rfl ?_
   exact finX hlt ((hb3.block wb (zCqB s1)).trans s1) (s2.keep (Kept.of_below (S:=[]) hb3) (by simp)) (((Kept.of_below hI.below).trans s3).trans (Kept.of_below hb3))
    (fun x hx=>by simp [hx]) (fun x hx=>by rcases List.mem_cons.1 hx with h | h;exact Or.inr (by omega);exact Or.inl h) (fun hm=>by rcases List.mem_cons.1 hm with h | h;omega;have:=hts _ h;omega) _ _ (by first | rfl | (rcases l with _ | ⟨_,_⟩ <;> first | rfl | (exfalso;simp at hl;omega)))
end Go.Proofs.YtlkidmafomjhgaaGreatDoor.keep
