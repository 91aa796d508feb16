/- Several texts in one. -/
import Derived.Test.YtbbkihekjdffpaaGreatDoorJdW
import Derived.Test.YtbbkihekjdffpaaGreatDoorSrchTY
namespace Go.Proofs.YtbbkihekjdffpaaGreatDoor.jd
open Go.RowKit Go.Shelf
open Go.Sort (swp size_swp insInner insOuter)
open srch (half upTo downTo zzQ symM zSe zGU z8r z2U zjN hapsOf hapF mgO mgC mergeP allH Hap)
section
variable {α:Type} [Inhabited α] (lt:α→α→Bool)
def Srt (d:Array α):Prop:=∀ i j:Nat,i≤j→j < d.size→lt d[j]! d[i]! =false
variable {lt} {d:Array α}
theorem Srt.inner (h:Srt lt d) (a:Nat):∀ j:Nat,j < d.size→insInner lt a j d=d:=by
 intro j hj
 cases j with
 | zero=>rfl
 | succ j=>unfold insInner;rw [h j (j+1) (by omega) hj];simp
theorem Srt.outer (h:Srt lt d) (a b:Nat) (hb:b≤d.size) (f:Nat):∀ i:Nat,b - i≤f→insOuter lt a b i d=d:=by
 induction f with
 | zero=>intro i hf;unfold insOuter;rw [if_neg (by omega)]
 | succ f ih=>
   intro i hf
   unfold insOuter
   split
   · rw [h.inner a i (by omega)];exact ih (i+1) (by omega)
   · rfl
theorem Srt.ins (h:Srt lt d) (a b:Nat) (hb:b≤d.size):Sort.insertionSort lt d a b=d:=h.outer a b hb _ _ (Nat.le_refl _)
theorem ziZ (p:Nat→Bool) (f:Nat):∀ i j:Nat,(∀ c,i≤c→c < j→p c=false)→half p f i j=i:=by
 induction f with
 | zero=>intro i j _;rfl
 | succ f ih=>
   intro i j h
   unfold half
   split
   · rw [h ((i+j) / 2) (by omega) (by omega),if_neg (by simp)]
     exact ih i _ (fun c h1 h2=>h c h1 (by omega))
   · rfl
theorem z1L (p:Nat→Bool) (f:Nat):∀ i j:Nat,i≤j→j - i < f→(∀ c,i≤c→c < j→p c=true)→half p f i j=j:=by
 induction f with
 | zero=>intro i j _ h;omega
 | succ f ih=>
   intro i j hij hf h
   unfold half
   split
   · rw [h ((i+j) / 2) (by omega) (by omega),if_pos rfl]
     exact ih _ j (by omega) (by omega) (fun c h1 h2=>h c (by omega) h2)
   · omega
theorem Srt.start (h:Srt lt d) (a m b:Nat) (h1:a < m) (h2:m < b) (hb:b≤d.size):zzQ lt d a m b=if (a+b) / 2 < m then (a+b) / 2 else m:=by
 unfold zzQ
 dsimp only
 by_cases hc:(a+b) / 2 < m
 · rw [if_pos hc,if_pos hc]
   refine z1L _ _ _ _ (by omega) (by omega) (fun c h3 h4=>?_)
   rw [h c ((a+b) / 2+m - 1 - c) (by omega) (by omega)];rfl
 · rw [if_neg hc,if_neg hc]
   refine z1L _ _ _ _ (by omega) (by omega) (fun c h3 h4=>?_)
   rw [h c ((a+b) / 2+m - 1 - c) (by omega) (by omega)];rfl
theorem Srt.sym (h:Srt lt d) (f:Nat):∀ a m b:Nat,a < m→m < b→b≤d.size→symM lt f a m b d=d:=by
 induction f with
 | zero=>intro a m b _ _ _;rfl
 | succ f ih=>
   intro a m b h1 h2 hb
   unfold symM
   split
   · rw [ziZ _ _ m b (fun c h3 h4=>h a c (by omega) (by omega))]
     cases e:b - a with
     | zero=>omega
     | succ n=>unfold upTo;rw [if_neg (by omega)]
   · split
     · rw [z1L _ _ a m (by omega) (by omega) (fun c h3 h4=>by rw [h c m (by omega) (by omega)];rfl)]
       cases e:m - a with
       | zero=>omega
       | succ n=>unfold downTo;rw [if_neg (by omega)]
     · have hs:=h.start a m b h1 h2 hb
       dsimp only
       have e1:(if zzQ lt d a m b < m∧m < (a+b) / 2+m - zzQ lt d a m b then srch.rot d (zzQ lt d a m b) m ((a+b) / 2+m - zzQ lt d a m b) else d)=d:=by
        rw [if_neg]
        rw [hs]
        split <;> omega
       rw [e1]
       have e2:(if a < zzQ lt d a m b∧zzQ lt d a m b < (a+b) / 2 then symM lt f a (zzQ lt d a m b) ((a+b) / 2) d else d)=d:=by
        split
        · rename_i hh;exact ih a _ _ hh.1 hh.2 (by omega)
        · rfl
       rw [e2]
       split
       · rename_i hh;exact ih _ _ b hh.1 hh.2 hb
       · rfl
theorem Srt.blk (h:Srt lt d) (n:Nat) (hn:n≤d.size) (f:Nat):∀ a:Nat,(zSe lt f a n d).2=d:=by
 induction f with
 | zero=>intro a;rfl
 | succ f ih=>
   intro a
   unfold zSe
   split
   · rw [h.ins a (a+20) (by omega)];exact ih _
   · rfl
theorem Srt.mloop (h:Srt lt d) (bs n:Nat) (hbs:0 < bs) (hn:n≤d.size) (f:Nat):∀ a:Nat,(zGU lt bs f a n d).2=d:=by
 induction f with
 | zero=>intro a;rfl
 | succ f ih=>
   intro a
   unfold zGU
   split
   · rw [h.sym _ a (a+bs) (a+2*bs) (by omega) (by omega) (by omega)];exact ih _
   · rfl
theorem Srt.mrow (h:Srt lt d) (bs n:Nat) (hbs:0 < bs) (hn:n≤d.size):z8r lt bs n d=d:=by
 unfold z8r
 dsimp only
 rw [h.mloop bs n hbs hn]
 split
 · exact h.sym _ _ _ _ (by omega) (by assumption) hn
 · rfl
theorem Srt.mall (h:Srt lt d) (n:Nat) (hn:n≤d.size) (f:Nat):∀ bs:Nat,0 < bs→z2U lt f bs n d=d:=by
 induction f with
 | zero=>intro bs _;rfl
 | succ f ih=>
   intro bs hbs
   unfold z2U
   split
   · rw [h.mrow bs n hbs hn];exact ih _ (by omega)
   · rfl
theorem Srt.stable (h:Srt lt d):zjN lt d=d:=by
 unfold zjN
 dsimp only
 rw [h.blk d.size (Nat.le_refl _),h.ins _ _ (Nat.le_refl _)]
 exact h.mall d.size (Nat.le_refl _) _ 20 (by decide)
end
theorem zxJ (l:List OpV):((hapsOf l).2.map (·.2)=l)∧(∀ h∈(hapsOf l).2,h.1≤(hapsOf l).1)∧(hapsOf l).2.Pairwise (fun a b=>a.1≤b.1):=by
 have key:∀ (l:List OpV) (s:Int×List Hap),(∀ h∈s.2,h.1≤s.1)→s.2.Pairwise (fun a b=>a.1≤b.1)→
  ((l.foldl hapF s).2.map (·.2)=s.2.map (·.2)++l)∧(∀ h∈(l.foldl hapF s).2,h.1≤(l.foldl hapF s).1)∧(l.foldl hapF s).2.Pairwise (fun a b=>a.1≤b.1):=by
  intro l
  induction l with
  | nil=>intro s h1 h2;exact ⟨by simp,h1,h2⟩
  | cons o r ih=>
    intro s h1 h2
    obtain ⟨a,b,c⟩:=ih (hapF s o) (fun h hh=>by
     unfold hapF at hh ⊢
     dsimp only at hh ⊢
     rcases List.mem_append.1 hh with hh | hh
     · have:=h1 h hh;omega
     · rw [List.mem_singleton] at hh;subst hh;exact Int.le_refl _) (by
     unfold hapF
     dsimp only
     refine List.pairwise_append.2 ⟨h2,List.pairwise_singleton _ _,fun x hx y hy=>?_⟩
     rw [List.mem_singleton] at hy
     subst hy
     have:=h1 x hx
     dsimp only
     omega)
    refine ⟨?_,b,c⟩
    rw [List.foldl_cons,a]
    unfold hapF
    simp
 have:=key l (0,[]) (by simp) List.Pairwise.nil
 simpa [hapsOf] using this
theorem ze7 (l:List OpV):mergeP [l]=l:=by
 obtain ⟨h1,_,h3⟩:=zxJ l
 unfold mergeP mgO allH
 simp only [List.flatMap_cons,List.flatMap_nil,List.append_nil]
 have hs:Srt (ltOf mgC) (hapsOf l).2.toArray:=by
  intro i j hij hj
  have hj':j < (hapsOf l).2.length:=by simpa using hj
  rw [getElem!_pos _ j hj,getElem!_pos _ i (by omega)]
  have hle:((hapsOf l).2.toArray[i]'(by omega)).1≤((hapsOf l).2.toArray[j]'hj).1:=by
   rcases Nat.lt_or_ge i j with hlt | hge
   · have:=List.pairwise_iff_getElem.1 h3 i j (by omega) hj' hlt
     simpa using this
   · obtain rfl:i=j:=by omega
     exact Int.le_refl _
  unfold ltOf mgC srch.cmpI
  rw [if_neg (by omega)]
  split <;> simp
 rw [hs.stable]
 exact h1
end Go.Proofs.YtbbkihekjdffpaaGreatDoor.jd
namespace Go.Proofs.YtbbkihekjdffpaaGreatDoor.jd
open Go.RowKit
open srch (Legal LinP zqq z6N endS zLZ ahB Judged say ordO zBL Told PathW zCN zxD zIM zoi takenL mem_takenL gHas wfG Gr idsT ziO Rd)
theorem zRW {g h:Gr} (hg:wfG g) (hh:wfG h) (e:∀ q,q < 128→gHas g q=gHas h q):g=h:=by
 have key:∀ x y:Int,(0≤x∧x≤18446744073709551615)→(0≤y∧y≤18446744073709551615)→(∀ k,k < 64→(bits .and .u64 (x / 2 ^ k) 1 != 0)=(bits .and .u64 (y / 2 ^ k) 1 != 0))→x=y:=by
  intro x y hx hy hk
  obtain ⟨x,rfl⟩:=Int.eq_ofNat_of_zero_le hx.1
  obtain ⟨y,rfl⟩:=Int.eq_ofNat_of_zero_le hy.1
  have hx':x < 18446744073709551616:=by omega
  have hy':y < 18446744073709551616:=by omega
  congr 1
  apply Nat.eq_of_testBit_eq
  intro i
  by_cases hi:i < 64
  · have:=hk i hi
    rw [srch.bit_of x hx',srch.bit_of y hy'] at this
    exact this
  · have h64:∀ z:Nat,z < 18446744073709551616→z.testBit i=false:=fun z hz=>Nat.testBit_lt_two_pow (Nat.lt_of_lt_of_le hz (by
     have:(2:Nat) ^ 64≤2 ^ i:=Nat.pow_le_pow_right (by omega) (by omega)
     have e:(2:Nat) ^ 64=18446744073709551616:=by decide
     omega))
    rw [h64 x hx',h64 y hy']
 refine Prod.ext ?_ ?_
 · refine key _ _ hg.1 hh.1 (fun k hk=>?_)
   have:=e k (by omega)
   unfold gHas at this
   rw [if_pos hk,if_pos hk,Nat.mod_eq_of_lt hk] at this
   exact this
 · refine key _ _ hg.2 hh.2 (fun k hk=>?_)
   have:=e (k+64) (by omega)
   unfold gHas at this
   rw [if_neg (by omega),if_neg (by omega),show (k+64) % 64=k by omega] at this
   exact this
theorem z3f (L:List Cf):∀ n:Nat,(∀ c∈L,c.1.count 49≤L.foldl (fun n c=>max n (c.1.count 49)) n)∧n≤L.foldl (fun n c=>max n (c.1.count 49)) n:=by
 induction L with
 | nil=>intro n;exact ⟨by simp,Nat.le_refl _⟩
 | cons c r ih=>
   intro n
   obtain ⟨h1,h2⟩:=ih (max n (c.1.count 49))
   refine ⟨fun x hx=>?_,?_⟩
   · rw [List.foldl_cons]
     rcases List.mem_cons.1 hx with rfl | hx
     · omega
     · exact h1 x hx
   · rw [List.foldl_cons];omega
theorem zkI (L:List Cf) (b:Nat) (h:∀ c∈L,c.1.count 49≤b):∀ n,n≤b→L.foldl (fun n c=>max n (c.1.count 49)) n≤b:=by
 induction L with
 | nil=>intro n hn;exact hn
 | cons c r ih=>
   intro n hn
   rw [List.foldl_cons]
   exact ih (fun x hx=>h x (by simp [hx])) _ (by have:=h c (by simp);omega)
theorem z3r {ops ord:List OpV} (hd:ops.Nodup) (hn:ord.Nodup) (hs:∀ o∈ord,o∈ops):(zQ0 ops ord).count 49=ord.length:=by
 have e:(zQ0 ops ord).count 49=(ops.filter (fun o=>decide (o∈ord))).length:=by
  unfold zQ0
  clear hd hs
  induction ops with
  | nil=>rfl
  | cons o r ih=>
    rw [List.map_cons]
    by_cases h:o∈ord
    · rw [if_pos h,List.count_cons_self,ih,List.filter_cons_of_pos (by simpa using h)];rfl
    · rw [if_neg h,List.count_cons_of_ne (by decide),ih,List.filter_cons_of_neg (by simpa using h)]
 rw [e]
 apply Nat.le_antisymm
 · exact ziO _ _ (hd.filter _) (fun x hx=>by simpa using (List.mem_filter.1 hx).2)
 · exact ziO _ _ hn (fun x hx=>List.mem_filter.2 ⟨hs x hx,by simpa using hx⟩)
theorem zS7 {ops ord:List OpV} (hret:∀ o∈ops,0≤o.ret):z0d ops (zQ0 ops ord)=true↔∀ o∈ops,o.ret≠0→o∈ord:=by
 unfold z0d
 rw [Bool.not_eq_true',List.any_eq_false]
 constructor
 · intro h o ho hr
   apply Decidable.byContradiction
   intro hn
   obtain ⟨i,hi⟩:=List.mem_iff_getElem?.1 ho
   apply h i (by simpa using (List.getElem?_eq_some_iff.1 hi).1)
   unfold zy1
   rw [zUg ops ord i o hi,hi,if_neg hn]
   have:=hret o ho
   simp
   omega
 · intro h i hi hb
   obtain ⟨o,ho⟩:∃ o,ops[i]?=some o:=⟨_,List.getElem?_eq_getElem (by simpa using hi)⟩
   unfold zy1 at hb
   rw [zUg ops ord i o ho,ho] at hb
   simp only [Option.getD_some,Bool.and_eq_true,decide_eq_true_eq,beq_iff_eq] at hb
   rw [if_pos (h o (List.mem_of_getElem? ho) (by omega))] at hb
   exact absurd hb.1 (by decide)
section
variable {σ:Type} {doit:σ→OpV→σ×Int×Int} {s0:σ} {txt:σ→List UInt8} {good:σ→Prop} {m:List UInt8} {ops:List OpV}
theorem zmq (h:Sim doit s0 txt good m ops) (hd:ops.Nodup) {room:Nat} {L:List Cf} (hC:Cfs m ops room L true) (n:Nat):∀ ord:List OpV,ord.length=n→Legal doit s0 ops ord→zSj doit s0 txt ops ord∈L:=by
 induction n with
 | zero=>intro ord hn _;rw [List.length_eq_zero_iff.1 hn,zx8 h];exact hC.has
 | succ n ih=>
   intro ord hn hL
   rcases List.eq_nil_or_concat ord with rfl | ⟨r,x,rfl⟩
   · simp at hn
   rw [List.concat_eq_append] at hn hL ⊢
   have hx:=zsl (hL.sub x (by simp))
   exact hC.shut rfl _ (ih r (by simpa using hn) hL.init) _ (List.getElem?_eq_some_iff.1 hx).1 _ (znc h hd hL hx)
theorem zfe (h:Sim doit s0 txt good m ops) (hd:ops.Nodup) (hret:∀ o∈ops,0≤o.ret) {room:Nat} {L:List Cf} {kn:Bool} (hC:Cfs m ops room L kn) (hi:isP ops L=true):LinP doit s0 ops:=by
 unfold isP at hi
 rw [List.any_eq_true] at hi
 obtain ⟨c,hc,hw⟩:=hi
 obtain ⟨ord,hL,rfl⟩:=zXu h hd hret (hC.all c hc)
 exact ⟨ord,hL,(zS7 hret).1 hw⟩
theorem zPY (h:Sim doit s0 txt good m ops) (hd:ops.Nodup) (hn:ops.length≤128) {room:Nat} {L:List Cf} (hC:Cfs m ops room L true) (vis:List (Gr×σ)) (hvn:vis.Nodup) (hv:∀ c∈vis,srch.Reach doit (ordO ops) ((0,0),s0) c):vis.length≤L.length:=by
 have hp:=zBL ops
 have hn':(ordO ops).length≤128:=by rw [hp.length_eq];exact hn
 have hd':(ordO ops).Nodup:=hp.nodup_iff.2 hd
 have key:∀ c∈vis,∃ ord,Legal doit s0 ops ord∧c.2=endS doit s0 ord∧wfG c.1∧∀ q o,(ordO ops)[q]?=some o→(gHas c.1 q=true↔o∈ord):=by
  intro c hc
  obtain ⟨l,hl⟩:=hv c hc
  obtain ⟨hL,he⟩:=zCN doit hn' hd' hl
  refine ⟨takenL (ordO ops) l,hL.perm doit (fun o=>hp.mem_iff),he,(zIM doit _ hn' hl).1,fun q o ho=>?_⟩
  have hq:q < 128:=by have:=(List.getElem?_eq_some_iff.1 ho).1;omega
  rw [(zxD doit _ hn' hl).2 q hq,mem_takenL]
  constructor
  · intro hm;exact ⟨q,hm,ho⟩
  · rintro ⟨q',hm,ho'⟩
    rw [srch.nodup_at hd' ho ho'];exact hm
 have hch:∃ f:Gr×σ→List OpV,∀ c∈vis,Legal doit s0 ops (f c)∧c.2=endS doit s0 (f c)∧wfG c.1∧(∀ q o,(ordO ops)[q]?=some o→(gHas c.1 q=true↔o∈f c)):=by
  have key2:∀ c:Gr×σ,∃ ord,c∈vis→Legal doit s0 ops ord∧c.2=endS doit s0 ord∧wfG c.1∧∀ q o,(ordO ops)[q]?=some o→(gHas c.1 q=true↔o∈ord):=fun c=>by
   by_cases hc:c∈vis
   · obtain ⟨ord,ho⟩:=key c hc;exact ⟨ord,fun _=>ho⟩
   · exact ⟨[],fun x=>absurd x hc⟩
  exact ⟨fun c=>Classical.choose (key2 c),fun c hc=>Classical.choose_spec (key2 c) hc⟩
 obtain ⟨f,hf⟩:=hch
 have hnd:(vis.map (fun c=>zSj doit s0 txt ops (f c))).Nodup:=by
  rw [List.Nodup,List.pairwise_map]
  refine List.Pairwise.imp_of_mem (fun {a b} ha hb hne e=>hne ?_) hvn
  obtain ⟨a1,a2,a3,a4⟩:=hf a ha
  obtain ⟨b1,b2,b3,b4⟩:=hf b hb
  unfold zSj at e
  injection e with e1 e2
  have hmem:∀ o∈ops,(o∈f a↔o∈f b):=by
   intro o ho
   obtain ⟨i,hi⟩:=List.mem_iff_getElem?.1 ho
   have h1:=zUg ops (f a) i o hi
   rw [e1,zUg ops (f b) i o hi] at h1
   by_cases x:o∈f a
   · by_cases y:o∈f b
     · exact ⟨fun _=>y,fun _=>x⟩
     · rw [if_neg y,if_pos x] at h1;exact absurd h1 (by decide)
   · by_cases y:o∈f b
     · rw [if_pos y,if_neg x] at h1;exact absurd h1 (by decide)
     · exact ⟨fun z=>absurd z x,fun z=>absurd z y⟩
  refine Prod.ext (zRW a3 b3 (fun q hq=>?_)) ?_
  · by_cases hql:q < (ordO ops).length
    · have ho:=List.getElem?_eq_getElem hql
      rw [Bool.eq_iff_iff,a4 q _ ho,b4 q _ ho]
      exact hmem _ (hp.mem_iff.1 (List.getElem_mem hql))
    · have hno:∀ c∈vis,gHas c.1 q=false:=by
       intro c hc
       obtain ⟨l,hl⟩:=hv c hc
       rw [Bool.eq_false_iff]
       intro hh
       have:=((zxD doit _ hn' hl).2 q hq).1 hh
       obtain ⟨s,hs,rfl⟩:=List.mem_map.1 this
       exact hql (srch.path_lt doit _ hl s hs)
      rw [hno a ha,hno b hb]
  · exact h.inj _ _ (by rw [a2];exact h.ends _ _ rfl a1.sub) (by rw [b2];exact h.ends _ _ rfl b1.sub) (by rw [a2,b2];exact e2)
 have:=ziO _ L hnd (fun x hx=>by
  obtain ⟨c,hc,rfl⟩:=List.mem_map.1 hx
  exact zmq h hd hC _ _ rfl (hf c hc).1)
 simpa using this
theorem zHo {ord:List OpV} (hL:Legal doit s0 ops ord):z8Z ord:=by
 intro i k a b hki ha hb
 rintro ⟨h1,h2⟩
 obtain ⟨hkl,hke⟩:=List.getElem?_eq_some_iff.1 hb
 have hspl:ord=ord.take k++b::ord.drop (k+1):=by rw [←hke,←List.drop_eq_getElem_cons hkl,List.take_append_drop]
 have hin:=hL.ahead _ _ _ hspl a (hL.sub a (List.mem_of_getElem? ha)) (by unfold ahB;simp;omega)
 obtain ⟨q,hq⟩:=List.mem_iff_getElem?.1 hin
 rw [List.getElem?_take] at hq
 split at hq
 · have:=srch.nodup_at hL.nd hq ha;omega
 · cases hq
theorem zOc (n L:Nat) (h:roomP n < L):1000000 < 2*(n+1)*L:=by
 unfold roomP at h
 exact (Nat.div_lt_iff_lt_mul (by omega)).1 h |> fun x=>by rw [Nat.mul_comm] at x;exact x
theorem zAM [DecidableEq σ] (h:Sim doit s0 txt good m ops) (hd:ops.Nodup) (hn:ops.length≤128) (hret:∀ o∈ops,0≤o.ret) {b:Int} {v:Nat×List UInt8×List (List OpV)} (hj:Judged (fun p b r=>srch.Found doit (ordO p) s0 b r) [([45],ops)] (min b 1000000) [] v):Fit m ops b (say v):=by
 have hlen:∀ ord,Legal doit s0 ops ord→ord.length≤1000:=fun ord hL=>by
  have:=ziO _ ops hL.nd hL.sub
  omega
 cases hj with
 | unknown _ _ _ _ _ r hr hv=>
   refine .unk (by unfold say;rfl) (fun L kn hC=>?_)
   have hp:=zBL ops
   have hn':(ordO ops).length≤128:=by rw [hp.length_eq];exact hn
   obtain ⟨vis,h1,h2,h3⟩:=srch.Found.told doit _ hn' hr
   have hpos:0 < L.length:=List.length_pos_iff.2 (fun e=>by have:=hC.has;rw [e] at this;cases this)
   cases kn with
   | false=>
     have hr2:¬ L.length≤roomP ops.length:=by have:=hC.room;simpa using this
     have:=zOc ops.length L.length (by omega)
     have e:(2*((ops.length:Int)+1)*(L.length:Int))=((2*(ops.length+1)*L.length:Nat):Int):=by simp
     rw [e]
     omega
   | true=>
     have hle:=zPY h hd hn hC vis h1 h2
     have e:(2*((ops.length:Int)+1)*(L.length:Int))=((2*(ops.length+1)*L.length:Nat):Int):=by simp
     rw [e]
     have hmul:ops.length*vis.length≤ops.length*L.length:=Nat.mul_le_mul_left _ hle
     have hbig:ops.length*L.length < 2*(ops.length+1)*L.length:=Nat.mul_lt_mul_of_pos_right (by omega) hpos
     rcases h3 with ⟨_,h3⟩ | ⟨h3,_⟩ | ⟨h3,_⟩
     · rw [hp.length_eq] at h3
       rcases h3 with h3 | h3 <;> omega
     · omega
     · omega
 | illegal _ _ _ _ _ r hr hv=>
   obtain ⟨_,h2,hL,_,h5⟩:=zoi doit hn hd hr (by omega)
   refine .ill r.order (zBw ops r.order) _ (by unfold say;rfl) (z7o hL.sub) (zcP hL.sub hL.nd) (hlen _ hL) (z32 h hd _ _ rfl hL) (fun L kn hC hk=>?_)
   subst hk
   refine ⟨?_,?_⟩
   · rw [Bool.eq_false_iff]
     intro hi
     exact h2.1 hv (zfe h hd hret hC hi)
   · have e:(zBw ops r.order).length=r.order.length:=by simp [zBw]
     rw [e]
     unfold mostP
     apply Nat.le_antisymm
     · have:=(z3f L 0).1 _ (zmq h hd hC _ _ rfl hL)
       rw [show (zSj doit s0 txt ops r.order).1=zQ0 ops r.order from rfl,z3r hd hL.nd hL.sub] at this
       exact this
     · refine zkI L _ (fun c hc=>?_) 0 (Nat.zero_le _)
       obtain ⟨ord,hL2,rfl⟩:=zXu h hd hret (hC.all c hc)
       rw [show (zSj doit s0 txt ops ord).1=zQ0 ops ord from rfl,z3r hd hL2.nd hL2.sub]
       exact h5 hv ord hL2
 | next _ _ _ _ _ r v hr hv hr2=>
   cases hr2
   obtain ⟨_,_,hL,h4,_⟩:=zoi doit hn hd hr (by omega)
   refine .ok r.order (zBw ops r.order) _ ?_ (z7o hL.sub) (zcP hL.sub hL.nd) (hlen _ hL) (zHo hL) (z32 h hd _ _ rfl hL) ((zS7 hret).2 (h4 hv))
   unfold say
   rw [if_neg (show ¬ (1:Nat)=0 by decide),if_neg (show ¬ (1:Nat)=2 by decide)]
   show _++idsT (srch.mergeP ([]++[r.order]))++[10]=_
   rw [List.nil_append,ze7]
   rfl
end
end Go.Proofs.YtbbkihekjdffpaaGreatDoor.jd
