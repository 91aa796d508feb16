/- Moments sorted stably, walked. -/
import Derived.Test.YtkkipnihdiabpaaGreatDoorSrchSX
import Derived.Test.YtkkipnihdiabpaaGreatDoorSrchTU
namespace Go.Proofs.YtkkipnihdiabpaaGreatDoor.srch
open Go.RowKit Go.Shelf
open Go.Sort (swp size_swp grow grow_grow grow_empty alloc_eq_grow size_grow HoldsK flatK size_flatK get_flatK putRowK size_putRowK)
theorem hapRow_len (l : List Hap) : (hapRow l).length = l.length * 11 := by
  induction l with
  | nil => rfl
  | cons o r ih =>
    rw [show hapRow (o :: r) = hapCells o ++ hapRow r from rfl, List.length_append, ih, List.length_cons]
    show 11 + r.length * 11 = _
    omega
theorem hapRow_get (ops : List Hap) (i : Nat) (h : i < ops.length) : ∀ c, c < 11 → (hapRow ops)[i * 11 + c]? = (hapCells ops[i])[c]? := by
  induction ops generalizing i with
  | nil => simp at h
  | cons o r ih =>
    intro c hc
    have e : hapRow (o :: r) = hapCells o ++ hapRow r := by simp [hapRow]
    have hl : (hapCells o).length = 11 := rfl
    rw [e]
    cases i with
    | zero => simp only [Nat.zero_mul, Nat.zero_add, List.getElem_cons_zero]; rw [List.getElem?_append_left (by omega)]
    | succ i =>
      rw [List.getElem?_append_right (by omega), hl, show (i + 1) * 11 + c - 11 = i * 11 + c by omega, ih i (by simpa using h) c hc]
      rfl
def HAt (w : World) (oa : Option Addr) (l : List Hap) : Prop := l ≠ [] → ∃ g, oa = some ⟨g, 0, none⟩ ∧ g < w.heap.size ∧ ∀ j u, (hapRow l)[j]? = some u → w.cell? ⟨g, j, none⟩ = some u
def mgC (a b : Hap) : Int := cmpI a.1 b.1
/-- the operations by their moments -/
def mgO (ops : List Hap) : List Hap := (stableS (ltOf mgC) ops.toArray).toList
theorem mgO_len (ops : List Hap) : (mgO ops).length = ops.length := by
  unfold mgO
  have := (stableS_all (lt := ltOf mgC) (p := fun _ => True) (d := ops.toArray) (fun _ => trivial)).2
  simpa using this
theorem mgO_all {p : Hap → Prop} (ops : List Hap) (h0 : p default) (h : ∀ o ∈ ops, p o) : ∀ o ∈ mgO ops, p o := by
  have h1 : AllP p ops.toArray := by
    intro i
    by_cases hi : i < ops.length
    · rw [getElem!_pos _ _ (by simpa using hi)]; exact h _ (by simp)
    · rw [getElem!_neg _ _ (by simpa using hi)]; exact h0
  have h2 := (stableS_all (lt := ltOf mgC) h1).1
  intro o ho
  obtain ⟨i, hi, rfl⟩ := List.getElem_of_mem ho
  have := h2 i
  unfold mgO at hi
  rw [getElem!_pos _ _ (by simpa using hi)] at this
  simpa [mgO] using this
theorem hap_len (o : Hap) : (hapCells o).length = 11 := rfl
theorem hap_one (o : Hap) : ∀ v ∈ hapCells o, v.oneCell' = true := by
  intro u h
  simp [hapCells, opvCells] at h
  rcases h with rfl | rfl | rfl | rfl | rfl | rfl | rfl | rfl | rfl | rfl | rfl <;> rfl
theorem cmpLaysH (blk off size : Nat) (w : World) : CmpLays Tryz.prog 58 #[] hapCells 11 mgC blk off size w := by
  intro m os dk _ x y
  refine (mcmpG_any x y _).mono ?_
  rintro e w' ⟨rfl, h⟩
  exact ⟨rfl, h⟩
theorem insH_any (g : Nat) (cb : Array Value) (cf : Hap → Hap → Int) (blk cap : Nat) (d0 : Array Hap) (w0 : World) (eg : ∀ args w, (callFunc g args).run Tryz.prog w = .ok (.enter g args) w) (hcmp : CmpLays Tryz.prog g cb hapCells 11 cf blk 0 d0.size w0) (R : RowK hapCells 11 w0 blk 0 d0) (hsz : d0.size ≤ 1000000) (a b : Nat) (d : Array Hap) (w : World) (hs : d0.size = d.size) (S : SWK hapCells 11 w0 blk 0 d w) (hab : a ≤ b) (hb : b ≤ d.size) :
    Calls Tryz.prog 105 #[.slice (some ⟨blk, 0, none⟩) d0.size cap, .int .i64 a, .int .i64 b, .func (.func g) #[] cb] w fun e w' => e = .returned (.tuple #[]) ∧ SWK hapCells 11 w0 blk 0 (Sort.insertionSort (ltOf cf) d a b) w' := by
  have hC : CmpLays Tryz.prog g cb hapCells 11 cf blk 0 d.size w := fun m os dk hdk x y => by
    obtain ⟨n0, os0, rfl⟩ := S
    rw [sortWorldK_on hapCells 11 w0 blk 0 n0 m d dk os0 os R.hblk hdk]
    exact hcmp _ _ dk (by omega) x y
  rw [hs]
  refine (AnyQ.insertionSortCmpFunc Tryz.insHap 11 Tryz.isAgg129 Tryz.sizeOf129 hapCells R.hk R.h1 cf g cb blk 0 cap a b d w eg hC (S.holds R.hblk R.hH hs.symm) (S.lt R.hblk) hab hb (by omega)).mono ?_
  rintro e w' ⟨rfl, n, os, rfl⟩
  exact ⟨rfl, SWK.on S R.hblk n _ os (insS_size _ _ _ _)⟩
set_option maxHeartbeats 1000000 in
set_option maxRecDepth 100000 in
theorem ins0H_any (oa : Option Addr) (cap : Nat) (fv : Value) (w : World) :
    Calls Tryz.prog 105 #[.slice oa 0 cap, .int .i64 0, .int .i64 0, fv] w fun e w' => e = .returned (.tuple #[]) ∧ w' = w := by
  go_enter Tryz.func105, Tryz.ntmps105
  go_wp2
  refine wp_loop_rounds 1 ?_
  rw [rounds_succ]
  go_wp2
  go_end0
  exact ⟨rfl, rfl⟩
set_option maxHeartbeats 1000000 in
set_option maxRecDepth 100000 in
theorem stab0H_any (oa : Option Addr) (cap : Nat) (fv : Value) (w : World) :
    Calls Tryz.prog 87 #[.slice oa 0 cap, .int .i64 0, fv] w fun e w' => e = .returned (.tuple #[]) ∧ w' = w := by
  have hi := fun W => ins0H_any oa cap fv W
  go_enter Tryz.func87, Tryz.ntmps87
  go_wp2
  refine wp_loop_rounds 1 ?_
  rw [rounds_succ]
  go_wp2_with (go_at_call 105; refine (hi _).mono ?_; rintro e w1 ⟨rfl, rfl⟩)
  refine wp_loop_rounds 1 ?_
  rw [rounds_succ]
  go_wp2
  go_end0
  exact ⟨rfl, rfl⟩
set_option maxHeartbeats 1000000 in
set_option maxRecDepth 100000 in
theorem sortH_any (oa : Option Addr) (n cap : Nat) (g : Nat) (cb : Array Value) (w : World) (R : World → Prop)
    (h : Calls Tryz.prog 87 #[.slice oa n cap, .int .i64 n, .func (.func g) #[] cb] w fun e w' => e = .returned (.tuple #[]) ∧ R w') :
    Calls Tryz.prog 57 #[.slice oa n cap, .func (.func g) #[] cb] w fun e w' => e = .returned (.tuple #[]) ∧ R w' := by
  go_enter Tryz.func57, Tryz.ntmps57
  go_wp2_with (go_at_call 87; refine h.mono ?_; rintro e w1 ⟨rfl, hR⟩)
  go_end0
  exact ⟨rfl, hR⟩
theorem stabRowH (a : Option Addr) (c : Nat) (ops : List Hap) (B : Nat) (w : World) (hB : B ≤ w.heap.size) (hl : ops.length ≤ 128) (hown : w.ownsRow B 129 11 (.slice a ops.length c) ops.length (hapRow ops)) :
    Calls Tryz.prog 87 #[.slice a ops.length c, .int .i64 ops.length, .func (.func 58) #[] #[]] w fun e w' => e = .returned (.tuple #[]) ∧ (HAt w' a (mgO ops) ∧ Below B w w') := by
  by_cases h0 : ops = []
  · subst h0
    refine (stab0H_any a c _ w).mono ?_
    rintro e w' ⟨rfl, rfl⟩
    exact ⟨rfl, fun h => absurd (List.eq_nil_of_length_eq_zero (mgO_len [])) h, Below.refl _ _⟩
  · obtain ⟨_, ⟨h1, h2⟩ | ⟨g, cap, cur, h1, hg, hb, hcap, _, hsz, htk⟩⟩ := hown
    · exact absurd (List.eq_nil_of_length_eq_zero h2) h0
    · injection h1 with h1 _ h3
      subst h1 h3
      have hlen := hapRow_len ops
      have hH : HoldsK hapCells 11 w g 0 ops.toArray := by
        refine holdsK_of_blk hapCells 11 hap_len ops.toArray hb ?_
        intro i hi j hj
        have hi' : i < ops.length := by simpa using hi
        rw [getElem!_pos ops.toArray i hi]
        have h5 := hapRow_get ops i hi' j hj
        rw [← htk, List.getElem?_take_of_lt (by omega)] at h5
        rw [← Array.getElem?_toList, h5]
        simp
      have R : RowK hapCells 11 w g 0 ops.toArray := ⟨hap_len, hap_one, hH, lt_of_blk hb⟩
      have hsz2 : ops.toArray.size = ops.length := by simp
      have eg : ∀ args w, (callFunc 58 args).run Tryz.prog w = .ok (.enter 58 args) w := enters_of Tryz.func58 (by kernel_rfl) rfl
      have hC := cmpLaysH g 0 ops.toArray.size w
      have h := stabH_any styH hapCells mgC 58 #[] g 0 c ops.toArray ops.toArray w w eg hC (insH_any _ _ _ g c ops.toArray w eg hC R (by omega)) R rfl (SWK.start hH) (by omega)
      rw [hsz2] at h
      refine h.mono ?_
      rintro e w' ⟨rfl, hS⟩
      refine ⟨rfl, ?_, swk_below hS hg hB⟩
      intro _
      have hss : (stableS (ltOf mgC) ops.toArray).size = ops.toArray.size := (stableS_all (lt := ltOf mgC) (p := fun _ => True) (d := ops.toArray) (fun _ => trivial)).2
      have hH2 := hS.holds R.hblk R.hH hss
      refine ⟨g, rfl, hS.lt R.hblk, ?_⟩
      intro j u hj
      have hjl : j < (mgO ops).length * 11 := by rw [← hapRow_len]; exact (List.getElem?_eq_some_iff.1 hj).1
      have hq : j / 11 < (mgO ops).length := by omega
      have hq2 : j / 11 < (stableS (ltOf mgC) ops.toArray).size := by simpa [mgO] using hq
      have h6 := (hH2 j (by rw [size_flatK]; simpa [mgO] using hjl)).1
      rw [Nat.zero_add] at h6
      rw [h6, get_flatK hapCells 11 _ j (by simpa [mgO] using hjl)]
      have h7 := hapRow_get (mgO ops) (j / 11) hq (j % 11) (Nat.mod_lt _ (by omega))
      rw [show j / 11 * 11 + j % 11 = j by omega, hj] at h7
      rw [getElem!_pos (stableS (ltOf mgC) ops.toArray) (j / 11) hq2]
      have h8 : (mgO ops)[j / 11] = (stableS (ltOf mgC) ops.toArray)[j / 11] := by simp [mgO]
      have h9 : some u = (hapCells (stableS (ltOf mgC) ops.toArray)[j / 11])[j % 11]? := h7.trans (congrArg (fun o => (hapCells o)[j % 11]?) h8)
      have h11 : j % 11 < (hapCells (stableS (ltOf mgC) ops.toArray)[j / 11]).length := by rw [hap_len]; omega
      rw [getElem!_pos (hapCells (stableS (ltOf mgC) ops.toArray)[j / 11]) (j % 11) h11, h9, List.getElem?_eq_getElem h11]
      rfl
end Go.Proofs.YtkkipnihdiabpaaGreatDoor.srch
