/- Written, walked; what a made history is read as. -/
import Derived.Test.YtdfbhjgpkokebaaGreatDoorKeepM
import Derived.Test.YtdfbhjgpkokebaaGreatDoorKeepY
import Derived.Test.YtdfbhjgpkokebaaGreatDoorHistJ
namespace Go.Proofs.YtdfbhjgpkokebaaGreatDoor.keep
open Go.RowKit

theorem evRun_len (ms : List (List UInt8)) (L : Nat) (h : ∀ m ∈ ms, m.length ≤ L) (f : Nat) : ∀ (n i : Nat) (s : List UInt8) (d : List Int), (evRun ms f n i s d).1.length ≤ s.length + n * (L + 5) := by
  intro n
  induction n with
  | zero => intro i s d; simp [evRun]
  | succ n ih =>
    intro i s d
    rw [evRun]
    refine Nat.le_trans (ih _ _ _) ?_
    have hm : (ms.getD ((f + i) % ms.length) []).length ≤ L := by
      rw [List.getD]
      cases hq : ms[(f + i) % ms.length]? with
      | none => simp
      | some m => exact h m (List.mem_of_getElem? hq)
    have b1 := blankP_len d
    have b2 := blankP_len (blankP d).2
    have hs : (if i = 0 then s else s ++ [44]).length ≤ s.length + 1 := by split <;> simp
    rw [List.length_append, List.length_append, List.length_append, Nat.succ_mul]
    omega
theorem eventT_len (ms : List (List UInt8)) (d : List Int) (h : ∀ m ∈ ms, m.length ≤ 50) (hn : ms.length ≤ 6) : (eventT ms d).1.length ≤ 1000 := by
  unfold eventT
  dsimp only
  have h1 := evRun_len ms 50 h (nextP ms.length d).1 ms.length 0 ((blankP (nextP ms.length d).2).1 ++ [123]) (blankP (nextP ms.length d).2).2
  have b1 := blankP_len (nextP ms.length d).2
  have b2 := blankP_len (evRun ms (nextP ms.length d).1 ms.length 0 ((blankP (nextP ms.length d).2).1 ++ [123]) (blankP (nextP ms.length d).2).2).2
  rw [List.length_append] at h1
  rw [List.length_append, List.length_append]
  simp only [List.length_cons, List.length_nil] at *
  omega
theorem called_short (kd : Bool) (id cl : Int) (i k : Nat) (arg exp : Int) (kk : Nat) (d : List Int) (h0 : -1000000 < id) (h1 : id < 1000000) (hc : small cl) (ha : small arg) (he : small exp) : (calledP kd id cl (opS i k) arg exp kk d).1.length ≤ 1000 := by
  obtain ⟨c1, c2⟩ := hc
  obtain ⟨a1, a2⟩ := ha
  obtain ⟨x1, x2⟩ := he
  have l1 := sgnP_len id h0 h1
  have l2 := sgnP_len cl (by omega) (by omega)
  have l3 := sgnP_len arg (by omega) (by omega)
  have l4 := sgnP_len exp (by omega) (by omega)
  have l5 := blankP_len d
  have l6 := opS_len i k
  have l7 : (spelledP kk (blankP d).2).1.length ≤ 18 := spS_len _ _
  unfold calledP
  dsimp only
  refine eventT_len _ _ (fun m hm => ?_) ?_
  · rcases List.mem_append.1 hm with hm | hm
    · rcases List.mem_append.1 hm with hm | hm
      · simp only [List.mem_cons, List.not_mem_nil, or_false] at hm
        rcases hm with rfl | rfl | rfl
        · simp [mCall]; omega
        · simp [mBy]; omega
        · simp [mOp]; omega
      · split at hm
        · simp only [List.mem_cons, List.not_mem_nil, or_false] at hm; subst hm; simp [mKey]; omega
        · cases hm
    · split at hm
      · simp only [List.mem_cons, List.not_mem_nil, or_false] at hm
        rcases hm with rfl | rfl
        · simp [mExp]; omega
        · simp [mArg]; omega
      · split at hm
        · simp only [List.mem_cons, List.not_mem_nil, or_false] at hm; subst hm; simp [mArg]; omega
        · cases hm
  · rw [List.length_append, List.length_append]
    have k1 : (if kd = true then [mKey (spelledP kk (blankP d).2).1] else []).length ≤ 1 := by split <;> simp
    have k2 : (if opS i k = [99, 97, 115] then [mExp exp, mArg arg] else if opS i k = [119, 114, 105, 116, 101] ∨ opS i k = [112, 117, 116] ∨ opS i k = [101, 110, 113] then [mArg arg] else []).length ≤ 2 := by
      split
      · simp
      · split <;> simp
    simp only [List.length_cons, List.length_nil]
    omega
theorem answered_short (id vk vn : Int) (d : List Int) (h0 : -1000000 < id) (h1 : id < 1000000) (hv : valOk vk vn) : (answeredP id vk vn d).1.length ≤ 1000 := by
  have l1 := sgnP_len id h0 h1
  have l2 := toldP_len vk vn hv
  refine eventT_len _ _ (fun m hm => ?_) (by simp)
  simp only [List.mem_cons, List.not_mem_nil, or_false] at hm
  rcases hm with rfl | rfl
  · simp [mRet]; omega
  · simp [mVal]; omega
theorem tells_short (i : Nat) {ops : List OpV} {lines : List (List UInt8)} (h : Tells i ops lines) : lines.length ≤ 400 → ∀ l ∈ lines, l.length ≤ 1000 := by
  induction h with
  | nil => intro _ l hl; cases hl
  | @call ops lines h cl d hc hf ih =>
    intro hlen l hl
    have hlen' : lines.length + 1 ≤ 400 := by simpa using hlen
    have hol := h.len
    rcases List.mem_append.1 hl with hl | hl
    · exact ih (by omega) l hl
    · obtain ⟨k, kk, arg, exp, d', q1, q2, q3, q4, q5, q6, q7, q8, q9, _⟩ := startP_form i cl ops.length lines.length d
      simp only [List.mem_cons, List.not_mem_nil, or_false] at hl
      rw [hl, q8]
      exact called_short _ _ _ _ _ _ _ _ _ (by omega) (by omega) ⟨by omega, by omega⟩ q3 q4
  | @ret ops lines h j k o vk vn d hj hr hk hn hv ih =>
    intro hlen l hl
    have hlen' : lines.length + 1 ≤ 400 := by simpa using hlen
    have hol := h.len
    have hjl := (List.getElem?_eq_some_iff.1 hj).1
    have hid := h.ids j o hj
    rcases List.mem_append.1 hl with hl | hl
    · exact ih (by omega) l hl
    · simp only [List.mem_cons, List.not_mem_nil, or_false] at hl
      rw [hl]
      exact answered_short _ _ _ _ (by omega) (by omega) (giveOk_val hv)
theorem textL_len (ls : List (List UInt8)) (h : ∀ l ∈ ls, l.length ≤ 1000) : (textL ls).length ≤ 1001 * ls.length := by
  induction ls with
  | nil => simp [textL]
  | cons l r ih =>
    have e : textL (l :: r) = l ++ [10] ++ textL r := by simp [textL]
    have h1 := h l (by simp)
    have h2 := ih (fun l hl => h l (by simp [hl]))
    rw [e, List.length_append, List.length_append, List.length_cons]
    simp only [List.length_cons, List.length_nil]
    omega
theorem known_mod (i : Nat) (hi : i < 5) : knownRun (modS i) opTab = true := by
  obtain rfl | rfl | rfl | rfl | rfl : i = 0 ∨ i = 1 ∨ i = 2 ∨ i = 3 ∨ i = 4 := by omega
  all_goals decide
/-- A MADE HISTORY, AS A TEXT: read as it was meant, with the byte 10 at its end or without. -/
theorem made_read (i : Nat) (hi : i < 5) {ops : List OpV} {lines : List (List UInt8)} (h : Tells i ops lines) (hl : lines.length ≤ 128) :
    readP (modS i) (textL lines) = .inl ops ∧ readP (modS i) (textL lines).dropLast = .inl ops := by
  obtain ⟨h1, _, _, h4⟩ := tells_read i hi h hl
  refine ⟨?_, ?_⟩
  · rw [read_eq (known_mod i hi)]
    have := lines_text lines (fun l hl => (h1 l hl).1) []
    rw [List.append_nil] at this
    rw [this]
    show readRunR (modS i) (lines ++ []) 0 [] = _
    rw [List.append_nil]; exact h4
  · rw [read_eq (known_mod i hi), lines_short lines h1]; exact h4
theorem srow_own {w : World} {base : Nat} {oa : Option Addr} {cap : Nat} {ls : List (List UInt8)} (h : w.ownsRow base 9 1 (.slice oa ls.length cap) ls.length (strCells ls)) (hne : ls ≠ []) : ∃ g, oa = some ⟨g, 0, none⟩ ∧ SRow w g ls := by
  rcases owns_shape h with ⟨_, h0⟩ | ⟨g, c, h1, _, _, h4⟩
  · exact absurd (List.length_eq_zero_iff.1 h0) hne
  · injection h1 with ha _ hc
    subst ha
    refine ⟨g, rfl, h4, fun j x hj => ?_⟩
    have hjl := (List.getElem?_eq_some_iff.1 hj).1
    subst hc
    rw [World.ownsRow.cellAt h j (by omega)]
    unfold strCells
    rw [List.getElem?_map, hj]; rfl

set_option maxHeartbeats 4000000 in
set_option maxRecDepth 100000 in
theorem sameOpsK_any (va vb : Value) (b1 b2 : Nat) (ops : List OpV) (w : World) (ha : w.ownsRow b1 48 10 va ops.length (opsRow ops)) (hb : w.ownsRow b2 48 10 vb ops.length (opsRow ops)) (hl : ops.length ≤ 900) :
    Calls Tryz.prog 12 #[va, vb] w fun e w' => Below w.heap.size w w' ∧ e = .returned (.bool true) := by
  obtain ⟨oa, capa, rfl, hoa⟩ := owns_orow ha
  obtain ⟨ob, capb, rfl, hob⟩ := owns_orow hb
  clear ha hb
  go_enter Tryz.func12, Tryz.ntmps12
  go_wp2
  go_loopw [5] (fun i wr => ∃ (k : Nat), i = .int .i64 (k : Int) ∧ k ≤ ops.length ∧ Below w.heap.size w wr) (fun i _ => ops.length - (intOf i).toNat)
  case atStart => exact ⟨0, rfl, by omega, Below.refl _ _⟩
  case round =>
    obtain ⟨k, rfl, hk, hbl⟩ := hrel
    by_cases hin : k < ops.length
    · have hin' : (k : Int) < (ops.length : Int) := by omega
      have hne : ops ≠ [] := by intro h; rw [h] at hin; simp at hin
      obtain ⟨g, rfl, hg, hc⟩ := (hoa.below hbl) hne
      obtain ⟨g2, rfl, hg2, hc2⟩ := (hob.below hbl) hne
      have hcell : ∀ c u, c < 10 → (opvCells ops[k])[c]? = some u → wr.cell? ⟨g, k * 10 + c, none⟩ = some u := fun c u hcc hu => hc _ _ ((opsRow_get ops k hin c hcc).trans hu)
      have hcell2 : ∀ c u, c < 10 → (opvCells ops[k])[c]? = some u → wr.cell? ⟨g2, k * 10 + c, none⟩ = some u := fun c u hcc hu => hc2 _ _ ((opsRow_get ops k hin c hcc).trans hu)
      have q0 := hcell 0 _ (by omega) rfl
      have q1 := hcell 1 _ (by omega) rfl
      have q2 := hcell 2 _ (by omega) rfl
      have q3 := hcell 3 _ (by omega) rfl
      have q4 := hcell 4 _ (by omega) rfl
      have q5 := hcell 5 _ (by omega) rfl
      have q6 := hcell 6 _ (by omega) rfl
      have q7 := hcell 7 _ (by omega) rfl
      have q8 := hcell 8 _ (by omega) rfl
      have q9 := hcell 9 _ (by omega) rfl
      have p0 := hcell2 0 _ (by omega) rfl
      have p1 := hcell2 1 _ (by omega) rfl
      have p2 := hcell2 2 _ (by omega) rfl
      have p3 := hcell2 3 _ (by omega) rfl
      have p4 := hcell2 4 _ (by omega) rfl
      have p5 := hcell2 5 _ (by omega) rfl
      have p6 := hcell2 6 _ (by omega) rfl
      have p7 := hcell2 7 _ (by omega) rfl
      have p8 := hcell2 8 _ (by omega) rfl
      have p9 := hcell2 9 _ (by omega) rfl
      rw [Nat.add_zero] at q0 p0
      clear hcell hcell2 hc hc2 hoa hob
      generalize ops[k] = z at *
      obtain ⟨o1, o2, o3, o4, o5, o6, o7, o8, o9, o10⟩ := z
      simp only at q0 q1 q2 q3 q4 q5 q6 q7 q8 q9 p0 p1 p2 p3 p4 p5 p6 p7 p8 p9
      go_wp2
      go_cut [25] (fun a wx => a = .bool false ∧ wx = wr.drew)
      case first =>
        go_region
        all_goals
          go_wp2_with fail
          go_meet
          exact ⟨rfl, rfl⟩
      case rest =>
        obtain ⟨rfl, rfl⟩ := hcut
        clear q0 q1 q2 q3 q4 q5 q6 q7 q8 q9 p0 p1 p2 p3 p4 p5 p6 p7 p8 p9
        go_wp2
        go_roundw
        case rel => exact ⟨k + 1, by go_num, by omega, hbl.drew⟩
        case measure => simp [intOf]; omega
    · have hin' : ¬ (k : Int) < (ops.length : Int) := by omega
      go_wp2
      go_ret
      exact ⟨hbl, rfl⟩


set_option maxHeartbeats 4000000 in
set_option maxRecDepth 100000 in
/-- WRITTEN: true, whatever the raw numbers. -/
theorem written_any (which : Int) (hw64 : inI64 which) (sv : Value) (code : List Int) (W : World) (hg : Glob W)
    (hrow : ∃ oa cap, sv = .slice oa code.length cap ∧ (code ≠ [] → ∃ g off, oa = some ⟨g, off, none⟩ ∧ g < W.heap.size ∧ ∀ j x, code[j]? = some x → W.cell? ⟨g, off + j, none⟩ = some (.int .i64 x))) (hlen : code.length ≤ 9223372036854775807) (hwf : ∀ x ∈ code, inI64 x) :
    Calls Tryz.prog 4 #[.int .i64 which, sv] W fun e W' => Below W.heap.size W W' ∧ e = .returned (.bool true) := by
  have hng := hg.errs.lt
  have hi : pickP which 5 < 5 := pickP_lt _ (by omega)
  go_enter Tryz.func4, Tryz.ntmps4
  go_wp2_with fail
  refine (modelOf_any which W hw64).mono ?_
  rintro e w1 ⟨rfl, rfl⟩
  generalize pickP which 5 = i at *
  have hMd := made_any i hi sv code 128 (by omega) w1 hrow hlen hwf
  go_wp2_with fail
  refine hMd.mono ?_
  rintro e w2 ⟨vo, vl, ops, lines, base, ka, kn, kc, rfl, hT, hll, hO, hL, hbs, hb2⟩
  clear hMd hrow
  obtain ⟨lo, lc, rfl⟩ := slice_form hL
  obtain ⟨oo, oc, rfl⟩ := slice_form hO
  obtain ⟨hr1, hr2⟩ := made_read i hi hT hll
  have hsh := tells_short i hT (by omega)
  obtain ⟨W3, hW3, hb3, hB3⟩ : ∃ W3, w2.alloc (.cells #[.string ⟨(modS i).toArray⟩, .slice oo ops.length oc, .slice lo lines.length lc, .slice ka kn kc] 32) = W3 ∧ Below w2.heap.size w2 W3 ∧ W3.heap[w2.heap.size]? = some (.cells #[.string ⟨(modS i).toArray⟩, .slice oo ops.length oc, .slice lo lines.length lc, .slice ka kn kc] 32 (0, 0)) := ⟨_, rfl, (Below.refl _ _).alloc (Nat.le_refl _) _, blk_new _ _ _ rfl⟩
  have hL3 := owns_kept hL (Kept.of_below (S := []) hb3) (by simp)
  have hO3 := owns_kept hO (Kept.of_below (S := []) hb3) (by simp)
  have hTx := text_any lo lc lines W3 (fun hne => srow_own hL3 hne) (by omega) (fun l hl => by have := hsh l hl; omega)
  have c0 : W3.cell? ⟨w2.heap.size, 0, none⟩ = some (.string ⟨(modS i).toArray⟩) := by rw [cell_of_blk hB3]; rfl
  have c2 : W3.cell? ⟨w2.heap.size, 2, none⟩ = some (.slice lo lines.length lc) := by rw [cell_of_blk hB3]; rfl
  have htl : (textL lines).length ≤ 1001 * lines.length := textL_len lines hsh
  have hb13 : Below w1.heap.size w1 W3 := hb2.trans (hb3.mono hb2.size)
  have HR : Hid (readP (modS i) (textL lines) = .inl ops ∧ readP (modS i) (textL lines).dropLast = .inl ops) := ⟨hr1, hr2⟩
  clear hr1 hr2 hL hO hL3 hsh hb2 hb3 hT
  have hkn : Hid (knownRun (modS i) opTab = true) := known_mod i hi
  generalize hs : textL lines = s at *
  clear hs
  go_wp2_with fail
  refine hTx.mono ?_
  rintro e w4 ⟨rfl, hb4⟩
  have hb14 := hb13.trans (hb4.mono hb13.size)
  have hB4 := (hb4.block w2.heap.size (lt_of_blk hB3)).trans hB3
  have hO4 := owns_kept hO3 (Kept.of_below (S := []) hb4) (by simp)
  have d0 : w4.cell? ⟨w2.heap.size, 0, none⟩ = some (.string ⟨(modS i).toArray⟩) := by rw [cell_of_blk hB4]; rfl
  have hRd := lread_any ⟨s.toArray⟩ ⟨(modS i).toArray⟩ w4 (hg.below (hb14.mono hng)) (by show s.toArray.size ≤ 2000000; simp; omega)
  clear hTx hb13 hb4 hB3 c0 c2 hO3
  go_wp2_with fail
  refine hRd.mono ?_
  rintro e w5 ⟨hb5, ⟨hno, rfl⟩ | ⟨-, ⟨ops5, v5, hr5, hl5, hown5, rfl⟩ | ⟨l5, r5, hr5, rfl⟩⟩⟩
  · exact absurd (hkn.out.symm.trans hno) (by simp)
  · obtain rfl : ops5 = ops := by
      have e1 : readP (modS i) s = .inl ops5 := hr5
      rw [HR.out.1] at e1
      exact (Sum.inl.inj e1).symm
    have hz5 := hb5.size
    have hO5 := owns_kept hO4 (Kept.of_below (S := []) hb5) (by simp)
    have hB5 := (hb5.block w2.heap.size (lt_of_blk hB4)).trans hB4
    have d1 : w5.cell? ⟨w2.heap.size, 1, none⟩ = some (.slice oo ops5.length oc) := by rw [cell_of_blk hB5]; rfl
    have hSm := sameOpsK_any v5 (.slice oo ops5.length oc) _ _ ops5 w5 hown5 hO5 (by omega)
    have hb15 := hb14.trans (hb5.mono hb14.size)
    clear hr5 hRd d0 hB4 hO4 hb14 hb5
    go_wp2_with fail
    refine hSm.mono ?_
    rintro e w6 ⟨hb6, rfl⟩
    have hb16 := hb15.trans (hb6.mono hb15.size)
    have hO6 := owns_kept hO5 (Kept.of_below (S := []) hb6) (by simp)
    have hB6 := (hb6.block w2.heap.size (lt_of_blk hB5)).trans hB5
    have d0 : w6.cell? ⟨w2.heap.size, 0, none⟩ = some (.string ⟨(modS i).toArray⟩) := by rw [cell_of_blk hB6]; rfl
    clear hSm d1 hB5 hO5 hb15 hb6 hown5
    by_cases hse : s = []
    · subst hse
      have hR2 : Hid (readP (modS i) [] = .inl ops5) := HR.out.1
      have hRd := lread_any ⟨([] : List UInt8).toArray⟩ ⟨(modS i).toArray⟩ w6 (hg.below (hb16.mono hng)) (by show ([] : List UInt8).toArray.size ≤ 2000000; simp)
      go_wp2_with fail
      refine hRd.mono ?_
      rintro e w7 ⟨hb7, ⟨hno, rfl⟩ | ⟨-, ⟨ops7, v7, hr7, hl7, hown7, rfl⟩ | ⟨l7, r7, hr7, rfl⟩⟩⟩
      · exact absurd (hkn.out.symm.trans hno) (by simp)
      · obtain rfl : ops7 = ops5 := by
          have e1 : readP (modS i) ([] : List UInt8) = .inl ops7 := hr7
          rw [hR2.out] at e1
          exact (Sum.inl.inj e1).symm
        have hO7 := owns_kept hO6 (Kept.of_below (S := []) hb7) (by simp)
        have hB7 := (hb7.block w2.heap.size (lt_of_blk hB6)).trans hB6
        have d1 : w7.cell? ⟨w2.heap.size, 1, none⟩ = some (.slice oo ops7.length oc) := by rw [cell_of_blk hB7]; rfl
        have hSm := sameOpsK_any v7 (.slice oo ops7.length oc) _ _ ops7 w7 hown7 hO7 (by omega)
        have hb17 := hb16.trans (hb7.mono hb16.size)
        clear hr7 hRd d0 hB6 hO6 hb16 hb7
        go_wp2_with fail
        refine hSm.mono ?_
        rintro e w8 ⟨hb8, rfl⟩
        have hb18 := hb17.trans (hb8.mono hb17.size)
        clear hSm d1 hB7 hO7 hb17 hb8 hown7
        go_wp2
        go_ret
        exact ⟨hb18, rfl⟩
      · exfalso
        have e1 : readP (modS i) ([] : List UInt8) = .inr (l7, r7) := hr7
        rw [hR2.out] at e1
        cases e1
    · have hpos : 0 < s.length := List.length_pos_iff.2 hse
      have hne : s.isEmpty = false := by simp [hse]
      obtain ⟨s2, hs2⟩ : ∃ s2, s2 = s.dropLast := ⟨_, rfl⟩
      have hR2 : Hid (readP (modS i) s2 = .inl ops5) := by rw [hs2]; exact HR.out.2
      have hl2 : s2.length ≤ s.length := by rw [hs2]; simp
      have hex : (⟨s.toArray⟩ : ByteArray).extract 0 (s.length - 1) = ⟨s2.toArray⟩ := by
        rw [hs2, Lib.extract_eq, List.dropLast_eq_take]; simp
      have hx1 : ¬ ((s.length : Int) - 1 < 0) := by omega
      have hx2 : (s.length : Int) - 1 ≤ (s.length : Int) := by omega
      have hx3 : ((s.length : Int) - 1).toNat = s.length - 1 := by omega
      clear hs2 hse
      have hRd := lread_any ⟨s2.toArray⟩ ⟨(modS i).toArray⟩ w6 (hg.below (hb16.mono hng)) (by show s2.toArray.size ≤ 2000000; simp; omega)
      go_wp2_with fail
      refine hRd.mono ?_
      rintro e w7 ⟨hb7, ⟨hno, rfl⟩ | ⟨-, ⟨ops7, v7, hr7, hl7, hown7, rfl⟩ | ⟨l7, r7, hr7, rfl⟩⟩⟩
      · exact absurd (hkn.out.symm.trans hno) (by simp)
      · obtain rfl : ops7 = ops5 := by
          have e1 : readP (modS i) s2 = .inl ops7 := hr7
          rw [hR2.out] at e1
          exact (Sum.inl.inj e1).symm
        have hO7 := owns_kept hO6 (Kept.of_below (S := []) hb7) (by simp)
        have hB7 := (hb7.block w2.heap.size (lt_of_blk hB6)).trans hB6
        have d1 : w7.cell? ⟨w2.heap.size, 1, none⟩ = some (.slice oo ops7.length oc) := by rw [cell_of_blk hB7]; rfl
        have hSm := sameOpsK_any v7 (.slice oo ops7.length oc) _ _ ops7 w7 hown7 hO7 (by omega)
        have hb17 := hb16.trans (hb7.mono hb16.size)
        clear hr7 hRd d0 hB6 hO6 hb16 hb7
        go_wp2_with fail
        refine hSm.mono ?_
        rintro e w8 ⟨hb8, rfl⟩
        have hb18 := hb17.trans (hb8.mono hb17.size)
        clear hSm d1 hB7 hO7 hb17 hb8 hown7
        go_wp2
        go_ret
        exact ⟨hb18, rfl⟩
      · exfalso
        have e1 : readP (modS i) s2 = .inr (l7, r7) := hr7
        rw [hR2.out] at e1
        cases e1
  · exfalso
    have e1 : readP (modS i) s = .inr (l5, r5) := hr5
    rw [HR.out.1] at e1
    cases e1
end Go.Proofs.YtdfbhjgpkokebaaGreatDoor.keep
