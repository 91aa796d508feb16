/- First, walked; what is read behind a made history. -/
import Derived.Test.YtdfbhjgpkokebaaGreatDoorKeepQ
import Derived.Handy
import Derived.Deep.DeepCutAuto
namespace Go.Proofs.YtdfbhjgpkokebaaGreatDoor.keep
open Go.RowKit

theorem event_reason {model : List UInt8} {ops : List OpV} {s : ByteArray} {line e : Int} (h : eventR model ops s line = (e, none)) : e ≠ 0 := by
  unfold eventR at h
  split at h
  · injection h with h; omega
  · rename_i ms _
    split at h
    · injection h with h; omega
    · split at h
      · unfold callR at h
        split at h
        · injection h with h; dsimp only at h; omega
        · split at h
          · injection h with h; dsimp only at h; omega
          · split at h
            · injection h with h; dsimp only at h; omega
            · split at h
              · injection h with h; dsimp only at h; omega
              · injection h with _ h2; cases h2
      · unfold answerR at h
        split at h
        · injection h with h; dsimp only at h; omega
        · split at h
          · injection h with h; dsimp only at h; omega
          · split at h
            · injection h with h; dsimp only at h; omega
            · split at h
              · injection h with h; dsimp only at h; omega
              · injection h with _ h2; cases h2
theorem readRunR_far (model : List UInt8) (ls : List (List UInt8)) : ∀ (k : Nat) (ops : List OpV) (l r : Int), readRunR model ls k ops = .inr (l, r) → (k : Int) < l := by
  induction ls with
  | nil => intro k ops l r h; cases h
  | cons x t ih =>
    intro k ops l r h
    rw [readRunR] at h
    split at h
    · injection h with h; injection h with h1; omega
    · split at h
      · injection h with h; injection h with h1; omega
      · have := ih (k + 1) _ l r h; omega
/-- BEHIND A MADE HISTORY: a line is refused there or not at all, whatever stands behind it. -/
theorem first_plain (i : Nat) (hi : i < 5) {ops : List OpV} {lines : List (List UInt8)} (h : Tells i ops lines) (hl : lines.length ≤ 60) (L more : List UInt8) (hL : nn L) :
    (∃ ops1, readP (modS i) (textL lines ++ L ++ [10]) = .inl ops1 ∧ ((∃ ops2, readP (modS i) (textL lines ++ L ++ [10] ++ more) = .inl ops2) ∨ ∃ l r, readP (modS i) (textL lines ++ L ++ [10] ++ more) = .inr (l, r) ∧ (lines.length : Int) + 1 < l)) ∨
    ∃ r, r ≠ 0 ∧ readP (modS i) (textL lines ++ L ++ [10]) = .inr ((lines.length : Int) + 1, r) ∧ readP (modS i) (textL lines ++ L ++ [10] ++ more) = .inr ((lines.length : Int) + 1, r) := by
  obtain ⟨h1, _, _, h4⟩ := tells_read i hi h (by omega)
  have e1 : textL lines ++ L ++ [10] = textL (lines ++ [L]) := by simp [textL]
  have hnn : ∀ l ∈ lines ++ [L], nn l := by
    intro l hl
    rcases List.mem_append.1 hl with hl | hl
    · exact (h1 l hl).1
    · simp at hl; subst hl; exact hL
  have r1 : readP (modS i) (textL lines ++ L ++ [10]) = readRunR (modS i) (lines ++ [L]) 0 [] := by
    rw [read_eq (known_mod i hi), e1]
    have := lines_text (lines ++ [L]) hnn []
    rw [List.append_nil] at this
    rw [this]
    show readRunR (modS i) (lines ++ [L] ++ []) 0 [] = _
    rw [List.append_nil]
  have r2 : readP (modS i) (textL lines ++ L ++ [10] ++ more) = readRunR (modS i) (lines ++ [L] ++ linesP (nats more)) 0 [] := by
    rw [read_eq (known_mod i hi), e1, lines_text (lines ++ [L]) hnn more]
  have s1 : readRunR (modS i) (lines ++ [L]) 0 [] = match eventR (modS i) ops ⟨L.toArray⟩ ((lines.length : Int) + 1) with
      | (e, none) => .inr ((lines.length : Int) + 1, e)
      | (_, some ops') => .inl ops' := by
    rw [readRunR_app, h4]
    dsimp only
    rw [readRunR, if_neg (by omega), Nat.zero_add]
    rfl
  have s2 : readRunR (modS i) (lines ++ [L] ++ linesP (nats more)) 0 [] = match readRunR (modS i) (lines ++ [L]) 0 [] with | .inl ops' => readRunR (modS i) (linesP (nats more)) (lines.length + 1) ops' | .inr e => .inr e := by
    rw [readRunR_app]
    rw [List.length_append, Nat.zero_add]
    rfl
  rw [r1, r2, s2, s1]
  cases he : eventR (modS i) ops ⟨L.toArray⟩ ((lines.length : Int) + 1) with
  | mk e o =>
    cases o with
    | none => exact Or.inr ⟨e, event_reason he, rfl, rfl⟩
    | some ops1 =>
      refine Or.inl ⟨ops1, rfl, ?_⟩
      dsimp only
      cases hr : readRunR (modS i) (linesP (nats more)) (lines.length + 1) ops1 with
      | inl ops2 => exact Or.inl ⟨ops2, rfl⟩
      | inr x =>
        obtain ⟨l, r⟩ := x
        refine Or.inr ⟨l, r, rfl, ?_⟩
        have := readRunR_far _ _ _ _ _ _ hr
        omega
theorem Hid.mk' {p : Prop} (h : p) : Hid p := h
theorem dig_one (n : Nat) (h : n < 10) : digP n = [UInt8.ofNat (48 + n)] := by rw [digP, if_pos h]
/-- the line that reads() knows to be an event -/
theorem known_good : readP sReg [123, 34, 99, 97, 108, 108, 34, 58, 52, 44, 34, 98, 121, 34, 58, 49, 44, 34, 111, 112, 34, 58, 34, 114, 101, 97, 100, 34, 125] = .inl [⟨4, 1, [114, 101, 97, 100], [], 0, 0, 1, 0, 0, 0⟩] := by
  have h4 : sgnP 4 = [52] := by unfold sgnP; rw [if_neg (by omega)]; exact dig_one 4 (by omega)
  have h1 : sgnP 1 = [49] := by unfold sgnP; rw [if_neg (by omega)]; exact dig_one 1 (by omega)
  obtain ⟨e1, e2, e3⟩ := event_call 0 0 (by omega) (by decide) 4 1 0 (by omega) [] 0 0 [] (by omega) (by omega) ⟨by omega, by omega⟩ ⟨by omega, by omega⟩ ⟨by omega, by omega⟩ rfl (fun _ => rfl) (fun _ => rfl) [] (by simp) (by simp) 1
  have hc : (calledP (keyedN 0) 4 1 (opS 0 0) 0 0 0 []).1 = [123, 34, 99, 97, 108, 108, 34, 58, 52, 44, 34, 98, 121, 34, 58, 49, 44, 34, 111, 112, 34, 58, 34, 114, 101, 97, 100, 34, 125] := by
    show (eventT [mCall [] 4, mBy 1, mOp (opS 0 0)] []).1 = _
    unfold mCall mBy
    rw [h4, h1]
    rfl
  rw [hc] at e1 e2 e3
  rw [read_eq (by decide)]
  have hl := lines_short [[123, 34, 99, 97, 108, 108, 34, 58, 52, 44, 34, 98, 121, 34, 58, 49, 44, 34, 111, 112, 34, 58, 34, 114, 101, 97, 100, 34, 125]] (by simp only [List.mem_cons, List.not_mem_nil, or_false, forall_eq]; exact ⟨e2, e3⟩)
  have hd : (textL [[123, 34, 99, 97, 108, 108, 34, 58, 52, 44, 34, 98, 121, 34, 58, 49, 44, 34, 111, 112, 34, 58, 34, 114, 101, 97, 100, 34, 125]]).dropLast = [123, 34, 99, 97, 108, 108, 34, 58, 52, 44, 34, 98, 121, 34, 58, 49, 44, 34, 111, 112, 34, 58, 34, 114, 101, 97, 100, 34, 125] := rfl
  rw [hd] at hl
  rw [hl, readRunR, if_neg (by omega)]
  show (match eventR sReg [] _ ((0 : Int) + 1) with | (e, none) => _ | (_, some ops') => _) = _
  rw [show ((0 : Int) + 1) = 1 from rfl, show sReg = modS 0 from rfl, e1]
  rfl
/-- the line that reads() knows to be none -/
theorem known_bad : readP sReg [123, 34, 99, 97, 108, 108, 34, 58, 52, 125] = .inr (1, 3) := by
  have h4 : sgnP 4 = [52] := by unfold sgnP; rw [if_neg (by omega)]; exact dig_one 4 (by omega)
  have hML : MembL [mCall [] 4] [(sCall, 105, [], 4)] := ⟨memb_call (by omega) (by omega) Lx.nil, trivial⟩
  have hev := event_rm [mCall [] 4] [(sCall, 105, [], 4)] [] rfl (by simp) hML.get.2
  have hc : (eventT [mCall [] 4] []).1 = [123, 34, 99, 97, 108, 108, 34, 58, 52, 125] := by
    unfold mCall
    rw [h4]
    rfl
  have hr : rotL [(sCall, 105, [], 4)] (nextP [mCall [] 4].length []).1 [mCall [] 4].length 0 = [(sCall, 105, [], 4)] := rfl
  rw [hc, hr] at hev
  have he : eventR sReg [] ⟨([123, 34, 99, 97, 108, 108, 34, 58, 52, 125] : List UInt8).toArray⟩ 1 = (3, none) := by
    unfold eventR
    rw [hev]
    rfl
  rw [read_eq (by decide)]
  have hl := lines_short [[123, 34, 99, 97, 108, 108, 34, 58, 52, 125]] (by simp only [List.mem_cons, List.not_mem_nil, or_false, forall_eq]; exact ⟨by unfold nn; decide, by simp⟩)
  have hd : (textL [[123, 34, 99, 97, 108, 108, 34, 58, 52, 125]]).dropLast = [123, 34, 99, 97, 108, 108, 34, 58, 52, 125] := rfl
  rw [hd] at hl
  rw [hl, readRunR, if_neg (by omega)]
  show (match eventR sReg [] _ ((0 : Int) + 1) with | (e, none) => _ | (_, some ops') => _) = _
  rw [show ((0 : Int) + 1) = 1 from rfl, he]
  rfl

set_option maxHeartbeats 4000000 in
set_option maxRecDepth 100000 in
theorem reads_knows (W : World) (hg : Glob W) :
    Calls Tryz.prog 13 #[] W fun e W' => Below W.heap.size W W' ∧ e = .returned (.bool true) := by
  have hng := hg.errs.lt
  have hR1 := lread_any ⟨#[123, 34, 99, 97, 108, 108, 34, 58, 52, 44, 34, 98, 121, 34, 58, 49, 44, 34, 111, 112, 34, 58, 34, 114, 101, 97, 100, 34, 125]⟩ ⟨#[114, 101, 103, 105, 115, 116, 101, 114]⟩ W hg (by decide)
  have hkn : Hid (knownRun sReg opTab = true) := known_mod 0 (by omega)
  have hG : Hid (readP sReg [123, 34, 99, 97, 108, 108, 34, 58, 52, 44, 34, 98, 121, 34, 58, 49, 44, 34, 111, 112, 34, 58, 34, 114, 101, 97, 100, 34, 125] = .inl [⟨4, 1, [114, 101, 97, 100], [], 0, 0, 1, 0, 0, 0⟩]) := known_good
  have hBd : Hid (readP sReg [123, 34, 99, 97, 108, 108, 34, 58, 52, 125] = .inr (1, 3)) := known_bad
  go_enter Tryz.func13, Tryz.ntmps13
  go_wp2_with fail
  refine hR1.mono ?_
  rintro e w1 ⟨hb1, ⟨hno, rfl⟩ | ⟨-, ⟨ops1, v1, hr1, hl1, hown1, rfl⟩ | ⟨l1, r1, hr1, rfl⟩⟩⟩
  · exact absurd (hkn.out.symm.trans hno) (by simp)
  · have h1 : ops1.length = 1 := by
      have e1 : readP sReg [123, 34, 99, 97, 108, 108, 34, 58, 52, 44, 34, 98, 121, 34, 58, 49, 44, 34, 111, 112, 34, 58, 34, 114, 101, 97, 100, 34, 125] = .inl ops1 := hr1
      rw [hG.out] at e1
      have := Sum.inl.inj e1
      rw [← this]; rfl
    obtain ⟨oa, cap, rfl⟩ := slice_form hown1
    have hR2 := lread_any ⟨#[123, 34, 99, 97, 108, 108, 34, 58, 52, 125]⟩ ⟨#[114, 101, 103, 105, 115, 116, 101, 114]⟩ w1 (hg.below (hb1.mono hng)) (by decide)
    rw [h1]
    clear hr1 hl1 hown1 hR1 h1
    go_wp2_with fail
    refine hR2.mono ?_
    rintro e w2 ⟨hb2, ⟨hno, rfl⟩ | ⟨-, ⟨ops2, v2, hr2, hl2, hown2, rfl⟩ | ⟨l2, r2, hr2, rfl⟩⟩⟩
    · exact absurd (hkn.out.symm.trans hno) (by simp)
    · exfalso
      have e1 : readP sReg [123, 34, 99, 97, 108, 108, 34, 58, 52, 125] = .inl ops2 := hr2
      rw [hBd.out] at e1
      cases e1
    · have e1 : readP sReg [123, 34, 99, 97, 108, 108, 34, 58, 52, 125] = .inr (l2, r2) := hr2
      rw [hBd.out] at e1
      injection e1 with e1
      injection e1 with e2 e3
      subst e2
      subst e3
      have hb12 := hb1.trans (hb2.mono hb1.size)
      clear hr2 hR2 hb1 hb2
      go_wp2
      go_ret
      exact ⟨hb12, rfl⟩
  · exfalso
    have e1 : readP sReg [123, 34, 99, 97, 108, 108, 34, 58, 52, 44, 34, 98, 121, 34, 58, 49, 44, 34, 111, 112, 34, 58, 34, 114, 101, 97, 100, 34, 125] = .inr (l1, r1) := hr1
    rw [hG.out] at e1
    cases e1

set_option maxHeartbeats 4000000 in
set_option maxRecDepth 100000 in
/-- FIRST: true, whatever the raw numbers and the two texts. -/
theorem first_any (which : Int) (hw64 : inI64 which) (sv : Value) (code : List Int) (bad more : List UInt8) (W : World) (hg : Glob W)
    (hrow : ∃ oa cap, sv = .slice oa code.length cap ∧ (code ≠ [] → ∃ g off, oa = some ⟨g, off, none⟩ ∧ g < W.heap.size ∧ ∀ j x, code[j]? = some x → W.cell? ⟨g, off + j, none⟩ = some (.int .i64 x))) (hlen : code.length ≤ 9223372036854775807) (hwf : ∀ x ∈ code, inI64 x) (hsz : bad.length + more.length ≤ 1048576) :
    Calls Tryz.prog 5 #[.int .i64 which, sv, .string ⟨bad.toArray⟩, .string ⟨more.toArray⟩] W fun e W' => Below W.heap.size W W' ∧ e = .returned (.bool true) := by
  have hng := hg.errs.lt
  have hi : pickP which 5 < 5 := pickP_lt _ (by omega)
  go_enter Tryz.func5, Tryz.ntmps5
  go_wp2_with fail
  refine (modelOf_any which W hw64).mono ?_
  rintro e w1 ⟨rfl, rfl⟩
  generalize pickP which 5 = i at *
  have hMd := made_any i hi sv code 60 (by omega) w1 hrow hlen hwf
  go_wp2_with fail
  refine hMd.mono ?_
  rintro e w2 ⟨vo, vl, ops, lines, base, ka, kn, kc, rfl, hT, hll, hO, hL, hbs, hb2⟩
  clear hMd hrow
  obtain ⟨lo, lc, rfl⟩ := slice_form hL
  obtain ⟨oo, oc, rfl⟩ := slice_form hO
  have hFP : Hid (∀ L : List UInt8, nn L → _) := fun L hnl => first_plain i hi hT hll L more hnl
  have hsh := tells_short i hT (by omega)
  obtain ⟨W3, hW3, hb3, hB3⟩ : ∃ W3, w2.alloc (.cells #[.string ⟨(modS i).toArray⟩, .slice oo ops.length oc, .slice lo lines.length lc, .slice ka kn kc] 32) = W3 ∧ Below w2.heap.size w2 W3 ∧ W3.heap[w2.heap.size]? = some (.cells #[.string ⟨(modS i).toArray⟩, .slice oo ops.length oc, .slice lo lines.length lc, .slice ka kn kc] 32 (0, 0)) := ⟨_, rfl, (Below.refl _ _).alloc (Nat.le_refl _) _, blk_new _ _ _ rfl⟩
  have hL3 := owns_kept hL (Kept.of_below (S := []) hb3) (by simp)
  have hTx := text_any lo lc lines W3 (fun hne => srow_own hL3 hne) (by omega) (fun l hl => by have := hsh l hl; omega)
  have c2 : W3.cell? ⟨w2.heap.size, 2, none⟩ = some (.slice lo lines.length lc) := by rw [cell_of_blk hB3]; rfl
  have htl : (textL lines).length ≤ 1001 * lines.length := textL_len lines hsh
  have hb13 : Below w1.heap.size w1 W3 := hb2.trans (hb3.mono hb2.size)
  have hkn : Hid (knownRun (modS i) opTab = true) := known_mod i hi
  clear hL hO hL3 hsh hb2 hb3 hT
  generalize hs : textL lines = s at *
  clear hs
  go_wp2_with fail
  refine hTx.mono ?_
  rintro e w4 ⟨rfl, hb4⟩
  have hb14 := hb13.trans (hb4.mono hb13.size)
  have hB4 := (hb4.block w2.heap.size (lt_of_blk hB3)).trans hB3
  clear hTx hb13 hb4 hB3 c2
  go_upto_block 0 with fail
  go_cut [11] (fun a wx => wx = w4 ∧ ∃ (j : Nat), a = .string ⟨(bad.take j).toArray⟩ ∧ Hid (nn (bad.take j)))
  case first =>
    go_wp2_with fail
    go_loop [11, 12] (fun l i => ∃ (j : Nat), l = .string ⟨(bad.take j).toArray⟩ ∧ i = .int .i64 (j : Int) ∧ j ≤ bad.length ∧ Hid (nn (bad.take j))) (fun _ i => bad.length - (intOf i).toNat)
    case atStart => exact ⟨0, rfl, rfl, by omega, by intro c hc; simp at hc⟩
    case round =>
      obtain ⟨j, rfl, rfl, hj, hnl⟩ := hrel
      by_cases hin : j < bad.length
      · have hin' : (j : Int) < (bad.length : Int) := by omega
        have hsz1 : j < (⟨bad.toArray⟩ : ByteArray).size := by show j < bad.toArray.size; simpa using hin
        have hby : (⟨bad.toArray⟩ : ByteArray)[j]'hsz1 = bad[j] := by show bad.toArray[j]'(by simpa using hin) = bad[j]; simp
        by_cases hc : bad[j] = 10
        · have hc' : (((((⟨bad.toArray⟩ : ByteArray)[j]'hsz1).toNat : Int) != 10)) = false := by rw [hby, hc]; decide
          clear hby hc
          go_wp2_with fail
          go_meet
          exact ⟨rfl, j, rfl, hnl⟩
        · have hc' : (((((⟨bad.toArray⟩ : ByteArray)[j]'hsz1).toNat : Int) != 10)) = true := by
            rw [hby]
            have : bad[j].toNat ≠ 10 := fun e => hc (UInt8.toNat_inj.1 e)
            simp; omega
          have hex : (⟨bad.toArray⟩ : ByteArray).extract j (j + 1) = ⟨[bad[j]].toArray⟩ := by
            rw [Lib.extract_eq]
            congr 2
            rw [show j + 1 - j = 1 by omega, List.take_one, List.head?_drop, List.getElem?_eq_getElem hin]
            rfl
          have hT : Hid (bad.take (j + 1) = bad.take j ++ [bad[j]]) := List.take_succ_eq_append_getElem hin
          have hN : Hid (nn (bad.take (j + 1))) := by
            show nn _
            rw [hT.out]
            exact nn_app hnl.out (by intro c hc1; simp at hc1; subst hc1; exact hc)
          clear hby hc
          go_wp2_with fail
          go_round
          case rel => exact ⟨j + 1, by rw [hT.out]; exact congrArg Value.string (app_bytes _ [bad[j]]), by go_num, by omega, hN⟩
          case measure => simp [intOf]; omega
      · have hin' : ¬ (j : Int) < (bad.length : Int) := by omega
        go_wp2_with fail
        go_meet
        exact ⟨rfl, j, rfl, hnl⟩
  case rest =>
    obtain ⟨rfl, j, rfl, hnl⟩ := hcut
    have hLl : (bad.take j).length ≤ bad.length := by simp; omega
    have hP := hFP.out (bad.take j) hnl.out
    generalize bad.take j = L at *
    clear hFP hnl
    obtain ⟨U, hU⟩ : ∃ U, U = s ++ L := ⟨_, rfl⟩
    obtain ⟨T1, hT1⟩ : ∃ T1, T1 = U ++ [10] := ⟨_, rfl⟩
    obtain ⟨T2, hT2⟩ : ∃ T2, T2 = T1 ++ more := ⟨_, rfl⟩
    have hA1 : (⟨s.toArray⟩ : ByteArray) ++ ⟨L.toArray⟩ = ⟨U.toArray⟩ := by rw [hU]; exact app_bytes _ _
    have hA2 : (⟨U.toArray⟩ : ByteArray) ++ ⟨#[10]⟩ = ⟨T1.toArray⟩ := by rw [hT1]; exact app_bytes _ [10]
    have hA3 : (⟨T1.toArray⟩ : ByteArray) ++ ⟨more.toArray⟩ = ⟨T2.toArray⟩ := by rw [hT2]; exact app_bytes _ _
    have lU : U.length ≤ 1150000 := by rw [hU, List.length_append]; omega
    have l1 : T1.length = U.length + 1 := by rw [hT1, List.length_append]; rfl
    have l2 : T2.length = T1.length + more.length := by rw [hT2, List.length_append]
    have lU' : s.length + L.length = U.length := by rw [hU, List.length_append]
    have hP' : (∃ ops1, readP (modS i) T1 = .inl ops1 ∧ ((∃ ops2, readP (modS i) T2 = .inl ops2) ∨ ∃ l r, readP (modS i) T2 = .inr (l, r) ∧ (lines.length : Int) + 1 < l)) ∨ ∃ r, r ≠ 0 ∧ readP (modS i) T1 = .inr ((lines.length : Int) + 1, r) ∧ readP (modS i) T2 = .inr ((lines.length : Int) + 1, r) := by
      rw [hT2, hT1, hU]; exact hP
    have d0 : wc.cell? ⟨w2.heap.size, 0, none⟩ = some (.string ⟨(modS i).toArray⟩) := by rw [cell_of_blk hB4]; rfl
    have hR1 := lread_any ⟨T1.toArray⟩ ⟨(modS i).toArray⟩ wc (hg.below (hb14.mono hng)) (by show T1.toArray.size ≤ 2000000; rw [List.size_toArray]; omega)
    have HP : Hid _ := hP'
    clear hP hP' hU hT1 hT2
    have hz1 : ¬ (9223372036854775807 < s.length + L.length) := by omega
    have hz2 : ¬ (9223372036854775807 < U.length + 1) := by omega
    have hz3 : ¬ (9223372036854775807 < T1.length + more.length) := by omega
    have hlen2 : T2.length ≤ 2000000 := by omega
    clear l1 l2 lU' lU
    go_wp2_with fail
    refine hR1.mono ?_
    rintro e w5 ⟨hb5, ⟨hno, rfl⟩ | ⟨-, hrd⟩⟩
    · exact absurd (hkn.out.symm.trans hno) (by simp)
    have hb15 := hb14.trans (hb5.mono hb14.size)
    have hB5 := (hb5.block w2.heap.size (lt_of_blk hB4)).trans hB4
    have d0' : w5.cell? ⟨w2.heap.size, 0, none⟩ = some (.string ⟨(modS i).toArray⟩) := by rw [cell_of_blk hB5]; rfl
    have hR2 := lread_any ⟨T2.toArray⟩ ⟨(modS i).toArray⟩ w5 (hg.below (hb15.mono hng)) (by show T2.toArray.size ≤ 2000000; rw [List.size_toArray]; omega)
    clear hR1 hb5 hb14 hB4 d0
    rcases HP.out with ⟨ops1, p1, p2⟩ | ⟨r, hr0, p1, p2⟩
    · have p1' := Hid.mk' p1
      rcases hrd with ⟨ops5, v5, hr5, hl5, hown5, rfl⟩ | ⟨l5, r5, hr5, rfl⟩
      · obtain ⟨oa5, cap5, rfl⟩ := slice_form hown5
        clear hr5 hl5 hown5 p1 p1'
        have P2 := Hid.mk' p2
        clear p2
        go_wp2_with fail
        refine hR2.mono ?_
        rintro e w6 ⟨hb6, ⟨hno, rfl⟩ | ⟨-, ⟨ops6, v6, hr6, hl6, hown6, rfl⟩ | ⟨l6, r6, hr6, rfl⟩⟩⟩
        · exact absurd (hkn.out.symm.trans hno) (by simp)
        · obtain ⟨oa6, cap6, rfl⟩ := slice_form hown6
          clear hr6 hl6 hown6
          have hb16 := hb15.trans (hb6.mono hb15.size)
          have hB6 := (hb6.block w2.heap.size (lt_of_blk hB5)).trans hB5
          have hKn := reads_knows w6 (hg.below (hb16.mono hng))
          clear hR2 hb6 hb15 hB5
          go_wp2_with fail
          refine hKn.mono ?_
          rintro e w7 ⟨hb7, rfl⟩
          have hb17 := hb16.trans (hb7.mono hb16.size)
          have hB7 := (hb7.block w2.heap.size (lt_of_blk hB6)).trans hB6
          have d2 : w7.cell? ⟨w2.heap.size, 2, none⟩ = some (.slice lo lines.length lc) := by rw [cell_of_blk hB7]; rfl
          clear hKn hb7 hb16 hB6 hB7
          go_wp2
          go_ret
          exact ⟨hb17, rfl⟩
        · have hfar : (lines.length : Int) + 1 < l6 := by
            rcases P2.out with ⟨ops2, q⟩ | ⟨l, r, q, hlt⟩
            · rw [show readP (modS i) T2 = .inr (l6, r6) from hr6] at q; cases q
            · rw [show readP (modS i) T2 = .inr (l6, r6) from hr6] at q
              injection q with q
              injection q with q1 q2
              omega
          clear hr6
          have hne : (l6 == 0) = false := by simp; omega
          have hb16 := hb15.trans (hb6.mono hb15.size)
          have hB6 := (hb6.block w2.heap.size (lt_of_blk hB5)).trans hB5
          have hKn := reads_knows w6 (hg.below (hb16.mono hng))
          clear hR2 hb6 hb15 hB5
          go_wp2_with fail
          refine hKn.mono ?_
          rintro e w7 ⟨hb7, rfl⟩
          have hb17 := hb16.trans (hb7.mono hb16.size)
          have hB7 := (hb7.block w2.heap.size (lt_of_blk hB6)).trans hB6
          have d2 : w7.cell? ⟨w2.heap.size, 2, none⟩ = some (.slice lo lines.length lc) := by rw [cell_of_blk hB7]; rfl
          clear hKn hb7 hb16 hB6 hB7
          go_wp2
          go_ret
          exact ⟨hb17, rfl⟩
      · exfalso
        rw [show readP (modS i) T1 = .inr (l5, r5) from hr5] at p1
        cases p1
    · rcases hrd with ⟨ops5, v5, hr5, hl5, hown5, rfl⟩ | ⟨l5, r5, hr5, rfl⟩
      · exfalso
        rw [show readP (modS i) T1 = .inl ops5 from hr5] at p1
        cases p1
      · rw [show readP (modS i) T1 = .inr (l5, r5) from hr5] at p1
        injection p1 with p1
        injection p1 with e1 e2
        subst e2
        clear hr5
        have P2 := Hid.mk' p2
        clear p2
        go_wp2_with fail
        refine hR2.mono ?_
        rintro e w6 ⟨hb6, ⟨hno, rfl⟩ | ⟨-, ⟨ops6, v6, hr6, hl6, hown6, rfl⟩ | ⟨l6, r6, hr6, rfl⟩⟩⟩
        · exact absurd (hkn.out.symm.trans hno) (by simp)
        · exfalso
          have q := P2.out
          rw [show readP (modS i) T2 = .inl ops6 from hr6] at q
          cases q
        · have q := P2.out
          rw [show readP (modS i) T2 = .inr (l6, r6) from hr6] at q
          injection q with q
          injection q with q1 q2
          subst q2
          obtain rfl : l6 = l5 := by omega
          clear hr6
          have hn0 : (l6 == 0) = false := by simp; omega
          have hne : ¬ l6 = 0 := by omega
          have hr0' : (r6 != 0) = true := by simpa using hr0
          have hb16 := hb15.trans (hb6.mono hb15.size)
          have hB6 := (hb6.block w2.heap.size (lt_of_blk hB5)).trans hB5
          have hKn := reads_knows w6 (hg.below (hb16.mono hng))
          clear hR2 hb6 hb15 hB5
          go_wp2_with fail
          refine hKn.mono ?_
          rintro e w7 ⟨hb7, rfl⟩
          have hb17 := hb16.trans (hb7.mono hb16.size)
          have hB7 := (hb7.block w2.heap.size (lt_of_blk hB6)).trans hB6
          have d2 : w7.cell? ⟨w2.heap.size, 2, none⟩ = some (.slice lo lines.length lc) := by rw [cell_of_blk hB7]; rfl
          clear hKn hb7 hb16 hB6 hB7
          go_wp2
          go_ret
          exact ⟨hb17, rfl⟩
end Go.Proofs.YtdfbhjgpkokebaaGreatDoor.keep
