/- Several texts in one. -/
import Derived.Test.YtdfbhjgpkokebaaGreatDoorRefS
/- The reference's event, walked. -/
namespace Go.Proofs.YtdfbhjgpkokebaaGreatDoor
open Go.RowKit

theorem owns_orow {w : World} {base : Nat} {v : Value} {ops : List OpV} (h : w.ownsRow base 48 10 v ops.length (opsRow ops)) :
    ∃ oa capa, v = .slice oa ops.length capa ∧ ORow w oa ops := by
  rcases owns_shape h with ⟨rfl, h0⟩ | ⟨g, cap, rfl, _, _, hg⟩
  · exact ⟨none, 0, by rw [h0], fun hne => absurd (List.length_eq_zero_iff.1 h0) hne⟩
  · exact ⟨_, _, rfl, fun _ => ⟨g, rfl, hg, row_cells10 h⟩⟩
theorem callR_ok (model : List UInt8) (ms : List RM) (ops : List OpV) : ((callR model ms ops).1 = 0 ∧ ∃ o, (callR model ms ops).2 = some o ∧ o.name = (cR sOp ms).1.2.2.1) ∨ ((callR model ms ops).1 ≠ 0 ∧ (callR model ms ops).2 = none) := by
  unfold callR
  split
  · right; exact ⟨by decide, rfl⟩
  · split
    · right; exact ⟨by decide, rfl⟩
    · split
      · right; exact ⟨by decide, rfl⟩
      · split
        · right; exact ⟨by decide, rfl⟩
        · left; exact ⟨rfl, _, rfl, rfl⟩
theorem answerR_ok (model : List UInt8) (ms : List RM) (ops : List OpV) : ((answerR model ms ops).1 = 0 ∧ ∃ p, (answerR model ms ops).2 = some p ∧ p.1 < ops.length) ∨ ((answerR model ms ops).1 ≠ 0 ∧ (answerR model ms ops).2 = none) := by
  unfold answerR
  split
  · right; exact ⟨by decide, rfl⟩
  · split
    · right; exact ⟨by decide, rfl⟩
    · split
      · right; exact ⟨by decide, rfl⟩
      · rename_i h
        split
        · right; exact ⟨by decide, rfl⟩
        · left; exact ⟨rfl, _, rfl, (List.getElem?_eq_some_iff.1 h).1⟩

theorem cnt_le (nm : List UInt8) (ms : List RM) : cnt nm ms ≤ ms.length := List.length_filter_le _ _
/-- what event hands back -/
def EventPost (model : List UInt8) (ops : List OpV) (s : ByteArray) (line : Int) (base : Nat) (w : World) (e : Ending) (w' : World) : Prop :=
  Below base w w' ∧ ((∃ ops' v', eventR model ops s line = (0, some ops') ∧ ops'.length ≤ ops.length + 1 ∧ (∀ p ∈ ops', p.name.length ≤ 8000000) ∧ w'.ownsRow base 48 10 v' ops'.length (opsRow ops') ∧ e = .returned (.tuple #[v', .int .i64 0])) ∨
    (∃ r, eventR model ops s line = (r, none) ∧ (r != 0) = true ∧ e = .returned (.tuple #[.slice none 0 0, .int .i64 r])))

set_option maxHeartbeats 1000000 in
theorem event_many (model s : ByteArray) (line : Int) (hl : 128 < line) (oa : Option Addr) (n cap : Nat) (w : World) :
    Calls Tryz.prog 18 #[.string model, .string s, .int .i64 line, .slice oa n cap] w fun e w' => w' = w ∧ e = .returned (.tuple #[.slice none 0 0, .int .i64 1]) := by
  go_enter Tryz.func18, Tryz.ntmps18
  go_wp2
  go_ret2
  exact ⟨rfl, rfl⟩

theorem opBlk.below {w w' : World} {b : Nat} {o : OpV} (h : opBlk w b o) (k : Below w.heap.size w w') : opBlk w' b o := (k.block b (lt_of_blk h)).trans h
theorem opBlk.call {w : World} {b : Nat} {o : OpV} (h : opBlk w b o) (line : Int) : opBlk (w.setCell ⟨b, 6, none⟩ (.int .i64 line)) b { o with call := line } := by
  unfold opBlk at *
  rw [blk_setCell h]
  simp

set_option maxHeartbeats 4000000 in
set_option maxRecDepth 100000 in
theorem event_r (model s : ByteArray) (line : Int) (base : Nat) (v : Value) (ops : List OpV) (w : World) (hown : w.ownsRow base 48 10 v ops.length (opsRow ops)) (hbs : base ≤ w.heap.size) (hl : line ≤ 128) (hol : ops.length ≤ 900) (hs : s.size ≤ 2000000) (hml : model.size ≤ 2000000) (hon : ∀ p ∈ ops, p.name.length ≤ 8000000) :
    Calls Tryz.prog 18 #[.string model, .string s, .int .i64 line, v] w fun e w' => EventPost model.data.toList ops s line base w e w' := by
  obtain ⟨oa, capa, rfl, ho⟩ := owns_orow hown
  go_enter Tryz.func18, Tryz.ntmps18
  go_wp2_with fail
  refine (object_r s _ hs).mono ?_
  rintro e w1 ⟨hb1, ⟨ms, o, cap, hp, hmsl, hmk, hr, rfl⟩ | ⟨hp, rfl⟩⟩
  · have hB : Hid (eventR model.data.toList ops s line = if repR ms ms = true ∨ (cR sCall ms).2 + (cR sRet ms).2 ≠ 1 then (3, none)
        else if (cR sCall ms).2 = 1 then ((callR model.data.toList ms ops).1, (callR model.data.toList ms ops).2.map (fun o => ops ++ [{ o with call := line }]))
        else ((answerR model.data.toList ms ops).1, (answerR model.data.toList ms ops).2.map (answered ops line))) := by
      unfold eventR; rw [hp]; exact rfl
    clear hp
    go_wp2_with fail
    refine (repeated_any o cap ms _ hr (by omega)).mono ?_
    rintro e w2 ⟨hb2, rfl⟩
    have hbl2 : Below w.heap.size w w2 := hb1.trans (hb2.mono hb1.size)
    replace hr := hr.below hb2
    clear hb1 hb2
    go_wp2_with fail
    refine (rmember_any o cap ms sCall _ hr (by omega)).mono ?_
    rintro e w3 ⟨hb3, rfl⟩
    rw [show memR sCall zeroRM 0 ms = cR sCall ms from rfl]
    obtain ⟨i1, i2, i3, i4, ic, Hi⟩ : ∃ a b c d n, Hid (cR sCall ms = ((a, b, c, d), n)) := ⟨_, _, _, _, _, rfl⟩
    rw [Hi.out]
    unfold valRM
    dsimp only
    have hz2 := hbl2.size
    obtain ⟨W3, hW3, hbl3, hr3⟩ : ∃ W, w3.alloc (.cells #[.string ⟨i1.toArray⟩, .int .u8 (i2 : Int), .string ⟨i3.toArray⟩, .int .i64 i4] 88) = W ∧ Below w.heap.size w W ∧ RRow W o ms :=
      ⟨_, rfl, (hbl2.trans (hb3.mono hz2)).alloc (Nat.le_trans hz2 hb3.size) _, hr.below (hb3.alloc hb3.size _)⟩
    clear hbl2 hr hb3
    go_wp2_with fail
    refine (rmember_any o cap ms sRet W3 hr3 (by omega)).mono ?_
    rintro e w4 ⟨hb4, rfl⟩
    rw [show memR sRet zeroRM 0 ms = cR sRet ms from rfl]
    obtain ⟨x1, x2, x3, x4, xc, Hx⟩ : ∃ a b c d n, Hid (cR sRet ms = ((a, b, c, d), n)) := ⟨_, _, _, _, _, rfl⟩
    rw [Hx.out]
    unfold valRM
    dsimp only
    have hz3 := hbl3.size
    obtain ⟨W4, hW4, hbl4, hr4⟩ : ∃ W, w4.alloc (.cells #[.string ⟨x1.toArray⟩, .int .u8 (x2 : Int), .string ⟨x3.toArray⟩, .int .i64 x4] 88) = W ∧ Below w.heap.size w W ∧ RRow W o ms :=
      ⟨_, rfl, (hbl3.trans (hb4.mono hz3)).alloc (Nat.le_trans hz3 hb4.size) _, hr3.below (hb4.alloc hb4.size _)⟩
    have hz4 := hbl4.size
    have hcl : Hid (ic = (cR sCall ms).2 ∧ xc = (cR sRet ms).2) := ⟨by rw [Hi.out], by rw [Hx.out]⟩
    have hmi : Hid (ic ≤ ms.length ∧ xc ≤ ms.length) := by
      have h1 := cR_cnt sCall ms
      have h2 := cR_cnt sRet ms
      rw [Hi.out] at h1; rw [Hx.out] at h2
      exact ⟨by rw [show ic = cnt sCall ms from h1]; exact cnt_le _ _, by rw [show xc = cnt sRet ms from h2]; exact cnt_le _ _⟩
    rw [← hcl.out.1, ← hcl.out.2] at hB
    clear hbl3 hr3 hb4
    by_cases h3 : repR ms ms = true ∨ ic + xc ≠ 1
    · have hE : Hid (eventR model.data.toList ops s line = (3, none)) := by rw [hB.out, if_pos h3]; exact rfl
      clear hB hcl
      cases hrp : repR ms ms with
      | true =>
        clear h3
        go_wp2
        go_ret2
        exact ⟨hbl4.mono hbs, Or.inr ⟨3, hE.out, rfl, rfl⟩⟩
      | false =>
        have hne : (((ic : Int) + (xc : Int)) != 1) = true := by
          rw [hrp] at h3
          have : ic + xc ≠ 1 := by rcases h3 with h | h; cases h; exact h
          simp; omega
        have hwr : IntKind.i64.wrap ((ic : Int) + (xc : Int)) = (ic : Int) + (xc : Int) := by
          have := hmi.out; exact wrap_small (by omega) (by omega)
        clear h3
        go_wp2
        go_ret2
        exact ⟨hbl4.mono hbs, Or.inr ⟨3, hE.out, rfl, rfl⟩⟩
    · have hrp : repR ms ms = false := by cases h : repR ms ms with | true => exact absurd (Or.inl h) h3 | false => rfl
      have hsum : ic + xc = 1 := Decidable.byContradiction fun h => h3 (Or.inr h)
      have hne : (((ic : Int) + (xc : Int)) != 1) = false := by simp; omega
      have hwr : IntKind.i64.wrap ((ic : Int) + (xc : Int)) = (ic : Int) + (xc : Int) := wrap_small (by omega) (by omega)
      have hB2 : Hid (eventR model.data.toList ops s line = if ic = 1 then ((callR model.data.toList ms ops).1, (callR model.data.toList ms ops).2.map (fun o => ops ++ [{ o with call := line }]))
        else ((answerR model.data.toList ms ops).1, (answerR model.data.toList ms ops).2.map (answered ops line))) := by
        rw [hB.out, if_neg h3]; exact rfl
      have ho4 := ho.below hbl4
      have hown4 := owns_kept hown (Kept.of_below (S := []) hbl4) (by simp)
      clear hB hcl h3 hmi
      by_cases hic : ic = 1
      · have hie : ((ic : Int) == 1) = true := by simp; omega
        have hB3 : Hid (eventR model.data.toList ops s line = ((callR model.data.toList ms ops).1, (callR model.data.toList ms ops).2.map (fun o => ops ++ [{ o with call := line }]))) := by rw [hB2.out, if_pos hic]; exact rfl
        clear hB2 hic hsum
        go_wp2_with fail
        refine (call_r model o cap ms oa capa ops W4 hr4 ho4 (by omega) (by omega) hmk hml).mono ?_
        rintro e w5 ⟨hb5, rfl⟩
        have hbl5 : Below w.heap.size w w5 := hbl4.trans (hb5.mono hz4)
        have hown5 := owns_kept hown4 (Kept.of_below (S := []) hb5) (by simp)
        have hz5 := hbl5.size
        rcases callR_ok model.data.toList ms ops with ⟨hc0, no, hcs, hcn⟩ | ⟨hc0, hcs⟩
        · rw [hc0, hcs]
          have hE : Hid (eventR model.data.toList ops s line = (0, some (ops ++ [{ no with call := line }]))) := by rw [hB3.out, hc0, hcs]; exact rfl
          have hnl : no.name.length ≤ 8000000 := by rw [hcn]; exact (cR_ok hmk sOp).2.2
          have hon' : ∀ p ∈ ops ++ [{ no with call := line }], p.name.length ≤ 8000000 := by
            intro p hp
            rcases List.mem_append.1 hp with hp | hp
            · exact hon p hp
            · simp at hp; subst hp; exact hnl
          clear hB3 hc0 hcs hcn hmk hr4 hown hown4 ho ho4 hb5
          obtain ⟨o1, o2, o3, o4, o5, o6, o7, o8, o9, o10⟩ := no
          unfold opVal
          simp only [Option.getD_some]
          obtain ⟨i0, hi, hz0, hz1, hzb⟩ := info_parts opInfo
          have hrow := owns_row hown5
          go_wp2_with (at_builtin; refine wpList_append_own _ rfl _ _ 22 rfl base 48 i0 _ 10 96 Tryz.underlying22 hi hz0 hz1 hzb rfl (by decide) _ _ _ rfl ((hown5.alloc _).alloc _) ⟨w5.heap.size + 1, 0, none⟩ 1 1 (opvCells ⟨o1, o2, o3, o4, o5, o6, line, o8, o9, o10⟩) rfl rfl ?c1 ?c2 ?c3 ?c4 ?c5 ?_)
          case c1 =>
            simp [opvCells]
          case c2 => intro u hu; simp [opvCells] at hu; rcases hu with rfl | rfl | rfl | rfl | rfl | rfl | rfl | rfl | rfl | rfl <;> rfl
          case c3 => unfold maxLen; omega
          case c4 => omega
          case c5 => omega
          intro v6 w6 own6 grow6 _
          have hb6 : Below base w w6 := Below.grown (((hbl5.alloc hz5 _).alloc (by simp; omega) _).mono hbs) grow6 (by simp; omega) hrow
          rw [← opsRow_snoc] at own6
          have own7 : w6.ownsRow base 48 10 v6 (ops ++ [(⟨o1, o2, o3, o4, o5, o6, line, o8, o9, o10⟩ : OpV)]).length (opsRow (ops ++ [(⟨o1, o2, o3, o4, o5, o6, line, o8, o9, o10⟩ : OpV)])) := by simpa using own6
          clear own6 grow6 hrow hown5
          go_wp2
          go_ret2
          exact ⟨hb6, Or.inl ⟨_, v6, hE.out, by simp, hon', own7, rfl⟩⟩
        · rw [hcs]
          have hE : Hid (eventR model.data.toList ops s line = ((callR model.data.toList ms ops).1, none)) := by rw [hB3.out, hcs]; exact rfl
          generalize (callR model.data.toList ms ops).1 = rr at *
          have hrr : (rr != 0) = true := by simpa using hc0
          clear hB3 hcs hc0
          unfold opVal zeroOp
          simp only [Option.getD_none]
          go_wp2
          go_ret2
          exact ⟨(hbl5.alloc hz5 _).mono hbs, Or.inr ⟨rr, hE.out, hrr, rfl⟩⟩
      · have hie : ((ic : Int) == 1) = false := by simp; omega
        have hB3 : Hid (eventR model.data.toList ops s line = ((answerR model.data.toList ms ops).1, (answerR model.data.toList ms ops).2.map (answered ops line))) := by rw [hB2.out, if_neg hic]; exact rfl
        clear hB2 hic hsum
        go_wp2_with fail
        refine (answer_r model o cap ms oa capa ops W4 hr4 ho4 (by omega) (by omega) hmk hml hon).mono ?_
        rintro e w5 ⟨hb5, at_, vk, vn, hq, rfl⟩
        have hbl5 : Below w.heap.size w w5 := hbl4.trans (hb5.mono hz4)
        have hown5 := owns_kept hown4 (Kept.of_below (S := []) hb5) (by simp)
        have hz5 := hbl5.size
        rcases answerR_ok model.data.toList ms ops with ⟨hc0, ⟨q, qk, qn⟩, hcs, hcn⟩ | ⟨hc0, hcs⟩
        · obtain ⟨rfl, rfl, rfl⟩ := hq _ hcs
          rw [hc0]
          have hcn' : q < ops.length := hcn
          have hE : Hid (eventR model.data.toList ops s line = (0, some (ops.set q (setRet ops[q] line vk vn)))) := by
            rw [hB3.out, hc0, hcs]
            show (0, some (answered ops line (q, vk, vn))) = _
            unfold answered
            rw [List.getElem?_eq_getElem hcn']
          have hon' : ∀ p ∈ ops.set q (setRet ops[q] line vk vn), p.name.length ≤ 8000000 := by
            intro p hp
            rcases List.mem_or_eq_of_mem_set hp with h | h
            · exact hon p h
            · rw [h]; exact hon ops[q] (List.getElem_mem hcn')
          obtain ⟨g, rfl, hcap, hgb, hgw⟩ : ∃ g, oa = some ⟨g, 0, none⟩ ∧ ops.length ≤ capa ∧ base ≤ g ∧ g < w5.heap.size := by
            rcases owns_shape hown5 with ⟨_, h0⟩ | ⟨g, cap, h1, h2, h3, h4⟩
            · omega
            · injection h1 with ha _ hc; exact ⟨g, ha, by omega, h3, h4⟩
          obtain ⟨W6, hW6, hbl6, V6⟩ : ∃ W, w5.alloc (.cells #[.int .i64 vk, .int .i64 vn] 46) = W ∧ Below w5.heap.size w5 W ∧ vBlk W w5.heap.size vk vn := ⟨_, rfl, (Below.refl _ _).alloc (Nat.le_refl _) _, blk_new _ _ _ rfl⟩
          have hown6 := owns_kept hown5 (Kept.of_below (S := []) hbl6) (by simp)
          have hz6 := hbl6.size
          have hbl60 : Below w.heap.size w W6 := hbl5.trans (hbl6.mono hz5)
          have hcell : ∀ c u, c < 10 → (opvCells ops[q])[c]? = some u → W6.cell? ⟨g, q * 10 + c, none⟩ = some u := fun c u hcc hu => row_cells10 hown6 _ _ ((opsRow_get ops q hcn' c hcc).trans hu)
          have q7 := hcell 7 _ (by omega) rfl
          have q8 := hcell 8 _ (by omega) rfl
          have q9 := hcell 9 _ (by omega) rfl
          obtain ⟨cur, hgb2⟩ : ∃ cur, W6.heap[g]? = some (.cells cur 48 (0, 0)) := by
            rcases hown6.2 with ⟨h1, _⟩ | ⟨g', cap', cur, h1, _, hg, _⟩
            · cases h1
            · simp at h1; rw [h1.1]; exact ⟨cur, hg⟩
          have f7 : W6.frozen? ⟨g, q * 10 + 7, none⟩ = false := frozen_of_blk hgb2 _
          have f8 : W6.frozen? ⟨g, q * 10 + 8, none⟩ = false := frozen_of_blk hgb2 _
          have f9 : W6.frozen? ⟨g, q * 10 + 9, none⟩ = false := frozen_of_blk hgb2 _
          have v0 : W6.cell? ⟨w5.heap.size, 0, none⟩ = some (.int .i64 vk) := by rw [cell_of_blk V6]; rfl
          have v1 : W6.cell? ⟨w5.heap.size, 1, none⟩ = some (.int .i64 vn) := by rw [cell_of_blk V6]; rfl
          have n2 : w5.heap.size ≠ g := by omega
          have hii : (q : Int) < (ops.length : Int) := by omega
          have hlen : (opsRow ops).length = ops.length * 10 := hown6.1
          have own7 : (((W6.setCell ⟨g, q * 10 + 7, none⟩ (.int .i64 line)).setCell ⟨g, q * 10 + 8, none⟩ (.int .i64 vk)).setCell ⟨g, q * 10 + 9, none⟩ (.int .i64 vn)).ownsRow base 48 10 (.slice (some ⟨g, 0, none⟩) ops.length capa) ops.length (opsRow (ops.set q (setRet ops[q] line vk vn))) := by
            rw [opsRow_set ops q hcn']
            exact owns_set (owns_set (owns_set hown6 (q * 10 + 7) _ (by omega)) (q * 10 + 8) _ (by simp; omega)) (q * 10 + 9) _ (by simp; omega)
          have hbl7 : Below base w (((W6.setCell ⟨g, q * 10 + 7, none⟩ (.int .i64 line)).setCell ⟨g, q * 10 + 8, none⟩ (.int .i64 vk)).setCell ⟨g, q * 10 + 9, none⟩ (.int .i64 vn)) := (((hbl60.mono hbs).setCell (p := ⟨g, q * 10 + 7, none⟩) hgb _).setCell (p := ⟨g, q * 10 + 8, none⟩) hgb _).setCell (p := ⟨g, q * 10 + 9, none⟩) hgb _
          clear hB3 hc0 hcs hcn hq hmk hr4 hown hown4 ho ho4 hb5 hcell hgb2 V6 hown6 hown5 hbl6 hbl60 hbl5
          dsimp only
          go_wp2
          go_ret2
          exact ⟨hbl7, Or.inl ⟨_, _, hE.out, by simp, hon', by rw [List.length_set]; exact own7, rfl⟩⟩
        · have hE : Hid (eventR model.data.toList ops s line = ((answerR model.data.toList ms ops).1, none)) := by rw [hB3.out, hcs]; exact rfl
          generalize (answerR model.data.toList ms ops).1 = rr at *
          have hrr : (rr != 0) = true := by simpa using hc0
          clear hB3 hcs hc0 hq
          go_wp2
          go_ret2
          exact ⟨(hbl5.alloc hz5 _).mono hbs, Or.inr ⟨rr, hE.out, hrr, rfl⟩⟩
  · have hE : Hid (eventR model.data.toList ops s line = (2, none)) := by unfold eventR; rw [hp]; exact rfl
    clear hp
    go_wp2
    go_ret2
    exact ⟨hb1.mono hbs, Or.inr ⟨2, hE.out, rfl, rfl⟩⟩
end Go.Proofs.YtdfbhjgpkokebaaGreatDoor
/- The reference's Read, walked. -/
namespace Go.Proofs.YtdfbhjgpkokebaaGreatDoor
open Go.RowKit

/-- what the reference's Read answers -/
def RReadPost (model : List UInt8) (t : ByteArray) (w : World) (e : Ending) (w' : World) : Prop :=
  Below w.heap.size w w' ∧ ((modRun model modTab = false ∧ e = .returned (.tuple #[.slice none 0 0, .int .i64 0, .int .i64 0, .int .i64 1])) ∨
    (modRun model modTab = true ∧ ((∃ ops v, readRunR model (linesP (lets t)) 0 [] = .inl ops ∧ ops.length ≤ 129 ∧ w'.ownsRow w.heap.size 48 10 v ops.length (opsRow ops) ∧ e = .returned (.tuple #[v, .int .i64 0, .int .i64 0, .int .i64 0])) ∨
      (∃ l r, readRunR model (linesP (lets t)) 0 [] = .inr (l, r) ∧ e = .returned (.tuple #[.slice none 0 0, .int .i64 l, .int .i64 r, .int .i64 0])))))

/-- a row of strings that is read -/
theorem str_cells {w : World} {base : Nat} {v : Value} {l : List (List UInt8)} (h : w.ownsRow base 9 1 v l.length (strCells l)) :
    ∃ oa cap, v = .slice oa l.length cap ∧ (l ≠ [] → ∃ g, oa = some ⟨g, 0, none⟩ ∧ g < w.heap.size ∧ ∀ j x, l[j]? = some x → w.cell? ⟨g, j, none⟩ = some (.string ⟨x.toArray⟩)) := by
  rcases owns_shape h with ⟨rfl, h0⟩ | ⟨g, cap, rfl, _, _, hg⟩
  · exact ⟨none, 0, by rw [h0], fun hne => absurd (List.length_eq_zero_iff.1 h0) hne⟩
  · refine ⟨_, _, rfl, fun _ => ⟨g, rfl, hg, ?_⟩⟩
    intro j x hj
    have := h.cells (g := g) rfl j (.string ⟨x.toArray⟩) (by simp [strCells, hj])
    by_cases h0 : j = 0
    · subst h0; simpa [Addr.add] using this
    · simpa [Addr.add, h0] using this

set_option maxHeartbeats 4000000 in
set_option maxRecDepth 100000 in
theorem rread_any (t model : ByteArray) (w : World) (hm : Mods w) (hng : 10 ≤ w.heap.size) (ht : t.size ≤ 2000000) (hml : model.size ≤ 2000000) :
    Calls Tryz.prog 7 #[.string t, .string model] w fun e w' => RReadPost model.data.toList t w e w' := by
  go_enter Tryz.func7, Tryz.ntmps7
  go_wp2_with fail
  refine (rknown_any model _ hm hng).mono ?_
  rintro e w0 ⟨rfl, hw0⟩
  have hw0' := hw0.symm
  clear hw0
  subst hw0'
  rw [toList_data]
  cases hkn : modRun model.data.toList modTab with
  | false =>
    have HK : Hid (modRun model.data.toList modTab = false) := hkn
    clear hkn
    go_wp2
    exact bodyPost_ret (v := .tuple #[.slice none 0 0, .int .i64 0, .int .i64 0, .int .i64 1]) (by simp [results, Tryz.results7, go_sem]) rfl ⟨Below.refl _ _, Or.inl ⟨HK.out, rfl⟩⟩
  | true =>
    have HK : Hid (modRun model.data.toList modTab = true) := hkn
    clear hkn
    go_wp2_with fail
    refine (lines_any t _ ht).mono ?_
    rintro e w1 ⟨hb1, v1, hll, hlx, hown1, rfl⟩
    obtain ⟨oa, cap, rfl, hrow⟩ := str_cells hown1
    have hz1 := hb1.size
    clear hown1
    generalize hL : linesP (lets t) = L at *
    go_wp2
    go_loopw [9, 11] (fun v i wr => ∃ (k : Nat) (ops : List OpV), i = .int .i64 (k : Int) ∧ k ≤ L.length ∧ k ≤ 128 ∧ ops.length ≤ k ∧ (∀ p ∈ ops, p.name.length ≤ 8000000) ∧ readRunR model.data.toList (L.drop k) k ops = readRunR model.data.toList L 0 [] ∧ wr.ownsRow w1.heap.size 48 10 v ops.length (opsRow ops) ∧ Below w1.heap.size w1 wr) (fun _ i _ => L.length - (intOf i).toNat)
    case atStart => exact ⟨0, [], rfl, by omega, by omega, by simp, by simp, rfl, World.ownsRow_nil _ _ _ _, Below.refl _ _⟩
    case round =>
      obtain ⟨k, ops, rfl, hkl, hk8, hok, hon, HR, hown, hbl⟩ := hrel
      have hR : Hid (readRunR model.data.toList (L.drop k) k ops = readRunR model.data.toList L 0 []) := HR
      clear HR
      have hzz := hbl.size
      by_cases hin : k < L.length
      · have hin' : (k : Int) < (L.length : Int) := by omega
        obtain ⟨g, rfl, hg, hc⟩ := hrow (by intro h; rw [h] at hin; simp at hin)
        have hck := (hbl.cell (p := ⟨g, k, none⟩) hg).trans (hc k _ (List.getElem?_eq_getElem hin))
        have hxl := hlx _ (List.getElem_mem hin)
        have hD : Hid (L.drop k = L[k] :: L.drop (k + 1)) := List.drop_eq_getElem_cons hin
        generalize L[k] = x at *
        have hk0 : (0 : Int) ≤ (k : Int) + 1 := by omega
        have hwrap : IntKind.i64.wrap ((k : Int) + 1) = (k : Int) + 1 := wrap_small (by omega) (by omega)
        by_cases h128 : k = 128
        · have hE : Hid (readRunR model.data.toList L 0 [] = .inr ((k : Int) + 1, 1)) := by
            rw [← hR.out, hD.out, readRunR, if_pos (by omega)]; exact rfl
          obtain ⟨va, vc, rfl⟩ := slice_form hown
          have h129 : (128 : Int) < (k : Int) + 1 := by omega
          clear hR hD h128
          go_wp2_with fail
          refine (event_many model ⟨x.toArray⟩ ((k : Int) + 1) h129 va ops.length vc _).mono ?_
          rintro e w2 ⟨hw2, rfl⟩
          have hw2' := hw2.symm
          clear hw2
          subst hw2'
          go_wp2
          exact bodyPost_ret (v := .tuple #[.slice none 0 0, .int .i64 ((k : Int) + 1), .int .i64 1, .int .i64 0]) (by simp [results, Tryz.results7, go_sem]) rfl ⟨hb1.trans (hbl.mono hz1), Or.inr ⟨HK.out, Or.inr ⟨_, _, by rw [hL]; exact hE.out, rfl⟩⟩⟩
        · have hS : Hid (readRunR model.data.toList L 0 [] = (match eventR model.data.toList ops ⟨x.toArray⟩ ((k : Int) + 1) with
            | (e, none) => .inr ((k : Int) + 1, e)
            | (_, some ops') => readRunR model.data.toList (L.drop (k + 1)) (k + 1) ops')) := by
            rw [← hR.out, hD.out, readRunR, if_neg (by omega)]; exact rfl
          clear hR hD
          go_wp2_with fail
          refine (event_r model ⟨x.toArray⟩ ((k : Int) + 1) w1.heap.size _ ops wr hown hbl.size (by omega) (by omega) (by show x.toArray.size ≤ _; simp; omega) hml hon).mono ?_
          rintro e w2 ⟨hb2, ⟨ops', v', hev, hol', hon', hown', rfl⟩ | ⟨r, hev, hr0, rfl⟩⟩
          · have hX : Hid (readRunR model.data.toList (L.drop (k + 1)) (k + 1) ops' = readRunR model.data.toList L 0 []) := by rw [hS.out, hev]; exact rfl
            clear hS hev hown hon
            go_wp2
            go_roundw
            case rel => exact ⟨k + 1, ops', by go_num, by omega, by omega, by omega, hon', hX.out, hown', hbl.trans hb2⟩
            case measure => simp [intOf]; omega
          · have hX : Hid (readRunR model.data.toList L 0 [] = .inr ((k : Int) + 1, r)) := by rw [hS.out, hev]; exact rfl
            clear hS hev hown hon
            go_wp2
            exact bodyPost_ret (v := .tuple #[.slice none 0 0, .int .i64 ((k : Int) + 1), .int .i64 r, .int .i64 0]) (by simp [results, Tryz.results7, go_sem]) rfl ⟨hb1.trans ((hbl.trans hb2).mono hz1), Or.inr ⟨HK.out, Or.inr ⟨_, _, by rw [hL]; exact hX.out, rfl⟩⟩⟩
      · have hin' : ¬ (k : Int) < (L.length : Int) := by omega
        have hX : Hid (readRunR model.data.toList L 0 [] = .inl ops) := by rw [← hR.out, List.drop_eq_nil_of_le (by omega), readRunR]; exact rfl
        clear hR
        go_wp2
        refine bodyPost_ret (v := .tuple #[_, .int .i64 0, .int .i64 0, .int .i64 0]) (by simp [results, Tryz.results7, go_sem]; rfl) rfl ⟨hb1.trans (hbl.mono hz1), Or.inr ⟨HK.out, Or.inl ⟨ops, _, by rw [hL]; exact hX.out, by omega, ⟨hown.1, ?_⟩, rfl⟩⟩⟩
        rcases hown.2 with h | ⟨g, cap, cur, h1, hbg, r⟩
        · exact .inl h
        · exact .inr ⟨g, cap, cur, h1, by omega, r⟩
end Go.Proofs.YtdfbhjgpkokebaaGreatDoor
