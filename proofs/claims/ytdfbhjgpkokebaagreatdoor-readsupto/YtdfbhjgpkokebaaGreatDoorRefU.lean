/- The reference's Read, walked. -/
import Derived.Test.YtdfbhjgpkokebaaGreatDoorRefT
namespace Go.Proofs.YtdfbhjgpkokebaaGreatDoor
open Go.RowKit

/-- what the reference's Read answers -/
def RReadPost (model : List UInt8) (t : ByteArray) (w : World) (e : Ending) (w' : World) : Prop :=
  Below w.heap.size w w' ∧ ((modRun model modTab = false ∧ e = .returned (.tuple #[.slice none 0 0, .int .i64 0, .int .i64 0, .int .i64 1])) ∨
    (modRun model modTab = true ∧ ((∃ ops v, readRunR model (linesP (lets t)) 0 [] = .inl ops ∧ ops.length ≤ 129 ∧ w'.ownsRow w.heap.size 48 10 v ops.length (opsRow ops) ∧ e = .returned (.tuple #[v, .int .i64 0, .int .i64 0, .int .i64 0])) ∨
      (∃ l r, readRunR model (linesP (lets t)) 0 [] = .inr (l, r) ∧ e = .returned (.tuple #[.slice none 0 0, .int .i64 l, .int .i64 r, .int .i64 0])))))

/-- a row of strings that is read -/
theorem str_cells {w : World} {base : Nat} {v : Value} {l : List (List UInt8)} (h : w.ownsRow base 9 1 v l.length (strCells l)) :
    ∃ oa cap, v = .slice oa l.length cap ∧ (l ≠ [] → ∃ g, oa = some ⟨g, 0, none⟩ ∧ g < w.heap.size ∧ ∀ j x, l[j]? = some x → w.cell? ⟨g, j, none⟩ = some (.string ⟨x.toArray⟩)) := by
  rcases owns_shape h with ⟨rfl, h0⟩ | ⟨g, cap, rfl, _, _, hg⟩
  · exact ⟨none, 0, by rw [h0], fun hne => absurd (List.length_eq_zero_iff.1 h0) hne⟩
  · refine ⟨_, _, rfl, fun _ => ⟨g, rfl, hg, ?_⟩⟩
    intro j x hj
    have := h.cells (g := g) rfl j (.string ⟨x.toArray⟩) (by simp [strCells, hj])
    by_cases h0 : j = 0
    · subst h0; simpa [Addr.add] using this
    · simpa [Addr.add, h0] using this

set_option maxHeartbeats 4000000 in
set_option maxRecDepth 100000 in
theorem rread_any (t model : ByteArray) (w : World) (hm : Mods w) (hng : 10 ≤ w.heap.size) (ht : t.size ≤ 2000000) (hml : model.size ≤ 2000000) :
    Calls Tryz.prog 7 #[.string t, .string model] w fun e w' => RReadPost model.data.toList t w e w' := by
  go_enter Tryz.func7, Tryz.ntmps7
  go_wp2_with fail
  refine (rknown_any model _ hm hng).mono ?_
  rintro e w0 ⟨rfl, hw0⟩
  have hw0' := hw0.symm
  clear hw0
  subst hw0'
  rw [toList_data]
  cases hkn : modRun model.data.toList modTab with
  | false =>
    have HK : Hid (modRun model.data.toList modTab = false) := hkn
    clear hkn
    go_wp2
    exact bodyPost_ret (v := .tuple #[.slice none 0 0, .int .i64 0, .int .i64 0, .int .i64 1]) (by simp [results, Tryz.results7, go_sem]) rfl ⟨Below.refl _ _, Or.inl ⟨HK.out, rfl⟩⟩
  | true =>
    have HK : Hid (modRun model.data.toList modTab = true) := hkn
    clear hkn
    go_wp2_with fail
    refine (lines_any t _ ht).mono ?_
    rintro e w1 ⟨hb1, v1, hll, hlx, hown1, rfl⟩
    obtain ⟨oa, cap, rfl, hrow⟩ := str_cells hown1
    have hz1 := hb1.size
    clear hown1
    generalize hL : linesP (lets t) = L at *
    go_wp2
    go_loopw [9, 11] (fun v i wr => ∃ (k : Nat) (ops : List OpV), i = .int .i64 (k : Int) ∧ k ≤ L.length ∧ k ≤ 128 ∧ ops.length ≤ k ∧ (∀ p ∈ ops, p.name.length ≤ 8000000) ∧ readRunR model.data.toList (L.drop k) k ops = readRunR model.data.toList L 0 [] ∧ wr.ownsRow w1.heap.size 48 10 v ops.length (opsRow ops) ∧ Below w1.heap.size w1 wr) (fun _ i _ => L.length - (intOf i).toNat)
    case atStart => exact ⟨0, [], rfl, by omega, by omega, by simp, by simp, rfl, World.ownsRow_nil _ _ _ _, Below.refl _ _⟩
    case round =>
      obtain ⟨k, ops, rfl, hkl, hk8, hok, hon, HR, hown, hbl⟩ := hrel
      have hR : Hid (readRunR model.data.toList (L.drop k) k ops = readRunR model.data.toList L 0 []) := HR
      clear HR
      have hzz := hbl.size
      by_cases hin : k < L.length
      · have hin' : (k : Int) < (L.length : Int) := by omega
        obtain ⟨g, rfl, hg, hc⟩ := hrow (by intro h; rw [h] at hin; simp at hin)
        have hck := (hbl.cell (p := ⟨g, k, none⟩) hg).trans (hc k _ (List.getElem?_eq_getElem hin))
        have hxl := hlx _ (List.getElem_mem hin)
        have hD : Hid (L.drop k = L[k] :: L.drop (k + 1)) := List.drop_eq_getElem_cons hin
        generalize L[k] = x at *
        have hk0 : (0 : Int) ≤ (k : Int) + 1 := by omega
        have hwrap : IntKind.i64.wrap ((k : Int) + 1) = (k : Int) + 1 := wrap_small (by omega) (by omega)
        by_cases h128 : k = 128
        · have hE : Hid (readRunR model.data.toList L 0 [] = .inr ((k : Int) + 1, 1)) := by
            rw [← hR.out, hD.out, readRunR, if_pos (by omega)]; exact rfl
          obtain ⟨va, vc, rfl⟩ := slice_form hown
          have h129 : (128 : Int) < (k : Int) + 1 := by omega
          clear hR hD h128
          go_wp2_with fail
          refine (event_many model ⟨x.toArray⟩ ((k : Int) + 1) h129 va ops.length vc _).mono ?_
          rintro e w2 ⟨hw2, rfl⟩
          have hw2' := hw2.symm
          clear hw2
          subst hw2'
          go_wp2
          exact bodyPost_ret (v := .tuple #[.slice none 0 0, .int .i64 ((k : Int) + 1), .int .i64 1, .int .i64 0]) (by simp [results, Tryz.results7, go_sem]) rfl ⟨hb1.trans (hbl.mono hz1), Or.inr ⟨HK.out, Or.inr ⟨_, _, by rw [hL]; exact hE.out, rfl⟩⟩⟩
        · have hS : Hid (readRunR model.data.toList L 0 [] = (match eventR model.data.toList ops ⟨x.toArray⟩ ((k : Int) + 1) with
            | (e, none) => .inr ((k : Int) + 1, e)
            | (_, some ops') => readRunR model.data.toList (L.drop (k + 1)) (k + 1) ops')) := by
            rw [← hR.out, hD.out, readRunR, if_neg (by omega)]; exact rfl
          clear hR hD
          go_wp2_with fail
          refine (event_r model ⟨x.toArray⟩ ((k : Int) + 1) w1.heap.size _ ops wr hown hbl.size (by omega) (by omega) (by show x.toArray.size ≤ _; simp; omega) hml hon).mono ?_
          rintro e w2 ⟨hb2, ⟨ops', v', hev, hol', hon', hown', rfl⟩ | ⟨r, hev, hr0, rfl⟩⟩
          · have hX : Hid (readRunR model.data.toList (L.drop (k + 1)) (k + 1) ops' = readRunR model.data.toList L 0 []) := by rw [hS.out, hev]; exact rfl
            clear hS hev hown hon
            go_wp2
            go_roundw
            case rel => exact ⟨k + 1, ops', by go_num, by omega, by omega, by omega, hon', hX.out, hown', hbl.trans hb2⟩
            case measure => simp [intOf]; omega
          · have hX : Hid (readRunR model.data.toList L 0 [] = .inr ((k : Int) + 1, r)) := by rw [hS.out, hev]; exact rfl
            clear hS hev hown hon
            go_wp2
            exact bodyPost_ret (v := .tuple #[.slice none 0 0, .int .i64 ((k : Int) + 1), .int .i64 r, .int .i64 0]) (by simp [results, Tryz.results7, go_sem]) rfl ⟨hb1.trans ((hbl.trans hb2).mono hz1), Or.inr ⟨HK.out, Or.inr ⟨_, _, by rw [hL]; exact hX.out, rfl⟩⟩⟩
      · have hin' : ¬ (k : Int) < (L.length : Int) := by omega
        have hX : Hid (readRunR model.data.toList L 0 [] = .inl ops) := by rw [← hR.out, List.drop_eq_nil_of_le (by omega), readRunR]; exact rfl
        clear hR
        go_wp2
        refine bodyPost_ret (v := .tuple #[_, .int .i64 0, .int .i64 0, .int .i64 0]) (by simp [results, Tryz.results7, go_sem]; rfl) rfl ⟨hb1.trans (hbl.mono hz1), Or.inr ⟨HK.out, Or.inl ⟨ops, _, by rw [hL]; exact hX.out, by omega, ⟨hown.1, ?_⟩, rfl⟩⟩⟩
        rcases hown.2 with h | ⟨g, cap, cur, h1, hbg, r⟩
        · exact .inl h
        · exact .inr ⟨g, cap, cur, h1, by omega, r⟩
end Go.Proofs.YtdfbhjgpkokebaaGreatDoor
