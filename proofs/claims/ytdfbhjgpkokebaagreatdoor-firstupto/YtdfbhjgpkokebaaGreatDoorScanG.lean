/- The scanner's members, walked. -/
import Derived.Test.YtdfbhjgpkokebaaGreatDoorScanF
namespace Go.Proofs.YtdfbhjgpkokebaaGreatDoor
open Go.RowKit

abbrev Mem := List UInt8 × Int × Int × List UInt8
def memberP (l : List Nat) : Option (Mem × List Nat) :=
  match textP l with
  | none => none
  | some (name, r1) => if (peekOf (skipB r1) == 58) then (match valueP (skipB (skipB r1).tail) with
      | none => none
      | some (v, r4) => some ((name, v), skipB r4)) else none

def aggM (m : Mem) : Value := .agg #[.string ⟨m.1.toArray⟩, .int .i64 m.2.1, .int .i64 m.2.2.1, .string ⟨m.2.2.2.toArray⟩]
def MemberPost (b rb cap k : Nat) (rs : List Nat) (w : World) (e : Ending) (w' : World) : Prop :=
  ∃ k', Scan w' b rb cap rs k' ∧ Kept [b] w w' ∧ ((∃ v, memberP (rs.drop k) = some (v, rs.drop k') ∧ e = .returned (.tuple #[aggM v, .bool true])) ∨
    (memberP (rs.drop k) = none ∧ ∃ v, e = .returned (.tuple #[aggM v, .bool false])))

theorem fin4 {w w2 : World} {b rb cap k2 r : Nat} {rs : List Nat} (hs0 : b < w.heap.size) (hr0 : rb < w.heap.size) (hr : w.heap.size ≤ r) (g1 : Scan w2 b rb cap rs k2) (k0 : Kept [b] w w2) (x y z u : Value) :
    Scan ((((w2.setCell ⟨r, 0, none⟩ x).setCell ⟨r, 1, none⟩ y).setCell ⟨r, 2, none⟩ z).setCell ⟨r, 3, none⟩ u) b rb cap rs k2 ∧ Kept [b] w ((((w2.setCell ⟨r, 0, none⟩ x).setCell ⟨r, 1, none⟩ y).setCell ⟨r, 2, none⟩ z).setCell ⟨r, 3, none⟩ u) := by
  have h1 : b ≠ r := by omega
  have h2 : rb ≠ r := by omega
  exact ⟨(((g1.setR (p := ⟨r, 0, none⟩) h1 h2 x).setR (p := ⟨r, 1, none⟩) h1 h2 y).setR (p := ⟨r, 2, none⟩) h1 h2 z).setR (p := ⟨r, 3, none⟩) h1 h2 u, (((k0.setCell (p := ⟨r, 0, none⟩) (Or.inr hr) x).setCell (p := ⟨r, 1, none⟩) (Or.inr hr) y).setCell (p := ⟨r, 2, none⟩) (Or.inr hr) z).setCell (p := ⟨r, 3, none⟩) (Or.inr hr) u⟩

/-- the result's block, as it was laid -/
def rblk (w : World) (r : Nat) : Prop := w.heap[r]? = some (.cells #[.string ⟨#[]⟩, .int .i64 0, .int .i64 0, .string ⟨#[]⟩] 133 (0, 0))
theorem rblk.c {w : World} {r : Nat} (h : rblk w r) : w.cell? ⟨r, 0, none⟩ = some (.string ⟨#[]⟩) ∧ w.cell? ⟨r, 1, none⟩ = some (.int .i64 0) ∧ w.cell? ⟨r, 2, none⟩ = some (.int .i64 0) ∧ w.cell? ⟨r, 3, none⟩ = some (.string ⟨#[]⟩) :=
  ⟨by rw [cell_of_blk h]; rfl, by rw [cell_of_blk h]; rfl, by rw [cell_of_blk h]; rfl, by rw [cell_of_blk h]; rfl⟩
theorem rblk.f {w : World} {r : Nat} (h : rblk w r) : w.frozen? ⟨r, 0, none⟩ = false ∧ w.frozen? ⟨r, 1, none⟩ = false ∧ w.frozen? ⟨r, 2, none⟩ = false ∧ w.frozen? ⟨r, 3, none⟩ = false :=
  ⟨frozen_of_blk h _, frozen_of_blk h _, frozen_of_blk h _, frozen_of_blk h _⟩
theorem rblk.kept {w w' : World} {r : Nat} {S : List Nat} (h : rblk w r) (k : Kept S w w') (hr : r ∉ S) : rblk w' r := (k.block r (lt_of_blk h) hr).trans h
theorem rblk.new (w : World) : rblk (w.alloc (.cells #[.string ⟨#[]⟩, .int .i64 0, .int .i64 0, .string ⟨#[]⟩] 133)) w.heap.size := by
  show (w.heap.push _)[w.heap.size]? = _
  simp
theorem rblk.alloc {w : World} {r : Nat} (h : rblk w r) (o : Obj) : rblk (w.alloc o) r := (Below.heap_alloc _ _ _ (lt_of_blk h)).trans h

set_option maxHeartbeats 2000000 in
theorem member_any (b rb cap k : Nat) (rs : List Nat) (w : World) (hs : Scan w b rb cap rs k) (he : Errs w) (hb : 10 ≤ b) :
    Calls Tryz.prog 77 #[.pointer (some ⟨b, 0, none⟩)] w fun e w' => MemberPost b rb cap k rs w e w' := by
  have hbw := hs.bLt
  have hrw := hs.rbLt
  have heW := he.lt
  go_enter Tryz.func77, Tryz.ntmps77
  go_wp2_with fail
  refine (text_any b rb cap k rs _ (hs.alloc _)).mono ?_
  rintro e w1 ⟨k1, g1, g2, ⟨nm, hn, hl, rfl⟩ | ⟨hn, rfl⟩⟩
  all_goals
    have q1 : Kept [b] w w1 := ((Kept.refl _ _).alloc _).trans g2
    have r1 : rblk w1 w.heap.size := (rblk.new w).kept g2 (by simp; omega)
    clear g2
  · have HN : Hid (textP (rs.drop k) = some (nm, rs.drop k1)) := hn
    clear hn
    go_wp2_with fail
    refine (skipBlanks_any b rb cap k1 rs _ g1).mono ?_
    rintro e w2 ⟨rfl, k2, hk2, hk12, g3, g4⟩
    have q2 := q1.trans g4
    have r2 := r1.kept g4 (by simp; omega)
    have H2 : Hid (rs.drop k2 = skipB (rs.drop k1)) := hk2
    clear hk2 hk12 g4 g1 q1 r1
    by_cases hc : peekOf (rs.drop k2) = 58
    · have H2p : Hid (rs.drop (k2 + 1) = (skipB (rs.drop k1)).tail) := by rw [← H2.out, tail_drop]; exact rfl
      have HC : Hid ((peekOf (skipB (rs.drop k1)) == 58) = true) := by rw [← H2.out, hc]; exact rfl
      go_wp2_with fail
      refine (take_yes b rb cap k2 rs 58 _ g3 hc (by omega)).mono ?_
      rintro e w3 ⟨rfl, g5, g6⟩
      have q3 := q2.trans g6
      have r3 := r2.kept g6 (by simp; omega)
      clear hc H2 g3 g6 q2 r2
      go_wp2_with fail
      refine (skipBlanks_any b rb cap (k2 + 1) rs _ g5).mono ?_
      rintro e w4 ⟨rfl, k4, hk4, _, g7, g8⟩
      have q4 := q3.trans g8
      have r4 := r3.kept g8 (by simp; omega)
      have H4 : Hid (rs.drop k4 = skipB (skipB (rs.drop k1)).tail) := by rw [hk4, H2p.out]; exact rfl
      have e4 : Errs w4 := he.kept q4 (by simpa using hb)
      clear hk4 H2p g5 g8 q3 r3
      go_wp2_with fail
      refine (value_any b rb cap k4 rs _ g7 e4 hb).mono ?_
      rintro e w5 ⟨k5, g9, g10, ⟨v, hv, rfl⟩ | ⟨hv, v, rfl⟩⟩
      all_goals
        have q5 := q4.trans g10
        have r5 := r4.kept g10 (by simp; omega)
        clear g10 q4 r4 g7 e4
        obtain ⟨va, vb, vc⟩ := v
        unfold aggV
      · have H5 : Hid (valueP (skipB (skipB (rs.drop k1)).tail) = some ((va, vb, vc), rs.drop k5)) := by rw [← H4.out, hv]; exact rfl
        clear hv H4
        have hz5 := q5.size
        go_wp2_with fail
        refine (skipBlanks_any b rb cap k5 rs _ (g9.alloc _)).mono ?_
        rintro e w6 ⟨rfl, k6, hk6, _, g11, g12⟩
        have q6 : Kept [b] w w6 := (q5.alloc _).trans g12
        have r6 : rblk w6 w.heap.size := (r5.alloc _).kept g12 (by simp; omega)
        have n6 := new_blk g12 (by have := g9.bLt; simp; omega)
        have d0 := cell_of_blk n6 0
        have d1 := cell_of_blk n6 1
        have d2 := cell_of_blk n6 2
        have HX : Hid (memberP (rs.drop k) = some ((nm, va, vb, vc), rs.drop k6)) := by
          unfold memberP; rw [HN.out]; simp only [HC.out, H5.out, hk6]; exact rfl
        clear H5 HC HN hk6 n6 g12
        obtain ⟨c0, c1, c2, c3⟩ := r6.c
        obtain ⟨f0, f1, f2, f3⟩ := r6.f
        simp at d0 d1 d2
        have hne : w5.heap.size ≠ w.heap.size := by have := lt_of_blk r5; omega
        clear r6 r5
        go_wp2
        obtain ⟨s1, s2⟩ := fin4 hbw hrw (Nat.le_refl _) g11 q6 (.string ⟨nm.toArray⟩) (.int .i64 va) (.int .i64 vb) (.string ⟨vc.toArray⟩)
        exact bodyPost_ret (v := .tuple #[aggM (nm, va, vb, vc), .bool true]) (by simp [results, Tryz.results77, go_sem, c0, c1, c2, c3, aggM]) rfl ⟨k6, s1, s2, Or.inl ⟨_, HX.out, rfl⟩⟩
      · have HX : Hid (memberP (rs.drop k) = none) := by
          unfold memberP; rw [HN.out]; simp only [HC.out, ← H4.out, hv]; exact rfl
        clear hv H4 HC HN
        obtain ⟨c0, c1, c2, c3⟩ := r5.c
        obtain ⟨f0, f1, f2, f3⟩ := r5.f
        have hne := lt_of_blk r5
        clear r5
        go_wp2
        obtain ⟨s1, s2⟩ := fin4 hbw hrw (Nat.le_refl _) g9 q5 (.string ⟨#[]⟩) (.int .i64 0) (.int .i64 0) (.string ⟨#[]⟩)
        exact bodyPost_ret (v := .tuple #[aggM ([], 0, 0, []), .bool false]) (by simp [results, Tryz.results77, go_sem, c0, c1, c2, c3, hne, aggM]) rfl ⟨k5, s1.alloc _, s2.alloc _, Or.inr ⟨HX.out, _, rfl⟩⟩
    · have HC : Hid ((peekOf (skipB (rs.drop k1)) == 58) = false) := by rw [← H2.out]; simp [hc, Hid]
      have HX : Hid (memberP (rs.drop k) = none) := by
        unfold memberP; rw [HN.out]; simp only [HC.out]; exact rfl
      go_wp2_with fail
      refine (take_no b rb cap k2 rs 58 _ g3 hc).mono ?_
      rintro e w3 ⟨rfl, n3, rfl⟩
      clear hc HC H2 HN
      obtain ⟨c0, c1, c2, c3⟩ := r2.c
      obtain ⟨f0, f1, f2, f3⟩ := r2.f
      go_wp2
      obtain ⟨s1, s2⟩ := fin4 hbw hrw (Nat.le_refl _) (g3.drewN n3) (q2.drewN n3) (.string ⟨#[]⟩) (.int .i64 0) (.int .i64 0) (.string ⟨#[]⟩)
      exact bodyPost_ret (v := .tuple #[aggM ([], 0, 0, []), .bool false]) (by simp [results, Tryz.results77, go_sem, c0, c1, c2, c3, aggM]) rfl ⟨k2, s1, s2, Or.inr ⟨HX.out, _, rfl⟩⟩
  · have HX : Hid (memberP (rs.drop k) = none) := by
      unfold memberP; rw [hn]; exact rfl
    clear hn
    obtain ⟨c0, c1, c2, c3⟩ := r1.c
    obtain ⟨f0, f1, f2, f3⟩ := r1.f
    go_wp2
    obtain ⟨s1, s2⟩ := fin4 hbw hrw (Nat.le_refl _) g1 q1 (.string ⟨#[]⟩) (.int .i64 0) (.int .i64 0) (.string ⟨#[]⟩)
    exact bodyPost_ret (v := .tuple #[aggM ([], 0, 0, []), .bool false]) (by simp [results, Tryz.results77, go_sem, c0, c1, c2, c3, aggM]) rfl ⟨k1, s1, s2, Or.inr ⟨HX.out, _, rfl⟩⟩
end Go.Proofs.YtdfbhjgpkokebaaGreatDoor
