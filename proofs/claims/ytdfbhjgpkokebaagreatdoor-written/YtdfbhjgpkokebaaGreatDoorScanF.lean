/- The scanner's values and members, walked. -/
import Derived.Test.YtdfbhjgpkokebaaGreatDoorScanE
namespace Go.Proofs.YtdfbhjgpkokebaaGreatDoor
open Go.RowKit

set_option maxHeartbeats 400000 in
theorem plain_any (kd n : Int) (w : World) :
    Calls Tryz.prog 92 #[.int .i64 kd, .int .i64 n] w fun e w' => e = .returned (.agg #[.int .i64 kd, .int .i64 n, .string ⟨#[]⟩]) ∧ Below w.heap.size w w' := by
  go_enter Tryz.func92, Tryz.ntmps92
  go_wp2
  exact bodyPost_ret (v := .agg #[.int .i64 kd, .int .i64 n, .string ⟨#[]⟩]) (by simp [results, Tryz.results92, go_sem]) rfl ⟨rfl, (Below.refl _ _).alloc (Nat.le_refl _) _⟩

def wTrue : List Nat := [116, 114, 117, 101]
def wFalse : List Nat := [102, 97, 108, 115, 101]
def wNull : List Nat := [110, 117, 108, 108]
/-- a value: its kind, its number, its text; what is left -/
def valueP (l : List Nat) : Option ((Int × Int × List UInt8) × List Nat) :=
  if (peekOf l == 34) then (match textP l with | some (t, r) => some ((3, 0, t), r) | none => none)
  else if (peekOf l == 116) then (if eats wTrue l then some ((2, 1, []), l.drop 4) else none)
  else if (peekOf l == 102) then (if eats wFalse l then some ((2, 0, []), l.drop 5) else none)
  else if (peekOf l == 110) then (if eats wNull l then some ((0, 0, []), l.drop 4) else none)
  else (match intP l with | some (n, r) => some ((1, n, []), r) | none => none)

def aggV (v : Int × Int × List UInt8) : Value := .agg #[.int .i64 v.1, .int .i64 v.2.1, .string ⟨v.2.2.toArray⟩]

/-- what 'value' answers -/
def ValuePost (b rb cap k : Nat) (rs : List Nat) (w : World) (e : Ending) (w' : World) : Prop :=
  ∃ k', Scan w' b rb cap rs k' ∧ Kept [b] w w' ∧ ((∃ v, valueP (rs.drop k) = some (v, rs.drop k') ∧ e = .returned (.tuple #[aggV v, .bool true])) ∨
    (valueP (rs.drop k) = none ∧ ∃ v, e = .returned (.tuple #[aggV v, .bool false])))

theorem new_blk {w w' : World} {o : Obj} {S : List Nat} (k : Kept S (w.alloc o) w') (hS : w.heap.size ∉ S) : w'.heap[w.heap.size]? = some o := by
  rw [k.block w.heap.size (by simp) hS]
  show (w.heap.push o)[w.heap.size]? = _
  simp

theorem Scan.setR {w b rb cap rs k} (h : Scan w b rb cap rs k) {p : Addr} (h1 : b ≠ p.block) (h2 : rb ≠ p.block) (v : Value) : Scan (w.setCell p v) b rb cap rs k :=
  ⟨by rw [blk_setCell_ne h1]; exact h.blk, by rw [blk_setCell_ne h2]; exact h.row, h.ne, h.le, h.small, h.bd, h.room⟩

/-- the frame behind a call that stored three cells into its own result block -/
theorem fin3 {w w2 : World} {o : Obj} {b rb cap k2 r : Nat} {rs : List Nat} (hs0 : b < w.heap.size) (hr0 : rb < w.heap.size) (hr : r = w.heap.size) (g1 : Scan w2 b rb cap rs k2) (g3 : Kept [b] (w.alloc o) w2) (x y z : Value) :
    Scan (((w2.setCell ⟨r, 0, none⟩ x).setCell ⟨r, 1, none⟩ y).setCell ⟨r, 2, none⟩ z) b rb cap rs k2 ∧ Kept [b] w (((w2.setCell ⟨r, 0, none⟩ x).setCell ⟨r, 1, none⟩ y).setCell ⟨r, 2, none⟩ z) := by
  subst hr
  have h1 : b ≠ w.heap.size := by omega
  have h2 : rb ≠ w.heap.size := by omega
  have k0 : Kept [b] w w2 := ((Kept.refl _ w).alloc o).trans g3
  exact ⟨((g1.setR (p := ⟨w.heap.size, 0, none⟩) h1 h2 x).setR (p := ⟨w.heap.size, 1, none⟩) h1 h2 y).setR (p := ⟨w.heap.size, 2, none⟩) h1 h2 z, ((k0.setCell (p := ⟨w.heap.size, 0, none⟩) (Or.inr (Nat.le_refl _)) x).setCell (p := ⟨w.heap.size, 1, none⟩) (Or.inr (Nat.le_refl _)) y).setCell (p := ⟨w.heap.size, 2, none⟩) (Or.inr (Nat.le_refl _)) z⟩

set_option maxHeartbeats 1000000 in
theorem value_text (b rb cap k : Nat) (rs : List Nat) (w : World) (hs : Scan w b rb cap rs k) (hp : peekOf (rs.drop k) = 34) :
    Calls Tryz.prog 85 #[.pointer (some ⟨b, 0, none⟩)] w fun e w' => ValuePost b rb cap k rs w e w' := by
  have HV : Hid (valueP (rs.drop k) = (match textP (rs.drop k) with | some (t, r) => some ((3, 0, t), r) | none => none)) := by
    unfold valueP; rw [hp]; exact rfl
  have hbw := hs.bLt
  have hrw := hs.rbLt
  have HP : Hid (peekOf (rs.drop k) = 34) := hp
  clear hp
  go_enter Tryz.func85, Tryz.ntmps85
  go_wp2_with fail
  refine (peek_any b rb cap k rs _ (hs.alloc _)).mono ?_
  rintro e w1 ⟨rfl, n, rfl⟩
  rw [HP.out]
  go_wp2_with fail
  refine (text_any b rb cap k rs _ ((hs.alloc _).drewN n)).mono ?_
  rintro e w2 ⟨k2, g1, g2, ⟨v, hv, hl, rfl⟩ | ⟨hv, rfl⟩⟩
  all_goals
    have g3 : Kept [b] (w.alloc (.cells #[.int .i64 0, .int .i64 0, .string ⟨#[]⟩] 131)) w2 := ((Kept.refl _ _).drewN n).trans g2
    have hblk := new_blk g3 (by simp; omega)
    have c0 := cell_of_blk hblk 0
    have c1 := cell_of_blk hblk 1
    have c2 := cell_of_blk hblk 2
    have f0 := frozen_of_blk hblk 0
    have f1 := frozen_of_blk hblk 1
    have f2 := frozen_of_blk hblk 2
    simp at c0 c1 c2
    clear hblk
  · have HX : Hid (valueP (rs.drop k) = some ((3, 0, v), rs.drop k2)) := by rw [HV.out, hv]; exact rfl
    clear hv HV
    go_wp2
    obtain ⟨s1, s2⟩ := fin3 hbw hrw rfl g1 g3 (.int .i64 3) (.int .i64 0) (.string ⟨v.toArray⟩)
    exact bodyPost_ret (v := .tuple #[aggV (3, 0, v), .bool true]) (by simp [results, Tryz.results85, go_sem, c0, c1, c2, aggV]) rfl ⟨k2, s1, s2, Or.inl ⟨_, HX.out, rfl⟩⟩
  · have HX : Hid (valueP (rs.drop k) = none) := by rw [HV.out, hv]; exact rfl
    clear hv HV
    go_wp2
    obtain ⟨s1, s2⟩ := fin3 hbw hrw rfl g1 g3 (.int .i64 3) (.int .i64 0) (.string ⟨#[]⟩)
    exact bodyPost_ret (v := .tuple #[aggV (3, 0, []), .bool false]) (by simp [results, Tryz.results85, go_sem, c0, c1, c2, aggV]) rfl ⟨k2, s1, s2, Or.inr ⟨HX.out, _, rfl⟩⟩

theorem lets_true : lets ⟨#[116, 114, 117, 101]⟩ = wTrue := by decide
theorem ascii_true : ∀ i (h : i < (⟨#[116, 114, 117, 101]⟩ : ByteArray).size), ((⟨#[116, 114, 117, 101]⟩ : ByteArray)[i]'h).toNat < 128 := by decide
set_option maxHeartbeats 1000000 in
theorem value_true (b rb cap k : Nat) (rs : List Nat) (w : World) (hs : Scan w b rb cap rs k) (hp : peekOf (rs.drop k) = 116) :
    Calls Tryz.prog 85 #[.pointer (some ⟨b, 0, none⟩)] w fun e w' => ValuePost b rb cap k rs w e w' := by
  have HV : Hid (valueP (rs.drop k) = (if eats wTrue (rs.drop k) then some ((2, 1, []), (rs.drop k).drop 4) else none)) := by
    unfold valueP; rw [hp]; exact rfl
  have hbw := hs.bLt
  have hrw := hs.rbLt
  have HP : Hid (peekOf (rs.drop k) = 116) := hp
  clear hp
  go_enter Tryz.func85, Tryz.ntmps85
  go_wp2_with fail
  refine (peek_any b rb cap k rs _ (hs.alloc _)).mono ?_
  rintro e w1 ⟨rfl, n, rfl⟩
  rw [HP.out]
  go_wp2_with fail
  refine (plain_any 2 1 _).mono ?_
  rintro e w2 ⟨rfl, hb2⟩
  have q2 : Kept [b] (w.alloc (.cells #[.int .i64 0, .int .i64 0, .string ⟨#[]⟩] 131)) w2 := ((Kept.refl _ _).drewN n).step hb2 (by simp)
  have s2 : Scan w2 b rb cap rs k := (((hs.alloc _).drewN n)).below hb2 (by simp; omega) (by simp; omega)
  clear hb2
  go_wp2_with fail
  refine (takeWord_any b rb cap k rs ⟨#[116, 114, 117, 101]⟩ _ s2 ascii_true (by decide)).mono ?_
  rintro e w3 ⟨k3, rfl, g1, g2, hk3⟩
  rw [lets_true] at *
  have g3 := q2.trans g2
  have hblk := new_blk g3 (by simp; omega)
  have c0 := cell_of_blk hblk 0
  have c1 := cell_of_blk hblk 1
  have c2 := cell_of_blk hblk 2
  have f0 := frozen_of_blk hblk 0
  have f1 := frozen_of_blk hblk 1
  have f2 := frozen_of_blk hblk 2
  simp at c0 c1 c2
  clear hblk
  cases hE : eats wTrue (rs.drop k) with
  | true =>
    have hkk : k3 = k + 4 := hk3 hE
    have HX : Hid (valueP (rs.drop k) = some ((2, 1, []), rs.drop k3)) := by
      rw [HV.out, if_pos hE, List.drop_drop, hkk]; exact rfl
    clear hE HV hk3 hkk
    go_wp2
    obtain ⟨s1, s2⟩ := fin3 hbw hrw rfl g1 g3 (.int .i64 2) (.int .i64 1) (.string ⟨#[]⟩)
    exact bodyPost_ret (v := .tuple #[aggV (2, 1, []), .bool true]) (by simp [results, Tryz.results85, go_sem, c0, c1, c2, aggV]) rfl ⟨k3, s1, s2, Or.inl ⟨_, HX.out, rfl⟩⟩
  | false =>
    have HX : Hid (valueP (rs.drop k) = none) := by rw [HV.out, if_neg (by simp [hE])]; exact rfl
    clear hE HV hk3
    go_wp2
    obtain ⟨s1, s2⟩ := fin3 hbw hrw rfl g1 g3 (.int .i64 2) (.int .i64 1) (.string ⟨#[]⟩)
    exact bodyPost_ret (v := .tuple #[aggV (2, 1, []), .bool false]) (by simp [results, Tryz.results85, go_sem, c0, c1, c2, aggV]) rfl ⟨k3, s1, s2, Or.inr ⟨HX.out, _, rfl⟩⟩

theorem lets_false : lets ⟨#[102, 97, 108, 115, 101]⟩ = wFalse := by decide
theorem ascii_false : ∀ i (h : i < (⟨#[102, 97, 108, 115, 101]⟩ : ByteArray).size), ((⟨#[102, 97, 108, 115, 101]⟩ : ByteArray)[i]'h).toNat < 128 := by decide
set_option maxHeartbeats 1000000 in
theorem value_false (b rb cap k : Nat) (rs : List Nat) (w : World) (hs : Scan w b rb cap rs k) (hp : peekOf (rs.drop k) = 102) :
    Calls Tryz.prog 85 #[.pointer (some ⟨b, 0, none⟩)] w fun e w' => ValuePost b rb cap k rs w e w' := by
  have HV : Hid (valueP (rs.drop k) = (if eats wFalse (rs.drop k) then some ((2, 0, []), (rs.drop k).drop 5) else none)) := by
    unfold valueP; rw [hp]; exact rfl
  have hbw := hs.bLt
  have hrw := hs.rbLt
  have HP : Hid (peekOf (rs.drop k) = 102) := hp
  clear hp
  go_enter Tryz.func85, Tryz.ntmps85
  go_wp2_with fail
  refine (peek_any b rb cap k rs _ (hs.alloc _)).mono ?_
  rintro e w1 ⟨rfl, n, rfl⟩
  rw [HP.out]
  go_wp2_with fail
  refine (plain_any 2 0 _).mono ?_
  rintro e w2 ⟨rfl, hb2⟩
  have q2 : Kept [b] (w.alloc (.cells #[.int .i64 0, .int .i64 0, .string ⟨#[]⟩] 131)) w2 := ((Kept.refl _ _).drewN n).step hb2 (by simp)
  have s2 : Scan w2 b rb cap rs k := (((hs.alloc _).drewN n)).below hb2 (by simp; omega) (by simp; omega)
  clear hb2
  go_wp2_with fail
  refine (takeWord_any b rb cap k rs ⟨#[102, 97, 108, 115, 101]⟩ _ s2 ascii_false (by decide)).mono ?_
  rintro e w3 ⟨k3, rfl, g1, g2, hk3⟩
  rw [lets_false] at *
  have g3 := q2.trans g2
  have hblk := new_blk g3 (by simp; omega)
  have c0 := cell_of_blk hblk 0
  have c1 := cell_of_blk hblk 1
  have c2 := cell_of_blk hblk 2
  have f0 := frozen_of_blk hblk 0
  have f1 := frozen_of_blk hblk 1
  have f2 := frozen_of_blk hblk 2
  simp at c0 c1 c2
  clear hblk
  cases hE : eats wFalse (rs.drop k) with
  | true =>
    have hkk : k3 = k + 5 := hk3 hE
    have HX : Hid (valueP (rs.drop k) = some ((2, 0, []), rs.drop k3)) := by
      rw [HV.out, if_pos hE, List.drop_drop, hkk]; exact rfl
    clear hE HV hk3 hkk
    go_wp2
    obtain ⟨s1, s2⟩ := fin3 hbw hrw rfl g1 g3 (.int .i64 2) (.int .i64 0) (.string ⟨#[]⟩)
    exact bodyPost_ret (v := .tuple #[aggV (2, 0, []), .bool true]) (by simp [results, Tryz.results85, go_sem, c0, c1, c2, aggV]) rfl ⟨k3, s1, s2, Or.inl ⟨_, HX.out, rfl⟩⟩
  | false =>
    have HX : Hid (valueP (rs.drop k) = none) := by rw [HV.out, if_neg (by simp [hE])]; exact rfl
    clear hE HV hk3
    go_wp2
    obtain ⟨s1, s2⟩ := fin3 hbw hrw rfl g1 g3 (.int .i64 2) (.int .i64 0) (.string ⟨#[]⟩)
    exact bodyPost_ret (v := .tuple #[aggV (2, 0, []), .bool false]) (by simp [results, Tryz.results85, go_sem, c0, c1, c2, aggV]) rfl ⟨k3, s1, s2, Or.inr ⟨HX.out, _, rfl⟩⟩

theorem lets_null : lets ⟨#[110, 117, 108, 108]⟩ = wNull := by decide
theorem ascii_null : ∀ i (h : i < (⟨#[110, 117, 108, 108]⟩ : ByteArray).size), ((⟨#[110, 117, 108, 108]⟩ : ByteArray)[i]'h).toNat < 128 := by decide
set_option maxHeartbeats 1000000 in
theorem value_null (b rb cap k : Nat) (rs : List Nat) (w : World) (hs : Scan w b rb cap rs k) (hp : peekOf (rs.drop k) = 110) :
    Calls Tryz.prog 85 #[.pointer (some ⟨b, 0, none⟩)] w fun e w' => ValuePost b rb cap k rs w e w' := by
  have HV : Hid (valueP (rs.drop k) = (if eats wNull (rs.drop k) then some ((0, 0, []), (rs.drop k).drop 4) else none)) := by
    unfold valueP; rw [hp]; exact rfl
  have hbw := hs.bLt
  have hrw := hs.rbLt
  have HP : Hid (peekOf (rs.drop k) = 110) := hp
  clear hp
  go_enter Tryz.func85, Tryz.ntmps85
  go_wp2_with fail
  refine (peek_any b rb cap k rs _ (hs.alloc _)).mono ?_
  rintro e w1 ⟨rfl, n, rfl⟩
  rw [HP.out]
  go_wp2_with fail
  refine (plain_any 0 0 _).mono ?_
  rintro e w2 ⟨rfl, hb2⟩
  have q2 : Kept [b] (w.alloc (.cells #[.int .i64 0, .int .i64 0, .string ⟨#[]⟩] 131)) w2 := ((Kept.refl _ _).drewN n).step hb2 (by simp)
  have s2 : Scan w2 b rb cap rs k := (((hs.alloc _).drewN n)).below hb2 (by simp; omega) (by simp; omega)
  clear hb2
  go_wp2_with fail
  refine (takeWord_any b rb cap k rs ⟨#[110, 117, 108, 108]⟩ _ s2 ascii_null (by decide)).mono ?_
  rintro e w3 ⟨k3, rfl, g1, g2, hk3⟩
  rw [lets_null] at *
  have g3 := q2.trans g2
  have hblk := new_blk g3 (by simp; omega)
  have c0 := cell_of_blk hblk 0
  have c1 := cell_of_blk hblk 1
  have c2 := cell_of_blk hblk 2
  have f0 := frozen_of_blk hblk 0
  have f1 := frozen_of_blk hblk 1
  have f2 := frozen_of_blk hblk 2
  simp at c0 c1 c2
  clear hblk
  cases hE : eats wNull (rs.drop k) with
  | true =>
    have hkk : k3 = k + 4 := hk3 hE
    have HX : Hid (valueP (rs.drop k) = some ((0, 0, []), rs.drop k3)) := by
      rw [HV.out, if_pos hE, List.drop_drop, hkk]; exact rfl
    clear hE HV hk3 hkk
    go_wp2
    obtain ⟨s1, s2⟩ := fin3 hbw hrw rfl g1 g3 (.int .i64 0) (.int .i64 0) (.string ⟨#[]⟩)
    exact bodyPost_ret (v := .tuple #[aggV (0, 0, []), .bool true]) (by simp [results, Tryz.results85, go_sem, c0, c1, c2, aggV]) rfl ⟨k3, s1, s2, Or.inl ⟨_, HX.out, rfl⟩⟩
  | false =>
    have HX : Hid (valueP (rs.drop k) = none) := by rw [HV.out, if_neg (by simp [hE])]; exact rfl
    clear hE HV hk3
    go_wp2
    obtain ⟨s1, s2⟩ := fin3 hbw hrw rfl g1 g3 (.int .i64 0) (.int .i64 0) (.string ⟨#[]⟩)
    exact bodyPost_ret (v := .tuple #[aggV (0, 0, []), .bool false]) (by simp [results, Tryz.results85, go_sem, c0, c1, c2, aggV]) rfl ⟨k3, s1, s2, Or.inr ⟨HX.out, _, rfl⟩⟩

set_option maxHeartbeats 1000000 in
theorem value_int (b rb cap k : Nat) (rs : List Nat) (w : World) (hs : Scan w b rb cap rs k) (he : Errs w) (hb : 10 ≤ b) (h1 : (peekOf (rs.drop k) == 34) = false) (h2 : (peekOf (rs.drop k) == 116) = false)
    (h3 : (peekOf (rs.drop k) == 102) = false) (h4 : (peekOf (rs.drop k) == 110) = false) :
    Calls Tryz.prog 85 #[.pointer (some ⟨b, 0, none⟩)] w fun e w' => ValuePost b rb cap k rs w e w' := by
  have HV : Hid (valueP (rs.drop k) = (match intP (rs.drop k) with | some (n, r) => some ((1, n, []), r) | none => none)) := by
    unfold valueP; rw [h1, h2, h3, h4]; exact rfl
  have hbw := hs.bLt
  have hrw := hs.rbLt
  have heW := he.lt
  go_enter Tryz.func85, Tryz.ntmps85
  go_wp2_with fail
  refine (peek_any b rb cap k rs _ (hs.alloc _)).mono ?_
  rintro e w1 ⟨rfl, n, rfl⟩
  have he1 : Errs ((w.alloc (.cells #[.int .i64 0, .int .i64 0, .string ⟨#[]⟩] 131)).drewN n) := he.kept (S := []) (((Kept.refl _ _).alloc _).drewN n) (by simp)
  go_wp2_with fail
  refine (integer_any b rb cap k rs _ ((hs.alloc _).drewN n) he1 hb).mono ?_
  clear h1 h2 h3 h4
  rintro e w2 ⟨k2, g1, g2, ⟨v, hv, rfl⟩ | ⟨hv, rfl⟩⟩
  all_goals
    have g3 : Kept [b] (w.alloc (.cells #[.int .i64 0, .int .i64 0, .string ⟨#[]⟩] 131)) w2 := ((Kept.refl _ _).drewN n).trans g2
    have hsz := g3.size
    simp at hsz
    go_wp2_with fail
    refine (plain_any 1 _ _).mono ?_
    rintro e w3 ⟨rfl, hb3⟩
    have g4 : Kept [b] (w.alloc (.cells #[.int .i64 0, .int .i64 0, .string ⟨#[]⟩] 131)) w3 := g3.step hb3 (by simp; omega)
    have g5 : Scan w3 b rb cap rs k2 := g1.below hb3 (by omega) (by omega)
    clear hb3
    have hblk := new_blk g4 (by simp; omega)
    have c0 := cell_of_blk hblk 0
    have c1 := cell_of_blk hblk 1
    have c2 := cell_of_blk hblk 2
    have f0 := frozen_of_blk hblk 0
    have f1 := frozen_of_blk hblk 1
    have f2 := frozen_of_blk hblk 2
    simp at c0 c1 c2
    clear hblk
  · have HX : Hid (valueP (rs.drop k) = some ((1, v, []), rs.drop k2)) := by rw [HV.out, hv]; exact rfl
    clear hv HV
    go_wp2
    obtain ⟨s1, s2⟩ := fin3 hbw hrw rfl g5 g4 (.int .i64 1) (.int .i64 v) (.string ⟨#[]⟩)
    exact bodyPost_ret (v := .tuple #[aggV (1, v, []), .bool true]) (by simp [results, Tryz.results85, go_sem, c0, c1, c2, aggV]) rfl ⟨k2, s1, s2, Or.inl ⟨_, HX.out, rfl⟩⟩
  · have HX : Hid (valueP (rs.drop k) = none) := by rw [HV.out, hv]; exact rfl
    clear hv HV
    go_wp2
    obtain ⟨s1, s2⟩ := fin3 hbw hrw rfl g5 g4 (.int .i64 1) (.int .i64 0) (.string ⟨#[]⟩)
    exact bodyPost_ret (v := .tuple #[aggV (1, 0, []), .bool false]) (by simp [results, Tryz.results85, go_sem, c0, c1, c2, aggV]) rfl ⟨k2, s1, s2, Or.inr ⟨HX.out, _, rfl⟩⟩

theorem value_any (b rb cap k : Nat) (rs : List Nat) (w : World) (hs : Scan w b rb cap rs k) (he : Errs w) (hb : 10 ≤ b) :
    Calls Tryz.prog 85 #[.pointer (some ⟨b, 0, none⟩)] w fun e w' => ValuePost b rb cap k rs w e w' := by
  by_cases h1 : peekOf (rs.drop k) = 34
  · exact value_text b rb cap k rs w hs h1
  by_cases h2 : peekOf (rs.drop k) = 116
  · exact value_true b rb cap k rs w hs h2
  by_cases h3 : peekOf (rs.drop k) = 102
  · exact value_false b rb cap k rs w hs h3
  by_cases h4 : peekOf (rs.drop k) = 110
  · exact value_null b rb cap k rs w hs h4
  exact value_int b rb cap k rs w hs he hb (by simpa using h1) (by simpa using h2) (by simpa using h3) (by simpa using h4)
end Go.Proofs.YtdfbhjgpkokebaaGreatDoor
