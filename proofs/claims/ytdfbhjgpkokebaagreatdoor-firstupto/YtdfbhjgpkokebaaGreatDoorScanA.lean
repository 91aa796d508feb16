/- The scanner's small methods, walked: what each answers and what becomes of the scanner's block. -/
import Derived.Test.YtdfbhjgpkokebaaGreatDoorProg
import Derived.Test.YtdfbhjgpkokebaaGreatDoorFrame
import Derived.WalkLawsBesides
import Derived.RegionTactic
import Derived.Deep.QuietTactic
import Derived.BigQuiet
namespace Go.Proofs.YtdfbhjgpkokebaaGreatDoor
open Go.RowKit

theorem ret2_int {k : IntKind} {a b : Int} {x y : Bool} (h : a = b) (h' : x = y) : Ending.returned (.tuple #[.int k a, .bool x]) = .returned (.tuple #[.int k b, .bool y]) := by rw [h, h']
theorem ret_int {k : IntKind} {a b : Int} (h : a = b) : Ending.returned (.int k a) = .returned (.int k b) := by rw [h]
theorem ret_bool {a b : Bool} (h : a = b) : Ending.returned (.bool a) = .returned (.bool b) := by rw [h]

def highB (r : Int) : Bool := decide (55296 ≤ r) && decide (r < 56320)
def lowB (r : Int) : Bool := decide (56320 ≤ r) && decide (r ≤ 57343)
def hexV (r : Int) : Int := if 48 ≤ r ∧ r ≤ 57 then r - 48 else if 97 ≤ r ∧ r ≤ 102 then r - 97 + 10 else if 65 ≤ r ∧ r ≤ 70 then r - 65 + 10 else 0
def hexB (r : Int) : Bool := decide ((48 ≤ r ∧ r ≤ 57) ∨ (97 ≤ r ∧ r ≤ 102) ∨ (65 ≤ r ∧ r ≤ 70))

set_option maxHeartbeats 400000 in
theorem isHigh_any (r : Int) (w : World) :
    Calls Tryz.prog 102 #[.int .i32 r] w fun e w' => e = .returned (.bool (highB r)) ∧ w' = w := by
  go_enter Tryz.func102, Tryz.ntmps102
  go_wp2
  all_goals go_ret
  all_goals exact ⟨ret_bool (by simp [highB]; try omega), rfl⟩

set_option maxHeartbeats 400000 in
theorem isLow_any (r : Int) (w : World) :
    Calls Tryz.prog 101 #[.int .i32 r] w fun e w' => e = .returned (.bool (lowB r)) ∧ w' = w := by
  go_enter Tryz.func101, Tryz.ntmps101
  go_wp2
  all_goals go_ret
  all_goals exact ⟨ret_bool (by simp [lowB]; try omega), rfl⟩

set_option maxHeartbeats 400000 in
theorem hexDigit_any (r : Int) (w : World) :
    Calls Tryz.prog 107 #[.int .i32 r] w fun e w' => e = .returned (.tuple #[.int .i32 (hexV r), .bool (hexB r)]) ∧ w' = w := by
  go_enter Tryz.func107, Tryz.ntmps107
  go_wp2
  all_goals go_ret2
  all_goals refine ⟨ret2_int ?_ ?_, rfl⟩
  all_goals first
    | (unfold hexV; (repeat' split) <;> omega)
    | (unfold hexB; simp; omega)

/-- The scanner's block b, over the runes rs in block rb, at place k. -/
structure Scan (w : World) (b rb cap : Nat) (rs : List Nat) (k : Nat) : Prop where
  blk : w.heap[b]? = some (.cells #[.slice (some ⟨rb, 0, none⟩) rs.length cap, .int .i64 k] 128 (0, 0))
  row : ∃ c t f, w.heap[rb]? = some (.cells c t f) ∧ ∀ i (h : i < rs.length), c[i]? = some (.int .i32 (rs[i] : Int))
  ne : rb ≠ b
  le : k ≤ rs.length
  small : rs.length ≤ 2000000
  bd : ∀ c ∈ rs, c ≤ 2147483647
  room : rs.length ≤ cap

def peekOf (l : List Nat) : Int := match l with | [] => -1 | c :: _ => (c : Int)
theorem peekOf_in {rs : List Nat} {k : Nat} (h : k < rs.length) : peekOf (rs.drop k) = (rs[k] : Int) := by
  rw [List.drop_eq_getElem_cons h]; rfl
theorem peekOf_out {rs : List Nat} {k : Nat} (h : rs.length ≤ k) : peekOf (rs.drop k) = -1 := by
  rw [List.drop_eq_nil_of_le h]; rfl

theorem Scan.c0 {w b rb cap rs k} (h : Scan w b rb cap rs k) : w.cell? ⟨b, 0, none⟩ = some (.slice (some ⟨rb, 0, none⟩) rs.length cap) := by
  rw [cell_of_blk h.blk]; rfl
theorem Scan.c1 {w b rb cap rs k} (h : Scan w b rb cap rs k) : w.cell? ⟨b, 1, none⟩ = some (.int .i64 k) := by
  rw [cell_of_blk h.blk]; rfl
theorem Scan.f1 {w b rb cap rs k} (h : Scan w b rb cap rs k) : w.frozen? ⟨b, 1, none⟩ = false := frozen_of_blk h.blk 1
theorem Scan.cr {w b rb cap rs k} (h : Scan w b rb cap rs k) {i : Nat} (hi : i < rs.length) : w.cell? ⟨rb, i, none⟩ = some (.int .i32 (rs[i] : Int)) := by
  obtain ⟨c, t, f, hb, hc⟩ := h.row
  rw [cell_of_blk hb]; exact hc i hi
theorem Scan.alike {w w' b rb cap rs k} (h : Scan w b rb cap rs k) (ha : w'.Alike w) : Scan w' b rb cap rs k :=
  ⟨by rw [ha.1]; exact h.blk, by rw [ha.1]; exact h.row, h.ne, h.le, h.small, h.bd, h.room⟩
theorem Scan.to {w b rb cap rs k} (h : Scan w b rb cap rs k) (k' : Nat) (hk : k' ≤ rs.length) : Scan (w.setCell ⟨b, 1, none⟩ (.int .i64 k')) b rb cap rs k' :=
  ⟨by rw [blk_setCell h.blk]; rfl, by rw [blk_setCell_ne h.ne]; exact h.row, h.ne, hk, h.small, h.bd, h.room⟩
theorem Scan.kept {w w' b rb cap rs k S} (h : Scan w b rb cap rs k) (hk : Kept S w w') (hb : b ∉ S) (hrb : rb ∉ S) : Scan w' b rb cap rs k := by
  obtain ⟨c, t, f, hr, hc⟩ := h.row
  exact ⟨by rw [hk.block b (lt_of_blk h.blk) hb]; exact h.blk, ⟨c, t, f, by rw [hk.block rb (lt_of_blk hr) hrb]; exact hr, hc⟩, h.ne, h.le, h.small, h.bd, h.room⟩

theorem Scan.drewN {w b rb cap rs k} (h : Scan w b rb cap rs k) (n : Nat) : Scan (w.drewN n) b rb cap rs k := ⟨h.blk, h.row, h.ne, h.le, h.small, h.bd, h.room⟩
theorem Kept.drewN {S : List Nat} {a w : World} (h : Kept S a w) (n : Nat) : Kept S a (w.drewN n) := ⟨h.os, h.tape, h.output, h.size, h.block⟩

set_option maxHeartbeats 400000 in
theorem peek_any (b rb cap k : Nat) (rs : List Nat) (w : World) (hs : Scan w b rb cap rs k) :
    Calls Tryz.prog 83 #[.pointer (some ⟨b, 0, none⟩)] w fun e w' => e = .returned (.int .i32 (peekOf (rs.drop k))) ∧ ∃ n, w' = w.drewN n := by
  have h0 := hs.c0
  have h1 := hs.c1
  have hl := hs.le
  have hm := hs.small
  by_cases hlt : k < rs.length
  · have hr := hs.cr hlt
    have hp := peekOf_in hlt
    generalize rs[k] = r at hr hp
    rw [hp]
    clear hp hs
    generalize rs.length = n at *
    have hi : (k : Int) < (n : Int) := by omega
    go_enter Tryz.func83, Tryz.ntmps83
    go_wp2
    go_quiet (fail)
    go_wp2
    go_quiet (fail)
    go_wp2
    go_ret
    exact ⟨rfl, _, by rw [World.drewN_drewN]⟩
  · rw [peekOf_out (by omega)]
    clear hs
    generalize rs.length = n at *
    have hi : ¬ (k : Int) < (n : Int) := by omega
    go_enter Tryz.func83, Tryz.ntmps83
    go_wp2
    go_quiet (fail)
    go_wp2
    go_ret
    exact ⟨rfl, _, rfl⟩

theorem peekOf_lt {rs : List Nat} {k : Nat} {r : Int} (h : peekOf (rs.drop k) = r) (hr : 0 ≤ r) : k < rs.length := by
  by_cases hlt : k < rs.length
  · exact hlt
  · rw [peekOf_out (by omega)] at h; omega

set_option maxHeartbeats 400000 in
theorem take_yes (b rb cap k : Nat) (rs : List Nat) (r : Int) (w : World) (hs : Scan w b rb cap rs k) (hp : peekOf (rs.drop k) = r) (hr : 0 ≤ r) :
    Calls Tryz.prog 76 #[.pointer (some ⟨b, 0, none⟩), .int .i32 r] w fun e w' => e = .returned (.bool true) ∧ Scan w' b rb cap rs (k + 1) ∧ Kept [b] w w' := by
  have hlt := peekOf_lt hp hr
  have hl := hs.small
  have HP : Hid (peekOf (rs.drop k) = r) := hp
  clear hp
  have h1 := hs.c1
  have hf := hs.f1
  go_enter Tryz.func76, Tryz.ntmps76
  go_wp2_with (go_at_call 83; refine (peek_any b rb cap k rs _ hs).mono ?_; rintro e w' ⟨rfl, n, rfl⟩; rw [HP.out])
  go_ret
  exact ⟨rfl, ((hs.drewN n).to (k+1) (by omega)), ((Kept.refl _ _).drewN n).setCell (Or.inl (by simp)) _⟩
set_option maxHeartbeats 400000 in
theorem take_no (b rb cap k : Nat) (rs : List Nat) (r : Int) (w : World) (hs : Scan w b rb cap rs k) (hp : peekOf (rs.drop k) ≠ r) :
    Calls Tryz.prog 76 #[.pointer (some ⟨b, 0, none⟩), .int .i32 r] w fun e w' => e = .returned (.bool false) ∧ ∃ n, w' = w.drewN n := by
  have hb : (peekOf (rs.drop k) != r) = true := by simp [hp]
  clear hp
  go_enter Tryz.func76, Tryz.ntmps76
  go_wp2_with (go_at_call 83; refine (peek_any b rb cap k rs _ hs).mono ?_; rintro e w' ⟨rfl, n, rfl⟩)
  go_ret
  exact ⟨rfl, _, rfl⟩

set_option maxHeartbeats 400000 in
theorem next_any (b rb cap k : Nat) (rs : List Nat) (w : World) (hs : Scan w b rb cap rs k) :
    Calls Tryz.prog 88 #[.pointer (some ⟨b, 0, none⟩)] w fun e w' => e = .returned (.int .i32 (peekOf (rs.drop k))) ∧ Scan w' b rb cap rs (min (k + 1) rs.length) ∧ Kept [b] w w' := by
  have hl := hs.small
  by_cases hlt : k < rs.length
  · have hb : (peekOf (rs.drop k) != -1) = true := by rw [peekOf_in hlt]; simp
    rw [Nat.min_eq_left (by omega)]
    have h1 := hs.c1
    have hf := hs.f1
    go_enter Tryz.func88, Tryz.ntmps88
    go_wp2_with (go_at_call 83; refine (peek_any b rb cap k rs _ hs).mono ?_; rintro e w' ⟨rfl, n, rfl⟩)
    go_ret
    exact ⟨rfl, ((hs.drewN n).to (k+1) (by omega)), ((Kept.refl _ _).drewN n).setCell (Or.inl (by simp)) _⟩
  · have hb : (peekOf (rs.drop k) != -1) = false := by rw [peekOf_out (by omega)]; rfl
    have hk := hs.le
    rw [show min (k + 1) rs.length = k by omega]
    go_enter Tryz.func88, Tryz.ntmps88
    go_wp2_with (go_at_call 83; refine (peek_any b rb cap k rs _ hs).mono ?_; rintro e w' ⟨rfl, n, rfl⟩)
    go_ret
    exact ⟨rfl, hs.drewN n, (Kept.refl _ _).drewN n⟩
end Go.Proofs.YtdfbhjgpkokebaaGreatDoor
