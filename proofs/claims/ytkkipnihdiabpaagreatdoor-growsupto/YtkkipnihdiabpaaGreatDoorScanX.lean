/- Several texts in one. -/
import Derived.Test.YtkkipnihdiabpaaGreatDoorFrame
import Derived.Test.YtkkipnihdiabpaaGreatDoorProg
import Derived.BigQuiet
import Derived.Deep.QuietTactic
import Derived.Lib.OthersKept
import Derived.RegionTactic
import Derived.WalkLawsBesides
/- The scanner's small methods, walked: what each answers and what becomes of the scanner's block. -/
namespace Go.Proofs.YtkkipnihdiabpaaGreatDoor
open Go.RowKit

theorem ret2_int {k : IntKind} {a b : Int} {x y : Bool} (h : a = b) (h' : x = y) : Ending.returned (.tuple #[.int k a, .bool x]) = .returned (.tuple #[.int k b, .bool y]) := by rw [h, h']
theorem ret_int {k : IntKind} {a b : Int} (h : a = b) : Ending.returned (.int k a) = .returned (.int k b) := by rw [h]
theorem ret_bool {a b : Bool} (h : a = b) : Ending.returned (.bool a) = .returned (.bool b) := by rw [h]

def highB (r : Int) : Bool := decide (55296 ≤ r) && decide (r < 56320)
def lowB (r : Int) : Bool := decide (56320 ≤ r) && decide (r ≤ 57343)
def hexV (r : Int) : Int := if 48 ≤ r ∧ r ≤ 57 then r - 48 else if 97 ≤ r ∧ r ≤ 102 then r - 97 + 10 else if 65 ≤ r ∧ r ≤ 70 then r - 65 + 10 else 0
def hexB (r : Int) : Bool := decide ((48 ≤ r ∧ r ≤ 57) ∨ (97 ≤ r ∧ r ≤ 102) ∨ (65 ≤ r ∧ r ≤ 70))

set_option maxHeartbeats 400000 in
theorem isHigh_any (r : Int) (w : World) :
    Calls Tryz.prog 149 #[.int .i32 r] w fun e w' => e = .returned (.bool (highB r)) ∧ w' = w := by
  go_enter Tryz.func149, Tryz.ntmps149
  go_wp2
  all_goals go_ret
  all_goals exact ⟨ret_bool (by simp [highB]; try omega), rfl⟩

set_option maxHeartbeats 400000 in
theorem isLow_any (r : Int) (w : World) :
    Calls Tryz.prog 148 #[.int .i32 r] w fun e w' => e = .returned (.bool (lowB r)) ∧ w' = w := by
  go_enter Tryz.func148, Tryz.ntmps148
  go_wp2
  all_goals go_ret
  all_goals exact ⟨ret_bool (by simp [lowB]; try omega), rfl⟩

set_option maxHeartbeats 400000 in
theorem hexDigit_any (r : Int) (w : World) :
    Calls Tryz.prog 153 #[.int .i32 r] w fun e w' => e = .returned (.tuple #[.int .i32 (hexV r), .bool (hexB r)]) ∧ w' = w := by
  go_enter Tryz.func153, Tryz.ntmps153
  go_wp2
  all_goals go_ret2
  all_goals refine ⟨ret2_int ?_ ?_, rfl⟩
  all_goals first
    | (unfold hexV; (repeat' split) <;> omega)
    | (unfold hexB; simp; omega)

/-- The scanner's block b, over the runes rs in block rb, at place k. -/
structure Scan (w : World) (b rb cap : Nat) (rs : List Nat) (k : Nat) : Prop where
  blk : w.heap[b]? = some (.cells #[.slice (some ⟨rb, 0, none⟩) rs.length cap, .int .i64 k] 172 (0, 0))
  row : ∃ c t f, w.heap[rb]? = some (.cells c t f) ∧ ∀ i (h : i < rs.length), c[i]? = some (.int .i32 (rs[i] : Int))
  ne : rb ≠ b
  le : k ≤ rs.length
  small : rs.length ≤ 2000000
  bd : ∀ c ∈ rs, c ≤ 2147483647
  room : rs.length ≤ cap

def peekOf (l : List Nat) : Int := match l with | [] => -1 | c :: _ => (c : Int)
theorem peekOf_in {rs : List Nat} {k : Nat} (h : k < rs.length) : peekOf (rs.drop k) = (rs[k] : Int) := by
  rw [List.drop_eq_getElem_cons h]; rfl
theorem peekOf_out {rs : List Nat} {k : Nat} (h : rs.length ≤ k) : peekOf (rs.drop k) = -1 := by
  rw [List.drop_eq_nil_of_le h]; rfl

theorem Scan.c0 {w b rb cap rs k} (h : Scan w b rb cap rs k) : w.cell? ⟨b, 0, none⟩ = some (.slice (some ⟨rb, 0, none⟩) rs.length cap) := by
  rw [cell_of_blk h.blk]; rfl
theorem Scan.c1 {w b rb cap rs k} (h : Scan w b rb cap rs k) : w.cell? ⟨b, 1, none⟩ = some (.int .i64 k) := by
  rw [cell_of_blk h.blk]; rfl
theorem Scan.f1 {w b rb cap rs k} (h : Scan w b rb cap rs k) : w.frozen? ⟨b, 1, none⟩ = false := frozen_of_blk h.blk 1
theorem Scan.cr {w b rb cap rs k} (h : Scan w b rb cap rs k) {i : Nat} (hi : i < rs.length) : w.cell? ⟨rb, i, none⟩ = some (.int .i32 (rs[i] : Int)) := by
  obtain ⟨c, t, f, hb, hc⟩ := h.row
  rw [cell_of_blk hb]; exact hc i hi
theorem Scan.alike {w w' b rb cap rs k} (h : Scan w b rb cap rs k) (ha : w'.Alike w) : Scan w' b rb cap rs k :=
  ⟨by rw [ha.1]; exact h.blk, by rw [ha.1]; exact h.row, h.ne, h.le, h.small, h.bd, h.room⟩
theorem Scan.to {w b rb cap rs k} (h : Scan w b rb cap rs k) (k' : Nat) (hk : k' ≤ rs.length) : Scan (w.setCell ⟨b, 1, none⟩ (.int .i64 k')) b rb cap rs k' :=
  ⟨by rw [blk_setCell h.blk]; rfl, by rw [blk_setCell_ne h.ne]; exact h.row, h.ne, hk, h.small, h.bd, h.room⟩
theorem Scan.kept {w w' b rb cap rs k S} (h : Scan w b rb cap rs k) (hk : Kept S w w') (hb : b ∉ S) (hrb : rb ∉ S) : Scan w' b rb cap rs k := by
  obtain ⟨c, t, f, hr, hc⟩ := h.row
  exact ⟨by rw [hk.block b (lt_of_blk h.blk) hb]; exact h.blk, ⟨c, t, f, by rw [hk.block rb (lt_of_blk hr) hrb]; exact hr, hc⟩, h.ne, h.le, h.small, h.bd, h.room⟩

theorem Scan.drewN {w b rb cap rs k} (h : Scan w b rb cap rs k) (n : Nat) : Scan (w.drewN n) b rb cap rs k := ⟨h.blk, h.row, h.ne, h.le, h.small, h.bd, h.room⟩
theorem Kept.drewN {S : List Nat} {a w : World} (h : Kept S a w) (n : Nat) : Kept S a (w.drewN n) := ⟨h.os, h.tape, h.output, h.size, h.block⟩

set_option maxHeartbeats 400000 in
theorem peek_any (b rb cap k : Nat) (rs : List Nat) (w : World) (hs : Scan w b rb cap rs k) :
    Calls Tryz.prog 120 #[.pointer (some ⟨b, 0, none⟩)] w fun e w' => e = .returned (.int .i32 (peekOf (rs.drop k))) ∧ ∃ n, w' = w.drewN n := by
  have h0 := hs.c0
  have h1 := hs.c1
  have hl := hs.le
  have hm := hs.small
  by_cases hlt : k < rs.length
  · have hr := hs.cr hlt
    have hp := peekOf_in hlt
    generalize rs[k] = r at hr hp
    rw [hp]
    clear hp hs
    generalize rs.length = n at *
    have hi : (k : Int) < (n : Int) := by omega
    go_enter Tryz.func120, Tryz.ntmps120
    go_wp2
    go_quiet (fail)
    go_wp2
    go_quiet (fail)
    go_wp2
    go_ret
    exact ⟨rfl, _, by rw [World.drewN_drewN]⟩
  · rw [peekOf_out (by omega)]
    clear hs
    generalize rs.length = n at *
    have hi : ¬ (k : Int) < (n : Int) := by omega
    go_enter Tryz.func120, Tryz.ntmps120
    go_wp2
    go_quiet (fail)
    go_wp2
    go_ret
    exact ⟨rfl, _, rfl⟩

theorem peekOf_lt {rs : List Nat} {k : Nat} {r : Int} (h : peekOf (rs.drop k) = r) (hr : 0 ≤ r) : k < rs.length := by
  by_cases hlt : k < rs.length
  · exact hlt
  · rw [peekOf_out (by omega)] at h; omega

set_option maxHeartbeats 400000 in
theorem take_yes (b rb cap k : Nat) (rs : List Nat) (r : Int) (w : World) (hs : Scan w b rb cap rs k) (hp : peekOf (rs.drop k) = r) (hr : 0 ≤ r) :
    Calls Tryz.prog 98 #[.pointer (some ⟨b, 0, none⟩), .int .i32 r] w fun e w' => e = .returned (.bool true) ∧ Scan w' b rb cap rs (k + 1) ∧ Kept [b] w w' := by
  have hlt := peekOf_lt hp hr
  have hl := hs.small
  have HP : Hid (peekOf (rs.drop k) = r) := hp
  clear hp
  have h1 := hs.c1
  have hf := hs.f1
  go_enter Tryz.func98, Tryz.ntmps98
  go_wp2_with (go_at_call 120; refine (peek_any b rb cap k rs _ hs).mono ?_; rintro e w' ⟨rfl, n, rfl⟩; rw [HP.out])
  go_ret
  exact ⟨rfl, ((hs.drewN n).to (k+1) (by omega)), ((Kept.refl _ _).drewN n).setCell (Or.inl (by simp)) _⟩
set_option maxHeartbeats 400000 in
theorem take_no (b rb cap k : Nat) (rs : List Nat) (r : Int) (w : World) (hs : Scan w b rb cap rs k) (hp : peekOf (rs.drop k) ≠ r) :
    Calls Tryz.prog 98 #[.pointer (some ⟨b, 0, none⟩), .int .i32 r] w fun e w' => e = .returned (.bool false) ∧ ∃ n, w' = w.drewN n := by
  have hb : (peekOf (rs.drop k) != r) = true := by simp [hp]
  clear hp
  go_enter Tryz.func98, Tryz.ntmps98
  go_wp2_with (go_at_call 120; refine (peek_any b rb cap k rs _ hs).mono ?_; rintro e w' ⟨rfl, n, rfl⟩)
  go_ret
  exact ⟨rfl, _, rfl⟩

set_option maxHeartbeats 400000 in
theorem next_any (b rb cap k : Nat) (rs : List Nat) (w : World) (hs : Scan w b rb cap rs k) :
    Calls Tryz.prog 133 #[.pointer (some ⟨b, 0, none⟩)] w fun e w' => e = .returned (.int .i32 (peekOf (rs.drop k))) ∧ Scan w' b rb cap rs (min (k + 1) rs.length) ∧ Kept [b] w w' := by
  have hl := hs.small
  by_cases hlt : k < rs.length
  · have hb : (peekOf (rs.drop k) != -1) = true := by rw [peekOf_in hlt]; simp
    rw [Nat.min_eq_left (by omega)]
    have h1 := hs.c1
    have hf := hs.f1
    go_enter Tryz.func133, Tryz.ntmps133
    go_wp2_with (go_at_call 120; refine (peek_any b rb cap k rs _ hs).mono ?_; rintro e w' ⟨rfl, n, rfl⟩)
    go_ret
    exact ⟨rfl, ((hs.drewN n).to (k+1) (by omega)), ((Kept.refl _ _).drewN n).setCell (Or.inl (by simp)) _⟩
  · have hb : (peekOf (rs.drop k) != -1) = false := by rw [peekOf_out (by omega)]; rfl
    have hk := hs.le
    rw [show min (k + 1) rs.length = k by omega]
    go_enter Tryz.func133, Tryz.ntmps133
    go_wp2_with (go_at_call 120; refine (peek_any b rb cap k rs _ hs).mono ?_; rintro e w' ⟨rfl, n, rfl⟩)
    go_ret
    exact ⟨rfl, hs.drewN n, (Kept.refl _ _).drewN n⟩
end Go.Proofs.YtkkipnihdiabpaaGreatDoor
/- The scanner's loops, walked: blanks, digits, four hexadecimal digits, a word. -/
namespace Go.Proofs.YtkkipnihdiabpaaGreatDoor
open Go.RowKit

def blankB (c : Int) : Bool := c == 32 || c == 9 || c == 13
def digB (c : Int) : Bool := decide (48 ≤ c) && decide (c ≤ 57)
def skipB : List Nat → List Nat
  | [] => []
  | c :: t => if blankB c then skipB t else c :: t
def skipD : List Nat → List Nat
  | [] => []
  | c :: t => if digB c then skipD t else c :: t

/-- where the scanner stands, off the world -/
def placeOf (w : World) (b : Nat) : Nat := match w.cell? ⟨b, 1, none⟩ with | some (.int _ n) => n.toNat | _ => 0
theorem Scan.place {w b rb cap rs k} (h : Scan w b rb cap rs k) : placeOf w b = k := by simp [placeOf, h.c1]

theorem drop_succ_of_cons {rs : List Nat} {k c : Nat} {t : List Nat} (h : rs.drop k = c :: t) : rs.drop (k + 1) = t := by
  rw [← List.drop_drop, h]; rfl
theorem lt_of_cons {rs : List Nat} {k c : Nat} {t : List Nat} (h : rs.drop k = c :: t) : k < rs.length := by
  by_cases hlt : k < rs.length
  · exact hlt
  · rw [List.drop_eq_nil_of_le (by omega)] at h; cases h

set_option maxHeartbeats 400000 in
theorem skipBlanks_any (b rb cap k : Nat) (rs : List Nat) (w : World) (hs : Scan w b rb cap rs k) :
    Calls Tryz.prog 71 #[.pointer (some ⟨b, 0, none⟩)] w fun e w' => e = .returned (.tuple #[]) ∧ ∃ k', rs.drop k' = skipB (rs.drop k) ∧ k ≤ k' ∧ Scan w' b rb cap rs k' ∧ Kept [b] w w' := by
  go_enter Tryz.func71, Tryz.ntmps71
  go_wp2
  go_loopw [] (fun w' => ∃ j, skipB (rs.drop j) = skipB (rs.drop k) ∧ k ≤ j ∧ Scan w' b rb cap rs j ∧ Kept [b] w w') (fun w' => rs.length - placeOf w' b)
  case atStart => exact ⟨k, rfl, Nat.le_refl _, hs, Kept.refl _ _⟩
  case round =>
    obtain ⟨j, hj, hkj, hsj, hkp⟩ := hrel
    have hm := hsj.small
    have fin : ∀ (w1 : World), peekOf (rs.drop j) ≠ -1 → blankB (peekOf (rs.drop j)) = true → Scan w1 b rb cap rs (j + 1) → Kept [b] wr w1 →
        (∃ j, skipB (rs.drop j) = skipB (rs.drop k) ∧ k ≤ j ∧ Scan w1 b rb cap rs j ∧ Kept [b] w w1) ∧ rs.length - placeOf w1 b < rs.length - placeOf wr b := by
      intro w1 h1 h2 h3 h4
      rw [h3.place, hsj.place]
      cases hd : rs.drop j with
      | nil => rw [hd] at h1; exact absurd rfl h1
      | cons c t =>
        have hlt := lt_of_cons hd
        refine ⟨⟨j + 1, ?_, by omega, h3, hkp.trans h4⟩, by omega⟩
        rw [drop_succ_of_cons hd, ← hj, hd, skipB, if_pos (by rw [hd] at h2; exact h2)]
    by_cases h1 : peekOf (rs.drop j) = 32
    · go_wp2_with fail
      refine (take_yes b rb cap j rs 32 _ hsj h1 (by omega)).mono ?_
      rintro e w1 ⟨rfl, g1, g2⟩
      go_wp2
      go_roundw
      case rel => exact (fin w1 (by rw [h1]; decide) (by rw [h1]; decide) g1 g2).1
      case measure => exact (fin w1 (by rw [h1]; decide) (by rw [h1]; decide) g1 g2).2
    · go_wp2_with fail
      refine (take_no b rb cap j rs 32 _ hsj h1).mono ?_
      rintro e w1 ⟨rfl, n1, rfl⟩
      by_cases h2 : peekOf (rs.drop j) = 9
      · go_wp2_with fail
        refine (take_yes b rb cap j rs 9 _ (hsj.drewN n1) h2 (by omega)).mono ?_
        rintro e w1 ⟨rfl, g1, g2⟩
        go_wp2
        go_roundw
        case rel => exact (fin w1 (by rw [h2]; decide) (by rw [h2]; decide) g1 (((Kept.refl _ _).drewN n1).trans g2)).1
        case measure => exact (fin w1 (by rw [h2]; decide) (by rw [h2]; decide) g1 (((Kept.refl _ _).drewN n1).trans g2)).2
      · go_wp2_with fail
        refine (take_no b rb cap j rs 9 _ (hsj.drewN n1) h2).mono ?_
        rintro e w1 ⟨rfl, n2, rfl⟩
        by_cases h3 : peekOf (rs.drop j) = 13
        · go_wp2_with fail
          refine (take_yes b rb cap j rs 13 _ (hsj.drewN _) h3 (by omega)).mono ?_
          rintro e w1 ⟨rfl, g1, g2⟩
          go_wp2
          go_roundw
          case rel => exact (fin w1 (by rw [h3]; decide) (by rw [h3]; decide) g1 (((Kept.refl _ _).drewN _).trans g2)).1
          case measure => exact (fin w1 (by rw [h3]; decide) (by rw [h3]; decide) g1 (((Kept.refl _ _).drewN _).trans g2)).2
        · go_wp2_with fail
          refine (take_no b rb cap j rs 13 _ (hsj.drewN _) h3).mono ?_
          rintro e w1 ⟨rfl, n3, rfl⟩
          have hend : rs.drop j = skipB (rs.drop k) := by
            rw [← hj]
            cases hd : rs.drop j with
            | nil => rfl
            | cons c t =>
              rw [hd] at h1 h2 h3
              rw [skipB, if_neg (by simp only [blankB, peekOf] at *; simp [h1, h2, h3])]
          have HE : Hid (rs.drop j = skipB (rs.drop k)) := hend
          clear hend fin hj h1 h2 h3
          go_wp2
          go_end0
          exact ⟨rfl, j, HE.out, hkj, hsj.drewN _, hkp.drewN _⟩

set_option maxHeartbeats 400000 in
theorem skipDigits_any (b rb cap k : Nat) (rs : List Nat) (w : World) (hs : Scan w b rb cap rs k) :
    Calls Tryz.prog 144 #[.pointer (some ⟨b, 0, none⟩)] w fun e w' => e = .returned (.tuple #[]) ∧ ∃ k', rs.drop k' = skipD (rs.drop k) ∧ k ≤ k' ∧ Scan w' b rb cap rs k' ∧ Kept [b] w w' := by
  go_enter Tryz.func144, Tryz.ntmps144
  go_wp2
  go_loopw [] (fun w' => ∃ j, skipD (rs.drop j) = skipD (rs.drop k) ∧ k ≤ j ∧ Scan w' b rb cap rs j ∧ Kept [b] w w') (fun w' => rs.length - placeOf w' b)
  case atStart => exact ⟨k, rfl, Nat.le_refl _, hs, Kept.refl _ _⟩
  case round =>
    obtain ⟨j, hj, hkj, hsj, hkp⟩ := hrel
    have hm := hsj.small
    have c1 := hsj.c1
    have f1 := hsj.f1
    cases hd : rs.drop j with
    | nil =>
      have hp : peekOf (rs.drop j) = -1 := by rw [hd]; rfl
      have hend : Hid (rs.drop j = skipD (rs.drop k)) := by rw [← hj, hd]; rfl
      have HP : Hid (peekOf (rs.drop j) = -1) := hp
      clear hp hj hd
      go_wp2_with fail
      refine (peek_any b rb cap j rs _ hsj).mono ?_
      rintro e w1 ⟨rfl, n1, rfl⟩
      rw [HP.out]
      go_wp2
      go_end0
      exact ⟨rfl, j, hend.out, hkj, hsj.drewN n1, hkp.drewN n1⟩
    | cons c t =>
      have hlt := lt_of_cons hd
      have HP : Hid (peekOf (rs.drop j) = (c : Int)) := by rw [hd]; exact rfl
      have HJ : Hid (skipD (rs.drop j) = skipD (rs.drop k)) := hj
      have HD : Hid (rs.drop j = c :: t) := hd
      clear hj hd
      by_cases h1 : 48 ≤ c ∧ c ≤ 57
      · obtain ⟨ha, hb⟩ := h1
        have ha' : (48 : Int) ≤ (c : Int) := by omega
        have hb' : (c : Int) ≤ 57 := by omega
        go_wp2_with fail
        refine (peek_any b rb cap j rs _ hsj).mono ?_
        rintro e w1 ⟨rfl, n1, rfl⟩
        rw [HP.out]
        go_wp2_with fail
        refine (peek_any b rb cap j rs _ (hsj.drewN n1)).mono ?_
        rintro e w1 ⟨rfl, n2, rfl⟩
        rw [HP.out]
        go_wp2
        go_roundw
        case rel =>
          refine ⟨j + 1, ?_, by omega, (hsj.drewN _).to (j + 1) (by omega), (hkp.drewN _).setCell (p := ⟨b, 1, none⟩) (Or.inl (by simp)) _⟩
          rw [drop_succ_of_cons HD.out, ← HJ.out, HD.out, skipD, if_pos (by simp [digB]; omega)]
        case measure =>
          have e1 := ((hsj.drewN (n1 + n2)).to (j + 1) (by omega)).place
          rw [hsj.place]
          have e2 : ((j + 1 : Nat) : Int) = (j : Int) + 1 := by omega
          rw [e2] at e1
          rw [show placeOf _ b = j + 1 from e1]
          omega
      · have hend : Hid (rs.drop j = skipD (rs.drop k)) := by
          rw [← HJ.out, HD.out, skipD, if_neg (by simp [digB]; omega)]
          exact rfl
        by_cases h2 : 48 ≤ c
        · have ha' : (48 : Int) ≤ (c : Int) := by omega
          have hb' : ¬ (c : Int) ≤ 57 := by omega
          clear h1
          go_wp2_with fail
          refine (peek_any b rb cap j rs _ hsj).mono ?_
          rintro e w1 ⟨rfl, n1, rfl⟩
          rw [HP.out]
          go_wp2_with fail
          refine (peek_any b rb cap j rs _ (hsj.drewN n1)).mono ?_
          rintro e w1 ⟨rfl, n2, rfl⟩
          rw [HP.out]
          go_wp2
          go_end0
          exact ⟨rfl, j, hend.out, hkj, hsj.drewN _, hkp.drewN _⟩
        · have ha' : ¬ (48 : Int) ≤ (c : Int) := by omega
          clear h1
          go_wp2_with fail
          refine (peek_any b rb cap j rs _ hsj).mono ?_
          rintro e w1 ⟨rfl, n1, rfl⟩
          rw [HP.out]
          go_wp2
          go_end0
          exact ⟨rfl, j, hend.out, hkj, hsj.drewN n1, hkp.drewN n1⟩
end Go.Proofs.YtkkipnihdiabpaaGreatDoor
