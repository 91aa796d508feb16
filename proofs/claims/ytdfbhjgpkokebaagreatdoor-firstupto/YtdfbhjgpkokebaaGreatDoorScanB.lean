/- The scanner's loops, walked: blanks, digits, four hexadecimal digits, a word. -/
import Derived.Test.YtdfbhjgpkokebaaGreatDoorScanA
import Derived.Lib.OthersKept
namespace Go.Proofs.YtdfbhjgpkokebaaGreatDoor
open Go.RowKit

def blankB (c : Int) : Bool := c == 32 || c == 9 || c == 13
def digB (c : Int) : Bool := decide (48 ≤ c) && decide (c ≤ 57)
def skipB : List Nat → List Nat
  | [] => []
  | c :: t => if blankB c then skipB t else c :: t
def skipD : List Nat → List Nat
  | [] => []
  | c :: t => if digB c then skipD t else c :: t

/-- where the scanner stands, off the world -/
def placeOf (w : World) (b : Nat) : Nat := match w.cell? ⟨b, 1, none⟩ with | some (.int _ n) => n.toNat | _ => 0
theorem Scan.place {w b rb cap rs k} (h : Scan w b rb cap rs k) : placeOf w b = k := by simp [placeOf, h.c1]

theorem drop_succ_of_cons {rs : List Nat} {k c : Nat} {t : List Nat} (h : rs.drop k = c :: t) : rs.drop (k + 1) = t := by
  rw [← List.drop_drop, h]; rfl
theorem lt_of_cons {rs : List Nat} {k c : Nat} {t : List Nat} (h : rs.drop k = c :: t) : k < rs.length := by
  by_cases hlt : k < rs.length
  · exact hlt
  · rw [List.drop_eq_nil_of_le (by omega)] at h; cases h

set_option maxHeartbeats 400000 in
theorem skipBlanks_any (b rb cap k : Nat) (rs : List Nat) (w : World) (hs : Scan w b rb cap rs k) :
    Calls Tryz.prog 62 #[.pointer (some ⟨b, 0, none⟩)] w fun e w' => e = .returned (.tuple #[]) ∧ ∃ k', rs.drop k' = skipB (rs.drop k) ∧ k ≤ k' ∧ Scan w' b rb cap rs k' ∧ Kept [b] w w' := by
  go_enter Tryz.func62, Tryz.ntmps62
  go_wp2
  go_loopw [] (fun w' => ∃ j, skipB (rs.drop j) = skipB (rs.drop k) ∧ k ≤ j ∧ Scan w' b rb cap rs j ∧ Kept [b] w w') (fun w' => rs.length - placeOf w' b)
  case atStart => exact ⟨k, rfl, Nat.le_refl _, hs, Kept.refl _ _⟩
  case round =>
    obtain ⟨j, hj, hkj, hsj, hkp⟩ := hrel
    have hm := hsj.small
    have fin : ∀ (w1 : World), peekOf (rs.drop j) ≠ -1 → blankB (peekOf (rs.drop j)) = true → Scan w1 b rb cap rs (j + 1) → Kept [b] wr w1 →
        (∃ j, skipB (rs.drop j) = skipB (rs.drop k) ∧ k ≤ j ∧ Scan w1 b rb cap rs j ∧ Kept [b] w w1) ∧ rs.length - placeOf w1 b < rs.length - placeOf wr b := by
      intro w1 h1 h2 h3 h4
      rw [h3.place, hsj.place]
      cases hd : rs.drop j with
      | nil => rw [hd] at h1; exact absurd rfl h1
      | cons c t =>
        have hlt := lt_of_cons hd
        refine ⟨⟨j + 1, ?_, by omega, h3, hkp.trans h4⟩, by omega⟩
        rw [drop_succ_of_cons hd, ← hj, hd, skipB, if_pos (by rw [hd] at h2; exact h2)]
    by_cases h1 : peekOf (rs.drop j) = 32
    · go_wp2_with fail
      refine (take_yes b rb cap j rs 32 _ hsj h1 (by omega)).mono ?_
      rintro e w1 ⟨rfl, g1, g2⟩
      go_wp2
      go_roundw
      case rel => exact (fin w1 (by rw [h1]; decide) (by rw [h1]; decide) g1 g2).1
      case measure => exact (fin w1 (by rw [h1]; decide) (by rw [h1]; decide) g1 g2).2
    · go_wp2_with fail
      refine (take_no b rb cap j rs 32 _ hsj h1).mono ?_
      rintro e w1 ⟨rfl, n1, rfl⟩
      by_cases h2 : peekOf (rs.drop j) = 9
      · go_wp2_with fail
        refine (take_yes b rb cap j rs 9 _ (hsj.drewN n1) h2 (by omega)).mono ?_
        rintro e w1 ⟨rfl, g1, g2⟩
        go_wp2
        go_roundw
        case rel => exact (fin w1 (by rw [h2]; decide) (by rw [h2]; decide) g1 (((Kept.refl _ _).drewN n1).trans g2)).1
        case measure => exact (fin w1 (by rw [h2]; decide) (by rw [h2]; decide) g1 (((Kept.refl _ _).drewN n1).trans g2)).2
      · go_wp2_with fail
        refine (take_no b rb cap j rs 9 _ (hsj.drewN n1) h2).mono ?_
        rintro e w1 ⟨rfl, n2, rfl⟩
        by_cases h3 : peekOf (rs.drop j) = 13
        · go_wp2_with fail
          refine (take_yes b rb cap j rs 13 _ (hsj.drewN _) h3 (by omega)).mono ?_
          rintro e w1 ⟨rfl, g1, g2⟩
          go_wp2
          go_roundw
          case rel => exact (fin w1 (by rw [h3]; decide) (by rw [h3]; decide) g1 (((Kept.refl _ _).drewN _).trans g2)).1
          case measure => exact (fin w1 (by rw [h3]; decide) (by rw [h3]; decide) g1 (((Kept.refl _ _).drewN _).trans g2)).2
        · go_wp2_with fail
          refine (take_no b rb cap j rs 13 _ (hsj.drewN _) h3).mono ?_
          rintro e w1 ⟨rfl, n3, rfl⟩
          have hend : rs.drop j = skipB (rs.drop k) := by
            rw [← hj]
            cases hd : rs.drop j with
            | nil => rfl
            | cons c t =>
              rw [hd] at h1 h2 h3
              rw [skipB, if_neg (by simp only [blankB, peekOf] at *; simp [h1, h2, h3])]
          have HE : Hid (rs.drop j = skipB (rs.drop k)) := hend
          clear hend fin hj h1 h2 h3
          go_wp2
          go_end0
          exact ⟨rfl, j, HE.out, hkj, hsj.drewN _, hkp.drewN _⟩

set_option maxHeartbeats 400000 in
theorem skipDigits_any (b rb cap k : Nat) (rs : List Nat) (w : World) (hs : Scan w b rb cap rs k) :
    Calls Tryz.prog 98 #[.pointer (some ⟨b, 0, none⟩)] w fun e w' => e = .returned (.tuple #[]) ∧ ∃ k', rs.drop k' = skipD (rs.drop k) ∧ k ≤ k' ∧ Scan w' b rb cap rs k' ∧ Kept [b] w w' := by
  go_enter Tryz.func98, Tryz.ntmps98
  go_wp2
  go_loopw [] (fun w' => ∃ j, skipD (rs.drop j) = skipD (rs.drop k) ∧ k ≤ j ∧ Scan w' b rb cap rs j ∧ Kept [b] w w') (fun w' => rs.length - placeOf w' b)
  case atStart => exact ⟨k, rfl, Nat.le_refl _, hs, Kept.refl _ _⟩
  case round =>
    obtain ⟨j, hj, hkj, hsj, hkp⟩ := hrel
    have hm := hsj.small
    have c1 := hsj.c1
    have f1 := hsj.f1
    cases hd : rs.drop j with
    | nil =>
      have hp : peekOf (rs.drop j) = -1 := by rw [hd]; rfl
      have hend : Hid (rs.drop j = skipD (rs.drop k)) := by rw [← hj, hd]; rfl
      have HP : Hid (peekOf (rs.drop j) = -1) := hp
      clear hp hj hd
      go_wp2_with fail
      refine (peek_any b rb cap j rs _ hsj).mono ?_
      rintro e w1 ⟨rfl, n1, rfl⟩
      rw [HP.out]
      go_wp2
      go_end0
      exact ⟨rfl, j, hend.out, hkj, hsj.drewN n1, hkp.drewN n1⟩
    | cons c t =>
      have hlt := lt_of_cons hd
      have HP : Hid (peekOf (rs.drop j) = (c : Int)) := by rw [hd]; exact rfl
      have HJ : Hid (skipD (rs.drop j) = skipD (rs.drop k)) := hj
      have HD : Hid (rs.drop j = c :: t) := hd
      clear hj hd
      by_cases h1 : 48 ≤ c ∧ c ≤ 57
      · obtain ⟨ha, hb⟩ := h1
        have ha' : (48 : Int) ≤ (c : Int) := by omega
        have hb' : (c : Int) ≤ 57 := by omega
        go_wp2_with fail
        refine (peek_any b rb cap j rs _ hsj).mono ?_
        rintro e w1 ⟨rfl, n1, rfl⟩
        rw [HP.out]
        go_wp2_with fail
        refine (peek_any b rb cap j rs _ (hsj.drewN n1)).mono ?_
        rintro e w1 ⟨rfl, n2, rfl⟩
        rw [HP.out]
        go_wp2
        go_roundw
        case rel =>
          refine ⟨j + 1, ?_, by omega, (hsj.drewN _).to (j + 1) (by omega), (hkp.drewN _).setCell (p := ⟨b, 1, none⟩) (Or.inl (by simp)) _⟩
          rw [drop_succ_of_cons HD.out, ← HJ.out, HD.out, skipD, if_pos (by simp [digB]; omega)]
        case measure =>
          have e1 := ((hsj.drewN (n1 + n2)).to (j + 1) (by omega)).place
          rw [hsj.place]
          have e2 : ((j + 1 : Nat) : Int) = (j : Int) + 1 := by omega
          rw [e2] at e1
          rw [show placeOf _ b = j + 1 from e1]
          omega
      · have hend : Hid (rs.drop j = skipD (rs.drop k)) := by
          rw [← HJ.out, HD.out, skipD, if_neg (by simp [digB]; omega)]
          exact rfl
        by_cases h2 : 48 ≤ c
        · have ha' : (48 : Int) ≤ (c : Int) := by omega
          have hb' : ¬ (c : Int) ≤ 57 := by omega
          clear h1
          go_wp2_with fail
          refine (peek_any b rb cap j rs _ hsj).mono ?_
          rintro e w1 ⟨rfl, n1, rfl⟩
          rw [HP.out]
          go_wp2_with fail
          refine (peek_any b rb cap j rs _ (hsj.drewN n1)).mono ?_
          rintro e w1 ⟨rfl, n2, rfl⟩
          rw [HP.out]
          go_wp2
          go_end0
          exact ⟨rfl, j, hend.out, hkj, hsj.drewN _, hkp.drewN _⟩
        · have ha' : ¬ (48 : Int) ≤ (c : Int) := by omega
          clear h1
          go_wp2_with fail
          refine (peek_any b rb cap j rs _ hsj).mono ?_
          rintro e w1 ⟨rfl, n1, rfl⟩
          rw [HP.out]
          go_wp2
          go_end0
          exact ⟨rfl, j, hend.out, hkj, hsj.drewN n1, hkp.drewN n1⟩
end Go.Proofs.YtdfbhjgpkokebaaGreatDoor
