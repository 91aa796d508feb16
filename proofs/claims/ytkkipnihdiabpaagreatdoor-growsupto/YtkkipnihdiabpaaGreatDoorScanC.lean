/- The scanner's escapes, walked: four hexadecimal digits, a word, a numbered character, an escape. -/
import Derived.Test.YtkkipnihdiabpaaGreatDoorScanX
namespace Go.Proofs.YtkkipnihdiabpaaGreatDoor
open Go.RowKit

def hexRun : Nat → Int → List Nat → Option Int
  | 0, acc, _ => some acc
  | _ + 1, _, [] => none
  | m + 1, acc, c :: t => if hexB c then hexRun m (acc * 16 + hexV c) t else none
def four (l : List Nat) : Option Int := hexRun 4 0 l

theorem hexV_bd (r : Int) : 0 ≤ hexV r ∧ hexV r ≤ 15 := by unfold hexV; (repeat' split) <;> omega
theorem hexB_neg : hexB (-1) = false := by decide

theorem acc_bd {i : Nat} {acc : Int} (hi : i < 4) (h : acc < 16 ^ i) : acc ≤ 4095 := by
  have : i = 0 ∨ i = 1 ∨ i = 2 ∨ i = 3 := by omega
  rcases this with rfl | rfl | rfl | rfl <;> simp at h <;> omega
theorem acc_up {i : Nat} {acc d : Int} (h : acc < 16 ^ i) (h0 : 0 ≤ d) (hd : d ≤ 15) : acc * 16 + d < 16 ^ (i + 1) := by
  have : (16 : Int) ^ (i + 1) = 16 ^ i * 16 := by rw [Int.pow_succ]
  omega

set_option maxHeartbeats 400000 in
theorem fourDigits_any (b rb cap k : Nat) (rs : List Nat) (w : World) (hs : Scan w b rb cap rs k) :
    Calls Tryz.prog 147 #[.pointer (some ⟨b, 0, none⟩)] w fun e w' => 
      ∃ k', Scan w' b rb cap rs k' ∧ Kept [b] w w' ∧ ((∃ v, four (rs.drop k) = some v ∧ 0 ≤ v ∧ v ≤ 65535 ∧ k' = k + 4 ∧ e = .returned (.tuple #[.int .i32 v, .bool true])) ∨
        (four (rs.drop k) = none ∧ e = .returned (.tuple #[.int .i32 0, .bool false]))) := by
  go_enter Tryz.func147, Tryz.ntmps147
  go_wp2
  go_loopw [4, 7] (fun n i w' => ∃ (j : Nat) (acc : Int), j ≤ 4 ∧ i = .int .i64 j ∧ n = .int .i32 acc ∧ 0 ≤ acc ∧ acc < 16 ^ j ∧ k + j ≤ rs.length ∧ hexRun (4 - j) acc (rs.drop (k + j)) = four (rs.drop k) ∧ Scan w' b rb cap rs (k + j) ∧ Kept [b] w w') (fun _ i _ => 4 - (intOf i).toNat)
  case atStart => exact ⟨0, 0, by omega, rfl, rfl, by omega, by decide, hs.le, rfl, hs, Kept.refl _ _⟩
  case round =>
    obtain ⟨j, acc, hj, rfl, rfl, ha0, ha1, hkl, HR, hsj, hkp⟩ := hrel
    have hR : Hid (hexRun (4 - j) acc (rs.drop (k + j)) = four (rs.drop k)) := HR
    clear HR
    by_cases hlt : j < 4
    · have hab := acc_bd hlt ha1
      have hlt' : (j : Int) < 4 := by omega
      go_wp2_with fail
      refine (next_any b rb cap (k + j) rs _ hsj).mono ?_
      rintro e w1 ⟨rfl, g1, g2⟩
      go_wp2_with fail
      refine (hexDigit_any _ _).mono ?_
      rintro e w2 ⟨rfl, rfl⟩
      cases hd : rs.drop (k + j) with
      | nil =>
        have hend : Hid (four (rs.drop k) = none) := by
          rw [← hR.out, hd, show 4 - j = (3 - j) + 1 by omega]; exact rfl
        rw [show peekOf [] = -1 from rfl, hexB_neg]
        clear hR hd
        generalize hexV (-1) = d
        go_wp2
        go_ret2
        exact ⟨_, g1, hkp.trans g2, Or.inr ⟨hend.out, rfl⟩⟩
      | cons c t =>
        have hl := lt_of_cons hd
        have hv := hexV_bd c
        rw [Nat.min_eq_left (by omega)] at g1
        rw [show peekOf (c :: t) = (c : Int) from rfl]
        cases hx : hexB (c : Int) with
        | true =>
          have hR' : Hid (hexRun (4 - (j + 1)) (acc * 16 + hexV c) (rs.drop (k + j + 1)) = four (rs.drop k)) := by
            rw [drop_succ_of_cons hd, ← hR.out, hd, show 4 - j = (4 - (j + 1)) + 1 by omega, hexRun, if_pos hx]; exact rfl
          clear hR hd hx
          generalize hexV (c : Int) = d at *
          obtain ⟨hv0, hv1⟩ := hv
          go_wp2
          go_roundw
          case rel => exact ⟨j + 1, acc * 16 + d, by omega, by go_num, rfl, by omega, acc_up ha1 hv0 hv1, by omega, hR'.out, g1, hkp.trans g2⟩
          case measure => simp [intOf]; omega
        | false =>
          have hend : Hid (four (rs.drop k) = none) := by
            rw [← hR.out, hd, show 4 - j = (3 - j) + 1 by omega, hexRun, if_neg (by simp [hx])]; exact rfl
          clear hR hd hx
          generalize hexV (c : Int) = d at *
          go_wp2
          go_ret2
          exact ⟨_, g1, hkp.trans g2, Or.inr ⟨hend.out, rfl⟩⟩
    · have hj4 : j = 4 := by omega
      subst hj4
      have hend : Hid (four (rs.drop k) = some acc) := by rw [← hR.out]; exact rfl
      clear hR
      go_wp2
      go_ret2
      exact ⟨_, hsj, hkp, Or.inl ⟨acc, hend.out, ha0, by omega, rfl, rfl⟩⟩

/-- a word's letters as runes -/
def lets (s : ByteArray) : List Nat := s.data.toList.map UInt8.toNat
def eats : List Nat → List Nat → Bool
  | [], _ => true
  | _ :: _, [] => false
  | a :: s, c :: l => a == c && eats s l

theorem lets_drop (s : ByteArray) (i : Nat) (h : i < s.size) : (lets s).drop i = (s[i]).toNat :: (lets s).drop (i + 1) := by
  have hl : i < (lets s).length := by simpa [lets] using h
  rw [List.drop_eq_getElem_cons hl]
  congr 1
  simp [lets]; rfl

theorem Kept.iterAt {S : List Nat} {a w : World} (h : Kept S a w) {k : Nat} (hk : a.heap.size ≤ k) (s : ByteArray) (pos : Nat) : Kept S a (w.iterAt k s pos) :=
  ⟨h.os, h.tape, h.output, by rw [Lib.iterAt_size]; exact h.size, fun i hi hn => by rw [Lib.iterAt_other _ _ _ _ _ (by omega)]; exact h.block i hi hn⟩
theorem Scan.iterAt {w b rb cap rs k} (h : Scan w b rb cap rs k) {i pos : Nat} {s : ByteArray} (hi : w.heap[i]? = some (.stringIter s pos)) (pos' : Nat) : Scan (w.iterAt i s pos') b rb cap rs k := by
  obtain ⟨c, t, f, hr, hc⟩ := h.row
  have e1 : b ≠ i := by intro e; subst e; rw [h.blk] at hi; cases hi
  have e2 : rb ≠ i := by intro e; subst e; rw [hr] at hi; cases hi
  exact ⟨by rw [Lib.iterAt_other _ _ _ _ _ e1]; exact h.blk, ⟨c, t, f, by rw [Lib.iterAt_other _ _ _ _ _ e2]; exact hr, hc⟩, h.ne, h.le, h.small, h.bd, h.room⟩
theorem Scan.alloc {w b rb cap rs k} (h : Scan w b rb cap rs k) (o : Obj) : Scan (w.alloc o) b rb cap rs k :=
  h.kept (S := []) ((Kept.refl _ _).alloc o) (by simp) (by simp)

set_option maxHeartbeats 400000 in
theorem takeWord_any (b rb cap k : Nat) (rs : List Nat) (s : ByteArray) (w : World) (hs : Scan w b rb cap rs k) (ha : ∀ i (h : i < s.size), (s[i]'h).toNat < 128) (hz : s.size ≤ 100) :
    Calls Tryz.prog 137 #[.pointer (some ⟨b, 0, none⟩), .string s] w fun e w' => 
      ∃ k', e = .returned (.bool (eats (lets s) (rs.drop k))) ∧ Scan w' b rb cap rs k' ∧ Kept [b] w w' ∧ (eats (lets s) (rs.drop k) = true → k' = k + s.size) := by
  have hbs : b < w.heap.size := lt_of_blk hs.blk
  go_enter Tryz.func137, Tryz.ntmps137
  go_wp2
  go_loopw [] (fun w' => ∃ j : Nat, j ≤ s.size ∧ eats ((lets s).drop j) (rs.drop (k + j)) = eats (lets s) (rs.drop k) ∧ w'.heap[w.heap.size]? = some (.stringIter s j) ∧ Scan w' b rb cap rs (k + j) ∧ Kept [b] w w') (fun w' => s.size - w'.iterPos w.heap.size)
  case atStart => exact ⟨0, by omega, rfl, by rw [World.iter_heap], hs.alloc _, (Kept.refl _ _).alloc _⟩
  case round =>
    obtain ⟨j, hj, HR, hit, hsj, hkp⟩ := hrel
    have hR : Hid (eats ((lets s).drop j) (rs.drop (k + j)) = eats (lets s) (rs.drop k)) := HR
    have HI : Hid (wr.heap[w.heap.size]? = some (.stringIter s j)) := hit
    clear HR
    by_cases hlt : j < s.size
    · have hnx : ∀ ty, (Instr.next (.pointer (some ⟨w.heap.size, 0, none⟩)) true ty).run Tryz.prog wr = _ := fun ty => Lib.run_next_ascii_at wr w.heap.size s j ty hit hlt (ha j hlt)
      clear hit
      have hsj' := hsj.iterAt HI.out (j + 1)
      have hkp' := hkp.iterAt (Nat.le_refl _) s (j + 1)
      have hit' := Lib.iterAt_heap _ _ _ _ (j + 1) HI.out
      have HI' : Hid ((wr.iterAt w.heap.size s (j + 1)).heap[w.heap.size]? = some (.stringIter s (j + 1))) := hit'
      have hL := lets_drop s j hlt
      have HL : Hid ((lets s).drop j = (s[j]).toNat :: (lets s).drop (j + 1)) := hL
      clear hit' hL
      go_wp2_with fail
      by_cases hp : peekOf (rs.drop (k + j)) = ((s[j]).toNat : Int)
      · refine (take_yes b rb cap (k + j) rs _ _ hsj' hp (by omega)).mono ?_
        rintro e w1 ⟨rfl, g1, g2⟩
        have hr1 : Hid (eats ((lets s).drop (j + 1)) (rs.drop (k + j + 1)) = eats (lets s) (rs.drop k)) := by
          cases hd : rs.drop (k + j) with
          | nil => rw [hd] at hp; simp only [peekOf] at hp; omega
          | cons c t =>
            rw [drop_succ_of_cons hd, ← hR.out, hd, HL.out, eats]
            rw [hd] at hp
            have : (s[j]).toNat = c := by simp only [peekOf] at hp; omega
            simp [this, Hid]
        have hi1 : Hid (w1.heap[w.heap.size]? = some (.stringIter s (j + 1))) := by
          rw [g2.block w.heap.size (lt_of_blk HI'.out) (by simp; omega)]; exact HI'.out
        clear hp hnx
        go_wp2
        go_roundw
        case rel => exact ⟨j + 1, by omega, hr1.out, hi1.out, g1, hkp'.trans g2⟩
        case measure =>
          simp only [World.iterPos, hi1.out, HI.out]
          omega
      · refine (take_no b rb cap (k + j) rs _ _ hsj' hp).mono ?_
        rintro e w1 ⟨rfl, n1, rfl⟩
        have hend : Hid (eats (lets s) (rs.drop k) = false) := by
          rw [← hR.out, HL.out]
          cases hd : rs.drop (k + j) with
          | nil => exact rfl
          | cons c t =>
            rw [hd] at hp
            have : ¬ (s[j]).toNat = c := by simp only [peekOf] at hp; omega
            simp [eats, this, Hid]
        clear hp hnx hR HL
        go_wp2
        go_ret
        exact ⟨_, by rw [hend.out]; rfl, hsj'.drewN _, hkp'.drewN _, by rw [hend.out]; intro h; cases h⟩
    · have hj' : j = s.size := by omega
      have hnx : ∀ ty, (Instr.next (.pointer (some ⟨w.heap.size, 0, none⟩)) true ty).run Tryz.prog wr = _ := fun ty => Lib.run_next_end_at wr w.heap.size s j ty hit hlt
      have hend : Hid (eats (lets s) (rs.drop k) = true) := by
        rw [← hR.out, List.drop_eq_nil_of_le (by simp [lets]; omega)]; exact rfl
      have HJ : Hid (j = s.size) := hj'
      clear hit hj' hR
      go_wp2
      go_ret
      exact ⟨_, by rw [hend.out]; rfl, hsj, hkp, fun _ => by rw [HJ.out]⟩

def numberedP (l : List Nat) : Option (Int × Nat) :=
  match four l with
  | none => none
  | some v => if lowB v then none else if highB v then
      (if eats [92, 117] (l.drop 4) then (match four (l.drop 6) with
        | none => none
        | some m => if lowB m then some (65536 + (v - 55296) * 1024 + (m - 56320), 10) else none) else none)
    else some (v, 4)

theorem letsU : lets ⟨#[92, 117]⟩ = [92, 117] := by decide
theorem asciiU : ∀ i (h : i < (⟨#[92, 117]⟩ : ByteArray).size), ((⟨#[92, 117]⟩ : ByteArray)[i]'h).toNat < 128 := by decide

set_option maxHeartbeats 400000 in
theorem numbered_any (b rb cap k : Nat) (rs : List Nat) (w : World) (hs : Scan w b rb cap rs k) :
    Calls Tryz.prog 142 #[.pointer (some ⟨b, 0, none⟩)] w fun e w' => 
      ∃ k', Scan w' b rb cap rs k' ∧ Kept [b] w w' ∧ ((∃ v n, numberedP (rs.drop k) = some (v, n) ∧ 0 ≤ v ∧ v ≤ 1114111 ∧ k' = k + n ∧ e = .returned (.tuple #[.int .i32 v, .bool true])) ∨
        (numberedP (rs.drop k) = none ∧ e = .returned (.tuple #[.int .i32 0, .bool false]))) := by
  go_enter Tryz.func142, Tryz.ntmps142
  go_wp2_with fail
  refine (fourDigits_any b rb cap k rs _ hs).mono ?_
  rintro e w1 ⟨k1, g1, g2, ⟨v, hv, hv0, hv1, rfl, rfl⟩ | ⟨hv, rfl⟩⟩
  · have HV : Hid (four (rs.drop k) = some v) := hv
    clear hv
    go_wp2_with fail
    refine (isLow_any _ _).mono ?_
    rintro e w2 ⟨rfl, rfl⟩
    cases hlo : lowB v with
    | true =>
      have hend : Hid (numberedP (rs.drop k) = none) := by unfold numberedP; rw [HV.out]; simp [hlo, Hid]
      clear hlo HV
      go_wp2
      go_ret2
      exact ⟨_, g1, g2, Or.inr ⟨hend.out, rfl⟩⟩
    | false =>
      have HL : Hid (lowB v = false) := hlo
      clear hlo
      go_wp2_with fail
      refine (isHigh_any _ _).mono ?_
      rintro e w2 ⟨rfl, rfl⟩
      cases hhi : highB v with
      | false =>
        have hend : Hid (numberedP (rs.drop k) = some (v, 4)) := by unfold numberedP; rw [HV.out]; simp [HL.out, hhi, Hid]
        clear hhi HL HV
        go_wp2
        go_ret2
        exact ⟨_, g1, g2, Or.inl ⟨v, 4, hend.out, hv0, by omega, rfl, rfl⟩⟩
      | true =>
        have HH : Hid (highB v = true) := hhi
        have hvb : 55296 ≤ v ∧ v < 56320 := by simpa [highB] using hhi
        obtain ⟨hvb0, hvb1⟩ := hvb
        clear hhi
        go_wp2_with fail
        refine (takeWord_any b rb cap (k + 4) rs ⟨#[92, 117]⟩ _ g1 asciiU (by decide)).mono ?_
        rintro e w2 ⟨k2, rfl, g3, g4, hk2⟩
        rw [letsU] at *
        cases he : eats [92, 117] (rs.drop (k + 4)) with
        | false =>
          have hend : Hid (numberedP (rs.drop k) = none) := by unfold numberedP; rw [HV.out]; simp [HL.out, HH.out, List.drop_drop, he, Hid]
          clear he HL HV HH hk2
          go_wp2
          go_ret2
          exact ⟨_, g3, g2.trans g4, Or.inr ⟨hend.out, rfl⟩⟩
        | true =>
          have HE : Hid (eats [92, 117] (rs.drop (k + 4)) = true) := he
          obtain rfl : k2 = k + 6 := hk2 he
          clear he hk2
          go_wp2_with fail
          refine (fourDigits_any b rb cap (k + 6) rs _ g3).mono ?_
          rintro e w3 ⟨k3, g5, g6, ⟨m, hm, hm0, hm1, rfl, rfl⟩ | ⟨hm, rfl⟩⟩
          · have HM : Hid (four (rs.drop (k + 6)) = some m) := hm
            clear hm
            go_wp2_with fail
            refine (isLow_any _ _).mono ?_
            rintro e w4 ⟨rfl, rfl⟩
            cases hlm : lowB m with
            | false =>
              have hend : Hid (numberedP (rs.drop k) = none) := by unfold numberedP; rw [HV.out]; simp [HL.out, HH.out, List.drop_drop, HE.out, HM.out, hlm, Hid]
              clear hlm HL HV HH HE HM
              go_wp2
              go_ret2
              exact ⟨_, g5, (g2.trans g4).trans g6, Or.inr ⟨hend.out, rfl⟩⟩
            | true =>
              have hmb : 56320 ≤ m ∧ m ≤ 57343 := by simpa [lowB] using hlm
              obtain ⟨hmb0, hmb1⟩ := hmb
              have hend : Hid (numberedP (rs.drop k) = some (65536 + (v - 55296) * 1024 + (m - 56320), 10)) := by unfold numberedP; rw [HV.out]; simp [HL.out, HH.out, List.drop_drop, HE.out, HM.out, hlm, Hid]
              clear hlm HL HV HH HE HM
              go_wp2
              go_ret2
              refine ⟨_, g5, (g2.trans g4).trans g6, Or.inl ⟨_, 10, hend.out, by omega, by omega, by omega, ?_⟩⟩
              rfl
          · have hend : Hid (numberedP (rs.drop k) = none) := by unfold numberedP; rw [HV.out]; simp [HL.out, HH.out, List.drop_drop, HE.out, hm, Hid]
            clear HL HV HH HE hm
            go_wp2
            go_ret2
            exact ⟨_, g5, (g2.trans g4).trans g6, Or.inr ⟨hend.out, rfl⟩⟩
  · have hend : Hid (numberedP (rs.drop k) = none) := by unfold numberedP; rw [hv]; exact rfl
    clear hv
    go_wp2
    go_ret2
    exact ⟨_, g1, g2, Or.inr ⟨hend.out, rfl⟩⟩

def escapeP : List Nat → Option (Int × Nat)
  | [] => none
  | c :: t => if ((c : Int) == 34) then some ((c : Int), 1) else if ((c : Int) == 92) then some ((c : Int), 1) else if ((c : Int) == 47) then some ((c : Int), 1)
    else if ((c : Int) == 98) then some (8, 1) else if ((c : Int) == 102) then some (12, 1) else if ((c : Int) == 110) then some (10, 1)
    else if ((c : Int) == 114) then some (13, 1) else if ((c : Int) == 116) then some (9, 1)
    else if ((c : Int) == 117) then (match numberedP t with | some (v, n) => some (v, n + 1) | none => none) else none

theorem esc_yes {e : Ending} {w w' : World} {b rb cap k k' : Nat} {rs : List Nat} (v : Int) (n : Nat) (g1 : Scan w' b rb cap rs k') (g2 : Kept [b] w w') (h : escapeP (rs.drop k) = some (v, n)) (h0 : 0 ≤ v) (h1 : v ≤ 1114111) (hk : k' = k + n)
    (he : e = .returned (.tuple #[.int .i32 v, .bool true])) :
    ∃ k', Scan w' b rb cap rs k' ∧ Kept [b] w w' ∧ ((∃ v n, escapeP (rs.drop k) = some (v, n) ∧ 0 ≤ v ∧ v ≤ 1114111 ∧ k' = k + n ∧ e = .returned (.tuple #[.int .i32 v, .bool true])) ∨
        (escapeP (rs.drop k) = none ∧ e = .returned (.tuple #[.int .i32 0, .bool false]))) := ⟨k', g1, g2, Or.inl ⟨v, n, h, h0, h1, hk, he⟩⟩
theorem esc_no {e : Ending} {w w' : World} {b rb cap k k' : Nat} {rs : List Nat} (g1 : Scan w' b rb cap rs k') (g2 : Kept [b] w w') (h : escapeP (rs.drop k) = none)
    (he : e = .returned (.tuple #[.int .i32 0, .bool false])) :
    ∃ k', Scan w' b rb cap rs k' ∧ Kept [b] w w' ∧ ((∃ v n, escapeP (rs.drop k) = some (v, n) ∧ 0 ≤ v ∧ v ≤ 1114111 ∧ k' = k + n ∧ e = .returned (.tuple #[.int .i32 v, .bool true])) ∨
        (escapeP (rs.drop k) = none ∧ e = .returned (.tuple #[.int .i32 0, .bool false]))) := ⟨k', g1, g2, Or.inr ⟨h, he⟩⟩

set_option maxHeartbeats 1000000 in
theorem escape_any (b rb cap k : Nat) (rs : List Nat) (w : World) (hs : Scan w b rb cap rs k) :
    Calls Tryz.prog 134 #[.pointer (some ⟨b, 0, none⟩)] w fun e w' => 
      ∃ k', Scan w' b rb cap rs k' ∧ Kept [b] w w' ∧ ((∃ v n, escapeP (rs.drop k) = some (v, n) ∧ 0 ≤ v ∧ v ≤ 1114111 ∧ k' = k + n ∧ e = .returned (.tuple #[.int .i32 v, .bool true])) ∨
        (escapeP (rs.drop k) = none ∧ e = .returned (.tuple #[.int .i32 0, .bool false]))) := by
  go_enter Tryz.func134, Tryz.ntmps134
  go_wp2_with fail
  refine (next_any b rb cap k rs _ hs).mono ?_
  rintro e w1 ⟨rfl, g1, g2⟩
  cases hd : rs.drop k with
  | nil =>
    have HD : Hid (rs.drop k = []) := hd
    clear hd
    rw [show peekOf [] = -1 from rfl]
    go_wp2
    go_ret2
    exact esc_no g1 g2 (by rw [HD.out]; rfl) rfl
  | cons c t =>
    have hl := lt_of_cons hd
    have HD : Hid (rs.drop k = c :: t) := hd
    rw [Nat.min_eq_left (by omega)] at g1
    rw [show peekOf (c :: t) = (c : Int) from rfl]
    clear hd
    by_cases hu : ((c : Int) == 117) = true
    · have hc : c = 117 := by have := eq_of_beq hu; omega
      subst hc
      clear hu
      go_wp2_with fail
      refine (numbered_any b rb cap (k + 1) rs _ g1).mono ?_
      rintro e w2 ⟨k2, g3, g4, ⟨v, n, hv, hv0, hv1, rfl, rfl⟩ | ⟨hv, rfl⟩⟩
      · have HV : Hid (numberedP t = some (v, n)) := by rw [drop_succ_of_cons HD.out] at hv; exact hv
        clear hv
        go_wp2
        go_ret2
        exact esc_yes v (n + 1) g3 (g2.trans g4) (by rw [HD.out]; simp [escapeP, HV.out]) hv0 hv1 (by omega) rfl
      · have HV : Hid (numberedP t = none) := by rw [drop_succ_of_cons HD.out] at hv; exact hv
        clear hv
        go_wp2
        go_ret2
        exact esc_no g3 (g2.trans g4) (by rw [HD.out]; simp [escapeP, HV.out]) rfl
    · have hu' : ((c : Int) == 117) = false := by simpa using hu
      clear hu
      go_wp2
      all_goals go_ret2
      · exact esc_yes (c : Int) 1 g1 g2 (by rw [HD.out]; simp only [escapeP, *]; rfl) (by omega) (by have := eq_of_beq ‹((c : Int) == 34) = true›; omega) rfl rfl
      · exact esc_yes (c : Int) 1 g1 g2 (by rw [HD.out]; simp only [escapeP, *]; rfl) (by omega) (by have := eq_of_beq ‹((c : Int) == 92) = true›; omega) rfl rfl
      · exact esc_yes (c : Int) 1 g1 g2 (by rw [HD.out]; simp only [escapeP, *]; rfl) (by omega) (by have := eq_of_beq ‹((c : Int) == 47) = true›; omega) rfl rfl
      · exact esc_yes 8 1 g1 g2 (by rw [HD.out]; simp only [escapeP, *]; rfl) (by omega) (by omega) rfl rfl
      · exact esc_yes 12 1 g1 g2 (by rw [HD.out]; simp only [escapeP, *]; rfl) (by omega) (by omega) rfl rfl
      · exact esc_yes 10 1 g1 g2 (by rw [HD.out]; simp only [escapeP, *]; rfl) (by omega) (by omega) rfl rfl
      · exact esc_yes 13 1 g1 g2 (by rw [HD.out]; simp only [escapeP, *]; rfl) (by omega) (by omega) rfl rfl
      · exact esc_yes 9 1 g1 g2 (by rw [HD.out]; simp only [escapeP, *]; rfl) (by omega) (by omega) rfl rfl
      · exact esc_no g1 g2 (by rw [HD.out]; simp only [escapeP, *]; rfl) rfl
end Go.Proofs.YtkkipnihdiabpaaGreatDoor
