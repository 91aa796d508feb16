/- The reference's small questions: a byte in a text; the number that a text is. -/
import Derived.Test.YtdfbhjgpkokebaaGreatDoorRefF
namespace Go.Proofs.YtdfbhjgpkokebaaGreatDoor
open Go.RowKit

/-- a byte stands in a text -/
def hasP (c : Nat) : List Nat → Bool
  | [] => false
  | x :: t => c == x || hasP c t

set_option maxHeartbeats 1000000 in
theorem has_any (s : ByteArray) (c : Nat) (w : World) (hs : s.size ≤ 9000000) (_hc : c < 256) :
    Calls Tryz.prog 56 #[.string s, .int .u8 c] w fun e w' => e = .returned (.bool (hasP c (lets s))) ∧ w' = w := by
  go_enter Tryz.func56, Tryz.ntmps56
  go_wp2
  go_loop [5] (fun i => ∃ (j : Nat), j ≤ s.size ∧ i = .int .i64 (j : Int) ∧ hasP c ((lets s).drop j) = hasP c (lets s)) (fun i => s.size - (intOf i).toNat)
  case atStart => exact ⟨0, by omega, by simp, rfl⟩
  case round =>
    obtain ⟨j, hj, rfl, HR⟩ := hrel
    have hR : Hid (hasP c ((lets s).drop j) = hasP c (lets s)) := HR
    clear HR
    by_cases hin : j < s.size
    · have hD := lets_get hin
      have hcb : (s[j]).toNat < 256 := (s[j]).toNat_lt
      have hin' : (j : Int) < (s.size : Int) := by omega
      have hS : Hid (hasP c (lets s) = (c == (s[j]).toNat || hasP c ((lets s).drop (j + 1)))) := by
        rw [← hR.out, hD, hasP]; exact rfl
      clear hR hD
      by_cases hq : (s[j]).toNat = c
      · have hq' : (((s[j]).toNat : Int) == (c : Int)) = true := by simp; omega
        have hE : Hid (hasP c (lets s) = true) := by rw [hS.out, hq]; simp [Hid]
        clear hS
        go_wp2
        go_ret
        exact ⟨by rw [hE.out]; rfl, rfl⟩
      · have hq' : (((s[j]).toNat : Int) == (c : Int)) = false := by simp; omega
        have hE : Hid (hasP c ((lets s).drop (j + 1)) = hasP c (lets s)) := by rw [hS.out, show (c == (s[j]).toNat) = false by simp; omega]; simp [Hid]
        clear hS
        go_wp2
        go_round
        case rel => exact ⟨j + 1, by omega, by go_num, hE.out⟩
        case measure => simp [intOf]; omega
    · have hE : Hid (hasP c (lets s) = false) := by rw [← hR.out, lets_end (by omega)]; exact rfl
      have hin' : ¬ (j : Int) < (s.size : Int) := by omega
      clear hR
      go_wp2
      go_ret
      exact ⟨by rw [hE.out]; rfl, rfl⟩

/-- a number's digits, held below 0 -/
def wholeRun : Int → List Nat → Option Int
  | n, [] => some n
  | n, c :: t => if (c : Int) - 48 < 0 ∨ 9 < (c : Int) - 48 then none else if n < (-9223372036854775808 + ((c : Int) - 48)).tdiv 10 then none else wholeRun (10 * n - ((c : Int) - 48)) t
def wholeTail (minus : Bool) (t : List Nat) : Int × Bool :=
  if t.length < 1 ∨ 19 < t.length ∨ (1 < t.length ∧ t.headD 0 = 48) then (0, false)
  else match wholeRun 0 t with
    | none => (0, false)
    | some n => if minus then (n, true) else (if n = -9223372036854775808 then n else -n, decide (-9223372036854775808 < n))
/-- the number that a text is; false: it is none of 64 bits -/
def wholeP (l : List Nat) : Int × Bool := if l.headD 0 = 45 then wholeTail true l.tail else wholeTail false l

theorem lets_head {s : ByteArray} (h : 0 < s.size) : (lets s).headD 0 = (s[0]).toNat := by
  have := lets_get h
  rw [List.drop_zero] at this
  rw [this]; rfl
theorem lets_length (s : ByteArray) : (lets s).length = s.size := by simp [lets]

theorem wholeTail_bad {b : Bool} {t : ByteArray} (h : t.size < 1 ∨ 19 < t.size ∨ (1 < t.size ∧ ∃ h : 0 < t.size, (t[0]).toNat = 48)) : wholeTail b (lets t) = (0, false) := by
  rw [wholeTail, if_pos]
  rw [lets_length]
  rcases h with h | h | ⟨h, h', h''⟩
  · exact Or.inl h
  · exact Or.inr (Or.inl h)
  · exact Or.inr (Or.inr ⟨h, by rw [lets_head h', h'']⟩)
theorem wholeTail_good {b : Bool} {t : ByteArray} (h1 : 1 ≤ t.size) (h2 : t.size ≤ 19) (h3 : 1 < t.size → (t[0]).toNat = 48 → False) : wholeTail b (lets t) = match wholeRun 0 (lets t) with
    | none => (0, false)
    | some n => if b then (n, true) else (if n = -9223372036854775808 then n else -n, decide (-9223372036854775808 < n)) := by
  rw [wholeTail, if_neg]
  rw [lets_length]
  rintro (h | h | ⟨h, h'⟩)
  · omega
  · omega
  · rw [lets_head (by omega)] at h'
    exact h3 h h'

set_option maxHeartbeats 9000000 in
set_option maxRecDepth 100000 in
theorem whole_any (s : ByteArray) (w : World) (hs : s.size ≤ 9000000) :
    Calls Tryz.prog 69 #[.string s] w fun e w' => e = .returned (.tuple #[.int .i64 (wholeP (lets s)).1, .bool (wholeP (lets s)).2]) ∧ w' = w := by
  go_enter Tryz.func69, Tryz.ntmps69
  by_cases h0 : 0 < s.size
  · have h0' : (s.size : Int) > 0 := by omega
    have hcb : (s[0]).toNat < 256 := (s[0]).toNat_lt
    by_cases hm : (s[0]).toNat = 45
    · have hm' : (((s[0]).toNat : Int) == 45) = true := by simp; omega
      have hW0 : Hid (wholeP (lets s) = wholeTail true (lets s).tail) := by unfold wholeP; rw [lets_head h0, if_pos hm]; exact rfl
      have htl : (lets s).tail = lets (s.extract 1 s.size) := by rw [lets, lets, Lib.extract_data, ← List.map_tail, ← List.drop_one, List.take_of_length_le (by simp)]
      have htz : (s.extract 1 s.size).size = s.size - 1 := by simp
      rw [htl] at hW0
      clear htl
      go_wp2
      all_goals (generalize s.extract 1 s.size = t at *)
      all_goals first
        | go_ret2
          refine ⟨?_, rfl⟩
          have hE : wholeP (lets s) = (0, false) := by
            rw [hW0.out]
            apply wholeTail_bad
            first
              | (left; omega)
              | (right; left; omega)
              | (right; right; refine ⟨by omega, by omega, ?_⟩; rename_i hx; simp at hx; omega)
          rw [hE]; rfl
        | skip
      all_goals
        have hW : Hid (wholeP (lets s) = match wholeRun 0 (lets t) with | none => (0, false) | some n => (n, true)) := by
          rw [hW0.out, wholeTail_good]
          · exact rfl
          · omega
          · omega
          · intro hx1 hx2
            first | omega | (rename_i hx; simp at hx; omega)
      all_goals clear hW0
      all_goals
        go_loop [5, 6] (fun n i => ∃ (j : Nat) (acc : Int), j ≤ t.size ∧ i = .int .i64 (j : Int) ∧ n = .int .i64 acc ∧ -9223372036854775808 ≤ acc ∧ acc ≤ 0 ∧ wholeRun acc ((lets t).drop j) = wholeRun 0 (lets t)) (fun _ i => t.size - (intOf i).toNat)
        case atStart => exact ⟨0, 0, by omega, rfl, rfl, by omega, by omega, rfl⟩
        case round =>
          obtain ⟨j, acc, hj, rfl, rfl, ha0, ha1, HR⟩ := hrel
          have hR : Hid (wholeRun acc ((lets t).drop j) = wholeRun 0 (lets t)) := HR
          clear HR
          by_cases hin : j < t.size
          · have hD := lets_get hin
            have hcb2 : (t[j]).toNat < 256 := (t[j]).toNat_lt
            have hin' : (j : Int) < (t.size : Int) := by omega
            have hS : Hid (wholeRun 0 (lets t) = if ((t[j]).toNat : Int) - 48 < 0 ∨ 9 < ((t[j]).toNat : Int) - 48 then none else if acc < (-9223372036854775808 + (((t[j]).toNat : Int) - 48)).tdiv 10 then none else wholeRun (10 * acc - (((t[j]).toNat : Int) - 48)) ((lets t).drop (j + 1))) := by
              rw [← hR.out, hD, wholeRun]; exact rfl
            clear hR hD
            by_cases hd1 : ((t[j]).toNat : Int) - 48 < 0
            · have hE : Hid (wholeP (lets s) = (0, false)) := by rw [hW.out, hS.out, if_pos (Or.inl hd1)]; exact rfl
              clear hS hW
              go_wp2
              go_ret2
              exact ⟨by rw [hE.out]; rfl, rfl⟩
            · by_cases hd2 : 9 < ((t[j]).toNat : Int) - 48
              · have hE : Hid (wholeP (lets s) = (0, false)) := by rw [hW.out, hS.out, if_pos (Or.inr hd2)]; exact rfl
                clear hS hW
                go_wp2
                go_ret2
                exact ⟨by rw [hE.out]; rfl, rfl⟩
              · have hq : (-9223372036854775808 + (((t[j]).toNat : Int) - 48)).tdiv 10 = -((9223372036854775808 - (((t[j]).toNat : Int) - 48)) / 10) := by
                  rw [show -9223372036854775808 + (((t[j]).toNat : Int) - 48) = -(9223372036854775808 - (((t[j]).toNat : Int) - 48)) by omega, Int.neg_tdiv, Int.tdiv_eq_ediv_of_nonneg (by omega)]
                by_cases hd3 : acc < (-9223372036854775808 + (((t[j]).toNat : Int) - 48)).tdiv 10
                · have hE : Hid (wholeP (lets s) = (0, false)) := by rw [hW.out, hS.out, if_neg (by omega), if_pos hd3]; exact rfl
                  clear hS hW
                  go_wp2
                  go_ret2
                  exact ⟨by rw [hE.out]; rfl, rfl⟩
                · have hE : Hid (wholeRun (10 * acc - (((t[j]).toNat : Int) - 48)) ((lets t).drop (j + 1)) = wholeRun 0 (lets t)) := by rw [hS.out, if_neg (by omega), if_neg hd3]; exact rfl
                  have hb1 : -9223372036854775808 ≤ 10 * acc - (((t[j]).toNat : Int) - 48) := by omega
                  have hb2 : -9223372036854775808 ≤ 10 * acc := by omega
                  clear hS
                  go_wp2
                  go_round
                  case rel => exact ⟨j + 1, _, by omega, by go_num, by go_num, by omega, by omega, hE.out⟩
                  case measure => simp [intOf]; omega
          · have hin' : ¬ (j : Int) < (t.size : Int) := by omega
            have hX : wholeRun 0 (lets t) = some acc := by rw [← hR.out, lets_end (by omega), wholeRun]
            clear hR
            have hE : Hid (wholeP (lets s) = (acc, true)) := by rw [hW.out, hX]; exact rfl
            clear hW hX
            go_wp2
            go_ret2
            exact ⟨by rw [hE.out]; rfl, rfl⟩

    · have hm' : (((s[0]).toNat : Int) == 45) = false := by simp; omega
      have hW0 : Hid (wholeP (lets s) = wholeTail false (lets s)) := by unfold wholeP; rw [lets_head h0, if_neg hm]; exact rfl
      go_wp2
      all_goals first
        | go_ret2
          refine ⟨?_, rfl⟩
          have hE : wholeP (lets s) = (0, false) := by
            rw [hW0.out]
            apply wholeTail_bad
            first
              | (left; omega)
              | (right; left; omega)
              | (right; right; refine ⟨by omega, by omega, ?_⟩; rename_i hx; simp at hx; omega)
          rw [hE]; rfl
        | skip
      all_goals
        have hW : Hid (wholeP (lets s) = match wholeRun 0 (lets s) with | none => (0, false) | some n => (if n = -9223372036854775808 then n else -n, decide (-9223372036854775808 < n))) := by
          rw [hW0.out, wholeTail_good]
          · exact rfl
          · omega
          · omega
          · intro hx1 hx2
            first | omega | (rename_i hx; simp at hx; omega) | (rename_i hx _; simp at hx; omega) | (rename_i hx _ _; simp at hx; omega)
      all_goals clear hW0
      all_goals
        go_loop [5, 6] (fun n i => ∃ (j : Nat) (acc : Int), j ≤ s.size ∧ i = .int .i64 (j : Int) ∧ n = .int .i64 acc ∧ -9223372036854775808 ≤ acc ∧ acc ≤ 0 ∧ wholeRun acc ((lets s).drop j) = wholeRun 0 (lets s)) (fun _ i => s.size - (intOf i).toNat)
        case atStart => exact ⟨0, 0, by omega, rfl, rfl, by omega, by omega, rfl⟩
        case round =>
          obtain ⟨j, acc, hj, rfl, rfl, ha0, ha1, HR⟩ := hrel
          have hR : Hid (wholeRun acc ((lets s).drop j) = wholeRun 0 (lets s)) := HR
          clear HR
          by_cases hin : j < s.size
          · have hD := lets_get hin
            have hcb2 : (s[j]).toNat < 256 := (s[j]).toNat_lt
            have hin' : (j : Int) < (s.size : Int) := by omega
            have hS : Hid (wholeRun 0 (lets s) = if ((s[j]).toNat : Int) - 48 < 0 ∨ 9 < ((s[j]).toNat : Int) - 48 then none else if acc < (-9223372036854775808 + (((s[j]).toNat : Int) - 48)).tdiv 10 then none else wholeRun (10 * acc - (((s[j]).toNat : Int) - 48)) ((lets s).drop (j + 1))) := by
              rw [← hR.out, hD, wholeRun]; exact rfl
            clear hR hD
            by_cases hd1 : ((s[j]).toNat : Int) - 48 < 0
            · have hE : Hid (wholeP (lets s) = (0, false)) := by rw [hW.out, hS.out, if_pos (Or.inl hd1)]; exact rfl
              clear hS hW
              go_wp2
              go_ret2
              exact ⟨by rw [hE.out]; rfl, rfl⟩
            · by_cases hd2 : 9 < ((s[j]).toNat : Int) - 48
              · have hE : Hid (wholeP (lets s) = (0, false)) := by rw [hW.out, hS.out, if_pos (Or.inr hd2)]; exact rfl
                clear hS hW
                go_wp2
                go_ret2
                exact ⟨by rw [hE.out]; rfl, rfl⟩
              · have hq : (-9223372036854775808 + (((s[j]).toNat : Int) - 48)).tdiv 10 = -((9223372036854775808 - (((s[j]).toNat : Int) - 48)) / 10) := by
                  rw [show -9223372036854775808 + (((s[j]).toNat : Int) - 48) = -(9223372036854775808 - (((s[j]).toNat : Int) - 48)) by omega, Int.neg_tdiv, Int.tdiv_eq_ediv_of_nonneg (by omega)]
                by_cases hd3 : acc < (-9223372036854775808 + (((s[j]).toNat : Int) - 48)).tdiv 10
                · have hE : Hid (wholeP (lets s) = (0, false)) := by rw [hW.out, hS.out, if_neg (by omega), if_pos hd3]; exact rfl
                  clear hS hW
                  go_wp2
                  go_ret2
                  exact ⟨by rw [hE.out]; rfl, rfl⟩
                · have hE : Hid (wholeRun (10 * acc - (((s[j]).toNat : Int) - 48)) ((lets s).drop (j + 1)) = wholeRun 0 (lets s)) := by rw [hS.out, if_neg (by omega), if_neg hd3]; exact rfl
                  have hb1 : -9223372036854775808 ≤ 10 * acc - (((s[j]).toNat : Int) - 48) := by omega
                  have hb2 : -9223372036854775808 ≤ 10 * acc := by omega
                  clear hS
                  go_wp2
                  go_round
                  case rel => exact ⟨j + 1, _, by omega, by go_num, by go_num, by omega, by omega, hE.out⟩
                  case measure => simp [intOf]; omega
          · have hin' : ¬ (j : Int) < (s.size : Int) := by omega
            have hX : wholeRun 0 (lets s) = some acc := by rw [← hR.out, lets_end (by omega), wholeRun]
            clear hR
            by_cases hmin : acc = -9223372036854775808
            · subst hmin
              have hE : Hid (wholeP (lets s) = (-9223372036854775808, false)) := by rw [hW.out, hX]; exact rfl
              clear hW hX
              go_wp2
              go_ret2
              rw [show wrap64 9223372036854775808 = -9223372036854775808 by unfold wrap64; omega]
              exact ⟨by rw [hE.out]; rfl, rfl⟩
            · have hE : Hid (wholeP (lets s) = (-acc, true)) := by rw [hW.out, hX]; simp [hmin, Hid]; omega
              have hgt : -9223372036854775808 < acc := by omega
              clear hW hX hmin
              go_wp2
              go_ret2
              exact ⟨by rw [hE.out]; rfl, rfl⟩
  · have h0' : ¬ (s.size : Int) > 0 := by omega
    have hE : Hid (wholeP (lets s) = (0, false)) := by
      rw [show lets s = [] from lets_end (k := 0) (by omega)]; exact rfl
    go_wp2
    go_ret2
    exact ⟨by rw [hE.out]; rfl, rfl⟩
end Go.Proofs.YtdfbhjgpkokebaaGreatDoor
