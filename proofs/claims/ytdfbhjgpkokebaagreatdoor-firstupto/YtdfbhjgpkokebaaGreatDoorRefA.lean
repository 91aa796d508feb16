/- The reference's reading of a line, walked: hexadecimal digits, a character in UTF-8. -/
import Derived.Test.YtdfbhjgpkokebaaGreatDoorScanC
import Derived.Lib.RuneBytes
import Derived.Laws.BytesArg
namespace Go.Proofs.YtdfbhjgpkokebaaGreatDoor
open Go.RowKit

theorem lets_get {s : ByteArray} {k : Nat} (h : k < s.size) : (lets s).drop k = (s[k]).toNat :: (lets s).drop (k + 1) := lets_drop s k h
theorem lets_end {s : ByteArray} {k : Nat} (h : s.size ≤ k) : (lets s).drop k = [] := List.drop_eq_nil_of_le (by simpa [lets] using h)

/-- four hexadecimal digits; -1: they are none -/
def fourR (l : List Nat) : Int := match four l with | some v => v | none => -1

theorem hexV_dig {c : Int} (h : 48 ≤ c) (h' : c ≤ 57) : hexV c = c - 48 ∧ hexB c = true := by
  constructor
  · unfold hexV; rw [if_pos ⟨h, h'⟩]
  · unfold hexB; simp; omega
theorem hexV_low {c : Int} (h : 97 ≤ c) (h' : c ≤ 102) : hexV c = c - 97 + 10 ∧ hexB c = true := by
  constructor
  · unfold hexV; rw [if_neg (by omega), if_pos ⟨h, h'⟩]
  · unfold hexB; simp; omega
theorem hexV_up {c : Int} (h : 65 ≤ c) (h' : c ≤ 70) : hexV c = c - 65 + 10 ∧ hexB c = true := by
  constructor
  · unfold hexV; rw [if_neg (by omega), if_neg (by omega), if_pos ⟨h, h'⟩]
  · unfold hexB; simp; omega
theorem hexB_no {c : Int} (h1 : ¬ (48 ≤ c ∧ c ≤ 57)) (h2 : ¬ (97 ≤ c ∧ c ≤ 102)) (h3 : ¬ (65 ≤ c ∧ c ≤ 70)) : hexB c = false := by
  unfold hexB; simp; omega

theorem four_step {L : List Nat} {F : Option Int} {acc c x : Int} {m : Nat} (hS : F = if hexB c then hexRun m (acc * 16 + hexV c) L else none) (hb : hexB c = true) (hx : x = acc * 16 + hexV c) : hexRun m x L = F := by rw [hS, if_pos hb, hx]
theorem four_bd {acc c x : Int} {j : Nat} (h0 : 0 ≤ acc) (h : acc < 16 ^ j) (hx : x = acc * 16 + hexV c) : 0 ≤ x ∧ x < 16 ^ (j + 1) := by
  have := hexV_bd c
  subst hx
  exact ⟨by omega, acc_up h this.1 this.2⟩
theorem four_no {F : Option Int} {acc c : Int} {m : Nat} {L : List Nat} (hS : F = if hexB c then hexRun m (acc * 16 + hexV c) L else none) (hb : hexB c = false) : F = none := by rw [hS, hb]; rfl

set_option maxHeartbeats 1000000 in
theorem rfour_any (s : ByteArray) (k : Nat) (w : World) (hs : s.size ≤ 2000000) (hk : k ≤ 4000000) :
    Calls Tryz.prog 86 #[.string s, .int .i64 k] w fun e w' => e = .returned (.int .i64 (fourR ((lets s).drop k))) ∧ w' = w := by
  go_enter Tryz.func86, Tryz.ntmps86
  go_wp2
  go_loop [5, 6] (fun n i => ∃ (j : Nat) (acc : Int), j ≤ 4 ∧ i = .int .i64 ((k + j : Nat) : Int) ∧ n = .int .i64 acc ∧ 0 ≤ acc ∧ acc < 16 ^ j ∧ hexRun (4 - j) acc ((lets s).drop (k + j)) = four ((lets s).drop k)) (fun _ i => k + 4 - (intOf i).toNat)
  case atStart => exact ⟨0, 0, by omega, by simp, rfl, by omega, by decide, rfl⟩
  case round =>
    obtain ⟨j, acc, hj, rfl, rfl, ha0, ha1, HR⟩ := hrel
    have hR : Hid (hexRun (4 - j) acc ((lets s).drop (k + j)) = four ((lets s).drop k)) := HR
    clear HR
    by_cases hlt : j < 4
    · have hab := acc_bd hlt ha1
      have ea : ((k + j : Nat) : Int) = (k : Int) + (j : Int) := by omega
      by_cases hin : k + j < s.size
      · have hD := lets_get hin
        have hcb : (s[k + j]).toNat < 256 := (s[k + j]).toNat_lt
        have hS : Hid (four ((lets s).drop k) = if hexB ((s[k + j]).toNat : Int) then hexRun (4 - (j + 1)) (acc * 16 + hexV ((s[k + j]).toNat : Int)) ((lets s).drop (k + j + 1)) else none) := by
          rw [← hR.out, hD, show 4 - j = (4 - (j + 1)) + 1 by omega, hexRun]; exact rfl
        clear hR hD
        have hi1 : (k : Int) + (j : Int) < (s.size : Int) := by omega
        have hi2 : (j : Int) < 4 := by omega
        go_wp2
        · have hh := hexV_dig (c := ((s[k + j]).toNat : Int)) (by omega) (by omega)
          have hx : 16 * acc + ((s[k + j]).toNat : Int) - 48 = acc * 16 + hexV ((s[k + j]).toNat : Int) := by rw [hh.1]; omega
          have hbd := four_bd ha0 ha1 hx
          go_round
          case rel => exact ⟨j + 1, _, by omega, by go_num, rfl, hbd.1, hbd.2, four_step hS.out hh.2 hx⟩
          case measure => simp [intOf]; omega
        · have hh := hexV_low (c := ((s[k + j]).toNat : Int)) (by omega) (by omega)
          have hx : 16 * acc + ((s[k + j]).toNat : Int) - 97 + 10 = acc * 16 + hexV ((s[k + j]).toNat : Int) := by rw [hh.1]; omega
          have hbd := four_bd ha0 ha1 hx
          go_round
          case rel => exact ⟨j + 1, _, by omega, by go_num, rfl, hbd.1, hbd.2, four_step hS.out hh.2 hx⟩
          case measure => simp [intOf]; omega
        · go_ret
          exact ⟨by unfold fourR; rw [four_no hS.out (hexB_no (by omega) (by omega) (by omega))]; rfl, rfl⟩
        · have hh := hexV_up (c := ((s[k + j]).toNat : Int)) (by omega) (by omega)
          have hx : 16 * acc + ((s[k + j]).toNat : Int) - 65 + 10 = acc * 16 + hexV ((s[k + j]).toNat : Int) := by rw [hh.1]; omega
          have hbd := four_bd ha0 ha1 hx
          go_round
          case rel => exact ⟨j + 1, _, by omega, by go_num, rfl, hbd.1, hbd.2, four_step hS.out hh.2 hx⟩
          case measure => simp [intOf]; omega
        · go_ret
          exact ⟨by unfold fourR; rw [four_no hS.out (hexB_no (by omega) (by omega) (by omega))]; rfl, rfl⟩
        · go_ret
          exact ⟨by unfold fourR; rw [four_no hS.out (hexB_no (by omega) (by omega) (by omega))]; rfl, rfl⟩
        · go_ret
          exact ⟨by unfold fourR; rw [four_no hS.out (hexB_no (by omega) (by omega) (by omega))]; rfl, rfl⟩
      · have hE : Hid (four ((lets s).drop k) = none) := by
          rw [← hR.out, lets_end (by omega), show 4 - j = (3 - j) + 1 by omega]; exact rfl
        clear hR
        go_wp2
        go_ret
        exact ⟨by unfold fourR; rw [hE.out]; rfl, rfl⟩
    · obtain rfl : j = 4 := by omega
      have hE : Hid (four ((lets s).drop k) = some acc) := by rw [← hR.out]; exact rfl
      clear hR
      go_wp2
      go_ret
      exact ⟨by unfold fourR; rw [hE.out]; rfl, rfl⟩

theorem four_cells (w : World) (zs : List Int) : ∀ i, i < zs.length → (w.alloc (.cells (zs.map (Value.int .u8)).toArray 5)).cell? ⟨w.heap.size, 0 + i, none⟩ = some (.int .u8 (zs.getD i 0)) := by
  intro i hi
  have hb : (w.alloc (.cells (zs.map (Value.int .u8)).toArray 5)).heap[w.heap.size]? = some (.cells (zs.map (Value.int .u8)).toArray 5) := by
    show (w.heap.push _)[w.heap.size]? = _; simp
  rw [cell_of_blk hb, Nat.zero_add]
  simp [List.getElem?_eq_getElem hi, List.getD]

set_option maxHeartbeats 2000000 in
set_option maxRecDepth 100000 in
theorem shown_any (n : Int) (w : World) (h0 : 0 ≤ n) (h1 : n ≤ 1114111) (hs : n < 55296 ∨ 57343 < n) :
    Calls Tryz.prog 87 #[.int .i64 n] w fun e w' => e = .returned (.string ⟨(Lib.encodeRune n).toArray⟩) ∧ Below w.heap.size w w' := by
  by_cases a1 : n < 128
  · clear hs
    have hcv := run_convert_bytes_arg (P := Tryz.prog) (w.alloc (.cells #[.int .u8 (n)] 5)) 148 5 Tryz.underlying148 Tryz.underlying5 w.heap.size 0 1 1 [n] rfl (four_cells w [n]) 9 Tryz.underlying9
    rw [show strOfNums [n] = ⟨(Lib.encodeRune n).toArray⟩ by unfold Lib.encodeRune; rw [Lib.encodeRuneZ_one h0 (by omega)]; rfl] at hcv
    go_enter Tryz.func87, Tryz.ntmps87
    go_wp2
    go_ret
    exact ⟨rfl, (Below.refl _ _).alloc (Nat.le_refl _) _⟩
  by_cases a2 : n < 2048
  · clear hs
    have hcv := run_convert_bytes_arg (P := Tryz.prog) (w.alloc (.cells #[.int .u8 (192 + n / 64), .int .u8 (128 + n % 64)] 5)) 148 5 Tryz.underlying148 Tryz.underlying5 w.heap.size 0 2 2 [192 + n / 64, 128 + n % 64] rfl (four_cells w [192 + n / 64, 128 + n % 64]) 9 Tryz.underlying9
    rw [show strOfNums [192 + n / 64, 128 + n % 64] = ⟨(Lib.encodeRune n).toArray⟩ by unfold Lib.encodeRune; rw [Lib.encodeRuneZ_two (by omega) (by omega)]; rfl] at hcv
    go_enter Tryz.func87, Tryz.ntmps87
    go_wp2
    go_ret
    exact ⟨rfl, (Below.refl _ _).alloc (Nat.le_refl _) _⟩
  by_cases a3 : n < 65536
  · have hcv := run_convert_bytes_arg (P := Tryz.prog) (w.alloc (.cells #[.int .u8 (224 + n / 4096), .int .u8 (128 + n / 64 % 64), .int .u8 (128 + n % 64)] 5)) 148 5 Tryz.underlying148 Tryz.underlying5 w.heap.size 0 3 3 [224 + n / 4096, 128 + n / 64 % 64, 128 + n % 64] rfl (four_cells w [224 + n / 4096, 128 + n / 64 % 64, 128 + n % 64]) 9 Tryz.underlying9
    rw [show strOfNums [224 + n / 4096, 128 + n / 64 % 64, 128 + n % 64] = ⟨(Lib.encodeRune n).toArray⟩ by unfold Lib.encodeRune; rw [Lib.encodeRuneZ_three (by omega)]; rfl] at hcv
    clear hs
    go_enter Tryz.func87, Tryz.ntmps87
    go_wp2
    go_ret
    exact ⟨rfl, (Below.refl _ _).alloc (Nat.le_refl _) _⟩
  · clear hs
    have hcv := run_convert_bytes_arg (P := Tryz.prog) (w.alloc (.cells #[.int .u8 (240 + n / 262144), .int .u8 (128 + n / 4096 % 64), .int .u8 (128 + n / 64 % 64), .int .u8 (128 + n % 64)] 5)) 148 5 Tryz.underlying148 Tryz.underlying5 w.heap.size 0 4 4 [240 + n / 262144, 128 + n / 4096 % 64, 128 + n / 64 % 64, 128 + n % 64] rfl (four_cells w [240 + n / 262144, 128 + n / 4096 % 64, 128 + n / 64 % 64, 128 + n % 64]) 9 Tryz.underlying9
    rw [show strOfNums [240 + n / 262144, 128 + n / 4096 % 64, 128 + n / 64 % 64, 128 + n % 64] = ⟨(Lib.encodeRune n).toArray⟩ by unfold Lib.encodeRune; rw [Lib.encodeRuneZ_four (by omega) h1]; rfl] at hcv
    go_enter Tryz.func87, Tryz.ntmps87
    go_wp2
    go_ret
    exact ⟨rfl, (Below.refl _ _).alloc (Nat.le_refl _) _⟩
end Go.Proofs.YtdfbhjgpkokebaaGreatDoor
