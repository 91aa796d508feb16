/- The reference's characters, walked: how many bytes a character in UTF-8 has. -/
import Derived.Test.YtdfbhjgpkokebaaGreatDoorRefA
namespace Go.Proofs.YtdfbhjgpkokebaaGreatDoor
open Go.RowKit

def contRun : Nat → Int → List Nat → Option Int
  | 0, v, _ => some v
  | _ + 1, _, [] => none
  | m + 1, v, c :: t => if 128 ≤ c ∧ c ≤ 191 then contRun m (64 * v + (c : Int) - 128) t else none
def charFin (n least : Int) (o : Option Int) : Int := match o with
  | none => 0
  | some v => if v < least ∨ 1114111 < v ∨ (55296 ≤ v ∧ v ≤ 57343) then 0 else n
/-- how many bytes the character has that begins here; 0: none does -/
def charP : List Nat → Int
  | [] => 0
  | b :: t => if b < 128 then 1 else if 194 ≤ b ∧ b < 224 then charFin 2 128 (contRun 1 ((b : Int) - 192) t)
    else if 224 ≤ b ∧ b < 240 then charFin 3 2048 (contRun 2 ((b : Int) - 224) t)
    else if 240 ≤ b ∧ b < 245 then charFin 4 65536 (contRun 3 ((b : Int) - 240) t) else 0

theorem cont_bd {v c : Int} {j : Nat} (h0 : 0 ≤ v) (h : v < 32 * 64 ^ j) (hc : 128 ≤ c) (hc' : c ≤ 191) : 0 ≤ 64 * v + c - 128 ∧ 64 * v + c - 128 < 32 * 64 ^ (j + 1) := by
  have : (64 : Int) ^ (j + 1) = 64 ^ j * 64 := by rw [Int.pow_succ]
  omega
theorem cont_top {v : Int} {j : Nat} (hj : j ≤ 3) (h : v < 32 * 64 ^ j) : v < 8388608 := by
  have : j = 0 ∨ j = 1 ∨ j = 2 ∨ j = 3 := by omega
  rcases this with rfl | rfl | rfl | rfl <;> simp at h <;> omega

theorem charFin_bad {n least v : Int} (h : v < least ∨ 1114111 < v ∨ (55296 ≤ v ∧ v ≤ 57343)) : charFin n least (some v) = 0 := by unfold charFin; simp only; rw [if_pos h]
theorem charFin_good {n least v : Int} (h : ¬ (v < least ∨ 1114111 < v ∨ (55296 ≤ v ∧ v ≤ 57343))) : charFin n least (some v) = n := by unfold charFin; simp only; rw [if_neg h]

set_option maxHeartbeats 4000000 in
set_option maxRecDepth 100000 in
theorem char_multi (s : ByteArray) (k : Nat) (w : World) (hs : s.size ≤ 2000000) (hk : k < s.size) (m : Nat) (least base : Int) (hm : (m = 1 ∧ least = 128 ∧ base = 192 ∧ 194 ≤ (s[k]).toNat ∧ (s[k]).toNat < 224) ∨ (m = 2 ∧ least = 2048 ∧ base = 224 ∧ 224 ≤ (s[k]).toNat ∧ (s[k]).toNat < 240) ∨ (m = 3 ∧ least = 65536 ∧ base = 240 ∧ 240 ≤ (s[k]).toNat ∧ (s[k]).toNat < 245)) :
    Calls Tryz.prog 80 #[.string s, .int .i64 k] w fun e w' => e = .returned (.int .i64 (charFin ((m : Int) + 1) least (contRun m (((s[k]).toNat : Int) - base) ((lets s).drop (k + 1))))) ∧ w' = w := by
  have hki : (k : Int) < (s.size : Int) := by omega
  rcases hm with ⟨rfl, rfl, rfl, hb0, hb1⟩ | ⟨rfl, rfl, rfl, hb0, hb1⟩ | ⟨rfl, rfl, rfl, hb0, hb1⟩
  · have hb0' : (194 : Int) ≤ ((s[k]).toNat : Int) := by omega
    have hb1' : ((s[k]).toNat : Int) < 224 := by omega
    have hd : decide (((s[k]).toNat : Int) < 128) = false := by simp; omega
    go_enter Tryz.func80, Tryz.ntmps80
    go_wp2
    go_loop [8, 9] (fun vv i => ∃ (j : Nat) (v : Int), j ≤ 1 ∧ i = .int .i64 ((k + 1 + j : Nat) : Int) ∧ vv = .int .i64 v ∧ 0 ≤ v ∧ v < 32 * 64 ^ j ∧ contRun (1 - j) v ((lets s).drop (k + 1 + j)) = contRun 1 (((s[k]).toNat : Int) - 192) ((lets s).drop (k + 1))) (fun _ i => k + 1 + 1 - (intOf i).toNat)
    case atStart => exact ⟨0, _, by omega, by go_num, rfl, by omega, by simp; omega, rfl⟩
    case round =>
      obtain ⟨j, v, hj, rfl, rfl, hv0, hv1, HR⟩ := hrel
      have hR : Hid (contRun (1 - j) v ((lets s).drop (k + 1 + j)) = contRun 1 (((s[k]).toNat : Int) - 192) ((lets s).drop (k + 1))) := HR
      clear HR
      have hvt := cont_top (by omega) hv1
      have ea : ((k + 1 + j : Nat) : Int) = (k : Int) + 1 + (j : Int) := by omega
      by_cases hlt : j < 1
      · have hi2 : (j : Int) < 1 := by omega
        by_cases hin : k + 1 + j < s.size
        · have hi1 : (k : Int) + 1 + (j : Int) < (s.size : Int) := by omega
          have hS : Hid (contRun 1 (((s[k]).toNat : Int) - 192) ((lets s).drop (k + 1)) = if 128 ≤ (s[k + 1 + j]).toNat ∧ (s[k + 1 + j]).toNat ≤ 191 then contRun (1 - (j + 1)) (64 * v + ((s[k + 1 + j]).toNat : Int) - 128) ((lets s).drop (k + 1 + j + 1)) else none) := by
            rw [← hR.out, lets_get hin, show 1 - j = (1 - (j + 1)) + 1 by omega, contRun]; exact rfl
          clear hR
          have hcb : (s[k + 1 + j]).toNat < 256 := (s[k + 1 + j]).toNat_lt
          by_cases hc : 128 ≤ (s[k + 1 + j]).toNat ∧ (s[k + 1 + j]).toNat ≤ 191
          · obtain ⟨hc0, hc1⟩ := hc
            have hc0' : (128 : Int) ≤ ((s[k + 1 + j]).toNat : Int) := by omega
            have hc1' : ((s[k + 1 + j]).toNat : Int) ≤ 191 := by omega
            have hbd := cont_bd hv0 hv1 hc0' hc1'
            have hT : Hid (contRun (1 - (j + 1)) (64 * v + ((s[k + 1 + j]).toNat : Int) - 128) ((lets s).drop (k + 1 + j + 1)) = contRun 1 (((s[k]).toNat : Int) - 192) ((lets s).drop (k + 1))) := by rw [hS.out, if_pos ⟨hc0, hc1⟩]; exact rfl
            have HB : Hid (0 ≤ 64 * v + ((s[k + 1 + j]).toNat : Int) - 128 ∧ 64 * v + ((s[k + 1 + j]).toNat : Int) - 128 < 32 * 64 ^ (j + 1)) := hbd
            clear hS hbd
            go_wp2
            go_round
            case rel => exact ⟨j + 1, _, by omega, by go_num, rfl, HB.out.1, HB.out.2, hT.out⟩
            case measure => simp [intOf]; omega
          · have hE : Hid (contRun 1 (((s[k]).toNat : Int) - 192) ((lets s).drop (k + 1)) = none) := by rw [hS.out, if_neg hc]; exact rfl
            have hcc : ((s[k + 1 + j]).toNat : Int) < 128 ∨ (191 : Int) < ((s[k + 1 + j]).toNat : Int) := by omega
            clear hS hc
            rcases hcc with hcc | hcc
            all_goals
              go_wp2
              go_ret
              exact ⟨by rw [hE.out]; rfl, rfl⟩
        · have hE : Hid (contRun 1 (((s[k]).toNat : Int) - 192) ((lets s).drop (k + 1)) = none) := by
            rw [← hR.out, lets_end (by omega), show 1 - j = (1 - 1 - j) + 1 by omega]; exact rfl
          clear hR
          have hi1 : ¬ (k : Int) + 1 + (j : Int) < (s.size : Int) := by omega
          go_wp2
          go_ret
          exact ⟨by rw [hE.out]; rfl, rfl⟩
      · obtain rfl : j = 1 := by omega
        have hE : Hid (contRun 1 (((s[k]).toNat : Int) - 192) ((lets s).drop (k + 1)) = some v) := by rw [← hR.out]; exact rfl
        clear hR
        by_cases hq : v < 128 ∨ 1114111 < v ∨ (55296 ≤ v ∧ v ≤ 57343)
        · go_wp2
          all_goals go_ret
          all_goals refine ⟨?_, rfl⟩
          all_goals rw [hE.out, charFin_bad hq]
          all_goals first
            | rfl
            | (exfalso; omega)
        · go_wp2
          all_goals go_ret
          all_goals refine ⟨?_, rfl⟩
          all_goals rw [hE.out, charFin_good hq]
          all_goals first
            | rfl
            | (exfalso; omega)
  · have hb0' : (224 : Int) ≤ ((s[k]).toNat : Int) := by omega
    have hb1' : ((s[k]).toNat : Int) < 240 := by omega
    have hd : decide (((s[k]).toNat : Int) < 128) = false := by simp; omega
    go_enter Tryz.func80, Tryz.ntmps80
    go_wp2
    go_loop [8, 9] (fun vv i => ∃ (j : Nat) (v : Int), j ≤ 2 ∧ i = .int .i64 ((k + 1 + j : Nat) : Int) ∧ vv = .int .i64 v ∧ 0 ≤ v ∧ v < 32 * 64 ^ j ∧ contRun (2 - j) v ((lets s).drop (k + 1 + j)) = contRun 2 (((s[k]).toNat : Int) - 224) ((lets s).drop (k + 1))) (fun _ i => k + 1 + 2 - (intOf i).toNat)
    case atStart => exact ⟨0, _, by omega, by go_num, rfl, by omega, by simp; omega, rfl⟩
    case round =>
      obtain ⟨j, v, hj, rfl, rfl, hv0, hv1, HR⟩ := hrel
      have hR : Hid (contRun (2 - j) v ((lets s).drop (k + 1 + j)) = contRun 2 (((s[k]).toNat : Int) - 224) ((lets s).drop (k + 1))) := HR
      clear HR
      have hvt := cont_top (by omega) hv1
      have ea : ((k + 1 + j : Nat) : Int) = (k : Int) + 1 + (j : Int) := by omega
      by_cases hlt : j < 2
      · have hi2 : (j : Int) < 2 := by omega
        by_cases hin : k + 1 + j < s.size
        · have hi1 : (k : Int) + 1 + (j : Int) < (s.size : Int) := by omega
          have hS : Hid (contRun 2 (((s[k]).toNat : Int) - 224) ((lets s).drop (k + 1)) = if 128 ≤ (s[k + 1 + j]).toNat ∧ (s[k + 1 + j]).toNat ≤ 191 then contRun (2 - (j + 1)) (64 * v + ((s[k + 1 + j]).toNat : Int) - 128) ((lets s).drop (k + 1 + j + 1)) else none) := by
            rw [← hR.out, lets_get hin, show 2 - j = (2 - (j + 1)) + 1 by omega, contRun]; exact rfl
          clear hR
          have hcb : (s[k + 1 + j]).toNat < 256 := (s[k + 1 + j]).toNat_lt
          by_cases hc : 128 ≤ (s[k + 1 + j]).toNat ∧ (s[k + 1 + j]).toNat ≤ 191
          · obtain ⟨hc0, hc1⟩ := hc
            have hc0' : (128 : Int) ≤ ((s[k + 1 + j]).toNat : Int) := by omega
            have hc1' : ((s[k + 1 + j]).toNat : Int) ≤ 191 := by omega
            have hbd := cont_bd hv0 hv1 hc0' hc1'
            have hT : Hid (contRun (2 - (j + 1)) (64 * v + ((s[k + 1 + j]).toNat : Int) - 128) ((lets s).drop (k + 1 + j + 1)) = contRun 2 (((s[k]).toNat : Int) - 224) ((lets s).drop (k + 1))) := by rw [hS.out, if_pos ⟨hc0, hc1⟩]; exact rfl
            have HB : Hid (0 ≤ 64 * v + ((s[k + 1 + j]).toNat : Int) - 128 ∧ 64 * v + ((s[k + 1 + j]).toNat : Int) - 128 < 32 * 64 ^ (j + 1)) := hbd
            clear hS hbd
            go_wp2
            go_round
            case rel => exact ⟨j + 1, _, by omega, by go_num, rfl, HB.out.1, HB.out.2, hT.out⟩
            case measure => simp [intOf]; omega
          · have hE : Hid (contRun 2 (((s[k]).toNat : Int) - 224) ((lets s).drop (k + 1)) = none) := by rw [hS.out, if_neg hc]; exact rfl
            have hcc : ((s[k + 1 + j]).toNat : Int) < 128 ∨ (191 : Int) < ((s[k + 1 + j]).toNat : Int) := by omega
            clear hS hc
            rcases hcc with hcc | hcc
            all_goals
              go_wp2
              go_ret
              exact ⟨by rw [hE.out]; rfl, rfl⟩
        · have hE : Hid (contRun 2 (((s[k]).toNat : Int) - 224) ((lets s).drop (k + 1)) = none) := by
            rw [← hR.out, lets_end (by omega), show 2 - j = (2 - 1 - j) + 1 by omega]; exact rfl
          clear hR
          have hi1 : ¬ (k : Int) + 1 + (j : Int) < (s.size : Int) := by omega
          go_wp2
          go_ret
          exact ⟨by rw [hE.out]; rfl, rfl⟩
      · obtain rfl : j = 2 := by omega
        have hE : Hid (contRun 2 (((s[k]).toNat : Int) - 224) ((lets s).drop (k + 1)) = some v) := by rw [← hR.out]; exact rfl
        clear hR
        by_cases hq : v < 2048 ∨ 1114111 < v ∨ (55296 ≤ v ∧ v ≤ 57343)
        · go_wp2
          all_goals go_ret
          all_goals refine ⟨?_, rfl⟩
          all_goals rw [hE.out, charFin_bad hq]
          all_goals first
            | rfl
            | (exfalso; omega)
        · go_wp2
          all_goals go_ret
          all_goals refine ⟨?_, rfl⟩
          all_goals rw [hE.out, charFin_good hq]
          all_goals first
            | rfl
            | (exfalso; omega)
  · have hb0' : (240 : Int) ≤ ((s[k]).toNat : Int) := by omega
    have hb1' : ((s[k]).toNat : Int) < 245 := by omega
    have hd : decide (((s[k]).toNat : Int) < 128) = false := by simp; omega
    go_enter Tryz.func80, Tryz.ntmps80
    go_wp2
    go_loop [8, 9] (fun vv i => ∃ (j : Nat) (v : Int), j ≤ 3 ∧ i = .int .i64 ((k + 1 + j : Nat) : Int) ∧ vv = .int .i64 v ∧ 0 ≤ v ∧ v < 32 * 64 ^ j ∧ contRun (3 - j) v ((lets s).drop (k + 1 + j)) = contRun 3 (((s[k]).toNat : Int) - 240) ((lets s).drop (k + 1))) (fun _ i => k + 1 + 3 - (intOf i).toNat)
    case atStart => exact ⟨0, _, by omega, by go_num, rfl, by omega, by simp; omega, rfl⟩
    case round =>
      obtain ⟨j, v, hj, rfl, rfl, hv0, hv1, HR⟩ := hrel
      have hR : Hid (contRun (3 - j) v ((lets s).drop (k + 1 + j)) = contRun 3 (((s[k]).toNat : Int) - 240) ((lets s).drop (k + 1))) := HR
      clear HR
      have hvt := cont_top (by omega) hv1
      have ea : ((k + 1 + j : Nat) : Int) = (k : Int) + 1 + (j : Int) := by omega
      by_cases hlt : j < 3
      · have hi2 : (j : Int) < 3 := by omega
        by_cases hin : k + 1 + j < s.size
        · have hi1 : (k : Int) + 1 + (j : Int) < (s.size : Int) := by omega
          have hS : Hid (contRun 3 (((s[k]).toNat : Int) - 240) ((lets s).drop (k + 1)) = if 128 ≤ (s[k + 1 + j]).toNat ∧ (s[k + 1 + j]).toNat ≤ 191 then contRun (3 - (j + 1)) (64 * v + ((s[k + 1 + j]).toNat : Int) - 128) ((lets s).drop (k + 1 + j + 1)) else none) := by
            rw [← hR.out, lets_get hin, show 3 - j = (3 - (j + 1)) + 1 by omega, contRun]; exact rfl
          clear hR
          have hcb : (s[k + 1 + j]).toNat < 256 := (s[k + 1 + j]).toNat_lt
          by_cases hc : 128 ≤ (s[k + 1 + j]).toNat ∧ (s[k + 1 + j]).toNat ≤ 191
          · obtain ⟨hc0, hc1⟩ := hc
            have hc0' : (128 : Int) ≤ ((s[k + 1 + j]).toNat : Int) := by omega
            have hc1' : ((s[k + 1 + j]).toNat : Int) ≤ 191 := by omega
            have hbd := cont_bd hv0 hv1 hc0' hc1'
            have hT : Hid (contRun (3 - (j + 1)) (64 * v + ((s[k + 1 + j]).toNat : Int) - 128) ((lets s).drop (k + 1 + j + 1)) = contRun 3 (((s[k]).toNat : Int) - 240) ((lets s).drop (k + 1))) := by rw [hS.out, if_pos ⟨hc0, hc1⟩]; exact rfl
            have HB : Hid (0 ≤ 64 * v + ((s[k + 1 + j]).toNat : Int) - 128 ∧ 64 * v + ((s[k + 1 + j]).toNat : Int) - 128 < 32 * 64 ^ (j + 1)) := hbd
            clear hS hbd
            go_wp2
            go_round
            case rel => exact ⟨j + 1, _, by omega, by go_num, rfl, HB.out.1, HB.out.2, hT.out⟩
            case measure => simp [intOf]; omega
          · have hE : Hid (contRun 3 (((s[k]).toNat : Int) - 240) ((lets s).drop (k + 1)) = none) := by rw [hS.out, if_neg hc]; exact rfl
            have hcc : ((s[k + 1 + j]).toNat : Int) < 128 ∨ (191 : Int) < ((s[k + 1 + j]).toNat : Int) := by omega
            clear hS hc
            rcases hcc with hcc | hcc
            all_goals
              go_wp2
              go_ret
              exact ⟨by rw [hE.out]; rfl, rfl⟩
        · have hE : Hid (contRun 3 (((s[k]).toNat : Int) - 240) ((lets s).drop (k + 1)) = none) := by
            rw [← hR.out, lets_end (by omega), show 3 - j = (3 - 1 - j) + 1 by omega]; exact rfl
          clear hR
          have hi1 : ¬ (k : Int) + 1 + (j : Int) < (s.size : Int) := by omega
          go_wp2
          go_ret
          exact ⟨by rw [hE.out]; rfl, rfl⟩
      · obtain rfl : j = 3 := by omega
        have hE : Hid (contRun 3 (((s[k]).toNat : Int) - 240) ((lets s).drop (k + 1)) = some v) := by rw [← hR.out]; exact rfl
        clear hR
        by_cases hq : v < 65536 ∨ 1114111 < v ∨ (55296 ≤ v ∧ v ≤ 57343)
        · go_wp2
          all_goals go_ret
          all_goals refine ⟨?_, rfl⟩
          all_goals rw [hE.out, charFin_bad hq]
          all_goals first
            | rfl
            | (exfalso; omega)
        · go_wp2
          all_goals go_ret
          all_goals refine ⟨?_, rfl⟩
          all_goals rw [hE.out, charFin_good hq]
          all_goals first
            | rfl
            | (exfalso; omega)
end Go.Proofs.YtdfbhjgpkokebaaGreatDoor
