/- Several texts in one. -/
import Derived.Test.YtdfbhjgpkokebaaGreatDoorRefB
import Derived.BigRegion
/- The reference's escapes and strings, walked. -/
namespace Go.Proofs.YtdfbhjgpkokebaaGreatDoor
open Go.RowKit

set_option maxHeartbeats 1000000 in
set_option maxRecDepth 100000 in
theorem char_any (s : ByteArray) (k : Nat) (w : World) (hs : s.size ≤ 2000000) (hk : k < s.size) :
    Calls Tryz.prog 80 #[.string s, .int .i64 k] w fun e w' => e = .returned (.int .i64 (charP ((lets s).drop k))) ∧ w' = w := by
  have hcb : (s[k]).toNat < 256 := (s[k]).toNat_lt
  have hki : (k : Int) < (s.size : Int) := by omega
  rw [lets_get hk]
  rw [charP]
  by_cases h1 : (s[k]).toNat < 128
  · rw [if_pos h1]
    have h1' : ((s[k]).toNat : Int) < 128 := by omega
    go_enter Tryz.func80, Tryz.ntmps80
    go_wp2
    go_ret
    exact ⟨rfl, rfl⟩
  rw [if_neg h1]
  by_cases h2 : 194 ≤ (s[k]).toNat ∧ (s[k]).toNat < 224
  · rw [if_pos h2]
    exact char_multi s k w hs hk 1 128 192 (Or.inl ⟨rfl, rfl, rfl, h2.1, h2.2⟩)
  rw [if_neg h2]
  by_cases h3 : 224 ≤ (s[k]).toNat ∧ (s[k]).toNat < 240
  · rw [if_pos h3]
    exact char_multi s k w hs hk 2 2048 224 (Or.inr (Or.inl ⟨rfl, rfl, rfl, h3.1, h3.2⟩))
  rw [if_neg h3]
  by_cases h4 : 240 ≤ (s[k]).toNat ∧ (s[k]).toNat < 245
  · rw [if_pos h4]
    exact char_multi s k w hs hk 3 65536 240 (Or.inr (Or.inr ⟨rfl, rfl, rfl, h4.1, h4.2⟩))
  rw [if_neg h4]
  have g1 : ¬ ((s[k]).toNat : Int) < 128 := by omega
  have g2 : ((s[k]).toNat : Int) < 194 ∨ (245 : Int) ≤ ((s[k]).toNat : Int) := by omega
  clear h1 h2 h3 h4
  rcases g2 with g2 | g2
  all_goals
    go_enter Tryz.func80, Tryz.ntmps80
    go_wp2
    go_ret
    exact ⟨rfl, rfl⟩
end Go.Proofs.YtdfbhjgpkokebaaGreatDoor
/- The reference's escapes, walked. -/
namespace Go.Proofs.YtdfbhjgpkokebaaGreatDoor
open Go.RowKit

/-- an escape: what it means, and how many bytes it has (0: it is none); the list begins behind the backslash -/
def escR (l : List Nat) : List UInt8 × Int := match escapeP l with | some (v, n) => (Lib.encodeRune v, (n : Int) + 1) | none => ([], 0)

def fromL : List Nat := [34, 92, 47, 98, 102, 110, 114, 116]
def toL : List Int := [34, 92, 47, 8, 12, 10, 13, 9]

theorem esc_simple {c : Nat} {t : List Nat} (i : Nat) (h : i < 8) (hc : c = fromL.getD i 0) : escR (c :: t) = (Lib.encodeRune (toL.getD i 0), 2) := by
  have : i = 0 ∨ i = 1 ∨ i = 2 ∨ i = 3 ∨ i = 4 ∨ i = 5 ∨ i = 6 ∨ i = 7 := by omega
  rcases this with rfl | rfl | rfl | rfl | rfl | rfl | rfl | rfl <;> (simp [fromL] at hc; subst hc; rfl)
theorem esc_other {c : Nat} {t : List Nat} (h : ∀ i, i < 8 → c ≠ fromL.getD i 0) : escR (c :: t) = if ((c : Int) == 117) then (match numberedP t with | some (v, n) => (Lib.encodeRune v, (n : Int) + 2) | none => ([], 0)) else ([], 0) := by
  have h0 := h 0 (by omega); have h1 := h 1 (by omega); have h2 := h 2 (by omega); have h3 := h 3 (by omega)
  have h4 := h 4 (by omega); have h5 := h 5 (by omega); have h6 := h 6 (by omega); have h7 := h 7 (by omega)
  simp [fromL] at h0 h1 h2 h3 h4 h5 h6 h7
  unfold escR escapeP
  have e0 : ((c : Int) == 34) = false := by simp; omega
  have e1 : ((c : Int) == 92) = false := by simp; omega
  have e2 : ((c : Int) == 47) = false := by simp; omega
  have e3 : ((c : Int) == 98) = false := by simp; omega
  have e4 : ((c : Int) == 102) = false := by simp; omega
  have e5 : ((c : Int) == 110) = false := by simp; omega
  have e6 : ((c : Int) == 114) = false := by simp; omega
  have e7 : ((c : Int) == 116) = false := by simp; omega
  simp only [e0, e1, e2, e3, e4, e5, e6, e7]
  by_cases hu : ((c : Int) == 117) = true
  · simp only [hu, if_true, Bool.false_eq_true, if_false]
    cases numberedP t with
    | none => rfl
    | some p => obtain ⟨v, n⟩ := p; simp; omega
  · simp [hu]
end Go.Proofs.YtdfbhjgpkokebaaGreatDoor
