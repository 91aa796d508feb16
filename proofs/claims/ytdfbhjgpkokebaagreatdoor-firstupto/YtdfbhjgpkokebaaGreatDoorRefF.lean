/- The reference's strings, walked. -/
import Derived.Test.YtdfbhjgpkokebaaGreatDoorRefE
import Derived.Lib.Strings
namespace Go.Proofs.YtdfbhjgpkokebaaGreatDoor
open Go.RowKit

def bytesOf (l : List Nat) : List UInt8 := l.map UInt8.ofNat
/-- what stands between two quotes, in bytes -/
def quotRun : Nat → List UInt8 → List Nat → Option (List UInt8 × List Nat)
  | 0, _, _ => none
  | _ + 1, _, [] => none
  | f + 1, out, c :: t => if c = 34 then some (out, t) else if c = 92 then
      (match escapeP t with | none => none | some (v, n) => quotRun f (out ++ Lib.encodeRune v) (t.drop n))
    else if charP (c :: t) = 0 ∨ c < 32 then none else quotRun f (out ++ bytesOf ((c :: t).take (charP (c :: t)).toNat)) ((c :: t).drop (charP (c :: t)).toNat)

theorem bapp (a b : List UInt8) : (⟨a.toArray⟩ : ByteArray) ++ (⟨b.toArray⟩ : ByteArray) = ⟨(a ++ b).toArray⟩ := by
  apply ByteArray.ext
  simp

theorem bytesOf_map (l : List UInt8) : bytesOf (l.map (·.toNat)) = l := by
  unfold bytesOf
  induction l with
  | nil => rfl
  | cons a t ih => simp only [List.map_cons, ih]; congr 1; exact UInt8.ofNat_toNat
theorem extract_bytes (s : ByteArray) (j n : Nat) : s.extract j (j + n) = ⟨(bytesOf (((lets s).drop j).take n)).toArray⟩ := by
  rw [Lib.extract_eq, show ((lets s).drop j).take n = ((s.data.toList.drop j).take n).map (·.toNat) by unfold lets; rw [List.map_take, List.map_drop], bytesOf_map]
  congr 3
  omega

theorem numberedP_n {l : List Nat} {v : Int} {n : Nat} (h : numberedP l = some (v, n)) : 1 ≤ n ∧ n ≤ 10 := by
  unfold numberedP at h
  split at h
  · cases h
  · split at h
    · cases h
    · split at h
      · split at h
        · split at h
          · cases h
          · split at h
            · simp at h; omega
            · cases h
        · cases h
      · simp at h; omega
theorem escapeP_n {l : List Nat} {v : Int} {n : Nat} (h : escapeP l = some (v, n)) : 1 ≤ n ∧ n ≤ 11 := by
  cases l with
  | nil => cases h
  | cons c t =>
    unfold escapeP at h
    repeat' split at h
    all_goals first
      | (simp at h; omega)
      | (cases h; done)
      | (rename_i hq; simp at h; have := numberedP_n hq; omega)

theorem contRun_len (m : Nat) : ∀ (v : Int) (l : List Nat) (x : Int), contRun m v l = some x → m ≤ l.length := by
  induction m with
  | zero => intro v l x _; omega
  | succ m ih =>
    intro v l x h
    cases l with
    | nil => simp [contRun] at h
    | cons c t =>
      rw [contRun] at h
      split at h
      · have := ih _ _ _ h; simp; omega
      · cases h
theorem charFin_cases (n least : Int) (o : Option Int) : charFin n least o = 0 ∨ (charFin n least o = n ∧ ∃ x, o = some x) := by
  cases o with
  | none => left; rfl
  | some v =>
    by_cases h : v < least ∨ 1114111 < v ∨ (55296 ≤ v ∧ v ≤ 57343)
    · left; exact charFin_bad h
    · right; exact ⟨charFin_good h, v, rfl⟩
theorem charP_n (l : List Nat) : 0 ≤ charP l ∧ charP l ≤ 4 ∧ (charP l ≠ 0 → (charP l).toNat ≤ l.length) := by
  cases l with
  | nil => exact ⟨by decide, by decide, fun h => absurd rfl h⟩
  | cons b t =>
    rw [charP]
    split
    · exact ⟨by decide, by decide, fun _ => by simp⟩
    · split
      · rcases charFin_cases 2 128 (contRun 1 ((b : Int) - 192) t) with h | ⟨h, x, hx⟩
        · rw [h]; exact ⟨by decide, by decide, fun h => absurd rfl h⟩
        · rw [h]; have := contRun_len _ _ _ _ hx; exact ⟨by decide, by decide, fun _ => by simp; omega⟩
      · split
        · rcases charFin_cases 3 2048 (contRun 2 ((b : Int) - 224) t) with h | ⟨h, x, hx⟩
          · rw [h]; exact ⟨by decide, by decide, fun h => absurd rfl h⟩
          · rw [h]; have := contRun_len _ _ _ _ hx; exact ⟨by decide, by decide, fun _ => by simp; omega⟩
        · split
          · rcases charFin_cases 4 65536 (contRun 3 ((b : Int) - 240) t) with h | ⟨h, x, hx⟩
            · rw [h]; exact ⟨by decide, by decide, fun h => absurd rfl h⟩
            · rw [h]; have := contRun_len _ _ _ _ hx; exact ⟨by decide, by decide, fun _ => by simp; omega⟩
          · exact ⟨by decide, by decide, fun h => absurd rfl h⟩

set_option maxHeartbeats 4000000 in
set_option maxRecDepth 100000 in
theorem quoted_any (s : ByteArray) (k : Nat) (w : World) (hs : s.size ≤ 2000000) (hk : k < s.size) :
    Calls Tryz.prog 68 #[.string s, .int .i64 k] w fun e w' => Below w.heap.size w w' ∧
      ((∃ v j, quotRun (s.size + 1) [] ((lets s).drop (k + 1)) = some (v, (lets s).drop j) ∧ k < j ∧ j ≤ s.size ∧ v.length ≤ 4 * s.size ∧ e = .returned (.tuple #[.string ⟨v.toArray⟩, .int .i64 (j : Int)])) ∨
       (quotRun (s.size + 1) [] ((lets s).drop (k + 1)) = none ∧ e = .returned (.tuple #[.string ⟨#[]⟩, .int .i64 (-1)]))) := by
  go_enter Tryz.func68, Tryz.ntmps68
  go_wp2
  go_loopw [6, 7] (fun o i wr => ∃ (j f : Nat) (out : List UInt8), o = .string ⟨out.toArray⟩ ∧ i = .int .i64 (j : Int) ∧ k < j ∧ j ≤ s.size + 12 ∧ s.size + 2 ≤ j + f ∧ out.length ≤ 4 * j ∧ quotRun f out ((lets s).drop j) = quotRun (s.size + 1) [] ((lets s).drop (k + 1)) ∧ Below w.heap.size w wr) (fun _ i _ => s.size + 12 - (intOf i).toNat)
  case atStart => exact ⟨k + 1, s.size + 1, [], rfl, by go_num, by omega, by omega, by omega, by simp, rfl, Below.refl _ _⟩
  case round =>
    obtain ⟨j, f, out, rfl, rfl, hkj, hjs, hjf, hol, HR, hbl⟩ := hrel
    have hR : Hid (quotRun f out ((lets s).drop j) = quotRun (s.size + 1) [] ((lets s).drop (k + 1))) := HR
    clear HR
    by_cases hin : j < s.size
    · obtain ⟨f, rfl⟩ : ∃ f', f = f' + 1 := ⟨f - 1, by omega⟩
      have hin' : (j : Int) < (s.size : Int) := by omega
      have hcb : (s[j]).toNat < 256 := (s[j]).toNat_lt
      have hD : Hid ((lets s).drop j = (s[j]).toNat :: (lets s).drop (j + 1)) := lets_get hin
      by_cases h34 : (s[j]).toNat = 34
      · have hq : (((s[j]).toNat : Int) != 34) = false := by simp; omega
        have hE : Hid (quotRun (s.size + 1) [] ((lets s).drop (k + 1)) = some (out, (lets s).drop (j + 1))) := by rw [← hR.out, hD.out, quotRun, if_pos h34]; exact rfl
        clear hR hD h34
        go_wp2
        go_ret2
        exact ⟨hbl, Or.inl ⟨out, j + 1, hE.out, by omega, by omega, by omega, rfl⟩⟩
      · have hq : (((s[j]).toNat : Int) != 34) = true := by simp; omega
        by_cases h92 : (s[j]).toNat = 92
        · have hq2 : (((s[j]).toNat : Int) == 92) = true := by simp; omega
          have hS : Hid (quotRun (s.size + 1) [] ((lets s).drop (k + 1)) = (match escapeP ((lets s).drop (j + 1)) with | none => none | some (v, n) => quotRun f (out ++ Lib.encodeRune v) (((lets s).drop (j + 1)).drop n))) := by
            rw [← hR.out, hD.out, quotRun, if_neg h34, if_pos h92]; exact rfl
          clear hR hD h34 h92
          go_wp2_with fail
          refine (escaped_any s j _ hs hin).mono ?_
          rintro e w2 ⟨rfl, hb2⟩
          have hbl2 := hbl.trans (hb2.mono hbl.size)
          cases hx : escapeP ((lets s).drop (j + 1)) with
          | none =>
            have hE : Hid (quotRun (s.size + 1) [] ((lets s).drop (k + 1)) = none) := by rw [hS.out, hx]; exact rfl
            rw [show escR ((lets s).drop (j + 1)) = ([], 0) by unfold escR; rw [hx]]
            clear hS hx
            go_wp2
            go_ret2
            exact ⟨hbl2, Or.inr ⟨hE.out, rfl⟩⟩
          | some p =>
            obtain ⟨v, n⟩ := p
            rw [show escR ((lets s).drop (j + 1)) = (Lib.encodeRune v, (n : Int) + 1) by unfold escR; rw [hx]]
            have hn := escapeP_n hx
            have hE : Hid (quotRun f (out ++ Lib.encodeRune v) ((lets s).drop (j + 1 + n)) = quotRun (s.size + 1) [] ((lets s).drop (k + 1))) := by
              rw [hS.out, hx]; simp only [List.drop_drop]; trivial
            have hne : (((n : Int) + 1) == 0) = false := by simp; omega
            have hl4 := Lib.runeCells_le v
            rw [Lib.runeCells_length] at hl4
            clear hS hx
            go_wp2
            go_roundw
            case rel => exact ⟨j + 1 + n, f, out ++ Lib.encodeRune v, by rw [bapp], by go_num, by omega, by omega, by omega, by simp; omega, hE.out, hbl2⟩
            case measure => simp [intOf]; omega
        · have hq2 : (((s[j]).toNat : Int) == 92) = false := by simp; omega
          have hS : Hid (quotRun (s.size + 1) [] ((lets s).drop (k + 1)) = if charP ((lets s).drop j) = 0 ∨ (s[j]).toNat < 32 then none else quotRun f (out ++ bytesOf (((lets s).drop j).take (charP ((lets s).drop j)).toNat)) (((lets s).drop j).drop (charP ((lets s).drop j)).toNat)) := by
            rw [← hR.out, hD.out, quotRun, if_neg h34, if_neg h92]; exact rfl
          clear hR hD h34 h92
          go_wp2_with fail
          refine (char_any s j _ hs hin).mono ?_
          rintro e w2 ⟨rfl, rfl⟩
          have hcp := charP_n ((lets s).drop j)
          generalize charP ((lets s).drop j) = n at *
          by_cases hbad : n = 0 ∨ (s[j]).toNat < 32
          · have hE : Hid (quotRun (s.size + 1) [] ((lets s).drop (k + 1)) = none) := by rw [hS.out, if_pos hbad]; exact rfl
            clear hS
            by_cases h0 : n = 0
            · subst h0
              clear hbad
              go_wp2
              go_ret2
              exact ⟨hbl, Or.inr ⟨hE.out, rfl⟩⟩
            · have h0' : (n == 0) = false := by simpa using h0
              have h32 : ((s[j]).toNat : Int) < 32 := by omega
              clear hbad h0
              go_wp2
              go_ret2
              exact ⟨hbl, Or.inr ⟨hE.out, rfl⟩⟩
          · have hE : Hid (quotRun f (out ++ bytesOf (((lets s).drop j).take n.toNat)) (((lets s).drop j).drop n.toNat) = quotRun (s.size + 1) [] ((lets s).drop (k + 1))) := by rw [hS.out, if_neg hbad]; exact rfl
            have h0' : (n == 0) = false := by simp; omega
            have h32 : ¬ ((s[j]).toNat : Int) < 32 := by omega
            have hlen : n.toNat ≤ s.size - j := by
              have := hcp.2.2 (by omega)
              simpa [lets] using this
            have hn4 : n ≤ 4 := hcp.2.1
            have hn1 : 1 ≤ n := by omega
            have hsz : (j : Int) + n ≤ (s.size : Int) := by omega
            clear hS hbad
            go_wp2
            have hto : ((j : Int) + n).toNat = j + n.toNat := by omega
            have hlt : (bytesOf (((lets s).drop j).take n.toNat)).length ≤ 4 := by simp [bytesOf]; omega
            go_roundw
            case rel => exact ⟨j + n.toNat, f, out ++ bytesOf (((lets s).drop j).take n.toNat), by rw [hto, extract_bytes, bapp], by go_num, by omega, by omega, by omega, by simp only [List.length_append]; omega, by rw [← List.drop_drop]; exact hE.out, hbl⟩
            case measure => simp [intOf]; omega
    · have hE : Hid (quotRun (s.size + 1) [] ((lets s).drop (k + 1)) = none) := by
        rw [← hR.out, lets_end (by omega)]; cases f <;> exact rfl
      have hin' : ¬ (j : Int) < (s.size : Int) := by omega
      clear hR
      go_wp2
      go_ret2
      exact ⟨hbl, Or.inr ⟨hE.out, rfl⟩⟩
end Go.Proofs.YtdfbhjgpkokebaaGreatDoor
