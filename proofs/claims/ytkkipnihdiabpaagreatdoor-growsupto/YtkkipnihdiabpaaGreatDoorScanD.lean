/- The scanner's strings, walked: what stands between two quotes. -/
import Derived.Test.YtkkipnihdiabpaaGreatDoorScanC
import Derived.Test.YtkkipnihdiabpaaGreatDoorShelf
import Derived.BigCall
namespace Go.Proofs.YtkkipnihdiabpaaGreatDoor
open Go.RowKit

theorem Kept.step {S : List Nat} {a w w' : World} {B : Nat} (h : Kept S a w) (k : Below B w w') (hB : a.heap.size ≤ B) : Kept S a w' :=
  ⟨k.os.trans h.os, k.tape.trans h.tape, k.output.trans h.output, Nat.le_trans h.size k.size, fun i hi hn => (k.block i (by omega)).trans (h.block i hi hn)⟩
theorem Scan.below {w w' : World} {b rb cap k B : Nat} {rs : List Nat} (h : Scan w b rb cap rs k) (hb : Below B w w') (h1 : b < B) (h2 : rb < B) : Scan w' b rb cap rs k := by
  obtain ⟨c, t, f, hr, hc⟩ := h.row
  exact ⟨by rw [hb.block b h1]; exact h.blk, ⟨c, t, f, by rw [hb.block rb h2]; exact hr, hc⟩, h.ne, h.le, h.small, h.bd, h.room⟩
theorem Scan.rbLt {w : World} {b rb cap k : Nat} {rs : List Nat} (h : Scan w b rb cap rs k) : rb < w.heap.size := by
  obtain ⟨c, t, f, hr, hc⟩ := h.row; exact lt_of_blk hr
theorem Scan.bLt {w : World} {b rb cap k : Nat} {rs : List Nat} (h : Scan w b rb cap rs k) : b < w.heap.size := lt_of_blk h.blk

theorem builderAt_kept {T e : TypeId} {B b : Nat} {p : Value} {bs : List Value} {w w' : World} {S : List Nat} (h : Lib.BuilderAtF T e B b p bs w) (k : Kept S w w') (hS : ∀ x ∈ S, x < B) : Lib.BuilderAtF T e B b p bs w' := by
  obtain ⟨hB, v, hb, hown, hne⟩ := h
  have nb : b ∉ S := fun hm => by have := hS b hm; omega
  refine ⟨hB, v, (k.block b (lt_of_blk hb) nb).trans hb, ⟨hown.1, ?_⟩, hne⟩
  rcases hown.2 with hn | ⟨g, cap, cur, fz, hv, hbg, hg, rest⟩
  · exact .inl hn
  · have ng : g ∉ S := fun hm => by have := hS g hm; omega
    exact .inr ⟨g, cap, cur, fz, hv, hbg, (k.block g (lt_of_blk hg) ng).trans hg, rest⟩
theorem isBuilder_kept {T e : TypeId} {B b : Nat} {bs : List Value} {w w' : World} {S : List Nat} (h : Lib.IsBuilderF T e B b bs w) (k : Kept S w w') (hS : ∀ x ∈ S, x < B) : Lib.IsBuilderF T e B b bs w' :=
  h.elim (fun x => .inl (builderAt_kept x k hS)) (fun x => .inr (builderAt_kept x k hS))

def textRun : Nat → List UInt8 → List Nat → Option (List UInt8 × List Nat)
  | 0, _, _ => none
  | _ + 1, _, [] => none
  | f + 1, acc, c :: t => if ((c : Int) == 34) then some (acc, t) else if (c : Int) < 32 then none
    else if ((c : Int) == 92) then (match escapeP t with | none => none | some (v, n) => textRun f (acc ++ Lib.encodeRune v) (t.drop n))
    else textRun f (acc ++ Lib.encodeRune c) t
def textP : List Nat → Option (List UInt8 × List Nat)
  | [] => none
  | c :: t => if ((c : Int) == 34) then textRun (t.length + 1) [] t else none

theorem textRun_nil (f : Nat) (acc : List UInt8) : textRun f acc [] = none := by cases f <;> rfl

set_option maxHeartbeats 2000000 in
theorem text_any (b rb cap k : Nat) (rs : List Nat) (w : World) (hs : Scan w b rb cap rs k) :
    Calls Tryz.prog 121 #[.pointer (some ⟨b, 0, none⟩)] w fun e w' =>
      ∃ k', Scan w' b rb cap rs k' ∧ Kept [b] w w' ∧ ((∃ v, textP (rs.drop k) = some (v, rs.drop k') ∧ v.length ≤ 4 * k' ∧ e = .returned (.tuple #[.string ⟨v.toArray⟩, .bool true])) ∨
        (textP (rs.drop k) = none ∧ e = .returned (.tuple #[.string ⟨#[]⟩, .bool false]))) := by
  by_cases hp : peekOf (rs.drop k) = 34
  · have hd : ∃ t, rs.drop k = 34 :: t := by
      cases hd : rs.drop k with
      | nil => rw [hd] at hp; cases hp
      | cons c t => rw [hd] at hp; simp only [peekOf] at hp; exact ⟨t, by rw [show c = 34 by omega]⟩
    obtain ⟨t, hd⟩ := hd
    have HT : Hid (textP (rs.drop k) = textRun (t.length + 1) [] (rs.drop (k + 1))) := by rw [drop_succ_of_cons hd, hd]; exact rfl
    have hlt : Hid (rs.length = k + 1 + t.length) := by
      have := congrArg List.length hd
      have hk := hs.le
      simp at this
      show _ = _
      omega
    clear hd
    have hsm := hs.small
    go_enter Tryz.func121, Tryz.ntmps121
    go_wp2_with fail
    refine (take_yes b rb cap k rs 34 _ hs hp (by omega)).mono ?_
    rintro e w1 ⟨rfl, g1, g2⟩
    clear hp
    go_wp2
    have hb1 := g1.bLt
    have hrb1 := g1.rbLt
    have hbw := hs.bLt
    have hsz1 := g2.size
    go_loopw [] (fun wr => ∃ (j f : Nat) (acc : List UInt8), textRun f acc (rs.drop j) = textP (rs.drop k) ∧ rs.length + 1 ≤ j + f ∧ acc.length ≤ 4 * j ∧ Lib.IsBuilderF 143 5 w1.heap.size w1.heap.size (Lib.byteCells acc) wr ∧ w1.heap.size ≤ wr.heap.size ∧ Scan wr b rb cap rs j ∧ Kept [b] w wr) (fun wr => rs.length - placeOf wr b)
    case atStart =>
      exact ⟨k + 1, t.length + 1, [], HT.out.symm, by rw [hlt.out]; omega, by simp, Lib.IsBuilderF.of (Lib.fresh_isBuilder 143 5 w1), by simp, g1.alloc _, g2.alloc _⟩
    case round =>
      obtain ⟨j, f, acc, hj, hf, hal, hI, hsz, hsj, hkp⟩ := hrel
      have HJ : Hid (textRun f acc (rs.drop j) = textP (rs.drop k)) := hj
      clear hj HT hlt
      have hlej := hsj.le
      obtain ⟨f, rfl⟩ : ∃ f', f = f' + 1 := ⟨f - 1, by omega⟩
      go_wp2_with fail
      refine (next_any b rb cap j rs _ hsj).mono ?_
      rintro e w2 ⟨rfl, g3, g4⟩
      have hI2 := isBuilder_kept hI g4 (by simp; omega)
      have hkp2 := hkp.trans g4
      have hsz2 := Nat.le_trans hsz g4.size
      cases hd : rs.drop j with
      | nil =>
        have HE : Hid (textP (rs.drop k) = none) := by rw [← HJ.out, hd]; exact rfl
        rw [show peekOf [] = -1 from rfl]
        clear hd HJ
        go_wp2
        go_ret2
        exact ⟨_, g3, hkp2, Or.inr ⟨HE.out, rfl⟩⟩
      | cons c t =>
        have hl := lt_of_cons hd
        have HD : Hid (rs.drop j = c :: t) := hd
        have HD1 : Hid (rs.drop (j + 1) = t) := drop_succ_of_cons hd
        have hmem : c ∈ rs := List.mem_of_mem_drop (i := j) (by rw [hd]; simp)
        rw [Nat.min_eq_left (by omega)] at g3
        rw [show peekOf (c :: t) = (c : Int) from rfl]
        clear hd
        by_cases h34 : ((c : Int) == 34) = true
        · have HE : Hid (textP (rs.drop k) = some (acc, rs.drop (j + 1))) := by rw [← HJ.out, HD.out, HD1.out, textRun, if_pos h34]; exact rfl
          clear HJ HD HD1
          go_wp2_with (go_at_call 66; refine (Tryz.Builder_String_any_k w1.heap.size w1.heap.size acc _ hI2 hsz2).mono ?_)
          rintro e w3 ⟨rfl, _, b1, _⟩
          go_wp2
          go_ret2
          exact ⟨j + 1, g3.below b1 (by omega) (by omega), hkp2.step b1 (by omega), Or.inl ⟨acc, HE.out, by omega, rfl⟩⟩
        · have h34' : ((c : Int) == 34) = false := by simpa using h34
          clear h34
          by_cases h32 : (c : Int) < 32
          · have HE : Hid (textP (rs.drop k) = none) := by rw [← HJ.out, HD.out, textRun, if_neg (by simp [h34']), if_pos h32]; exact rfl
            clear HJ HD HD1
            go_wp2
            go_ret2
            exact ⟨_, g3, hkp2, Or.inr ⟨HE.out, rfl⟩⟩
          · by_cases h92 : ((c : Int) == 92) = true
            · have HS : Hid (textP (rs.drop k) = (match escapeP t with | none => none | some (v, n) => textRun f (acc ++ Lib.encodeRune v) (t.drop n))) := by
                rw [← HJ.out, HD.out, textRun, if_neg (by simp [h34']), if_neg h32, if_pos h92]; exact rfl
              clear HJ HD
              go_wp2_with fail
              refine (escape_any b rb cap (j + 1) rs _ g3).mono ?_
              rintro e w3 ⟨k3, g5, g6, ⟨v, n, hv, hv0, hv1, rfl, rfl⟩ | ⟨hv, rfl⟩⟩
              · have hI3 := isBuilder_kept hI2 g6 (by simp; omega)
                have hsz3 := Nat.le_trans hsz2 g6.size
                have HS' : Hid (textRun f (acc ++ Lib.encodeRune v) (rs.drop (j + 1 + n)) = textP (rs.drop k)) := by
                  rw [HD1.out] at hv
                  rw [HS.out, hv, ← List.drop_drop, HD1.out]; exact rfl
                clear HS HD1 hv
                go_wp2_with (go_at_call 135; refine (Tryz.Builder_WriteRune_k w1.heap.size w1.heap.size _ v (by omega) (by omega) _ hI3 (by rw [Lib.byteCells_length]; omega) hsz3).mono ?_)
                rintro e w4 ⟨rfl, h1, b1, _⟩
                have hl4 := Lib.runeCells_le v
                rw [Lib.runeCells_length] at hl4
                have g7 := g5.below b1 (by omega) (by omega)
                go_wp2
                go_roundw
                case rel =>
                  refine ⟨j + 1 + n, f, acc ++ Lib.encodeRune v, HS'.out, by omega, by simp; omega, ?_, Nat.le_trans hsz3 b1.size, g7, (hkp2.trans g6).step b1 (by omega)⟩
                  rw [Lib.byteCells_append, Lib.byteCells_encodeRune]; exact Or.inr h1
                case measure =>
                  rw [g7.place, hsj.place]; omega
              · have HE : Hid (textP (rs.drop k) = none) := by rw [HD1.out] at hv; rw [HS.out, hv]; exact rfl
                clear HS hv HD1
                go_wp2
                go_ret2
                exact ⟨_, g5, hkp2.trans g6, Or.inr ⟨HE.out, rfl⟩⟩
            · have h92' : ((c : Int) == 92) = false := by simpa using h92
              have HS' : Hid (textRun f (acc ++ Lib.encodeRune c) (rs.drop (j + 1)) = textP (rs.drop k)) := by
                rw [HD1.out, ← HJ.out, HD.out]
                show _ = textRun (f + 1) acc (c :: t)
                rw [textRun, if_neg (by simp [h34']), if_neg h32, if_neg (by simp [h92'])]
              clear HJ HD HD1 h92
              have hcb : (c : Int) ≤ 2147483647 := by
                have := hsj.bd c hmem
                omega
              go_wp2_with (go_at_call 135; refine (Tryz.Builder_WriteRune_k w1.heap.size w1.heap.size _ (c : Int) (by omega) (by omega) _ hI2 (by rw [Lib.byteCells_length]; omega) hsz2).mono ?_)
              rintro e w4 ⟨rfl, h1, b1, _⟩
              have hl4 := Lib.runeCells_le (c : Int)
              rw [Lib.runeCells_length] at hl4
              have g7 := g3.below b1 (by omega) (by omega)
              go_wp2
              go_roundw
              case rel =>
                refine ⟨j + 1, f, acc ++ Lib.encodeRune c, HS'.out, by omega, by simp; omega, ?_, Nat.le_trans hsz2 b1.size, g7, hkp2.step b1 (by omega)⟩
                rw [Lib.byteCells_append, Lib.byteCells_encodeRune]; exact Or.inr h1
              case measure =>
                rw [g7.place, hsj.place]; omega
  · have HT : Hid (textP (rs.drop k) = none) := by
      cases hd : rs.drop k with
      | nil => exact rfl
      | cons c t => rw [hd] at hp; simp only [peekOf] at hp; simp [textP, hp, Hid]
    go_enter Tryz.func121, Tryz.ntmps121
    go_wp2_with fail
    refine (take_no b rb cap k rs 34 _ hs hp).mono ?_
    rintro e w1 ⟨rfl, n, rfl⟩
    clear hp
    go_wp2
    go_ret2
    exact ⟨k, hs.drewN n, (Kept.refl _ _).drewN n, Or.inr ⟨HT.out, rfl⟩⟩
end Go.Proofs.YtkkipnihdiabpaaGreatDoor
