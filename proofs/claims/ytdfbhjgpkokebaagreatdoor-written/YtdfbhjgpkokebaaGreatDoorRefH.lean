/- The reference's values. -/
import Derived.Test.YtdfbhjgpkokebaaGreatDoorRefG
namespace Go.Proofs.YtdfbhjgpkokebaaGreatDoor
open Go.RowKit

/-- a member, as it stands in memory -/
def rMem (name : ByteArray) (kind : Nat) (s : ByteArray) (n : Int) : Value := .agg #[.string name, .int .u8 (kind : Int), .string s, .int .i64 n]
/-- a piece as a value: kind, text, number; is it one? -/
def valuedP (mark : Nat) (s : ByteArray) : Nat × ByteArray × Int × Bool :=
  if mark = 34 then (115, s, 0, true) else if mark ≠ 119 then (0, ⟨#[]⟩, 0, false)
  else if (s.toList == [116, 114, 117, 101]) = true then (116, ⟨#[]⟩, 0, true)
  else if (s.toList == [102, 97, 108, 115, 101]) = true then (102, ⟨#[]⟩, 0, true)
  else if (s.toList == [110, 117, 108, 108]) = true then (110, ⟨#[]⟩, 0, true)
  else (105, ⟨#[]⟩, (wholeP (lets s)).1, (wholeP (lets s)).2)
def valuedR (p : Nat × ByteArray × Int × Bool) : Value := .tuple #[rMem ⟨#[]⟩ p.1 p.2.1 p.2.2.1, .bool p.2.2.2]

set_option maxHeartbeats 9000000 in
set_option maxRecDepth 100000 in
theorem valued_any (mark : Nat) (s : ByteArray) (w : World) (hs : s.size ≤ 9000000) (_hm : mark < 256) :
    Calls Tryz.prog 53 #[.agg #[.int .u8 mark, .string s]] w fun e w' => Below w.heap.size w w' ∧ e = .returned (valuedR (valuedP mark s)) := by
  go_enter Tryz.func53, Tryz.ntmps53
  by_cases h34 : mark = 34
  · have h34' : ((mark : Int) == 34) = true := by simp; omega
    have hE : Hid (valuedP mark s = (115, s, 0, true)) := by unfold valuedP; rw [if_pos h34]; exact rfl
    go_wp2
    refine bodyPost_ret (v := valuedR (115, s, 0, true)) (by simp [results, Tryz.results53, go_sem, valuedR, rMem]) rfl ⟨?_, by rw [hE.out]⟩
    (repeat (first | exact Below.refl _ _ | refine Below.alloc ?_ (by simp <;> omega) _ | refine Below.setCell ?_ (by simp <;> omega) _))
  · have h34' : ((mark : Int) == 34) = false := by simp; omega
    by_cases hw : mark = 119
    · have hw' : ((mark : Int) != 119) = false := by simp; omega
      cases q1 : (s.toList == [116, 114, 117, 101]) with
      | true =>
        have hE : Hid (valuedP mark s = (116, ⟨#[]⟩, 0, true)) := by unfold valuedP; rw [if_neg h34, if_neg (by omega), if_pos q1]; exact rfl
        go_wp2
        refine bodyPost_ret (v := valuedR (116, ⟨#[]⟩, 0, true)) (by simp [results, Tryz.results53, go_sem, valuedR, rMem]) rfl ⟨?_, by rw [hE.out]⟩
        (repeat (first | exact Below.refl _ _ | refine Below.alloc ?_ (by simp <;> omega) _ | refine Below.setCell ?_ (by simp <;> omega) _))
      | false =>
        cases q2 : (s.toList == [102, 97, 108, 115, 101]) with
        | true =>
          have hE : Hid (valuedP mark s = (102, ⟨#[]⟩, 0, true)) := by unfold valuedP; rw [if_neg h34, if_neg (by omega), if_neg (by simp only [q1]; decide), if_pos q2]; exact rfl
          go_wp2
          refine bodyPost_ret (v := valuedR (102, ⟨#[]⟩, 0, true)) (by simp [results, Tryz.results53, go_sem, valuedR, rMem]) rfl ⟨?_, by rw [hE.out]⟩
          (repeat (first | exact Below.refl _ _ | refine Below.alloc ?_ (by simp <;> omega) _ | refine Below.setCell ?_ (by simp <;> omega) _))
        | false =>
          cases q3 : (s.toList == [110, 117, 108, 108]) with
          | true =>
            have hE : Hid (valuedP mark s = (110, ⟨#[]⟩, 0, true)) := by unfold valuedP; rw [if_neg h34, if_neg (by omega), if_neg (by simp only [q1]; decide), if_neg (by simp only [q2]; decide), if_pos q3]; exact rfl
            go_wp2
            refine bodyPost_ret (v := valuedR (110, ⟨#[]⟩, 0, true)) (by simp [results, Tryz.results53, go_sem, valuedR, rMem]) rfl ⟨?_, by rw [hE.out]⟩
            (repeat (first | exact Below.refl _ _ | refine Below.alloc ?_ (by simp <;> omega) _ | refine Below.setCell ?_ (by simp <;> omega) _))
          | false =>
            have hE : Hid (valuedP mark s = (105, ⟨#[]⟩, (wholeP (lets s)).1, (wholeP (lets s)).2)) := by unfold valuedP; rw [if_neg h34, if_neg (by omega), if_neg (by simp only [q1]; decide), if_neg (by simp only [q2]; decide), if_neg (by simp only [q3]; decide)]; exact rfl
            go_wp2_with fail
            refine (whole_any s _ hs).mono ?_
            rintro e w2 ⟨rfl, rfl⟩
            generalize wholeP (lets s) = r at *
            obtain ⟨n, b⟩ := r
            go_wp2
            refine bodyPost_ret (v := valuedR (105, ⟨#[]⟩, n, b)) (by simp [results, Tryz.results53, go_sem, valuedR, rMem]) rfl ⟨?_, by rw [hE.out]⟩
            (repeat (first | exact Below.refl _ _ | refine Below.alloc ?_ (by simp <;> omega) _ | refine Below.setCell ?_ (by simp <;> omega) _))
    · have hw' : ((mark : Int) != 119) = true := by simp; omega
      have hE : Hid (valuedP mark s = (0, ⟨#[]⟩, 0, false)) := by unfold valuedP; rw [if_neg h34, if_pos hw]; exact rfl
      go_wp2
      refine bodyPost_ret (v := valuedR (0, ⟨#[]⟩, 0, false)) (by simp [results, Tryz.results53, go_sem, valuedR, rMem]) rfl ⟨?_, by rw [hE.out]⟩
      (repeat (first | exact Below.refl _ _ | refine Below.alloc ?_ (by simp <;> omega) _ | refine Below.setCell ?_ (by simp <;> omega) _))
end Go.Proofs.YtdfbhjgpkokebaaGreatDoor
