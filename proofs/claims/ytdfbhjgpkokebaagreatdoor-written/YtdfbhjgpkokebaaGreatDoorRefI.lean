/- The reference's members: which may be there. -/
import Derived.Test.YtdfbhjgpkokebaaGreatDoorRefH
namespace Go.Proofs.YtdfbhjgpkokebaaGreatDoor
open Go.RowKit

/-- may a call (or a return) have a member of that name and kind? -/
def fitP (name : List UInt8) (kind : Nat) (call : Bool) : Bool :=
  if (name == [99, 97, 108, 108]) = true then call && ((kind : Int) == 105) else
  if (name == [98, 121]) = true then call && ((kind : Int) == 105) else
  if (name == [97, 114, 103]) = true then call && ((kind : Int) == 105) else
  if (name == [101, 120, 112]) = true then call && ((kind : Int) == 105) else
  if (name == [111, 112]) = true then call && ((kind : Int) == 115) else
  if (name == [107, 101, 121]) = true then call && ((kind : Int) == 115) else
  if (name == [114, 101, 116]) = true then !call && ((kind : Int) == 105) else
  if (name == [118, 97, 108]) = true then !call && ((kind : Int) != 115) else
  false

set_option maxHeartbeats 2000000 in
set_option maxRecDepth 100000 in
theorem fit_any (name : ByteArray) (kind : Nat) (s : ByteArray) (n : Int) (call : Bool) (w : World) (_hk : kind < 256) :
    Calls Tryz.prog 70 #[rMem name kind s n, .bool call] w fun e w' => Below w.heap.size w w' ∧ e = .returned (.bool (fitP name.toList kind call)) := by
  unfold rMem
  go_enter Tryz.func70, Tryz.ntmps70
  cases q1 : (name.toList == [99, 97, 108, 108]) with
  | true =>
    have hE : Hid (fitP name.toList kind call = (call && ((kind : Int) == 105))) := by unfold fitP; rw [if_pos q1]; exact rfl
    cases call
    all_goals
      go_wp2
      go_ret
      refine ⟨by (repeat (first | exact Below.refl _ _ | refine Below.alloc ?_ (by simp <;> omega) _ | refine Below.setCell ?_ (by simp <;> omega) _)), ?_⟩
      rw [hE.out]; rfl
  | false =>
    cases q2 : (name.toList == [98, 121]) with
    | true =>
      have hE : Hid (fitP name.toList kind call = (call && ((kind : Int) == 105))) := by unfold fitP; rw [if_neg (by simp only [q1]; decide), if_pos q2]; exact rfl
      cases call
      all_goals
        go_wp2
        go_ret
        refine ⟨by (repeat (first | exact Below.refl _ _ | refine Below.alloc ?_ (by simp <;> omega) _ | refine Below.setCell ?_ (by simp <;> omega) _)), ?_⟩
        rw [hE.out]; rfl
    | false =>
      cases q3 : (name.toList == [97, 114, 103]) with
      | true =>
        have hE : Hid (fitP name.toList kind call = (call && ((kind : Int) == 105))) := by unfold fitP; rw [if_neg (by simp only [q1]; decide), if_neg (by simp only [q2]; decide), if_pos q3]; exact rfl
        cases call
        all_goals
          go_wp2
          go_ret
          refine ⟨by (repeat (first | exact Below.refl _ _ | refine Below.alloc ?_ (by simp <;> omega) _ | refine Below.setCell ?_ (by simp <;> omega) _)), ?_⟩
          rw [hE.out]; rfl
      | false =>
        cases q4 : (name.toList == [101, 120, 112]) with
        | true =>
          have hE : Hid (fitP name.toList kind call = (call && ((kind : Int) == 105))) := by unfold fitP; rw [if_neg (by simp only [q1]; decide), if_neg (by simp only [q2]; decide), if_neg (by simp only [q3]; decide), if_pos q4]; exact rfl
          cases call
          all_goals
            go_wp2
            go_ret
            refine ⟨by (repeat (first | exact Below.refl _ _ | refine Below.alloc ?_ (by simp <;> omega) _ | refine Below.setCell ?_ (by simp <;> omega) _)), ?_⟩
            rw [hE.out]; rfl
        | false =>
          cases q5 : (name.toList == [111, 112]) with
          | true =>
            have hE : Hid (fitP name.toList kind call = (call && ((kind : Int) == 115))) := by unfold fitP; rw [if_neg (by simp only [q1]; decide), if_neg (by simp only [q2]; decide), if_neg (by simp only [q3]; decide), if_neg (by simp only [q4]; decide), if_pos q5]; exact rfl
            cases call
            all_goals
              go_wp2
              go_ret
              refine ⟨by (repeat (first | exact Below.refl _ _ | refine Below.alloc ?_ (by simp <;> omega) _ | refine Below.setCell ?_ (by simp <;> omega) _)), ?_⟩
              rw [hE.out]; rfl
          | false =>
            cases q6 : (name.toList == [107, 101, 121]) with
            | true =>
              have hE : Hid (fitP name.toList kind call = (call && ((kind : Int) == 115))) := by unfold fitP; rw [if_neg (by simp only [q1]; decide), if_neg (by simp only [q2]; decide), if_neg (by simp only [q3]; decide), if_neg (by simp only [q4]; decide), if_neg (by simp only [q5]; decide), if_pos q6]; exact rfl
              cases call
              all_goals
                go_wp2
                go_ret
                refine ⟨by (repeat (first | exact Below.refl _ _ | refine Below.alloc ?_ (by simp <;> omega) _ | refine Below.setCell ?_ (by simp <;> omega) _)), ?_⟩
                rw [hE.out]; rfl
            | false =>
              cases q7 : (name.toList == [114, 101, 116]) with
              | true =>
                have hE : Hid (fitP name.toList kind call = (!call && ((kind : Int) == 105))) := by unfold fitP; rw [if_neg (by simp only [q1]; decide), if_neg (by simp only [q2]; decide), if_neg (by simp only [q3]; decide), if_neg (by simp only [q4]; decide), if_neg (by simp only [q5]; decide), if_neg (by simp only [q6]; decide), if_pos q7]; exact rfl
                cases call
                all_goals
                  go_wp2
                  go_ret
                  refine ⟨by (repeat (first | exact Below.refl _ _ | refine Below.alloc ?_ (by simp <;> omega) _ | refine Below.setCell ?_ (by simp <;> omega) _)), ?_⟩
                  rw [hE.out]; rfl
              | false =>
                cases q8 : (name.toList == [118, 97, 108]) with
                | true =>
                  have hE : Hid (fitP name.toList kind call = (!call && ((kind : Int) != 115))) := by unfold fitP; rw [if_neg (by simp only [q1]; decide), if_neg (by simp only [q2]; decide), if_neg (by simp only [q3]; decide), if_neg (by simp only [q4]; decide), if_neg (by simp only [q5]; decide), if_neg (by simp only [q6]; decide), if_neg (by simp only [q7]; decide), if_pos q8]; exact rfl
                  cases call
                  all_goals
                    go_wp2
                    go_ret
                    refine ⟨by (repeat (first | exact Below.refl _ _ | refine Below.alloc ?_ (by simp <;> omega) _ | refine Below.setCell ?_ (by simp <;> omega) _)), ?_⟩
                    rw [hE.out]; rfl
                | false =>
                  have hE : Hid (fitP name.toList kind call = false) := by unfold fitP; rw [if_neg (by simp only [q1]; decide), if_neg (by simp only [q2]; decide), if_neg (by simp only [q3]; decide), if_neg (by simp only [q4]; decide), if_neg (by simp only [q5]; decide), if_neg (by simp only [q6]; decide), if_neg (by simp only [q7]; decide), if_neg (by simp only [q8]; decide)]; exact rfl
                  go_wp2
                  go_ret
                  refine ⟨by (repeat (first | exact Below.refl _ _ | refine Below.alloc ?_ (by simp <;> omega) _ | refine Below.setCell ?_ (by simp <;> omega) _)), ?_⟩
                  rw [hE.out]; rfl
end Go.Proofs.YtdfbhjgpkokebaaGreatDoor
