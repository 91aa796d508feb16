/- The reference's table of operations, walked. -/
import Derived.Test.YtdfbhjgpkokebaaGreatDoorRefI
namespace Go.Proofs.YtdfbhjgpkokebaaGreatDoor
open Go.RowKit

/-- what an operation needs, and what it gives: over the model's name, a blank and the operation's -/
def needsP (l : List UInt8) : List UInt8 × List UInt8 × Bool :=
  if (l == [114, 101, 103, 105, 115, 116, 101, 114, 32, 114, 101, 97, 100]) = true then ([], [105], true) else
  if (l == [114, 101, 103, 105, 115, 116, 101, 114, 32, 119, 114, 105, 116, 101]) = true then ([97], [110], true) else
  if (l == [113, 117, 101, 117, 101, 32, 101, 110, 113]) = true then ([97], [110], true) else
  if (l == [114, 101, 103, 105, 115, 116, 101, 114, 32, 99, 97, 115]) = true then ([97, 101], [98], true) else
  if (l == [107, 118, 32, 103, 101, 116]) = true then ([107], [105, 110], true) else
  if (l == [107, 118, 32, 112, 117, 116]) = true then ([107, 97], [110], true) else
  if (l == [107, 118, 32, 100, 101, 108]) = true then ([107], [98], true) else
  if (l == [115, 101, 116, 32, 97, 100, 100]) = true then ([107], [98], true) else
  if (l == [115, 101, 116, 32, 114, 101, 109]) = true then ([107], [98], true) else
  if (l == [115, 101, 116, 32, 104, 97, 115]) = true then ([107], [98], true) else
  if (l == [113, 117, 101, 117, 101, 32, 100, 101, 113]) = true then ([], [105, 110], true) else
  if (l == [108, 111, 99, 107, 32, 97, 99, 113]) = true then ([], [98], true) else
  if (l == [108, 111, 99, 107, 32, 114, 101, 108]) = true then ([], [98], true) else
  ([], [], false)
def needsR (p : List UInt8 × List UInt8 × Bool) : Value := .tuple #[.string ⟨p.1.toArray⟩, .string ⟨p.2.1.toArray⟩, .bool p.2.2]

set_option maxHeartbeats 4000000 in
set_option maxRecDepth 100000 in
theorem needs_any (m n : ByteArray) (w : World) (hm : m.size ≤ 9000000) (hn : n.size ≤ 9000000) :
    Calls Tryz.prog 55 #[.string m, .string n] w fun e w' => w' = w ∧ e = .returned (needsR (needsP (m ++ (⟨#[32]⟩ : ByteArray) ++ n).toList)) := by
  go_enter Tryz.func55, Tryz.ntmps55
  cases q1 : ((m ++ (⟨#[32]⟩ : ByteArray) ++ n).toList == [114, 101, 103, 105, 115, 116, 101, 114, 32, 114, 101, 97, 100]) with
  | true =>
    have hE : Hid (needsP (m ++ (⟨#[32]⟩ : ByteArray) ++ n).toList = ([], [105], true)) := by unfold needsP; rw [if_pos q1]; exact rfl
    go_wp2
    refine bodyPost_ret (v := needsR ([], [105], true)) (by simp [results, Tryz.results55, go_sem, needsR]) rfl ⟨rfl, by rw [hE.out]⟩
  | false =>
    cases q2 : ((m ++ (⟨#[32]⟩ : ByteArray) ++ n).toList == [114, 101, 103, 105, 115, 116, 101, 114, 32, 119, 114, 105, 116, 101]) with
    | true =>
      have hE : Hid (needsP (m ++ (⟨#[32]⟩ : ByteArray) ++ n).toList = ([97], [110], true)) := by unfold needsP; rw [if_neg (by simp only [q1]; decide), if_pos q2]; exact rfl
      go_wp2
      refine bodyPost_ret (v := needsR ([97], [110], true)) (by simp [results, Tryz.results55, go_sem, needsR]) rfl ⟨rfl, by rw [hE.out]⟩
    | false =>
      cases q3 : ((m ++ (⟨#[32]⟩ : ByteArray) ++ n).toList == [113, 117, 101, 117, 101, 32, 101, 110, 113]) with
      | true =>
        have hE : Hid (needsP (m ++ (⟨#[32]⟩ : ByteArray) ++ n).toList = ([97], [110], true)) := by unfold needsP; rw [if_neg (by simp only [q1]; decide), if_neg (by simp only [q2]; decide), if_pos q3]; exact rfl
        go_wp2
        refine bodyPost_ret (v := needsR ([97], [110], true)) (by simp [results, Tryz.results55, go_sem, needsR]) rfl ⟨rfl, by rw [hE.out]⟩
      | false =>
        cases q4 : ((m ++ (⟨#[32]⟩ : ByteArray) ++ n).toList == [114, 101, 103, 105, 115, 116, 101, 114, 32, 99, 97, 115]) with
        | true =>
          have hE : Hid (needsP (m ++ (⟨#[32]⟩ : ByteArray) ++ n).toList = ([97, 101], [98], true)) := by unfold needsP; rw [if_neg (by simp only [q1]; decide), if_neg (by simp only [q2]; decide), if_neg (by simp only [q3]; decide), if_pos q4]; exact rfl
          go_wp2
          refine bodyPost_ret (v := needsR ([97, 101], [98], true)) (by simp [results, Tryz.results55, go_sem, needsR]) rfl ⟨rfl, by rw [hE.out]⟩
        | false =>
          cases q5 : ((m ++ (⟨#[32]⟩ : ByteArray) ++ n).toList == [107, 118, 32, 103, 101, 116]) with
          | true =>
            have hE : Hid (needsP (m ++ (⟨#[32]⟩ : ByteArray) ++ n).toList = ([107], [105, 110], true)) := by unfold needsP; rw [if_neg (by simp only [q1]; decide), if_neg (by simp only [q2]; decide), if_neg (by simp only [q3]; decide), if_neg (by simp only [q4]; decide), if_pos q5]; exact rfl
            go_wp2
            refine bodyPost_ret (v := needsR ([107], [105, 110], true)) (by simp [results, Tryz.results55, go_sem, needsR]) rfl ⟨rfl, by rw [hE.out]⟩
          | false =>
            cases q6 : ((m ++ (⟨#[32]⟩ : ByteArray) ++ n).toList == [107, 118, 32, 112, 117, 116]) with
            | true =>
              have hE : Hid (needsP (m ++ (⟨#[32]⟩ : ByteArray) ++ n).toList = ([107, 97], [110], true)) := by unfold needsP; rw [if_neg (by simp only [q1]; decide), if_neg (by simp only [q2]; decide), if_neg (by simp only [q3]; decide), if_neg (by simp only [q4]; decide), if_neg (by simp only [q5]; decide), if_pos q6]; exact rfl
              go_wp2
              refine bodyPost_ret (v := needsR ([107, 97], [110], true)) (by simp [results, Tryz.results55, go_sem, needsR]) rfl ⟨rfl, by rw [hE.out]⟩
            | false =>
              cases q7 : ((m ++ (⟨#[32]⟩ : ByteArray) ++ n).toList == [107, 118, 32, 100, 101, 108]) with
              | true =>
                have hE : Hid (needsP (m ++ (⟨#[32]⟩ : ByteArray) ++ n).toList = ([107], [98], true)) := by unfold needsP; rw [if_neg (by simp only [q1]; decide), if_neg (by simp only [q2]; decide), if_neg (by simp only [q3]; decide), if_neg (by simp only [q4]; decide), if_neg (by simp only [q5]; decide), if_neg (by simp only [q6]; decide), if_pos q7]; exact rfl
                go_wp2
                refine bodyPost_ret (v := needsR ([107], [98], true)) (by simp [results, Tryz.results55, go_sem, needsR]) rfl ⟨rfl, by rw [hE.out]⟩
              | false =>
                cases q8 : ((m ++ (⟨#[32]⟩ : ByteArray) ++ n).toList == [115, 101, 116, 32, 97, 100, 100]) with
                | true =>
                  have hE : Hid (needsP (m ++ (⟨#[32]⟩ : ByteArray) ++ n).toList = ([107], [98], true)) := by unfold needsP; rw [if_neg (by simp only [q1]; decide), if_neg (by simp only [q2]; decide), if_neg (by simp only [q3]; decide), if_neg (by simp only [q4]; decide), if_neg (by simp only [q5]; decide), if_neg (by simp only [q6]; decide), if_neg (by simp only [q7]; decide), if_pos q8]; exact rfl
                  go_wp2
                  refine bodyPost_ret (v := needsR ([107], [98], true)) (by simp [results, Tryz.results55, go_sem, needsR]) rfl ⟨rfl, by rw [hE.out]⟩
                | false =>
                  cases q9 : ((m ++ (⟨#[32]⟩ : ByteArray) ++ n).toList == [115, 101, 116, 32, 114, 101, 109]) with
                  | true =>
                    have hE : Hid (needsP (m ++ (⟨#[32]⟩ : ByteArray) ++ n).toList = ([107], [98], true)) := by unfold needsP; rw [if_neg (by simp only [q1]; decide), if_neg (by simp only [q2]; decide), if_neg (by simp only [q3]; decide), if_neg (by simp only [q4]; decide), if_neg (by simp only [q5]; decide), if_neg (by simp only [q6]; decide), if_neg (by simp only [q7]; decide), if_neg (by simp only [q8]; decide), if_pos q9]; exact rfl
                    go_wp2
                    refine bodyPost_ret (v := needsR ([107], [98], true)) (by simp [results, Tryz.results55, go_sem, needsR]) rfl ⟨rfl, by rw [hE.out]⟩
                  | false =>
                    cases q10 : ((m ++ (⟨#[32]⟩ : ByteArray) ++ n).toList == [115, 101, 116, 32, 104, 97, 115]) with
                    | true =>
                      have hE : Hid (needsP (m ++ (⟨#[32]⟩ : ByteArray) ++ n).toList = ([107], [98], true)) := by unfold needsP; rw [if_neg (by simp only [q1]; decide), if_neg (by simp only [q2]; decide), if_neg (by simp only [q3]; decide), if_neg (by simp only [q4]; decide), if_neg (by simp only [q5]; decide), if_neg (by simp only [q6]; decide), if_neg (by simp only [q7]; decide), if_neg (by simp only [q8]; decide), if_neg (by simp only [q9]; decide), if_pos q10]; exact rfl
                      go_wp2
                      refine bodyPost_ret (v := needsR ([107], [98], true)) (by simp [results, Tryz.results55, go_sem, needsR]) rfl ⟨rfl, by rw [hE.out]⟩
                    | false =>
                      cases q11 : ((m ++ (⟨#[32]⟩ : ByteArray) ++ n).toList == [113, 117, 101, 117, 101, 32, 100, 101, 113]) with
                      | true =>
                        have hE : Hid (needsP (m ++ (⟨#[32]⟩ : ByteArray) ++ n).toList = ([], [105, 110], true)) := by unfold needsP; rw [if_neg (by simp only [q1]; decide), if_neg (by simp only [q2]; decide), if_neg (by simp only [q3]; decide), if_neg (by simp only [q4]; decide), if_neg (by simp only [q5]; decide), if_neg (by simp only [q6]; decide), if_neg (by simp only [q7]; decide), if_neg (by simp only [q8]; decide), if_neg (by simp only [q9]; decide), if_neg (by simp only [q10]; decide), if_pos q11]; exact rfl
                        go_wp2
                        refine bodyPost_ret (v := needsR ([], [105, 110], true)) (by simp [results, Tryz.results55, go_sem, needsR]) rfl ⟨rfl, by rw [hE.out]⟩
                      | false =>
                        cases q12 : ((m ++ (⟨#[32]⟩ : ByteArray) ++ n).toList == [108, 111, 99, 107, 32, 97, 99, 113]) with
                        | true =>
                          have hE : Hid (needsP (m ++ (⟨#[32]⟩ : ByteArray) ++ n).toList = ([], [98], true)) := by unfold needsP; rw [if_neg (by simp only [q1]; decide), if_neg (by simp only [q2]; decide), if_neg (by simp only [q3]; decide), if_neg (by simp only [q4]; decide), if_neg (by simp only [q5]; decide), if_neg (by simp only [q6]; decide), if_neg (by simp only [q7]; decide), if_neg (by simp only [q8]; decide), if_neg (by simp only [q9]; decide), if_neg (by simp only [q10]; decide), if_neg (by simp only [q11]; decide), if_pos q12]; exact rfl
                          go_wp2
                          refine bodyPost_ret (v := needsR ([], [98], true)) (by simp [results, Tryz.results55, go_sem, needsR]) rfl ⟨rfl, by rw [hE.out]⟩
                        | false =>
                          cases q13 : ((m ++ (⟨#[32]⟩ : ByteArray) ++ n).toList == [108, 111, 99, 107, 32, 114, 101, 108]) with
                          | true =>
                            have hE : Hid (needsP (m ++ (⟨#[32]⟩ : ByteArray) ++ n).toList = ([], [98], true)) := by unfold needsP; rw [if_neg (by simp only [q1]; decide), if_neg (by simp only [q2]; decide), if_neg (by simp only [q3]; decide), if_neg (by simp only [q4]; decide), if_neg (by simp only [q5]; decide), if_neg (by simp only [q6]; decide), if_neg (by simp only [q7]; decide), if_neg (by simp only [q8]; decide), if_neg (by simp only [q9]; decide), if_neg (by simp only [q10]; decide), if_neg (by simp only [q11]; decide), if_neg (by simp only [q12]; decide), if_pos q13]; exact rfl
                            go_wp2
                            refine bodyPost_ret (v := needsR ([], [98], true)) (by simp [results, Tryz.results55, go_sem, needsR]) rfl ⟨rfl, by rw [hE.out]⟩
                          | false =>
                            have hE : Hid (needsP (m ++ (⟨#[32]⟩ : ByteArray) ++ n).toList = ([], [], false)) := by unfold needsP; rw [if_neg (by simp only [q1]; decide), if_neg (by simp only [q2]; decide), if_neg (by simp only [q3]; decide), if_neg (by simp only [q4]; decide), if_neg (by simp only [q5]; decide), if_neg (by simp only [q6]; decide), if_neg (by simp only [q7]; decide), if_neg (by simp only [q8]; decide), if_neg (by simp only [q9]; decide), if_neg (by simp only [q10]; decide), if_neg (by simp only [q11]; decide), if_neg (by simp only [q12]; decide), if_neg (by simp only [q13]; decide)]; exact rfl
                            go_wp2
                            refine bodyPost_ret (v := needsR ([], [], false)) (by simp [results, Tryz.results55, go_sem, needsR]) rfl ⟨rfl, by rw [hE.out]⟩
end Go.Proofs.YtdfbhjgpkokebaaGreatDoor
