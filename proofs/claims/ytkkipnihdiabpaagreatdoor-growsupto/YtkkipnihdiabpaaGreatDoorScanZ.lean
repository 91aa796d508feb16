/- Several texts in one. -/
import Derived.Test.YtkkipnihdiabpaaGreatDoorScanY
/- The scanner's object, walked: the members in the order in which they stand. -/
namespace Go.Proofs.YtkkipnihdiabpaaGreatDoor
open Go.RowKit

def objRun : Nat → List Mem → List Nat → Option (List Mem × List Nat)
  | 0, _, _ => none
  | f + 1, acc, l => match memberP l with
    | none => none
    | some (m, r) => if (peekOf r == 125) then some (acc ++ [m], r.tail) else if (peekOf r == 44) then objRun f (acc ++ [m]) (skipB r.tail) else none
def objectP (l : List Nat) : Option (List Mem × List Nat) :=
  if (peekOf l == 123) then (if (peekOf (skipB l.tail) == 125) then some ([], (skipB l.tail).tail) else objRun (l.length + 1) [] (skipB l.tail)) else none

theorem skipB_len (l : List Nat) : (skipB l).length ≤ l.length := by
  induction l with
  | nil => simp [skipB]
  | cons c t ih => unfold skipB; split <;> simp; omega
theorem skipD_len (l : List Nat) : (skipD l).length ≤ l.length := by
  induction l with
  | nil => simp [skipD]
  | cons c t ih => unfold skipD; split <;> simp; omega
theorem textRun_len (f : Nat) : ∀ (acc : List UInt8) (l : List Nat) (v : List UInt8) (r : List Nat), textRun f acc l = some (v, r) → r.length < l.length := by
  induction f with
  | zero => intro acc l v r h; cases l <;> simp [textRun] at h
  | succ f ih =>
    intro acc l v r h
    cases l with
    | nil => simp [textRun] at h
    | cons c t =>
      unfold textRun at h
      split at h
      · simp at h; rw [← h.2]; simp
      · split at h
        · cases h
        · split at h
          · split at h
            · cases h
            · have := ih _ _ _ _ h; simp at this ⊢; omega
          · have := ih _ _ _ _ h; simp at this ⊢; omega
theorem textP_len {l : List Nat} {v : List UInt8} {r : List Nat} (h : textP l = some (v, r)) : r.length < l.length := by
  cases l with
  | nil => cases h
  | cons c t =>
    by_cases hc : ((c : Int) == 34) = true
    · rw [textP, if_pos hc] at h
      have := textRun_len _ _ _ _ _ h; simp; omega
    · rw [textP, if_neg hc] at h; cases h
theorem intRest_len (l : List Nat) : (intRest l).length ≤ l.length := by
  unfold intRest
  have h1 : ∀ m : List Nat, m.length ≤ l.length → (if peekOf m = 48 then m.tail else skipD m).length ≤ l.length := by
    intro m hm
    split
    · simp; omega
    · exact Nat.le_trans (skipD_len m) hm
  split
  · exact h1 _ (by simp)
  · exact h1 _ (Nat.le_refl _)
theorem valueP_len {l : List Nat} {v : Int × Int × List UInt8} {r : List Nat} (h : valueP l = some (v, r)) : r.length ≤ l.length := by
  unfold valueP at h
  split at h
  · split at h
    · rename_i t r' ht; simp at h; have := textP_len ht; rw [← h.2]; omega
    · cases h
  · split at h
    · split at h
      · simp at h; rw [← h.2]; simp
      · cases h
    · split at h
      · split at h
        · simp at h; rw [← h.2]; simp
        · cases h
      · split at h
        · split at h
          · simp at h; rw [← h.2]; simp
          · cases h
        · split at h
          · rename_i n r' hi
            simp at h
            unfold intP at hi
            split at hi
            · simp at hi; rw [← h.2, ← hi.2]; exact intRest_len l
            · cases hi
          · cases h
theorem memberP_len {l : List Nat} {m : Mem} {r : List Nat} (h : memberP l = some (m, r)) : r.length < l.length := by
  unfold memberP at h
  split at h
  · cases h
  · rename_i nm r1 ht
    split at h
    · split at h
      · cases h
      · rename_i v r4 hv
        simp at h
        have h1 := textP_len ht
        have h2 := valueP_len hv
        have h3 := skipB_len r4
        have h4 := skipB_len (skipB r1).tail
        have h5 := skipB_len r1
        simp at h4
        rw [← h.2]
        omega
    · cases h

def cellsM (m : Mem) : List Value := [.string ⟨m.1.toArray⟩, .int .i64 m.2.1, .int .i64 m.2.2.1, .string ⟨m.2.2.2.toArray⟩]
def memsCells (l : List Mem) : List Value := l.flatMap cellsM

theorem cell_four_new (w : World) (a b c d : Value) (t : TypeId) : ∀ j u, [a, b, c, d][j]? = some u → (w.alloc (.cells #[a, b, c, d] t)).cell? ((⟨w.heap.size, 0, none⟩ : Addr).add j) = some u := by
  intro j u hj
  match j, hj with
  | 0, hj => simp at hj; subst hj; simp [Addr.add]
  | 1, hj => simp at hj; subst hj; simp [Addr.add]
  | 2, hj => simp at hj; subst hj; simp [Addr.add]
  | 3, hj => simp at hj; subst hj; simp [Addr.add]

theorem owns_kept {S : List Nat} {w w' : World} {base : Nat} {e : TypeId} {size : Nat} {v : Value} {n : Nat} {xs : List Value} (h : w.ownsRow base e size v n xs) (k : Kept S w w') (hS : ∀ x ∈ S, x < base) : w'.ownsRow base e size v n xs := by
  refine ⟨h.1, ?_⟩
  rcases h.2 with hn | ⟨g, cap, cur, hv, hbg, hg, rest⟩
  · exact .inl hn
  · have ng : g ∉ S := fun hm => by have := hS g hm; omega
    exact .inr ⟨g, cap, cur, hv, hbg, (k.block g (lt_of_blk hg) ng).trans hg, rest⟩

theorem memInfo : (Tryz.prog.info? 177).map (fun i => (i.zero, i.size, i.bytes)) = some (some (.agg #[.string ⟨#[]⟩, .int .i64 0, .int .i64 0, .string ⟨#[]⟩]), 4, 48) := by kernel_rfl
end Go.Proofs.YtkkipnihdiabpaaGreatDoor
/- The scanner's object, walked. -/
namespace Go.Proofs.YtkkipnihdiabpaaGreatDoor
open Go.RowKit

def ObjectPost (b rb cap k : Nat) (rs : List Nat) (w : World) (e : Ending) (w' : World) : Prop :=
  ∃ k', Scan w' b rb cap rs k' ∧ Kept [b] w w' ∧ ((∃ ms v, objectP (rs.drop k) = some (ms, rs.drop k') ∧ ms.length ≤ k' ∧ w'.ownsRow w.heap.size 177 4 v ms.length (memsCells ms) ∧ e = .returned (.tuple #[v, .bool true])) ∨
    (objectP (rs.drop k) = none ∧ e = .returned (.tuple #[.slice none 0 0, .bool false])))

theorem memsCells_snoc (l : List Mem) (m : Mem) : memsCells (l ++ [m]) = memsCells l ++ cellsM m := by simp [memsCells]
theorem Scan.grown {w w' : World} {b rb cap k B : Nat} {rs : List Nat} {row : Option Nat} (h : Scan w b rb cap rs k) (hg : w.grownBy w' row) (hr : ∀ g, row = some g → B ≤ g) (h1 : b < B) (h2 : rb < B) : Scan w' b rb cap rs k := by
  obtain ⟨c, t, f, hrow, hc⟩ := h.row
  exact ⟨by rw [hg.block b (lt_of_blk h.blk) (fun e => by have := hr b e.symm; omega)]; exact h.blk,
    ⟨c, t, f, by rw [hg.block rb (lt_of_blk hrow) (fun e => by have := hr rb e.symm; omega)]; exact hrow, hc⟩, h.ne, h.le, h.small, h.bd, h.room⟩
theorem Kept.grown {S : List Nat} {a w w' : World} {row : Option Nat} (h : Kept S a w) (hg : w.grownBy w' row) (hr : ∀ g, row = some g → a.heap.size ≤ g) : Kept S a w' :=
  ⟨hg.os.trans h.os, hg.tape.trans h.tape, hg.output.trans h.output, Nat.le_trans h.size hg.size, fun i hi hn =>
    (hg.block i (Nat.lt_of_lt_of_le hi h.size) (fun e => by have := hr i e.symm; omega)).trans (h.block i hi hn)⟩
theorem owns_row {w : World} {base : Nat} {e : TypeId} {size : Nat} {v : Value} {n : Nat} {xs : List Value} (h : w.ownsRow base e size v n xs) : ∀ g, v.ownBlock = some g → base ≤ g := fun g hg => (h.lt g hg).1

set_option maxHeartbeats 2000000 in
theorem object_run (b rb cap k : Nat) (rs : List Nat) (w : World) (hs : Scan w b rb cap rs k) (he : Errs w) (hb : 9 ≤ b) (hp : peekOf (rs.drop k) = 123) :
    Calls Tryz.prog 72 #[.pointer (some ⟨b, 0, none⟩)] w fun e w' => ObjectPost b rb cap k rs w e w' := by
  have hbw := hs.bLt
  have hrw := hs.rbLt
  have heW := he.lt
  have hlt := peekOf_lt hp (by omega)
  have HO : Hid (objectP (rs.drop k) = if (peekOf (skipB (rs.drop (k + 1))) == 125) then some ([], (skipB (rs.drop (k + 1))).tail) else objRun (rs.length - k + 1) [] (skipB (rs.drop (k + 1)))) := by
    unfold objectP; rw [hp, tail_drop, List.length_drop]; exact rfl
  go_enter Tryz.func72, Tryz.ntmps72
  go_wp2_with fail
  refine (take_yes b rb cap k rs 123 _ hs hp (by omega)).mono ?_
  rintro e w1 ⟨rfl, g1, q1⟩
  clear hp
  go_wp2_with fail
  refine (skipBlanks_any b rb cap (k + 1) rs _ g1).mono ?_
  rintro e w2 ⟨rfl, k2, hk2, hk12, g3, g4⟩
  have q2 := q1.trans g4
  clear g4 g1 q1
  by_cases hc : peekOf (rs.drop k2) = 125
  · have HX : Hid (objectP (rs.drop k) = some ([], rs.drop (k2 + 1))) := by
      rw [HO.out, ← hk2, hc, tail_drop]; exact rfl
    go_wp2_with fail
    refine (take_yes b rb cap k2 rs 125 _ g3 hc (by omega)).mono ?_
    rintro e w3 ⟨rfl, g5, g6⟩
    clear hc hk2 HO
    go_wp2
    go_ret2
    exact ⟨k2 + 1, g5, q2.trans g6, Or.inl ⟨[], .slice none 0 0, HX.out, by simp, World.ownsRow_nil _ _ _ _, rfl⟩⟩
  · have HR : Hid (objectP (rs.drop k) = objRun (rs.length - k + 1) [] (rs.drop k2)) := by
      rw [HO.out, ← hk2, if_neg (by simp [hc])]; exact rfl
    go_wp2_with fail
    refine (take_no b rb cap k2 rs 125 _ g3 hc).mono ?_
    rintro e w3 ⟨rfl, n3, rfl⟩
    have g5 := g3.drewN n3
    have q3 := q2.drewN n3
    clear hc hk2 HO g3 q2
    go_wp2
    go_loopw [4] (fun v wr => ∃ (j f : Nat) (acc : List Mem), objRun f acc (rs.drop j) = objectP (rs.drop k) ∧ rs.length + 1 ≤ j + f ∧ acc.length ≤ j ∧ wr.ownsRow w.heap.size 177 4 v acc.length (memsCells acc) ∧ Scan wr b rb cap rs j ∧ Kept [b] w wr) (fun _ wr => rs.length - placeOf wr b)
    case atStart =>
      exact ⟨k2, rs.length - k + 1, [], HR.out.symm, by omega, by simp, World.ownsRow_nil _ _ _ _, g5, q3⟩
    case round =>
      obtain ⟨i0, hi, hz0, hz1, hz2⟩ := info_parts memInfo
      obtain ⟨j, f, acc, HJ, hf, hal, hown, hsj, hkp⟩ := hrel
      have hJ : Hid (objRun f acc (rs.drop j) = objectP (rs.drop k)) := HJ
      clear HJ HR g5 q3
      have hsm := hsj.small
      have hlej := hsj.le
      obtain ⟨f, rfl⟩ : ∃ f', f = f' + 1 := ⟨f - 1, by omega⟩
      have eJ : Errs wr := he.kept hkp (by simpa using hb)
      go_wp2_with fail
      refine (member_any b rb cap j rs _ hsj eJ hb).mono ?_
      rintro e w4 ⟨k4, g6, g7, ⟨m, hm, rfl⟩ | ⟨hm, m, rfl⟩⟩
      all_goals
        have q4 := hkp.trans g7
        have o4 := owns_kept hown g7 (by simp; omega)
        clear hkp g7 hown eJ
        obtain ⟨ma, mb, mc, md⟩ := m
        unfold aggM
      · have hlen := memberP_len hm
        simp at hlen
        have HS : Hid (objectP (rs.drop k) = if (peekOf (rs.drop k4) == 125) then some (acc ++ [(ma, mb, mc, md)], (rs.drop k4).tail) else if (peekOf (rs.drop k4) == 44) then objRun f (acc ++ [(ma, mb, mc, md)]) (skipB (rs.drop k4).tail) else none) := by
          rw [← hJ.out, objRun, hm]; exact rfl
        clear hm hJ
        have hzz := q4.size
        go_wp2_with (at_builtin; refine wpList_append_own _ rfl _ _ 88 rfl w.heap.size 177 i0 (.agg #[.string ⟨#[]⟩, .int .i64 0, .int .i64 0, .string ⟨#[]⟩]) 4 48 Tryz.underlying88 hi hz0 hz1 hz2 rfl (by decide) _ _ _ rfl ((o4.alloc _).alloc _) ⟨w4.heap.size + 1, 0, none⟩ 1 1 (cellsM (ma, mb, mc, md)) rfl rfl ?c1 ?c2 ?c3 ?c4 ?c5 ?_)
        case c1 =>
          have := cell_four_new (w4.alloc (.cells #[.string ⟨ma.toArray⟩, .int .i64 mb, .int .i64 mc, .string ⟨md.toArray⟩] 177)) (.string ⟨ma.toArray⟩) (.int .i64 mb) (.int .i64 mc) (.string ⟨md.toArray⟩) 177
          simpa [cellsM] using this
        case c2 =>
          intro u hu
          simp [cellsM] at hu
          rcases hu with rfl | rfl | rfl | rfl <;> rfl
        case c3 => unfold maxLen; omega
        case c4 => omega
        case c5 => simp; omega
        intro v5 w5 own5 grow5 _
        have hrow := owns_row o4
        have g8 : Scan w5 b rb cap rs k4 := ((g6.alloc _).alloc _).grown grow5 hrow hbw hrw
        have q5 : Kept [b] w w5 := ((q4.alloc _).alloc _).grown grow5 hrow
        rw [← memsCells_snoc] at own5
        have own6 : w5.ownsRow w.heap.size 177 4 v5 (acc ++ [(ma, mb, mc, md)]).length (memsCells (acc ++ [(ma, mb, mc, md)])) := by simpa using own5
        have hnl : (acc ++ [(ma, mb, mc, md)]).length ≤ k4 := by simp; omega
        clear own5 grow5 hrow q4 o4 g6
        generalize acc ++ [(ma, mb, mc, md)] = acc' at *
        by_cases h1 : peekOf (rs.drop k4) = 125
        · have HX : Hid (objectP (rs.drop k) = some (acc', rs.drop (k4 + 1))) := by rw [HS.out, h1, tail_drop]; exact rfl
          go_wp2_with fail
          refine (take_yes b rb cap k4 rs 125 _ g8 h1 (by omega)).mono ?_
          rintro e w6 ⟨rfl, g9, g10⟩
          have o7 := owns_kept own6 g10 (by simp; omega)
          clear h1 HS
          go_wp2
          go_ret2
          exact ⟨k4 + 1, g9, q5.trans g10, Or.inl ⟨acc', v5, HX.out, by omega, o7, rfl⟩⟩
        · by_cases h2 : peekOf (rs.drop k4) = 44
          · have HX : Hid (objectP (rs.drop k) = objRun f acc' (skipB (rs.drop (k4 + 1)))) := by rw [HS.out, if_neg (by simp [h1]), h2, tail_drop]; exact rfl
            have hl4 := peekOf_lt h2 (by omega)
            go_wp2_with fail
            refine (take_no b rb cap k4 rs 125 _ g8 h1).mono ?_
            rintro e w6 ⟨rfl, n6, rfl⟩
            go_wp2_with fail
            refine (take_yes b rb cap k4 rs 44 _ (g8.drewN n6) h2 (by omega)).mono ?_
            rintro e w7 ⟨rfl, g9, g10⟩
            clear h1 h2 HS
            go_wp2_with fail
            refine (skipBlanks_any b rb cap (k4 + 1) rs _ g9).mono ?_
            rintro e w8 ⟨rfl, k8, hk8, hk8', g11, g12⟩
            have o8 := owns_kept (owns_kept (owns_kept own6 ((Kept.refl [b] _).drewN n6) (by simp; omega)) g10 (by simp; omega)) g12 (by simp; omega)
            have q8 := ((q5.drewN n6).trans g10).trans g12
            have HX' : Hid (objRun f acc' (rs.drop k8) = objectP (rs.drop k)) := by rw [HX.out, hk8]; exact rfl
            clear HX hk8 g9 g10 g12 own6 q5 g8
            go_wp2
            go_roundw
            case rel => exact ⟨k8, f, acc', HX'.out, by omega, by omega, o8, g11, q8⟩
            case measure => rw [g11.place, hsj.place]; omega
          · have HX : Hid (objectP (rs.drop k) = none) := by rw [HS.out, if_neg (by simp [h1]), if_neg (by simp [h2])]; exact rfl
            go_wp2_with fail
            refine (take_no b rb cap k4 rs 125 _ g8 h1).mono ?_
            rintro e w6 ⟨rfl, n6, rfl⟩
            go_wp2_with fail
            refine (take_no b rb cap k4 rs 44 _ (g8.drewN n6) h2).mono ?_
            rintro e w7 ⟨rfl, n7, rfl⟩
            clear h1 h2 HS
            go_wp2
            go_ret2
            exact ⟨k4, g8.drewN _, q5.drewN _, Or.inr ⟨HX.out, rfl⟩⟩
      · have HX : Hid (objectP (rs.drop k) = none) := by rw [← hJ.out, objRun, hm]; exact rfl
        clear hm hJ
        go_wp2
        go_ret2
        exact ⟨k4, g6.alloc _, q4.alloc _, Or.inr ⟨HX.out, rfl⟩⟩

theorem object_any (b rb cap k : Nat) (rs : List Nat) (w : World) (hs : Scan w b rb cap rs k) (he : Errs w) (hb : 9 ≤ b) :
    Calls Tryz.prog 72 #[.pointer (some ⟨b, 0, none⟩)] w fun e w' => ObjectPost b rb cap k rs w e w' := by
  by_cases hp : peekOf (rs.drop k) = 123
  · exact object_run b rb cap k rs w hs he hb hp
  · have HX : Hid (objectP (rs.drop k) = none) := by unfold objectP; rw [if_neg (by simp [hp])]; exact rfl
    go_enter Tryz.func72, Tryz.ntmps72
    go_wp2_with fail
    refine (take_no b rb cap k rs 123 _ hs hp).mono ?_
    rintro e w1 ⟨rfl, n, rfl⟩
    clear hp
    go_wp2
    go_ret2
    exact ⟨k, hs.drewN _, (Kept.refl _ _).drewN _, Or.inr ⟨HX.out, rfl⟩⟩
end Go.Proofs.YtkkipnihdiabpaaGreatDoor
