/- object.Read, walked: a line as a list of named values. -/
import Derived.Test.YtkkipnihdiabpaaGreatDoorScanZ
import Derived.Laws.IdiomStrings
namespace Go.Proofs.YtkkipnihdiabpaaGreatDoor
open Go.RowKit

def runesL (s : ByteArray) : Nat → Nat → List Nat
  | 0, _ => []
  | f + 1, i => if i < s.size then (Utf8.decode s i).1 :: runesL s f (i + (Utf8.decode s i).2) else []
def runesOf (s : ByteArray) : List Nat := runesL s s.size 0

theorem runesFrom_list (s : ByteArray) : ∀ (f i : Nat) (acc : Array Value), (Conv.runesFrom s f i acc).toList = acc.toList ++ (runesL s f i).map (fun r => Value.int .i32 (Int.ofNat r)) := by
  intro f
  induction f with
  | zero => intro i acc; simp [Conv.runesFrom, runesL]
  | succ f ih =>
    intro i acc
    unfold Conv.runesFrom runesL
    by_cases h : i < s.size
    · rw [if_pos h, if_pos h]
      simp only [ih]
      simp
    · rw [if_neg h, if_neg h]; simp
theorem runesOf_list (s : ByteArray) : (Conv.runesFrom s s.size 0 #[]).toList = (runesOf s).map (fun r => Value.int .i32 (Int.ofNat r)) := by
  rw [runesFrom_list]; simp [runesOf]
theorem runesOf_size (s : ByteArray) : (Conv.runesFrom s s.size 0 #[]).size = (runesOf s).length := by
  rw [← Array.length_toList, runesOf_list]; simp
theorem runesL_le (s : ByteArray) : ∀ (f i : Nat), (runesL s f i).length ≤ f := by
  intro f
  induction f with
  | zero => intro i; simp [runesL]
  | succ f ih => intro i; unfold runesL; split; simp; exact ih _; simp
theorem runesL_bd (s : ByteArray) : ∀ (f i : Nat), ∀ c ∈ runesL s f i, c ≤ 2147483647 := by
  intro f
  induction f with
  | zero => intro i c hc; simp [runesL] at hc
  | succ f ih =>
    intro i c hc
    unfold runesL at hc
    split at hc
    · simp at hc
      rcases hc with rfl | hc
      · exact decode_le s i
      · exact ih _ c hc
    · simp at hc
theorem runesOf_le (s : ByteArray) : (runesOf s).length ≤ s.size := runesL_le s s.size 0
theorem runesOf_bd (s : ByteArray) : ∀ c ∈ runesOf s, c ≤ 2147483647 := runesL_bd s s.size 0

/-- what object.Read answers -/
def lineP (s : ByteArray) : Option (List Mem) :=
  if Lib.validD s.data.toList then (match objectP (skipB (runesOf s)) with
    | none => none
    | some (ms, r) => if skipB r = [] then some ms else none) else none

/-- the tables of unicode/utf8, as they are laid -/
def Utf (w : World) : Prop := Lib.Utf8Tabs 3 4 w
theorem Utf.below {w w' : World} (h : Utf w) (k : Below 9 w w') : Utf w' := by
  refine ⟨fun c hc => ?_, fun i hi => ⟨?_, ?_⟩⟩
  · rw [k.cell (by show 3 < 9; omega)]; exact h.1 c hc
  · rw [k.cell (by show 4 < 9; omega)]; exact (h.2 i hi).1
  · rw [k.cell (by show 4 < 9; omega)]; exact (h.2 i hi).2

theorem valid_any (s : ByteArray) (w : World) (hs : s.size ≤ 9223372036854775807) (hT : Utf w) :
    Calls Tryz.prog 70 #[.string s] w fun e w' => e = .returned (.bool (Lib.validD s.data.toList)) ∧ Below w.heap.size w w' :=
  Any.utf8_ValidString Tryz.laysValid s w hs hT

def ObjReadPost (s : ByteArray) (w : World) (e : Ending) (w' : World) : Prop :=
  Below w.heap.size w w' ∧ ((∃ ms v, lineP s = some ms ∧ ms.length ≤ s.size ∧ w'.ownsRow w.heap.size 177 4 v ms.length (memsCells ms) ∧ e = .returned (.tuple #[v, .bool true])) ∨
    (lineP s = none ∧ e = .returned (.tuple #[.slice none 0 0, .bool false])))

theorem drop_nil_iff {rs : List Nat} {k : Nat} (h : k ≤ rs.length) : rs.drop k = [] ↔ k = rs.length := by
  rw [List.drop_eq_nil_iff]; omega

set_option maxHeartbeats 2000000 in
theorem objRead_any (s : ByteArray) (w : World) (hs : s.size ≤ 2000000) (he : Errs w) (hu : Utf w) :
    Calls Tryz.prog 35 #[.string s] w fun e w' => ObjReadPost s w e w' := by
  go_enter Tryz.func35, Tryz.ntmps35
  go_wp2_with fail
  refine (valid_any s _ (by omega) hu).mono ?_
  rintro e w1 ⟨rfl, hb1⟩
  cases hv : Lib.validD s.data.toList with
  | false =>
    have HX : Hid (lineP s = none) := by unfold lineP; rw [hv]; exact rfl
    clear hv
    go_wp2
    go_ret2
    exact ⟨hb1, Or.inr ⟨HX.out, rfl⟩⟩
  | true =>
    have HL : Hid (lineP s = (match objectP (skipB (runesOf s)) with | none => none | some (ms, r) => if skipB r = [] then some ms else none)) := by
      unfold lineP; rw [hv]; exact rfl
    clear hv
    have hrl := runesOf_le s
    have hcv := run_runes_of_string (P := Tryz.prog) w1 9 170 21 s Tryz.underlying9 Tryz.underlying170 Tryz.underlying21 (by rw [runesOf_size]; omega)
    have hcap := grownCap_ge w1 (Conv.runesFrom s s.size 0 #[]).size 0 21
    rw [runesOf_size] at hcv hcap
    generalize grownCap w1 (runesOf s).length 0 21 = cap at *
    have hrow : ∀ i (h : i < (runesOf s).length), (Conv.runesFrom s s.size 0 #[] ++ Array.replicate (cap - (runesOf s).length) (.int .i32 0))[i]? = some (.int .i32 ((runesOf s)[i] : Int)) := by
      intro i h
      rw [Array.getElem?_append_left (by rw [runesOf_size]; exact h), ← Array.getElem?_toList, runesOf_list]
      simp [h]
    generalize Conv.runesFrom s s.size 0 #[] ++ Array.replicate (cap - (runesOf s).length) (.int .i32 0) = row at *
    have hbd := runesOf_bd s
    generalize runesOf s = rs at *
    have hz1 := hb1.size
    have hew := he.lt
    have hS0 : Scan ((w1.alloc (.cells row 21)).alloc (.cells #[.slice (some ⟨w1.heap.size, 0, none⟩) rs.length cap, .int .i64 0] 172)).drew (w1.heap.size + 1) w1.heap.size cap rs 0 := by
      refine ⟨?_, ⟨row, 21, (0, 0), ?_, hrow⟩, by omega, by omega, by omega, hbd, hcap⟩
      · show ((w1.heap.push _).push _)[w1.heap.size + 1]? = _
        rw [Array.getElem?_push, if_pos (by simp)]; rfl
      · show ((w1.heap.push _).push _)[w1.heap.size]? = _
        rw [Array.getElem?_push, if_neg (by simp), Array.getElem?_push, if_pos rfl]
    have hK0 : Below w.heap.size w ((w1.alloc (.cells row 21)).alloc (.cells #[.slice (some ⟨w1.heap.size, 0, none⟩) rs.length cap, .int .i64 0] 172)).drew := ((hb1.alloc hz1 _).alloc (by simp; omega) _).drew
    have hsz0 : w1.heap.size + 2 ≤ ((w1.alloc (.cells row 21)).alloc (.cells #[.slice (some ⟨w1.heap.size, 0, none⟩) rs.length cap, .int .i64 0] 172)).drew.heap.size := by simp [World.drew]
    clear hrow hbd
    go_wp2_with fail
    clear hcv
    generalize ((w1.alloc (.cells row 21)).alloc (.cells #[.slice (some ⟨w1.heap.size, 0, none⟩) rs.length cap, .int .i64 0] 172)).drew = W0 at *
    refine (skipBlanks_any (w1.heap.size + 1) w1.heap.size cap 0 rs _ hS0).mono ?_
    rintro e w2 ⟨rfl, k2, hk2, _, g1, g2⟩
    have b2 : Below w.heap.size w w2 := hK0.trans (g2.below (by omega) (by simp; omega))
    have z2 := g2.size
    have HK2 : Hid (rs.drop k2 = skipB rs) := by rw [hk2]; simp [Hid]
    clear hk2 g2 hS0 hK0
    have e2 : Errs w2 := he.below (b2.mono hew)
    go_wp2_with fail
    refine (object_any (w1.heap.size + 1) w1.heap.size cap k2 rs _ g1 e2 (by omega)).mono ?_
    rintro e w3 ⟨k3, g3, g4, ⟨ms, v, hm, hml, hown, rfl⟩ | ⟨hm, rfl⟩⟩
    all_goals
      have b3 : Below w.heap.size w w3 := b2.trans (g4.below (by omega) (by simp; omega))
      have z3 := g4.size
      clear g4 g1 b2 e2
    · have HM : Hid (lineP s = if skipB (rs.drop k3) = [] then some ms else none) := by
        rw [HL.out, ← HK2.out, hm]; exact rfl
      clear hm HL HK2
      go_wp2_with fail
      refine (skipBlanks_any (w1.heap.size + 1) w1.heap.size cap k3 rs _ g3).mono ?_
      rintro e w4 ⟨rfl, k4, hk4, hk34, g5, g6⟩
      have b4 : Below w.heap.size w w4 := b3.trans (g6.below (by omega) (by simp; omega))
      have o4 := owns_kept hown g6 (by simp; omega)
      have c0 := g5.c0
      have c1 := g5.c1
      have hle := g5.le
      by_cases hend : k4 < rs.length
      · have HX : Hid (lineP s = none) := by
          rw [HM.out, if_neg (by rw [← hk4, drop_nil_iff hle]; omega)]; exact rfl
        have hlt : (k4 : Int) < (rs.length : Int) := by omega
        clear HM hk4 g6 b3 g3 hown o4
        go_wp2
        go_ret2
        exact ⟨b4, Or.inr ⟨HX.out, rfl⟩⟩
      · have HX : Hid (lineP s = some ms) := by
          rw [HM.out, if_pos (by rw [← hk4, drop_nil_iff hle]; omega)]; exact rfl
        have hlt : ¬ (k4 : Int) < (rs.length : Int) := by omega
        clear HM hk4 g6 b3 g3 hown
        go_wp2
        go_ret2
        refine ⟨b4, Or.inl ⟨ms, v, HX.out, by omega, ⟨o4.1, ?_⟩, rfl⟩⟩
        rcases o4.2 with hn | ⟨g, cap', cur, hv, hbg, hg, rest⟩
        · exact .inl hn
        · exact .inr ⟨g, cap', cur, hv, by omega, hg, rest⟩
    · have HX : Hid (lineP s = none) := by rw [HL.out, ← HK2.out, hm]; exact rfl
      clear hm HL HK2
      go_wp2_with fail
      refine (skipBlanks_any (w1.heap.size + 1) w1.heap.size cap k3 rs _ g3).mono ?_
      rintro e w4 ⟨rfl, k4, hk4, hk34, g5, g6⟩
      have b4 : Below w.heap.size w w4 := b3.trans (g6.below (by omega) (by simp; omega))
      clear hk4 g6 b3 g3
      go_wp2
      go_ret2
      exact ⟨b4, Or.inr ⟨HX.out, rfl⟩⟩
end Go.Proofs.YtkkipnihdiabpaaGreatDoor
