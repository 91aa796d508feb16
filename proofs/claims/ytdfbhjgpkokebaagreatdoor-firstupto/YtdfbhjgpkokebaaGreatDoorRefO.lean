/- The reference's Lines, walked. -/
import Derived.Test.YtdfbhjgpkokebaaGreatDoorRefN
namespace Go.Proofs.YtdfbhjgpkokebaaGreatDoor
open Go.RowKit

/-- the lines of a text -/
def linesRun : List (List UInt8) → List UInt8 → List Nat → List (List UInt8)
  | acc, cur, [] => if cur = [] then acc else acc ++ [cur]
  | acc, cur, c :: t => if c = 10 then linesRun (acc ++ [cur]) [] t else linesRun acc (cur ++ [UInt8.ofNat c]) t
def linesP (l : List Nat) : List (List UInt8) := linesRun [] [] l
def strCells (l : List (List UInt8)) : List Value := l.map (fun x => Value.string ⟨x.toArray⟩)
theorem strCells_snoc (l : List (List UInt8)) (m : List UInt8) : strCells (l ++ [m]) = strCells l ++ [.string ⟨m.toArray⟩] := by simp [strCells]
theorem strInfo : (Tryz.prog.info? 9).map (fun i => (i.zero, i.size, i.bytes)) = some (some (.string ⟨#[]⟩), 1, 16) := by kernel_rfl

theorem ext_snoc {s : ByteArray} {a j : Nat} {cur : List UInt8} (h : s.extract a j = ⟨cur.toArray⟩) (ha : a ≤ j) (hj : j < s.size) : s.extract a (j + 1) = ⟨(cur ++ [UInt8.ofNat (s[j]).toNat]).toArray⟩ := by
  have e1 := extract_bytes s a (j - a)
  have e2 := extract_bytes s a (j - a + 1)
  rw [show a + (j - a) = j by omega, h] at e1
  rw [show a + (j - a + 1) = j + 1 by omega] at e2
  have e3 : cur = bytesOf (((lets s).drop a).take (j - a)) := by
    have := congrArg (fun b : ByteArray => b.data.toList) e1
    simpa using this
  rw [e2, e3]
  congr 2
  have hl : j - a < ((lets s).drop a).length := by rw [List.length_drop, lets_length]; omega
  rw [List.take_succ_eq_append_getElem hl]
  simp only [bytesOf, List.map_append, List.map_cons, List.map_nil]
  congr 2
  have := lets_get hj
  have e4 : (lets s)[j]? = some (s[j]).toNat := by rw [← List.head?_drop, this]; rfl
  have e5 : ((lets s).drop a)[j - a]? = some (s[j]).toNat := by rw [List.getElem?_drop, show a + (j - a) = j by omega]; exact e4
  rw [List.getElem?_eq_getElem hl] at e5
  rw [Option.some.inj e5]
theorem ext_nil (s : ByteArray) (a : Nat) : s.extract a a = ⟨([] : List UInt8).toArray⟩ := by
  have e := extract_bytes s a 0
  simpa [bytesOf] using e
theorem ext_len {s : ByteArray} {a j : Nat} {cur : List UInt8} (h : s.extract a j = ⟨cur.toArray⟩) (ha : a ≤ j) (hj : j ≤ s.size) : cur.length = j - a := by
  have e1 := extract_bytes s a (j - a)
  rw [show a + (j - a) = j by omega, h] at e1
  have e3 : cur = bytesOf (((lets s).drop a).take (j - a)) := by
    have := congrArg (fun b : ByteArray => b.data.toList) e1
    simpa using this
  rw [e3]
  simp [bytesOf, lets_length]
  omega

theorem cell_one_at (w : World) (a : Value) (t : TypeId) : ∀ j u, [a][j]? = some u → (w.alloc (.cells #[a] t)).cell? ((⟨w.heap.size, 0, none⟩ : Addr).add j) = some u := by
  intro j u hj
  match j, hj with
  | 0, hj => simp at hj; subst hj; simp [Addr.add]

def LinesPost (s : ByteArray) (w : World) (e : Ending) (w' : World) : Prop :=
  Below w.heap.size w w' ∧ ∃ v, (linesP (lets s)).length ≤ s.size ∧ (∀ l ∈ linesP (lets s), l.length ≤ s.size) ∧ w'.ownsRow w.heap.size 9 1 v (linesP (lets s)).length (strCells (linesP (lets s))) ∧ e = .returned v

set_option maxHeartbeats 4000000 in
set_option maxRecDepth 100000 in
theorem lines_any (s : ByteArray) (w : World) (hs : s.size ≤ 2000000) :
    Calls Tryz.prog 17 #[.string s] w fun e w' => LinesPost s w e w' := by
  go_enter Tryz.func17, Tryz.ntmps17
  go_wp2
  go_loopw [3, 4, 5] (fun v fr i wr => ∃ (j a : Nat) (acc : List (List UInt8)) (cur : List UInt8), fr = .int .i64 (a : Int) ∧ i = .int .i64 (j : Int) ∧ j ≤ s.size ∧ a ≤ j ∧ acc.length ≤ a ∧ (∀ l ∈ acc, l.length ≤ s.size) ∧ s.extract a j = ⟨cur.toArray⟩ ∧ linesRun acc cur ((lets s).drop j) = linesP (lets s) ∧ wr.ownsRow w.heap.size 9 1 v acc.length (strCells acc) ∧ Below w.heap.size w wr) (fun _ _ i _ => s.size - (intOf i).toNat)
  case atStart => exact ⟨0, 0, [], [], rfl, rfl, by omega, by omega, by simp, by simp, ext_nil s 0, rfl, World.ownsRow_nil _ _ _ _, Below.refl _ _⟩
  case round =>
    obtain ⟨i0, hi, hz0, hz1, hz2⟩ := info_parts strInfo
    obtain ⟨j, a, acc, cur, rfl, rfl, hjs, haj, hal, hok, hx, HR, hown, hbl⟩ := hrel
    have hR : Hid (linesRun acc cur ((lets s).drop j) = linesP (lets s)) := HR
    clear HR
    have hzz := hbl.size
    have hcl := ext_len hx haj hjs
    have hrow := owns_row hown
    by_cases hin : j < s.size
    · have hin' : (j : Int) < (s.size : Int) := by omega
      have hD : Hid ((lets s).drop j = (s[j]).toNat :: (lets s).drop (j + 1)) := lets_get hin
      by_cases h10 : (s[j]).toNat = 10
      · have b1 : (((s[j]).toNat : Int) == 10) = true := by simp; omega
        have hE : Hid (linesRun (acc ++ [cur]) [] ((lets s).drop (j + 1)) = linesP (lets s)) := by rw [← hR.out, hD.out, linesRun, if_pos h10]; exact rfl
        have hok' : ∀ l ∈ acc ++ [cur], l.length ≤ s.size := by
          intro l hl
          rcases List.mem_append.1 hl with hl | hl
          · exact hok l hl
          · simp at hl; subst hl; omega
        have haj' : (a : Int) ≤ (j : Int) := by omega
        have hjs' : (j : Int) ≤ (s.size : Int) := by omega
        clear hR hD h10 hok
        go_wp2_with (at_builtin; refine wpList_append_own _ rfl _ _ 30 rfl w.heap.size 9 i0 (.string ⟨#[]⟩) 1 16 Tryz.underlying30 hi hz0 hz1 hz2 rfl (by decide) _ _ _ rfl (hown.alloc _) ⟨wr.heap.size, 0, none⟩ 1 1 [.string ⟨cur.toArray⟩] rfl rfl ?c1 ?c2 ?c3 ?c4 ?c5 ?_)
        case c1 => exact cell_one_at _ _ _
        case c2 => intro u hu; simp at hu; subst hu; rfl
        case c3 => unfold maxLen; omega
        case c4 => omega
        case c5 => simp; omega
        intro v5 w5 own5 grow5 _
        have hb5 : Below w.heap.size w w5 := Below.grown' (hbl.alloc (by omega) _) grow5 hrow
        rw [← strCells_snoc] at own5
        have own6 : w5.ownsRow w.heap.size 9 1 v5 (acc ++ [cur]).length (strCells (acc ++ [cur])) := by simpa using own5
        clear own5 grow5 hrow hown
        generalize hacc : acc ++ [cur] = acc' at *
        have hal' : acc'.length ≤ j + 1 := by rw [← hacc]; simp; omega
        go_wp2
        go_roundw
        case rel => exact ⟨j + 1, j + 1, acc', [], by go_num, by go_num, by omega, by omega, hal', hok', ext_nil s (j + 1), hE.out, own6, hb5⟩
        case measure => simp [intOf]; omega
      · have b1 : (((s[j]).toNat : Int) == 10) = false := by simp; omega
        have hE : Hid (linesRun acc (cur ++ [UInt8.ofNat (s[j]).toNat]) ((lets s).drop (j + 1)) = linesP (lets s)) := by rw [← hR.out, hD.out, linesRun, if_neg h10]; exact rfl
        have hx' := ext_snoc hx haj hin
        clear hR hD h10
        go_wp2
        go_roundw
        case rel => exact ⟨j + 1, a, acc, _, rfl, by go_num, by omega, by omega, hal, hok, hx', hE.out, hown, hbl⟩
        case measure => simp [intOf]; omega
    · have hjs2 : j = s.size := by omega
      have hin' : ¬ (j : Int) < (s.size : Int) := by omega
      have hS : Hid (linesP (lets s) = if cur = [] then acc else acc ++ [cur]) := by rw [← hR.out, lets_end (by omega)]; exact rfl
      clear hR
      by_cases ha : a < s.size
      · have ha' : (a : Int) < (s.size : Int) := by omega
        have hE : Hid (linesP (lets s) = acc ++ [cur]) := by rw [hS.out, if_neg (fun e => by rw [e] at hcl; simp at hcl; omega)]; exact rfl
        have hok' : ∀ l ∈ acc ++ [cur], l.length ≤ s.size := by
          intro l hl
          rcases List.mem_append.1 hl with hl | hl
          · exact hok l hl
          · simp at hl; subst hl; omega
        have haj' : (a : Int) ≤ (s.size : Int) := by omega
        rw [hjs2] at hx
        clear hS hok
        go_wp2_with (at_builtin; refine wpList_append_own _ rfl _ _ 30 rfl w.heap.size 9 i0 (.string ⟨#[]⟩) 1 16 Tryz.underlying30 hi hz0 hz1 hz2 rfl (by decide) _ _ _ rfl (hown.alloc _) ⟨wr.heap.size, 0, none⟩ 1 1 [.string ⟨cur.toArray⟩] rfl rfl ?c1 ?c2 ?c3 ?c4 ?c5 ?_)
        case c2 => rfl
        case c3 => unfold maxLen; omega
        case c4 => omega
        case c5 => omega
        intro v5 w5 own5 grow5 _
        have hb5 : Below w.heap.size w w5 := Below.grown' (hbl.alloc (by omega) _) grow5 hrow
        rw [← strCells_snoc] at own5
        have own6 : w5.ownsRow w.heap.size 9 1 v5 (acc ++ [cur]).length (strCells (acc ++ [cur])) := by simpa using own5
        clear own5 grow5 hrow hown
        have hal' : (acc ++ [cur]).length ≤ s.size := by simp; omega
        go_wp2
        go_ret
        exact ⟨hb5, v5, by rw [hE.out]; exact hal', by rw [hE.out]; exact hok', by rw [hE.out]; exact own6, rfl⟩
      · have ha' : ¬ (a : Int) < (s.size : Int) := by omega
        have hE : Hid (linesP (lets s) = acc) := by rw [hS.out, if_pos (List.length_eq_zero_iff.1 (by omega))]; exact rfl
        clear hS
        go_wp2
        go_ret
        exact ⟨hbl, u3, by rw [hE.out]; omega, by rw [hE.out]; exact hok, by rw [hE.out]; exact hown, rfl⟩
end Go.Proofs.YtdfbhjgpkokebaaGreatDoor
