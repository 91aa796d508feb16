/- history.byName, walked: the members gathered in a map by their names. -/
import Derived.Test.YtkkipnihdiabpaaGreatDoorObjRead
import Derived.Test.YtkkipnihdiabpaaGreatDoorMapFn
namespace Go.Proofs.YtkkipnihdiabpaaGreatDoor
open Go.RowKit Go.Maps

/-- the member of a name -/
def memFind (ms : List Mem) (nm : List UInt8) : Option Mem := ms.find? (fun m => m.1 == nm)
def memFn (ms : List Mem) : Lit → Option Value
  | .string l => (memFind ms l).map (fun m => aggV m.2)
  | _ => none
/-- no name twice -/
def namesOk : List Mem → Bool
  | [] => true
  | m :: r => (memFind r m.1).isNone && namesOk r

theorem memFind_append (a b : List Mem) (nm : List UInt8) : memFind (a ++ b) nm = (memFind a nm).or (memFind b nm) := by
  unfold memFind; rw [List.find?_append]
theorem namesOk_snoc (l : List Mem) (m : Mem) : namesOk (l ++ [m]) = (namesOk l && (memFind l m.1).isNone) := by
  induction l with
  | nil => simp [namesOk, memFind]
  | cons a r ih =>
    rw [List.cons_append, namesOk, namesOk, ih, memFind_append]
    have e1 : memFind [m] a.1 = if m.1 == a.1 then some m else none := by simp [memFind, List.find?_cons]; split <;> simp_all
    have e2 : memFind (a :: r) m.1 = if a.1 == m.1 then some a else memFind r m.1 := by simp [memFind, List.find?_cons]; split <;> simp_all
    rw [e1, e2]
    by_cases h : m.1 = a.1
    · have h' : a.1 = m.1 := h.symm
      simp [h]
    · have h' : ¬ a.1 = m.1 := fun e => h e.symm
      have hb : (m.1 == a.1) = false := by simpa using h
      have hb' : (a.1 == m.1) = false := by simpa using h'
      rw [hb, hb']
      cases memFind r a.1 <;> cases memFind r m.1 <;> cases namesOk r <;> rfl
theorem namesOk_false_append (l r : List Mem) (h : namesOk l = false) : namesOk (l ++ r) = false := by
  induction l with
  | nil => cases h
  | cons a t ih =>
    rw [List.cons_append, namesOk, memFind_append]
    rw [namesOk] at h
    cases hf : memFind t a.1 with
    | some x => simp
    | none =>
      rw [hf] at h
      rw [ih (by simpa using h)]; simp

theorem memFn_snoc {l : List Mem} {m : Mem} (h : memFind l m.1 = none) : memFn (l ++ [m]) (.string m.1) = some (aggV m.2) ∧ ∀ x, x ≠ .string m.1 → memFn (l ++ [m]) x = memFn l x := by
  constructor
  · show ((memFind (l ++ [m]) m.1).map _) = _
    rw [memFind_append, h]; simp [memFind]
  · intro x hx
    cases x with
    | string nm =>
      show ((memFind (l ++ [m]) nm).map _) = (memFind l nm).map _
      rw [memFind_append]
      have : memFind [m] nm = none := by
        have : ¬ m.1 = nm := fun e => hx (by rw [e])
        simp [memFind, this]
      rw [this]; simp
    | _ => rfl

theorem keyOfS {s : ByteArray} (h : s.size ≤ maxLen) : keyOf Tryz.prog 9 (.string s) = some (.string s.data.toList) := Go.WideMaps.keyOf_string_mk Tryz.underlying9 h

theorem memsCells_get (ms : List Mem) (i : Nat) (h : i < ms.length) : (memsCells ms)[i * 4]? = some (.string ⟨(ms[i]).1.toArray⟩) ∧ (memsCells ms)[i * 4 + 1]? = some (.int .i64 (ms[i]).2.1) ∧ (memsCells ms)[i * 4 + 2]? = some (.int .i64 (ms[i]).2.2.1) ∧ (memsCells ms)[i * 4 + 3]? = some (.string ⟨(ms[i]).2.2.2.toArray⟩) := by
  induction ms generalizing i with
  | nil => simp at h
  | cons m r ih =>
    have e : memsCells (m :: r) = cellsM m ++ memsCells r := by simp [memsCells]
    have hl : (cellsM m).length = 4 := rfl
    rw [e]
    cases i with
    | zero => simp [cellsM]
    | succ i =>
      obtain ⟨a, b, c, d⟩ := ih i (by simpa using h)
      refine ⟨?_, ?_, ?_, ?_⟩
      · rw [List.getElem?_append_right (by omega), hl, show (i + 1) * 4 - 4 = i * 4 by omega, a]; simp
      · rw [List.getElem?_append_right (by omega), hl, show (i + 1) * 4 + 1 - 4 = i * 4 + 1 by omega, b]; simp
      · rw [List.getElem?_append_right (by omega), hl, show (i + 1) * 4 + 2 - 4 = i * 4 + 2 by omega, c]; simp
      · rw [List.getElem?_append_right (by omega), hl, show (i + 1) * 4 + 3 - 4 = i * 4 + 3 by omega, d]; simp

/-- the members' row, cell by cell -/
theorem row_cells {w : World} {base g cap : Nat} {ms : List Mem} (h : w.ownsRow base 177 4 (.slice (some ⟨g, 0, none⟩) ms.length cap) ms.length (memsCells ms)) :
    ∀ j u, (memsCells ms)[j]? = some u → w.cell? ⟨g, j, none⟩ = some u := by
  intro j u hj
  have := h.cells (g := g) rfl j u hj
  by_cases h0 : j = 0
  · subst h0; simpa [Addr.add] using this
  · simpa [Addr.add, h0] using this

set_option maxHeartbeats 2000000 in
set_option maxRecDepth 100000 in
theorem byName_run (w : World) (base g cap : Nat) (ms : List Mem) (hown : w.ownsRow base 177 4 (.slice (some ⟨g, 0, none⟩) ms.length cap) ms.length (memsCells ms)) (hl : ms.length ≤ 2000000) (hbd : ∀ m ∈ ms, m.1.length ≤ 100000000) :
    Calls Tryz.prog 36 #[.slice (some ⟨g, 0, none⟩) ms.length cap] w fun e w' =>
      Below w.heap.size w w' ∧ ((namesOk ms = true ∧ MapFn w' 9 w.heap.size ms.length ms.length (memFn ms) ∧ e = .returned (.tuple #[.map (some w.heap.size), .bool true])) ∨ (namesOk ms = false ∧ e = .returned (.tuple #[.map none, .bool false]))) := by
  have hmm := @run_makeMap Tryz.prog
  have hglt : g < w.heap.size := by
    rcases hown.2 with ⟨h1, _⟩ | ⟨g', cap', cur, h1, _, hg, _⟩
    · cases h1
    · simp at h1; rw [h1.1]; exact lt_of_blk hg
  have hcells := row_cells hown
  clear hown
  go_enter Tryz.func36, Tryz.ntmps36
  go_wp2
  go_loopw [12] (fun i wr => ∃ j : Nat, j ≤ ms.length ∧ i = .int .i64 j ∧ namesOk (ms.take j) = true ∧ MapFn wr 9 w.heap.size j j (memFn (ms.take j)) ∧ Below w.heap.size w wr) (fun i _ => ms.length - (intOf i).toNat)
  case atStart => exact ⟨0, Nat.zero_le _, rfl, rfl, (MapFn.made w _).congr (fun x => by cases x <;> rfl), (Below.refl _ _).alloc (Nat.le_refl _) _⟩
  case round =>
    obtain ⟨j, hj, rfl, hno, hmap, hbl⟩ := hrel
    have HN : Hid (namesOk (ms.take j) = true) := hno
    clear hno
    by_cases hlt : j < ms.length
    · obtain ⟨c0, c1, c2, c3⟩ := memsCells_get ms j hlt
      have d0 : wr.cell? ⟨g, j * 4, none⟩ = _ := (hbl.cell (p := ⟨g, j * 4, none⟩) hglt).trans (hcells _ _ c0)
      have d1 : wr.cell? ⟨g, j * 4 + 1, none⟩ = _ := (hbl.cell (p := ⟨g, j * 4 + 1, none⟩) hglt).trans (hcells _ _ c1)
      have d2 : wr.cell? ⟨g, j * 4 + 2, none⟩ = _ := (hbl.cell (p := ⟨g, j * 4 + 2, none⟩) hglt).trans (hcells _ _ c2)
      have d3 : wr.cell? ⟨g, j * 4 + 3, none⟩ = _ := (hbl.cell (p := ⟨g, j * 4 + 3, none⟩) hglt).trans (hcells _ _ c3)
      have hnb := hbd ms[j] (List.getElem_mem hlt)
      have htk : ms.take (j + 1) = ms.take j ++ [ms[j]] := by rw [List.take_succ_eq_append_getElem hlt]
      have HT : Hid (ms.take (j + 1) = ms.take j ++ [ms[j]]) := htk
      clear htk c0 c1 c2 c3 hcells
      generalize ms[j] = m at *
      obtain ⟨nm, mk, mn, mt⟩ := m
      simp only at d0 d1 d2 d3 hnb
      have hlk := (hmap.alloc (.cells #[.string ⟨nm.toArray⟩, .int .i64 mk, .int .i64 mn, .string ⟨mt.toArray⟩] 177)).runOk lawS Tryz.underlying91 (zeroV _) (keyOfS (s := ⟨nm.toArray⟩) (by unfold maxLen; show nm.toArray.size ≤ _; simp; omega))
      have hji : (j : Int) < (ms.length : Int) := by omega
      cases hf : memFind (ms.take j) nm with
      | some m' =>
        have hE : Hid (namesOk ms = false) := by
          have e1 : namesOk (ms.take (j + 1)) = false := by rw [HT.out, namesOk_snoc, HN.out, hf]; rfl
          have := namesOk_false_append (ms.take (j + 1)) (ms.drop (j + 1)) e1
          rw [List.take_append_drop] at this; exact this
        obtain ⟨a1, a2, a3, a4⟩ := m'
        have e2 : memFn (ms.take j) (.string nm) = some (.agg #[.int .i64 a2, .int .i64 a3, .string ⟨a4.toArray⟩]) := by simp [memFn, hf, aggV]
        simp only [e2, Option.getD_some, Option.isSome_some] at hlk
        clear hf e2 HT HN
        go_wp2
        go_ret2
        exact ⟨(hbl.alloc hbl.size _).alloc (by have := hbl.size; simp; omega) _, Or.inr ⟨hE.out, rfl⟩⟩
      | none =>
        have e2 : memFn (ms.take j) (.string nm) = none := by simp [memFn, hf]
        have hN' : Hid (namesOk (ms.take (j + 1)) = true) := by rw [HT.out, namesOk_snoc, HN.out, hf]; exact rfl
        simp only [e2, Option.getD_none, Option.isSome_none] at hlk
        have hsn := memFn_snoc (l := ms.take j) (m := (nm, mk, mn, mt)) hf
        obtain ⟨w', hput, hmap', hkp'⟩ := ((hmap.alloc (.cells #[.string ⟨nm.toArray⟩, .int .i64 mk, .int .i64 mn, .string ⟨mt.toArray⟩] 177)).alloc (.cells #[.int .i64 0, .int .i64 0, .string ⟨#[]⟩] 175)).runPut lawS Tryz.underlying91 (by unfold maxLen; omega) (.agg #[.int .i64 mk, .int .i64 mn, .string ⟨mt.toArray⟩]) (keyOfS (s := ⟨nm.toArray⟩) (by unfold maxLen; show nm.toArray.size ≤ _; simp; omega)) trivial (memFn (ms.take j ++ [(nm, mk, mn, mt)])) hsn.1 hsn.2
        rw [← HT.out] at hmap'
        simp only [e2] at hmap'
        have hmap2 : MapFn w' 9 w.heap.size (j + 1) (j + 1) (memFn (ms.take (j + 1))) := by simpa using hmap'
        have hbl' : Below w.heap.size w w' := ((hbl.alloc hbl.size _).alloc (by have := hbl.size; simp; omega) _).trans (hkp'.below (by have := hbl.size; simp; omega) (by simp))
        clear hf e2 HT HN hsn hmap' hkp'
        go_wp2
        go_roundw
        case rel => exact ⟨j + 1, by omega, by go_num, hN'.out, hmap2, hbl'⟩
        case measure => simp [intOf]; omega
    · obtain rfl : j = ms.length := by omega
      rw [List.take_length] at hmap
      have hE : Hid (namesOk ms = true) := by have := HN.out; rw [List.take_length] at this; exact this
      clear HN
      go_wp2
      go_ret2
      exact ⟨hbl, Or.inl ⟨hE.out, hmap, rfl⟩⟩

set_option maxHeartbeats 1000000 in
theorem byName_nil (w : World) :
    Calls Tryz.prog 36 #[.slice none 0 0] w fun e w' =>
      Below w.heap.size w w' ∧ MapFn w' 9 w.heap.size 0 0 (memFn []) ∧ e = .returned (.tuple #[.map (some w.heap.size), .bool true]) := by
  have hmm := @run_makeMap Tryz.prog
  go_enter Tryz.func36, Tryz.ntmps36
  go_wp2
  refine wp_loop_rounds 1 ?_
  rw [rounds_succ]
  go_wp2
  go_ret2
  exact ⟨(Below.refl _ _).alloc (Nat.le_refl _) _, (MapFn.made w _).congr (fun x => by cases x <;> rfl), rfl⟩

theorem byName_any (w : World) (base : Nat) (v : Value) (ms : List Mem) (hown : w.ownsRow base 177 4 v ms.length (memsCells ms)) (hl : ms.length ≤ 2000000) (hbd : ∀ m ∈ ms, m.1.length ≤ 100000000) :
    Calls Tryz.prog 36 #[v] w fun e w' =>
      Below w.heap.size w w' ∧ ((namesOk ms = true ∧ MapFn w' 9 w.heap.size ms.length ms.length (memFn ms) ∧ e = .returned (.tuple #[.map (some w.heap.size), .bool true])) ∨ (namesOk ms = false ∧ e = .returned (.tuple #[.map none, .bool false]))) := by
  rcases hown.2 with ⟨rfl, h0⟩ | ⟨g, cap, cur, rfl, r⟩
  · have : ms = [] := List.length_eq_zero_iff.1 h0
    subst this
    refine (byName_nil w).mono ?_
    rintro e w' ⟨h1, h2, rfl⟩
    exact ⟨h1, Or.inl ⟨rfl, h2, rfl⟩⟩
  · exact byName_run w base g cap ms hown hl hbd
end Go.Proofs.YtkkipnihdiabpaaGreatDoor
