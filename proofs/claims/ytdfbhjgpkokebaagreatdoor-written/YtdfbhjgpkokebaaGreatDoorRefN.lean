/- The reference's fits and repeated, walked. -/
import Derived.Test.YtdfbhjgpkokebaaGreatDoorRefM
namespace Go.Proofs.YtdfbhjgpkokebaaGreatDoor
open Go.RowKit

def fitsR (call : Bool) : Nat → List RM → Nat
  | n, [] => n
  | n, x :: r => if fitP x.1 x.2.1 call = true then fitsR call (n + 1) r else fitsR call n r
/-- does a name stand twice? -/
def repR (ms : List RM) : List RM → Bool
  | [] => false
  | x :: r => if 1 < (memR x.1 zeroRM 0 ms).2 then true else repR ms r

/-- the cells of the member at a place -/
theorem RRow.at {w wr : World} {o : Option Addr} {ms : List RM} (h : RRow w o ms) (k : Below w.heap.size w wr) {j : Nat} (hlt : j < ms.length) :
    ∃ g, o = some ⟨g, 0, none⟩ ∧ g < w.heap.size ∧ wr.cell? ⟨g, j * 4, none⟩ = some (.string ⟨(ms[j]).1.toArray⟩) ∧ wr.cell? ⟨g, j * 4 + 1, none⟩ = some (.int .u8 ((ms[j]).2.1 : Int)) ∧
      wr.cell? ⟨g, j * 4 + 2, none⟩ = some (.string ⟨(ms[j]).2.2.1.toArray⟩) ∧ wr.cell? ⟨g, j * 4 + 3, none⟩ = some (.int .i64 (ms[j]).2.2.2) := by
  obtain ⟨g, h1, hg, hcells⟩ := h (fun e => by rw [e] at hlt; simp at hlt)
  obtain ⟨c0, c1, c2, c3⟩ := rmCells_get ms j hlt
  exact ⟨g, h1, hg, (k.cell (p := ⟨g, j * 4, none⟩) hg).trans (hcells _ _ c0), (k.cell (p := ⟨g, j * 4 + 1, none⟩) hg).trans (hcells _ _ c1),
    (k.cell (p := ⟨g, j * 4 + 2, none⟩) hg).trans (hcells _ _ c2), (k.cell (p := ⟨g, j * 4 + 3, none⟩) hg).trans (hcells _ _ c3)⟩

set_option maxHeartbeats 2000000 in
set_option maxRecDepth 100000 in
theorem rfits_any (o : Option Addr) (cap : Nat) (ms : List RM) (call : Bool) (w : World) (hr : RRow w o ms) (hl : ms.length ≤ 2000000) (hk : ∀ m ∈ ms, m.2.1 < 256) :
    Calls Tryz.prog 54 #[.slice o ms.length cap, .bool call] w fun e w' => Below w.heap.size w w' ∧ e = .returned (.int .i64 (fitsR call 0 ms : Int)) := by
  go_enter Tryz.func54, Tryz.ntmps54
  go_wp2
  go_loopw [5, 6] (fun nv i wr => ∃ (j n : Nat), nv = .int .i64 (n : Int) ∧ i = .int .i64 (j : Int) ∧ j ≤ ms.length ∧ n ≤ j ∧ fitsR call n (ms.drop j) = fitsR call 0 ms ∧ Below w.heap.size w wr) (fun _ i _ => ms.length - (intOf i).toNat)
  case atStart => exact ⟨0, 0, rfl, rfl, by omega, by omega, rfl, Below.refl _ _⟩
  case round =>
    obtain ⟨j, n, rfl, rfl, hj, hnj, HR, hbl⟩ := hrel
    have hR : Hid (fitsR call n (ms.drop j) = fitsR call 0 ms) := HR
    clear HR
    by_cases hlt : j < ms.length
    · obtain ⟨g, rfl, hg, d0, d1, d2, d3⟩ := hr.at hbl hlt
      have hS : Hid (fitsR call n (ms[j] :: ms.drop (j + 1)) = fitsR call 0 ms) := by rw [← hR.out, ← List.drop_eq_getElem_cons hlt]; exact rfl
      have hk' := hk ms[j] (List.getElem_mem hlt)
      clear hR hr hk
      generalize ms[j] = x at *
      obtain ⟨xn, xk, xs, xv⟩ := x
      simp only at d0 d1 d2 d3 hk'
      have hji : (j : Int) < (ms.length : Int) := by omega
      go_wp2_with fail
      refine (fit_any ⟨xn.toArray⟩ xk ⟨xs.toArray⟩ xv call _ hk').mono ?_
      rintro e w2 ⟨hb2, rfl⟩
      have hbl2 := hbl.trans (hb2.mono hbl.size)
      rw [show (⟨xn.toArray⟩ : ByteArray).toList = xn by rw [ByteArray.toList_eq]]
      cases hf : fitP xn xk call with
      | true =>
        have hE : Hid (fitsR call (n + 1) (ms.drop (j + 1)) = fitsR call 0 ms) := by rw [← hS.out, fitsR, if_pos hf]; exact rfl
        clear hS hf
        go_wp2
        go_roundw
        case rel => exact ⟨j + 1, n + 1, by go_num, by go_num, by omega, by omega, hE.out, hbl2⟩
        case measure => simp [intOf]; omega
      | false =>
        have hE : Hid (fitsR call n (ms.drop (j + 1)) = fitsR call 0 ms) := by rw [← hS.out, fitsR, if_neg (by rw [hf]; simp)]; exact rfl
        clear hS hf
        go_wp2
        go_roundw
        case rel => exact ⟨j + 1, n, rfl, by go_num, by omega, by omega, hE.out, hbl2⟩
        case measure => simp [intOf]; omega
    · have hE : Hid (fitsR call 0 ms = n) := by rw [← hR.out, List.drop_eq_nil_of_le (by omega)]; exact rfl
      have hji : ¬ (j : Int) < (ms.length : Int) := by omega
      clear hR
      go_wp2
      go_ret
      exact ⟨hbl, by rw [hE.out]; rfl⟩

set_option maxHeartbeats 2000000 in
set_option maxRecDepth 100000 in
theorem repeated_any (o : Option Addr) (cap : Nat) (ms : List RM) (w : World) (hr : RRow w o ms) (hl : ms.length ≤ 2000000) :
    Calls Tryz.prog 28 #[.slice o ms.length cap] w fun e w' => Below w.heap.size w w' ∧ e = .returned (.bool (repR ms ms)) := by
  go_enter Tryz.func28, Tryz.ntmps28
  go_wp2
  go_loopw [3] (fun i wr => ∃ (j : Nat), i = .int .i64 (j : Int) ∧ j ≤ ms.length ∧ repR ms (ms.drop j) = repR ms ms ∧ Below w.heap.size w wr) (fun i _ => ms.length - (intOf i).toNat)
  case atStart => exact ⟨0, rfl, by omega, rfl, Below.refl _ _⟩
  case round =>
    obtain ⟨j, rfl, hj, HR, hbl⟩ := hrel
    have hR : Hid (repR ms (ms.drop j) = repR ms ms) := HR
    clear HR
    by_cases hlt : j < ms.length
    · have hrr := hr.below hbl
      obtain ⟨g, rfl, hg, d0, d1, d2, d3⟩ := hr.at hbl hlt
      have hS : Hid (repR ms (ms[j] :: ms.drop (j + 1)) = repR ms ms) := by rw [← hR.out, ← List.drop_eq_getElem_cons hlt]; exact rfl
      clear hR
      generalize ms[j] = x at *
      obtain ⟨xn, xk, xs, xv⟩ := x
      simp only at d0 d1 d2 d3
      have hji : (j : Int) < (ms.length : Int) := by omega
      go_wp2_with fail
      refine (rmember_any (some ⟨g, 0, none⟩) cap ms xn _ hrr hl).mono ?_
      rintro e w2 ⟨hb2, rfl⟩
      have hbl2 := hbl.trans (hb2.mono hbl.size)
      clear hrr hr
      generalize hmr : memR xn zeroRM 0 ms = q at *
      obtain ⟨⟨m1, m2, m3, m4⟩, c⟩ := q
      unfold valRM
      by_cases h1 : 1 < c
      · have hE : Hid (repR ms ms = true) := by rw [← hS.out, repR]; simp only [hmr]; rw [if_pos h1]; exact rfl
        have h1' : (1 : Int) < (c : Int) := by omega
        clear hS hmr
        go_wp2
        go_ret
        exact ⟨hbl2.alloc hbl2.size _, by rw [hE.out]; rfl⟩
      · have hE : Hid (repR ms (ms.drop (j + 1)) = repR ms ms) := by rw [← hS.out, repR]; simp only [hmr]; rw [if_neg h1]; exact rfl
        have h1' : ¬ (1 : Int) < (c : Int) := by omega
        clear hS hmr
        go_wp2
        go_roundw
        case rel => exact ⟨j + 1, by go_num, by omega, hE.out, hbl2.alloc hbl2.size _⟩
        case measure => simp [intOf]; omega
    · have hE : Hid (repR ms ms = false) := by rw [← hR.out, List.drop_eq_nil_of_le (by omega)]; exact rfl
      have hji : ¬ (j : Int) < (ms.length : Int) := by omega
      clear hR
      go_wp2
      go_ret
      exact ⟨hbl, by rw [hE.out]; rfl⟩
end Go.Proofs.YtdfbhjgpkokebaaGreatDoor
