/- Part of the store, of the lock and of the queue, over a part whose numbers are in range. -/
import Derived.Test.YtkkipnihdiabpaaGreatDoorSrchZZ
import Derived.Test.YtkkipnihdiabpaaGreatDoorSrchYPP
import Derived.Test.YtkkipnihdiabpaaGreatDoorSrchYLL
import Derived.Test.YtkkipnihdiabpaaGreatDoorSrchYQQ
namespace Go.Proofs.YtkkipnihdiabpaaGreatDoor.srch
open Go.RowKit
theorem stDo_wf (s : Ph) (o : OpV) (hs : wfP s) (ho : wfI o.arg) : wfP (stDo s o).1 := by
  unfold stDo
  split
  · split <;> exact hs
  · split
    · exact ho
    · split
      · exact ⟨show (-9223372036854775808 : Int) ≤ 0 by decide, show (0 : Int) ≤ 9223372036854775807 by decide⟩
      · exact hs
theorem lkDo_wf (s : Ph) (o : OpV) (hs : wfL s) (ho : wfI o.cl) : wfL (lkDo s o).1 := by
  unfold lkDo
  split
  · split
    · exact ho
    · exact hs
  · split
    · split
      · exact ⟨show (-9223372036854775808 : Int) ≤ 0 by decide, show (0 : Int) ≤ 9223372036854775807 by decide⟩
      · exact hs
    · exact hs
theorem partP_ok (pa : Option Addr) (pc : Nat) (part : List OpV) (b : Int) (w : World) (hr : OAt w pa part) (hl : part.length ≤ 128) (hb : -9223372036854775808 ≤ b ∧ b ≤ 1000000) (ha : ∀ o ∈ part, wfI o.arg) :
    Calls Tryz.prog 27 #[.agg #[], .slice pa part.length pc, .int .i64 b] w fun e w' => ∃ r a c, Found stDo (ordO part) (false, 0) b r ∧ e = .returned (.agg #[.int .i64 (r.verdict : Int), .slice a r.order.length c, .int .i64 r.left]) ∧ OAt w' a r.order ∧ Below w.heap.size w w' ∧ ∀ g, a = some ⟨g, 0, none⟩ → r.order ≠ [] → w.heap.size ≤ g :=
  partP_any pa pc part b w hr hl hb (fun s o ho hs => stDo_wf s o hs (ordO_all (p := fun o => wfI o.arg) part ⟨by decide, by decide⟩ ha o ho))
theorem partL_ok (pa : Option Addr) (pc : Nat) (part : List OpV) (b : Int) (w : World) (hr : OAt w pa part) (hl : part.length ≤ 128) (hb : -9223372036854775808 ≤ b ∧ b ≤ 1000000) (ha : ∀ o ∈ part, wfI o.cl) :
    Calls Tryz.prog 33 #[.agg #[], .slice pa part.length pc, .int .i64 b] w fun e w' => ∃ r a c, Found lkDo (ordO part) (false, 0) b r ∧ e = .returned (.agg #[.int .i64 (r.verdict : Int), .slice a r.order.length c, .int .i64 r.left]) ∧ OAt w' a r.order ∧ Below w.heap.size w w' ∧ ∀ g, a = some ⟨g, 0, none⟩ → r.order ≠ [] → w.heap.size ≤ g :=
  partL_any pa pc part b w hr hl hb (fun s o ho hs => lkDo_wf s o hs (ordO_all (p := fun o => wfI o.cl) part ⟨by decide, by decide⟩ ha o ho))
theorem partQ_ok (pa : Option Addr) (pc : Nat) (part : List OpV) (b : Int) (w : World) (hr : OAt w pa part) (hl : part.length ≤ 128) (hb : -9223372036854775808 ≤ b ∧ b ≤ 1000000) (ha : ∀ o ∈ part, wfI o.arg) (hG : Glob w) (hp : Pow w) :
    Calls Tryz.prog 31 #[.agg #[], .slice pa part.length pc, .int .i64 b] w fun e w' => ∃ r a c, Found quDo (ordO part) [] b r ∧ e = .returned (.agg #[.int .i64 (r.verdict : Int), .slice a r.order.length c, .int .i64 r.left]) ∧ OAt w' a r.order ∧ Below w.heap.size w w' ∧ ∀ g, a = some ⟨g, 0, none⟩ → r.order ≠ [] → w.heap.size ≤ g :=
  partQ_any pa pc part b w hr hl hb ⟨fun o ho => ordO_all (p := fun o => wfI o.arg) part ⟨by decide, by decide⟩ ha o ho, hG, hp⟩
end Go.Proofs.YtkkipnihdiabpaaGreatDoor.srch
