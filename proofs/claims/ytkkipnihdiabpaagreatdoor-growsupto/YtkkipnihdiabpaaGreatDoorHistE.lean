/- history.having and MayGive, walked. -/
import Derived.Test.YtkkipnihdiabpaaGreatDoorHistD
namespace Go.Proofs.YtkkipnihdiabpaaGreatDoor
open Go.RowKit Go.Maps

def sKey : List UInt8 := [107, 101, 121]
def sArg : List UInt8 := [97, 114, 103]
def sExp : List UInt8 := [101, 120, 112]
/-- which of key, arg, exp are there -/
def havingP (ms : List Mem) : Int := (if (memFind ms sKey).isSome then 1 else 0) + (if (memFind ms sArg).isSome then 2 else 0) + (if (memFind ms sExp).isSome then 4 else 0)

theorem memFn_at (ms : List Mem) (nm : List UInt8) : ∃ a b c, (memFn ms (.string nm)).getD (.agg #[.int .i64 0, .int .i64 0, .string ⟨#[]⟩]) = .agg #[.int .i64 a, .int .i64 b, .string c] ∧ (memFn ms (.string nm)).isSome = (memFind ms nm).isSome := by
  cases h : memFind ms nm with
  | none => exact ⟨0, 0, ⟨#[]⟩, by simp [memFn, h], by simp [memFn, h]⟩
  | some m => exact ⟨m.2.1, m.2.2.1, ⟨m.2.2.2.toArray⟩, by simp [memFn, h, aggV], by simp [memFn, h]⟩

set_option maxHeartbeats 2000000 in
set_option maxRecDepth 100000 in
theorem having_any (w : World) (bm n sz : Nat) (ms : List Mem) (hmap : MapFn w 9 bm n sz (memFn ms)) :
    Calls Tryz.prog 75 #[.map (some bm)] w fun e w' => e = .returned (.int .u8 (havingP ms)) ∧ Below w.heap.size w w' := by
  obtain ⟨k1, k2, k3, hk, hkb⟩ := memFn_at ms sKey
  obtain ⟨a1, a2, a3, ha, hab⟩ := memFn_at ms sArg
  obtain ⟨e1, e2, e3, he, heb⟩ := memFn_at ms sExp
  have l1 := hmap.runOk lawS Tryz.underlying91 (zeroV _) (keyOfS (s := ⟨#[107, 101, 121]⟩) (by decide))
  have l2 := (hmap.alloc (.cells #[.int .i64 k1, .int .i64 k2, .string k3] 175)).runOk lawS Tryz.underlying91 (zeroV _) (keyOfS (s := ⟨#[97, 114, 103]⟩) (by decide))
  have l3 := ((hmap.alloc (.cells #[.int .i64 k1, .int .i64 k2, .string k3] 175)).alloc (.cells #[.int .i64 a1, .int .i64 a2, .string a3] 175)).runOk lawS Tryz.underlying91 (zeroV _) (keyOfS (s := ⟨#[101, 120, 112]⟩) (by decide))
  rw [show ((⟨#[107, 101, 121]⟩ : ByteArray)).data.toList = sKey from rfl, hk, hkb] at l1
  rw [show ((⟨#[97, 114, 103]⟩ : ByteArray)).data.toList = sArg from rfl, ha, hab] at l2
  rw [show ((⟨#[101, 120, 112]⟩ : ByteArray)).data.toList = sExp from rfl, he, heb] at l3
  unfold havingP
  clear hk hkb ha hab he heb hmap
  generalize (memFind ms sKey).isSome = x at *
  generalize (memFind ms sArg).isSome = y at *
  generalize (memFind ms sExp).isSome = z at *
  cases x <;> cases y <;> cases z
  all_goals
    go_enter Tryz.func75, Tryz.ntmps75
    go_wp2
    go_ret
    refine ⟨?_, (((Below.refl _ _).alloc (Nat.le_refl _) _).alloc (by simp) _).alloc (by simp; omega) _⟩
    first
      | rfl
      | (simp; done)
      | decide

/-- may an operation whose kinds are g give a value of that kind? -/
def mayGive (g kind : Int) : Bool := decide (0 ≤ kind ∧ kind ≤ 2) && decide ((g / (2 ^ kind.toNat)) % 2 = 1)

set_option maxHeartbeats 2000000 in
set_option maxRecDepth 100000 in
theorem mayGive_any (m n : ByteArray) (nd g kind : Int) (w : World) (hg : g = 0 ∨ g = 1 ∨ g = 2 ∨ g = 3 ∨ g = 4) (h0 : kind = 0 ∨ kind = 1 ∨ kind = 2) :
    Calls Tryz.prog 76 #[.agg #[.string m, .string n, .int .u8 nd, .int .u8 g], .int .i64 kind] w fun e w' => e = .returned (.bool (mayGive g kind)) ∧ Below w.heap.size w w' := by
  rcases h0 with rfl | rfl | rfl <;> rcases hg with rfl | rfl | rfl | rfl | rfl
  all_goals
    go_enter Tryz.func76, Tryz.ntmps76
    go_wp2
    go_quiet (fail)
    go_wp2
    go_ret
    refine ⟨?_, below_drewN ((Below.refl _ _).alloc (Nat.le_refl _) _) _⟩
    first
      | rfl
      | (simp [mayGive]; done)
      | decide
end Go.Proofs.YtkkipnihdiabpaaGreatDoor
