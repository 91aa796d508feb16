/- Several texts in one. -/
import Derived.Test.YtdfbhjgpkokebaaGreatDoorObjRead
import Derived.Test.YtdfbhjgpkokebaaGreatDoorRefH
import Derived.Test.YtdfbhjgpkokebaaGreatDoorRefL
import Derived.Lib.MapLaws
import Derived.Lib.ValidLaws
/- Bytes against runes: characters, strings, pieces. -/
namespace Go.Proofs.YtdfbhjgpkokebaaGreatDoor
open Go.RowKit

def nats (l : List UInt8) : List Nat := l.map UInt8.toNat
def badD (l : List UInt8) : Prop := (Lib.decodeL l).1 = 65533 ∧ (Lib.decodeL l).2 = 1

theorem charFin_le {n least v : Int} (h : charFin n least (some v) ≠ 0) : least ≤ v ∧ v ≤ 1114111 ∧ (v < 55296 ∨ 57343 < v) ∧ charFin n least (some v) = n := by
  unfold charFin at h ⊢
  dsimp only at h ⊢
  split at h
  · exact absurd rfl h
  · rename_i hh; rw [if_neg hh]; omega
theorem charP_two {b c : Nat} {r : List Nat} (h1 : 194 ≤ b) (h2 : b < 224) (h3 : 128 ≤ c) (h4 : c ≤ 191) : charP (b :: c :: r) = 2 := by
  rw [charP, if_neg (by omega), if_pos ⟨h1, h2⟩, contRun, if_pos ⟨h3, h4⟩, contRun, charFin, if_neg (by omega)]
theorem charP_three {b c d : Nat} {r : List Nat} (h1 : 224 ≤ b) (h2 : b < 240) (h3 : 128 ≤ c) (h4 : c ≤ 191) (h5 : 128 ≤ d) (h6 : d ≤ 191) (v : Nat) (hv : v = (b - 224) * 4096 + (c - 128) * 64 + (d - 128)) (h7 : 2048 ≤ v) (h8 : v < 55296 ∨ 57343 < v) : charP (b :: c :: d :: r) = 3 := by
  rw [charP, if_neg (by omega), if_neg (by omega), if_pos ⟨h1, h2⟩, contRun, if_pos ⟨h3, h4⟩, contRun, if_pos ⟨h5, h6⟩, contRun, charFin, if_neg (by omega)]
theorem charP_four {b c d e : Nat} {r : List Nat} (h1 : 240 ≤ b) (h2 : b < 245) (h3 : 128 ≤ c) (h4 : c ≤ 191) (h5 : 128 ≤ d) (h6 : d ≤ 191) (h5' : 128 ≤ e) (h6' : e ≤ 191) (v : Nat) (hv : v = (b - 240) * 262144 + (c - 128) * 4096 + (d - 128) * 64 + (e - 128)) (h7 : 65536 ≤ v) (h8 : v ≤ 1114111) : charP (b :: c :: d :: e :: r) = 4 := by
  rw [charP, if_neg (by omega), if_neg (by omega), if_neg (by omega), if_pos ⟨h1, h2⟩, contRun, if_pos ⟨h3, h4⟩, contRun, if_pos ⟨h5, h6⟩, contRun, if_pos ⟨h5', h6'⟩, contRun, charFin, if_neg (by omega)]
theorem contRun_some {m : Nat} {v x : Int} {l : List Nat} (h : contRun (m + 1) v l = some x) : ∃ c t, l = c :: t ∧ 128 ≤ c ∧ c ≤ 191 ∧ contRun m (64 * v + (c : Int) - 128) t = some x := by
  cases l with
  | nil => simp [contRun] at h
  | cons c t =>
    rw [contRun] at h
    split at h
    · rename_i hc; exact ⟨c, t, rfl, hc.1, hc.2, h⟩
    · cases h
theorem charFin_some {n least : Int} {o : Option Int} (h : charFin n least o ≠ 0) : ∃ v, o = some v := by
  cases o with
  | none => exact absurd rfl h
  | some v => exact ⟨v, rfl⟩
/-- a character, by its bytes -/
theorem charP_shape {b : Nat} {t : List Nat} (hb : 128 ≤ b) (h : charP (b :: t) ≠ 0) :
    (∃ c r, t = c :: r ∧ 194 ≤ b ∧ b < 224 ∧ 128 ≤ c ∧ c ≤ 191) ∨
    (∃ c d r, t = c :: d :: r ∧ 224 ≤ b ∧ b < 240 ∧ 128 ≤ c ∧ c ≤ 191 ∧ 128 ≤ d ∧ d ≤ 191 ∧ 2048 ≤ (b - 224) * 4096 + (c - 128) * 64 + (d - 128) ∧ ((b - 224) * 4096 + (c - 128) * 64 + (d - 128) < 55296 ∨ 57343 < (b - 224) * 4096 + (c - 128) * 64 + (d - 128))) ∨
    (∃ c d e r, t = c :: d :: e :: r ∧ 240 ≤ b ∧ b < 245 ∧ 128 ≤ c ∧ c ≤ 191 ∧ 128 ≤ d ∧ d ≤ 191 ∧ 128 ≤ e ∧ e ≤ 191 ∧ 65536 ≤ (b - 240) * 262144 + (c - 128) * 4096 + (d - 128) * 64 + (e - 128) ∧ (b - 240) * 262144 + (c - 128) * 4096 + (d - 128) * 64 + (e - 128) ≤ 1114111) := by
  rw [charP, if_neg (by omega)] at h
  split at h
  · rename_i hr
    obtain ⟨v, hv⟩ := charFin_some h
    obtain ⟨c, r, rfl, h1, h2, h3⟩ := contRun_some hv
    exact Or.inl ⟨c, r, rfl, hr.1, hr.2, h1, h2⟩
  · split at h
    · rename_i hr
      obtain ⟨v, hv⟩ := charFin_some h
      rw [hv] at h
      obtain ⟨c, r, rfl, h1, h2, h3⟩ := contRun_some hv
      obtain ⟨d, r, rfl, h4, h5, h6⟩ := contRun_some h3
      rw [contRun] at h6
      have := charFin_le h
      simp at h6
      exact Or.inr (Or.inl ⟨c, d, r, rfl, hr.1, hr.2, h1, h2, h4, h5, by omega, by omega⟩)
    · split at h
      · rename_i hr
        obtain ⟨v, hv⟩ := charFin_some h
        rw [hv] at h
        obtain ⟨c, r, rfl, h1, h2, h3⟩ := contRun_some hv
        obtain ⟨d, r, rfl, h4, h5, h6⟩ := contRun_some h3
        obtain ⟨e, r, rfl, h7, h8, h9⟩ := contRun_some h6
        rw [contRun] at h9
        have := charFin_le h
        simp at h9
        exact Or.inr (Or.inr ⟨c, d, e, r, rfl, hr.1, hr.2, h1, h2, h4, h5, h7, h8, by omega, by omega⟩)
      · exact absurd rfl h

theorem nats_cons (a : UInt8) (t : List UInt8) : nats (a :: t) = a.toNat :: nats t := rfl
theorem nats_cons_inv {l : List UInt8} {c : Nat} {r : List Nat} (h : nats l = c :: r) : ∃ a t, l = a :: t ∧ a.toNat = c ∧ nats t = r := by
  cases l with
  | nil => cases h
  | cons a t => rw [nats_cons] at h; injection h with h1 h2; exact ⟨a, t, rfl, h1, h2⟩

theorem not_bad_char {a : UInt8} {t : List UInt8} (ha : 128 ≤ a.toNat) (hv : ¬ badD (a :: t)) : charP (nats (a :: t)) = ((Lib.decodeL (a :: t)).2 : Int) := by
  unfold badD at hv
  rw [Lib.decodeL_N] at hv ⊢
  have ka := a.toNat_lt
  rcases Lib.decodeN_shape (a :: t).length ((a :: t).getD 0 0).toNat ((a :: t).getD 1 0).toNat ((a :: t).getD 2 0).toNat ((a :: t).getD 3 0).toNat with ⟨c, e⟩ | ⟨c1, c2, c3, cv, e⟩ | ⟨c1, c2, c3, c4, cv, cs, e⟩ | ⟨c1, c2, c3, c4, c5, cv, cw, e⟩ | e
  · simp at c; omega
  · rw [e]
    clear e hv
    cases t with
    | nil => simp at c2
    | cons b t =>
      have kb := b.toNat_lt
      simp only [List.getD_cons_zero, List.getD_cons_succ] at c1 c3 cv
      exact charP_two (by omega) (by omega) (by omega) (by omega)
  · rw [e]
    clear e hv
    cases t with
    | nil => simp at c2
    | cons b t =>
      cases t with
      | nil => simp at c2
      | cons c t =>
        have kb := b.toNat_lt
        have kc := c.toNat_lt
        simp only [List.getD_cons_zero, List.getD_cons_succ] at c1 c3 c4 cv cs
        rw [show a.toNat % 16 = a.toNat - 224 by omega, show b.toNat % 64 = b.toNat - 128 by omega, show c.toNat % 64 = c.toNat - 128 by omega] at cv cs
        exact charP_three (by omega) (by omega) (by omega) (by omega) (by omega) (by omega) _ rfl cv (by omega)
  · rw [e]
    clear e hv
    cases t with
    | nil => simp at c2
    | cons b t =>
      cases t with
      | nil => simp at c2
      | cons c t =>
        cases t with
        | nil => simp at c2
        | cons d t =>
          have kb := b.toNat_lt
          have kc := c.toNat_lt
          have kd := d.toNat_lt
          simp only [List.getD_cons_zero, List.getD_cons_succ] at c1 c3 c4 c5 cv cw
          rw [show a.toNat % 8 = a.toNat - 240 by omega, show b.toNat % 64 = b.toNat - 128 by omega, show c.toNat % 64 = c.toNat - 128 by omega, show d.toNat % 64 = d.toNat - 128 by omega] at cv cw
          have h245 : a.toNat < 245 := by omega
          exact charP_four (by omega) h245 (by omega) (by omega) (by omega) (by omega) (by omega) (by omega) _ rfl cv cw
  · rw [e] at hv; exact absurd ⟨rfl, rfl⟩ hv
theorem char_not_bad {a : UInt8} {t : List UInt8} (ha : 128 ≤ a.toNat) (h : charP (nats (a :: t)) ≠ 0) : ¬ badD (a :: t) := by
  unfold badD
  rw [Lib.decodeL_N]
  have ka := a.toNat_lt
  rcases charP_shape ha h with ⟨c, r, ht, h1⟩ | ⟨c, d, r, ht, h1⟩ | ⟨c, d, e, r, ht, h1⟩
  · obtain ⟨b, t, rfl, rfl, _⟩ := nats_cons_inv ht
    simp only [List.getD_cons_zero, List.getD_cons_succ, List.length_cons]
    unfold Lib.decodeN
    rw [if_neg (by omega), if_pos (by omega), if_pos (by omega)]
    dsimp only; omega
  · obtain ⟨b, t, rfl, rfl, ht2⟩ := nats_cons_inv ht
    obtain ⟨c, t, rfl, rfl, _⟩ := nats_cons_inv ht2
    simp only [List.getD_cons_zero, List.getD_cons_succ, List.length_cons]
    unfold Lib.decodeN
    rw [if_neg (by omega), if_neg (by omega), if_pos (by omega), if_pos (by omega)]
    dsimp only; omega
  · obtain ⟨b, t, rfl, rfl, ht2⟩ := nats_cons_inv ht
    obtain ⟨c, t, rfl, rfl, ht3⟩ := nats_cons_inv ht2
    obtain ⟨d, t, rfl, rfl, _⟩ := nats_cons_inv ht3
    simp only [List.getD_cons_zero, List.getD_cons_succ, List.length_cons]
    unfold Lib.decodeN
    rw [if_neg (by omega), if_neg (by omega), if_neg (by omega), if_pos (by omega), if_pos (by omega)]
    dsimp only; omega
theorem dec_big {a : UInt8} {t : List UInt8} (ha : 128 ≤ a.toNat) : 128 ≤ (Lib.decodeL (a :: t)).1 := by
  rw [Lib.decodeL_N]
  rcases Lib.decodeN_shape (a :: t).length ((a :: t).getD 0 0).toNat ((a :: t).getD 1 0).toNat ((a :: t).getD 2 0).toNat ((a :: t).getD 3 0).toNat with ⟨c, e⟩ | ⟨c1, c2, c3, cv, e⟩ | ⟨c1, c2, c3, c4, cv, cs, e⟩ | ⟨c1, c2, c3, c4, c5, cv, cw, e⟩ | e
  · simp at c; omega
  all_goals rw [e]; dsimp only; omega

end Go.Proofs.YtdfbhjgpkokebaaGreatDoor
/- Bytes against runes: the runes of a text; what reads letters below 128 alone sees no difference. -/
namespace Go.Proofs.YtdfbhjgpkokebaaGreatDoor
open Go.RowKit

def RUf : Nat → List UInt8 → List Nat
  | 0, _ => []
  | f + 1, l => if l = [] then [] else (Lib.decodeL l).1 :: RUf f (l.drop (Lib.decodeL l).2)
/-- the runes of a text -/
def RU (l : List UInt8) : List Nat := RUf l.length l
theorem RUf_fuel (n : Nat) : ∀ (l : List UInt8) (f g : Nat), l.length ≤ n → l.length ≤ f → l.length ≤ g → RUf f l = RUf g l := by
  induction n with
  | zero =>
    intro l f g h _ _
    have : l = [] := List.length_eq_zero_iff.1 (by omega)
    subst this
    cases f <;> cases g <;> simp [RUf]
  | succ n ih =>
    intro l f g h hf hg
    cases l with
    | nil => cases f <;> cases g <;> simp [RUf]
    | cons a t =>
      simp only [List.length_cons] at hf hg h
      obtain ⟨f, rfl⟩ : ∃ x, f = x + 1 := ⟨f - 1, by omega⟩
      obtain ⟨g, rfl⟩ : ∃ x, g = x + 1 := ⟨g - 1, by omega⟩
      unfold RUf
      rw [if_neg (by simp), if_neg (by simp)]
      have hw := Lib.decodeL_width (a :: t)
      have hl : ((a :: t).drop (Lib.decodeL (a :: t)).2).length ≤ t.length := by
        simp only [List.length_drop, List.length_cons]; omega
      rw [ih _ f g (by omega) (by omega) (by omega)]
theorem RU_step (l : List UInt8) (hne : l ≠ []) : RU l = (Lib.decodeL l).1 :: RU (l.drop (Lib.decodeL l).2) := by
  have hl : 0 < l.length := List.length_pos_iff.2 hne
  have hw := Lib.decodeL_width l
  obtain ⟨n, hn⟩ : ∃ n, l.length = n + 1 := ⟨l.length - 1, by omega⟩
  unfold RU
  rw [hn, RUf, if_neg hne]
  rw [RUf_fuel _ _ n ((l.drop (Lib.decodeL l).2).length) (Nat.le_refl _) (by simp only [List.length_drop]; omega) (Nat.le_refl _)]
theorem RU_nil : RU [] = [] := rfl
theorem RU_cons (a : UInt8) (t : List UInt8) (h : a.toNat < 128) : RU (a :: t) = a.toNat :: RU t := by
  rw [RU_step _ (by simp), Lib.decodeL_ascii a t h]; rfl
theorem RU_len (n : Nat) : ∀ l : List UInt8, l.length ≤ n → (RU l).length ≤ l.length := by
  induction n with
  | zero => intro l h; have : l = [] := List.length_eq_zero_iff.1 (by omega); subst this; simp [RU_nil]
  | succ n ih =>
    intro l h
    cases l with
    | nil => simp [RU_nil]
    | cons a t =>
      rw [RU_step _ (by simp)]
      have hw := Lib.decodeL_width (a :: t)
      have := ih ((a :: t).drop (Lib.decodeL (a :: t)).2) (by simp only [List.length_drop, List.length_cons] at *; omega)
      simp only [List.length_drop, List.length_cons] at *; omega
theorem runesL_RU (s : ByteArray) : ∀ (f i : Nat), s.size ≤ i + f → runesL s f i = RU (s.data.toList.drop i) := by
  intro f
  induction f with
  | zero =>
    intro i h
    rw [List.drop_eq_nil_of_le (by simpa using h)]; rfl
  | succ f ih =>
    intro i h
    unfold runesL
    by_cases hi : i < s.size
    · rw [if_pos hi, RU_step _ (by intro e; have := congrArg List.length e; simp at this; have : s.data.size = s.size := rfl; omega), Lib.decodeL_drop, List.drop_drop]
      have hw := Lib.decodeL_width (s.data.toList.drop i)
      rw [Lib.decodeL_drop] at hw
      rw [ih _ (by omega)]
    · rw [if_neg hi, List.drop_eq_nil_of_le (by simpa using hi)]; rfl
theorem runesOf_RU (s : ByteArray) : runesOf s = RU s.data.toList := by
  unfold runesOf; rw [runesL_RU s _ _ (by omega), List.drop_zero]

/-- alike up to the first letter that is 128 or more -/
def Sim : List Nat → List Nat → Prop
  | [], [] => True
  | a :: s, b :: t => (a = b ∧ a < 128 ∧ Sim s t) ∨ (128 ≤ a ∧ 128 ≤ b)
  | _, _ => False
theorem sim_RU (n : Nat) : ∀ l : List UInt8, l.length ≤ n → Sim (nats l) (RU l) := by
  induction n with
  | zero => intro l h; have : l = [] := List.length_eq_zero_iff.1 (by omega); subst this; exact trivial
  | succ n ih =>
    intro l h
    cases l with
    | nil => exact trivial
    | cons a t =>
      by_cases ha : a.toNat < 128
      · rw [RU_cons a t ha, nats_cons]
        exact Or.inl ⟨rfl, ha, ih t (by simpa using h)⟩
      · rw [RU_step _ (by simp), nats_cons]
        exact Or.inr ⟨by omega, dec_big (by omega)⟩

/-- the first m letters are there and below 128 -/
def Pre : Nat → List Nat → Prop
  | 0, _ => True
  | _ + 1, [] => False
  | m + 1, c :: t => c < 128 ∧ Pre m t
theorem Pre.sim {m : Nat} : ∀ {a b : List Nat}, Sim a b → Pre m a → Sim (a.drop m) (b.drop m) ∧ b.take m = a.take m ∧ Pre m b := by
  induction m with
  | zero => intro a b h _; exact ⟨h, rfl, trivial⟩
  | succ m ih =>
    intro a b h hp
    match a, b, h, hp with
    | x :: s, y :: t, h, hp =>
      obtain ⟨hx, hp⟩ := hp
      rcases h with ⟨rfl, _, h⟩ | ⟨h, _⟩
      · have := ih h hp
        exact ⟨this.1, by simp [this.2.1], hx, this.2.2⟩
      · omega
theorem Pre.bytes {m : Nat} : ∀ {l : List UInt8}, Pre m (nats l) → RU l = (nats l).take m ++ RU (l.drop m) ∧ Lib.validD l = Lib.validD (l.drop m) := by
  induction m with
  | zero => intro l _; simp
  | succ m ih =>
    intro l h
    cases l with
    | nil => exact h.elim
    | cons a t =>
      rw [nats_cons] at h
      have := ih h.2
      rw [RU_cons a t h.1, this.1, Lib.validD_cons a t h.1, this.2, nats_cons]
      simp
theorem Pre.len {m : Nat} : ∀ {l : List Nat}, Pre m l → m ≤ l.length := by
  induction m with
  | zero => intro l _; omega
  | succ m ih => intro l h; cases l with
    | nil => exact h.elim
    | cons a t => have := ih h.2; simp; omega
theorem Pre.drop {m : Nat} {l : List UInt8} (h : Pre m (nats l)) : (RU l).drop m = RU (l.drop m) := by
  rw [h.bytes.1]
  have hl : ((nats l).take m).length = m := by rw [List.length_take]; have := h.len; omega
  rw [List.drop_append_of_le_length (by omega), List.drop_eq_nil_of_le (by omega), List.nil_append]
theorem Pre.add {m k : Nat} : ∀ {l : List Nat}, Pre m l → Pre k (l.drop m) → Pre (m + k) l := by
  induction m with
  | zero => intro l _ h; simpa using h
  | succ m ih =>
    intro l h h2
    cases l with
    | nil => exact h.elim
    | cons c t =>
      rw [Nat.succ_add]
      exact ⟨h.1, ih h.2 (by simpa using h2)⟩

theorem hexB_big {c : Nat} (h : 128 ≤ c) : hexB c = false := by unfold hexB; simp; omega
theorem hexRun_sim (m : Nat) : ∀ (v : Int) {a b : List Nat}, Sim a b → hexRun m v a = hexRun m v b := by
  induction m with
  | zero => intro v a b _; rfl
  | succ m ih =>
    intro v a b h
    match a, b, h with
    | [], [], _ => rfl
    | x :: s, y :: t, h =>
      rcases h with ⟨rfl, _, h⟩ | ⟨h1, h2⟩
      · unfold hexRun; rw [ih _ h]
      · unfold hexRun; rw [hexB_big h1, hexB_big h2]; rfl
theorem hexRun_pre (m : Nat) : ∀ (v : Int) {a : List Nat} {x : Int}, hexRun m v a = some x → Pre m a := by
  induction m with
  | zero => intro v a x _; exact trivial
  | succ m ih =>
    intro v a x h
    cases a with
    | nil => simp [hexRun] at h
    | cons c t =>
      unfold hexRun at h
      split at h
      · rename_i hb
        refine ⟨?_, ih _ h⟩
        apply Decidable.byContradiction
        intro hc
        rw [hexB_big (by omega)] at hb; cases hb
      · cases h
theorem eats_sim {w : List Nat} (hw : ∀ c ∈ w, c < 128) : ∀ {a b : List Nat}, Sim a b → eats w a = eats w b := by
  induction w with
  | nil => intro a b _; rfl
  | cons x w ih =>
    intro a b h
    match a, b, h with
    | [], [], _ => rfl
    | p :: s, q :: t, h =>
      rcases h with ⟨rfl, _, h⟩ | ⟨h1, h2⟩
      · unfold eats; rw [ih (fun c hc => hw c (by simp [hc])) h]
      · have := hw x (by simp)
        unfold eats
        rw [show (x == p) = false by simp; omega, show (x == q) = false by simp; omega]; rfl
theorem eats_pre {w : List Nat} (hw : ∀ c ∈ w, c < 128) : ∀ {a : List Nat}, eats w a = true → Pre w.length a := by
  induction w with
  | nil => intro a _; exact trivial
  | cons x w ih =>
    intro a h
    cases a with
    | nil => simp [eats] at h
    | cons c t =>
      simp [eats] at h
      exact ⟨by rw [← h.1]; exact hw x (by simp), ih (fun c hc => hw c (by simp [hc])) h.2⟩
theorem w92 : ∀ c ∈ [92, 117], c < 128 := by decide
theorem numberedP_sim {a b : List Nat} (h : Sim a b) : numberedP a = numberedP b := by
  unfold numberedP
  have e1 : four a = four b := hexRun_sim 4 0 h
  rw [← e1]
  cases hf : four a with
  | none => rfl
  | some v =>
    have hp := hexRun_pre 4 0 hf
    have hs := (Pre.sim h hp).1
    dsimp only
    rw [← eats_sim w92 hs]
    split
    · rfl
    · split
      · split
        · rename_i he
          have hp2 := eats_pre w92 he
          have hs2 := (Pre.sim hs hp2).1
          rw [List.drop_drop, List.drop_drop] at hs2
          have e2 : four (a.drop 6) = four (b.drop 6) := hexRun_sim 4 0 hs2
          rw [e2]
        · rfl
      · rfl
theorem numberedP_pre {a : List Nat} {v : Int} {n : Nat} (h : numberedP a = some (v, n)) : Pre n a := by
  unfold numberedP at h
  split at h
  · cases h
  · rename_i x hf
    have hp := hexRun_pre 4 0 hf
    split at h
    · cases h
    · split at h
      · split at h
        · rename_i he
          have hp2 := eats_pre w92 he
          split at h
          · cases h
          · rename_i y hg
            have hp3 := hexRun_pre 4 0 hg
            split at h
            · simp at h
              rw [← h.2]
              exact hp.add (k := 6) (hp2.add (k := 4) (by rw [List.drop_drop]; exact hp3))
            · cases h
        · cases h
      · simp at h; rw [← h.2]; exact hp
theorem escapeP_sim {a b : List Nat} (h : Sim a b) : escapeP a = escapeP b := by
  match a, b, h with
  | [], [], _ => rfl
  | x :: s, y :: t, h =>
    rcases h with ⟨rfl, _, h⟩ | ⟨h1, h2⟩
    · unfold escapeP; dsimp only; rw [numberedP_sim h]
    · have q : ∀ z : Nat, 128 ≤ z → ∀ l, escapeP (z :: l) = none := by
        intro z hz l
        unfold escapeP
        dsimp only
        rw [if_neg (by simp; omega), if_neg (by simp; omega), if_neg (by simp; omega), if_neg (by simp; omega), if_neg (by simp; omega), if_neg (by simp; omega), if_neg (by simp; omega), if_neg (by simp; omega), if_neg (by simp; omega)]
      rw [q x h1, q y h2]
theorem escapeP_pre {a : List Nat} {v : Int} {n : Nat} (h : escapeP a = some (v, n)) : Pre n a := by
  cases a with
  | nil => cases h
  | cons c t =>
    by_cases hc : c < 128
    · unfold escapeP at h
      dsimp only at h
      (repeat' split at h) <;> first
        | (simp at h; rw [← h.2]; exact ⟨hc, trivial⟩)
        | (cases h; done)
        | (rename_i x m hq; simp at h; rw [← h.2]; exact ⟨hc, numberedP_pre hq⟩)
    · unfold escapeP at h
      dsimp only at h
      rw [if_neg (by simp; omega), if_neg (by simp; omega), if_neg (by simp; omega), if_neg (by simp; omega), if_neg (by simp; omega), if_neg (by simp; omega), if_neg (by simp; omega), if_neg (by simp; omega), if_neg (by simp; omega)] at h
      cases h
end Go.Proofs.YtdfbhjgpkokebaaGreatDoor
/- Bytes against runes: strings and pieces. -/
namespace Go.Proofs.YtdfbhjgpkokebaaGreatDoor
open Go.RowKit

theorem bytes_nats (l : List UInt8) : bytesOf (nats l) = l := by
  unfold bytesOf nats
  induction l with
  | nil => rfl
  | cons a t ih => simp only [List.map_cons, ih]; congr 1; exact UInt8.ofNat_toNat
theorem nats_drop (l : List UInt8) (n : Nat) : (nats l).drop n = nats (l.drop n) := by unfold nats; rw [List.map_drop]
theorem nats_take (l : List UInt8) (n : Nat) : (nats l).take n = nats (l.take n) := by unfold nats; rw [List.map_take]
theorem enc_one (a : UInt8) (h : a.toNat < 128) : Lib.encodeRune (a.toNat : Int) = [a] := by
  unfold Lib.encodeRune
  rw [Lib.encodeRuneZ_one (by omega) (by omega)]
  simp
theorem charP_one {a : Nat} {t : List Nat} (h : a < 128) : charP (a :: t) = 1 := by rw [charP, if_pos h]

/-- A string's end, over bytes and over runes. -/
theorem quot_any (f : Nat) : ∀ (acc : List UInt8) (t : List UInt8),
    (∃ v r, quotRun f acc (nats t) = some (v, nats r) ∧ Lib.validD r = Lib.validD t ∧ r.length < t.length ∧ (Lib.validD t = true → textRun f acc (RU t) = some (v, RU r))) ∨
    (quotRun f acc (nats t) = none ∧ (Lib.validD t = true → textRun f acc (RU t) = none)) := by
  induction f with
  | zero => intro acc t; right; exact ⟨rfl, fun _ => rfl⟩
  | succ f ih =>
    intro acc t
    cases t with
    | nil => right; exact ⟨rfl, fun _ => rfl⟩
    | cons a t =>
      by_cases ha : a.toNat < 128
      · rw [RU_cons a t ha, nats_cons, Lib.validD_cons a t ha]
        by_cases h34 : a.toNat = 34
        · left
          refine ⟨acc, t, ?_, rfl, by simp, fun _ => ?_⟩
          · rw [quotRun, if_pos h34]
          · rw [textRun, if_pos (by simp; omega)]
        · by_cases h92 : a.toNat = 92
          · cases hx : escapeP (nats t) with
            | none =>
              right
              refine ⟨by rw [quotRun, if_neg h34, if_pos h92, hx], fun _ => ?_⟩
              rw [textRun, if_neg (by simp; omega), if_neg (by omega), if_pos (by simp; omega), ← escapeP_sim (sim_RU _ t (Nat.le_refl _)), hx]
            | some p =>
              obtain ⟨v, n⟩ := p
              have hp := escapeP_pre hx
              have e1 : quotRun (f + 1) acc (a.toNat :: nats t) = quotRun f (acc ++ Lib.encodeRune v) (nats (t.drop n)) := by
                rw [quotRun, if_neg h34, if_pos h92, hx, ← nats_drop]
              have e2 : textRun (f + 1) acc (a.toNat :: RU t) = textRun f (acc ++ Lib.encodeRune v) (RU (t.drop n)) := by
                rw [textRun, if_neg (by simp; omega), if_neg (by omega), if_pos (by simp; omega), ← escapeP_sim (sim_RU _ t (Nat.le_refl _)), hx, ← hp.drop]
              rw [e1, e2, hp.bytes.2]
              rcases ih (acc ++ Lib.encodeRune v) (t.drop n) with ⟨w, r, g1, g2, g3, g4⟩ | ⟨g1, g2⟩
              · left; exact ⟨w, r, g1, g2, by simp at g3 ⊢; omega, g4⟩
              · right; exact ⟨g1, g2⟩
          · have hc1 : charP (a.toNat :: nats t) = 1 := charP_one ha
            by_cases h32 : a.toNat < 32
            · right
              refine ⟨by rw [quotRun, if_neg h34, if_neg h92, if_pos (Or.inr h32)], fun _ => ?_⟩
              rw [textRun, if_neg (by simp; omega), if_pos (by omega)]
            · have e1 : quotRun (f + 1) acc (a.toNat :: nats t) = quotRun f (acc ++ [a]) (nats t) := by
                rw [quotRun, if_neg h34, if_neg h92, hc1, if_neg (by omega)]
                simp [bytesOf]
              have e2 : textRun (f + 1) acc (a.toNat :: RU t) = textRun f (acc ++ [a]) (RU t) := by
                rw [textRun, if_neg (by simp; omega), if_neg (by omega), if_neg (by simp; omega), enc_one a ha]
              rw [e1, e2]
              rcases ih (acc ++ [a]) t with ⟨w, r, g1, g2, g3, g4⟩ | ⟨g1, g2⟩
              · left; exact ⟨w, r, g1, g2, by simp; omega, g4⟩
              · right; exact ⟨g1, g2⟩
      · have ha' : 128 ≤ a.toNat := by omega
        by_cases hb : badD (a :: t)
        · have hv : Lib.validD (a :: t) = false := by rw [Lib.validD_step _ (by simp)]; exact if_pos hb
          have hc : charP (a.toNat :: nats t) = 0 := by
            apply Decidable.byContradiction
            intro hc
            exact char_not_bad ha' hc hb
          right
          refine ⟨?_, fun h => by rw [hv] at h; cases h⟩
          rw [nats_cons, quotRun, if_neg (by omega), if_neg (by omega), if_pos (Or.inl hc)]
        · have hv : Lib.validD (a :: t) = Lib.validD ((a :: t).drop (Lib.decodeL (a :: t)).2) := by rw [Lib.validD_step _ (by simp)]; exact if_neg hb
          have hc := not_bad_char ha' hb
          have hw := Lib.decodeL_width (a :: t)
          have hd := dec_big (a := a) (t := t) ha'
          have hen := Lib.encode_decode (a :: t) (by simp) hb
          rw [RU_step _ (by simp), hv]
          generalize Lib.decodeL (a :: t) = d at *
          obtain ⟨r0, n⟩ := d
          dsimp only at *
          have e1 : quotRun (f + 1) acc (nats (a :: t)) = quotRun f (acc ++ (a :: t).take n) (nats ((a :: t).drop n)) := by
            rw [nats_cons] at hc ⊢
            rw [quotRun, if_neg (by omega), if_neg (by omega), hc, if_neg (by omega), ← nats_cons, Int.toNat_natCast, nats_take, bytes_nats, nats_drop]
          have e2 : textRun (f + 1) acc (r0 :: RU ((a :: t).drop n)) = textRun f (acc ++ (a :: t).take n) (RU ((a :: t).drop n)) := by
            rw [textRun, if_neg (by simp; omega), if_neg (by omega), if_neg (by simp; omega), hen]
          rw [e1, e2]
          rcases ih (acc ++ (a :: t).take n) ((a :: t).drop n) with ⟨w, r, g1, g2, g3, g4⟩ | ⟨g1, g2⟩
          · left; exact ⟨w, r, g1, g2, by simp only [List.length_drop, List.length_cons] at g3 ⊢; omega, g4⟩
          · right; exact ⟨g1, g2⟩

theorem textRun_fuel (n : Nat) : ∀ (l : List Nat) (f f' : Nat) (out : List UInt8), l.length ≤ n → l.length < f → l.length < f' → textRun f out l = textRun f' out l := by
  induction n with
  | zero =>
    intro l f f' out h hf hf'
    have : l = [] := List.length_eq_zero_iff.1 (by omega)
    subst this
    cases f <;> cases f' <;> rfl
  | succ n ih =>
    intro l f f' out h hf hf'
    cases l with
    | nil => cases f <;> cases f' <;> rfl
    | cons c t =>
      simp only [List.length_cons] at h hf hf'
      obtain ⟨f, rfl⟩ : ∃ g, f = g + 1 := ⟨f - 1, by omega⟩
      obtain ⟨f', rfl⟩ : ∃ g, f' = g + 1 := ⟨f' - 1, by omega⟩
      unfold textRun
      split
      · rfl
      · split
        · rfl
        · split
          · cases hx : escapeP t with
            | none => rfl
            | some p => exact ih _ f f' _ (by simp; omega) (by simp; omega) (by simp; omega)
          · exact ih t f f' _ (by omega) (by omega) (by omega)

/-- what stands behind an opening quote, in runes -/
def textQ (t : List Nat) : Option (List UInt8 × List Nat) := textRun (t.length + 1) [] t
theorem quotP_text (t : List UInt8) :
    (∃ v r, quotP (nats t) = some (v, nats r) ∧ Lib.validD r = Lib.validD t ∧ r.length < t.length ∧ (Lib.validD t = true → textQ (RU t) = some (v, RU r))) ∨
    (quotP (nats t) = none ∧ (Lib.validD t = true → textQ (RU t) = none)) := by
  unfold quotP textQ
  have hl : (nats t).length = t.length := by simp [nats]
  have := RU_len _ t (Nat.le_refl _)
  rw [hl, textRun_fuel _ (RU t) ((RU t).length + 1) (t.length + 1) [] (Nat.le_refl _) (by omega) (by omega)]
  exact quot_any (t.length + 1) [] t

theorem wordB_big {c : Nat} (h : 128 ≤ c) : wordB c = false := by unfold wordB; simp; omega
theorem wordLen_sim : ∀ {a b : List Nat}, Sim a b → wordLen a = wordLen b := by
  intro a
  induction a with
  | nil => intro b h; cases b with
    | nil => rfl
    | cons _ _ => exact h.elim
  | cons x s ih =>
    intro b h
    cases b with
    | nil => exact h.elim
    | cons y t =>
      rcases h with ⟨rfl, _, h⟩ | ⟨h1, h2⟩
      · unfold wordLen; rw [ih h]
      · unfold wordLen; rw [wordB_big h1, wordB_big h2]; rfl
theorem wordLen_pre : ∀ l : List Nat, Pre (wordLen l) l := by
  intro l
  induction l with
  | nil => exact trivial
  | cons c t ih =>
    unfold wordLen
    split
    · rename_i hb
      refine ⟨?_, ih⟩
      apply Decidable.byContradiction
      intro hc
      rw [wordB_big (by omega)] at hb; cases hb
    · exact trivial

/-- the pieces of a line, over runes -/
def piecesN : Nat → List Pc → List Nat → Option (List Pc)
  | 0, _, _ => none
  | _ + 1, acc, [] => some acc
  | f + 1, acc, c :: t => if blankN c then piecesN f acc t else if markN c then piecesN f (acc ++ [(c, [])]) t
    else if c = 34 then (match textQ t with | none => none | some (v, r) => piecesN f (acc ++ [(34, v)]) r)
    else if wordLen (c :: t) = 0 then none else piecesN f (acc ++ [(119, bytesOf ((c :: t).take (wordLen (c :: t))))]) ((c :: t).drop (wordLen (c :: t)))
theorem blank_big {c : Nat} (h : 128 ≤ c) : blankN c = false := by unfold blankN; simp; omega
theorem mark_big {c : Nat} (h : 128 ≤ c) : markN c = false := by unfold markN; simp; omega

theorem pieces_runes (f : Nat) : ∀ (acc : List Pc) (t : List UInt8), piecesRun f acc (nats t) = if Lib.validD t then piecesN f acc (RU t) else none := by
  induction f with
  | zero => intro acc t; split <;> rfl
  | succ f ih =>
    intro acc t
    cases t with
    | nil => rfl
    | cons a t =>
      by_cases ha : a.toNat < 128
      · have hS := sim_RU _ (a :: t) (Nat.le_refl _)
        have hwl := wordLen_sim hS
        have hpre := wordLen_pre (nats (a :: t))
        rw [RU_cons a t ha] at hwl
        rw [RU_cons a t ha, nats_cons, Lib.validD_cons a t ha, piecesRun, piecesN]
        by_cases h1 : blankN a.toNat
        · rw [if_pos h1, if_pos h1]; exact ih acc t
        · rw [if_neg h1, if_neg h1]
          by_cases h2 : markN a.toNat
          · rw [if_pos h2, if_pos h2]; exact ih _ t
          · rw [if_neg h2, if_neg h2]
            by_cases h3 : a.toNat = 34
            · rw [if_pos h3, if_pos h3]
              rcases quotP_text t with ⟨v, r, g1, g2, g3, g4⟩ | ⟨g1, g2⟩
              · rw [g1]
                dsimp only
                rw [ih, g2]
                split
                · rename_i hv; rw [g4 hv]
                · rfl
              · rw [g1]
                dsimp only
                split
                · rename_i hv; rw [g2 hv]
                · rfl
            · rw [if_neg h3, if_neg h3, ← hwl, nats_cons]
              rw [nats_cons] at hpre
              have hb := Pre.bytes (l := a :: t) (by rw [nats_cons]; exact hpre)
              have hd := Pre.drop (l := a :: t) (by rw [nats_cons]; exact hpre)
              have hk := (Pre.sim hS (by rw [nats_cons]; exact hpre)).2.1
              rw [RU_cons a t ha, nats_cons] at hk
              rw [RU_cons a t ha] at hd
              generalize wordLen (a.toNat :: nats t) = n at *
              by_cases h4 : n = 0
              · rw [if_pos h4, if_pos h4]; simp
              · rw [if_neg h4, if_neg h4, hk, hd, ← nats_cons, nats_drop, ih, ← hb.2, Lib.validD_cons a t ha]
      · have ha' : 128 ≤ a.toNat := by omega
        rw [nats_cons, piecesRun, if_neg (by rw [blank_big ha']; simp), if_neg (by rw [mark_big ha']; simp), if_neg (by omega), if_pos (by unfold wordLen; rw [wordB_big ha']; rfl)]
        have hd := dec_big (a := a) (t := t) ha'
        split
        · rw [RU_step _ (by simp), piecesN, if_neg (by rw [blank_big hd]; simp), if_neg (by rw [mark_big hd]; simp), if_neg (by omega), if_pos (by unfold wordLen; rw [wordB_big hd]; rfl)]
        · rfl
end Go.Proofs.YtdfbhjgpkokebaaGreatDoor
/- The pieces of a line against the grammar, over runes: the lexer's laws; a list of pieces as an object. -/
namespace Go.Proofs.YtdfbhjgpkokebaaGreatDoor
open Go.RowKit

theorem piecesN_acc (f : Nat) : ∀ (acc : List Pc) (l : List Nat), piecesN f acc l = (piecesN f [] l).map (acc ++ ·) := by
  induction f with
  | zero => intro acc l; rfl
  | succ f ih =>
    intro acc l
    cases l with
    | nil => simp [piecesN]
    | cons c t =>
      unfold piecesN
      split
      · exact ih acc t
      · split
        · rw [ih (acc ++ [(c, [])]), ih ([] ++ [(c, [])])]
          cases piecesN f [] t <;> simp
        · split
          · cases textQ t with
            | none => rfl
            | some p =>
              obtain ⟨v, r⟩ := p
              dsimp only
              rw [ih (acc ++ [(34, v)]), ih ([] ++ [(34, v)])]
              cases piecesN f [] r <;> simp
          · split
            · rfl
            · rw [ih (acc ++ _), ih ([] ++ _)]
              cases piecesN f [] _ <;> simp
theorem textRun_lenQ {t : List Nat} {v : List UInt8} {r : List Nat} (h : textQ t = some (v, r)) : r.length < t.length := textRun_len _ _ _ _ _ h
theorem piecesN_fuel (n : Nat) : ∀ (l : List Nat) (f f' : Nat) (acc : List Pc), l.length ≤ n → l.length < f → l.length < f' → piecesN f acc l = piecesN f' acc l := by
  induction n with
  | zero =>
    intro l f f' acc h hf hf'
    have : l = [] := List.length_eq_zero_iff.1 (by omega)
    subst this
    obtain ⟨f, rfl⟩ : ∃ g, f = g + 1 := ⟨f - 1, by omega⟩
    obtain ⟨f', rfl⟩ : ∃ g, f' = g + 1 := ⟨f' - 1, by omega⟩
    rfl
  | succ n ih =>
    intro l f f' acc h hf hf'
    obtain ⟨f, rfl⟩ : ∃ g, f = g + 1 := ⟨f - 1, by omega⟩
    obtain ⟨f', rfl⟩ : ∃ g, f' = g + 1 := ⟨f' - 1, by omega⟩
    cases l with
    | nil => rfl
    | cons c t =>
      simp only [List.length_cons] at h hf hf'
      unfold piecesN
      split
      · exact ih t f f' _ (by omega) (by omega) (by omega)
      · split
        · exact ih t f f' _ (by omega) (by omega) (by omega)
        · split
          · cases hx : textQ t with
            | none => rfl
            | some p =>
              obtain ⟨v, r⟩ := p
              have := textRun_lenQ hx
              exact ih r f f' _ (by omega) (by omega) (by omega)
          · split
            · rfl
            · exact ih _ f f' _ (by simp only [List.length_drop, List.length_cons]; omega) (by simp only [List.length_drop, List.length_cons]; omega) (by simp only [List.length_drop, List.length_cons]; omega)
/-- the pieces of a line of runes -/
def lex (l : List Nat) : Option (List Pc) := piecesN (l.length + 1) [] l
theorem lex_of (l : List Nat) (f : Nat) (acc : List Pc) (h : l.length < f) : piecesN f acc l = (lex l).map (acc ++ ·) := by
  unfold lex
  rw [piecesN_acc, piecesN_fuel l.length l f (l.length + 1) [] (Nat.le_refl _) h (by omega)]
theorem lex_nil : lex [] = some [] := rfl
theorem lex_blank {c : Nat} {t : List Nat} (h : blankN c = true) : lex (c :: t) = lex t := by
  show piecesN ((c :: t).length + 1) [] (c :: t) = _
  rw [piecesN, if_pos h, lex_of t _ _ (by simp)]
  cases lex t <;> simp
theorem mark_not_blank {c : Nat} (h : markN c = true) : blankN c = false := by unfold markN at h; unfold blankN; simp at h ⊢; omega
theorem lex_mark {c : Nat} {t : List Nat} (h : markN c = true) : lex (c :: t) = (lex t).map ((c, []) :: ·) := by
  show piecesN ((c :: t).length + 1) [] (c :: t) = _
  rw [piecesN, if_neg (by rw [mark_not_blank h]; simp), if_pos h, lex_of t _ _ (by simp)]
  cases lex t <;> simp
theorem lex_quote (t : List Nat) : lex (34 :: t) = match textQ t with | none => none | some (v, r) => (lex r).map ((34, v) :: ·) := by
  show piecesN ((34 :: t).length + 1) [] (34 :: t) = _
  rw [piecesN, if_neg (by decide), if_neg (by decide), if_pos rfl]
  cases hx : textQ t with
  | none => rfl
  | some p =>
    obtain ⟨v, r⟩ := p
    have := textRun_lenQ hx
    dsimp only
    rw [lex_of r _ _ (by simp; omega)]
    cases lex r <;> simp
theorem word_not {c : Nat} (h : wordB c = true) : blankN c = false ∧ markN c = false ∧ c ≠ 34 := by
  unfold wordB at h; unfold blankN markN; simp at h ⊢; omega
theorem wordLen_pos {c : Nat} {t : List Nat} (h : wordB c = true) : wordLen (c :: t) = wordLen t + 1 := by unfold wordLen; rw [if_pos h]; cases t <;> rfl
theorem lex_word {c : Nat} {t : List Nat} (h : wordB c = true) : lex (c :: t) = (lex ((c :: t).drop (wordLen (c :: t)))).map ((119, bytesOf ((c :: t).take (wordLen (c :: t)))) :: ·) := by
  have hn := word_not h
  have hw := wordLen_pos (t := t) h
  have e : lex (c :: t) = piecesN ((c :: t).length + 1) [] (c :: t) := rfl
  rw [e, piecesN, if_neg (by rw [hn.1]; simp), if_neg (by rw [hn.2.1]; simp), if_neg hn.2.2, if_neg (by omega), lex_of ((c :: t).drop (wordLen (c :: t))) _ _ (by simp only [List.length_drop, List.length_cons]; omega)]
  cases lex ((c :: t).drop (wordLen (c :: t))) <;> simp
theorem lex_bad {c : Nat} {t : List Nat} (h1 : blankN c = false) (h2 : markN c = false) (h3 : c ≠ 34) (h4 : wordB c = false) : lex (c :: t) = none := by
  show piecesN ((c :: t).length + 1) [] (c :: t) = _
  rw [piecesN, if_neg (by rw [h1]; simp), if_neg (by rw [h2]; simp), if_neg h3, if_pos (by unfold wordLen; rw [h4]; rfl)]
theorem blankB_N (c : Nat) : blankB (c : Int) = blankN c := by rw [Bool.eq_iff_iff]; unfold blankB blankN; simp; omega
theorem lex_skip (l : List Nat) : lex (skipB l) = lex l := by
  induction l with
  | nil => rfl
  | cons c t ih =>
    unfold skipB
    split
    · rename_i h; rw [ih, lex_blank (by rw [← blankB_N]; exact h)]
    · rfl
theorem skipB_skipB (l : List Nat) : skipB (skipB l) = skipB l := by
  induction l with
  | nil => rfl
  | cons c t ih =>
    by_cases h : blankB c = true
    · rw [skipB, if_pos h]; exact ih
    · rw [skipB, if_neg h, skipB, if_neg h]
/-- the first piece by the first letter -/
theorem lex_head {l : List Nat} (hb : skipB l = l) {p : Pc} {ps : List Pc} (h : lex l = some (p :: ps)) :
    ∃ c t, l = c :: t ∧ ((markN c = true ∧ p.1 = c) ∨ (c = 34 ∧ p.1 = 34) ∨ (wordB c = true ∧ p.1 = 119)) := by
  cases l with
  | nil => simp [lex_nil] at h
  | cons c t =>
    refine ⟨c, t, rfl, ?_⟩
    have hbl : blankN c = false := by
      rw [← blankB_N]
      cases hx : blankB c with
      | false => rfl
      | true =>
        rw [skipB, if_pos hx] at hb
        have := congrArg List.length hb
        have := skipB_len t
        simp at *; omega
    by_cases hm : markN c = true
    · left
      rw [lex_mark hm] at h
      cases hl : lex t with
      | none => rw [hl] at h; cases h
      | some qs => rw [hl] at h; simp at h; exact ⟨hm, by rw [← h.1]⟩
    · by_cases h34 : c = 34
      · right; left
        subst h34
        rw [lex_quote] at h
        refine ⟨rfl, ?_⟩
        cases hx : textQ t with
        | none => rw [hx] at h; cases h
        | some q =>
          obtain ⟨v, r⟩ := q
          rw [hx] at h
          dsimp only at h
          cases hl : lex r with
          | none => rw [hl] at h; cases h
          | some qs => rw [hl] at h; simp at h; rw [← h.1]
      · by_cases hw : wordB c = true
        · right; right
          rw [lex_word hw] at h
          refine ⟨hw, ?_⟩
          cases hl : lex ((c :: t).drop (wordLen (c :: t))) with
          | none => rw [hl] at h; cases h
          | some qs => rw [hl] at h; simp at h; rw [← h.1]
        · rw [lex_bad hbl (by simpa using hm) h34 (by simpa using hw)] at h; cases h
theorem lex_nil_iff (l : List Nat) : lex l = some [] ↔ skipB l = [] := by
  induction l with
  | nil => simp [lex_nil, skipB]
  | cons c t ih =>
    by_cases hb : blankB c = true
    · rw [skipB, if_pos hb, lex_blank (by rw [← blankB_N]; exact hb)]; exact ih
    · have hs : skipB (c :: t) = c :: t := by rw [skipB, if_neg hb]
      rw [hs]
      constructor
      · intro h
        exfalso
        have hbl : blankN c = false := by rw [← blankB_N]; simpa using hb
        by_cases hm : markN c = true
        · rw [lex_mark hm] at h; cases hl : lex t <;> rw [hl] at h <;> simp at h
        · by_cases h34 : c = 34
          · subst h34
            rw [lex_quote] at h
            cases hx : textQ t with
            | none => rw [hx] at h; cases h
            | some q => rw [hx] at h; obtain ⟨v, r⟩ := q; dsimp only at h; cases hl : lex r <;> rw [hl] at h <;> simp at h
          · by_cases hw : wordB c = true
            · rw [lex_word hw] at h; cases hl : lex ((c :: t).drop (wordLen (c :: t))) <;> rw [hl] at h <;> simp at h
            · rw [lex_bad hbl (by simpa using hm) h34 (by simpa using hw)] at h; cases h
      · intro h; cases h

/-- a member as the reference keeps it: name, kind, text, number -/
abbrev RM := List UInt8 × Nat × List UInt8 × Int
def valP (p : Pc) : Nat × List UInt8 × Int × Bool :=
  ((valuedP p.1 ⟨p.2.toArray⟩).1, (valuedP p.1 ⟨p.2.toArray⟩).2.1.data.toList, (valuedP p.1 ⟨p.2.toArray⟩).2.2.1, (valuedP p.1 ⟨p.2.toArray⟩).2.2.2)
def mkRM (k v : Pc) : RM := (k.2, (valP v).1, (valP v).2.1, (valP v).2.2.1)
/-- the members of an object, behind the opening brace -/
def T : List Pc → Option (List RM)
  | k :: c :: v :: e :: r => if (valP v).2.2.2 = true ∧ k.1 = 34 ∧ c.1 = 58 then
      (if e.1 = 125 ∧ r = [] then some [mkRM k v] else if e.1 = 44 then (T r).map (mkRM k v :: ·) else none) else none
  | _ => none
def objT (ps : List Pc) : Option (List RM) := match ps with
  | [] => none
  | p :: r => if p.1 = 123 then (if r.map (·.1) = [125] then some [] else T r) else none

def kindP (k : Nat) : Int := if k = 115 then 3 else if k = 105 then 1 else if k = 110 then 0 else 2
def toMem (m : RM) : Mem := (m.1, kindP m.2.1, (if m.2.1 = 116 then 1 else m.2.2.2), m.2.2.1)
end Go.Proofs.YtdfbhjgpkokebaaGreatDoor
/- Numbers: the reference's Whole against strconv's. -/
namespace Go.Proofs.YtdfbhjgpkokebaaGreatDoor
open Go.RowKit

def digN (c : Nat) : Bool := decide (48 ≤ c) && decide (c ≤ 57)
def allD (l : List Nat) : Prop := ∀ c ∈ l, 48 ≤ c ∧ c ≤ 57
def dval : Nat → List Nat → Nat
  | acc, [] => acc
  | acc, c :: t => dval (acc * 10 + (c - 48)) t
theorem dval_ge (ds : List Nat) : ∀ acc, acc ≤ dval acc ds := by
  induction ds with
  | nil => intro acc; exact Nat.le_refl _
  | cons c t ih => intro acc; have := ih (acc * 10 + (c - 48)); unfold dval; omega
theorem dval_pow (ds : List Nat) : ∀ acc p : Nat, p = 10 ^ ds.length → acc * p ≤ dval acc ds := by
  induction ds with
  | nil => intro acc p hp; rw [hp]; show acc * 1 ≤ acc; omega
  | cons c t ih =>
    intro acc p hp
    have h1 := ih (acc * 10 + (c - 48)) _ rfl
    rw [List.length_cons, Nat.pow_succ] at hp
    show acc * p ≤ dval (acc * 10 + (c - 48)) t
    refine Nat.le_trans ?_ h1
    generalize 10 ^ t.length = q at *
    rw [hp, Nat.mul_comm q 10, ← Nat.mul_assoc]
    exact Nat.mul_le_mul_right q (Nat.le_add_right _ _)

theorem u8_of {c : Nat} (h : c < 256) : (UInt8.ofNat c).toNat = c := by simp; omega
theorem pum (M : Nat) (hM : M = 18446744073709551615) (ds : List Nat) : ∀ acc, allD ds → acc ≤ M →
    Lib.parseUintM M acc (bytesOf ds) = if dval acc ds ≤ M then .ok (dval acc ds) else .range := by
  induction ds with
  | nil => intro acc _ h; show (Lib.NumEnd.ok acc : Lib.NumEnd Nat) = if acc ≤ M then .ok acc else .range; rw [if_pos h]
  | cons c t ih =>
    intro acc hd ha
    have hc := hd c (by simp)
    have ht : allD t := fun x hx => hd x (by simp [hx])
    have hge := dval_ge t (acc * 10 + (c - 48))
    have e : Lib.parseUintM M acc (bytesOf (c :: t)) = if 1844674407370955162 ≤ acc then .range else if M < acc * 10 + (c - 48) then .range else Lib.parseUintM M (acc * 10 + (c - 48)) (bytesOf t) := by
      show Lib.parseUintM M acc (UInt8.ofNat c :: bytesOf t) = _
      rw [Lib.parseUintM, u8_of (by omega), if_pos hc]
    have e2 : dval acc (c :: t) = dval (acc * 10 + (c - 48)) t := rfl
    rw [e, e2]
    by_cases h1 : 1844674407370955162 ≤ acc
    · rw [if_pos h1, if_neg (by omega)]
    · rw [if_neg h1]
      by_cases h2 : M < acc * 10 + (c - 48)
      · rw [if_pos h2, if_neg (by omega)]
      · rw [if_neg h2]; exact ih _ ht (by omega)

theorem tdiv_lim {d : Int} (h0 : 0 ≤ d) (h9 : d ≤ 9) (a : Int) : (-a < (-9223372036854775808 + d).tdiv 10) ↔ 9223372036854775808 < 10 * a + d := by
  have : d = 0 ∨ d = 1 ∨ d = 2 ∨ d = 3 ∨ d = 4 ∨ d = 5 ∨ d = 6 ∨ d = 7 ∨ d = 8 ∨ d = 9 := by omega
  rcases this with rfl | rfl | rfl | rfl | rfl | rfl | rfl | rfl | rfl | rfl
  all_goals first
    | (rw [show Int.tdiv (-9223372036854775808 + 0) 10 = -922337203685477580 by decide]; omega)
    | (rw [show Int.tdiv (-9223372036854775808 + 1) 10 = -922337203685477580 by decide]; omega)
    | (rw [show Int.tdiv (-9223372036854775808 + 2) 10 = -922337203685477580 by decide]; omega)
    | (rw [show Int.tdiv (-9223372036854775808 + 3) 10 = -922337203685477580 by decide]; omega)
    | (rw [show Int.tdiv (-9223372036854775808 + 4) 10 = -922337203685477580 by decide]; omega)
    | (rw [show Int.tdiv (-9223372036854775808 + 5) 10 = -922337203685477580 by decide]; omega)
    | (rw [show Int.tdiv (-9223372036854775808 + 6) 10 = -922337203685477580 by decide]; omega)
    | (rw [show Int.tdiv (-9223372036854775808 + 7) 10 = -922337203685477580 by decide]; omega)
    | (rw [show Int.tdiv (-9223372036854775808 + 8) 10 = -922337203685477580 by decide]; omega)
    | (rw [show Int.tdiv (-9223372036854775808 + 9) 10 = -922337203685477579 by decide]; omega)
theorem wrun (L : Nat) (hL : L = 9223372036854775808) (ds : List Nat) : ∀ acc : Nat, allD ds → acc ≤ L →
    wholeRun (-(acc : Int)) ds = if dval acc ds ≤ L then some (-(dval acc ds : Int)) else none := by
  induction ds with
  | nil => intro acc _ h; show some (-(acc : Int)) = if acc ≤ L then some (-(acc : Int)) else none; rw [if_pos h]
  | cons c t ih =>
    intro acc hd ha
    have hc := hd c (by simp)
    have ht : allD t := fun x hx => hd x (by simp [hx])
    have hge := dval_ge t (acc * 10 + (c - 48))
    have hl := tdiv_lim (d := (c : Int) - 48) (by omega) (by omega) acc
    have e2 : dval acc (c :: t) = dval (acc * 10 + (c - 48)) t := rfl
    rw [e2, wholeRun, if_neg (by omega)]
    by_cases hx : 9223372036854775808 < 10 * (acc : Int) + ((c : Int) - 48)
    · rw [if_pos (hl.2 hx), if_neg (by omega)]
    · rw [if_neg (fun h => hx (hl.1 h)), show 10 * -(acc : Int) - ((c : Int) - 48) = -(((acc * 10 + (c - 48) : Nat)) : Int) by omega]
      exact ih _ ht (by omega)
theorem wrun_dig (ds : List Nat) : ∀ (n x : Int), wholeRun n ds = some x → allD ds := by
  induction ds with
  | nil => intro n x _ c hc; cases hc
  | cons c t ih =>
    intro n x h
    unfold wholeRun at h
    split at h
    · cases h
    · split at h
      · cases h
      · intro y hy
        rcases List.mem_cons.1 hy with rfl | hy
        · omega
        · exact ih _ _ h y hy
/-- one letter that is no digit: no number -/
theorem wholeTail_bad' (b : Bool) {t : List Nat} (h : ¬ allD t) : (wholeTail b t).2 = false := by
  unfold wholeTail
  split
  · rfl
  · cases hx : wholeRun 0 t with
    | none => rfl
    | some n => exact absurd (wrun_dig _ _ _ hx) h
/-- the digits of a number as they are written: no nought ahead of others -/
def shaped (ds : List Nat) : Prop := allD ds ∧ (1 < ds.length → ds.headD 0 ≠ 48)
theorem dval_long {ds : List Nat} (h : shaped ds) (hl : 19 < ds.length) : 9999999999999999999 < dval 0 ds := by
  cases ds with
  | nil => simp at hl
  | cons c t =>
    have hc := h.1 c (by simp)
    have h48 := h.2 (by omega)
    simp at h48
    have hq := dval_pow t (0 * 10 + (c - 48)) _ rfl
    have hp : 10 ^ 19 ≤ 10 ^ t.length := Nat.pow_le_pow_right (by omega) (by simp at hl; omega)
    show 9999999999999999999 < dval (0 * 10 + (c - 48)) t
    have h1 : 1 ≤ 0 * 10 + (c - 48) := by omega
    generalize 10 ^ t.length = q at *
    have h3 := Nat.le_trans (Nat.mul_le_mul h1 hp) hq
    rw [Nat.one_mul, show (10 : Nat) ^ 19 = 10000000000000000000 by decide] at h3
    omega
theorem wtail (b : Bool) {ds : List Nat} (h : shaped ds) (hne : ds ≠ []) :
    wholeTail b ds = if dval 0 ds ≤ 9223372036854775808 then (if b then (-(dval 0 ds : Int), true) else (if dval 0 ds = 9223372036854775808 then ((-9223372036854775808 : Int), false) else ((dval 0 ds : Int), true))) else (0, false) := by
  have hlen : 0 < ds.length := List.length_pos_iff.2 hne
  unfold wholeTail
  by_cases hl : 19 < ds.length
  · have := dval_long h hl
    rw [if_pos (by omega), if_neg (by omega)]
  · rw [if_neg (by rintro (h1 | h1 | h1); omega; omega; exact h.2 h1.1 h1.2)]
    have := wrun _ rfl ds 0 h.1 (by omega)
    rw [show (-((0 : Nat) : Int)) = 0 by rfl] at this
    rw [this]
    by_cases hv : dval 0 ds ≤ 9223372036854775808
    · rw [if_pos hv, if_pos hv]
      dsimp only
      cases b with
      | true => simp
      | false =>
        simp only [Bool.false_eq_true, if_false]
        by_cases he : dval 0 ds = 9223372036854775808
        · rw [if_pos he, he]; simp
        · rw [if_neg he, if_neg (by omega)]; simp; omega
    · rw [if_neg hv, if_neg hv]

/-- A number's letters: strconv's answer and the reference's are one. -/
def sgnd (neg : Bool) (ds : List Nat) : List Nat := if neg then 45 :: ds else ds
theorem num_one (neg : Bool) {ds : List Nat} (h : shaped ds) :
    (∃ v, Lib.parseIntB 64 (bytesOf (sgnd neg ds)) = .ok v ∧ wholeP (sgnd neg ds) = (v, true)) ∨
    ((∀ v, Lib.parseIntB 64 (bytesOf (sgnd neg ds)) ≠ .ok v) ∧ (wholeP (sgnd neg ds)).2 = false) := by
  have hM : (2 : Nat) ^ 64 - 1 = 18446744073709551615 := by decide
  have hM2 : (2 : Nat) ^ (64 - 1) = 9223372036854775808 := by decide
  cases neg with
  | true =>
    show (∃ v, Lib.parseIntB 64 (bytesOf (45 :: ds)) = .ok v ∧ wholeP (45 :: ds) = (v, true)) ∨ ((∀ v, Lib.parseIntB 64 (bytesOf (45 :: ds)) ≠ .ok v) ∧ (wholeP (45 :: ds)).2 = false)
    have e1 : wholeP (45 :: ds) = wholeTail true ds := rfl
    have e2 : Lib.parseIntB 64 (bytesOf (45 :: ds)) = match Lib.parseUintB 64 (bytesOf ds) with
        | .syntax => .syntax
        | .range => .range
        | .ok u => if 9223372036854775808 < u then .range else .ok (-(u : Int)) := by
      show Lib.parseIntB 64 (UInt8.ofNat 45 :: bytesOf ds) = _
      unfold Lib.parseIntB
      rw [hM2]
      simp only [show (UInt8.ofNat 45).toNat = 45 from rfl]
      simp
      cases Lib.parseUintB 64 (bytesOf ds) <;> rfl
    rw [e1, e2]
    by_cases hne : ds = []
    · subst hne; right; exact ⟨by intro v; simp [bytesOf, Lib.parseUintB], rfl⟩
    · have e3 : Lib.parseUintB 64 (bytesOf ds) = if dval 0 ds ≤ 18446744073709551615 then .ok (dval 0 ds) else .range := by
        unfold Lib.parseUintB
        rw [if_neg (by simpa [bytesOf] using hne), hM]
        exact pum _ rfl ds 0 h.1 (by omega)
      rw [e3, wtail true h hne]
      by_cases hv : dval 0 ds ≤ 9223372036854775808
      · left; refine ⟨-(dval 0 ds : Int), ?_, ?_⟩
        · rw [if_pos (by omega)]; dsimp only; rw [if_neg (by omega)]
        · rw [if_pos hv]; rfl
      · right; refine ⟨?_, by rw [if_neg hv]⟩
        intro v
        by_cases hx : dval 0 ds ≤ 18446744073709551615
        · rw [if_pos hx]; dsimp only; rw [if_pos (by omega)]; intro h; cases h
        · rw [if_neg hx]; intro h; cases h
  | false =>
    show (∃ v, Lib.parseIntB 64 (bytesOf ds) = .ok v ∧ wholeP ds = (v, true)) ∨ ((∀ v, Lib.parseIntB 64 (bytesOf ds) ≠ .ok v) ∧ (wholeP ds).2 = false)
    cases ds with
    | nil => right; exact ⟨by intro v; simp [bytesOf, Lib.parseIntB], rfl⟩
    | cons c t =>
      have hc := h.1 c (by simp)
      have e1 : wholeP (c :: t) = wholeTail false (c :: t) := by unfold wholeP; rw [if_neg (by simp; omega)]
      have e2 : Lib.parseIntB 64 (bytesOf (c :: t)) = match Lib.parseUintB 64 (bytesOf (c :: t)) with
          | .syntax => .syntax
          | .range => .range
          | .ok u => if 9223372036854775808 ≤ u then .range else .ok (u : Int) := by
        show Lib.parseIntB 64 (UInt8.ofNat c :: bytesOf t) = _
        unfold Lib.parseIntB
        rw [hM2]
        simp only [u8_of (show c < 256 by omega)]
        rw [if_neg (by omega)]
        have h45 : ¬ c = 45 := by omega
        simp only [h45, not_false_eq_true, true_and, false_and, if_false]
        rfl
      rw [e1, e2]
      have e3 : Lib.parseUintB 64 (bytesOf (c :: t)) = if dval 0 (c :: t) ≤ 18446744073709551615 then .ok (dval 0 (c :: t)) else .range := by
        unfold Lib.parseUintB
        rw [if_neg (by simp [bytesOf]), hM]
        exact pum _ rfl _ 0 h.1 (by omega)
      rw [e3, wtail false h (by simp)]
      by_cases hv : dval 0 (c :: t) < 9223372036854775808
      · left; refine ⟨(dval 0 (c :: t) : Int), ?_, ?_⟩
        · rw [if_pos (by omega)]; dsimp only; rw [if_neg (by omega)]
        · rw [if_pos (by omega)]; simp only [Bool.false_eq_true, if_false]; rw [if_neg (by omega)]
      · right; refine ⟨?_, ?_⟩
        · intro v
          by_cases hx : dval 0 (c :: t) ≤ 18446744073709551615
          · rw [if_pos hx]; dsimp only; rw [if_pos (by omega)]; intro h; cases h
          · rw [if_neg hx]; intro h; cases h
        · by_cases he : dval 0 (c :: t) = 9223372036854775808
          · rw [if_pos (by omega), if_neg (by simp), if_pos he]
          · rw [if_neg (by omega)]

theorem enc_ascii {c : Nat} (h : c < 128) : Utf8.encode (Int.ofNat c) = ⟨#[UInt8.ofNat c]⟩ := by
  have hv : Utf8.valid (Int.ofNat c) = true := by unfold Utf8.valid; simp; omega
  unfold Utf8.encode
  rw [hv]
  simp [h]
theorem runesBytes_ascii (l : List Nat) (h : ∀ c ∈ l, c < 128) : (runesBytes (l.map Int.ofNat)).data.toList = bytesOf l := by
  have key : ∀ (l : List Nat) (b : ByteArray), (∀ c ∈ l, c < 128) → ((l.map Int.ofNat).foldl (fun r n => r ++ Utf8.encode n) b).data.toList = b.data.toList ++ bytesOf l := by
    intro l
    induction l with
    | nil => intro b _; simp [bytesOf]
    | cons c t ih =>
      intro b h
      rw [List.map_cons, List.foldl_cons, ih _ (fun x hx => h x (by simp [hx])), enc_ascii (h c (by simp))]
      simp [bytesOf]
  have := key l ByteArray.empty h
  unfold runesBytes
  rw [this]; rfl
end Go.Proofs.YtdfbhjgpkokebaaGreatDoor
/- A value: the grammar's reading against the piece's. -/
namespace Go.Proofs.YtdfbhjgpkokebaaGreatDoor
open Go.RowKit

theorem lets_mk (l : List Nat) (h : ∀ c ∈ l, c < 128) : lets ⟨(bytesOf l).toArray⟩ = l := by
  unfold lets bytesOf
  simp only
  induction l with
  | nil => rfl
  | cons c t ih =>
    simp only [List.map_cons]
    rw [ih (fun x hx => h x (by simp [hx])), u8_of (by have := h c (by simp); omega)]
theorem bytesOf_inj {a b : List Nat} (ha : ∀ c ∈ a, c < 128) (hb : ∀ c ∈ b, c < 128) (h : bytesOf a = bytesOf b) : a = b := by
  rw [← lets_mk a ha, ← lets_mk b hb, h]
theorem valP_word (w : List Nat) (h : ∀ c ∈ w, c < 128) : valP (119, bytesOf w) =
    if w = wTrue then (116, [], 0, true) else if w = wFalse then (102, [], 0, true) else if w = wNull then (110, [], 0, true) else (105, [], (wholeP w).1, (wholeP w).2) := by
  have hq : ∀ (W : List Nat), (∀ c ∈ W, c < 128) → (((⟨(bytesOf w).toArray⟩ : ByteArray).toList == bytesOf W) = true ↔ w = W) := by
    intro W hW
    rw [ByteArray.toList_eq]
    simp only [beq_iff_eq]
    exact ⟨fun e => bytesOf_inj h hW e, fun e => by rw [e]⟩
  unfold valP valuedP
  dsimp only
  rw [if_neg (by decide), if_neg (by decide)]
  rw [lets_mk w h]
  have h1 := hq wTrue (by decide)
  have h2 := hq wFalse (by decide)
  have h3 := hq wNull (by decide)
  rw [show bytesOf wTrue = [116, 114, 117, 101] by rfl] at h1
  rw [show bytesOf wFalse = [102, 97, 108, 115, 101] by rfl] at h2
  rw [show bytesOf wNull = [110, 117, 108, 108] by rfl] at h3
  by_cases c1 : w = wTrue
  · rw [if_pos (h1.2 c1), if_pos c1]
  · rw [if_neg (fun e => c1 (h1.1 e)), if_neg c1]
    by_cases c2 : w = wFalse
    · rw [if_pos (h2.2 c2), if_pos c2]
    · rw [if_neg (fun e => c2 (h2.1 e)), if_neg c2]
      by_cases c3 : w = wNull
      · rw [if_pos (h3.2 c3), if_pos c3]
      · rw [if_neg (fun e => c3 (h3.1 e)), if_neg c3]

theorem wordB_lt {c : Nat} (h : wordB c = true) : c < 128 := by
  apply Decidable.byContradiction
  intro hc
  rw [wordB_big (by omega)] at h; cases h
theorem take_word (l : List Nat) : ∀ c ∈ l.take (wordLen l), wordB c = true := by
  induction l with
  | nil => intro c hc; simp at hc
  | cons x t ih =>
    by_cases hx : wordB x = true
    · rw [wordLen_pos hx, List.take_succ_cons]
      intro c hc
      rcases List.mem_cons.1 hc with rfl | hc
      · exact hx
      · exact ih c hc
    · have : wordLen (x :: t) = 0 := by unfold wordLen; rw [if_neg hx]
      rw [this]; intro c hc; simp at hc
theorem wordLen_app (w u : List Nat) (h : ∀ c ∈ w, wordB c = true) : wordLen (w ++ u) = w.length + wordLen u := by
  induction w with
  | nil => simp
  | cons c t ih =>
    rw [List.cons_append, wordLen_pos (h c (by simp)), ih (fun x hx => h x (by simp [hx]))]
    simp; omega
theorem wordLen_zero {u : List Nat} (h : wordLen u ≠ 0) : ∃ d t, u = d :: t ∧ wordB d = true := by
  cases u with
  | nil => exact absurd rfl h
  | cons d t =>
    refine ⟨d, t, rfl, ?_⟩
    cases hd : wordB d with
    | true => rfl
    | false => exact absurd (by unfold wordLen; rw [hd]; rfl) h

/-- what a value's reading comes to -/
def VPost (r : List Nat) : Prop :=
  (∃ x r4 p, valueP r = some (x, r4) ∧ r4.length < r.length ∧ lex r = (lex r4).map (p :: ·) ∧ (valP p).2.2.2 = true ∧ x = (kindP (valP p).1, (if (valP p).1 = 116 then 1 else (valP p).2.2.1), (valP p).2.1)) ∨
  ((∀ p ps, lex r = some (p :: ps) → (valP p).2.2.2 = false) ∧ (valueP r = none ∨ ∃ x c t, valueP r = some (x, c :: t) ∧ wordB c = true))

theorem map_cons_some {o : Option (List Pc)} {q p : Pc} {ps : List Pc} (h : o.map (q :: ·) = some (p :: ps)) : q = p := by
  cases o with
  | none => cases h
  | some l => simp at h; exact h.1
theorem eats_app (W u : List Nat) : eats W (W ++ u) = true := by
  induction W with
  | nil => rfl
  | cons c t ih => simp [eats, ih]
theorem eats_split {W : List Nat} : ∀ {r : List Nat}, eats W r = true → r = W ++ r.drop W.length := by
  induction W with
  | nil => intro r _; simp
  | cons c t ih =>
    intro r h
    cases r with
    | nil => simp [eats] at h
    | cons d u =>
      simp [eats] at h
      rw [h.1]
      simp
      exact ih h.2

theorem V_word (W W' : List Nat) (c : Nat) (t : List Nat) (x : Int × Int × List UInt8) (hW : W = c :: W') (hWw : ∀ d ∈ W, wordB d = true)
    (hval : valueP (c :: t) = if eats W (c :: t) then some (x, (c :: t).drop W.length) else none)
    (hgood : (valP (119, bytesOf W)).2.2.2 = true ∧ x = (kindP (valP (119, bytesOf W)).1, (if (valP (119, bytesOf W)).1 = 116 then 1 else (valP (119, bytesOf W)).2.2.1), (valP (119, bytesOf W)).2.1))
    (hother : ∀ w' : List Nat, (∀ d ∈ w', wordB d = true) → c :: w' ≠ W → (valP (119, bytesOf (c :: w'))).2.2.2 = false) : VPost (c :: t) := by
  have hc : wordB c = true := hWw c (by rw [hW]; simp)
  have hlex := lex_word (t := t) hc
  have htk := take_word (c :: t)
  have hwl := wordLen_le (c :: t)
  have hwp := wordLen_pos (t := t) hc
  by_cases he : (c :: t).take (wordLen (c :: t)) = W
  · have hlen : wordLen (c :: t) = W.length := by rw [← he, List.length_take]; omega
    have hsp : c :: t = W ++ (c :: t).drop W.length := by
      rw [← hlen, ← he]
      simp
    left
    refine ⟨x, (c :: t).drop W.length, (119, bytesOf W), ?_, ?_, ?_, hgood.1, hgood.2⟩
    · rw [hval]
      rw [show eats W (c :: t) = true by rw [hsp]; exact eats_app _ _]; rfl
    · rw [List.length_drop, ← hlen]; simp only [List.length_cons]; omega
    · rw [hlex, he, hlen]
  · right
    refine ⟨fun p ps hp => ?_, ?_⟩
    · rw [hlex] at hp
      have := map_cons_some hp
      rw [← this]
      rw [hwp, List.take_succ_cons] at he htk ⊢
      exact hother _ (fun d hd => htk d (by simp [hd])) he
    · rw [hval]
      cases hx : eats W (c :: t) with
      | false => left; rfl
      | true =>
        right
        have hsp := eats_split hx
        have hwz : wordLen ((c :: t).drop W.length) ≠ 0 := by
          intro hz
          apply he
          have := wordLen_app W ((c :: t).drop W.length) hWw
          rw [← hsp, hz] at this
          rw [this]
          conv => lhs; rw [hsp]
          simp
        obtain ⟨d, u, hd, hdw⟩ := wordLen_zero hwz
        exact ⟨x, d, u, by rw [hd]; rfl, hdw⟩

theorem intP_no {c : Nat} {t : List Nat} (h45 : c ≠ 45) (hd : digB (c : Int) = false) : intP (c :: t) = none := by
  have h48 : c ≠ 48 := by intro e; subst e; exact absurd hd (by decide)
  have e : intRest (c :: t) = c :: t := by
    unfold intRest
    dsimp only
    have e1 : (if peekOf (c :: t) = 45 then (c :: t).tail else c :: t) = c :: t := if_neg (by show ¬ ((c : Int) = 45); omega)
    rw [e1, if_neg (by show ¬ ((c : Int) = 48); omega), skipD, if_neg (by rw [hd]; simp)]
  unfold intP intTok
  rw [e, Nat.sub_self, List.take_zero]
  rfl
theorem intP_nil : intP [] = none := rfl
theorem skipD_split (m : List Nat) : ∃ ds, m = ds ++ skipD m ∧ allD ds ∧ (∀ d u, skipD m = d :: u → digB (d : Int) = false) := by
  induction m with
  | nil => exact ⟨[], rfl, fun c hc => (by cases hc), fun d u h => (by cases h)⟩
  | cons c t ih =>
    unfold skipD
    cases hd : digB (c : Int) with
    | true =>
      obtain ⟨ds, h1, h2, h3⟩ := ih
      rw [if_pos rfl]
      refine ⟨c :: ds, by rw [List.cons_append, ← h1], ?_, h3⟩
      intro x hx
      rcases List.mem_cons.1 hx with rfl | hx
      · unfold digB at hd; simp at hd; omega
      · exact h2 x hx
    | false =>
      exact ⟨[], by simp, fun c hc => (by cases hc), fun d u h => (by simp at h; rw [← h.1]; exact hd)⟩
theorem int_shape (_neg : Bool) (m : List Nat) : ∃ ds rest, m = ds ++ rest ∧ shaped ds ∧ (if peekOf m = 48 then m.tail else skipD m) = rest ∧ (ds = [48] ∨ ∀ d u, rest = d :: u → digB (d : Int) = false) := by
  by_cases h : peekOf m = 48
  · cases m with
    | nil => cases h
    | cons c t =>
      have hc : c = 48 := by have : (c : Int) = 48 := h; omega
      subst hc
      exact ⟨[48], t, rfl, ⟨fun c hc => (by simp at hc; omega), fun h => (by simp at h)⟩, by rw [if_pos h]; rfl, Or.inl rfl⟩
  · rw [if_neg h]
    obtain ⟨ds, h1, h2, h3⟩ := skipD_split m
    refine ⟨ds, skipD m, h1, ⟨h2, fun _ he => ?_⟩, rfl, Or.inr h3⟩
    cases ds with
    | nil => simp at he
    | cons c t =>
      simp at he
      subst he
      rw [h1] at h
      exact h rfl
theorem dig_word {c : Nat} (h : 48 ≤ c ∧ c ≤ 57) : wordB c = true := by unfold wordB; simp; omega
theorem sgnd_word {neg : Bool} {ds : List Nat} (h : allD ds) : ∀ c ∈ sgnd neg ds, wordB c = true := by
  intro c hc
  cases neg with
  | false => exact dig_word (h c hc)
  | true =>
    rcases List.mem_cons.1 hc with rfl | hc
    · rfl
    · exact dig_word (h c hc)
/-- letters behind a number's: no number -/
theorem whole_more (neg : Bool) {ds e : List Nat} {d : Nat} {u : List Nat} (hs : shaped ds) (hne : sgnd neg ds ≠ []) (he : e = d :: u) (hx : ds = [48] ∨ digB (d : Int) = false) : (wholeP (sgnd neg ds ++ e)).2 = false := by
  have key : ∀ b, (wholeTail b (ds ++ e)).2 = false := by
    intro b
    rcases hx with rfl | hx
    · unfold wholeTail; rw [if_pos (by subst he; right; right; simp)]
    · apply wholeTail_bad'
      intro ha
      have := ha d (by subst he; simp)
      unfold digB at hx; simp at hx; omega
  cases neg with
  | true => exact key true
  | false =>
    cases ds with
    | nil => exact absurd rfl hne
    | cons c t =>
      have hc := hs.1 c (by simp)
      show (wholeP (c :: t ++ e)).2 = false
      unfold wholeP
      rw [if_neg (by simp; omega)]
      exact key false

theorem V_int (c : Nat) (t : List Nat) (hc : c = 45 ∨ (48 ≤ c ∧ c ≤ 57)) : VPost (c :: t) := by
  have hcw : wordB c = true := by rcases hc with rfl | hc; rfl; exact dig_word hc
  have hlex := lex_word (t := t) hcw
  have hv : valueP (c :: t) = match intP (c :: t) with | some (n, r) => some ((1, n, []), r) | none => none := by
    unfold valueP
    have : peekOf (c :: t) = (c : Int) := rfl
    rw [this, if_neg (by simp; omega), if_neg (by simp; omega), if_neg (by simp; omega), if_neg (by simp; omega)]
    cases intP (c :: t) <;> rfl
  obtain ⟨neg, ds, rest, hr, hsh, hrest, hor, hne⟩ : ∃ (neg : Bool) (ds rest : List Nat), c :: t = sgnd neg ds ++ rest ∧ shaped ds ∧ intRest (c :: t) = rest ∧ (ds = [48] ∨ ∀ d u, rest = d :: u → digB (d : Int) = false) ∧ sgnd neg ds ≠ [] := by
    by_cases h45 : c = 45
    · subst h45
      obtain ⟨ds, rest, h1, h2, h3, h4⟩ := int_shape true t
      refine ⟨true, ds, rest, by rw [h1]; rfl, h2, ?_, h4, by simp [sgnd]⟩
      rw [← h3]; unfold intRest; dsimp only; rfl
    · obtain ⟨ds, rest, h1, h2, h3, h4⟩ := int_shape false (c :: t)
      refine ⟨false, ds, rest, h1, h2, ?_, h4, ?_⟩
      · rw [← h3]
        have e1 : (if peekOf (c :: t) = 45 then (c :: t).tail else c :: t) = c :: t := if_neg (by show ¬ ((c : Int) = 45); omega)
        unfold intRest; dsimp only; rw [e1]
      · intro hn
        have hn : ds = [] := hn
        subst hn
        rcases h4 with h4 | h4
        · cases h4
        · have := h4 c t h1.symm
          unfold digB at this; simp at this; omega
  have htok : intTok (c :: t) = sgnd neg ds := by
    unfold intTok
    rw [hrest]
    conv => lhs; rw [hr]
    simp
  have hw : ∀ x ∈ sgnd neg ds, wordB x = true := sgnd_word hsh.1
  have hwl : wordLen (c :: t) = (sgnd neg ds).length + wordLen rest := by rw [hr]; exact wordLen_app _ _ hw
  have hpos : 0 < (sgnd neg ds).length := List.length_pos_iff.2 hne
  have hi : intP (c :: t) = match Lib.parseIntB 64 (bytesOf (sgnd neg ds)) with | .ok v => some (v, rest) | _ => none := by
    unfold intP
    rw [htok, hrest, runesBytes_ascii _ (fun x hx => wordB_lt (hw x hx))]
    cases Lib.parseIntB 64 (bytesOf (sgnd neg ds)) <;> rfl
  have hdr : (c :: t).drop (wordLen (c :: t)) = rest.drop (wordLen rest) := by
    rw [hwl]; conv => lhs; rw [hr]
    rw [List.drop_append]; simp
  have htk : (c :: t).take (wordLen (c :: t)) = sgnd neg ds ++ rest.take (wordLen rest) := by
    rw [hwl]; conv => lhs; rw [hr]
    rw [List.take_append, List.take_of_length_le (by omega)]; simp
  rw [hdr, htk] at hlex
  have hnc : ∀ u : List Nat, (∀ x ∈ u, wordB x = true) → valP (119, bytesOf (sgnd neg ds ++ u)) = (105, [], (wholeP (sgnd neg ds ++ u)).1, (wholeP (sgnd neg ds ++ u)).2) := by
    intro u hu
    rw [valP_word _ (fun x hx => wordB_lt (by rcases List.mem_append.1 hx with hx | hx; exact hw x hx; exact hu x hx))]
    have hh : ∀ y Y, sgnd neg ds ++ u = y :: Y → y = c := by
      intro y Y e
      cases hq : sgnd neg ds with
      | nil => exact absurd hq hne
      | cons z Z => rw [hq] at hr e; simp at hr e; rw [← e.1, hr.1]
    rw [if_neg (fun e => by have := hh _ _ e; omega), if_neg (fun e => by have := hh _ _ e; omega), if_neg (fun e => by have := hh _ _ e; omega)]
  by_cases hz : wordLen rest = 0
  · rw [hz, List.take_zero, List.append_nil, List.drop_zero] at hlex
    have hvp := hnc [] (fun x hx => by cases hx)
    rw [List.append_nil] at hvp
    rcases num_one neg hsh with ⟨v, g1, g2⟩ | ⟨g1, g2⟩
    · left
      refine ⟨(1, v, []), rest, (119, bytesOf (sgnd neg ds)), ?_, ?_, hlex, ?_, ?_⟩
      · rw [hv, hi, g1]
      · have := congrArg List.length hr; rw [List.length_append] at this; omega
      · rw [hvp, g2]
      · rw [hvp, g2]; rfl
    · right
      refine ⟨fun p ps hp => ?_, Or.inl ?_⟩
      · rw [hlex] at hp
        rw [← map_cons_some hp, hvp]; exact g2
      · rw [hv, hi]
        cases hq : Lib.parseIntB 64 (bytesOf (sgnd neg ds)) with
        | ok v => exact absurd hq (g1 v)
        | «syntax» => rfl
        | range => rfl
  · right
    obtain ⟨d, u, hd, hdw⟩ := wordLen_zero hz
    refine ⟨fun p ps hp => ?_, ?_⟩
    · rw [hlex] at hp
      rw [← map_cons_some hp, hnc _ (take_word rest)]
      have hz' : wordLen rest = wordLen u + 1 := by rw [hd]; exact wordLen_pos hdw
      refine whole_more neg (d := d) (u := u.take (wordLen u)) hsh hne (by rw [hz', hd, List.take_succ_cons]) ?_
      rcases hor with h | h
      · exact Or.inl h
      · exact Or.inr (h d u hd)
    · rw [hv, hi]
      cases hq : Lib.parseIntB 64 (bytesOf (sgnd neg ds)) with
      | ok v => right; exact ⟨(1, v, []), d, u, by rw [hd], hdw⟩
      | «syntax» => left; rfl
      | range => left; rfl

theorem whole_letter {c : Nat} (w : List Nat) (h45 : c ≠ 45) (hd : digB (c : Int) = false) : (wholeP (c :: w)).2 = false := by
  unfold wholeP
  rw [if_neg (by simpa using h45)]
  apply wholeTail_bad'
  intro ha
  have := ha c (by simp)
  unfold digB at hd; simp at hd; omega

theorem V_any (r : List Nat) (hb : skipB r = r) : VPost r := by
  cases r with
  | nil =>
    right
    exact ⟨fun p ps h => (by simp [lex_nil] at h), Or.inl rfl⟩
  | cons c t =>
    have hpk : peekOf (c :: t) = (c : Int) := rfl
    have hbl : blankN c = false := by
      rw [← blankB_N]
      cases hx : blankB c with
      | false => rfl
      | true =>
        rw [skipB, if_pos hx] at hb
        have := congrArg List.length hb
        have := skipB_len t
        simp at *; omega
    by_cases h34 : c = 34
    · subst h34
      have hv : valueP (34 :: t) = match textQ t with | some (v, r) => some ((3, 0, v), r) | none => none := rfl
      cases hx : textQ t with
      | none =>
        right
        exact ⟨fun p ps h => (by rw [lex_quote, hx] at h; cases h), Or.inl (by rw [hv, hx])⟩
      | some q =>
        obtain ⟨v, r⟩ := q
        have := textRun_lenQ hx
        left
        exact ⟨(3, 0, v), r, (34, v), by rw [hv, hx], by simp; omega, by rw [lex_quote, hx], rfl, rfl⟩
    · by_cases h116 : c = 116
      · subst h116
        refine V_word wTrue [114, 117, 101] 116 t (2, 1, []) rfl (by decide) ?_ ⟨by rw [valP_word _ (by decide)]; decide, by rw [valP_word _ (by decide)]; decide⟩ ?_
        · unfold valueP; rw [hpk, if_neg (by decide), if_pos (by decide)]; rfl
        · intro w' hw' hn
          rw [valP_word _ (fun x hx => wordB_lt (by rcases List.mem_cons.1 hx with rfl | hx; rfl; exact hw' x hx)), if_neg hn, if_neg (by unfold wFalse; simp), if_neg (by unfold wNull; simp)]
          exact whole_letter w' (by decide) (by decide)
      · by_cases h102 : c = 102
        · subst h102
          refine V_word wFalse [97, 108, 115, 101] 102 t (2, 0, []) rfl (by decide) ?_ ⟨by rw [valP_word _ (by decide)]; decide, by rw [valP_word _ (by decide)]; decide⟩ ?_
          · unfold valueP; rw [hpk, if_neg (by decide), if_neg (by decide), if_pos (by decide)]; rfl
          · intro w' hw' hn
            rw [valP_word _ (fun x hx => wordB_lt (by rcases List.mem_cons.1 hx with rfl | hx; rfl; exact hw' x hx)), if_neg (by unfold wTrue; simp), if_neg hn, if_neg (by unfold wNull; simp)]
            exact whole_letter w' (by decide) (by decide)
        · by_cases h110 : c = 110
          · subst h110
            refine V_word wNull [117, 108, 108] 110 t (0, 0, []) rfl (by decide) ?_ ⟨by rw [valP_word _ (by decide)]; decide, by rw [valP_word _ (by decide)]; decide⟩ ?_
            · unfold valueP; rw [hpk, if_neg (by decide), if_neg (by decide), if_neg (by decide), if_pos (by decide)]; rfl
            · intro w' hw' hn
              rw [valP_word _ (fun x hx => wordB_lt (by rcases List.mem_cons.1 hx with rfl | hx; rfl; exact hw' x hx)), if_neg (by unfold wTrue; simp), if_neg (by unfold wFalse; simp), if_neg hn]
              exact whole_letter w' (by decide) (by decide)
          · by_cases hnum : c = 45 ∨ (48 ≤ c ∧ c ≤ 57)
            · exact V_int c t hnum
            · have h45 : c ≠ 45 := fun e => hnum (Or.inl e)
              have hdg : digB (c : Int) = false := by unfold digB; simp; omega
              have hv : valueP (c :: t) = none := by
                unfold valueP
                rw [hpk, if_neg (by simp; omega), if_neg (by simp; omega), if_neg (by simp; omega), if_neg (by simp; omega), intP_no h45 hdg]
              right
              refine ⟨fun p ps hp => ?_, Or.inl hv⟩
              by_cases hm : markN c = true
              · rw [lex_mark hm] at hp
                rw [← map_cons_some hp]
                unfold valP valuedP
                dsimp only
                rw [if_neg h34, if_pos (by unfold markN at hm; simp at hm; omega)]
              · by_cases hw : wordB c = true
                · rw [lex_word hw] at hp
                  have htk := take_word (c :: t)
                  rw [← map_cons_some hp]
                  rw [wordLen_pos hw, List.take_succ_cons] at htk ⊢
                  rw [valP_word _ (fun x hx => wordB_lt (htk x hx)), if_neg (by unfold wTrue; simp; omega), if_neg (by unfold wFalse; simp; omega), if_neg (by unfold wNull; simp; omega)]
                  exact whole_letter _ h45 hdg
                · rw [lex_bad hbl (by simpa using hm) h34 (by simpa using hw)] at hp; cases hp
end Go.Proofs.YtdfbhjgpkokebaaGreatDoor
/- A line: the program's reading is the reference's. -/
namespace Go.Proofs.YtdfbhjgpkokebaaGreatDoor
open Go.RowKit

def endOf (o : Option (List Mem × List Nat)) : Option (List Mem) := match o with
  | none => none
  | some (ms, r) => if skipB r = [] then some ms else none

theorem skip_tail_lt {c : Nat} {t : List Nat} : (skipB t).length < (c :: t).length := by have := skipB_len t; simp; omega
theorem T_first {p : Pc} {ps : List Pc} (h : p.1 ≠ 34) : T (p :: ps) = none := by
  unfold T
  split
  · rename_i k c v e r he
    injection he with h1 h2
    subst h1
    rw [if_neg (fun hh => h hh.2.1)]
  · rfl
theorem T_second {k p : Pc} {ps : List Pc} (h : p.1 ≠ 58) : T (k :: p :: ps) = none := by
  unfold T
  split
  · rename_i k' c v e r he
    injection he with h1 h2
    injection h2 with h2 h3
    subst h2
    rw [if_neg (fun hh => h hh.2.2)]
  · rfl
theorem T_third {k c p : Pc} {ps : List Pc} (h : (valP p).2.2.2 = false) : T (k :: c :: p :: ps) = none := by
  unfold T
  split
  · rename_i k' c' v e r he
    injection he with h1 h2
    injection h2 with h2 h3
    injection h3 with h3 h4
    subst h3
    rw [if_neg (fun hh => by rw [h] at hh; cases hh.1)]
  · rfl
theorem T_one (k : Pc) : T [k] = none := rfl
theorem T_two (k c : Pc) : T [k, c] = none := rfl
theorem T_three (k c v : Pc) : T [k, c, v] = none := rfl

theorem G_any (n : Nat) : ∀ (f : Nat) (acc : List Mem) (l : List Nat), l.length ≤ n → l.length < f → skipB l = l →
    endOf (objRun f acc l) = ((lex l).bind T).map (fun ms => acc ++ ms.map toMem) := by
  induction n with
  | zero =>
    intro f acc l h hf hb
    have : l = [] := List.length_eq_zero_iff.1 (by omega)
    subst this
    obtain ⟨f, rfl⟩ : ∃ g, f = g + 1 := ⟨f - 1, by omega⟩
    rfl
  | succ n ih =>
    intro f acc l hn hf hb
    obtain ⟨f, rfl⟩ : ∃ g, f = g + 1 := ⟨f - 1, by omega⟩
    by_cases h34 : peekOf l = 34
    · obtain ⟨t, rfl⟩ : ∃ t, l = 34 :: t := by
        cases l with
        | nil => cases h34
        | cons c t => have : (c : Int) = 34 := h34; exact ⟨t, by rw [show c = 34 by omega]⟩
      have htx : textP (34 :: t) = textQ t := rfl
      cases hx : textQ t with
      | none =>
        have hm : memberP (34 :: t) = none := by unfold memberP; rw [htx, hx]
        rw [objRun, hm, lex_quote, hx]; rfl
      | some q =>
        obtain ⟨name, r1⟩ := q
        have hl1 := textRun_lenQ hx
        have hs1 := skipB_len r1
        have hlex : lex (34 :: t) = (lex (skipB r1)).map ((34, name) :: ·) := by rw [lex_quote, hx, lex_skip]
        have hb1 := skipB_skipB r1
        have hm0 : memberP (34 :: t) = if (peekOf (skipB r1) == 58) then (match valueP (skipB (skipB r1).tail) with
            | none => none
            | some (v, r4) => some ((name, v), skipB r4)) else none := by unfold memberP; rw [htx, hx]; rfl
        generalize skipB r1 = r2 at *
        by_cases h58 : peekOf r2 = 58
        · obtain ⟨t2, rfl⟩ : ∃ t, r2 = 58 :: t := by
            cases r2 with
            | nil => cases h58
            | cons c t => have : (c : Int) = 58 := h58; exact ⟨t, by rw [show c = 58 by omega]⟩
          have hs2 := skipB_len t2
          have hb2 := skipB_skipB t2
          have hlex2 : lex (58 :: t2) = (lex (skipB t2)).map ((58, []) :: ·) := by rw [lex_mark (by decide), lex_skip]
          have hm1 : memberP (34 :: t) = (match valueP (skipB t2) with | none => none | some (v, r4) => some ((name, v), skipB r4)) := by
            rw [hm0, if_pos (by rfl)]; rfl
          generalize skipB t2 = r3 at *
          rcases V_any r3 hb2 with ⟨x, r4, p, g1, g2, g3, g4, g5⟩ | ⟨g1, g2⟩
          · have hs4 := skipB_len r4
            have hb4 := skipB_skipB r4
            have hm : memberP (34 :: t) = some ((name, x), skipB r4) := by rw [hm1, g1]
            have hmem : (name, x) = toMem (mkRM (34, name) p) := by rw [g5]; rfl
            rw [← lex_skip r4] at g3
            rw [objRun, hm, hlex, hlex2, g3, hmem]
            generalize skipB r4 = r5 at *
            simp only [List.length_cons] at hn hf
            dsimp only
            by_cases h125 : peekOf r5 = 125
            · obtain ⟨t5, rfl⟩ : ∃ t, r5 = 125 :: t := by
                cases r5 with
                | nil => cases h125
                | cons c t => have : (c : Int) = 125 := h125; exact ⟨t, by rw [show c = 125 by omega]⟩
              rw [if_pos (by rfl), lex_mark (by decide)]
              have hiff := lex_nil_iff t5
              show (if skipB t5 = [] then some (acc ++ [toMem (mkRM (34, name) p)]) else none) = _
              by_cases he : skipB t5 = []
              · rw [if_pos he, hiff.2 he]
                simp [T, g4]
              · rw [if_neg he]
                cases hl5 : lex t5 with
                | none => rfl
                | some ps =>
                  have hps : ps ≠ [] := fun e => he (hiff.1 (by rw [hl5, e]))
                  simp [T, g4, hps]
            · by_cases h44 : peekOf r5 = 44
              · obtain ⟨t5, rfl⟩ : ∃ t, r5 = 44 :: t := by
                  cases r5 with
                  | nil => cases h44
                  | cons c t => have : (c : Int) = 44 := h44; exact ⟨t, by rw [show c = 44 by omega]⟩
                have hs5 := skipB_len t5
                rw [if_neg (fun h => by cases h), if_pos (by rfl), lex_mark (by decide), List.tail_cons, ih f _ (skipB t5) (by simp only [List.length_cons] at *; omega) (by simp only [List.length_cons] at *; omega) (skipB_skipB t5), lex_skip]
                cases hl5 : lex t5 with
                | none => rfl
                | some ps =>
                  simp only [Option.map_some, Option.bind_some, T, g4, true_and, if_true]
                  rw [if_neg (by simp)]
                  cases T ps <;> simp
              · rw [if_neg (by simpa using h125), if_neg (by simpa using h44)]
                show none = _
                cases hl5 : lex r5 with
                | none => rfl
                | some ps =>
                  cases ps with
                  | nil => rfl
                  | cons q qs =>
                    obtain ⟨c, t5, hc, hor⟩ := lex_head hb4 hl5
                    have hq125 : q.1 ≠ 125 := by
                      intro e
                      rcases hor with ⟨_, h⟩ | ⟨_, h⟩ | ⟨_, h⟩
                      · apply h125; rw [hc]; show (c : Int) = 125; omega
                      · omega
                      · omega
                    have hq44 : q.1 ≠ 44 := by
                      intro e
                      rcases hor with ⟨_, h⟩ | ⟨_, h⟩ | ⟨_, h⟩
                      · apply h44; rw [hc]; show (c : Int) = 44; omega
                      · omega
                      · omega
                    simp [T, g4, hq125, hq44]
          · have hR : ((lex (34 :: t)).bind T) = none := by
              rw [hlex, hlex2]
              cases hl3 : lex r3 with
              | none => rfl
              | some ps =>
                cases ps with
                | nil => rfl
                | cons q qs => exact T_third (g1 q qs hl3)
            rw [hR]
            rcases g2 with g2 | ⟨x, c, u, g2, g3⟩
            · have hm : memberP (34 :: t) = none := by rw [hm1, g2]
              rw [objRun, hm]; rfl
            · have hcb := word_not g3
              have hsk : skipB (c :: u) = c :: u := by rw [skipB, if_neg (by rw [blankB_N, hcb.1]; simp)]
              have hm : memberP (34 :: t) = some ((name, x), c :: u) := by rw [hm1, g2]; dsimp only; rw [hsk]
              have hmk : markN c = false := hcb.2.1
              have h1 : ¬ (peekOf (c :: u) = 125) := by show ¬ ((c : Int) = 125); unfold markN at hmk; simp at hmk; omega
              have h2 : ¬ (peekOf (c :: u) = 44) := by show ¬ ((c : Int) = 44); unfold markN at hmk; simp at hmk; omega
              rw [objRun, hm]
              dsimp only
              rw [if_neg (by simpa using h1), if_neg (by simpa using h2)]; rfl
        · have hm : memberP (34 :: t) = none := by rw [hm0, if_neg (by simpa using h58)]
          rw [objRun, hm, hlex]
          show none = _
          cases hl2 : lex r2 with
          | none => rfl
          | some ps =>
            cases ps with
            | nil => rfl
            | cons q qs =>
              obtain ⟨c, t5, hc, hor⟩ := lex_head hb1 hl2
              have hq : q.1 ≠ 58 := by
                intro e
                rcases hor with ⟨_, h⟩ | ⟨_, h⟩ | ⟨_, h⟩
                · apply h58; rw [hc]; show (c : Int) = 58; omega
                · omega
                · omega
              simp only [Option.map_some, Option.bind_some]
              rw [T_second hq]; rfl
    · have hm : memberP l = none := by
        unfold memberP
        cases l with
        | nil => rfl
        | cons c t =>
          have : textP (c :: t) = none := by unfold textP; dsimp only; rw [if_neg (by simpa [peekOf] using h34)]
          rw [this]
      rw [objRun, hm]
      show none = _
      cases hl : lex l with
      | none => rfl
      | some ps =>
        cases ps with
        | nil => rfl
        | cons q qs =>
          obtain ⟨c, t5, hc, hor⟩ := lex_head hb hl
          have hq : q.1 ≠ 34 := by
            intro e
            rcases hor with ⟨hmk, h⟩ | ⟨h', h⟩ | ⟨_, h⟩
            · have : c = 34 := by omega
              subst this; cases hmk
            · apply h34; rw [hc, h']; rfl
            · omega
          simp only [Option.bind_some]
          rw [T_first hq]; rfl

theorem object_runes (R : List Nat) (hb : skipB R = R) : endOf (objectP R) = ((lex R).bind objT).map (List.map toMem) := by
  by_cases h123 : peekOf R = 123
  · obtain ⟨t, rfl⟩ : ∃ t, R = 123 :: t := by
      cases R with
      | nil => cases h123
      | cons c t => have : (c : Int) = 123 := h123; exact ⟨t, by rw [show c = 123 by omega]⟩
    have e : objectP (123 :: t) = if (peekOf (skipB t) == 125) then some ([], (skipB t).tail) else objRun ((123 :: t).length + 1) [] (skipB t) := by
      unfold objectP; rw [if_pos (by rfl)]; rfl
    have hs := skipB_len t
    have hbt := skipB_skipB t
    rw [e, lex_mark (by decide), ← lex_skip t]
    generalize skipB t = t1 at *
    by_cases h125 : peekOf t1 = 125
    · obtain ⟨u, rfl⟩ : ∃ t, t1 = 125 :: t := by
        cases t1 with
        | nil => cases h125
        | cons c t => have : (c : Int) = 125 := h125; exact ⟨t, by rw [show c = 125 by omega]⟩
      rw [if_pos (by rfl), lex_mark (by decide)]
      have hiff := lex_nil_iff u
      show (if skipB u = [] then some [] else none) = _
      by_cases he : skipB u = []
      · rw [if_pos he, hiff.2 he]; rfl
      · rw [if_neg he]
        cases hl : lex u with
        | none => rfl
        | some ps =>
          have hps : ps ≠ [] := fun e => he (hiff.1 (by rw [hl, e]))
          simp only [Option.map_some, Option.bind_some, objT]
          rw [if_pos trivial, if_neg (by simpa using hps), T_first (by decide)]; rfl
    · rw [if_neg (by simpa using h125), G_any _ _ [] t1 (Nat.le_refl _) (by simp; omega) hbt]
      cases hl : lex t1 with
      | none => rfl
      | some ps =>
        have hne : ps.map (·.1) ≠ [125] := by
          intro e
          cases ps with
          | nil => cases e
          | cons q qs =>
            simp at e
            obtain ⟨c, t5, hc, hor⟩ := lex_head hbt hl
            rcases hor with ⟨_, h⟩ | ⟨_, h⟩ | ⟨_, h⟩
            · apply h125; rw [hc]; show (c : Int) = 125; omega
            · omega
            · omega
        simp only [Option.map_some, Option.bind_some, objT]
        rw [if_pos trivial, if_neg hne]
        cases T ps <;> simp
  · have e : objectP R = none := by unfold objectP; rw [if_neg (by simpa using h123)]
    rw [e]
    show none = _
    cases hl : lex R with
    | none => rfl
    | some ps =>
      cases ps with
      | nil => rfl
      | cons q qs =>
        obtain ⟨c, t5, hc, hor⟩ := lex_head hb hl
        have hq : q.1 ≠ 123 := by
          intro e
          rcases hor with ⟨_, h⟩ | ⟨_, h⟩ | ⟨_, h⟩
          · apply h123; rw [hc]; show (c : Int) = 123; omega
          · omega
          · omega
        simp only [Option.bind_some, objT]
        rw [if_neg hq]; rfl

/-- A LINE: the members that the program reads are those that the reference reads. -/
theorem line_eq (s : ByteArray) : lineP s = ((piecesP (lets s)).bind objT).map (List.map toMem) := by
  have e1 : piecesP (lets s) = if Lib.validD s.data.toList then lex (RU s.data.toList) else none := by
    show piecesRun ((nats s.data.toList).length + 1) [] (nats s.data.toList) = _
    rw [pieces_runes]
    have := RU_len _ s.data.toList (Nat.le_refl _)
    have hl : (nats s.data.toList).length = s.data.toList.length := by simp [nats]
    rw [hl, lex_of _ _ _ (by omega)]
    cases lex (RU s.data.toList) <;> simp
  unfold lineP
  rw [e1, runesOf_RU]
  cases hv : Lib.validD s.data.toList with
  | false => rfl
  | true =>
    rw [if_pos rfl, if_pos rfl]
    have := object_runes (skipB (RU s.data.toList)) (skipB_skipB _)
    rw [lex_skip] at this
    rw [← this]
    unfold endOf
    cases objectP (skipB (RU s.data.toList)) <;> rfl
end Go.Proofs.YtdfbhjgpkokebaaGreatDoor
