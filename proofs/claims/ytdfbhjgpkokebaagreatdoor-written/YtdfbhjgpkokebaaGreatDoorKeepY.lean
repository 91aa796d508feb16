/- Several texts in one. -/
import Derived.Test.YtdfbhjgpkokebaaGreatDoorKeepL
import Derived.Test.YtdfbhjgpkokebaaGreatDoorPureY
/- A made history, plainly; and how it lies in memory between two rounds. -/
namespace Go.Proofs.YtdfbhjgpkokebaaGreatDoor.keep
open Go.RowKit

/-- a made history: its operations, its lines. Which value an operation gave is left open, not what it may be. -/
inductive Tells (i : Nat) : List OpV → List (List UInt8) → Prop
  | nil : Tells i [] []
  | call {ops : List OpV} {lines : List (List UInt8)} (h : Tells i ops lines) (cl : Int) (d : List Int) (hc : -1 ≤ cl ∧ cl ≤ 1) (hf : ∀ o ∈ ops, o.cl = cl → o.ret ≠ 0) : Tells i (ops ++ [(startP i cl ops.length lines.length d).1]) (lines ++ [(startP i cl ops.length lines.length d).2.1])
  | ret {ops : List OpV} {lines : List (List UInt8)} (h : Tells i ops lines) (j k : Nat) (o : OpV) (vk vn : Int) (d : List Int) (hj : ops[j]? = some o) (hr : o.ret = 0) (hk : k < opN i) (hn : o.name = opS i k) (hv : giveOk i k vk vn) : Tells i (ops.set j { o with vk := vk, vn := vn, ret := (lines.length : Int) + 1 }) (lines ++ [(answeredP o.id vk vn d).1])
theorem Tells.len {i : Nat} {ops : List OpV} {lines : List (List UInt8)} (h : Tells i ops lines) : ops.length ≤ lines.length := by
  induction h with
  | nil => simp
  | call h cl d hc hf ih => simp; omega
  | ret h j k o vk vn d hj hr hk hn hv ih => simp; omega
def hasArg (name : List UInt8) : Bool := name == [119, 114, 105, 116, 101] || name == [112, 117, 116] || name == [101, 110, 113] || name == [99, 97, 115]
theorem startP_form (i : Nat) (cl : Int) (n m : Nat) (d : List Int) : ∃ (k kk : Nat) (arg exp : Int) (d' : List Int), k < opN i ∧ kk < 3 ∧ small arg ∧ small exp ∧ (hasArg (opS i k) = false → arg = 0) ∧ (opS i k ≠ [99, 97, 115] → exp = 0) ∧
    (startP i cl n m d).1 = ⟨7 * (n : Int) - 20, cl, opS i k, if keyedN i = true then keyS kk else [], arg, exp, (m : Int) + 1, 0, 0, 0⟩ ∧ (startP i cl n m d).2.1 = (calledP (keyedN i) (7 * (n : Int) - 20) cl (opS i k) arg exp kk d').1 ∧ (startP i cl n m d).2.2.1 = kk ∧ (keyedN i = false → kk = 0) := by
  have ho : 0 < opN i := by unfold opN; split <;> omega
  unfold startP
  dsimp only
  refine ⟨pickP ((nextP 6 d).1 : Int) (opN i), (keyP i (nextP 6 d).2).1, _, _, _, pickP_lt _ ho, keyP_lt _ _, ?_, ?_, ?_, ?_, ?_, rfl, rfl, ?_⟩
  · have := argP_small (opS i (pickP ((nextP 6 d).1 : Int) (opN i))) (keyP i (nextP 6 d).2).2.1
    exact ⟨by omega, by omega⟩
  · have := expP_small (opS i (pickP ((nextP 6 d).1 : Int) (opN i))) (argP (opS i (pickP ((nextP 6 d).1 : Int) (opN i))) (keyP i (nextP 6 d).2).2.1).2
    exact ⟨by omega, by omega⟩
  · intro h
    unfold argP
    rw [if_neg (by rintro (h' | h' | h' | h') <;> (rw [h'] at h; revert h; decide))]
  · intro h
    unfold expP
    rw [if_neg h]
  · congr 1
    unfold keyP
    split <;> rfl
  · intro h
    unfold keyP
    rw [if_neg (by rw [h]; simp)]

theorem Tells.ids {i : Nat} {ops : List OpV} {lines : List (List UInt8)} (h : Tells i ops lines) : ∀ (j : Nat) (o : OpV), ops[j]? = some o → o.id = 7 * (j : Int) - 20 := by
  induction h with
  | nil => intro j o hj; simp at hj
  | @call ops lines h cl d hc hf ih =>
    intro j o hj
    by_cases hl : j < ops.length
    · rw [List.getElem?_append_left hl] at hj; exact ih j o hj
    · rw [List.getElem?_append_right (by omega)] at hj
      have h0 : j - ops.length = 0 := by have := (List.getElem?_eq_some_iff.1 hj).1; simp at this; omega
      rw [h0] at hj
      simp at hj
      rw [← hj]
      show 7 * (ops.length : Int) - 20 = _
      omega
  | @ret ops lines h j k o vk vn d hj hr hk hn hv ih =>
    intro a p hp
    have hjl := (List.getElem?_eq_some_iff.1 hj).1
    by_cases e : j = a
    · subst e
      rw [List.getElem?_set_self hjl] at hp
      injection hp with hp
      rw [← hp]
      exact ih j o hj
    · rw [List.getElem?_set_ne e] at hp; exact ih a p hp
theorem giveOk_val {i k : Nat} {vk vn : Int} (h : giveOk i k vk vn) : valOk vk vn := by
  have hI : intOk vk vn → valOk vk vn := by rintro ⟨rfl, s1, s2⟩; exact Or.inr (Or.inl ⟨rfl, by omega, by omega⟩)
  have hN : nullOk vk vn → valOk vk vn := by rintro ⟨rfl, rfl⟩; exact Or.inl ⟨rfl, rfl⟩
  have hB : boolOk vk vn → valOk vk vn := by rintro ⟨rfl, hh⟩; exact Or.inr (Or.inr ⟨rfl, hh⟩)
  unfold giveOk at h
  split at h
  all_goals first | exact hI h | exact hN h | exact hB h | exact h.elim hI hN
/-- a client between two rounds: nothing open; or its operation is open, its value given or not -/
inductive Seat (i : Nat) (ops : List OpV) (gv : Nat → Int × Int) (who : Int) : Int → Int → Int → Prop
  | idle (op key : Int) (h : ∀ o ∈ ops, o.cl = who → o.ret ≠ 0) : Seat i ops gv who 0 op key
  | opened (j kk k : Nat) (o : OpV) (st : Int) (hj : ops[j]? = some o) (hc : o.cl = who) (hr : o.ret = 0) (hk : k < opN i) (hn : o.name = opS i k) (ha : small o.arg) (hkk : kk < 3) (hz : i = 0 → kk = 0)
      (hu : ∀ j' o', ops[j']? = some o' → o'.cl = who → o'.ret = 0 → j' = j) (hs : st = 1 ∨ (st = 2 ∧ giveOk i k (gv j).1 (gv j).2)) : Seat i ops gv who st (j : Int) (kk : Int)
theorem Seat.snoc {i : Nat} {ops : List OpV} {gv : Nat → Int × Int} {who st op key : Int} (h : Seat i ops gv who st op key) (o : OpV) (hne : o.cl ≠ who) : Seat i (ops ++ [o]) gv who st op key := by
  cases h with
  | idle _ _ h =>
    refine .idle _ _ fun p hp => ?_
    rcases List.mem_append.1 hp with hp | hp
    · exact h p hp
    · simp at hp; subst hp; exact fun e => absurd e hne
  | opened j kk k p _ hj hc hr hk hn ha hkk hz hu hs =>
    have hjl := (List.getElem?_eq_some_iff.1 hj).1
    refine .opened j kk k p _ (by rw [List.getElem?_append_left hjl]; exact hj) hc hr hk hn ha hkk hz (fun j' o' hj' hc' hr' => ?_) hs
    by_cases hl : j' < ops.length
    · rw [List.getElem?_append_left hl] at hj'; exact hu j' o' hj' hc' hr'
    · rw [List.getElem?_append_right (by omega)] at hj'
      have h0 : j' - ops.length = 0 := by have := (List.getElem?_eq_some_iff.1 hj').1; simp at this; omega
      rw [h0] at hj'
      simp at hj'
      subst hj'
      exact absurd hc' hne
theorem Seat.set {i : Nat} {ops : List OpV} {gv : Nat → Int × Int} {who st op key : Int} (h : Seat i ops gv who st op key) (j : Nat) (o o' : OpV) (hj : ops[j]? = some o) (hne : o.cl ≠ who) (hne' : o'.cl ≠ who) : Seat i (ops.set j o') gv who st op key := by
  have hjl := (List.getElem?_eq_some_iff.1 hj).1
  cases h with
  | idle _ _ h =>
    refine .idle _ _ fun p hp => ?_
    rcases List.mem_or_eq_of_mem_set hp with hp | hp
    · exact h p hp
    · subst hp; exact fun e => absurd e hne'
  | opened j2 kk k p _ hj2 hc hr hk hn ha hkk hz hu hs =>
    have hjj : j ≠ j2 := by intro e; subst e; rw [hj] at hj2; injection hj2 with e; subst e; exact hne hc
    refine .opened j2 kk k p _ (by rw [List.getElem?_set_ne hjj]; exact hj2) hc hr hk hn ha hkk hz (fun j' p' hj' hc' hr' => ?_) hs
    by_cases hl : j = j'
    · subst hl
      rw [List.getElem?_set_self hjl] at hj'
      injection hj' with e
      subst e
      exact absurd hc' hne'
    · rw [List.getElem?_set_ne hl] at hj'; exact hu j' p' hj' hc' hr'
theorem Seat.gv {i : Nat} {ops : List OpV} {gv gv' : Nat → Int × Int} {who st op key : Int} (h : Seat i ops gv who st op key) (he : ∀ j o, ops[j]? = some o → o.cl = who → gv' j = gv j) : Seat i ops gv' who st op key := by
  cases h with
  | idle _ _ h => exact .idle _ _ h
  | opened j kk k p _ hj hc hr hk hn ha hkk hz hu hs => exact .opened j kk k p _ hj hc hr hk hn ha hkk hz hu (by rw [he j p hj hc]; exact hs)

theorem Seat.three {i : Nat} {ops : List OpV} {gv : Nat → Int × Int} {who st op key : Int} (h : Seat i ops gv who st op key) : st = 0 ∨ ∃ (j kk k : Nat) (o : OpV), op = (j : Int) ∧ key = (kk : Int) ∧ ops[j]? = some o ∧ o.cl = who ∧ o.ret = 0 ∧ k < opN i ∧ o.name = opS i k ∧ small o.arg ∧ kk < 3 ∧ (i = 0 → kk = 0) ∧
    (∀ j' o', ops[j']? = some o' → o'.cl = who → o'.ret = 0 → j' = j) ∧ (st = 1 ∨ (st = 2 ∧ giveOk i k (gv j).1 (gv j).2)) := by
  cases h with
  | idle _ _ h => exact Or.inl rfl
  | opened j kk k p _ hj hc hr hk hn ha hkk hz hu hs => exact Or.inr ⟨j, kk, k, p, rfl, rfl, hj, hc, hr, hk, hn, ha, hkk, hz, hu, hs⟩

def upd {α : Type} (f : Nat → α) (h : Nat) (v : α) : Nat → α := fun x => if x = h then v else f x
theorem upd_same {α : Type} (f : Nat → α) (h : Nat) (v : α) : upd f h v h = v := if_pos rfl
theorem upd_ne {α : Type} (f : Nat → α) {h x : Nat} (v : α) (hx : x ≠ h) : upd f h v x = f x := if_neg hx
def stF (s : Int) : Nat := if s = 1 then 2 else if s = 2 then 1 else 0
/-- how many rounds are still to come, at the most -/
def mM (most n : Nat) (st : Nat → Int) : Nat := 3 * (most - n) + stF (st 0) + stF (st 1) + stF (st 2)
theorem mM_upd (most n : Nat) (st : Nat → Int) (h : Nat) (hh : h < 3) (v : Int) : mM most n (upd st h v) + stF (st h) = mM most n st + stF v := by
  unfold mM upd
  obtain rfl | rfl | rfl : h = 0 ∨ h = 1 ∨ h = 2 := by omega
  · simp; omega
  · simp; omega
  · simp; omega
theorem mM_line (most n : Nat) (st : Nat → Int) (h : n < most) : mM most (n + 1) st + 3 = mM most n st := by unfold mM; omega

/-- what lies in memory between two rounds -/
structure MI (b wb tb cb gb base i most : Nat) (sv : Value) (code : List Int) (wr : World) (d : List Int) (ops : List OpV) (lines : List (List UInt8)) (keys : List Nat) (vo vl vk : Value) (st : Nat → Int) (cc gc wc : Array Value) (gv : Nat → Int × Int) (TS : List Nat) : Prop where
  dice : Dice wr b sv code d
  tale : Tale wr tb base i ops lines keys vo vl vk
  kl : keys.length = ops.length
  tl : Tells i ops lines
  ll : lines.length ≤ most
  cblk : wr.heap[cb]? = some (.cells cc 56 (0, 0))
  seats : ∀ (h : Nat), h < 3 → ∃ op key, cc[3 * h]? = some (.int .i64 (st h)) ∧ cc[3 * h + 1]? = some (.int .i64 op) ∧ cc[3 * h + 2]? = some (.int .i64 key) ∧ Seat i ops gv ((h : Int) - 1) (st h) op key
  gblk : wr.heap[gb]? = some (.cells gc 46 (0, 0))
  gcell : ∀ j, j ≤ most → gc[2 * j]? = some (.int .i64 (gv j).1) ∧ gc[2 * j + 1]? = some (.int .i64 (gv j).2)
  wblk : wr.heap[wb]? = some (.cells wc 67 (0, 0))
  things : ∀ k, k < 3 → ∃ v n, wc[1 + k]? = some v ∧ ThRow wr TS v n ∧ (i = 0 → k = 0 → 1 ≤ n) ∧ n + mM most lines.length st ≤ 3 * most + 1
  ts : ∀ x ∈ TS, x < wr.heap.size ∧ wb < x ∧ x ≠ tb ∧ x ≠ cb ∧ x ≠ gb ∧ vo.ownBlock ≠ some x ∧ vl.ownBlock ≠ some x ∧ vk.ownBlock ≠ some x
  bs : base ≤ wr.heap.size
/-- the order of the blocks -/
def BO (b wb tb cb gb base : Nat) : Prop := b < wb ∧ wb < tb ∧ tb < cb ∧ cb < gb ∧ gb < base

theorem MI.next {b wb tb cb gb base i most : Nat} {sv : Value} {code : List Int} {wr : World} {d : List Int} {ops : List OpV} {lines : List (List UInt8)} {keys : List Nat} {vo vl vk : Value} {st : Nat → Int} {cc gc wc : Array Value} {gv : Nat → Int × Int} {TS : List Nat}
    (m : MI b wb tb cb gb base i most sv code wr d ops lines keys vo vl vk st cc gc wc gv TS) (hB : BO b wb tb cb gb base) {w' : World} {d' : List Int} (hd : Dice w' b sv code d') (k : Kept [b] wr w') :
    MI b wb tb cb gb base i most sv code w' d' ops lines keys vo vl vk st cc gc wc gv TS := by
  obtain ⟨h1, h2, h3, h4, h5⟩ := hB
  have hsz := k.size
  have hbs := m.bs
  refine ⟨hd, m.tale.kept k (by simp; omega) (by simp; omega), m.kl, m.tl, m.ll, (k.block cb (lt_of_blk m.cblk) (by simp; omega)).trans m.cblk, m.seats, (k.block gb (lt_of_blk m.gblk) (by simp; omega)).trans m.gblk, m.gcell, (k.block wb (lt_of_blk m.wblk) (by simp; omega)).trans m.wblk, ?_, ?_, by omega⟩
  · intro q hq
    obtain ⟨v, n, e1, e2, e3, e4⟩ := m.things q hq
    exact ⟨v, n, e1, e2.step (TStep.of_kept k (fun x hx => by have := m.ts x hx; simp; omega)) (fun _ h => h), e3, e4⟩
  · intro x hx
    obtain ⟨a, r⟩ := m.ts x hx
    exact ⟨by omega, r⟩

theorem MI.start {b wb tb cb gb base i most : Nat} {sv : Value} {code : List Int} {wr : World} {d : List Int} {ops : List OpV} {lines : List (List UInt8)} {keys : List Nat} {vo vl vk : Value} {st : Nat → Int} {cc gc wc : Array Value} {gv : Nat → Int × Int} {TS : List Nat}
    (m : MI b wb tb cb gb base i most sv code wr d ops lines keys vo vl vk st cc gc wc gv TS) (hB : BO b wb tb cb gb base) (h : Nat) (hh : h < 3) (hst : st h = 0) (hlt : lines.length < most) {w' : World} {d' : List Int} {cc' : Array Value} {vo' vl' vk' : Value}
    (hd : Dice w' b sv code d') (ht : Tale w' tb base i (ops ++ [(startP i ((h : Int) - 1) ops.length lines.length d).1]) (lines ++ [(startP i ((h : Int) - 1) ops.length lines.length d).2.1]) (keys ++ [(startP i ((h : Int) - 1) ops.length lines.length d).2.2.1]) vo' vl' vk')
    (n1 : NewOr wr.heap.size vo vo') (n2 : NewOr wr.heap.size vl vl') (n3 : NewOr wr.heap.size vk vk') (hc : Client w' cb (3 * h) cc cc' 1 (ops.length : Int) ((startP i ((h : Int) - 1) ops.length lines.length d).2.2.1 : Int))
    (hk : Kept ([b, cb, tb] ++ (vl.ownBlock.toList ++ (vo.ownBlock.toList ++ vk.ownBlock.toList))) wr w') :
    MI b wb tb cb gb base i most sv code w' d' (ops ++ [(startP i ((h : Int) - 1) ops.length lines.length d).1]) (lines ++ [(startP i ((h : Int) - 1) ops.length lines.length d).2.1]) (keys ++ [(startP i ((h : Int) - 1) ops.length lines.length d).2.2.1]) vo' vl' vk' (upd st h 1) cc' gc wc gv TS := by
  obtain ⟨h1, h2, h3, h4, h5⟩ := hB
  have hsz := hk.size
  have hbs := m.bs
  obtain ⟨k, kk, arg, exp, d2, q1, q2, q3, q4, q5, q6, q7, q8, q9, q10⟩ := startP_form i ((h : Int) - 1) ops.length lines.length d
  have hown : ∀ x, x ∈ vl.ownBlock.toList ++ (vo.ownBlock.toList ++ vk.ownBlock.toList) → base ≤ x := by
    intro x hx
    rcases List.mem_append.1 hx with hx | hx
    · exact (m.tale.lines.lt x (by simpa using hx)).1
    · rcases List.mem_append.1 hx with hx | hx
      · exact (m.tale.ops.lt x (by simpa using hx)).1
      · exact (m.tale.keys.lt x (by simpa using hx)).1
  have hS : ∀ x, x ∈ [b, cb, tb] ++ (vl.ownBlock.toList ++ (vo.ownBlock.toList ++ vk.ownBlock.toList)) → x = b ∨ x = cb ∨ x = tb ∨ base ≤ x := by
    intro x hx
    rcases List.mem_append.1 hx with hx | hx
    · simp only [List.mem_cons, List.not_mem_nil, or_false] at hx
      rcases hx with h | h | h
      · exact Or.inl h
      · exact Or.inr (Or.inl h)
      · exact Or.inr (Or.inr (Or.inl h))
    · exact Or.inr (Or.inr (Or.inr (hown x hx)))
  have hidle : ∀ o ∈ ops, o.cl = (h : Int) - 1 → o.ret ≠ 0 := by
    obtain ⟨op, key, _, _, _, hs⟩ := m.seats h hh
    rw [hst] at hs
    generalize hz : (0 : Int) = z at hs
    cases hs with
    | idle _ _ hf => exact hf
    | opened j kk k p _ hj hc hr hk hn ha hkk hz' hu hs => rcases hs with hs | hs <;> omega
  have hTS : ∀ x ∈ TS, x ∉ [b, cb, tb] ++ (vl.ownBlock.toList ++ (vo.ownBlock.toList ++ vk.ownBlock.toList)) := by
    intro x hx hm
    obtain ⟨a1, a2, a3, a4, a5, a6, a7, a8⟩ := m.ts x hx
    rcases List.mem_append.1 hm with hm | hm
    · simp only [List.mem_cons, List.not_mem_nil, or_false] at hm
      omega
    · rcases List.mem_append.1 hm with hm | hm
      · exact a7 (by simpa using hm)
      · rcases List.mem_append.1 hm with hm | hm
        · exact a6 (by simpa using hm)
        · exact a8 (by simpa using hm)
  refine ⟨hd, ht, by simp [m.kl], .call m.tl _ d ⟨by omega, by omega⟩ hidle, by simp; omega, hc.blk, ?_, ?_, m.gcell, ?_, ?_, ?_, by omega⟩
  · intro h' hh'
    by_cases e : h' = h
    · subst e
      refine ⟨_, _, by rw [upd_same]; exact hc.c0, hc.c1, hc.c2, ?_⟩
      rw [upd_same, q9, q7]
      refine .opened ops.length kk k _ 1 (by rw [List.getElem?_append_right (Nat.le_refl _), Nat.sub_self]; rfl) rfl rfl q1 rfl q3 q2 (fun e => q10 (by rw [e]; rfl)) (fun j' o' hj' hc' hr' => ?_) (Or.inl rfl)
      by_cases hl : j' < ops.length
      · rw [List.getElem?_append_left hl] at hj'
        exact absurd hr' (hidle o' (List.mem_of_getElem? hj') hc')
      · have := (List.getElem?_eq_some_iff.1 hj').1
        simp at this; omega
    · obtain ⟨op, key, e1, e2, e3, hs⟩ := m.seats h' hh'
      have ap : ∀ r, r < 3 → cc'[3 * h' + r]? = cc[3 * h' + r]? := fun r hr => hc.ap.2 _ (by omega) (by omega) (by omega)
      refine ⟨op, key, ?_, ?_, ?_, ?_⟩
      · rw [upd_ne _ _ e]; exact (ap 0 (by omega)).trans e1
      · exact (ap 1 (by omega)).trans e2
      · exact (ap 2 (by omega)).trans e3
      · rw [upd_ne _ _ e]
        refine hs.snoc _ ?_
        rw [q7]
        show (h : Int) - 1 ≠ (h' : Int) - 1
        omega
  · exact (hk.block gb (lt_of_blk m.gblk) (fun hm => by have := hS _ hm; omega)).trans m.gblk
  · exact (hk.block wb (lt_of_blk m.wblk) (fun hm => by have := hS _ hm; omega)).trans m.wblk
  · intro q hq
    obtain ⟨v, n, e1, e2, e3, e4⟩ := m.things q hq
    refine ⟨v, n, e1, e2.step (TStep.of_kept hk hTS) (fun _ h => h), e3, ?_⟩
    have hm1 := mM_upd most (lines.length + 1) st h hh 1
    have hm2 := mM_line most lines.length st hlt
    rw [hst] at hm1
    have s0 : stF 0 = 0 := rfl
    have s1 : stF 1 = 2 := rfl
    rw [List.length_append, List.length_cons, List.length_nil, Nat.zero_add]
    omega
  · intro x hx
    obtain ⟨a1, a2, a3, a4, a5, a6, a7, a8⟩ := m.ts x hx
    refine ⟨by omega, a2, a3, a4, a5, fun e => ?_, fun e => ?_, fun e => ?_⟩
    · rcases n1 x e with e | e
      · exact a6 e
      · omega
    · rcases n2 x e with e | e
      · exact a7 e
      · omega
    · rcases n3 x e with e | e
      · exact a8 e
      · omega

theorem ThRow.few {w : World} {TS : List Nat} {v : Value} {n N : Nat} (h : ThRow w TS v n) (hN : w.heap.size ≤ N) : ThRow w (TS.filter (fun x => decide (x < N))) v n := by
  rcases h with h | ⟨g, off, cap, hv, hg, hlt, r⟩
  · exact Or.inl h
  · exact Or.inr ⟨g, off, cap, hv, List.mem_filter.2 ⟨hg, by simp; omega⟩, hlt, r⟩
theorem MI.did {b wb tb cb gb base i most : Nat} {sv : Value} {code : List Int} {wr : World} {d : List Int} {ops : List OpV} {lines : List (List UInt8)} {keys : List Nat} {vo vl vk : Value} {st : Nat → Int} {cc gc wc : Array Value} {gv : Nat → Int × Int} {TS : List Nat}
    (m : MI b wb tb cb gb base i most sv code wr d ops lines keys vo vl vk st cc gc wc gv TS) (hB : BO b wb tb cb gb base) (h : Nat) (hh : h < 3) (hst : st h = 1)
    (j kk k : Nat) (o : OpV) (hc1 : cc[3 * h + 1]? = some (.int .i64 (j : Int))) (hc2 : cc[3 * h + 2]? = some (.int .i64 (kk : Int))) (hj : ops[j]? = some o) (hc : o.cl = (h : Int) - 1) (hr : o.ret = 0) (hk : k < opN i) (hn : o.name = opS i k) (ha : small o.arg) (hkk : kk < 3) (hz : i = 0 → kk = 0)
    (hu : ∀ j' o', ops[j']? = some o' → o'.cl = (h : Int) - 1 → o'.ret = 0 → j' = j) {w1 w' : World} {n0 : Nat} {xk xn : Int} {v' : Value} {n' : Nat} {TS' : List Nat} (hn0 : n0 + mM most lines.length st ≤ 3 * most + 1)
    (hok : giveOk i k xk xn) (hlo : loN i ≤ n') (hn' : n' ≤ n0 + 1) (hsub : ∀ x ∈ TS, x ∈ TS') (hnew : ∀ x ∈ TS', x ∈ TS ∨ wr.heap.size ≤ x) (hwb : w1.heap[wb]? = some (.cells (wc.setIfInBounds (1 + kk) v') 67 (0, 0))) (hrow : ThRow w1 TS' v' n') (hstep : TStep [wb] TS wr w1)
    (hkp : Kept [gb, cb] w1 w') (hg : w'.heap[gb]? = some (.cells ((gc.setIfInBounds (2 * j) (.int .i64 xk)).setIfInBounds (2 * j + 1) (.int .i64 xn)) 46 (0, 0))) (hcb : w'.heap[cb]? = some (.cells (cc.setIfInBounds (3 * h) (.int .i64 2)) 56 (0, 0))) :
    ∃ TS2, MI b wb tb cb gb base i most sv code w' d ops lines keys vo vl vk (upd st h 2) (cc.setIfInBounds (3 * h) (.int .i64 2)) ((gc.setIfInBounds (2 * j) (.int .i64 xk)).setIfInBounds (2 * j + 1) (.int .i64 xn)) (wc.setIfInBounds (1 + kk) v') (upd gv j (xk, xn)) TS2 := by
  obtain ⟨h1, h2, h3, h4, h5⟩ := hB
  have hs1 := hstep.kept.size
  have hs2 := hkp.size
  have hbs := m.bs
  have hjl := (List.getElem?_eq_some_iff.1 hj).1
  have htl := m.tl.len
  have hll := m.ll
  have hjm : j ≤ most := by omega
  have hmm := mM_upd most lines.length st h hh 2
  rw [hst] at hmm
  have s1 : stF 1 = 2 := rfl
  have s2 : stF 2 = 1 := rfl
  have hnotin : ∀ x, base ≤ x → x ∉ TS → x ∉ [wb] ++ TS := fun x hx hn hm => by
    rcases List.mem_append.1 hm with hm | hm
    · simp at hm; omega
    · exact hn hm
  have hko : ∀ g, vo.ownBlock = some g → g ∉ [wb] ++ TS := fun g hg => hnotin g (m.tale.ops.lt g hg).1 (fun hm => (m.ts g hm).2.2.2.2.2.1 hg)
  have hkl : ∀ g, vl.ownBlock = some g → g ∉ [wb] ++ TS := fun g hg => hnotin g (m.tale.lines.lt g hg).1 (fun hm => (m.ts g hm).2.2.2.2.2.2.1 hg)
  have hkk' : ∀ g, vk.ownBlock = some g → g ∉ [wb] ++ TS := fun g hg => hnotin g (m.tale.keys.lt g hg).1 (fun hm => (m.ts g hm).2.2.2.2.2.2.2 hg)
  have hlow : ∀ x, (x = tb ∨ x = cb ∨ x = gb) → x ∉ [wb] ++ TS := fun x hx hm => by
    rcases List.mem_append.1 hm with hm | hm
    · simp at hm; omega
    · have := m.ts x hm; omega
  have ht1 := m.tale.kept2 hstep.kept (hlow tb (Or.inl rfl)) hko hkl hkk'
  have hd1 := m.dice.kept hstep.kept (fun x hx => by
    rcases List.mem_append.1 hx with hx | hx
    · simp at hx; omega
    · have := m.ts x hx; omega)
  have hTS2 : ∀ x, x ∈ TS'.filter (fun x => decide (x < w'.heap.size)) → x < w'.heap.size ∧ (x ∈ TS ∨ wr.heap.size ≤ x) := fun x hx => by
    obtain ⟨a, b⟩ := List.mem_filter.1 hx
    exact ⟨by simpa using b, hnew x a⟩
  have hdis : ∀ x, x ∈ TS'.filter (fun x => decide (x < w'.heap.size)) → x ∉ [gb, cb] := fun x hx hm => by
    obtain ⟨_, hx2⟩ := hTS2 x hx
    simp only [List.mem_cons, List.not_mem_nil, or_false] at hm
    rcases hx2 with hx2 | hx2
    · have := m.ts x hx2; omega
    · omega
  have hstep2 : TStep [gb, cb] (TS'.filter (fun x => decide (x < w'.heap.size))) w1 w' := TStep.of_kept hkp hdis
  refine ⟨TS'.filter (fun x => decide (x < w'.heap.size)), hd1.kept hkp (by simp; omega), ht1.kept hkp (by simp; omega) (by simp; omega), m.kl, m.tl, m.ll, hcb, ?_, hg, ?_, ?_, ?_, ?_, by omega⟩
  · intro h' hh'
    obtain ⟨op, key, e1, e2, e3, hs⟩ := m.seats h' hh'
    by_cases e : h' = h
    · subst e
      refine ⟨(j : Int), (kk : Int), ?_, ?_, ?_, ?_⟩
      · rw [upd_same]; simp [(Array.getElem?_eq_some_iff.1 e1).1]
      · rw [Array.getElem?_setIfInBounds_ne (by omega)]; exact hc1
      · rw [Array.getElem?_setIfInBounds_ne (by omega)]; exact hc2
      · rw [upd_same]
        exact .opened j kk k o 2 hj hc hr hk hn ha hkk hz hu (Or.inr ⟨rfl, by rw [upd_same]; exact hok⟩)
    · refine ⟨op, key, ?_, ?_, ?_, ?_⟩
      · rw [upd_ne _ _ e, Array.getElem?_setIfInBounds_ne (by omega)]; exact e1
      · rw [Array.getElem?_setIfInBounds_ne (by omega)]; exact e2
      · rw [Array.getElem?_setIfInBounds_ne (by omega)]; exact e3
      · rw [upd_ne _ _ e]
        refine hs.gv fun j' o' hj' hc' => upd_ne _ _ ?_
        intro e2
        subst e2
        rw [hj] at hj'
        injection hj' with hj'
        subst hj'
        omega
  · intro j' hj'
    have hsz : 2 * j + 1 < gc.size := (Array.getElem?_eq_some_iff.1 (m.gcell j hjm).2).1
    by_cases e : j' = j
    · subst e
      rw [upd_same]
      refine ⟨?_, ?_⟩
      · rw [Array.getElem?_setIfInBounds_ne (by omega), Array.getElem?_setIfInBounds_self_of_lt (by omega)]
      · rw [Array.getElem?_setIfInBounds_self_of_lt (by rw [Array.size_setIfInBounds]; omega)]
    · rw [upd_ne _ _ e, Array.getElem?_setIfInBounds_ne (by omega), Array.getElem?_setIfInBounds_ne (by omega), Array.getElem?_setIfInBounds_ne (by omega), Array.getElem?_setIfInBounds_ne (by omega)]
      exact m.gcell j' hj'
  · exact (hkp.block wb (lt_of_blk hwb) (by simp; omega)).trans hwb
  · intro q hq
    obtain ⟨v, n, e1, e2, e3, e4⟩ := m.things q hq
    by_cases e : q = kk
    · subst e
      refine ⟨v', n', by simp [(Array.getElem?_eq_some_iff.1 e1).1], (hrow.few hs2).step hstep2 (fun _ h => h), fun hi0 hq0 => ?_, by omega⟩
      rw [hi0] at hlo; exact hlo
    · refine ⟨v, n, ?_, ((e2.step hstep hsub).few hs2).step hstep2 (fun _ h => h), e3, by omega⟩
      rw [Array.getElem?_setIfInBounds_ne (by omega)]; exact e1
  · intro x hx
    obtain ⟨hx1, hx2⟩ := hTS2 x hx
    rcases hx2 with hx2 | hx2
    · obtain ⟨_, r⟩ := m.ts x hx2
      exact ⟨hx1, r⟩
    · exact ⟨hx1, by omega, by omega, by omega, by omega, fun e => by have := (m.tale.ops.lt x e).2; omega, fun e => by have := (m.tale.lines.lt x e).2; omega, fun e => by have := (m.tale.keys.lt x e).2; omega⟩

theorem MI.back {b wb tb cb gb base i most : Nat} {sv : Value} {code : List Int} {wr : World} {d : List Int} {ops : List OpV} {lines : List (List UInt8)} {keys : List Nat} {vo vl vk : Value} {st : Nat → Int} {cc gc wc : Array Value} {gv : Nat → Int × Int} {TS : List Nat}
    (m : MI b wb tb cb gb base i most sv code wr d ops lines keys vo vl vk st cc gc wc gv TS) (hB : BO b wb tb cb gb base) (h : Nat) (hh : h < 3) (hst : st h = 2) (hlt : lines.length < most)
    (j kk k : Nat) (o : OpV) (hc1 : cc[3 * h + 1]? = some (.int .i64 (j : Int))) (hc2 : cc[3 * h + 2]? = some (.int .i64 (kk : Int))) (hj : ops[j]? = some o) (hc : o.cl = (h : Int) - 1) (hr : o.ret = 0) (hk : k < opN i) (hn : o.name = opS i k)
    (hu : ∀ j' o', ops[j']? = some o' → o'.cl = (h : Int) - 1 → o'.ret = 0 → j' = j) (hok : giveOk i k (gv j).1 (gv j).2) {w' : World} {d' : List Int} {vl' : Value}
    (hd : Dice w' b sv code d') (ht : Tale w' tb base i (ops.set j { o with vk := (gv j).1, vn := (gv j).2, ret := (lines.length : Int) + 1 }) (lines ++ [(answeredP o.id (gv j).1 (gv j).2 d).1]) keys vo vl' vk) (n2 : NewOr wr.heap.size vl vl')
    (hcb : w'.heap[cb]? = some (.cells (cc.setIfInBounds (3 * h) (.int .i64 0)) 56 (0, 0))) (hkp : Kept ([b, cb, tb] ++ (vl.ownBlock.toList ++ vo.ownBlock.toList)) wr w') :
    MI b wb tb cb gb base i most sv code w' d' (ops.set j { o with vk := (gv j).1, vn := (gv j).2, ret := (lines.length : Int) + 1 }) (lines ++ [(answeredP o.id (gv j).1 (gv j).2 d).1]) keys vo vl' vk (upd st h 0) (cc.setIfInBounds (3 * h) (.int .i64 0)) gc wc gv TS := by
  obtain ⟨h1, h2, h3, h4, h5⟩ := hB
  have hsz := hkp.size
  have hbs := m.bs
  have hjl := (List.getElem?_eq_some_iff.1 hj).1
  have hS : ∀ x, x ∈ [b, cb, tb] ++ (vl.ownBlock.toList ++ vo.ownBlock.toList) → x = b ∨ x = cb ∨ x = tb ∨ base ≤ x := by
    intro x hx
    rcases List.mem_append.1 hx with hx | hx
    · simp only [List.mem_cons, List.not_mem_nil, or_false] at hx
      omega
    · rcases List.mem_append.1 hx with hx | hx
      · exact Or.inr (Or.inr (Or.inr (m.tale.lines.lt x (by simpa using hx)).1))
      · exact Or.inr (Or.inr (Or.inr (m.tale.ops.lt x (by simpa using hx)).1))
  have hTS : ∀ x ∈ TS, x ∉ [b, cb, tb] ++ (vl.ownBlock.toList ++ vo.ownBlock.toList) := by
    intro x hx hm
    obtain ⟨a1, a2, a3, a4, a5, a6, a7, a8⟩ := m.ts x hx
    rcases List.mem_append.1 hm with hm | hm
    · simp only [List.mem_cons, List.not_mem_nil, or_false] at hm
      omega
    · rcases List.mem_append.1 hm with hm | hm
      · exact a7 (by simpa using hm)
      · exact a6 (by simpa using hm)
  refine ⟨hd, ht, by simp [m.kl], .ret m.tl j k o _ _ d hj hr hk hn hok, by simp; omega, hcb, ?_, ?_, m.gcell, ?_, ?_, ?_, by omega⟩
  · intro h' hh'
    obtain ⟨op, key, e1, e2, e3, hs⟩ := m.seats h' hh'
    by_cases e : h' = h
    · subst e
      refine ⟨(j : Int), (kk : Int), ?_, ?_, ?_, ?_⟩
      · rw [upd_same]; simp [(Array.getElem?_eq_some_iff.1 e1).1]
      · rw [Array.getElem?_setIfInBounds_ne (by omega)]; exact hc1
      · rw [Array.getElem?_setIfInBounds_ne (by omega)]; exact hc2
      · rw [upd_same]
        refine .idle _ _ fun p hp hpc hpr => ?_
        obtain ⟨q, hq⟩ := List.mem_iff_getElem?.1 hp
        by_cases e : j = q
        · subst e
          rw [List.getElem?_set_self hjl] at hq
          injection hq with hq
          subst hq
          have hpr' : (lines.length : Int) + 1 = 0 := hpr
          omega
        · rw [List.getElem?_set_ne e] at hq
          exact e (hu q p hq hpc hpr).symm
    · refine ⟨op, key, ?_, ?_, ?_, ?_⟩
      · rw [upd_ne _ _ e, Array.getElem?_setIfInBounds_ne (by omega)]; exact e1
      · rw [Array.getElem?_setIfInBounds_ne (by omega)]; exact e2
      · rw [Array.getElem?_setIfInBounds_ne (by omega)]; exact e3
      · rw [upd_ne _ _ e]
        exact hs.set j o _ hj (by rw [hc]; omega) (by show o.cl ≠ _; rw [hc]; omega)
  · exact (hkp.block gb (lt_of_blk m.gblk) (fun hm => by have := hS _ hm; omega)).trans m.gblk
  · exact (hkp.block wb (lt_of_blk m.wblk) (fun hm => by have := hS _ hm; omega)).trans m.wblk
  · intro q hq
    obtain ⟨v, n, e1, e2, e3, e4⟩ := m.things q hq
    refine ⟨v, n, e1, e2.step (TStep.of_kept hkp hTS) (fun _ h => h), e3, ?_⟩
    have hm1 := mM_upd most (lines.length + 1) st h hh 0
    have hm2 := mM_line most lines.length st hlt
    rw [hst] at hm1
    have s0 : stF 0 = 0 := rfl
    have s2 : stF 2 = 1 := rfl
    rw [List.length_append, List.length_cons, List.length_nil, Nat.zero_add]
    omega
  · intro x hx
    obtain ⟨a1, a2, a3, a4, a5, a6, a7, a8⟩ := m.ts x hx
    refine ⟨by omega, a2, a3, a4, a5, a6, fun e => ?_, a8⟩
    rcases n2 x e with e | e
    · exact a7 e
    · omega
end Go.Proofs.YtdfbhjgpkokebaaGreatDoor.keep
/- Made lines, cut into pieces: what stands at a text's head, and what is left of it. -/
namespace Go.Proofs.YtdfbhjgpkokebaaGreatDoor.keep
open Go.RowKit

def stopB : List Nat → Bool
  | [] => true
  | c :: _ => !wordB c
theorem stop_app {a b : List Nat} (ha : stopB a = true) (hb : stopB b = true) : stopB (a ++ b) = true := by
  cases a with
  | nil => exact hb
  | cons c t => exact ha
theorem stop_ne {a b : List Nat} (hn : a ≠ []) (ha : stopB a = true) : stopB (a ++ b) = true := by
  cases a with
  | nil => exact absurd rfl hn
  | cons c t => exact ha
/-- what is cut off a text's head: its pieces (q: the last one is a word, so no word may follow) -/
def Lx (q : Bool) (a : List Nat) (ps : List Pc) : Prop := ∀ (rest : List Nat), (q = true → stopB rest = true) → ∀ (f : Nat) (acc : List Pc), (a ++ rest).length < f →
  ∃ f', rest.length < f' ∧ piecesRun f acc (a ++ rest) = piecesRun f' (acc ++ ps) rest
theorem Lx.nil : Lx false [] [] := fun rest _ f acc h => ⟨f, h, by simp⟩
theorem Lx.weak {q : Bool} {a : List Nat} {ps : List Pc} (h : Lx q a ps) : Lx true a ps := fun rest hr => h rest (fun _ => hr rfl)
theorem Lx.app {q : Bool} {a b : List Nat} {ps qs : List Pc} (h1 : Lx false a ps) (h2 : Lx q b qs) : Lx q (a ++ b) (ps ++ qs) := by
  intro rest hr f acc hf
  obtain ⟨f1, hf1, e1⟩ := h1 (b ++ rest) (by simp) f acc (by rw [List.append_assoc] at hf; exact hf)
  obtain ⟨f2, hf2, e2⟩ := h2 rest hr f1 (acc ++ ps) hf1
  exact ⟨f2, hf2, by rw [List.append_assoc, e1, e2, List.append_assoc]⟩
theorem Lx.appW {q : Bool} {a b : List Nat} {ps qs : List Pc} (h1 : Lx true a ps) (h2 : Lx q b qs) (hb : stopB b = true) (hq : q = true ∨ b ≠ []) : Lx q (a ++ b) (ps ++ qs) := by
  intro rest hr f acc hf
  have hs : stopB (b ++ rest) = true := by
    rcases hq with hq | hq
    · exact stop_app hb (hr hq)
    · exact stop_ne hq hb
  obtain ⟨f1, hf1, e1⟩ := h1 (b ++ rest) (fun _ => hs) f acc (by rw [List.append_assoc] at hf; exact hf)
  obtain ⟨f2, hf2, e2⟩ := h2 rest hr f1 (acc ++ ps) hf1
  exact ⟨f2, hf2, by rw [List.append_assoc, e1, e2, List.append_assoc]⟩
theorem Lx.blank {c : Nat} (h : blankN c = true) : Lx false [c] [] := by
  intro rest _ f acc hf
  match f, hf with
  | f + 1, hf => exact ⟨f, by simp at hf; omega, by show piecesRun (f + 1) acc (c :: rest) = _; rw [piecesRun, if_pos h, List.append_nil]⟩
theorem Lx.mark {c : Nat} (h : markN c = true) : Lx false [c] [(c, [])] := by
  intro rest _ f acc hf
  match f, hf with
  | f + 1, hf => exact ⟨f, by simp at hf; omega, by show piecesRun (f + 1) acc (c :: rest) = _; rw [piecesRun, if_neg (by rw [mark_not_blank h]; simp), if_pos h]⟩
/-- a string between quotes -/
theorem Lx.quote {q : List Nat} {v : List UInt8} (h : ∀ rest, quotP (q ++ 34 :: rest) = some (v, rest)) : Lx false (34 :: q ++ [34]) [(34, v)] := by
  intro rest _ f acc hf
  match f, hf with
  | f + 1, hf =>
    refine ⟨f, by simp at hf; omega, ?_⟩
    show piecesRun (f + 1) acc (34 :: (q ++ [34] ++ rest)) = _
    rw [piecesRun, if_neg (by decide), if_neg (by decide), if_pos rfl, show q ++ [34] ++ rest = q ++ 34 :: rest by simp, h rest]
theorem wordLen_stop {rest : List Nat} (h : stopB rest = true) : wordLen rest = 0 := by
  cases rest with
  | nil => rfl
  | cons c t => unfold wordLen; rw [if_neg (by simpa [stopB] using h)]
/-- a word -/
theorem Lx.word {w : List Nat} (hw : ∀ c ∈ w, wordB c = true) (hn : w ≠ []) : Lx true w [(119, bytesOf w)] := by
  intro rest hr f acc hf
  have hl : wordLen (w ++ rest) = w.length := by rw [wordLen_app w rest hw, wordLen_stop (hr rfl)]; omega
  match w, f, hw, hn, hf, hl with
  | c :: t, f + 1, hw, _, hf, hl =>
    refine ⟨f, by simp at hf; omega, ?_⟩
    have hc := word_not (hw c (by simp))
    show piecesRun (f + 1) acc (c :: (t ++ rest)) = _
    have hl' : wordLen (c :: (t ++ rest)) = (c :: t).length := hl
    rw [piecesRun, if_neg (by rw [hc.1]; simp), if_neg (by rw [hc.2.1]; simp), if_neg hc.2.2, hl', if_neg (by simp)]
    have e1 : (c :: (t ++ rest)).take (c :: t).length = c :: t := by
      show ((c :: t) ++ rest).take _ = _
      rw [List.take_left']; rfl
    have e2 : (c :: (t ++ rest)).drop (c :: t).length = rest := by
      show ((c :: t) ++ rest).drop _ = _
      rw [List.drop_left']; rfl
    rw [e1, e2]
theorem lets_nats (l : List UInt8) : lets ⟨l.toArray⟩ = nats l := by unfold lets nats; simp
theorem nats_app (a b : List UInt8) : nats (a ++ b) = nats a ++ nats b := by unfold nats; simp
/-- a whole text -/
theorem Lx.whole {a : List UInt8} {ps : List Pc} (h : Lx true (nats a) ps) : piecesP (lets ⟨a.toArray⟩) = some ps := by
  rw [lets_nats]
  obtain ⟨f', hf, e⟩ := h [] (fun _ => rfl) ((nats a).length + 1) [] (by simp)
  unfold piecesP
  rw [List.append_nil] at e
  rw [e, List.nil_append]
  match f', hf with
  | f' + 1, _ => rfl

/-- blanks -/
theorem Lx.bl (k : Nat) : Lx false (nats (blS k)) [] := by
  unfold blS
  split
  · exact Lx.nil
  · exact Lx.nil
  · exact Lx.blank (by decide)
  · exact Lx.blank (by decide)
  · exact Lx.app (Lx.blank (c := 32) (by decide)) (Lx.blank (c := 13) (by decide))
theorem stop_bl (k : Nat) : stopB (nats (blS k)) = true := by
  unfold blS; split <;> decide
theorem Lx.bk (d : List Int) : Lx false (nats (blankP d).1) [] := Lx.bl _
theorem stop_bk (d : List Int) : stopB (nats (blankP d).1) = true := stop_bl _

/-- plain letters between quotes -/
theorem quot_plain (q : List Nat) (h : ∀ c ∈ q, 32 ≤ c ∧ c < 128 ∧ c ≠ 34 ∧ c ≠ 92) (rest : List Nat) : ∀ (f : Nat) (out : List UInt8), (q ++ 34 :: rest).length < f → quotRun f out (q ++ 34 :: rest) = some (out ++ bytesOf q, rest) := by
  induction q with
  | nil =>
    intro f out hf
    match f, hf with
    | f + 1, _ => show quotRun (f + 1) out (34 :: rest) = _; rw [quotRun, if_pos rfl]; simp [bytesOf]
  | cons c t ih =>
    intro f out hf
    match f, hf with
    | f + 1, hf =>
      have hc := h c (by simp)
      show quotRun (f + 1) out (c :: (t ++ 34 :: rest)) = _
      rw [quotRun, if_neg hc.2.2.1, if_neg hc.2.2.2, charP_one hc.2.1, if_neg (by intro h; rcases h with h | h; cases h; omega)]
      show quotRun f (out ++ bytesOf ((c :: (t ++ 34 :: rest)).take 1)) ((c :: (t ++ 34 :: rest)).drop 1) = _
      rw [show (c :: (t ++ 34 :: rest)).take 1 = [c] by simp, show (c :: (t ++ 34 :: rest)).drop 1 = t ++ 34 :: rest by simp, ih (fun c hc => h c (by simp [hc])) f _ (by simp at hf ⊢; omega)]
      simp [bytesOf]
theorem Lx.plain {q : List Nat} (h : ∀ c ∈ q, 32 ≤ c ∧ c < 128 ∧ c ≠ 34 ∧ c ≠ 92) : Lx false (34 :: q ++ [34]) [(34, bytesOf q)] :=
  Lx.quote fun rest => by unfold quotP; rw [quot_plain q h rest _ _ (by omega)]; rfl

/-- digits -/
theorem digP_nats (m : Nat) : ∀ n, n < m → ∃ ds, nats (digP n) = ds ∧ allD ds ∧ ds ≠ [] ∧ dval 0 ds = n ∧ (1 < ds.length → ds.headD 0 ≠ 48) ∧ (n ≠ 0 → ds.headD 0 ≠ 48) := by
  induction m with
  | zero => intro n h; omega
  | succ m ih =>
    intro n h
    rw [digP]
    by_cases h10 : n < 10
    · rw [if_pos h10]
      have e : nats [UInt8.ofNat (48 + n)] = [48 + n] := by unfold nats; simp; omega
      refine ⟨_, rfl, ?_, ?_, ?_, ?_, ?_⟩ <;> rw [e]
      · intro c hc; simp at hc; omega
      · simp
      · show dval (0 * 10 + (48 + n - 48)) [] = n; show 0 * 10 + (48 + n - 48) = n; omega
      · intro h; simp at h
      · intro h; show 48 + n ≠ 48; omega
    · rw [if_neg h10]
      obtain ⟨ds, e1, e2, e3, e4, e5, e6⟩ := ih (n / 10) (by omega)
      have e : nats [UInt8.ofNat (48 + n % 10)] = [48 + n % 10] := by unfold nats; simp; omega
      refine ⟨_, rfl, ?_, ?_, ?_, ?_, ?_⟩ <;> rw [nats_app, e1, e]
      · intro c hc
        rcases List.mem_append.1 hc with hc | hc
        · exact e2 c hc
        · simp at hc; omega
      · simp
      · have happ : ∀ (l : List Nat) (a : Nat), dval a (l ++ [48 + n % 10]) = dval a l * 10 + n % 10 := by
          intro l
          induction l with
          | nil => intro a; show a * 10 + (48 + n % 10 - 48) = a * 10 + n % 10; omega
          | cons c t ih => intro a; exact ih _
        rw [happ, e4]; omega
      · intro _
        have := e6 (by omega)
        cases ds with
        | nil => exact absurd rfl e3
        | cons c t => exact this
      · intro _
        have := e6 (by omega)
        cases ds with
        | nil => exact absurd rfl e3
        | cons c t => exact this
theorem allD_lt {ds : List Nat} (h : allD ds) : ∀ c ∈ ds, c < 128 := fun c hc => by have := h c hc; omega
/-- a number's text, as a value -/
theorem sgn_val (n : Int) (h0 : -1000000 < n) (h1 : n < 1000000) : (∀ c ∈ nats (sgnP n), wordB c = true) ∧ nats (sgnP n) ≠ [] ∧ valP (119, sgnP n) = (105, [], n, true) := by
  have key : ∃ neg ds, nats (sgnP n) = sgnd neg ds ∧ shaped ds ∧ ds ≠ [] ∧ wholeP (sgnd neg ds) = (n, true) := by
    unfold sgnP
    by_cases hn : n < 0
    · rw [if_pos hn]
      obtain ⟨ds, e1, e2, e3, e4, e5, e6⟩ := digP_nats 1000001 n.natAbs (by omega)
      refine ⟨true, ds, by show nats (45 :: _) = 45 :: ds; rw [← e1]; rfl, ⟨e2, e5⟩, e3, ?_⟩
      show wholeP (45 :: ds) = _
      unfold wholeP
      rw [if_pos (show (45 :: ds).headD 0 = 45 from rfl)]
      show wholeTail true ds = _
      rw [wtail true ⟨e2, e5⟩ e3, e4, if_pos (by omega), if_pos rfl]
      congr 1; omega
    · rw [if_neg hn]
      obtain ⟨ds, e1, e2, e3, e4, e5, e6⟩ := digP_nats 1000001 n.toNat (by omega)
      refine ⟨false, ds, by rw [e1]; rfl, ⟨e2, e5⟩, e3, ?_⟩
      show wholeP ds = _
      unfold wholeP
      rw [if_neg (by cases ds with | nil => exact absurd rfl e3 | cons c t => have := e2 c (by simp); simp; omega), wtail false ⟨e2, e5⟩ e3, e4, if_pos (by omega), if_neg (by simp), if_neg (by omega)]
      congr 1; omega
  obtain ⟨neg, ds, e, hs, hne, hw⟩ := key
  have hword := sgnd_word (neg := neg) hs.1
  have hlt : ∀ c ∈ sgnd neg ds, c < 128 := fun c hc => wordB_lt (hword c hc)
  refine ⟨by rw [e]; exact hword, by rw [e]; unfold sgnd; split <;> simp [hne], ?_⟩
  have hb : sgnP n = bytesOf (sgnd neg ds) := by rw [← e, bytes_nats]
  have hx : ∀ W : List Nat, (wholeP W).2 = false → sgnd neg ds ≠ W := by intro W hW e; rw [← e, hw] at hW; cases hW
  rw [hb, valP_word _ hlt, if_neg (hx _ (by decide)), if_neg (hx _ (by decide)), if_neg (hx _ (by decide)), hw]
theorem Lx.sgn {n : Int} (h0 : -1000000 < n) (h1 : n < 1000000) : Lx true (nats (sgnP n)) [(119, sgnP n)] := by
  obtain ⟨a, b, c⟩ := sgn_val n h0 h1
  have := Lx.word a b
  rwa [bytes_nats] at this
end Go.Proofs.YtdfbhjgpkokebaaGreatDoor.keep
/- Made lines, read: the members of a line, in the order in which they stand. -/
namespace Go.Proofs.YtdfbhjgpkokebaaGreatDoor.keep
open Go.RowKit

/-- a member's text, and what it is read as -/
def Memb (m : List UInt8) (rm : RM) : Prop := ∃ k v, Lx true (nats m) [(34, k), (58, []), v] ∧ stopB (nats m) = true ∧ (valP v).2.2.2 = true ∧ mkRM (34, k) v = rm
/-- the members from a place on, around -/
def rotL (rms : List RM) (f : Nat) : Nat → Nat → List RM
  | 0, _ => []
  | n + 1, i => rms.getD ((f + i) % rms.length) zeroRM :: rotL rms f n (i + 1)
theorem ev_body (ms : List (List UInt8)) (rms : List RM) (f : Nat) (hl : rms.length = ms.length) (h0 : 0 < ms.length) (hm : ∀ j, j < ms.length → Memb (ms.getD j []) (rms.getD j zeroRM)) :
    ∀ (n i : Nat) (s : List UInt8) (d : List Int), ∃ (body : List UInt8) (pcs : List Pc), (evRun ms f n i s d).1 = s ++ body ∧ stopB (nats body) = true ∧ Lx true (nats body) pcs ∧ (n = 0 → pcs = []) ∧
      (n ≠ 0 → ∃ pcs', pcs = (if i = 0 then [] else [(44, [])]) ++ pcs' ∧ T (pcs' ++ [(125, [])]) = some (rotL rms f n i) ∧ 3 ≤ pcs'.length) := by
  intro n
  induction n with
  | zero => intro i s d; exact ⟨[], [], by simp [evRun], rfl, Lx.nil.weak, fun _ => rfl, fun h => absurd rfl h⟩
  | succ n ih =>
    intro i s d
    obtain ⟨k, v, hx, hst, hv, hrm⟩ := hm ((f + i) % ms.length) (Nat.mod_lt _ h0)
    obtain ⟨body, pcs, e1, e2, e3, e4, e5⟩ := ih (i + 1) ((if i = 0 then s else s ++ [44]) ++ (blankP d).1 ++ ms.getD ((f + i) % ms.length) [] ++ (blankP (blankP d).2).1) (blankP (blankP d).2).2
    have hA : Lx true (nats (ms.getD ((f + i) % ms.length) []) ++ (nats (blankP (blankP d).2).1 ++ nats body)) ([(34, k), (58, []), v] ++ ([] ++ pcs)) :=
      Lx.appW hx (Lx.app (Lx.bk _) e3) (stop_app (stop_bk _) e2) (Or.inl rfl)
    have hB := Lx.app (Lx.bk d) hA
    have hsb : stopB (nats (blankP d).1 ++ (nats (ms.getD ((f + i) % ms.length) []) ++ (nats (blankP (blankP d).2).1 ++ nats body))) = true := stop_app (stop_bk _) (stop_app hst (stop_app (stop_bk _) e2))
    have hT : T ([(34, k), (58, []), v] ++ pcs ++ [(125, [])]) = some (rotL rms f (n + 1) i) := by
      show T ((34, k) :: (58, []) :: v :: (pcs ++ [(125, [])])) = some (rms.getD ((f + i) % rms.length) zeroRM :: rotL rms f n (i + 1))
      rw [hl, ← hrm]
      by_cases hn : n = 0
      · rw [e4 hn, hn, List.nil_append, T, if_pos ⟨hv, rfl, rfl⟩, if_pos ⟨rfl, rfl⟩]; rfl
      · obtain ⟨pcs', r1, r2, _⟩ := e5 hn
        rw [r1, if_neg (by omega)]
        show T ((34, k) :: (58, []) :: v :: (44, []) :: (pcs' ++ [(125, [])])) = _
        rw [T, if_pos ⟨hv, rfl, rfl⟩, if_neg (by rintro ⟨h, _⟩; cases h), if_pos rfl, r2]; rfl
    by_cases hi : i = 0
    · refine ⟨(blankP d).1 ++ (ms.getD ((f + i) % ms.length) [] ++ ((blankP (blankP d).2).1 ++ body)), [(34, k), (58, []), v] ++ pcs, ?_, ?_, ?_, fun h => absurd h (by omega), fun _ => ⟨_, by rw [if_pos hi]; rfl, hT, by simp⟩⟩
      · rw [evRun, e1, if_pos hi]; simp only [List.append_assoc]
      · rw [nats_app, nats_app, nats_app]; exact hsb
      · rw [nats_app, nats_app, nats_app]; exact hB
    · refine ⟨[44] ++ ((blankP d).1 ++ (ms.getD ((f + i) % ms.length) [] ++ ((blankP (blankP d).2).1 ++ body))), [(44, [])] ++ ([(34, k), (58, []), v] ++ pcs), ?_, ?_, ?_, fun h => absurd h (by omega), fun _ => ⟨_, by rw [if_neg hi], hT, by simp⟩⟩
      · rw [evRun, e1, if_neg hi]; simp only [List.append_assoc]
      · rfl
      · rw [nats_app, nats_app, nats_app, nats_app]; exact Lx.app (Lx.mark (c := 44) (by decide)) hB
/-- A MADE LINE: its members, around from some place on. -/
theorem event_rm (ms : List (List UInt8)) (rms : List RM) (d : List Int) (hl : rms.length = ms.length) (h0 : 0 < ms.length) (hm : ∀ j, j < ms.length → Memb (ms.getD j []) (rms.getD j zeroRM)) :
    (piecesP (lets ⟨(eventT ms d).1.toArray⟩)).bind objI = some (rotL rms (nextP ms.length d).1 ms.length 0) := by
  unfold eventT
  dsimp only
  generalize (nextP ms.length d).1 = f
  generalize (nextP ms.length d).2 = d1
  obtain ⟨body, pcs, e1, e2, e3, e4, e5⟩ := ev_body ms rms f hl h0 hm ms.length 0 ((blankP d1).1 ++ [123]) (blankP d1).2
  obtain ⟨pcs', r1, r2, r3⟩ := e5 (by omega)
  rw [if_pos rfl, List.nil_append] at r1
  subst r1
  rw [e1]
  generalize (evRun ms f ms.length 0 ((blankP d1).1 ++ [123]) (blankP d1).2).2 = d2
  have hA : Lx true (nats body ++ (nats [125] ++ nats (blankP d2).1)) (pcs ++ ([(125, [])] ++ [])) := Lx.appW e3 (Lx.app (Lx.mark (c := 125) (by decide)) (Lx.bk d2)).weak rfl (Or.inl rfl)
  have hB : Lx true (nats (blankP d1).1 ++ (nats [123] ++ (nats body ++ (nats [125] ++ nats (blankP d2).1)))) ([] ++ ([(123, [])] ++ (pcs ++ ([(125, [])] ++ [])))) := Lx.app (Lx.bk d1) (Lx.app (Lx.mark (c := 123) (by decide)) hA)
  have hC : Lx true (nats ((blankP d1).1 ++ [123] ++ body ++ [125] ++ (blankP d2).1)) ((123, []) :: (pcs ++ [(125, [])])) := by
    have e : nats ((blankP d1).1 ++ [123] ++ body ++ [125] ++ (blankP d2).1) = nats (blankP d1).1 ++ (nats [123] ++ (nats body ++ (nats [125] ++ nats (blankP d2).1))) := by
      simp only [nats_app, List.append_assoc]
    rw [e]; exact hB
  rw [hC.whole]
  show objI _ = _
  rw [objI_T]
  show (if (123 : Nat) = 123 then (if (pcs ++ [((125 : Nat), ([] : List UInt8))]).map (fun p => p.1) = [125] then some [] else T (pcs ++ [(125, [])])) else none) = _
  rw [if_pos rfl, if_neg (by intro h; have := congrArg List.length h; simp at this; rw [this] at r3; simp at r3), r2]

theorem rotL_len (rms : List RM) (f : Nat) : ∀ n i, (rotL rms f n i).length = n := by
  intro n
  induction n with
  | zero => intro i; rfl
  | succ n ih => intro i; rw [rotL, List.length_cons, ih]
theorem rotL_get (rms : List RM) (f : Nat) : ∀ n i j, j < n → (rotL rms f n i)[j]? = some (rms.getD ((f + i + j) % rms.length) zeroRM) := by
  intro n
  induction n with
  | zero => intro i j h; omega
  | succ n ih =>
    intro i j h
    rw [rotL]
    cases j with
    | zero => rfl
    | succ j => rw [List.getElem?_cons_succ, ih (i + 1) j (by omega), show f + (i + 1) + j = f + i + (j + 1) by omega]
theorem rotL_eq (rms : List RM) (f : Nat) (hf : f < rms.length) : rotL rms f rms.length 0 = rms.drop f ++ rms.take f := by
  apply List.ext_getElem?
  intro j
  by_cases hj : j < rms.length
  · rw [rotL_get rms f _ 0 j hj, Nat.add_zero]
    have hg : ∀ q, q < rms.length → some (rms.getD q zeroRM) = rms[q]? := fun q hq => by rw [List.getD, List.getElem?_eq_getElem hq]; rfl
    by_cases h1 : f + j < rms.length
    · rw [Nat.mod_eq_of_lt h1, hg _ h1, List.getElem?_append_left (by rw [List.length_drop]; omega), List.getElem?_drop]
    · have e : (f + j) % rms.length = f + j - rms.length := by rw [Nat.mod_eq_sub_mod (by omega), Nat.mod_eq_of_lt (by omega)]
      rw [e, hg _ (by omega), List.getElem?_append_right (by rw [List.length_drop]; omega), List.length_drop, List.getElem?_take, if_pos (by omega), show j - (rms.length - f) = f + j - rms.length by omega]
  · rw [List.getElem?_eq_none (by rw [rotL_len]; omega), List.getElem?_eq_none (by rw [List.length_append, List.length_drop, List.length_take]; omega)]
/-- members, one by one -/
theorem memb_int {nm : List UInt8} (pre : List UInt8) (b0 b1 : List UInt8) {n : Int} (h0 : -1000000 < n) (h1 : n < 1000000) (hp : pre = [34] ++ nm ++ [34]) (hnm : ∀ c ∈ nats nm, 32 ≤ c ∧ c < 128 ∧ c ≠ 34 ∧ c ≠ 92) (hb0 : Lx false (nats b0) []) (hb1 : Lx false (nats b1) []) :
    Memb (pre ++ b0 ++ [58] ++ b1 ++ sgnP n) (nm, 105, [], n) := by
  have hq := Lx.plain hnm
  rw [bytes_nats] at hq
  have hA : Lx true (nats pre ++ (nats b0 ++ (nats [58] ++ (nats b1 ++ nats (sgnP n))))) ([(34, nm)] ++ ([] ++ ([(58, [])] ++ ([] ++ [(119, sgnP n)])))) := by
    refine Lx.app ?_ (Lx.app hb0 (Lx.app (Lx.mark (c := 58) (by decide)) (Lx.app hb1 (Lx.sgn h0 h1))))
    rw [hp, nats_app, nats_app]
    exact hq
  refine ⟨nm, (119, sgnP n), ?_, ?_, ?_, ?_⟩
  · have e : nats (pre ++ b0 ++ [58] ++ b1 ++ sgnP n) = nats pre ++ (nats b0 ++ (nats [58] ++ (nats b1 ++ nats (sgnP n)))) := by simp only [nats_app, List.append_assoc]
    rw [e]; exact hA
  · rw [hp]; rfl
  · rw [(sgn_val n h0 h1).2.2]
  · unfold mkRM; rw [(sgn_val n h0 h1).2.2]
theorem memb_call {b0 : List UInt8} {id : Int} (h0 : -1000000 < id) (h1 : id < 1000000) (hb : Lx false (nats b0) []) : Memb (mCall b0 id) (sCall, 105, [], id) := by
  unfold mCall
  exact memb_int (nm := sCall) _ b0 b0 h0 h1 rfl (by decide) hb hb
theorem memb_by {id : Int} (h0 : -1000000 < id) (h1 : id < 1000000) : Memb (mBy id) (sBy, 105, [], id) :=
  memb_int (nm := sBy) [34, 98, 121, 34] [] [] h0 h1 rfl (by decide) Lx.nil Lx.nil
theorem memb_exp {id : Int} (h0 : -1000000 < id) (h1 : id < 1000000) : Memb (mExp id) (sExp, 105, [], id) :=
  memb_int (nm := sExp) [34, 101, 120, 112, 34] [] [] h0 h1 rfl (by decide) Lx.nil Lx.nil
theorem memb_arg {id : Int} (h0 : -1000000 < id) (h1 : id < 1000000) : Memb (mArg id) (sArg, 105, [], id) :=
  memb_int (nm := sArg) [34, 97, 114, 103, 34] [] [] h0 h1 rfl (by decide) Lx.nil Lx.nil
theorem memb_ret {id : Int} (h0 : -1000000 < id) (h1 : id < 1000000) : Memb (mRet id) (sRet, 105, [], id) :=
  memb_int (nm := sRet) [34, 114, 101, 116, 34] [] [] h0 h1 rfl (by decide) Lx.nil Lx.nil
theorem memb_str {nm q v : List UInt8} (hnm : ∀ c ∈ nats nm, 32 ≤ c ∧ c < 128 ∧ c ≠ 34 ∧ c ≠ 92) (hq : Lx false (nats ([34] ++ q ++ [34])) [(34, v)]) : Memb ([34] ++ nm ++ [34] ++ [58] ++ ([34] ++ q ++ [34])) (nm, 115, v, 0) := by
  have hn := Lx.plain hnm
  rw [bytes_nats] at hn
  have hA : Lx false ((34 :: nats nm ++ [34]) ++ (nats [58] ++ nats ([34] ++ q ++ [34]))) ([(34, nm)] ++ ([(58, [])] ++ [(34, v)])) := Lx.app hn (Lx.app (Lx.mark (c := 58) (by decide)) hq)
  refine ⟨nm, (34, v), ?_, rfl, rfl, rfl⟩
  have e : nats ([34] ++ nm ++ [34] ++ [58] ++ ([34] ++ q ++ [34])) = (34 :: nats nm ++ [34]) ++ (nats [58] ++ nats ([34] ++ q ++ [34])) := by simp [nats]
  rw [e]; exact hA.weak
theorem memb_op {name : List UInt8} (h : ∀ c ∈ nats name, 32 ≤ c ∧ c < 128 ∧ c ≠ 34 ∧ c ≠ 92) : Memb (mOp name) (sOp, 115, name, 0) := by
  have hq := Lx.plain h
  rw [bytes_nats] at hq
  have := memb_str (nm := sOp) (q := name) (v := name) (by decide) (by rw [nats_app, nats_app]; exact hq)
  have e : mOp name = [34] ++ sOp ++ [34] ++ [58] ++ ([34] ++ name ++ [34]) := by simp [mOp, sOp]
  rw [e]; exact this
theorem memb_key {q v : List UInt8} (h : ∀ rest, quotP (nats q ++ 34 :: rest) = some (v, rest)) : Memb (mKey q) (sKey, 115, v, 0) := by
  have hq := Lx.quote h
  have := memb_str (nm := sKey) (q := q) (v := v) (by decide) (by rw [nats_app, nats_app]; exact hq)
  have e : mKey q = [34] ++ sKey ++ [34] ++ [58] ++ ([34] ++ q ++ [34]) := by simp [mKey, sKey]
  rw [e]; exact this
theorem quot_sp (k p : Nat) (hk : k < 3) (rest : List Nat) : quotP (nats (spS k p) ++ 34 :: rest) = some (keyS k, rest) := by
  obtain rfl | rfl | rfl : k = 0 ∨ k = 1 ∨ k = 2 := by omega
  · match p with
    | 0 => rfl
    | 1 => rfl
    | p + 2 => rfl
  · match p with
    | 0 => rfl
    | 1 => rfl
    | p + 2 => rfl
  · match p with
    | 0 => rfl
    | 1 => rfl
    | p + 2 => rfl
def vRM (k n : Int) : RM := if k = 1 then (sVal, 105, [], n) else if k = 2 then (if n = 1 then (sVal, 116, [], 0) else (sVal, 102, [], 0)) else (sVal, 110, [], 0)
theorem memb_word {w : List UInt8} {r : Nat × List UInt8 × Int} (hw : ∀ c ∈ nats w, wordB c = true) (hn : nats w ≠ []) (hv : valP (119, w) = (r.1, r.2.1, r.2.2, true)) : Memb ([34, 118, 97, 108, 34, 58] ++ w) (sVal, r.1, r.2.1, r.2.2) := by
  have hq : Lx false (nats ([34] ++ sVal ++ [34])) [(34, sVal)] := by
    have := Lx.plain (q := nats sVal) (by decide)
    rw [bytes_nats] at this
    rw [nats_app, nats_app]; exact this
  have hW := Lx.word hw hn
  rw [bytes_nats] at hW
  refine ⟨sVal, (119, w), ?_, rfl, by rw [hv], by unfold mkRM; rw [hv]⟩
  have := Lx.app hq (Lx.app (Lx.mark (c := 58) (by decide)) hW)
  rw [nats_app]
  exact this
theorem memb_val {k n : Int} (h : valOk k n) : Memb (mVal k n) (vRM k n) := by
  unfold mVal toldP vRM
  rcases h with ⟨rfl, rfl⟩ | ⟨rfl, h0, h1⟩ | ⟨rfl, rfl | rfl⟩
  · exact memb_word (r := (110, [], 0)) (w := [110, 117, 108, 108]) (by decide) (by decide) (by have := valP_word [110, 117, 108, 108] (by decide); exact this)
  · rw [if_pos rfl, if_pos rfl]
    obtain ⟨a, b, c⟩ := sgn_val n h0 h1
    exact memb_word (r := (105, [], n)) a b c
  · exact memb_word (r := (102, [], 0)) (w := [102, 97, 108, 115, 101]) (by decide) (by decide) (by have := valP_word [102, 97, 108, 115, 101] (by decide); exact this)
  · exact memb_word (r := (116, [], 0)) (w := [116, 114, 117, 101]) (by decide) (by decide) (by have := valP_word [116, 114, 117, 101] (by decide); exact this)
end Go.Proofs.YtdfbhjgpkokebaaGreatDoor.keep
/- Made lines, read: a call's and a return's rules; a made history is read as it was meant. -/
namespace Go.Proofs.YtdfbhjgpkokebaaGreatDoor.keep
open Go.RowKit

/-- members and what they are read as, one by one -/
def MembL : List (List UInt8) → List RM → Prop
  | [], [] => True
  | m :: ms, r :: rs => Memb m r ∧ MembL ms rs
  | _, _ => False
theorem MembL.app : ∀ {a : List (List UInt8)} {a' : List RM} {b : List (List UInt8)} {b' : List RM}, MembL a a' → MembL b b' → MembL (a ++ b) (a' ++ b')
  | [], [], _, _, _, h => h
  | _ :: _, _ :: _, _, _, h1, h2 => ⟨h1.1, MembL.app h1.2 h2⟩
  | [], _ :: _, _, _, h, _ => h.elim
  | _ :: _, [], _, _, h, _ => h.elim
theorem MembL.get : ∀ {a : List (List UInt8)} {a' : List RM}, MembL a a' → a'.length = a.length ∧ ∀ j, j < a.length → Memb (a.getD j []) (a'.getD j zeroRM)
  | [], [], _ => ⟨rfl, fun j h => absurd h (by simp)⟩
  | m :: ms, r :: rs, h => by
    obtain ⟨e, f⟩ := MembL.get h.2
    refine ⟨by simp [e], fun j hj => ?_⟩
    cases j with
    | zero => exact h.1
    | succ j => exact f j (by simpa using hj)
  | [], _ :: _, h => h.elim
  | _ :: _, [], h => h.elim
/-- no end of a line within -/
def nn (l : List UInt8) : Prop := ∀ c ∈ l, c ≠ 10
theorem nn_app {a b : List UInt8} (ha : nn a) (hb : nn b) : nn (a ++ b) := by
  intro c hc
  rcases List.mem_append.1 hc with h | h
  · exact ha c h
  · exact hb c h
theorem nn_word {w : List UInt8} (h : ∀ c ∈ nats w, wordB c = true) : nn w := by
  intro c hc e
  subst e
  have := h 10 (List.mem_map.2 ⟨10, hc, rfl⟩)
  revert this; decide
theorem nn_bl (d : List Int) : nn (blankP d).1 := by
  unfold blankP blS nn
  dsimp only
  split <;> decide
theorem nn_event (ms : List (List UInt8)) (h : ∀ m ∈ ms, nn m) (d : List Int) : nn (eventT ms d).1 ∧ (eventT ms d).1 ≠ [] := by
  have hrun : ∀ (f n i : Nat) (s : List UInt8) (d : List Int), nn s → nn (evRun ms f n i s d).1 := by
    intro f n
    induction n with
    | zero => intro i s d hs; exact hs
    | succ n ih =>
      intro i s d hs
      rw [evRun]
      refine ih _ _ _ (nn_app (nn_app (nn_app ?_ (nn_bl _)) ?_) (nn_bl _))
      · split
        · exact hs
        · exact nn_app hs (by unfold nn; decide)
      · rw [List.getD]
        cases hq : ms[(f + i) % ms.length]? with
        | none => unfold nn; decide
        | some m => exact h m (List.mem_of_getElem? hq)
  unfold eventT
  dsimp only
  refine ⟨nn_app (nn_app (hrun _ _ _ _ _ (nn_app (nn_bl _) (by unfold nn; decide))) (by unfold nn; decide)) (nn_bl _), by simp⟩

def rmsCall (kd : Bool) (id cl : Int) (name key : List UInt8) (arg exp : Int) : List RM :=
  [(sCall, 105, [], id), (sBy, 105, [], cl), (sOp, 115, name, 0)] ++ (if kd then [(sKey, 115, key, 0)] else []) ++ (if name = [99, 97, 115] then [(sExp, 105, [], exp), (sArg, 105, [], arg)] else if name = [119, 114, 105, 116, 101] ∨ name = [112, 117, 116] ∨ name = [101, 110, 113] then [(sArg, 105, [], arg)] else [])
structure CallFacts (model : List UInt8) (ms : List RM) (id cl : Int) (name key : List UInt8) (arg exp : Int) : Prop where
  rep : repR ms ms = false
  c1 : (cR sCall ms).2 = 1
  r0 : (cR sRet ms).2 = 0
  fits : fitsR true 0 ms = ms.length
  b1 : (cR sBy ms).2 = 1
  o1 : (cR sOp ms).2 = 1
  need : needOk model ms = true
  id : (cR sCall ms).1.2.2.2 = id
  by_ : (cR sBy ms).1.2.2.2 = cl
  op : (cR sOp ms).1.2.2.1 = name
  key : (cR sKey ms).1.2.2.1 = key
  arg : (cR sArg ms).1.2.2.2 = arg
  exp : (cR sExp ms).1.2.2.2 = exp
set_option maxHeartbeats 2000000 in
theorem call_facts (i k : Nat) (hi : i < 5) (hk : k < opN i) (id cl : Int) (key : List UInt8) (arg exp : Int) (hkey : keyedN i = false → key = []) (harg : hasArg (opS i k) = false → arg = 0) (hexp : opS i k ≠ [99, 97, 115] → exp = 0) (f : Nat) (hf : f < (rmsCall (keyedN i) id cl (opS i k) key arg exp).length) :
    CallFacts (modS i) ((rmsCall (keyedN i) id cl (opS i k) key arg exp).drop f ++ (rmsCall (keyedN i) id cl (opS i k) key arg exp).take f) id cl (opS i k) key arg exp := by
  match i, k, hi, hk with
  | 0, 0, _, _ =>
    obtain rfl := hkey rfl; obtain rfl := harg rfl; obtain rfl := hexp (by decide)
    obtain rfl | rfl | rfl : f = 0 ∨ f = 1 ∨ f = 2 := by have : f < 3 := hf; omega
    all_goals exact ⟨rfl, rfl, rfl, rfl, rfl, rfl, rfl, rfl, rfl, rfl, rfl, rfl, rfl⟩
  | 0, 1, _, _ =>
    obtain rfl := hkey rfl; obtain rfl := hexp (by decide)
    obtain rfl | rfl | rfl | rfl : f = 0 ∨ f = 1 ∨ f = 2 ∨ f = 3 := by have : f < 4 := hf; omega
    all_goals exact ⟨rfl, rfl, rfl, rfl, rfl, rfl, rfl, rfl, rfl, rfl, rfl, rfl, rfl⟩
  | 0, 2, _, _ =>
    obtain rfl := hkey rfl
    obtain rfl | rfl | rfl | rfl | rfl : f = 0 ∨ f = 1 ∨ f = 2 ∨ f = 3 ∨ f = 4 := by have : f < 5 := hf; omega
    all_goals exact ⟨rfl, rfl, rfl, rfl, rfl, rfl, rfl, rfl, rfl, rfl, rfl, rfl, rfl⟩
  | 1, 0, _, _ =>
    obtain rfl := harg rfl; obtain rfl := hexp (by decide)
    obtain rfl | rfl | rfl | rfl : f = 0 ∨ f = 1 ∨ f = 2 ∨ f = 3 := by have : f < 4 := hf; omega
    all_goals exact ⟨rfl, rfl, rfl, rfl, rfl, rfl, rfl, rfl, rfl, rfl, rfl, rfl, rfl⟩
  | 1, 1, _, _ =>
    obtain rfl := hexp (by decide)
    obtain rfl | rfl | rfl | rfl | rfl : f = 0 ∨ f = 1 ∨ f = 2 ∨ f = 3 ∨ f = 4 := by have : f < 5 := hf; omega
    all_goals exact ⟨rfl, rfl, rfl, rfl, rfl, rfl, rfl, rfl, rfl, rfl, rfl, rfl, rfl⟩
  | 1, 2, _, _ =>
    obtain rfl := harg rfl; obtain rfl := hexp (by decide)
    obtain rfl | rfl | rfl | rfl : f = 0 ∨ f = 1 ∨ f = 2 ∨ f = 3 := by have : f < 4 := hf; omega
    all_goals exact ⟨rfl, rfl, rfl, rfl, rfl, rfl, rfl, rfl, rfl, rfl, rfl, rfl, rfl⟩
  | 2, 0, _, _ =>
    obtain rfl := hkey rfl; obtain rfl := hexp (by decide)
    obtain rfl | rfl | rfl | rfl : f = 0 ∨ f = 1 ∨ f = 2 ∨ f = 3 := by have : f < 4 := hf; omega
    all_goals exact ⟨rfl, rfl, rfl, rfl, rfl, rfl, rfl, rfl, rfl, rfl, rfl, rfl, rfl⟩
  | 2, 1, _, _ =>
    obtain rfl := hkey rfl; obtain rfl := harg rfl; obtain rfl := hexp (by decide)
    obtain rfl | rfl | rfl : f = 0 ∨ f = 1 ∨ f = 2 := by have : f < 3 := hf; omega
    all_goals exact ⟨rfl, rfl, rfl, rfl, rfl, rfl, rfl, rfl, rfl, rfl, rfl, rfl, rfl⟩
  | 3, 0, _, _ =>
    obtain rfl := harg rfl; obtain rfl := hexp (by decide)
    obtain rfl | rfl | rfl | rfl : f = 0 ∨ f = 1 ∨ f = 2 ∨ f = 3 := by have : f < 4 := hf; omega
    all_goals exact ⟨rfl, rfl, rfl, rfl, rfl, rfl, rfl, rfl, rfl, rfl, rfl, rfl, rfl⟩
  | 3, 1, _, _ =>
    obtain rfl := harg rfl; obtain rfl := hexp (by decide)
    obtain rfl | rfl | rfl | rfl : f = 0 ∨ f = 1 ∨ f = 2 ∨ f = 3 := by have : f < 4 := hf; omega
    all_goals exact ⟨rfl, rfl, rfl, rfl, rfl, rfl, rfl, rfl, rfl, rfl, rfl, rfl, rfl⟩
  | 3, 2, _, _ =>
    obtain rfl := harg rfl; obtain rfl := hexp (by decide)
    obtain rfl | rfl | rfl | rfl : f = 0 ∨ f = 1 ∨ f = 2 ∨ f = 3 := by have : f < 4 := hf; omega
    all_goals exact ⟨rfl, rfl, rfl, rfl, rfl, rfl, rfl, rfl, rfl, rfl, rfl, rfl, rfl⟩
  | 4, 0, _, _ =>
    obtain rfl := hkey rfl; obtain rfl := harg rfl; obtain rfl := hexp (by decide)
    obtain rfl | rfl | rfl : f = 0 ∨ f = 1 ∨ f = 2 := by have : f < 3 := hf; omega
    all_goals exact ⟨rfl, rfl, rfl, rfl, rfl, rfl, rfl, rfl, rfl, rfl, rfl, rfl, rfl⟩
  | 4, 1, _, _ =>
    obtain rfl := hkey rfl; obtain rfl := harg rfl; obtain rfl := hexp (by decide)
    obtain rfl | rfl | rfl : f = 0 ∨ f = 1 ∨ f = 2 := by have : f < 3 := hf; omega
    all_goals exact ⟨rfl, rfl, rfl, rfl, rfl, rfl, rfl, rfl, rfl, rfl, rfl, rfl, rfl⟩
theorem opS_plain (i k : Nat) : ∀ c ∈ nats (opS i k), 32 ≤ c ∧ c < 128 ∧ c ≠ 34 ∧ c ≠ 92 := by
  unfold opS; split <;> decide
theorem opS_nn (i k : Nat) : nn (opS i k) := by
  unfold opS nn; split <;> decide
theorem spS_nn (k p : Nat) : nn (spS k p) := by
  unfold spS nn; split <;> decide
/-- A CALL'S LINE, read: its operation is one more. -/
theorem event_call (i k : Nat) (hi : i < 5) (hk : k < opN i) (id cl : Int) (kk : Nat) (hkk : kk < 3) (key : List UInt8) (arg exp : Int) (d : List Int) (h0 : -1000000 < id) (h1 : id < 1000000) (hc : small cl) (ha : small arg) (he : small exp)
    (hkey : key = if keyedN i = true then keyS kk else []) (harg : hasArg (opS i k) = false → arg = 0) (hexp : opS i k ≠ [99, 97, 115] → exp = 0) (ops : List OpV) (hid : ∀ o ∈ ops, o.id ≠ id) (hfr : ∀ o ∈ ops, o.cl = cl → o.ret ≠ 0) (line : Int) :
    eventR (modS i) ops ⟨(calledP (keyedN i) id cl (opS i k) arg exp kk d).1.toArray⟩ line = (0, some (ops ++ [⟨id, cl, opS i k, key, arg, exp, line, 0, 0, 0⟩])) ∧ nn (calledP (keyedN i) id cl (opS i k) arg exp kk d).1 ∧ (calledP (keyedN i) id cl (opS i k) arg exp kk d).1 ≠ [] := by
  obtain ⟨c1, c2⟩ := hc
  obtain ⟨a1, a2⟩ := ha
  obtain ⟨x1, x2⟩ := he
  have hsg : ∀ n : Int, -1000000 < n → n < 1000000 → nn (sgnP n) := fun n u v => nn_word (sgn_val n u v).1
  have hML : MembL ([mCall (blankP d).1 id, mBy cl, mOp (opS i k)] ++ (if keyedN i = true then [mKey (spelledP kk (blankP d).2).1] else []) ++ (if opS i k = [99, 97, 115] then [mExp exp, mArg arg] else if opS i k = [119, 114, 105, 116, 101] ∨ opS i k = [112, 117, 116] ∨ opS i k = [101, 110, 113] then [mArg arg] else [])) (rmsCall (keyedN i) id cl (opS i k) key arg exp) := by
    refine MembL.app (MembL.app ⟨memb_call h0 h1 (Lx.bk d), memb_by (by omega) (by omega), memb_op (opS_plain i k), trivial⟩ ?_) ?_
    · by_cases hq : keyedN i = true
      · rw [if_pos hq, if_pos hq]
        rw [if_pos hq] at hkey
        subst hkey
        exact ⟨memb_key (quot_sp kk _ hkk), trivial⟩
      · rw [if_neg hq, if_neg hq]; trivial
    · split
      · exact ⟨memb_exp (by omega) (by omega), memb_arg (by omega) (by omega), trivial⟩
      · split
        · exact ⟨memb_arg (by omega) (by omega), trivial⟩
        · trivial
  have hnn : ∀ m ∈ [mCall (blankP d).1 id, mBy cl, mOp (opS i k)] ++ (if keyedN i = true then [mKey (spelledP kk (blankP d).2).1] else []) ++ (if opS i k = [99, 97, 115] then [mExp exp, mArg arg] else if opS i k = [119, 114, 105, 116, 101] ∨ opS i k = [112, 117, 116] ∨ opS i k = [101, 110, 113] then [mArg arg] else []), nn m := by
    have k1 : nn (mCall (blankP d).1 id) := nn_app (nn_app (nn_app (nn_app (by unfold nn; decide) (nn_bl _)) (by unfold nn; decide)) (nn_bl _)) (hsg _ h0 h1)
    have k2 : nn (mBy cl) := nn_app (by unfold nn; decide) (hsg _ (by omega) (by omega))
    have k3 : nn (mOp (opS i k)) := nn_app (nn_app (by unfold nn; decide) (opS_nn i k)) (by unfold nn; decide)
    have k4 : nn (mKey (spelledP kk (blankP d).2).1) := nn_app (nn_app (by unfold nn; decide) (spS_nn _ _)) (by unfold nn; decide)
    have k5 : nn (mExp exp) := nn_app (by unfold nn; decide) (hsg _ (by omega) (by omega))
    have k6 : nn (mArg arg) := nn_app (by unfold nn; decide) (hsg _ (by omega) (by omega))
    intro m hm
    rcases List.mem_append.1 hm with hm | hm
    · rcases List.mem_append.1 hm with hm | hm
      · simp only [List.mem_cons, List.not_mem_nil, or_false] at hm
        rcases hm with rfl | rfl | rfl <;> assumption
      · split at hm
        · simp only [List.mem_cons, List.not_mem_nil, or_false] at hm; subst hm; exact k4
        · cases hm
    · split at hm
      · simp only [List.mem_cons, List.not_mem_nil, or_false] at hm
        rcases hm with rfl | rfl <;> assumption
      · split at hm
        · simp only [List.mem_cons, List.not_mem_nil, or_false] at hm; subst hm; exact k6
        · cases hm
  unfold calledP
  dsimp only
  generalize ([mCall (blankP d).1 id, mBy cl, mOp (opS i k)] ++ (if keyedN i = true then [mKey (spelledP kk (blankP d).2).1] else []) ++ (if opS i k = [99, 97, 115] then [mExp exp, mArg arg] else if opS i k = [119, 114, 105, 116, 101] ∨ opS i k = [112, 117, 116] ∨ opS i k = [101, 110, 113] then [mArg arg] else [])) = ms at *
  generalize (if keyedN i = true then (spelledP kk (blankP d).2).2 else (blankP d).2) = d1
  refine ⟨?_, nn_event ms hnn d1⟩
  obtain ⟨hlen, hget⟩ := hML.get
  have hpos : 0 < ms.length := by rw [← hlen]; unfold rmsCall; simp
  unfold eventR
  rw [event_rm ms _ d1 hlen hpos hget]
  have hf := nextP_lt hpos d1
  have hF := call_facts i k hi hk id cl key arg exp (fun h => by rw [hkey, if_neg (by rw [h]; simp)]) harg hexp (nextP ms.length d1).1 (by rw [hlen]; exact hf)
  rw [← rotL_eq _ _ (by rw [hlen]; exact hf), hlen] at hF
  generalize rotL (rmsCall (keyedN i) id cl (opS i k) key arg exp) (nextP ms.length d1).1 ms.length 0 = R at *
  dsimp only
  rw [if_neg (by rw [hF.rep, hF.c1, hF.r0]; simp), if_pos hF.c1]
  have hcall : callR (modS i) R ops = (0, some ⟨id, cl, opS i k, key, arg, exp, 0, 0, 0, 0⟩) := by
    unfold callR
    rw [if_neg (by rw [hF.fits, hF.b1, hF.o1]; simp), if_neg (by rw [hF.need]; simp), hF.id, hF.by_, hF.op, hF.key, hF.arg, hF.exp]
    rw [if_neg (by rw [List.any_eq_true]; rintro ⟨o, ho, e⟩; exact hid o ho (by simpa using e)), if_neg (by rw [List.any_eq_true]; rintro ⟨o, ho, e⟩; simp at e; exact hfr o ho e.1 e.2)]
  rw [hcall]
  rfl
structure RetFacts (ms : List RM) (id : Int) (v : RM) : Prop where
  rep : repR ms ms = false
  c0 : (cR sCall ms).2 = 0
  r1 : (cR sRet ms).2 = 1
  fits : fitsR false 0 ms = ms.length
  v1 : (cR sVal ms).2 = 1
  id : (cR sRet ms).1.2.2.2 = id
  val : (cR sVal ms).1 = v
theorem ret_facts (id vk vn : Int) (h : valOk vk vn) (f : Nat) (hf : f < 2) : RetFacts (rotL [(sRet, 105, [], id), vRM vk vn] f 2 0) id (vRM vk vn) := by
  have e : rotL [(sRet, 105, [], id), vRM vk vn] f 2 0 = _ := rotL_eq [(sRet, 105, [], id), vRM vk vn] f hf
  rw [e]
  clear e
  rcases h with ⟨rfl, rfl⟩ | ⟨rfl, _, _⟩ | ⟨rfl, rfl | rfl⟩ <;> (obtain rfl | rfl : f = 0 ∨ f = 1 := by omega) <;> exact ⟨rfl, rfl, rfl, rfl, rfl, rfl, rfl⟩
theorem give_facts (i k : Nat) (hi : i < 5) (hk : k < opN i) (vk vn : Int) (h : giveOk i k vk vn) : valOk vk vn ∧ valR (vRM vk vn) = (vk, vn) ∧ hasP (kindR (vRM vk vn).2.1) (nats (needsP (modS i ++ [32] ++ opS i k)).2.1) = true := by
  have hI : intOk vk vn → valOk vk vn ∧ valR (vRM vk vn) = (vk, vn) ∧ (vRM vk vn).2.1 = 105 := by
    rintro ⟨rfl, s1, s2⟩
    exact ⟨Or.inr (Or.inl ⟨rfl, by omega, by omega⟩), rfl, rfl⟩
  have hN : nullOk vk vn → valOk vk vn ∧ valR (vRM vk vn) = (vk, vn) ∧ (vRM vk vn).2.1 = 110 := by
    rintro ⟨rfl, rfl⟩
    exact ⟨Or.inl ⟨rfl, rfl⟩, rfl, rfl⟩
  have hB : boolOk vk vn → valOk vk vn ∧ valR (vRM vk vn) = (vk, vn) ∧ kindR (vRM vk vn).2.1 = 98 := by
    rintro ⟨rfl, rfl | rfl⟩
    · exact ⟨Or.inr (Or.inr ⟨rfl, Or.inl rfl⟩), rfl, rfl⟩
    · exact ⟨Or.inr (Or.inr ⟨rfl, Or.inr rfl⟩), rfl, rfl⟩
  match i, k, hi, hk, h with
  | 0, 0, _, _, h => obtain ⟨a, b, c⟩ := hI h; exact ⟨a, b, by rw [c]; decide⟩
  | 0, 1, _, _, h => obtain ⟨a, b, c⟩ := hN h; exact ⟨a, b, by rw [c]; decide⟩
  | 0, 2, _, _, h => obtain ⟨a, b, c⟩ := hB h; exact ⟨a, b, by rw [c]; decide⟩
  | 1, 0, _, _, Or.inl h => obtain ⟨a, b, c⟩ := hI h; exact ⟨a, b, by rw [c]; decide⟩
  | 1, 0, _, _, Or.inr h => obtain ⟨a, b, c⟩ := hN h; exact ⟨a, b, by rw [c]; decide⟩
  | 1, 1, _, _, h => obtain ⟨a, b, c⟩ := hN h; exact ⟨a, b, by rw [c]; decide⟩
  | 1, 2, _, _, h => obtain ⟨a, b, c⟩ := hB h; exact ⟨a, b, by rw [c]; decide⟩
  | 2, 0, _, _, h => obtain ⟨a, b, c⟩ := hN h; exact ⟨a, b, by rw [c]; decide⟩
  | 2, 1, _, _, Or.inl h => obtain ⟨a, b, c⟩ := hI h; exact ⟨a, b, by rw [c]; decide⟩
  | 2, 1, _, _, Or.inr h => obtain ⟨a, b, c⟩ := hN h; exact ⟨a, b, by rw [c]; decide⟩
  | 3, 0, _, _, h => obtain ⟨a, b, c⟩ := hB h; exact ⟨a, b, by rw [c]; decide⟩
  | 3, 1, _, _, h => obtain ⟨a, b, c⟩ := hB h; exact ⟨a, b, by rw [c]; decide⟩
  | 3, 2, _, _, h => obtain ⟨a, b, c⟩ := hB h; exact ⟨a, b, by rw [c]; decide⟩
  | 4, 0, _, _, h => obtain ⟨a, b, c⟩ := hB h; exact ⟨a, b, by rw [c]; decide⟩
  | 4, 1, _, _, h => obtain ⟨a, b, c⟩ := hB h; exact ⟨a, b, by rw [c]; decide⟩
theorem toldP_nn (vk vn : Int) (h : valOk vk vn) : nn (toldP vk vn) := by
  unfold toldP
  rcases h with ⟨rfl, rfl⟩ | ⟨rfl, h0, h1⟩ | ⟨rfl, rfl | rfl⟩
  · unfold nn; decide
  · rw [if_pos rfl]; exact nn_word (sgn_val vn h0 h1).1
  · unfold nn; decide
  · unfold nn; decide
/-- A RETURN'S LINE, read: its operation has its value. -/
theorem event_ret (i k : Nat) (hi : i < 5) (hk : k < opN i) (vk vn : Int) (hv : giveOk i k vk vn) (d : List Int) (ops : List OpV) (hu : uniq ops) (j : Nat) (o : OpV) (hj : ops[j]? = some o) (hr : o.ret = 0) (hn : o.name = opS i k) (h0 : -1000000 < o.id) (h1 : o.id < 1000000) (line : Int) :
    eventR (modS i) ops ⟨(answeredP o.id vk vn d).1.toArray⟩ line = (0, some (ops.set j { o with vk := vk, vn := vn, ret := line })) ∧ nn (answeredP o.id vk vn d).1 ∧ (answeredP o.id vk vn d).1 ≠ [] := by
  obtain ⟨hok, hvr, hhas⟩ := give_facts i k hi hk vk vn hv
  unfold answeredP
  refine ⟨?_, nn_event _ (fun m hm => ?_) d⟩
  · unfold eventR
    have hML : MembL [mRet o.id, mVal vk vn] [(sRet, 105, [], o.id), vRM vk vn] := ⟨memb_ret h0 h1, memb_val hok, trivial⟩
    rw [event_rm _ _ d rfl (by simp) hML.get.2]
    have hF := ret_facts o.id vk vn hok (nextP 2 d).1 (nextP_lt (by omega) d)
    have e2 : [mRet o.id, mVal vk vn].length = 2 := rfl
    rw [e2]
    generalize rotL [(sRet, 105, [], o.id), vRM vk vn] (nextP 2 d).1 2 0 = R at *
    dsimp only
    rw [if_neg (by rw [hF.rep, hF.c0, hF.r1]; simp), if_neg (by rw [hF.c0]; simp)]
    have hlo : lastOpen o.id ops 0 none = some j := by
      rw [lastOpen_eq hu]
      have hfi : idFind ops o.id = some j := by
        unfold idFind
        rw [List.findIdx?_eq_some_iff_getElem]
        obtain ⟨hjl, hje⟩ := List.getElem?_eq_some_iff.1 hj
        refine ⟨hjl, by rw [hje]; simp, fun j' hj' => ?_⟩
        have hne : (ops[j']'(by omega)).id ≠ o.id := by
          intro e
          have hp := List.pairwise_iff_getElem.1 hu j' j (by simp; omega) (by simpa using hjl) hj'
          apply hp
          rw [List.getElem_map, List.getElem_map, hje]; exact e
        simpa using hne
      rw [hfi]
      dsimp only
      rw [hj]
      dsimp only
      rw [if_pos hr, Nat.zero_add]
    have hans : answerR (modS i) R ops = (0, some (j, vk, vn)) := by
      unfold answerR
      rw [if_neg (by rw [hF.fits, hF.r1, hF.v1]; simp), hF.id, hlo]
      dsimp only
      rw [hj]
      dsimp only
      rw [hF.val, hn, if_neg (by rw [hhas]; simp), hvr]
    rw [hans]
    show ((0 : Int), some (answered ops line (j, vk, vn))) = _
    unfold answered
    dsimp only
    rw [hj]
    rfl
  · simp only [List.mem_cons, List.not_mem_nil, or_false] at hm
    rcases hm with rfl | rfl
    · exact nn_app (by unfold nn; decide) (nn_word (sgn_val _ h0 h1).1)
    · exact nn_app (by unfold nn; decide) (toldP_nn vk vn hok)

theorem readRunR_app (model : List UInt8) (a b : List (List UInt8)) : ∀ (k : Nat) (ops : List OpV), readRunR model (a ++ b) k ops = match readRunR model a k ops with | .inl ops' => readRunR model b (k + a.length) ops' | .inr e => .inr e := by
  induction a with
  | nil => intro k ops; rfl
  | cons l r ih =>
    intro k ops
    show readRunR model (l :: (r ++ b)) k ops = _
    rw [readRunR, readRunR]
    by_cases h : 128 < k + 1
    · rw [if_pos h, if_pos h]
    · rw [if_neg h, if_neg h]
      cases eventR model ops ⟨l.toArray⟩ ((k : Int) + 1) with
      | mk e o =>
        cases o with
        | none => rfl
        | some ops' =>
          dsimp only
          rw [ih, List.length_cons, show k + 1 + r.length = k + (r.length + 1) by omega]
theorem lines_text (ls : List (List UInt8)) (h : ∀ l ∈ ls, nn l) (t : List UInt8) : linesP (nats (textL ls ++ t)) = ls ++ linesP (nats t) := by
  induction ls with
  | nil => rfl
  | cons l r ih =>
    have e : textL (l :: r) ++ t = l ++ 10 :: (textL r ++ t) := by simp [textL]
    have hc : ∀ (l : List UInt8) (u : List UInt8), nn l → Lib.cut (l ++ 10 :: u) [10] = (l, u, true) := by
      intro l u hl
      induction l with
      | nil => show Lib.cut (10 :: u) [10] = _; rw [cut_cons, if_pos rfl]
      | cons c m ih2 =>
        show Lib.cut (c :: (m ++ 10 :: u)) [10] = _
        rw [cut_cons, if_neg (hl c (by simp)), ih2 (fun c hc => hl c (by simp [hc]))]
    rw [e, lines_cut (by simp), hc l _ (h l (by simp)), ih (fun l hl => h l (by simp [hl]))]
    rfl
/-- the last byte 10 away: the same lines -/
theorem lines_short (ls : List (List UInt8)) (h : ∀ l ∈ ls, nn l ∧ l ≠ []) : linesP (nats (textL ls).dropLast) = ls := by
  by_cases hn : ls = []
  · subst hn; rfl
  · obtain ⟨a, l, rfl⟩ : ∃ a l, ls = a ++ [l] := ⟨ls.dropLast, ls.getLast hn, (List.dropLast_concat_getLast hn).symm⟩
    have e : (textL (a ++ [l])).dropLast = textL a ++ l := by
      have : textL (a ++ [l]) = (textL a ++ l) ++ [10] := by simp [textL]
      rw [this, List.dropLast_concat]
    have hl := h l (by simp)
    have hc : ∀ (l : List UInt8), nn l → Lib.cut l [10] = (l, [], false) := by
      intro l hl
      induction l with
      | nil => exact cut_nil
      | cons c m ih2 => rw [cut_cons, if_neg (hl c (by simp)), ih2 (fun c hc => hl c (by simp [hc]))]
    rw [e, lines_text a (fun l hl => (h l (by simp [hl])).1), lines_cut hl.2, hc l hl.1]
    rfl
/-- A MADE HISTORY IS READ AS IT WAS MEANT. -/
theorem tells_read (i : Nat) (hi : i < 5) {ops : List OpV} {lines : List (List UInt8)} (h : Tells i ops lines) (hl : lines.length ≤ 128) :
    (∀ l ∈ lines, nn l ∧ l ≠ []) ∧ (∀ (j : Nat) o, ops[j]? = some o → o.id = 7 * (j : Int) - 20) ∧ ops.length ≤ lines.length ∧ readRunR (modS i) lines 0 [] = .inl ops := by
  induction h with
  | nil => exact ⟨by simp, by simp, Nat.le_refl _, rfl⟩
  | @call ops lines h cl d hc hf ih =>
    have hl' : lines.length + 1 ≤ 128 := by simpa using hl
    obtain ⟨h1, h2, h3, h4⟩ := ih (by omega)
    obtain ⟨k, kk, arg, exp, d', q1, q2, q3, q4, q5, q6, q7, q8, q9, _⟩ := startP_form i cl ops.length lines.length d
    rw [q7, q8]
    obtain ⟨e1, e2, e3⟩ := event_call i k hi q1 (7 * (ops.length : Int) - 20) cl kk q2 _ arg exp d' (by omega) (by omega) ⟨by omega, by omega⟩ q3 q4 rfl q5 q6 ops (fun o ho e => by
      obtain ⟨j, hj⟩ := List.mem_iff_getElem?.1 ho
      have := h2 j o hj
      have hjl := (List.getElem?_eq_some_iff.1 hj).1
      omega) hf ((lines.length : Int) + 1)
    refine ⟨?_, ?_, ?_, ?_⟩
    · intro l hl
      rcases List.mem_append.1 hl with hl | hl
      · exact h1 l hl
      · simp at hl; subst hl; exact ⟨e2, e3⟩
    · intro j o hj
      by_cases hjl : j < ops.length
      · rw [List.getElem?_append_left hjl] at hj; exact h2 j o hj
      · rw [List.getElem?_append_right (by omega)] at hj
        have h0 : j - ops.length = 0 := by
          have := (List.getElem?_eq_some_iff.1 hj).1
          simp at this; omega
        rw [h0] at hj
        simp at hj
        rw [← hj]
        show 7 * (ops.length : Int) - 20 = _
        omega
    · simp; omega
    · rw [readRunR_app, h4]
      dsimp only
      rw [readRunR, if_neg (by omega), Nat.zero_add, e1]
      rfl
  | @ret ops lines h j k o vk vn d hj hr hk hn hv ih =>
    have hl' : lines.length + 1 ≤ 128 := by simpa using hl
    obtain ⟨h1, h2, h3, h4⟩ := ih (by omega)
    have hjl := (List.getElem?_eq_some_iff.1 hj).1
    have hoid := h2 j o hj
    have hu : uniq ops := by
      unfold uniq
      rw [List.nodup_iff_pairwise_ne, List.pairwise_iff_getElem]
      intro a b ha hb hab e
      rw [List.getElem_map, List.getElem_map] at e
      have ea := h2 a _ (List.getElem?_eq_getElem (by simpa using ha))
      have eb := h2 b _ (List.getElem?_eq_getElem (by simpa using hb))
      omega
    obtain ⟨e1, e2, e3⟩ := event_ret i k hi hk vk vn hv d ops hu j o hj hr hn (by omega) (by omega) ((lines.length : Int) + 1)
    refine ⟨?_, ?_, ?_, ?_⟩
    · intro l hl
      rcases List.mem_append.1 hl with hl | hl
      · exact h1 l hl
      · simp at hl; subst hl; exact ⟨e2, e3⟩
    · intro a b hab
      rw [List.getElem?_set] at hab
      split at hab
      · rename_i e
        subst e
        simp at hab; rw [← hab]; exact hoid
      · exact h2 a b hab
    · simp; omega
    · rw [readRunR_app, h4]
      dsimp only
      rw [readRunR, if_neg (by omega), Nat.zero_add, e1]
      rfl
end Go.Proofs.YtdfbhjgpkokebaaGreatDoor.keep
