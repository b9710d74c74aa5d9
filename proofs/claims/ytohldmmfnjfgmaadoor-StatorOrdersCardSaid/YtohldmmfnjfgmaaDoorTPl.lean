
/-
  Plain words for whole numbers of the cube roots of unity (chapter 3), and what they come to. Nothing of the program is imported here.
-/
import Derived.Test.YtohldmmfnjfgmaaDoorPlain
namespace Go.Proofs.YtohldmmfnjfgmaaDoor

/-- A + B w. -/
structure T3 where
  a : Int
  b : Int
theorem T3.eq {v u : T3} (h : v.a = u.a) (h' : v.b = u.b) : v = u := by cases v; cases u; simp at h h'; rw [h, h']
def T3.zero : T3 := ⟨0, 0⟩
def T3.nrm (v : T3) : Int := v.a * v.a - v.a * v.b + v.b * v.b
def T3.mul (v u : T3) : T3 := ⟨v.a * u.a - v.b * u.b, v.a * u.b + v.b * u.a - v.b * u.b⟩
def T3.conj (v : T3) : T3 := ⟨v.a - v.b, -v.b⟩
def T3.add (v u : T3) : T3 := ⟨v.a + u.a, v.b + u.b⟩
def T3.sub (v u : T3) : T3 := ⟨v.a - u.a, v.b - u.b⟩
def T3.scl (n : Int) (v : T3) : T3 := ⟨n * v.a, n * v.b⟩
def T3.turn (v : T3) : T3 := ⟨v.a - v.b, v.a⟩
def turnN : Nat → T3 → T3
  | 0, v => v
  | n + 1, v => (turnN n v).turn
/-- Turned by so many sixths. -/
def turned (v : T3) (s : Int) : T3 := turnN (s % 6).toNat v
/-- How far it is to size: a bound on both parts and their difference. -/
structure T3.In (v : T3) (M : Int) : Prop where
  a0 : -M ≤ v.a
  a1 : v.a ≤ M
  b0 : -M ≤ v.b
  b1 : v.b ≤ M
  d0 : -M ≤ v.a - v.b
  d1 : v.a - v.b ≤ M
theorem T3.In.turn {v : T3} {M : Int} (h : v.In M) : v.turn.In M := by
  obtain ⟨h1, h2, h3, h4, h5, h6⟩ := h
  exact ⟨h5, h6, h1, h2, by simp [T3.turn]; omega, by simp [T3.turn]; omega⟩
theorem T3.In.turnN {v : T3} {M : Int} (h : v.In M) : ∀ n, (turnN n v).In M
  | 0 => h
  | n + 1 => (T3.In.turnN h n).turn
theorem T3.In.more {v : T3} {M K : Int} (h : v.In M) (hk : M ≤ K) : v.In K := by
  obtain ⟨h1, h2, h3, h4, h5, h6⟩ := h
  exact ⟨by omega, by omega, by omega, by omega, by omega, by omega⟩
theorem turnN_add (v : T3) (n : Nat) : ∀ m, turnN (n + m) v = turnN m (turnN n v)
  | 0 => rfl
  | m + 1 => by show (turnN (n + m) v).turn = _; rw [turnN_add v n m]; rfl
theorem turnN_six (v : T3) : turnN 6 v = v := by
  apply T3.eq <;> simp [turnN, T3.turn] <;> omega
theorem turnN_mod (v : T3) : ∀ n, turnN n v = turnN (n % 6) v := by
  intro n
  induction n using Nat.strongRecOn with
  | ind n ih =>
    by_cases h : n < 6
    · rw [Nat.mod_eq_of_lt h]
    · have e : n = 6 + (n - 6) := by omega
      rw [e, turnN_add, turnN_six, ih (n - 6) (by omega)]
      congr 1; omega
theorem turnN_0 (v : T3) : turnN 0 v = v := rfl
theorem turnN_1 (v : T3) : turnN 1 v = ⟨v.a - v.b, v.a⟩ := rfl
theorem turnN_2 (v : T3) : turnN 2 v = ⟨-v.b, v.a - v.b⟩ := by apply T3.eq <;> simp [turnN, T3.turn] <;> omega
theorem turnN_3 (v : T3) : turnN 3 v = ⟨-v.a, -v.b⟩ := by apply T3.eq <;> simp [turnN, T3.turn] <;> omega
theorem turnN_4 (v : T3) : turnN 4 v = ⟨v.b - v.a, -v.a⟩ := by apply T3.eq <;> simp [turnN, T3.turn] <;> omega
theorem turnN_5 (v : T3) : turnN 5 v = ⟨v.b, v.b - v.a⟩ := by apply T3.eq <;> simp [turnN, T3.turn] <;> omega
theorem nrm_turn (v : T3) : v.turn.nrm = v.nrm := by unfold T3.nrm T3.turn; grind
theorem nrm_turnN (v : T3) : ∀ n, (turnN n v).nrm = v.nrm
  | 0 => rfl
  | n + 1 => by show (turnN n v).turn.nrm = _; rw [nrm_turn, nrm_turnN v n]
theorem nrm_turned (v : T3) (s : Int) : (turned v s).nrm = v.nrm := nrm_turnN _ _
theorem turned_six (v : T3) : turned v 6 = v := rfl
theorem turned_back (v : T3) : turned v (-3) = ⟨-v.a, -v.b⟩ := turnN_3 v
theorem turned_one (v : T3) : turned v 1 = ⟨v.a - v.b, v.a⟩ := rfl

/-- Both parts are at most so great in size. -/
structure T3.Bd (v : T3) (M : Int) : Prop where
  a0 : -M ≤ v.a
  a1 : v.a ≤ M
  b0 : -M ≤ v.b
  b1 : v.b ≤ M
theorem T3.In.bd {v : T3} {M : Int} (h : v.In M) : v.Bd M := ⟨h.a0, h.a1, h.b0, h.b1⟩
theorem T3.Bd.more {v : T3} {M K : Int} (h : v.Bd M) (hk : M ≤ K) : v.Bd K := by
  obtain ⟨h1, h2, h3, h4⟩ := h
  exact ⟨by omega, by omega, by omega, by omega⟩
theorem T3.Bd.to_in {v : T3} {M : Int} (h : v.Bd M) : v.In (2 * M) := by
  obtain ⟨h1, h2, h3, h4⟩ := h
  exact ⟨by omega, by omega, by omega, by omega, by omega, by omega⟩
theorem mulB {x y A B : Int} (hx : -A ≤ x ∧ x ≤ A) (hy : -B ≤ y ∧ y ≤ B) : -(A * B) ≤ x * y ∧ x * y ≤ A * B := by
  have hA : 0 ≤ A := by omega
  have h1 : x * y ≤ A * B ∧ -(A * B) ≤ x * y := by
    rcases Int.le_total 0 x with g | g <;> rcases Int.le_total 0 y with k | k
    · have a := Int.mul_le_mul hx.2 hy.2 k hA
      have b := Int.mul_nonneg g k
      omega
    · have a := Int.mul_le_mul hx.2 (show -y ≤ B by omega) (by omega) hA
      have b := Int.mul_nonneg g (show 0 ≤ -y by omega)
      rw [Int.mul_neg] at a b
      omega
    · have a := Int.mul_le_mul (show -x ≤ A by omega) hy.2 k hA
      have b := Int.mul_nonneg (show 0 ≤ -x by omega) k
      rw [Int.neg_mul] at a b
      omega
    · have a := Int.mul_le_mul (show -x ≤ A by omega) (show -y ≤ B by omega) (by omega) hA
      have b := Int.mul_nonneg (show 0 ≤ -x by omega) (show 0 ≤ -y by omega)
      rw [Int.neg_mul_neg] at a b
      omega
  exact ⟨h1.2, h1.1⟩

/-- Is it right? -/
def okT (v : T3) : Bool := inB v.a (-100000) 100000 && inB v.b (-100000) 100000
theorem okT_iff {v : T3} : okT v = true ↔ (-100000 ≤ v.a ∧ v.a ≤ 100000) ∧ -100000 ≤ v.b ∧ v.b ≤ 100000 := by simp [okT, inB_iff]
theorem okT_in {v : T3} (h : okT v = true) : v.In 200000 := by
  have := okT_iff.1 h
  exact ⟨by omega, by omega, by omega, by omega, by omega, by omega⟩
theorem okT_bd {v : T3} (h : okT v = true) : v.Bd 100000 := by
  have := okT_iff.1 h
  exact ⟨by omega, by omega, by omega, by omega⟩
/-- The error of a vector. -/
def vE (v : T3) : Int := if okT v = true then 0 else 2

/-- Is it in the first sector? -/
def fstB (v : T3) : Bool := decide (0 ≤ v.b) && decide (v.b < v.a)
/-- The sector, looked for from k on. -/
def secFrom (v : T3) : Nat → Nat → Nat
  | 0, k => k
  | n + 1, k => if fstB (turned v (-(k : Int))) = true then k else secFrom v n (k + 1)
def secV (v : T3) : Nat := secFrom v 5 0
theorem turned_m (v : T3) : turned v 0 = v ∧ turned v (-1) = ⟨v.b, v.b - v.a⟩ ∧ turned v (-2) = ⟨v.b - v.a, -v.a⟩ ∧ turned v (-3) = ⟨-v.a, -v.b⟩ ∧ turned v (-4) = ⟨-v.b, v.a - v.b⟩ ∧ turned v (-5) = ⟨v.a - v.b, v.a⟩ :=
  ⟨rfl, turnN_5 v, turnN_4 v, turnN_3 v, turnN_2 v, turnN_1 v⟩
/-- Which sector it is, in plain inequalities. -/
theorem sec_cases (v : T3) (h : ¬ (v.a = 0 ∧ v.b = 0)) :
    (secV v = 0 ∧ 0 ≤ v.b ∧ v.b < v.a) ∨ (secV v = 1 ∧ 0 < v.a ∧ v.a ≤ v.b) ∨ (secV v = 2 ∧ v.a ≤ 0 ∧ 0 < v.b) ∨ (secV v = 3 ∧ v.b ≤ 0 ∧ v.a < v.b) ∨ (secV v = 4 ∧ v.a < 0 ∧ v.b ≤ v.a) ∨ (secV v = 5 ∧ 0 ≤ v.a ∧ v.b < 0) := by
  obtain ⟨t0, t1, t2, t3, t4, t5⟩ := turned_m v
  have e0 : fstB (turned v (-((0 : Nat) : Int))) = (decide (0 ≤ v.b) && decide (v.b < v.a)) := by rw [show (-((0 : Nat) : Int)) = 0 from rfl, t0]; rfl
  have e1 : fstB (turned v (-((1 : Nat) : Int))) = (decide (0 ≤ v.b - v.a) && decide (v.b - v.a < v.b)) := by rw [show (-((1 : Nat) : Int)) = -1 from rfl, t1]; rfl
  have e2 : fstB (turned v (-((2 : Nat) : Int))) = (decide (0 ≤ -v.a) && decide (-v.a < v.b - v.a)) := by rw [show (-((2 : Nat) : Int)) = -2 from rfl, t2]; rfl
  have e3 : fstB (turned v (-((3 : Nat) : Int))) = (decide (0 ≤ -v.b) && decide (-v.b < -v.a)) := by rw [show (-((3 : Nat) : Int)) = -3 from rfl, t3]; rfl
  have e4 : fstB (turned v (-((4 : Nat) : Int))) = (decide (0 ≤ v.a - v.b) && decide (v.a - v.b < -v.b)) := by rw [show (-((4 : Nat) : Int)) = -4 from rfl, t4]; rfl
  simp only [secV, secFrom, Nat.reduceAdd, e0, e1, e2, e3, e4, Bool.and_eq_true, decide_eq_true_eq]
  split
  · left; omega
  split
  · right; left; omega
  split
  · right; right; left; omega
  split
  · right; right; right; left; omega
  split
  · right; right; right; right; left; omega
  · right; right; right; right; right; omega
theorem sec_hit (v : T3) (h : ¬ (v.a = 0 ∧ v.b = 0)) : fstB (turned v (-(secV v : Int))) = true ∧ secV v < 6 := by
  obtain ⟨t0, t1, t2, t3, t4, t5⟩ := turned_m v
  rcases sec_cases v h with ⟨e, g1, g2⟩ | ⟨e, g1, g2⟩ | ⟨e, g1, g2⟩ | ⟨e, g1, g2⟩ | ⟨e, g1, g2⟩ | ⟨e, g1, g2⟩
  · rw [e, show (-((0 : Nat) : Int)) = 0 from rfl, t0]; simp [fstB]; omega
  · rw [e, show (-((1 : Nat) : Int)) = -1 from rfl, t1]; simp [fstB]; omega
  · rw [e, show (-((2 : Nat) : Int)) = -2 from rfl, t2]; simp [fstB]; omega
  · rw [e, show (-((3 : Nat) : Int)) = -3 from rfl, t3]; simp [fstB]; omega
  · rw [e, show (-((4 : Nat) : Int)) = -4 from rfl, t4]; simp [fstB]; omega
  · rw [e, show (-((5 : Nat) : Int)) = -5 from rfl, t5]; simp [fstB]; omega
theorem sec_miss (v : T3) (h : ¬ (v.a = 0 ∧ v.b = 0)) (k : Nat) (hk : k < secV v) : fstB (turned v (-(k : Int))) = false := by
  obtain ⟨t0, t1, t2, t3, t4, t5⟩ := turned_m v
  have hk5 : k = 0 ∨ k = 1 ∨ k = 2 ∨ k = 3 ∨ k = 4 := by have := (sec_hit v h).2; omega
  have hc := sec_cases v h
  rcases hk5 with rfl | rfl | rfl | rfl | rfl
  · rw [show (-((0 : Nat) : Int)) = 0 from rfl, t0]; simp [fstB]; omega
  · rw [show (-((1 : Nat) : Int)) = -1 from rfl, t1]; simp [fstB]; omega
  · rw [show (-((2 : Nat) : Int)) = -2 from rfl, t2]; simp [fstB]; omega
  · rw [show (-((3 : Nat) : Int)) = -3 from rfl, t3]; simp [fstB]; omega
  · rw [show (-((4 : Nat) : Int)) = -4 from rfl, t4]; simp [fstB]; omega
theorem sec_next (v : T3) (h : ¬ (v.a = 0 ∧ v.b = 0)) : secV (turned v 1) = (secV v + 1) % 6 := by
  have h' : ¬ ((turned v 1).a = 0 ∧ (turned v 1).b = 0) := by rw [turned_one]; simp; omega
  have c := sec_cases v h
  have c' := sec_cases _ h'
  rw [turned_one] at c' ⊢
  simp only at c'
  omega

/-- A current times the conjugate of a flux; the force; the margin. -/
def prodV (c f : T3) : T3 := c.mul f.conj
def forceV (c f : T3) : Int := (prodV c f).b
def marginV (c f : T3) : Int :=
  if (prodV c f).b ≤ 0 then 0
  else if max (2 * (prodV c f).a - (prodV c f).b) (-(2 * (prodV c f).a - (prodV c f).b)) ≤ (prodV c f).b then 2
  else if max (2 * (prodV c f).a - (prodV c f).b) (-(2 * (prodV c f).a - (prodV c f).b)) ≤ 3 * (prodV c f).b then 1 else 0
theorem nrm_mul (v u : T3) : (v.mul u).nrm = v.nrm * u.nrm := by unfold T3.nrm T3.mul; grind
theorem nrm_conj (v : T3) : v.conj.nrm = v.nrm := by unfold T3.nrm T3.conj; grind
theorem nrm_prod (c f : T3) : (prodV c f).nrm = c.nrm * f.nrm := by unfold prodV; rw [nrm_mul, nrm_conj]
theorem prod_turn (c f : T3) : prodV c.turn f.turn = prodV c f := by
  apply T3.eq <;> simp [prodV, T3.mul, T3.conj, T3.turn] <;> grind
theorem prod_turnN (c f : T3) : ∀ n, prodV (turnN n c) (turnN n f) = prodV c f
  | 0 => rfl
  | n + 1 => by show prodV (turnN n c).turn (turnN n f).turn = _; rw [prod_turn, prod_turnN c f n]
theorem prod_turned (c f : T3) (s : Int) : prodV (turned c s) (turned f s) = prodV c f := prod_turnN _ _ _
theorem force_swap (c f : T3) : forceV f c = -forceV c f := by
  simp [forceV, prodV, T3.mul, T3.conj]; grind
theorem sq_nonneg (x : Int) : 0 ≤ x * x := by
  rcases Int.le_total 0 x with h | h
  · exact Int.mul_nonneg h h
  · exact Int.mul_nonneg_of_nonpos_of_nonpos h h
theorem sq_mono {x y : Int} (h0 : 0 ≤ x) (h : x ≤ y) : x * x ≤ y * y := Int.mul_le_mul h h h0 (by omega)
theorem abs_sq_le {x y : Int} (h : max x (-x) ≤ y) : x * x ≤ y * y := by
  rcases Int.le_total 0 x with g | g
  · exact sq_mono g (by omega)
  · have := sq_mono (x := -x) (y := y) (by omega) (by omega)
    rwa [Int.neg_mul_neg] at this
theorem abs_sq_lt {x y : Int} (h0 : 0 ≤ y) (h : y < max x (-x)) : y * y < x * x := by
  have h1 : (y + 1) * (y + 1) ≤ x * x := by
    rcases Int.le_total 0 x with g | g
    · exact sq_mono (by omega) (by omega)
    · have := sq_mono (x := y + 1) (y := -x) (by omega) (by omega)
      rwa [Int.neg_mul_neg] at this
  have h2 : (y + 1) * (y + 1) = y * y + 2 * y + 1 := by grind
  omega
/-- What a force and a margin mean: n is the product of both squares. -/
theorem force_bound (p q n : Int) (hn : n = p * p - p * q + q * q) : 3 * (q * q) ≤ 4 * n := by
  have h := sq_nonneg (2 * p - q)
  have e : (2 * p - q) * (2 * p - q) = 4 * (p * p) - 4 * (p * q) + q * q := by grind
  omega
theorem four_nrm (p q : Int) : (2 * p - q) * (2 * p - q) + 3 * (q * q) = 4 * (p * p - p * q + q * q) := by grind
theorem close_bound (p q n : Int) (hn : n = p * p - p * q + q * q) (hq : 0 < q) (h : max (2 * p - q) (-(2 * p - q)) ≤ q) : n ≤ q * q := by
  have h1 := abs_sq_le h
  have h2 := four_nrm p q
  omega
theorem safe_bound (p q n : Int) (hn : n = p * p - p * q + q * q) (hq : 0 < q) (h : max (2 * p - q) (-(2 * p - q)) ≤ 3 * q) : n ≤ 3 * (q * q) := by
  have h1 := abs_sq_le h
  have h2 := four_nrm p q
  have e : 3 * q * (3 * q) = 9 * (q * q) := by grind
  omega
theorem not_close (p q n : Int) (hn : n = p * p - p * q + q * q) (hq : 0 < q) (h : q < max (2 * p - q) (-(2 * p - q))) : q * q ≤ n := by
  have h1 := abs_sq_lt (by omega) h
  have h2 := four_nrm p q
  omega
theorem not_safe (p q n : Int) (hn : n = p * p - p * q + q * q) (hq : 0 < q) (h : 3 * q < max (2 * p - q) (-(2 * p - q))) : 3 * (q * q) ≤ n := by
  have h1 := abs_sq_lt (by omega) h
  have h2 := four_nrm p q
  have e : 3 * q * (3 * q) = 9 * (q * q) := by grind
  omega
end Go.Proofs.YtohldmmfnjfgmaaDoor
