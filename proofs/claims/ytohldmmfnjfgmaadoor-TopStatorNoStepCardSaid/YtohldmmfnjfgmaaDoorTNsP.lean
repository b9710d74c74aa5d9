
/-
  A train that moves on by one loses as much of a section as it wins of another one: the plain facts behind StatorNoStep.
-/
import Derived.Test.YtohldmmfnjfgmaaDoorTGs
namespace Go.Proofs.YtohldmmfnjfgmaaDoor
open Go.RowKit

/-- The least and the greatest of the first numbers. -/
def loV (f : Nat → Int) : Nat → Int
  | 0 => 0
  | k + 1 => if k = 0 then f 0 else min (loV f k) (f k)
def hiV (f : Nat → Int) : Nat → Int
  | 0 => 0
  | k + 1 => if k = 0 then f 0 else max (hiV f k) (f k)
theorem lohi (f : Nat → Int) : ∀ k i : Nat, i < k → loV f k ≤ f i ∧ f i ≤ hiV f k
  | 0, i, h => by omega
  | k + 1, i, h => by
    unfold loV hiV
    by_cases hk : k = 0
    · subst hk
      obtain rfl : i = 0 := by omega
      simp
    · rw [if_neg hk, if_neg hk]
      by_cases hi : i = k
      · subst hi; omega
      · have := lohi f k i (by omega); omega
theorem lohi_same (f : Nat → Int) (c : Int) : ∀ k : Nat, k ≠ 0 → (∀ i, i < k → f i = c) → loV f k = c ∧ hiV f k = c
  | 0, h, _ => absurd rfl h
  | k + 1, _, h => by
    unfold loV hiV
    by_cases hk : k = 0
    · subst hk
      have := h 0 (by omega)
      simp [this]
    · have ih := lohi_same f c k hk (fun i hi => h i (by omega))
      have := h k (by omega)
      rw [if_neg hk, if_neg hk]
      omega
theorem lohi_bd (f : Nat → Int) (M : Int) (hM : 0 ≤ M) (h : ∀ i, -M ≤ f i ∧ f i ≤ M) : ∀ k : Nat, (-M ≤ loV f k ∧ loV f k ≤ M) ∧ -M ≤ hiV f k ∧ hiV f k ≤ M
  | 0 => by show (-M ≤ 0 ∧ (0 : Int) ≤ M) ∧ -M ≤ 0 ∧ (0 : Int) ≤ M; omega
  | k + 1 => by
    have ih := lohi_bd f M hM h k
    have a := h 0
    have b := h k
    unfold loV hiV
    by_cases hk : k = 0
    · rw [if_pos hk, if_pos hk]; omega
    · rw [if_neg hk, if_neg hk]; omega

/-- How much of a section lies ahead of a place. -/
def clV (ls : List Int) (i : Nat) (x : Int) : Int := max 0 (min (begV ls (i + 1)) x - begV ls i)
theorem beg_mono {ls : List Int} (hx : ∀ x ∈ ls, inB x 1 1000000 = true) (i : Nat) (hi : i < ls.length) : begV ls i ≤ begV ls (i + 1) := by
  have hs := begV_succ ls i hi
  obtain ⟨y0, _⟩ := inB_iff.1 (hx _ (List.getElem_mem hi))
  omega
theorem beg_pos {ls : List Int} (hx : ∀ x ∈ ls, inB x 1 1000000 = true) : ∀ i : Nat, i ≤ ls.length → 0 ≤ begV ls i
  | 0, _ => by show (0 : Int) ≤ 0; omega
  | i + 1, h => by have := beg_pos hx i (by omega); have := beg_mono hx i (by omega); omega
theorem ov_step {ls : List Int} (hx : ∀ x ∈ ls, inB x 1 1000000 = true) {p len : Int} (hl : 0 ≤ len) (i : Nat) (hi : i < ls.length) :
    ovV ls (p + 1) len i = ovV ls p len i + (clV ls i (p + len + 1) - clV ls i (p + len)) - (clV ls i (p + 1) - clV ls i p) := by
  have := beg_mono hx i hi
  unfold ovV clV
  omega
theorem cl_unit {ls : List Int} (i : Nat) (x : Int) (h : begV ls i ≤ begV ls (i + 1)) :
    (begV ls i ≤ x ∧ x < begV ls (i + 1) ∧ clV ls i (x + 1) - clV ls i x = 1) ∨ ((x < begV ls i ∨ begV ls (i + 1) ≤ x) ∧ clV ls i (x + 1) - clV ls i x = 0) := by
  unfold clV
  omega
theorem unit_sum {ls : List Int} (hx : ∀ x ∈ ls, inB x 1 1000000 = true) (q : Nat → Int) (L H : Int) (n : Nat) (hn : n ≤ ls.length) (hq : ∀ i, i < n → L ≤ q i ∧ q i ≤ H) (x : Int) (h0 : 0 ≤ x) :
    ∀ k : Nat, k ≤ n → (x < begV ls k ∧ L ≤ upTo (fun i => (clV ls i (x + 1) - clV ls i x) * q i) k ∧ upTo (fun i => (clV ls i (x + 1) - clV ls i x) * q i) k ≤ H) ∨ (begV ls k ≤ x ∧ upTo (fun i => (clV ls i (x + 1) - clV ls i x) * q i) k = 0)
  | 0, _ => .inr ⟨by show (0 : Int) ≤ x; exact h0, rfl⟩
  | k + 1, hk => by
    have ih := unit_sum hx q L H n hn hq x h0 k (by omega)
    have hb := beg_mono hx k (by omega)
    have hqk := hq k (by omega)
    rw [upTo]
    rcases cl_unit k x hb with ⟨u0, u1, u2⟩ | ⟨u0, u2⟩
    · rw [u2, Int.one_mul]
      rcases ih with ⟨i0, _⟩ | ⟨i0, i1⟩
      · omega
      · exact .inl ⟨u1, by omega, by omega⟩
    · rw [u2, Int.zero_mul]
      rcases ih with ⟨i0, i1, i2⟩ | ⟨i0, i1⟩
      · exact .inl ⟨by omega, by omega, by omega⟩
      · exact .inr ⟨by omega, by omega⟩
theorem frc_step {ls : List Int} (hx : ∀ x ∈ ls, inB x 1 1000000 = true) {p len : Int} (hl : 0 ≤ len) (q : Nat → Int) : ∀ k : Nat, k ≤ ls.length →
    upTo (fun i => ovV ls (p + 1) len i * q i) k = upTo (fun i => ovV ls p len i * q i) k + upTo (fun i => (clV ls i (p + len + 1) - clV ls i (p + len)) * q i) k - upTo (fun i => (clV ls i (p + 1) - clV ls i p) * q i) k
  | 0, _ => by show (0 : Int) = 0 + 0 - 0; omega
  | k + 1, hk => by
    have ih := frc_step hx hl q k (by omega) (p := p) (len := len)
    have hs := ov_step hx hl k (by omega) (p := p)
    rw [upTo, upTo, upTo, upTo, ih, hs, Int.sub_mul, Int.add_mul]
    omega
theorem frc_same {ls : List Int} {p len c : Int} (q : Nat → Int) : ∀ k : Nat, (∀ i, i < k → q i = c) → upTo (fun i => ovV ls p len i * q i) k = upTo (ovV ls p len) k * c
  | 0, _ => by show (0 : Int) = 0 * c; rw [Int.zero_mul]
  | k + 1, h => by
    have ih := frc_same q k (fun i hi => h i (by omega)) (ls := ls) (p := p) (len := len)
    rw [upTo, upTo, ih, h k (by omega), Int.add_mul]
theorem gsV_le {F : Nat → Int} {M : Int} (hM : 0 ≤ M) (n : Nat) (h : ∀ k, k < n → -M ≤ F (k + 1) - F k ∧ F (k + 1) - F k ≤ M) : ∀ k, k ≤ n → 0 ≤ gsV F k ∧ gsV F k ≤ M
  | 0, _ => by show (0 : Int) ≤ 0 ∧ (0 : Int) ≤ M; omega
  | k + 1, hk => by
    have ih := gsV_le hM n h k (by omega)
    have := h k (by omega)
    show 0 ≤ max (gsV F k) (max (F (k + 1) - F k) (-(F (k + 1) - F k))) ∧ max (gsV F k) (max (F (k + 1) - F k) (-(F (k + 1) - F k))) ≤ M
    omega

/-- The force of a current of the feed. -/
def qV (cs : List T3) (fl : T3) (i : Nat) : Int := forceV (getT cs i) fl
/-- What StatorNoStep asks. -/
structure NoStep (ls : List Int) (p len : Int) (cs : List T3) (fl : T3) (mv : Int) (a b m q : Int) (ev : Bool) : Prop where
  m0 : 0 ≤ m
  m1 : m ≤ b - a
  c : (ev = true ∧ a = b ∧ m = 0 ∧ q = len * a) ∨ (ev = false ∧ ¬ a = b)
theorem no_step {ls : List Int} {p len mv : Int} {cs : List T3} {fl : T3} (hf : Fed ls p len cs fl) (hm : mvE ls p len mv = 0) :
    NoStep ls p len cs fl mv (loV (qV cs fl) ls.length) (hiV (qV cs fl) ls.length) (gsV (frcAt ls p len cs fl) mv.toNat) (frcV ls p len cs fl) (evB cs fl) := by
  obtain ⟨hin, hend⟩ := mvE_ok hm
  obtain ⟨v0, v1⟩ := inB_iff.1 hin
  have hl0 := hf.q.l0
  have hp0 := hf.q.p0
  have hn0 := hf.q.n0
  have hb := lohi (qV cs fl) ls.length
  have hH : 0 ≤ hiV (qV cs fl) ls.length - loV (qV cs fl) ls.length := by have := hb 0 (by omega); omega
  have hstep : ∀ k, k < mv.toNat → -(hiV (qV cs fl) ls.length - loV (qV cs fl) ls.length) ≤ frcAt ls p len cs fl (k + 1) - frcAt ls p len cs fl k ∧ frcAt ls p len cs fl (k + 1) - frcAt ls p len cs fl k ≤ hiV (qV cs fl) ls.length - loV (qV cs fl) ls.length := fun k hk => by
    have e1 : frcAt ls p len cs fl (k + 1) = upTo (fun i => ovV ls (p + k + 1) len i * qV cs fl i) ls.length := by
      unfold frcAt frcV frcT
      rw [show (p + ((k + 1 : Nat) : Int)) = p + k + 1 by omega]
      rfl
    have e2 : frcAt ls p len cs fl k = upTo (fun i => ovV ls (p + k) len i * qV cs fl i) ls.length := rfl
    have e3 := frc_step hf.q.x (by omega : (0 : Int) ≤ len) (qV cs fl) ls.length (Nat.le_refl _) (p := p + k)
    have u1 := unit_sum hf.q.x (qV cs fl) _ _ ls.length (Nat.le_refl _) hb (p + k + len) (by omega) ls.length (Nat.le_refl _)
    have u2 := unit_sum hf.q.x (qV cs fl) _ _ ls.length (Nat.le_refl _) hb (p + k) (by omega) ls.length (Nat.le_refl _)
    rw [e1, e2, e3]
    omega
  have hg := gsV_le hH mv.toNat hstep mv.toNat (Nat.le_refl _)
  refine ⟨hg.1, hg.2, ?_⟩
  have hx0 : cs[0]? = some (getT cs 0) := by have h : 0 < cs.length := by rw [hf.n]; omega
                                             rw [List.getElem?_eq_getElem h, getT_at h]
  by_cases hall : ∀ i, i < ls.length → qV cs fl i = qV cs fl 0
  · obtain ⟨s1, s2⟩ := lohi_same (qV cs fl) _ ls.length hn0 hall
    refine .inl ⟨evB_yes hx0 (fun x hx => ?_), by rw [s1, s2], by omega, ?_⟩
    · obtain ⟨i, hi, rfl⟩ := List.getElem_of_mem hx
      have := hall i (by rw [← hf.n]; exact hi)
      unfold qV at this
      rwa [getT_at hi] at this
    · have h1 := frc_same (qV cs fl) ls.length hall (ls := ls) (p := p) (len := len)
      rw [ov_all hf.q] at h1
      rw [s1]
      exact h1
  · have ⟨i, hi⟩ := Classical.not_forall.1 hall
    have ⟨hi1, hi2⟩ := Classical.not_imp.1 hi
    have hic : i < cs.length := by rw [hf.n]; exact hi1
    refine .inr ⟨evB_no hx0 (List.getElem_mem hic) ?_, fun h => ?_⟩
    · unfold qV at hi2
      rwa [getT_at hic] at hi2
    · have a := hb i hi1
      have b := hb 0 (by omega)
      omega
end Go.Proofs.YtohldmmfnjfgmaaDoor
