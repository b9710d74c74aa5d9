
/-
  The plain facts behind the two statements over chapter 3: forces are linear; what is left drives little; small steps change little.
-/
import Derived.Test.YtohldmmfnjfgmaaDoorTRsP
import Derived.Test.YtohldmmfnjfgmaaDoorTHdA
import Derived.Test.YtohldmmfnjfgmaaDoorTNsP
namespace Go.Proofs.YtohldmmfnjfgmaaDoor
open Go.RowKit

/-- Small parts. -/
def smT (v : T3) : Bool := inB v.a (-1000) 1000 && inB v.b (-1000) 1000
theorem smT_iff {v : T3} : smT v = true ↔ (-1000 ≤ v.a ∧ v.a ≤ 1000) ∧ -1000 ≤ v.b ∧ v.b ≤ 1000 := by simp [smT, inB_iff]
theorem smT_ok {v : T3} (h : smT v = true) : okT v = true := by
  have := smT_iff.1 h
  exact okT_iff.2 (by omega)
theorem force_eq (c f : T3) : forceV c f = c.b * f.a - c.a * f.b := by
  simp [forceV, prodV, T3.mul, T3.conj]; grind
theorem force_add (c d f : T3) : forceV (c.add d) f = forceV c f + forceV d f := by
  rw [force_eq, force_eq, force_eq]; simp only [T3.add]; grind
theorem force_sub (c d f : T3) : forceV (c.sub d) f = forceV c f - forceV d f := by
  rw [force_eq, force_eq, force_eq]; simp only [T3.sub]; grind
theorem force_zero (f : T3) : forceV T3.zero f = 0 := by rw [force_eq]; simp [T3.zero]
/-- A force of vectors of bounded parts. -/
theorem force_in {c f : T3} {A B : Int} (hc : (-A ≤ c.a ∧ c.a ≤ A) ∧ -A ≤ c.b ∧ c.b ≤ A) (hf : (-B ≤ f.a ∧ f.a ≤ B) ∧ -B ≤ f.b ∧ f.b ≤ B) : -(2 * (A * B)) ≤ forceV c f ∧ forceV c f ≤ 2 * (A * B) := by
  rw [force_eq]
  have h1 := mulB hc.2 hf.1
  have h2 := mulB hc.1 hf.2
  omega
/-- What the pulses of a right line of wants come to. -/
theorem drive_step {M : Int} {ws : List T3} {k : Nat} {x f : T3} (hk : k + 1 ≤ ws.length) (hx : ws[k]? = some x) :
    forceV (sumT (ws.take (k + 1))) f = forceV (sumT (ws.take k)) f + forceV x f ∧
    forceV (sentV M ws (k + 1)) f = forceV (sentV M ws k) f + forceV ⟨M * (stV (stAt M ws k)).a, M * (stV (stAt M ws k)).b⟩ f ∧
    forceV (sumT (ws.take (k + 1))) f = forceV (sentV M ws (k + 1)) f + forceV (leftV M T3.zero (ws.take (k + 1))) f := by
  refine ⟨?_, ?_, ?_⟩
  · rw [take_snoc hx, sumT_snoc, force_add]
  · rw [sentV, force_add]
  · rw [← sent_left M ws (k + 1) hk, force_sub]; omega
/-- What is left stays small enough. -/
theorem left_bd {M : Int} (hM : 1 ≤ M ∧ M ≤ 1000) {ws : List T3} (h : ∀ x ∈ ws, smT x = true) (hl : ws.length ≤ 20) (k : Nat) :
    (-40000 ≤ (leftV M T3.zero (ws.take k)).a ∧ (leftV M T3.zero (ws.take k)).a ≤ 40000) ∧ -40000 ≤ (leftV M T3.zero (ws.take k)).b ∧ (leftV M T3.zero (ws.take k)).b ≤ 40000 := by
  have h1 := leftV_in (M := M) (W := 1000) (by omega) (ws.take k) T3.zero 0 (fun x hx => by have := smT_iff.1 (h x (List.mem_of_mem_take hx)); omega) (by simp [T3.zero])
  have h2 : ((ws.take k).length : Int) * (1000 + M) ≤ 20 * 2000 := Int.mul_le_mul (by have := List.length_take_le k ws; have : (ws.take k).length ≤ 20 := by rw [List.length_take]; omega
                                                                                      omega) (by omega) (by omega) (by omega)
  omega
/-- A near vector drives little. -/
theorem near_drive {M : Int} {l f : T3} (h : nearB M l = true) : 9 * (forceV l f * forceV l f) ≤ 4 * (M * M) * f.nrm := by
  have h1 := force_bound (prodV l f).a (prodV l f).b (l.nrm * f.nrm) (by rw [← nrm_prod]; rfl)
  have h2 := near_nrm h
  have h3 : 0 ≤ f.nrm := by
    have := force_bound f.a f.b f.nrm rfl
    have := sq_nonneg f.b
    omega
  have h4 : 3 * l.nrm * f.nrm ≤ M * M * f.nrm := Int.mul_le_mul_of_nonneg_right h2 h3
  have e1 : 3 * l.nrm * f.nrm = 3 * (l.nrm * f.nrm) := by grind
  have e2 : 4 * (M * M) * f.nrm = 4 * (M * M * f.nrm) := by grind
  have e3 : forceV l f = (prodV l f).b := rfl
  rw [e3]
  omega
theorem near_parts {M : Int} {l : T3} (h : nearB M l = true) : (-M ≤ l.a ∧ l.a ≤ M) ∧ -M ≤ l.b ∧ l.b ≤ M := by
  have := nearB_iff.1 h
  omega
theorem nrm_in {f : T3} (h : (-1000 ≤ f.a ∧ f.a ≤ 1000) ∧ -1000 ≤ f.b ∧ f.b ≤ 1000) : 0 ≤ f.nrm ∧ f.nrm ≤ 3000000 := by
  have h1 := mulB h.1 h.1
  have h2 := mulB h.1 h.2
  have h3 := mulB h.2 h.2
  have h4 := force_bound f.a f.b f.nrm rfl
  have h5 := sq_nonneg f.b
  unfold T3.nrm at *
  omega

/-- A part of a change lies not far from both ends. -/
theorem hdP_near {f t : Int} {s : Int} {k : Nat} (hs : 1 ≤ s) (hk : (k : Int) ≤ s) (h0 : -1000 ≤ f ∧ f ≤ 1000) (h1 : -1000 ≤ t ∧ t ≤ 1000) : -2000 ≤ hdP f t s k ∧ hdP f t s k ≤ 2000 := by
  unfold hdP
  have d : -2000 ≤ t - f ∧ t - f ≤ 2000 := by omega
  rcases Int.le_total f t with h | h
  · have m1 : 0 ≤ (k : Int) * (t - f) := Int.mul_nonneg (by omega) (by omega)
    have m2 : (k : Int) * (t - f) ≤ s * (t - f) := Int.mul_le_mul_of_nonneg_right hk (by omega)
    have d1 : 0 ≤ (k * (t - f)) / s := Int.ediv_nonneg m1 (by omega)
    have d2 : (k * (t - f)) / s ≤ t - f := by
      have : (k * (t - f)) / s ≤ (s * (t - f)) / s := Int.ediv_le_ediv (by omega) m2
      rwa [Int.mul_ediv_cancel_left _ (by omega)] at this
    omega
  · have m1 : s * (t - f) ≤ (k : Int) * (t - f) := by
      have := Int.mul_le_mul_of_nonneg_right hk (show 0 ≤ f - t by omega)
      have e1 : (k : Int) * (f - t) = -(k * (t - f)) := by grind
      have e2 : s * (f - t) = -(s * (t - f)) := by grind
      omega
    have m2 : (k : Int) * (t - f) ≤ 0 := by
      have := Int.mul_nonneg (show 0 ≤ (k : Int) by omega) (show 0 ≤ f - t by omega)
      have e1 : (k : Int) * (f - t) = -(k * (t - f)) := by grind
      omega
    have d2 : t - f ≤ (k * (t - f)) / s := by
      have : (s * (t - f)) / s ≤ (k * (t - f)) / s := Int.ediv_le_ediv (by omega) m1
      rwa [Int.mul_ediv_cancel_left _ (by omega)] at this
    have d1 : (k * (t - f)) / s ≤ 0 := by
      have : (k * (t - f)) / s ≤ 0 / s := Int.ediv_le_ediv (by omega) m2
      simpa using this
    omega
theorem two_mul_le {s p q P Q : Int} (hs : 1 ≤ s) (hp : 0 ≤ p ∧ p < s) (hq : 0 ≤ q ∧ q < s) {d : Int} (h : s * d = q * Q - p * P) : max d (-d) ≤ max P (-P) + max Q (-Q) := by
  have a1 : p * P ≤ s * max P (-P) ∧ -(s * max P (-P)) ≤ p * P := by
    have m0 : p * max P (-P) ≤ s * max P (-P) := Int.mul_le_mul_of_nonneg_right (by omega) (by omega)
    have m1 : p * P ≤ p * max P (-P) := Int.mul_le_mul_of_nonneg_left (by omega) hp.1
    have m2 : p * -(max P (-P)) ≤ p * P := Int.mul_le_mul_of_nonneg_left (by omega) hp.1
    rw [Int.mul_neg] at m2
    omega
  have a2 : q * Q ≤ s * max Q (-Q) ∧ -(s * max Q (-Q)) ≤ q * Q := by
    have m0 : q * max Q (-Q) ≤ s * max Q (-Q) := Int.mul_le_mul_of_nonneg_right (by omega) (by omega)
    have m1 : q * Q ≤ q * max Q (-Q) := Int.mul_le_mul_of_nonneg_left (by omega) hq.1
    have m2 : q * -(max Q (-Q)) ≤ q * Q := Int.mul_le_mul_of_nonneg_left (by omega) hq.1
    rw [Int.mul_neg] at m2
    omega
  have e : s * (max P (-P) + max Q (-Q)) = s * max P (-P) + s * max Q (-Q) := Int.mul_add _ _ _
  have b1 : s * d ≤ s * (max P (-P) + max Q (-Q)) := by omega
  have b2 : s * -d ≤ s * (max P (-P) + max Q (-Q)) := by rw [Int.mul_neg]; omega
  have c1 := Int.le_of_mul_le_mul_left b1 (by omega)
  have c2 := Int.le_of_mul_le_mul_left b2 (by omega)
  omega
/-- The force of a vector of a change between two with the same force. -/
theorem hd_force {f t fl : T3} {s : Int} {k : Nat} (hs : 1 ≤ s) (he : forceV t fl = forceV f fl) :
    max (forceV (hdV f t s k) fl - forceV f fl) (-(forceV (hdV f t s k) fl - forceV f fl)) ≤ max fl.a (-fl.a) + max fl.b (-fl.b) := by
  have r1 := Int.emod_add_mul_ediv (k * (t.a - f.a)) s
  have r2 := Int.emod_add_mul_ediv (k * (t.b - f.b)) s
  have p1 := Int.emod_nonneg (k * (t.a - f.a)) (show s ≠ 0 by omega)
  have p2 := Int.emod_lt_of_pos (k * (t.a - f.a)) (show 0 < s by omega)
  have q1 := Int.emod_nonneg (k * (t.b - f.b)) (show s ≠ 0 by omega)
  have q2 := Int.emod_lt_of_pos (k * (t.b - f.b)) (show 0 < s by omega)
  simp only [force_eq, hdV, hdP] at he ⊢
  generalize (k * (t.a - f.a)) / s = u at *
  generalize (k * (t.b - f.b)) / s = v at *
  generalize (k * (t.a - f.a)) % s = p at *
  generalize (k * (t.b - f.b)) % s = q at *
  have e : s * ((f.b + v) * fl.a - (f.a + u) * fl.b - (f.b * fl.a - f.a * fl.b)) = p * fl.b - q * fl.a := by
    have e1 : s * ((f.b + v) * fl.a - (f.a + u) * fl.b - (f.b * fl.a - f.a * fl.b)) = (s * v) * fl.a - (s * u) * fl.b := by grind
    have e2 : s * v = k * (t.b - f.b) - q := by omega
    have e3 : s * u = k * (t.a - f.a) - p := by omega
    rw [e1, e2, e3]
    have e4 : (k * (t.b - f.b) - q) * fl.a - (k * (t.a - f.a) - p) * fl.b = k * ((t.b * fl.a - t.a * fl.b) - (f.b * fl.a - f.a * fl.b)) + (p * fl.b - q * fl.a) := by grind
    rw [e4, he, Int.sub_self, Int.mul_zero, Int.zero_add]
  exact two_mul_le hs ⟨q1, q2⟩ ⟨p1, p2⟩ e
end Go.Proofs.YtohldmmfnjfgmaaDoor
