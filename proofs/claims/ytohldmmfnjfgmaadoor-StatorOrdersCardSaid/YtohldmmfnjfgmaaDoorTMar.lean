
/-
  The walks of the functions of margins.
-/
import Derived.Test.YtohldmmfnjfgmaaDoorTChk2
namespace Go.Proofs.YtohldmmfnjfgmaaDoor
open Go.RowKit

theorem prod_bd {c f : T3} (hc : c.Bd 100000) (hf : f.Bd 100000) : (prodV c f).Bd 60000000000 := by
  obtain ⟨a0, a1, b0, b1⟩ := hc
  obtain ⟨c0, c1, d0, d1⟩ := hf
  have e1 : -200000 ≤ f.a - f.b ∧ f.a - f.b ≤ 200000 := by omega
  have e2 : -100000 ≤ -f.b ∧ -f.b ≤ 100000 := by omega
  obtain ⟨m1, m2⟩ := mulB ⟨a0, a1⟩ e1
  obtain ⟨m3, m4⟩ := mulB ⟨b0, b1⟩ e2
  obtain ⟨m5, m6⟩ := mulB ⟨a0, a1⟩ e2
  obtain ⟨m7, m8⟩ := mulB ⟨b0, b1⟩ e1
  exact ⟨by simp only [prodV, T3.mul, T3.conj]; omega, by simp only [prodV, T3.mul, T3.conj]; omega, by simp only [prodV, T3.mul, T3.conj]; omega, by simp only [prodV, T3.mul, T3.conj]; omega⟩
/-- What a margin comes to, of the product alone. -/
def margP (p q : Int) : Int := if q ≤ 0 then 0 else if max (2 * p - q) (-(2 * p - q)) ≤ q then 2 else if max (2 * p - q) (-(2 * p - q)) ≤ 3 * q then 1 else 0
theorem margin_eq (c f : T3) : marginV c f = margP (prodV c f).a (prodV c f).b := rfl
/-- What a region that puts a product in a new box leaves. -/
def ProdAt (w : World) (c f : T3) (g : Nat) (W : World) : Prop := Bk W g 24 #[.int .i64 (prodV c f).a, .int .i64 (prodV c f).b] ∧ Below w.heap.size w W

end Go.Proofs.YtohldmmfnjfgmaaDoor
