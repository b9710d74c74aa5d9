
/-
  The walk of Fastest of the program, where there are such squares.
-/
import Derived.Test.YtaghpemdcmjchaaBRun
namespace Go.Proofs.Ytaghpemdcmjchaa
open Go.RowKit

/-- What a driven train gains along a piece. -/
def drvG (p : Bp) (d : Int) : Int := 2 * (d - 10 * p.grad) * p.len
theorem drvG_bound {p : Bp} {d : Int} (h : okP p = true) (hd : 0 ≤ d ∧ d ≤ 2000) : -80000000000 ≤ drvG p d ∧ drvG p d ≤ 80000000000 := by
  have h1 := okP_iff.1 h
  have := mulB5 (x := 2 * (d - 10 * p.grad)) (y := p.len) (A := 8000) (B := 10000000) (by omega) (by omega)
  unfold drvG
  omega
/-- The greatest squares from which the end can be reached, from the end backwards. -/
def bwS (ps : List Bp) (d e1 : Int) : Nat → Int
  | 0 => min (limV ps ps.length) e1
  | j + 1 => min (limV ps (ps.length - 1 - j)) (bwS ps d e1 j + lossV (gp ps (ps.length - 1 - j)) d)
def bwV (ps : List Bp) (d e1 : Int) (i : Nat) : Int := bwS ps d e1 (ps.length - i)
theorem bwV_top (ps : List Bp) (d e1 : Int) : bwV ps d e1 ps.length = min (limV ps ps.length) e1 := by unfold bwV; rw [Nat.sub_self]; rfl
theorem bwV_step (ps : List Bp) (d e1 : Int) (i : Nat) (h : i < ps.length) : bwV ps d e1 i = min (limV ps i) (bwV ps d e1 (i + 1) + lossV (gp ps i) d) := by
  unfold bwV
  have e1' : ps.length - i = (ps.length - (i + 1)) + 1 := by omega
  have e2 : ps.length - 1 - (ps.length - (i + 1)) = i := by omega
  rw [e1', bwS, e2]
theorem bwS_bound {ps : List Bp} (h : ∀ p ∈ ps, okP p = true) {d : Int} (hd : -3000 ≤ d ∧ d ≤ 3000) {e1 : Int} (he : 0 ≤ e1) : ∀ j : Nat, -((j : Int) * 80000000000) ≤ bwS ps d e1 j ∧ bwS ps d e1 j ≤ 20000000000
  | 0 => by have := limV_bound h ps.length; simp only [bwS]; omega
  | j + 1 => by
    have h1 := bwS_bound h hd he j
    have h2 := lossV_bound (gp_ok h (ps.length - 1 - j)) hd
    have h3 := limV_bound h (ps.length - 1 - j)
    have e : ((j + 1 : Nat) : Int) * 80000000000 = (j : Int) * 80000000000 + 80000000000 := by push_cast; omega
    rw [bwS, e]
    omega
theorem bwV_bound {ps : List Bp} (h : ∀ p ∈ ps, okP p = true) (h12 : ps.length ≤ 12) {d : Int} (hd : -3000 ≤ d ∧ d ≤ 3000) {e1 : Int} (he : 0 ≤ e1) (i : Nat) : -960000000000 ≤ bwV ps d e1 i ∧ bwV ps d e1 i ≤ 20000000000 := by
  have := bwS_bound h hd he (ps.length - i)
  unfold bwV
  omega
/-- The fastest squares. -/
def fwV (ps : List Bp) (b : Bs) (e0 e1 : Int) : Nat → Int
  | 0 => e0
  | i + 1 => min (bwV ps b.brk e1 (i + 1)) (fwV ps b e0 e1 i + drvG (gp ps i) b.drv)
theorem errorOfSquare_bl (l : List Int) (A : Option Addr) (c : Nat) (hl : l.length ≤ maxLen) (w : World) (hA : Lies w w.heap.size A (ic l)) :
    Calls Try.prog 40 #[.slice A l.length c] w fun e w' => e = .returned (.int .i64 (sqE l)) ∧ Below w.heap.size w w' :=
  (errorOfSquare_any l A c hl w hA).mono fun e w' h => ⟨h.1, h.2 ▸ Below.refl _ _⟩
theorem Lies.bk2i {w : World} {g : Nat} {t : TypeId} {a b : Int} (h : Bk w g t #[.int .i64 a, .int .i64 b]) : Lies w w.heap.size (some ⟨g, 0, none⟩) (ic [a, b]) := fun j u hu => by
  match j with
  | 0 => exact ⟨_, rfl, h.lt, by have := h.cell 0; simp [ic] at hu; subst hu; exact this⟩
  | 1 => exact ⟨_, rfl, h.lt, by have := h.cell 1; simp [ic] at hu; subst hu; exact this⟩
  | j + 2 => simp [ic] at hu

end Go.Proofs.Ytaghpemdcmjchaa
