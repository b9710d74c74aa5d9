
/-
  The walk of Fastest of the program, where there are no such squares, and where an argument is wrong.
-/
import Derived.Test.YtaghpemdcmjchaaBFst
namespace Go.Proofs.Ytaghpemdcmjchaa
open Go.RowKit

theorem fwV_bound {ps : List Bp} (h : ∀ p ∈ ps, okP p = true) (h12 : ps.length ≤ 12) {b : Bs} (hb : OkS b) {e0 e1 : Int} (he0 : 0 ≤ e0 ∧ e0 ≤ 20000000000) (he1 : 0 ≤ e1) : ∀ i : Nat, -(960000000000 + (i : Int) * 80000000000) ≤ fwV ps b e0 e1 i ∧ fwV ps b e0 e1 i ≤ 20000000000
  | 0 => by simp only [fwV]; omega
  | i + 1 => by
    have h1 := fwV_bound h h12 hb he0 he1 i
    have h2 := bwV_bound h h12 (d := b.brk) (by have := hb.b0; have := hb.b1; omega) he1 (i + 1)
    have h3 := drvG_bound (gp_ok h i) (d := b.drv) ⟨hb.v0, hb.v1⟩
    have e : ((i + 1 : Nat) : Int) * 80000000000 = (i : Int) * 80000000000 + 80000000000 := by push_cast; omega
    rw [fwV, e]
    omega
theorem fwV_bd {ps : List Bp} (h : ∀ p ∈ ps, okP p = true) (h12 : ps.length ≤ 12) {b : Bs} (hb : OkS b) {e0 e1 : Int} (he0 : 0 ≤ e0 ∧ e0 ≤ 20000000000) (he1 : 0 ≤ e1) (i : Nat) (hi : i ≤ ps.length) : -2000000000000 ≤ fwV ps b e0 e1 i ∧ fwV ps b e0 e1 i ≤ 20000000000 := by
  have := fwV_bound h h12 hb he0 he1 i
  omega
theorem fw_le_bw (ps : List Bp) (b : Bs) (e0 e1 : Int) (i : Nat) : fwV ps b e0 e1 (i + 1) ≤ bwV ps b.brk e1 (i + 1) := by rw [fwV]; omega
/-- Whether there are squares that can be run between two ends. -/
def fasB (ps : List Bp) (b : Bs) (e0 e1 : Int) : Bool := decide (e0 ≤ bwV ps b.brk e1 0) && (List.range (ps.length + 1)).all (fun i => decide (0 ≤ fwV ps b e0 e1 i))
theorem fasB_iff {ps : List Bp} {b : Bs} {e0 e1 : Int} : fasB ps b e0 e1 = true ↔ e0 ≤ bwV ps b.brk e1 0 ∧ ∀ i, i ≤ ps.length → 0 ≤ fwV ps b e0 e1 i := by
  unfold fasB
  simp only [Bool.and_eq_true, decide_eq_true_eq, List.all_eq_true, List.mem_range]
  exact ⟨fun h => ⟨h.1, fun i hi => h.2 i (by omega)⟩, fun h => ⟨h.1, fun i hi => h.2 i (by omega)⟩⟩
/-- The error of Fastest. -/
def fasE (s : ByteArray) (ps : List Bp) (b : Bs) (e0 e1 : Int) : Int := if bothE s ps b ≠ 0 then bothE s ps b else if sqE [e0, e1] ≠ 0 then sqE [e0, e1] else if fasB ps b e0 e1 = true then 0 else 12

theorem sqE_two {e0 e1 : Int} : sqE [e0, e1] = 0 ↔ (0 ≤ e0 ∧ e0 ≤ 20000000000) ∧ 0 ≤ e1 ∧ e1 ≤ 20000000000 := by
  unfold sqE
  cases h : [e0, e1].all (fun x => inB x 0 20000000000) with
  | true =>
    simp only [List.all_cons, List.all_nil, Bool.and_true, Bool.and_eq_true, inB_iff] at h
    simp [h]
  | false =>
    simp only [List.all_cons, List.all_nil, Bool.and_true] at h
    constructor
    · intro h1; simp at h1
    · intro h1
      rw [inB_iff.2 h1.1, inB_iff.2 h1.2] at h
      cases h
end Go.Proofs.Ytaghpemdcmjchaa
