
/-
  The walks of SizeOf and SectorOf, the program's and the reference's.
-/
import Derived.Test.YtohldmmfnjfgmaaDoorTRoot
namespace Go.Proofs.YtohldmmfnjfgmaaDoor
open Go.RowKit

theorem rootLo_dn {n : Int} {d u : Nat} (h : IsDn n d) (g : IsUp n u) : rootLo n u = d := by
  have e : u = if (d : Int) * d < n then d + 1 else d := g.unique (IsUp.of_dn h)
  unfold rootLo
  have h1 := h.1
  have h2 := h.2
  split at e
  · subst e
    rw [if_neg (by push_cast; omega)]
    push_cast
    omega
  · subst e
    rw [if_pos (by omega)]
theorem nrm_nonneg (v : T3) : 0 ≤ v.nrm := by
  have h := four_nrm v.a v.b
  have h1 := sq_nonneg (2 * v.a - v.b)
  have h2 := sq_nonneg v.b
  unfold T3.nrm
  omega
theorem nrm_bound {v : T3} {M : Int} (h : v.Bd M) : v.nrm ≤ 3 * (M * M) := by
  obtain ⟨a0, a1, b0, b1⟩ := h
  have := mulB ⟨a0, a1⟩ ⟨a0, a1⟩
  have := mulB ⟨a0, a1⟩ ⟨b0, b1⟩
  have := mulB ⟨b0, b1⟩ ⟨b0, b1⟩
  unfold T3.nrm
  omega
theorem size_up {v : T3} (h : okT v = true) : ∃ d u : Nat, IsDn v.nrm d ∧ IsUp v.nrm u ∧ u ≤ 200000 := by
  have hb := nrm_bound (okT_bd h)
  have h0 := nrm_nonneg v
  obtain ⟨d, hd⟩ := dn_exists 200000 v.nrm h0 (by omega)
  have hu := IsUp.of_dn hd
  refine ⟨d, _, hd, hu, ?_⟩
  exact (hu.iff 200000).1 (by omega)

end Go.Proofs.YtohldmmfnjfgmaaDoor
