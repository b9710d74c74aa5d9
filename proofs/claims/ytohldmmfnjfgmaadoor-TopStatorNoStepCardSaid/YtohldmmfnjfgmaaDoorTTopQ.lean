
/-
  Plain facts of TopStatorNoStep's train on two sections.
-/
import Derived.Test.YtohldmmfnjfgmaaDoorTTopP
import Derived.Test.YtohldmmfnjfgmaaDoorTFrc
import Derived.Test.YtohldmmfnjfgmaaDoorTOvR
import Derived.Test.YtohldmmfnjfgmaaDoorTNsP
import Derived.Test.YtohldmmfnjfgmaaDoorTEven
namespace Go.Proofs.YtohldmmfnjfgmaaDoor
open Go.RowKit

def nsLs : List Int := [500, 500]
theorem ns_plc {p len : Int} (hp : 0 ≤ p ∧ p ≤ 500) (hl : 1 ≤ len ∧ len ≤ 500) : Plc nsLs p len :=
  ⟨by decide, by decide, by decide, by omega, by omega, by omega, by have h : begV nsLs nsLs.length = 1000 := by decide
                                                                     rw [h]; omega⟩
theorem ns_fed {p len : Int} {v fl : T3} (hp : 0 ≤ p ∧ p ≤ 500) (hl : 1 ≤ len ∧ len ≤ 500) (hv : okT v = true) (hf : okT fl = true) : Fed nsLs p len [v, v] fl :=
  ⟨ns_plc hp hl, rfl, by simp [hv], hf⟩
theorem ns_frc {p len : Int} {v fl : T3} (hp : 0 ≤ p ∧ p ≤ 500) (hl : 1 ≤ len ∧ len ≤ 500) : frcV nsLs p len [v, v] fl = len * forceV v fl := by
  have h := frc_same (ls := nsLs) (p := p) (len := len) (c := forceV v fl) (fun i => forceV (getT [v, v] i) fl) 2 (fun i hi => by
    rcases (by omega : i = 0 ∨ i = 1) with rfl | rfl <;> rfl)
  have h2 := ov_all (ns_plc hp hl)
  have h3 : upTo (ovV nsLs p len) 2 = len := h2
  rw [h3] at h
  exact h
theorem ev_two {f t fl : T3} (h : evB [f, t] fl = true) : forceV t fl = forceV f fl := by
  simp [evB] at h
  exact h
theorem turned_small {v : T3} {s : Int} (h : (-2000 ≤ v.a ∧ v.a ≤ 2000) ∧ -2000 ≤ v.b ∧ v.b ≤ 2000) : okT (turned v s) = true := by
  have h1 := (T3.In.turnN (v := v) (M := 4000) ⟨by omega, by omega, by omega, by omega, by omega, by omega⟩ ((s % 6).toNat)).bd
  obtain ⟨a0, a1, b0, b1⟩ := h1
  exact okT_iff.2 (by unfold turned; omega)
end Go.Proofs.YtohldmmfnjfgmaaDoor
