
/-
  Six numbers, six vectors opened.
-/
import Derived.Test.YtohldmmfnjfgmaaDoorTRow2
import Derived.Test.YtohldmmfnjfgmaaDoorTPl
namespace Go.Proofs.YtohldmmfnjfgmaaDoor
open Go.ChangeShapes Go.WideShapes Go.ChangeAt Go.RowKit Go.Joins Go.Deep

theorem cells_a6 : Tryd.prog.cellsOf 22 = 6 := by kernel_rfl
theorem cells_t6 : Tryd.prog.cellsOf 25 = 12 := by kernel_rfl
section
variable {H : Type} {enc : TypeId × Value → H} {W : World} {base : Nat} {held : Bool}
set_option maxRecDepth 100000 in
theorem open_a6 {r : Reach} {b0 : Nat} {v : Value} {d : DataW H} {p : List MemPlace} (hv : Value.okWide Tryd.prog W r b0 22 v) (h : DataW.Trod enc Tryd.prog W base (fun _ => true) held 22 v d p) :
    ∃ x : Nat → Int, (∀ i, 6 ≤ i → x i = 0) ∧ v = .agg #[.int .i64 (x 0), .int .i64 (x 1), .int .i64 (x 2), .int .i64 (x 3), .int .i64 (x 4), .int .i64 (x 5)] := by
  have hs : ∃ cs, v = .agg cs ∧ cs.size = 6 := by
    simp only [Value.okWide, Tryd.underlying22] at hv
    obtain ⟨cs, h1, h2, _⟩ := hv
    exact ⟨cs, h1, by rw [h2, cells_a6]⟩
  obtain ⟨cs, rfl, hsz⟩ := hs
  obtain ⟨fuel, hf⟩ := h
  obtain ⟨l⟩ := cs
  match l, hsz with
  | [c0, c1, c2, c3, c4, c5], _ =>
    obtain ⟨xs, m, _, _, hlen, hn, hel⟩ := DataW.trod_array Tryd.underlying22 hf
    have get : ∀ i (hi : i < 6) (c : Value), (([c0, c1, c2, c3, c4, c5] : List Value).drop (i * 1)).take 1 = [c] → ∃ n : Int, c = .int .i64 n := fun i hi c hc => by
      obtain ⟨y, hy⟩ : ∃ y, xs[i]? = some y := ⟨_, List.getElem?_eq_getElem (by omega)⟩
      have h0 := hel i (by omega)
      rw [hy, cells_int] at h0
      have h1 : DataW.trod enc Tryd.prog W base (fun _ => true) held m 3 [c] = some y := by rw [← hc]; exact h0
      obtain ⟨n, hn, _, _⟩ := trod_i h1
      exact ⟨n, hn⟩
    obtain ⟨n0, rfl⟩ := get 0 (by omega) c0 rfl
    obtain ⟨n1, rfl⟩ := get 1 (by omega) c1 rfl
    obtain ⟨n2, rfl⟩ := get 2 (by omega) c2 rfl
    obtain ⟨n3, rfl⟩ := get 3 (by omega) c3 rfl
    obtain ⟨n4, rfl⟩ := get 4 (by omega) c4 rfl
    obtain ⟨n5, rfl⟩ := get 5 (by omega) c5 rfl
    refine ⟨fun i => [n0, n1, n2, n3, n4, n5].getD i 0, fun i hi => ?_, rfl⟩
    show [n0, n1, n2, n3, n4, n5].getD i 0 = 0
    rw [List.getD_eq_getElem?_getD, List.getElem?_eq_none (by simpa using hi)]
    rfl
set_option maxRecDepth 100000 in
theorem open_t6 {r : Reach} {b0 : Nat} {v : Value} {d : DataW H} {p : List MemPlace} (hv : Value.okWide Tryd.prog W r b0 25 v) (h : DataW.Trod enc Tryd.prog W base (fun _ => true) held 25 v d p) :
    ∃ f : Nat → T3, (∀ i, 6 ≤ i → f i = T3.zero) ∧ v = .agg #[.int .i64 (f 0).a, .int .i64 (f 0).b, .int .i64 (f 1).a, .int .i64 (f 1).b, .int .i64 (f 2).a, .int .i64 (f 2).b, .int .i64 (f 3).a, .int .i64 (f 3).b, .int .i64 (f 4).a, .int .i64 (f 4).b, .int .i64 (f 5).a, .int .i64 (f 5).b] := by
  have hs : ∃ cs, v = .agg cs ∧ cs.size = 12 := by
    simp only [Value.okWide, Tryd.underlying25] at hv
    obtain ⟨cs, h1, h2, _⟩ := hv
    exact ⟨cs, h1, by rw [h2, cells_t6]⟩
  obtain ⟨cs, rfl, hsz⟩ := hs
  obtain ⟨fuel, hf⟩ := h
  obtain ⟨l⟩ := cs
  match l, hsz with
  | [a0, b0, a1, b1, a2, b2, a3, b3, a4, b4, a5, b5], _ =>
    obtain ⟨xs, m, _, _, hlen, hn, hel⟩ := DataW.trod_array Tryd.underlying25 hf
    have get : ∀ i (hi : i < 6) (a b : Value), (([a0, b0, a1, b1, a2, b2, a3, b3, a4, b4, a5, b5] : List Value).drop (i * 2)).take 2 = [a, b] → ∃ v : T3, a = .int .i64 v.a ∧ b = .int .i64 v.b := fun i hi a b hc => by
      obtain ⟨y, hy⟩ : ∃ y, xs[i]? = some y := ⟨_, List.getElem?_eq_getElem (by omega)⟩
      have h0 := hel i (by omega)
      rw [hy, cells_third] at h0
      have h1 : DataW.trod enc Tryd.prog W base (fun _ => true) held m 24 [a, b] = some y := by rw [← hc]; exact h0
      obtain ⟨v, hv, _, _, _⟩ := trod_third h1
      simp only [tc, List.cons.injEq, and_true] at hv
      exact ⟨v, hv.1, hv.2⟩
    obtain ⟨v0, rfl, rfl⟩ := get 0 (by omega) a0 b0 rfl
    obtain ⟨v1, rfl, rfl⟩ := get 1 (by omega) a1 b1 rfl
    obtain ⟨v2, rfl, rfl⟩ := get 2 (by omega) a2 b2 rfl
    obtain ⟨v3, rfl, rfl⟩ := get 3 (by omega) a3 b3 rfl
    obtain ⟨v4, rfl, rfl⟩ := get 4 (by omega) a4 b4 rfl
    obtain ⟨v5, rfl, rfl⟩ := get 5 (by omega) a5 b5 rfl
    refine ⟨fun i => [v0, v1, v2, v3, v4, v5].getD i T3.zero, fun i hi => ?_, rfl⟩
    show [v0, v1, v2, v3, v4, v5].getD i T3.zero = T3.zero
    rw [List.getD_eq_getElem?_getD, List.getElem?_eq_none (by simpa using hi)]
    rfl
end
end Go.Proofs.YtohldmmfnjfgmaaDoor
