
/-
  A track with more pieces behind it: plain facts; what is known of StandsAt and Joined ahead of a law.
-/
import Derived.Test.YtaghpemdcmjchaaBSs
import Derived.Test.YtaghpemdcmjchaaBJn
import Derived.Test.YtaghpemdcmjchaaBBeP
namespace Go.Proofs.Ytaghpemdcmjchaa
open Go.RowKit

theorem gp_app {ps : List Bp} (ps2 : List Bp) {i : Nat} (h : i < ps.length) : gp (ps ++ ps2) i = gp ps i := by
  unfold gp
  rw [List.getD_eq_getElem?_getD, List.getD_eq_getElem?_getD, List.getElem?_append_left h]
theorem plc_app {ps : List Bp} (ps2 : List Bp) : ∀ i, i ≤ ps.length → plcV (ps ++ ps2) i = plcV ps i
  | 0, _ => rfl
  | i + 1, h => by rw [plcV, plcV, plc_app ps2 i (by omega), gp_app ps2 (by omega)]
theorem sqS_app {ps : List Bp} (ps2 : List Bp) (d : Int) (p : Nat) (sq : Int) : ∀ k, p + k ≤ ps.length → sqS (ps ++ ps2) d p sq k = sqS ps d p sq k
  | 0, _ => rfl
  | k + 1, h => by rw [sqS, sqS, sqS_app ps2 d p sq k (by omega), gp_app ps2 (by omega)]
theorem stH_app {ps : List Bp} (ps2 : List Bp) {d : Int} {p : Nat} {sq : Int} {j : Nat} (h : p + j < ps.length) : stH (ps ++ ps2) d p sq j ↔ stH ps d p sq j := by
  unfold stH
  rw [gp_app ps2 h, sqS_app ps2 d p sq j (by omega)]
theorem okT_app {s : ByteArray} {ps ps2 : List Bp} (h : OkT s ps) (h2 : ∀ q ∈ ps2, okP q = true) (h12 : ps.length + ps2.length ≤ 12) : OkT s (ps ++ ps2) :=
  ⟨h.nm, by rw [List.length_append]; have := h.n0; omega, by rw [List.length_append]; exact h12, fun p hp => by
    rcases List.mem_append.1 hp with h3 | h3
    · exact h.each _ h3
    · exact h2 _ h3⟩
theorem st_find (Q : Nat → Prop) : ∀ n, (∀ j, j < n → ¬ Q j) ∨ ∃ k, k < n ∧ Q k ∧ ∀ j, j < k → ¬ Q j
  | 0 => .inl fun j hj => by omega
  | n + 1 => by
    rcases st_find Q n with h | ⟨k, h1, h2, h3⟩
    · by_cases hq : Q n
      · exact .inr ⟨n, by omega, hq, h⟩
      · refine .inl fun j hj => ?_
        by_cases e : j = n
        · subst e; exact hq
        · exact h j (by omega)
    · exact .inr ⟨k, by omega, h2, h3⟩
theorem joined_gen (s : ByteArray) (hs : s.size ≤ maxLen) (ps : List Bp) (A : Option Addr) (c : Nat) (hl : ps.length ≤ 100) (s2 : ByteArray) (hs2 : s2.size ≤ maxLen) (ps2 : List Bp) (A2 : Option Addr) (c2 : Nat) (hl2 : ps2.length ≤ 100) (w : World) (hA : Lies w w.heap.size A (ps.flatMap pc)) (hA2 : Lies w w.heap.size A2 (ps2.flatMap pc)) :
    Calls Try.prog 9 #[.agg #[.string s, .slice A ps.length c], .agg #[.string s2, .slice A2 ps2.length c2]] w fun e w' => ∃ (sx : ByteArray) (Ax : Option Addr) (nx cx : Nat), e = .returned (.tuple #[.agg #[.string sx, .slice Ax nx cx], .int .i64 (joiE s ps s2 ps2)]) ∧ Below w.heap.size w w' := by
  unfold joiE
  by_cases h : nz [(trE s ps).2, (trE s2 ps2).2] = 0
  · rw [if_neg (by simpa using h)]
    obtain ⟨a, rfl⟩ := ps_some hA (trE_zero (nz_two h).1).n0
    obtain ⟨a2, rfl⟩ := ps_some hA2 (trE_zero (nz_two h).2).n0
    by_cases h12 : 12 < ps.length + ps2.length
    · rw [if_pos h12]
      exact (Joined_long s hs ps (some a) c hl s2 hs2 ps2 (some a2) c2 hl2 h h12 w hA hA2).mono fun _ _ h => ⟨_, _, _, _, h⟩
    · rw [if_neg h12]
      exact (Joined_ok s hs ps (some a) c hl s2 hs2 ps2 (some a2) c2 hl2 h (by omega) w hA hA2).mono fun _ _ h => by
        obtain ⟨g, h1, _, _, _, h2⟩ := h
        exact ⟨_, _, _, _, h1, h2⟩
  · rw [if_pos h]
    exact (Joined_bad s hs ps A c hl s2 hs2 ps2 A2 c2 hl2 _ rfl h w hA hA2).mono fun _ _ h => ⟨_, _, _, _, h⟩
theorem joiE_zero {s : ByteArray} {ps : List Bp} {s2 : ByteArray} {ps2 : List Bp} (h : joiE s ps s2 ps2 = 0) : nz [(trE s ps).2, (trE s2 ps2).2] = 0 ∧ ps.length + ps2.length ≤ 12 := by
  unfold joiE at h
  split at h
  · rename_i h1; exact absurd h h1
  · rename_i h1
    split at h
    · cases h
    · exact ⟨by simpa using h1, by omega⟩
end Go.Proofs.Ytaghpemdcmjchaa
