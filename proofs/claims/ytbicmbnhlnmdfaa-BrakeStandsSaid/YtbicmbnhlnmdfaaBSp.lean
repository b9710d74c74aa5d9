
/-
  A track with more pieces behind it: plain facts; what is known of StandsAt and Joined ahead of a law.
-/
import Derived.Test.YtbicmbnhlnmdfaaBSs
import Derived.Test.YtbicmbnhlnmdfaaBJn
import Derived.Test.YtbicmbnhlnmdfaaBBeP
namespace Go.Proofs.Ytbicmbnhlnmdfaa
open Go.RowKit

theorem gp_app {ps : List Bp} (ps2 : List Bp) {i : Nat} (h : i < ps.length) : gp (ps ++ ps2) i = gp ps i := by
  unfold gp
  rw [List.getD_eq_getElem?_getD, List.getD_eq_getElem?_getD, List.getElem?_append_left h]
theorem plc_app {ps : List Bp} (ps2 : List Bp) : ∀ i, i ≤ ps.length → plcV (ps ++ ps2) i = plcV ps i
  | 0, _ => rfl
  | i + 1, h => by rw [plcV, plcV, plc_app ps2 i (by omega), gp_app ps2 (by omega)]
theorem sqS_app {ps : List Bp} (ps2 : List Bp) (d : Int) (p : Nat) (sq : Int) : ∀ k, p + k ≤ ps.length → sqS (ps ++ ps2) d p sq k = sqS ps d p sq k
  | 0, _ => rfl
  | k + 1, h => by rw [sqS, sqS, sqS_app ps2 d p sq k (by omega), gp_app ps2 (by omega)]
theorem stH_app {ps : List Bp} (ps2 : List Bp) {d : Int} {p : Nat} {sq : Int} {j : Nat} (h : p + j < ps.length) : stH (ps ++ ps2) d p sq j ↔ stH ps d p sq j := by
  unfold stH
  rw [gp_app ps2 h, sqS_app ps2 d p sq j (by omega)]
theorem okT_app {s : ByteArray} {ps ps2 : List Bp} (h : OkT s ps) (h2 : ∀ q ∈ ps2, okP q = true) (h12 : ps.length + ps2.length ≤ 12) : OkT s (ps ++ ps2) :=
  ⟨h.nm, by rw [List.length_append]; have := h.n0; omega, by rw [List.length_append]; exact h12, fun p hp => by
    rcases List.mem_append.1 hp with h3 | h3
    · exact h.each _ h3
    · exact h2 _ h3⟩
theorem st_find (Q : Nat → Prop) : ∀ n, (∀ j, j < n → ¬ Q j) ∨ ∃ k, k < n ∧ Q k ∧ ∀ j, j < k → ¬ Q j
  | 0 => .inl fun j hj => by omega
  | n + 1 => by
    rcases st_find Q n with h | ⟨k, h1, h2, h3⟩
    · by_cases hq : Q n
      · exact .inr ⟨n, by omega, hq, h⟩
      · refine .inl fun j hj => ?_
        by_cases e : j = n
        · subst e; exact hq
        · exact h j (by omega)
    · exact .inr ⟨k, by omega, h2, h3⟩
/-- What StandsAt comes to, the program's and the reference's, and on a track with more pieces. -/
theorem stands_known (s : ByteArray) (hs : s.size ≤ maxLen) (ps : List Bp) (b : Bs) (hok : OkT s ps) (hb : OkS b) (hsb : sE b = 0) (p : Nat) (sq : Int) (hq : 0 ≤ sq ∧ sq ≤ 20000000000) (hk : p ≤ ps.length) : ∃ (lo hi er : Int),
    (∀ (A' : Option Addr) (c' : Nat) (W : World), Lies W W.heap.size A' (ps.flatMap pc) → Calls Try.prog 18 #[.agg #[.string s, .slice A' ps.length c'], .agg #[.int .i64 b.brk, .int .i64 b.drag, .int .i64 b.drv], .agg #[.int .i64 (p : Int), .int .i64 sq]] W fun e w' => e = .returned (.tuple #[.agg #[.int .i64 lo, .int .i64 hi], .int .i64 er]) ∧ Below W.heap.size W w') ∧
    ((er = 12 ∧ lo = 0 ∧ hi = 0 ∧ ∀ (A' : Option Addr) (c' : Nat) (W : World), Lies W W.heap.size A' (ps.flatMap pc) → Calls Try.prog 19 #[.agg #[.string s, .slice A' ps.length c'], .agg #[.int .i64 b.brk, .int .i64 b.drag, .int .i64 b.drv], .agg #[.int .i64 (p : Int), .int .i64 sq]] W fun e w' => e = .returned (.tuple #[.agg #[.int .i64 lo, .int .i64 hi], .bool false]) ∧ Below W.heap.size W w') ∨
     (er = 0 ∧ (∀ (A' : Option Addr) (c' : Nat) (W : World), Lies W W.heap.size A' (ps.flatMap pc) → Calls Try.prog 19 #[.agg #[.string s, .slice A' ps.length c'], .agg #[.int .i64 b.brk, .int .i64 b.drag, .int .i64 b.drv], .agg #[.int .i64 (p : Int), .int .i64 sq]] W fun e w' => e = .returned (.tuple #[.agg #[.int .i64 lo, .int .i64 hi], .bool true]) ∧ Below W.heap.size W w') ∧
      ∀ ps2 : List Bp, (∀ q ∈ ps2, okP q = true) → ps.length + ps2.length ≤ 12 → ∀ (A' : Option Addr) (c' : Nat) (W : World), Lies W W.heap.size A' ((ps ++ ps2).flatMap pc) → Calls Try.prog 18 #[.agg #[.string s, .slice A' (ps.length + ps2.length : Nat) c'], .agg #[.int .i64 b.brk, .int .i64 b.drag, .int .i64 b.drv], .agg #[.int .i64 (p : Int), .int .i64 sq]] W fun e w' => e = .returned (.tuple #[.agg #[.int .i64 lo, .int .i64 hi], .int .i64 0]) ∧ Below W.heap.size W w')) := by
  have hl : ps.length ≤ 1000 := by have := hok.n12; omega
  rcases st_find (stH ps b.brk p sq) (ps.length - p) with h | ⟨k, h1, h2, h3⟩
  · refine ⟨0, 0, 12, fun A' c' W hW => ?_, .inl ⟨rfl, rfl, rfl, fun A' c' W hW => ?_⟩⟩
    · obtain ⟨a', rfl⟩ := ps_some hW hok.n0
      exact StandsAt_none s hs ps a' c' hl b hok hb hsb p sq hq hk (fun j hj => h j (by omega)) W hW
    · obtain ⟨a', rfl⟩ := ps_some hW hok.n0
      exact refStandsAt_none s ps a' c' b hb hok.n0 hok.n12 hok.each p sq hq hk (fun j hj => h j (by omega)) W hW
  · have hpos := sqS_pos hok.each hq.1 k h3
    refine ⟨plcV ps (p + k) + (sqS ps b.brk p sq k).tdiv (2 * (b.brk + 10 * (gp ps (p + k)).grad)), plcV ps (p + k) + (sqS ps b.brk p sq k + 2 * (b.brk + 10 * (gp ps (p + k)).grad) - 1).tdiv (2 * (b.brk + 10 * (gp ps (p + k)).grad)), 0, fun A' c' W hW => ?_, .inr ⟨rfl, fun A' c' W hW => ?_, fun ps2 hp2 h12 A' c' W hW => ?_⟩⟩
    · obtain ⟨a', rfl⟩ := ps_some hW hok.n0
      exact StandsAt_ok s hs ps a' c' hl b hok hb hsb p sq hq k (by omega) h3 h2 hpos W hW
    · obtain ⟨a', rfl⟩ := ps_some hW hok.n0
      exact refStandsAt_hit s ps a' c' b hb hok.n0 hok.n12 hok.each p sq hq k (by omega) h3 h2 hpos W hW
    · have hok2 := okT_app hok hp2 h12
      obtain ⟨a', rfl⟩ := ps_some hW hok2.n0
      have := StandsAt_ok s hs (ps ++ ps2) a' c' (by have := hok2.n12; omega) b hok2 hb hsb p sq hq k (by rw [List.length_append]; omega) (fun j hj => (not_congr (stH_app ps2 (by omega))).2 (h3 j hj)) ((stH_app ps2 (by omega)).2 h2) (by rw [sqS_app ps2 _ _ _ k (by omega)]; exact hpos) W hW
      rw [List.length_append, sqS_app ps2 _ _ _ k (by omega), gp_app ps2 (by omega), plc_app ps2 _ (by omega)] at this
      exact this
theorem joined_gen (s : ByteArray) (hs : s.size ≤ maxLen) (ps : List Bp) (A : Option Addr) (c : Nat) (hl : ps.length ≤ 100) (s2 : ByteArray) (hs2 : s2.size ≤ maxLen) (ps2 : List Bp) (A2 : Option Addr) (c2 : Nat) (hl2 : ps2.length ≤ 100) (w : World) (hA : Lies w w.heap.size A (ps.flatMap pc)) (hA2 : Lies w w.heap.size A2 (ps2.flatMap pc)) :
    Calls Try.prog 20 #[.agg #[.string s, .slice A ps.length c], .agg #[.string s2, .slice A2 ps2.length c2]] w fun e w' => ∃ (sx : ByteArray) (Ax : Option Addr) (nx cx : Nat), e = .returned (.tuple #[.agg #[.string sx, .slice Ax nx cx], .int .i64 (joiE s ps s2 ps2)]) ∧ Below w.heap.size w w' := by
  unfold joiE
  by_cases h : nz [(trE s ps).2, (trE s2 ps2).2] = 0
  · rw [if_neg (by simpa using h)]
    obtain ⟨a, rfl⟩ := ps_some hA (trE_zero (nz_two h).1).n0
    obtain ⟨a2, rfl⟩ := ps_some hA2 (trE_zero (nz_two h).2).n0
    by_cases h12 : 12 < ps.length + ps2.length
    · rw [if_pos h12]
      exact (Joined_long s hs ps (some a) c hl s2 hs2 ps2 (some a2) c2 hl2 h h12 w hA hA2).mono fun _ _ h => ⟨_, _, _, _, h⟩
    · rw [if_neg h12]
      exact (Joined_ok s hs ps (some a) c hl s2 hs2 ps2 (some a2) c2 hl2 h (by omega) w hA hA2).mono fun _ _ h => by
        obtain ⟨g, h1, _, _, _, h2⟩ := h
        exact ⟨_, _, _, _, h1, h2⟩
  · rw [if_pos h]
    exact (Joined_bad s hs ps A c hl s2 hs2 ps2 A2 c2 hl2 _ rfl h w hA hA2).mono fun _ _ h => ⟨_, _, _, _, h⟩
theorem joiE_zero {s : ByteArray} {ps : List Bp} {s2 : ByteArray} {ps2 : List Bp} (h : joiE s ps s2 ps2 = 0) : nz [(trE s ps).2, (trE s2 ps2).2] = 0 ∧ ps.length + ps2.length ≤ 12 := by
  unfold joiE at h
  split at h
  · rename_i h1; exact absurd h h1
  · rename_i h1
    split at h
    · cases h
    · exact ⟨by simpa using h1, by omega⟩
end Go.Proofs.Ytbicmbnhlnmdfaa
