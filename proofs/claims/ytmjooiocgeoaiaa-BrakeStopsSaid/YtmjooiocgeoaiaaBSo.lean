
/-
  The stops of a track from a post on: plain facts, and the walks of the iterator.
-/
import Derived.Test.YtmjooiocgeoaiaaBRun
import Derived.Stop.RegionWithIn
namespace Go.Proofs.Ytmjooiocgeoaiaa
open Go.RowKit
attribute [local go_sem] Oper.semAt_some

/-- A stop from post p on. -/
abbrev Sp (ps : List Bp) (p : Nat) := { i : Nat // p ≤ i ∧ i < ps.length ∧ (gp ps i).lv = true }
/-- The stops below k, one after the other. -/
def stL (ps : List Bp) (p : Nat) : Nat → List (Sp ps p)
  | 0 => []
  | k + 1 => if h : p ≤ k ∧ k < ps.length ∧ (gp ps k).lv = true then stL ps p k ++ [⟨k, h⟩] else stL ps p k
theorem stL_low {ps : List Bp} {p : Nat} : ∀ {k : Nat}, k ≤ p → stL ps p k = []
  | 0, _ => rfl
  | k + 1, h => by rw [stL, dif_neg (by omega)]; exact stL_low (by omega)
theorem stL_yes {ps : List Bp} {p k : Nat} (h : p ≤ k ∧ k < ps.length ∧ (gp ps k).lv = true) : stL ps p (k + 1) = stL ps p k ++ [⟨k, h⟩] := by rw [stL, dif_pos h]
theorem stL_no {ps : List Bp} {p k : Nat} (h : (gp ps k).lv = false) : stL ps p (k + 1) = stL ps p k := by rw [stL, dif_neg (by rw [h]; simp)]
theorem stL_len (ps : List Bp) (p : Nat) : ∀ k, (stL ps p k).length ≤ k
  | 0 => Nat.le_refl _
  | k + 1 => by
    have := stL_len ps p k
    rw [stL]
    split
    · rw [List.length_append]; simp; exact this
    · omega
theorem stL_mem {ps : List Bp} {p : Nat} (x : Sp ps p) : ∀ k, x ∈ stL ps p k ↔ x.1 < k
  | 0 => by simp [stL]
  | k + 1 => by
    have ih := stL_mem x k
    rw [stL]
    split
    · rename_i h
      rw [List.mem_append, ih, List.mem_singleton]
      constructor
      · rintro (h | h)
        · omega
        · rw [h]; show k < k + 1; omega
      · intro h
        by_cases e : x.1 = k
        · exact .inr (Subtype.ext e)
        · exact .inl (by omega)
    · rename_i h
      rw [ih]
      constructor
      · intro h; omega
      · intro h2
        by_cases e : x.1 = k
        · exact absurd (e ▸ x.2) h
        · omega
/-- Whether a train at post p reaches stop k. -/
def rchB (ps : List Bp) (b : Bs) (p : Nat) (sq : Int) (k : Nat) : Bool := decide (runE ps b k p sq = 0)
/-- The stops below n that a train reaches. -/
def stV (ps : List Bp) (b : Bs) (p : Nat) (sq : Int) : Nat → List Int
  | 0 => []
  | k + 1 => if p ≤ k ∧ k < ps.length ∧ (gp ps k).lv = true ∧ rchB ps b p sq k = true then stV ps b p sq k ++ [(k : Int)] else stV ps b p sq k
theorem stV_low {ps : List Bp} {b : Bs} {p : Nat} {sq : Int} : ∀ {k : Nat}, k ≤ p → stV ps b p sq k = []
  | 0, _ => rfl
  | k + 1, h => by rw [stV, if_neg (by omega)]; exact stV_low (by omega)
theorem stV_len (ps : List Bp) (b : Bs) (p : Nat) (sq : Int) : ∀ k, (stV ps b p sq k).length ≤ k
  | 0 => Nat.le_refl _
  | k + 1 => by
    have := stV_len ps b p sq k
    rw [stV]
    split
    · rw [List.length_append]; simp; exact this
    · omega
/-- The same, out of the stops that were told. -/
def rcL (b : Bs) (sq : Int) {ps : List Bp} {p : Nat} (l : List (Sp ps p)) : List Int := (l.filter (fun x => rchB ps b p sq x.1)).map (fun x => (x.1 : Int))
theorem rcL_snoc (b : Bs) (sq : Int) {ps : List Bp} {p : Nat} (l : List (Sp ps p)) (x : Sp ps p) : rcL b sq (l ++ [x]) = if rchB ps b p sq x.1 = true then rcL b sq l ++ [(x.1 : Int)] else rcL b sq l := by
  unfold rcL
  rw [List.filter_append, List.map_append]
  cases h : rchB ps b p sq x.1 <;> simp [h]
theorem rcL_stL (b : Bs) (sq : Int) (ps : List Bp) (p : Nat) : ∀ k, rcL b sq (stL ps p k) = stV ps b p sq k
  | 0 => rfl
  | k + 1 => by
    have ih := rcL_stL b sq ps p k
    rw [stV, stL]
    split
    · rename_i h
      rw [rcL_snoc, ih]
      cases hr : rchB ps b p sq k
      · rw [if_neg (by simp), if_neg (by simp)]
      · rw [if_pos rfl, if_pos ⟨h.1, h.2.1, h.2.2, rfl⟩]
    · rename_i h
      rw [if_neg (fun h2 => h ⟨h2.1, h2.2.1, h2.2.2.1⟩), ih]
/-- Whether a train reaches a stop at all. -/
def safeB (ps : List Bp) (b : Bs) (p : Nat) (sq : Int) : Bool := decide (stV ps b p sq ps.length ≠ [])
theorem safe_yes {ps : List Bp} {b : Bs} {p : Nat} {sq : Int} {pre : List (Sp ps p)} {k : Nat} (hk : k ≤ ps.length) (hp : pre = stL ps p k) (h : ∃ x ∈ pre, rchB ps b p sq x.1 = true) : safeB ps b p sq = true := by
  obtain ⟨x, hx, hr⟩ := h
  unfold safeB
  rw [decide_eq_true_eq, ← rcL_stL]
  intro h0
  have hm : x ∈ stL ps p ps.length := (stL_mem x _).2 (by rw [hp] at hx; have := (stL_mem x _).1 hx; omega)
  have : (x.1 : Int) ∈ rcL b sq (stL ps p ps.length) := List.mem_map.2 ⟨x, List.mem_filter.2 ⟨hm, hr⟩, rfl⟩
  rw [h0] at this
  cases this
theorem safe_no {ps : List Bp} {b : Bs} {p : Nat} {sq : Int} (h : ∀ x ∈ stL ps p ps.length, rchB ps b p sq x.1 = false) : safeB ps b p sq = false := by
  unfold safeB
  rw [decide_eq_false_iff_not, Decidable.not_not, ← rcL_stL]
  unfold rcL
  rw [List.filter_eq_nil_iff.2 (fun x hx => by rw [h x hx]; simp)]
  rfl

set_option maxHeartbeats 400000 in
theorem stops_any (s : ByteArray) (A : Option Addr) (n c : Nat) (p : Int) (w : World) :
    Calls Try.prog 41 #[.agg #[.string s, .slice A n c], .int .i64 p] w fun e w' => e = .returned (.func (.func 76) #[] #[.pointer (some ⟨w.heap.size + 1, 0, none⟩), .pointer (some ⟨w.heap.size, 0, none⟩)]) ∧ w' = (w.alloc (.cells #[.string s, .slice A n c] 75)).alloc (.cells #[.int .i64 p] 3) := by
  go_enter Try.func41, Try.ntmps41
  go_wp2_with fail
  go_ret
  exact ⟨rfl, rfl⟩

set_option maxRecDepth 100000 in
set_option maxHeartbeats 4000000 in
theorem stops1_any (n : Nat) (hn : 3 ≤ n) (s : ByteArray) (ps : List Bp) (A : Option Addr) (c : Nat) (hl : ps.length ≤ 12) (p : Nat) (hp : p ≤ ps.length) (l Bc n₀ : Nat) (J Jx : List (Sp ps p) → World → Prop)
    (hJ : ∀ s W W', J s W → Below W.heap.size W W' → J s W')
    (hY : ∀ pre (x : Sp ps p) W, J pre W → pre.length < ps.length → YieldAt Fence.wide (n - 1) Try.prog l #[.int .i64 (x.1 : Int)] W fun e W' =>
      (e = .returned (.bool true) ∧ J (pre ++ [x]) W' ∧ Below n₀ W W') ∨ (e = .returned (.bool false) ∧ Jx (pre ++ [x]) W'))
    (W : World) (hB : Bc + 2 ≤ n₀) (hB2 : n₀ ≤ W.heap.size) (h1 : Bk W Bc 75 #[.string s, .slice A ps.length c]) (h2 : Bk W (Bc + 1) 3 #[.int .i64 p]) (hL : Lies W n₀ A (ps.flatMap pc)) (h0 : J [] W) :
    CallsIn Fence.wide n Try.prog 76 #[.func (.yield l) #[] #[], .pointer (some ⟨Bc + 1, 0, none⟩), .pointer (some ⟨Bc, 0, none⟩)] W fun e W' => (∃ v, e = .returned v) ∧
      ((∃ ys, ys = stL ps p ps.length ∧ J ys W') ∨ (∃ pre, (∃ k, k ≤ ps.length ∧ pre = stL ps p k) ∧ Jx pre W')) := by
  have HL := Lib.hid hL
  have HY := Lib.hid hY
  have HJ := Lib.hid hJ
  have H1 := Lib.hid h1
  obtain ⟨c0, _⟩ := h2.one
  have hd : 1 ≤ n - 1 := by omega
  have hn1 : 1 ≤ n := by omega
  have J0 := Lib.hid h0
  clear hL hY hJ h1 h0 h2
  refine callsIn_of_wp Try.func76 rfl trivial ?_ rfl
  simp only [Try.ntmps76, List.size_toArray, List.length_cons, List.length_nil, Nat.reduceAdd, Nat.reduceSub, Array.replicate_succ, Array.replicate_zero, List.push_toArray, List.append_toArray, List.nil_append, List.cons_append]
  gi_wp2
  clear c0
  gi_loopw [4] (fun i wr => ∃ k : Nat, p ≤ k ∧ k ≤ ps.length ∧ i = .int .i64 k ∧ J (stL ps p k) wr ∧ Below n₀ W wr) (fun i _ => ps.length - (intOf i).toNat)
  case atStart => exact ⟨p, Nat.le_refl _, hp, rfl, by rw [stL_low (Nat.le_refl _)]; exact J0.out, Below.refl _ _⟩
  case round =>
    obtain ⟨k, hpk, hk, rfl, hJs, hnx⟩ := hrel
    have HX := Lib.hid hnx
    have HS := Lib.hid hJs
    have hsz := hnx.size
    obtain ⟨t0, t1, _, _⟩ := (H1.out.below hnx (by omega)).two
    clear hnx hJs
    by_cases hlt : k < ps.length
    · obtain ⟨a, rfl, hab, c0, c1, c2, c3⟩ := (HL.out.below HX.out).piece (gp_at hlt)
      have hwk := IntWalk.i64_in ((k : Int) + 1) (by omega)
      cases hlv : (gp ps k).lv with
      | false =>
        have HST := Lib.hid (stL_no (p := p) hlv)
        rw [hlv] at c3
        clear hlv
        gi_wp2
        refine ⟨fun _ h => (by cases h), ?_⟩
        gi_wp2
        go_roundw
        case rel => exact ⟨k + 1, by omega, by omega, by go_num, by rw [HST.out]; exact HS.out, HX.out⟩
        case measure => simp [intOf]; omega
      | true =>
        have hx : p ≤ k ∧ k < ps.length ∧ (gp ps k).lv = true := ⟨hpk, hlt, hlv⟩
        have HST := Lib.hid (stL_yes hx)
        have hlen : Hid ((stL ps p k).length < ps.length) := Lib.hid (by have := stL_len ps p k; omega)
        obtain ⟨fn, tmps, assign, body, hy, hR⟩ := HY.out _ ⟨k, hx⟩ wr HS.out hlen.out
        dsimp only at hy
        rw [hlv] at c3
        have HR := Lib.hid hR
        clear hlv hR
        gi_wp2
        refine HR.out.mono ?_
        rintro e W3 (⟨rfl, hJ3, hk3⟩ | ⟨rfl, hJx3⟩)
        · have HJ3 := Lib.hid hJ3
          have HK3 := Lib.hid hk3
          clear hJ3 hk3
          gi_wp2
          go_roundw
          case rel => exact ⟨k + 1, by omega, by omega, by go_num, by rw [HST.out]; exact HJ3.out, HX.out.trans HK3.out⟩
          case measure => simp [intOf]; omega
        · have HJ3 := Lib.hid hJx3
          clear hJx3
          gi_wp2
          refine bodyPost_ret (results_none rfl _ _ _) rfl ?_
          exact ⟨⟨_, rfl⟩, .inr ⟨_, ⟨k + 1, by omega, rfl⟩, by rw [HST.out]; exact HJ3.out⟩⟩
    · obtain rfl : k = ps.length := by omega
      gi_wp2
      go_end0
      exact ⟨⟨_, rfl⟩, .inl ⟨_, rfl, HS.out⟩⟩
end Go.Proofs.Ytmjooiocgeoaiaa
