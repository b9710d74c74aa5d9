
/-
  The walks of wanted: the iterator over wants, each with its error.
-/
import Derived.Test.YtohldmmfnjfgmaaDoorTNear
import Derived.Stop.RegionWithIn
namespace Go.Proofs.YtohldmmfnjfgmaaDoor
open Go.RowKit
attribute [local go_sem] Oper.semAt_some

set_option maxHeartbeats 400000 in
theorem checkScale_any (M : Int) (w : World) : Calls Tryd.prog 67 #[.int .i64 M] w fun e w' => e = .returned (.int .i64 (if inB M 1 100000 = true then 0 else 2)) ∧ w = w' := by
  cases h : inB M 1 100000
  all_goals
    have H := Lib.hid h
    clear h
    go_enter Tryd.func67, Tryd.ntmps67
    go_wp2_with (go_at_call 60; refine (within_any _ _ _ _).mono ?_; rintro e w' ⟨rfl, rfl⟩; rw [H.out])
    go_ret
    exact ⟨rfl, rfl⟩

set_option maxHeartbeats 400000 in
theorem wanted_any (A : Option Addr) (n c : Nat) (w : World) :
    Calls Tryd.prog 68 #[.slice A n c] w fun e w' => e = .returned (.func (.func 86) #[] #[.pointer (some ⟨w.heap.size, 0, none⟩)]) ∧ w' = w.alloc (.cells #[.slice A n c] 43) := by
  go_enter Tryd.func68, Tryd.ntmps68
  go_wp2_with fail
  go_ret
  exact ⟨rfl, rfl⟩

set_option maxRecDepth 100000 in
set_option maxHeartbeats 4000000 in
theorem wanted1_any (n : Nat) (hn : 3 ≤ n) (xs : List T3) (A : Option Addr) (c : Nat) (hl : xs.length ≤ 60) (l Bc n₀ : Nat) (J Jx : List T3 → World → Prop)
    (hJ : ∀ s W W', J s W → Below W.heap.size W W' → J s W')
    (hY : ∀ pre (x : T3) W, J pre W → pre.length < xs.length → YieldAt Fence.wide (n - 1) Tryd.prog l #[(.agg #[.int .i64 x.a, .int .i64 x.b]), .int .i64 (vE x)] W fun e W' =>
      (e = .returned (.bool true) ∧ J (pre ++ [x]) W' ∧ Below n₀ W W') ∨ (e = .returned (.bool false) ∧ Jx (pre ++ [x]) W'))
    (W : World) (hB2 : n₀ ≤ W.heap.size) (h1 : Bk W Bc 43 #[.slice A xs.length c]) (hL : Lies W n₀ A (xs.flatMap tc)) (h0 : J [] W) :
    CallsIn Fence.wide n Tryd.prog 86 #[.func (.yield l) #[] #[], .pointer (some ⟨Bc, 0, none⟩)] W fun e W' => (∃ v, e = .returned v) ∧
      ((∃ ys, ys = xs ∧ J ys W') ∨ (∃ pre, (∃ k, k ≤ xs.length ∧ pre = xs.take k) ∧ Jx pre W')) := by
  have HL := Lib.hid hL
  have HY := Lib.hid hY
  have HJ := Lib.hid hJ
  obtain ⟨c0, _⟩ := h1.one
  have hd : 1 ≤ n - 1 := by omega
  have hn1 : 1 ≤ n := by omega
  have J0 := Lib.hid h0
  clear hL hY hJ h1 h0
  refine callsIn_of_wp Tryd.func86 rfl trivial ?_ rfl
  simp only [Tryd.ntmps86, List.size_toArray, List.length_cons, List.length_nil, Nat.reduceAdd, Nat.reduceSub, Array.replicate_succ, Array.replicate_zero, List.push_toArray, List.append_toArray, List.nil_append, List.cons_append]
  gi_wp2
  clear c0
  gi_loopw [7] (fun i wr => ∃ k : Nat, k ≤ xs.length ∧ i = .int .i64 k ∧ J (xs.take k) wr ∧ Below n₀ W wr) (fun i _ => xs.length - (intOf i).toNat)
  case atStart => exact ⟨0, Nat.zero_le _, rfl, J0.out, Below.refl _ _⟩
  case round =>
    obtain ⟨k, hk, rfl, hJs, hnx⟩ := hrel
    have HX := Lib.hid hnx
    have HS := Lib.hid hJs
    have hsz := hnx.size
    clear hnx hJs
    by_cases hlt : k < xs.length
    · obtain ⟨a, rfl, hab, ca, cb⟩ := (HL.out.below HX.out).third (List.getElem?_eq_getElem hlt)
      have hab' : (a.add (k * 2)).block < n₀ := by rw [add_blk]; exact hab
      have htk : Hid (xs.take (k + 1) = xs.take k ++ [xs[k]]) := Lib.hid (List.take_succ_eq_append_getElem hlt)
      have hlen : Hid ((xs.take k).length < xs.length) := Lib.hid (by rw [List.length_take]; omega)
      gi_wp2
      gi_region_with (first | (refine ⟨trivial, ?_⟩; gi_at_call 75; refine (callsIn_wide.2 (checkVector_any xs[k] _)).mono ?_; rintro e w1 ⟨rfl, hb1⟩; have B1 : Below wr.heap.size wr w1 := Below.trans (((Below.refl _ wr).alloc (Nat.le_refl _) (.cells #[.int .i64 xs[k].a, .int .i64 xs[k].b] 24)).drew) (hb1.mono (by simp)); have N1 : Bk w1 wr.heap.size 24 #[.int .i64 xs[k].a, .int .i64 xs[k].b] := Bk.call (Bk.drew (Bk.new wr 24 #[.int .i64 xs[k].a, .int .i64 xs[k].b])) hb1; obtain ⟨n0, n1, _, _⟩ := N1.two; have B2 := Lib.hid B1; obtain ⟨fn, tmps, assign, body, hy, hR⟩ := HY.out _ xs[k] w1 (HJ.out _ _ _ HS.out B1) hlen.out; (try dsimp only at hy); have HR := Lib.hid hR; clear hR B1 N1 hb1) | (refine HR.out.mono ?_; intro e w3 hp; obtain ⟨b, rfl, hq⟩ : ∃ b : Bool, e = .returned (.bool b) ∧ ((b = true ∧ J (xs.take k ++ [xs[k]]) w3 ∧ Below n₀ w1 w3) ∨ (b = false ∧ Jx (xs.take k ++ [xs[k]]) w3)) := (by rcases hp with ⟨h1, h2, h3⟩ | ⟨h1, h2⟩; exact ⟨true, h1, .inl ⟨rfl, h2, h3⟩⟩; exact ⟨false, h1, .inr ⟨rfl, h2⟩⟩); have HQ := Lib.hid hq; clear hp hq))
      all_goals
        cases b with
        | true =>
          have hq := HQ.out
          simp only [true_and, Bool.true_eq_false, false_and, or_false, reduceCtorEq] at hq
          have HQ' := Lib.hid hq
          clear hq
          gi_wp2
          go_roundw
          case rel => exact ⟨k + 1, by omega, by go_num, by rw [htk.out]; exact HQ'.out.1, HX.out.trans ((B2.out.mono (by omega)).trans HQ'.out.2)⟩
          case measure => simp [intOf]; omega
        | false =>
          have hq := HQ.out
          simp only [true_and, Bool.false_eq_true, false_and, false_or, reduceCtorEq] at hq
          have HQ' := Lib.hid hq
          clear hq
          gi_wp2
          refine bodyPost_ret (results_none rfl _ _ _) rfl ?_
          exact ⟨⟨_, rfl⟩, .inr ⟨xs.take (k + 1), ⟨k + 1, by omega, rfl⟩, by rw [htk.out]; exact HQ'.out⟩⟩
    · obtain rfl : k = xs.length := by omega
      gi_wp2
      go_end0
      exact ⟨⟨_, rfl⟩, .inl ⟨_, rfl, by have := HS.out; rwa [List.take_length] at this⟩⟩
end Go.Proofs.YtohldmmfnjfgmaaDoor
