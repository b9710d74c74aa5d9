/-
  The walk of beneath: the joints beneath a pose, one after the other.
-/
import Derived.Test.YtmnlgeglmkdecaaDevB
import Derived.RangeFuncNested
import Derived.RangeFuncBound
import Derived.RangeFuncCalls
import Derived.RangeFuncLeaves
import Derived.RangeFuncFrom
import Derived.Shelf.RegionOpen
import Derived.OwnWalkIn
import Derived.TacticsInMore
import Derived.LoopNIn
import Derived.LoopIn
namespace Go.Proofs.Ytmnlgeglmkdecaa
open Go.RowKit
attribute [local go_sem] Oper.semAt_some

theorem grown_of_below {W W' : World} (h : Below W.heap.size W W') : W.grownBy W' none := ⟨h.os, h.tape, h.output, h.size, fun k hk _ => h.block k hk⟩
theorem keeps_of_below {W W' : World} (h : Below W.heap.size W W') : KeepsOthers W W' := KeepsOthers.of_grownBy (grown_of_below h) (fun j o e => by cases e)

/-- The joints from r + 1 on, below k. -/
def jsTo (r k : Nat) : List Nat := List.range' (r + 1) (k - (r + 1))
theorem jsTo_start (r : Nat) : jsTo r (r + 1) = [] := by simp [jsTo]
theorem jsTo_len (r k : Nat) : (jsTo r k).length = k - (r + 1) := by simp [jsTo]
theorem jsTo_succ {r k : Nat} (h : r + 1 ≤ k) : jsTo r k ++ [k] = jsTo r (k + 1) := by
  unfold jsTo
  have e : k + 1 - (r + 1) = (k - (r + 1)) + 1 := by omega
  have e2 : r + 1 + (k - (r + 1)) = k := by omega
  rw [e, List.range'_concat]
  simp [e2]
theorem jsTo_mem {r k j : Nat} : j ∈ jsTo r k ↔ r < j ∧ j < k := by
  unfold jsTo; rw [List.mem_range'_1]; omega

/-- A joint behind r, below N; all of them below k. -/
abbrev Ben (r N : Nat) := { k : Nat // r < k ∧ k < N }
def jsB (r N k : Nat) : List (Ben r N) := (jsTo r k).filterMap fun x => if h : r < x ∧ x < N then some ⟨x, h⟩ else none
theorem jsB_start (r N : Nat) : jsB r N (r + 1) = [] := by simp [jsB, jsTo_start]
theorem jsB_succ {r N k : Nat} (h : r + 1 ≤ k) (hk : r < k ∧ k < N) : jsB r N k ++ [⟨k, hk⟩] = jsB r N (k + 1) := by
  unfold jsB
  rw [← jsTo_succ h, List.filterMap_append]
  simp [hk]
theorem jsB_len {r N k : Nat} (h : r + 1 ≤ k) (hk : k ≤ N) : (jsB r N k).length = k - (r + 1) := by
  obtain ⟨d, rfl⟩ := Nat.exists_eq_add_of_le h
  clear h
  induction d with
  | zero => simp [jsB_start]
  | succ d ih =>
    have := jsB_succ (r := r) (N := N) (k := r + 1 + d) (by omega) (by omega)
    rw [← Nat.add_assoc, ← this, List.length_append, ih (by omega)]
    simp; omega
theorem jsB_has {r N k j : Nat} (h : r < j) (hj : j < k) (hN : j < N) : (⟨j, h, hN⟩ : Ben r N) ∈ jsB r N k := by
  unfold jsB
  rw [List.mem_filterMap]
  exact ⟨j, jsTo_mem.2 ⟨h, hj⟩, by simp [h, hN]⟩

set_option maxHeartbeats 1000000 in
theorem beneath_any {L : Ll} (H : Hds) (P : Addr) (pc : Nat) (v : Lv) (p : Int) (w : World) :
    Calls Try.prog 112 #[(.agg #[.string L.name, .slice H.j.A L.js.length H.j.c, .slice H.b.A L.bs.length H.b.c, .slice H.s.A L.ss.length H.s.c, .slice (some P) L.js.length pc]), (.agg #[.int .i64 v.len, .int .i64 v.clear, .int .i64 v.step]), .int .i64 p] w fun e w' => e = .returned (.func (.func 136) #[] #[.pointer (some ⟨w.heap.size, 0, none⟩), .pointer (some ⟨w.heap.size + 1 + 1, 0, none⟩), .pointer (some ⟨w.heap.size + 1, 0, none⟩)]) ∧
      w' = ((w.alloc (.cells #[.string L.name, .slice H.j.A L.js.length H.j.c, .slice H.b.A L.bs.length H.b.c, .slice H.s.A L.ss.length H.s.c, .slice (some P) L.js.length pc] 119)).alloc (.cells #[.int .i64 v.len, .int .i64 v.clear, .int .i64 v.step] 77)).alloc (.cells #[.int .i64 p] 3) := by
  go_enter Try.func112, Try.ntmps112
  go_wp2_with fail
  go_ret
  exact ⟨rfl, rfl⟩

set_option maxRecDepth 100000 in
set_option maxHeartbeats 4000000 in
theorem beneath1_any (n : Nat) (hn : 3 ≤ n) {L : Ll} (hr : Right L) (H : Hds) (P : Addr) (pc : Nat) (v : Lv) (hv : vErr v = 0) (p : Int) (p0 : 0 ≤ p) (p1 : p ≤ 2000000) (N : Nat) (hN : N ≤ L.bs.length) (hrN : beamOf L p < N)
    (hN1 : ∀ k, beamOf L p < k → k < N → placeL L.bs k < p + v.len) (hN2 : p + v.len ≤ placeL L.bs N) (l Bc n₀ : Nat) (J Jx : List (Ben (beamOf L p) N) → World → Prop)
    (hJ : ∀ s W W', J s W → Below W.heap.size W W' → J s W')
    (hY : ∀ pre (x : Ben (beamOf L p) N) W, J pre W → pre.length < N - (beamOf L p + 1) → YieldAt Fence.wide (n - 1) Try.prog l #[.int .i64 (x.1 : Int)] W fun e W' =>
      (e = .returned (.bool true) ∧ J (pre ++ [x]) W' ∧ Below n₀ W W') ∨ (e = .returned (.bool false) ∧ Jx (pre ++ [x]) W'))
    (W : World) (hB : Bc + 3 ≤ n₀) (hB2 : n₀ ≤ W.heap.size) (h1 : Bk W Bc 119 #[.string L.name, .slice H.j.A L.js.length H.j.c, .slice H.b.A L.bs.length H.b.c, .slice H.s.A L.ss.length H.s.c, .slice (some P) L.js.length pc]) (h2 : Bk W (Bc + 1) 77 #[.int .i64 v.len, .int .i64 v.clear, .int .i64 v.step]) (h3 : Bk W (Bc + 1 + 1) 3 #[.int .i64 p]) (hP : Lies W n₀ (some P) (ic (placesL L))) (h0 : J [] W) :
    CallsIn Fence.wide n Try.prog 136 #[.func (.yield l) #[] #[], .pointer (some ⟨Bc, 0, none⟩), .pointer (some ⟨Bc + 1 + 1, 0, none⟩), .pointer (some ⟨Bc + 1, 0, none⟩)] W fun e W' => (∃ v, e = .returned v) ∧
      ((∃ ys, ys = jsB (beamOf L p) N N ∧ J ys W') ∨ (∃ pre, (∃ k, k ≤ N ∧ pre = jsB (beamOf L p) N k) ∧ Jx pre W')) := by
  have h40 := hr.most
  have hjb := hr.jb
  have vl := (vErr_in hv).1
  have hPb := Lib.hid (hP.more hB2)
  have HP := Lib.hid hP
  have HR := Lib.hid hr
  have HY := Lib.hid hY
  have HJ := Lib.hid hJ
  have HN1 := Lib.hid hN1
  have H1 := Lib.hid h1
  have H2 := Lib.hid h2
  have H3 := Lib.hid h3
  have pt := beamOf_at hr p0
  have hjl : N < L.js.length := by omega
  have hlen : L.js.length ≤ 41 := by omega
  obtain ⟨c0, c1, c2, c3, c4⟩ := h1.five
  obtain ⟨q0, _⟩ := h3.one
  generalize beamOf L p = r at *
  have hd : 1 ≤ n - 1 := by omega
  have hn1 : 1 ≤ n := by omega
  clear hP hr hY hJ hN1 h1 h2 h3 hv hjb h40
  refine callsIn_of_wp Try.func136 rfl trivial ?_ rfl
  simp only [Try.ntmps136, List.size_toArray, List.length_cons, List.length_nil, Nat.reduceAdd, Nat.reduceSub, Array.replicate_succ, Array.replicate_zero, List.push_toArray, List.append_toArray, List.nil_append, List.cons_append]
  gi_wp2_with (refine ⟨trivial, ?_⟩; gi_at_call 87; refine (callsIn_wide.2 (beam_at HR.out H P pc p p0 p1 r pt _ rfl _ hPb.out)).mono ?_; rintro e W1 ⟨rfl, hb1⟩)
  have hbn := Lib.hid (hb1.mono hB2)
  have hj1 : J (jsB r N (r + 1)) W1 := by rw [jsB_start]; exact HJ.out _ _ _ h0 hb1
  clear c0 c1 c2 c3 c4 q0 h0 hb1
  gi_wp2
  gi_loopw [7] (fun i wr => ∃ k : Nat, r + 1 ≤ k ∧ k ≤ N ∧ i = .int .i64 k ∧ J (jsB r N k) wr ∧ Below n₀ W wr) (fun i _ => N - (intOf i).toNat)
  case atStart => exact ⟨r + 1, Nat.le_refl _, by omega, by go_num, hj1, hbn.out⟩
  case round =>
    obtain ⟨k, hk1, hk2, rfl, hJs, hnx⟩ := hrel
    have HX := Lib.hid hnx
    have HS := Lib.hid hJs
    obtain ⟨c0, c1, c2, c3, c4⟩ := (H1.out.below hnx (by omega)).five
    obtain ⟨v0, v1, v2⟩ := (H2.out.below hnx (by omega)).three
    obtain ⟨q0, _⟩ := (H3.out.below hnx (by omega)).one
    have y0 := (HP.out.below hnx).place (k := k) (by omega)
    have hkl : k < L.js.length := by omega
    have t1 := IntWalk.i64_in (p + v.len) (by omega)
    clear hnx hj1 hJs
    by_cases hlt : k < N
    · have hkb : r < k ∧ k < N := ⟨by omega, hlt⟩
      obtain ⟨fn, tmps, assign, body, hy, hR⟩ := HY.out _ ⟨k, hkb⟩ wr.drew (HJ.out _ _ _ HS.out (Below.refl _ wr).drew) (by rw [jsB_len hk1 hk2]; omega)
      dsimp only at hy
      have g1 := HN1.out k (by omega) hlt
      gi_wp2
      gi_region
      all_goals
        gi_wp2
        refine hR.mono ?_
        rintro e W3 (⟨rfl, hJ3, hk3⟩ | ⟨rfl, hJx3⟩)
        · rw [jsB_succ hk1 hkb] at hJ3
          gi_wp2
          go_roundw
          case rel => exact ⟨k + 1, by omega, by omega, by go_num, hJ3, HX.out.drew.trans hk3⟩
          case measure => simp [intOf]; omega
        · rw [jsB_succ hk1 hkb] at hJx3
          gi_wp2
          refine bodyPost_ret (results_none rfl _ _ _) rfl ?_
          exact ⟨⟨_, rfl⟩, .inr ⟨_, ⟨k + 1, by omega, rfl⟩, hJx3⟩⟩
    · obtain rfl : k = N := by omega
      have g1 : ¬ placeL L.bs k < p + v.len := by omega
      gi_wp2
      gi_region
      all_goals
        gi_wp2
        go_end0
        exact ⟨⟨_, rfl⟩, .inl ⟨_, rfl, HJ.out _ _ _ HS.out (Below.refl _ wr).drew⟩⟩
end Go.Proofs.Ytmnlgeglmkdecaa
