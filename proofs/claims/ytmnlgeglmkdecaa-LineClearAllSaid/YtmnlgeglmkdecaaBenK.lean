/-
  beneath once more: where a round may write one box (a) that lies ahead of the walk's own boxes.
-/
import Derived.Test.YtmnlgeglmkdecaaDevAt
namespace Go.Proofs.Ytmnlgeglmkdecaa
open Go.RowKit
attribute [local go_sem] Oper.semAt_some

/-- All below n lies as it lay, but for block a. -/
structure But (a n : Nat) (w w' : World) : Prop where
  os : w'.os = w.os
  tape : w'.tape = w.tape
  output : w'.output = w.output
  size : w.heap.size ≤ w'.heap.size
  block : ∀ k, k < n → k ≠ a → w'.heap[k]? = w.heap[k]?
theorem But.refl (a n : Nat) (w : World) : But a n w w := ⟨rfl, rfl, rfl, Nat.le_refl _, fun _ _ _ => rfl⟩
theorem But.trans {a n : Nat} {x y z : World} (h : But a n x y) (k : But a n y z) : But a n x z :=
  ⟨k.os.trans h.os, k.tape.trans h.tape, k.output.trans h.output, Nat.le_trans h.size k.size, fun i hi hn => (k.block i hi hn).trans (h.block i hi hn)⟩
theorem but_of {n : Nat} {w w' : World} (h : Below n w w') (a : Nat) : But a n w w' := ⟨h.os, h.tape, h.output, h.size, fun k hk _ => h.block k hk⟩
theorem But.drew {a n : Nat} {x w : World} (h : But a n x w) : But a n x w.drew := ⟨h.os, h.tape, h.output, h.size, h.block⟩
theorem But.low {a n m : Nat} {w w' : World} (h : But a n w w') (hm : m ≤ a) (hn : m ≤ n) : Below m w w' := ⟨h.os, h.tape, h.output, h.size, fun k hk => h.block k (by omega) (by omega)⟩
theorem But.step {a n : Nat} {x w w' : World} (h : But a n x w) (hb : Below w.heap.size w w') (hn : n ≤ w.heap.size) : But a n x w' := h.trans (but_of (hb.mono hn) a)
theorem But.setCell {a n : Nat} {x w : World} (h : But a n x w) {p : Addr} (hp : p.block = a ∨ n ≤ p.block) (u : Value) : But a n x (w.setCell p u) :=
  h.trans ⟨rfl, rfl, rfl, by simp [World.setCell], fun k hk hne => Below.heap_setCell _ _ _ _ (by omega)⟩
theorem But.alloc {a n : Nat} {x w : World} (h : But a n x w) (hn : n ≤ w.heap.size) (o : Obj) : But a n x (w.alloc o) := h.step ((Below.refl _ w).alloc (Nat.le_refl _) o) hn
theorem Bk.but {w w' : World} {g a n : Nat} {t : TypeId} {cs : Array Value} (h : Bk w g t cs) (hb : But a n w w') (hg : g < n) (hne : g ≠ a) : Bk w' g t cs := (hb.block g hg hne).trans h
theorem butK_t {a n : Nat} {A B C : World} (h : But a n A B) (k : But a n B C) : But a n A C := h.trans k
theorem butK_b {a n : Nat} {w : World} (hn : n ≤ w.heap.size) (W : World) (l : Nat) (o o' : Obj) (hl : w.heap.size ≤ l) (h : W.heap[l]? = some o) (h1 : o.isCells = false) (h2 : o.isWalk = false) : But a n W (W.putObj l o') :=
  but_of (belowK_b hn W l o o' hl h h1 h2) a
theorem ownFrom_but {β : Type} {a n B : Nat} {w₀ : World} (hn : n ≤ w₀.heap.size) (hB : n ≤ B) : OwnFrom B (fun (_ : β) W => But a n w₀ W) :=
  fun _ W W' row hs hg hr => hs.trans ⟨hg.os, hg.tape, hg.output, hg.size, fun k hk _ => hg.block k (by have := hs.size; omega) (fun e => by have := (hr k e.symm).1; omega)⟩

set_option maxRecDepth 100000 in
set_option maxHeartbeats 4000000 in
theorem beneath1_but (n : Nat) (hn : 3 ≤ n) {L : Ll} (hr : Right L) (H : Hds) (P : Addr) (pc : Nat) (v : Lv) (hv : vErr v = 0) (p : Int) (p0 : 0 ≤ p) (p1 : p ≤ 2000000) (N : Nat) (hN : N ≤ L.bs.length) (hrN : beamOf L p < N)
    (hN1 : ∀ k, beamOf L p < k → k < N → placeL L.bs k < p + v.len) (hN2 : p + v.len ≤ placeL L.bs N) (l Bc n₀ a m : Nat) (hma : m ≤ a) (haB : a < Bc) (J Jx : List (Ben (beamOf L p) N) → World → Prop)
    (hJ : ∀ s W W', J s W → Below W.heap.size W W' → J s W')
    (hY : ∀ pre (x : Ben (beamOf L p) N) W, J pre W → pre.length < N - (beamOf L p + 1) → YieldAt Fence.wide (n - 1) Try.prog l #[.int .i64 (x.1 : Int)] W fun e W' =>
      (e = .returned (.bool true) ∧ J (pre ++ [x]) W' ∧ But a n₀ W W') ∨ (e = .returned (.bool false) ∧ Jx (pre ++ [x]) W'))
    (W : World) (hB : Bc + 3 ≤ n₀) (hB2 : n₀ ≤ W.heap.size) (h1 : Bk W Bc 119 #[.string L.name, .slice H.j.A L.js.length H.j.c, .slice H.b.A L.bs.length H.b.c, .slice H.s.A L.ss.length H.s.c, .slice (some P) L.js.length pc]) (h2 : Bk W (Bc + 1) 77 #[.int .i64 v.len, .int .i64 v.clear, .int .i64 v.step]) (h3 : Bk W (Bc + 1 + 1) 3 #[.int .i64 p]) (hP : Lies W m (some P) (ic (placesL L))) (h0 : J [] W) :
    CallsIn Fence.wide n Try.prog 136 #[.func (.yield l) #[] #[], .pointer (some ⟨Bc, 0, none⟩), .pointer (some ⟨Bc + 1 + 1, 0, none⟩), .pointer (some ⟨Bc + 1, 0, none⟩)] W fun e W' => (∃ v, e = .returned v) ∧
      ((∃ ys, ys = jsB (beamOf L p) N N ∧ J ys W') ∨ (∃ pre, (∃ k, k ≤ N ∧ pre = jsB (beamOf L p) N k) ∧ Jx pre W')) := by
  have h40 := hr.most
  have hjb := hr.jb
  have vl := (vErr_in hv).1
  have hPb := Lib.hid (hP.more (show m ≤ W.heap.size by omega))
  have HP := Lib.hid hP
  have HR := Lib.hid hr
  have HY := Lib.hid hY
  have HJ := Lib.hid hJ
  have HN1 := Lib.hid hN1
  have H1 := Lib.hid h1
  have H2 := Lib.hid h2
  have H3 := Lib.hid h3
  have pt := beamOf_at hr p0
  have hjl : N < L.js.length := by omega
  have hlen : L.js.length ≤ 41 := by omega
  obtain ⟨c0, c1, c2, c3, c4⟩ := h1.five
  obtain ⟨q0, _⟩ := h3.one
  generalize beamOf L p = r at *
  have hd : 1 ≤ n - 1 := by omega
  have hn1 : 1 ≤ n := by omega
  clear hP hr hY hJ hN1 h1 h2 h3 hv hjb h40
  refine callsIn_of_wp Try.func136 rfl trivial ?_ rfl
  simp only [Try.ntmps136, List.size_toArray, List.length_cons, List.length_nil, Nat.reduceAdd, Nat.reduceSub, Array.replicate_succ, Array.replicate_zero, List.push_toArray, List.append_toArray, List.nil_append, List.cons_append]
  gi_wp2_with (refine ⟨trivial, ?_⟩; gi_at_call 87; refine (callsIn_wide.2 (beam_at HR.out H P pc p p0 p1 r pt _ rfl _ hPb.out)).mono ?_; rintro e W1 ⟨rfl, hb1⟩)
  have hbn := Lib.hid (but_of (hb1.mono hB2) a)
  have hj1 : J (jsB r N (r + 1)) W1 := by rw [jsB_start]; exact HJ.out _ _ _ h0 hb1
  clear c0 c1 c2 c3 c4 q0 h0 hb1
  gi_wp2
  gi_loopw [7] (fun i wr => ∃ k : Nat, r + 1 ≤ k ∧ k ≤ N ∧ i = .int .i64 k ∧ J (jsB r N k) wr ∧ But a n₀ W wr) (fun i _ => N - (intOf i).toNat)
  case atStart => exact ⟨r + 1, Nat.le_refl _, by omega, by go_num, hj1, hbn.out⟩
  case round =>
    obtain ⟨k, hk1, hk2, rfl, hJs, hnx⟩ := hrel
    have HX := Lib.hid hnx
    have HS := Lib.hid hJs
    obtain ⟨c0, c1, c2, c3, c4⟩ := (H1.out.but hnx (by omega) (by omega)).five
    obtain ⟨v0, v1, v2⟩ := (H2.out.but hnx (by omega) (by omega)).three
    obtain ⟨q0, _⟩ := (H3.out.but hnx (by omega) (by omega)).one
    have y0 := (HP.out.below (hnx.low hma (by omega))).place (k := k) (by omega)
    have hkl : k < L.js.length := by omega
    have t1 := IntWalk.i64_in (p + v.len) (by omega)
    clear hnx hj1 hJs
    by_cases hlt : k < N
    · have hkb : r < k ∧ k < N := ⟨by omega, hlt⟩
      obtain ⟨fn, tmps, assign, body, hy, hR⟩ := HY.out _ ⟨k, hkb⟩ wr.drew (HJ.out _ _ _ HS.out (Below.refl _ wr).drew) (by rw [jsB_len hk1 hk2]; omega)
      dsimp only at hy
      have g1 := HN1.out k (by omega) hlt
      gi_wp2
      gi_region
      all_goals
        gi_wp2
        refine hR.mono ?_
        rintro e W3 (⟨rfl, hJ3, hk3⟩ | ⟨rfl, hJx3⟩)
        · rw [jsB_succ hk1 hkb] at hJ3
          gi_wp2
          go_roundw
          case rel => exact ⟨k + 1, by omega, by omega, by go_num, hJ3, HX.out.drew.trans hk3⟩
          case measure => simp [intOf]; omega
        · rw [jsB_succ hk1 hkb] at hJx3
          gi_wp2
          refine bodyPost_ret (results_none rfl _ _ _) rfl ?_
          exact ⟨⟨_, rfl⟩, .inr ⟨_, ⟨k + 1, by omega, rfl⟩, hJx3⟩⟩
    · obtain rfl : k = N := by omega
      have g1 : ¬ placeL L.bs k < p + v.len := by omega
      gi_wp2
      gi_region
      all_goals
        gi_wp2
        go_end0
        exact ⟨⟨_, rfl⟩, .inl ⟨_, rfl, HJ.out _ _ _ HS.out (Below.refl _ wr).drew⟩⟩
end Go.Proofs.Ytmnlgeglmkdecaa
