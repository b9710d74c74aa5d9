
/-
  The greatest square at a post from which a stop is reached: plain facts; a curve that is none.
-/
import Derived.Test.YtmjooiocgeoaiaaBBt
import Derived.Test.YtmjooiocgeoaiaaBTwP
namespace Go.Proofs.Ytmjooiocgeoaiaa
open Go.RowKit

/-- Whether stop k is reached from post p with the square of its curve. -/
def rcvB (ps : List Bp) (b : Bs) (p k : Nat) : Bool := rchB ps b p (crvV ps b.brk k p) k
/-- The greatest such square of the stops below n; -1 if there is none. -/
def gtS (ps : List Bp) (b : Bs) (p : Nat) : Nat → Int
  | 0 => -1
  | k + 1 => if p ≤ k ∧ k < ps.length ∧ (gp ps k).lv = true ∧ rcvB ps b p k = true then max (gtS ps b p k) (crvV ps b.brk k p) else gtS ps b p k
theorem gtS_low {ps : List Bp} {b : Bs} {p : Nat} : ∀ {k : Nat}, k ≤ p → gtS ps b p k = -1
  | 0, _ => rfl
  | k + 1, h => by rw [gtS, if_neg (by omega)]; exact gtS_low (by omega)
theorem rcv_in {ps : List Bp} (hx : ∀ q ∈ ps, okP q = true) {b : Bs} {p k : Nat} (h : rcvB ps b p k = true) : 0 ≤ crvV ps b.brk k p ∧ crvV ps b.brk k p ≤ 20000000000 := by
  have h1 := crvV_bound hx b.brk k p
  have h2 := (runE_zero (of_decide_eq_true h)).1
  omega
theorem gtS_in {ps : List Bp} (hx : ∀ q ∈ ps, okP q = true) (b : Bs) (p : Nat) : ∀ k, gtS ps b p k = -1 ∨ (0 ≤ gtS ps b p k ∧ gtS ps b p k ≤ 20000000000)
  | 0 => .inl rfl
  | k + 1 => by
    have ih := gtS_in hx b p k
    rw [gtS]
    split
    · rename_i h
      have := rcv_in hx h.2.2.2
      right; omega
    · exact ih
/-- What GreatestAt answers. -/
def gtR (m : Int) : Array Value := if m = -1 then #[.int .i64 0, .int .i64 12] else #[.int .i64 m, .int .i64 0]
theorem gtR_none : gtR (-1) = #[.int .i64 0, .int .i64 12] := rfl
theorem gtR_some {m : Int} (h : ¬ m = -1) : gtR m = #[.int .i64 m, .int .i64 0] := by unfold gtR; rw [if_neg h]
/-- The same, out of the stops that were told. -/
def grL (b : Bs) {ps : List Bp} {p : Nat} (l : List (Sp ps p)) : Int := l.foldl (fun m x => if rcvB ps b p x.1 = true then max m (crvV ps b.brk x.1 p) else m) (-1)
theorem grL_snoc (b : Bs) {ps : List Bp} {p : Nat} (l : List (Sp ps p)) (x : Sp ps p) : grL b (l ++ [x]) = if rcvB ps b p x.1 = true then max (grL b l) (crvV ps b.brk x.1 p) else grL b l := by
  unfold grL
  rw [List.foldl_append]
  rfl
theorem grL_stL (b : Bs) (ps : List Bp) (p : Nat) : ∀ k, grL b (stL ps p k) = gtS ps b p k
  | 0 => rfl
  | k + 1 => by
    have ih := grL_stL b ps p k
    rw [gtS, stL]
    split
    · rename_i h
      rw [grL_snoc, ih]
      cases hr : rcvB ps b p k
      · rw [if_neg (by simp), if_neg (by simp)]
      · rw [if_pos rfl, if_pos ⟨h.1, h.2.1, h.2.2, rfl⟩]
    · rename_i h
      rw [if_neg (fun h2 => h ⟨h2.1, h2.2.1, h2.2.2.1⟩), ih]
theorem grL_in {ps : List Bp} (hx : ∀ q ∈ ps, okP q = true) (b : Bs) {p : Nat} (l : List (Sp ps p)) : -1 ≤ grL b l ∧ grL b l ≤ 20000000000 := by
  suffices ∀ (l : List (Sp ps p)) (m : Int), -1 ≤ m → m ≤ 20000000000 → -1 ≤ l.foldl (fun m x => if rcvB ps b p x.1 = true then max m (crvV ps b.brk x.1 p) else m) m ∧ l.foldl (fun m x => if rcvB ps b p x.1 = true then max m (crvV ps b.brk x.1 p) else m) m ≤ 20000000000 from this l _ (by omega) (by omega)
  intro l
  induction l with
  | nil => intro m h1 h2; exact ⟨h1, h2⟩
  | cons x l ih =>
    intro m h1 h2
    rw [List.foldl_cons]
    have := crvV_bound hx b.brk x.1 p
    split
    · exact ih _ (by omega) (by omega)
    · exact ih _ h1 h2
/-- A greater square at the beginning is no less all along. -/
theorem runV_mono {ps : List Bp} {b : Bs} {stop p : Nat} {x y : Int} (h : x ≤ y) : ∀ k, runV ps b stop p x k ≤ runV ps b stop p y k
  | 0 => h
  | k + 1 => by have := runV_mono (ps := ps) (b := b) (stop := stop) (p := p) h k; rw [runV, runV]; omega
/-- A stop that is reached is reached with the square of its curve, which is no less. -/
theorem rch_curve {ps : List Bp} {b : Bs} {p k : Nat} {sq : Int} (h : rchB ps b p sq k = true) : rcvB ps b p k = true ∧ sq ≤ crvV ps b.brk k p := by
  obtain ⟨h1, h2, h3⟩ := runE_zero (of_decide_eq_true h)
  refine ⟨decide_eq_true ?_, h2⟩
  exact runE_ok (fun h => by rcases h with h | h; exact h1 h; omega) (fun j hj => by have := h3 j hj; have := runV_mono (ps := ps) (b := b) (stop := k) (p := p) h2 j; omega)
theorem stV_gt {ps : List Bp} {b : Bs} {p : Nat} {sq : Int} : ∀ n, stV ps b p sq n ≠ [] → sq ≤ gtS ps b p n
  | 0, h => absurd rfl h
  | k + 1, h => by
    rw [stV] at h
    rw [gtS]
    split at h
    · rename_i h2
      obtain ⟨h3, h4⟩ := rch_curve h2.2.2.2
      rw [if_pos ⟨h2.1, h2.2.1, h2.2.2.1, h3⟩]
      omega
    · have := stV_gt k h
      split <;> omega
theorem gt_stV {ps : List Bp} {b : Bs} {p : Nat} : ∀ n, gtS ps b p n ≠ -1 → ∃ k, k < n ∧ p ≤ k ∧ k < ps.length ∧ (gp ps k).lv = true ∧ rcvB ps b p k = true ∧ gtS ps b p n = crvV ps b.brk k p
  | 0, h => absurd rfl h
  | k + 1, h => by
    rw [gtS] at h ⊢
    split at h
    · rename_i h2
      rw [if_pos h2]
      by_cases hm : gtS ps b p k ≤ crvV ps b.brk k p
      · exact ⟨k, by omega, h2.1, h2.2.1, h2.2.2.1, h2.2.2.2, by omega⟩
      · have h3 : gtS ps b p k ≠ -1 := by
          have := (runE_zero (of_decide_eq_true h2.2.2.2)).2.1
          intro e
          rw [e] at hm
          have h5 : max (gtS ps b p k) (crvV ps b.brk k p) = -1 := by omega
          exact h h5
        obtain ⟨j, j1, j2, j3, j4, j5, j6⟩ := gt_stV k h3
        exact ⟨j, by omega, j2, j3, j4, j5, by omega⟩
    · rename_i h2
      rw [if_neg h2]
      obtain ⟨j, j1, j2, j3, j4, j5, j6⟩ := gt_stV k h
      exact ⟨j, by omega, j2, j3, j4, j5, j6⟩
theorem stV_mem {ps : List Bp} {b : Bs} {p : Nat} {sq : Int} {k : Nat} (h : p ≤ k ∧ k < ps.length ∧ (gp ps k).lv = true ∧ rchB ps b p sq k = true) : ∀ n, k < n → stV ps b p sq n ≠ []
  | 0, hn => by omega
  | n + 1, hn => by
    rw [stV]
    split
    · simp
    · rename_i h2
      by_cases e : k = n
      · subst e; exact absurd h h2
      · exact stV_mem h n (by omega)
/-- With the greatest square a stop is reached. -/
theorem gt_reach {ps : List Bp} {b : Bs} {p : Nat} (h : gtS ps b p ps.length ≠ -1) : stV ps b p (gtS ps b p ps.length) ps.length ≠ [] := by
  obtain ⟨k, k1, k2, k3, k4, k5, k6⟩ := gt_stV _ h
  rw [k6]
  exact stV_mem ⟨k2, k3, k4, k5⟩ _ k1

set_option maxHeartbeats 8000000 in
set_option maxRecDepth 100000 in
theorem runTo_none (s : ByteArray) (ps : List Bp) (a : Addr) (c : Nat) (b : Bs) (hb : OkS b) (h0 : ps.length ≠ 0) (h12 : ps.length ≤ 12) (hx : ∀ p ∈ ps, okP p = true) (stop p : Nat) (hst : stop < ps.length) (hp : p ≤ stop) (sq : Int) (hz : crvV ps b.brk stop p = -1) (w : World) (hA : Lies w w.heap.size (some a) (ps.flatMap pc)) :
    Calls Try.prog 69 #[.agg #[.string s, .slice (some a) ps.length c, .int .i64 b.brk, .int .i64 b.drag, .int .i64 b.drv], .agg #[.int .i64 (p : Int), .int .i64 sq], .int .i64 stop] w fun e w' => e = .returned (.tuple #[.slice none 0 0, .int .i64 24]) ∧ Below w.heap.size w w' := by
  have F0 := Lib.hid (Fr.b2 w 77 #[.string s, .slice (some a) ps.length c, .int .i64 b.brk, .int .i64 b.drag, .int .i64 b.drv] 28 #[.int .i64 (p : Int), .int .i64 sq])
  have HA := Lib.hid hA
  have HX := Lib.hid hx
  have HB := Lib.hid hb
  have HZP := Lib.hid hz
  have hl : (ps.length : Int) ≤ 12 := by omega
  have hst' : (stop : Int) < (ps.length : Int) := by omega
  have hp' : (p : Int) < (stop : Int) + 2 := by omega
  clear hA hx hb hz
  go_enter Try.func69, Try.ntmps69
  go_wp2_with fail
  refine (curve_any s ps a c b HB.out h0 h12 HX.out stop hst _ (Fr.lies HA.out F0.out)).mono ?_
  rintro e w1 ⟨g1, rfl, n1, hg1, hb1⟩
  have F1 := Lib.hid ((F0.out.call hb1).more n1)
  have z1 := Lib.hid n1.lt
  clear hb1 F0 hg1 n1
  have y0 := F1.out.at1.cell 0
  have y1 := F1.out.at1.cell 1
  have n0 := F1.out.top.rowF_at (k := p) (by omega)
  rw [HZP.out] at n0
  go_upto_region 2 with fail
  go_cut [30] from 15 to 30 (fun r W => r = .bool true ∧ Fr w W [(g1, 3, rowF (stop + 2) (crvV ps b.brk stop)), (w.heap.size + 1, 28, #[.int .i64 (p : Int), .int .i64 sq]), (w.heap.size, 77, #[.string s, .slice (some a) ps.length c, .int .i64 b.brk, .int .i64 b.drag, .int .i64 b.drv])])
  case first =>
    go_quiet (fail)
    go_wp2_with fail
    go_meet
    exact ⟨rfl, F1.out.call (below_drewN (Below.refl _ _) _)⟩
  case rest =>
  obtain ⟨wu, rfl⟩ : ∃ W, W = wc := ⟨_, rfl⟩
  obtain ⟨rfl, hx5⟩ := hcut
  have FU := Lib.hid hx5
  clear hx5 F1
  go_wp2_with fail
  go_ret2
  exact ⟨rfl, FU.out.bl⟩

set_option maxHeartbeats 8000000 in
set_option maxRecDepth 100000 in
theorem reaches_none (s : ByteArray) (ps : List Bp) (a : Addr) (c : Nat) (b : Bs) (hb : OkS b) (h0 : ps.length ≠ 0) (h12 : ps.length ≤ 12) (hx : ∀ p ∈ ps, okP p = true) (stop p : Nat) (hst : stop < ps.length) (hp : p ≤ stop) (sq : Int) (hz : crvV ps b.brk stop p = -1) (w : World) (hA : Lies w w.heap.size (some a) (ps.flatMap pc)) :
    Calls Try.prog 42 #[.agg #[.string s, .slice (some a) ps.length c, .int .i64 b.brk, .int .i64 b.drag, .int .i64 b.drv], .agg #[.int .i64 (p : Int), .int .i64 sq], .int .i64 stop] w fun e w' => e = .returned (.bool false) ∧ Below w.heap.size w w' := by
  have F0 := Lib.hid (Fr.b2 w 77 #[.string s, .slice (some a) ps.length c, .int .i64 b.brk, .int .i64 b.drag, .int .i64 b.drv] 28 #[.int .i64 (p : Int), .int .i64 sq])
  have HA := Lib.hid hA
  have HX := Lib.hid hx
  have HZ := Lib.hid hz
  clear hA hx hz
  go_enter Try.func42, Try.ntmps42
  go_wp2_with fail
  refine (runTo_none s ps a c b hb h0 h12 HX.out stop p hst hp sq HZ.out _ (Fr.lies HA.out F0.out)).mono ?_
  rintro e w1 ⟨rfl, hb1⟩
  have F1 := Lib.hid (F0.out.call hb1)
  clear hb1 F0
  go_wp2_with fail
  go_ret
  exact ⟨rfl, F1.out.bl⟩
/-- Reaches at the square of the curve. -/
theorem reaches_crv (s : ByteArray) (ps : List Bp) (a : Addr) (c : Nat) (b : Bs) (hb : OkS b) (h0 : ps.length ≠ 0) (h12 : ps.length ≤ 12) (hx : ∀ p ∈ ps, okP p = true) (stop p : Nat) (hst : stop < ps.length) (hp : p ≤ stop) (w : World) (hA : Lies w w.heap.size (some a) (ps.flatMap pc)) :
    Calls Try.prog 42 #[.agg #[.string s, .slice (some a) ps.length c, .int .i64 b.brk, .int .i64 b.drag, .int .i64 b.drv], .agg #[.int .i64 (p : Int), .int .i64 (crvV ps b.brk stop p)], .int .i64 stop] w fun e w' => e = .returned (.bool (rcvB ps b p stop)) ∧ Below w.heap.size w w' := by
  have hbd := crvV_bound hx b.brk stop p
  by_cases hz : crvV ps b.brk stop p = -1
  · have h1 : rcvB ps b p stop = false := decide_eq_false (by rw [runE_break (.inl hz)]; decide)
    rw [h1]
    exact reaches_none s ps a c b hb h0 h12 hx stop p hst hp _ hz w hA
  · exact reaches_any s ps a c b hb h0 h12 hx stop p hst hp _ (by omega) w hA
end Go.Proofs.Ytmjooiocgeoaiaa
