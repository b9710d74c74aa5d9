/-
  The walk of deviation.
-/
import Derived.Test.YtmnlgeglmkdecaaRide
import Derived.Test.YtmnlgeglmkdecaaLeaf3
import Derived.Test.YtmnlgeglmkdecaaOpen
namespace Go.Proofs.Ytmnlgeglmkdecaa
open Go.RowKit

theorem beam_unique {L : Ll} {p : Int} {k j : Nat} (h : AtBeam L p k) (h' : AtBeam L p j) : k = j := by
  rcases Nat.lt_trichotomy k j with h1 | h1 | h1
  · have := h.2.2 j h1 h'.1; have := h'.2.1; omega
  · exact h1
  · have := h'.2.2 k h1 h.1; have := h.2.1; omega

theorem beam_at {L : Ll} (hr : Right L) (H : Hds) (P : Addr) (pc : Nat) (p : Int) (p0 : 0 ≤ p) (p1 : p ≤ 2000000) (k : Nat) (hk : AtBeam L p k) (d : Int) (hd : p - placeL L.bs k = d) (w : World) (hP : Lies w w.heap.size (some P) (ic (placesL L))) :
    Calls Try.prog 87 #[(.agg #[.string L.name, .slice H.j.A L.js.length H.j.c, .slice H.b.A L.bs.length H.b.c, .slice H.s.A L.ss.length H.s.c, .slice (some P) L.js.length pc]), .int .i64 p] w fun e w' => e = .returned (.tuple #[.int .i64 k, .int .i64 d]) ∧ Below w.heap.size w w' := by
  refine (beamAt_any hr H P pc p p0 p1 w hP).mono ?_
  rintro e w' ⟨j, rfl, hj, hb⟩
  obtain rfl := beam_unique hk hj
  rw [hd]
  exact ⟨rfl, hb⟩

/-- A world, put away. -/
theorem wp_abs {P : Program} {Q : Exit → Act → World → Prop} {a : Act} {w : World} {c : Code} (h : ∀ w', w = w' → c.wp P Q a w') : c.wp P Q a w := h w rfl

/-- An array of forty-one numbers. -/
def arr (f : Nat → Int) : Array Value := ((List.range 41).map fun k => Value.int .i64 (f k)).toArray
theorem Bk.arr_at {w : World} {g : Nat} {t : TypeId} {f : Nat → Int} (h : Bk w g t (arr f)) {k : Nat} (hk : k < 41) : w.cell? ⟨g, k, none⟩ = some (.int .i64 (f k)) := by
  rw [h.cell k]; simp [arr, hk]
theorem Bk.arr_set {w : World} {g : Nat} {t : TypeId} {f : Nat → Int} (h : Bk w g t (arr f)) (k : Nat) (v : Int) : Bk (w.setCell ⟨g, k, none⟩ (.int .i64 v)) g t (arr fun i => if i = k then v else f i) := by
  have := h.set_ k (.int .i64 v)
  have e : (arr f).setIfInBounds k (.int .i64 v) = arr fun i => if i = k then v else f i := by
    apply Array.ext
    · simp [arr]
    · intro i h1 h2
      simp only [arr, List.getElem_toArray, List.getElem_map, List.getElem_range]
      by_cases hik : k = i
      · subst hik; simp
      · have : i ≠ k := fun e => hik e.symm
        simp [hik, this]
  rwa [e] at this
theorem arr_upd (f : Nat → Int) (k : Nat) (v : Int) : (arr f).setIfInBounds k (.int .i64 v) = arr fun i => if i = k then v else f i := by
  apply Array.ext
  · simp [arr]
  · intro i h1 h2
    simp only [arr, List.getElem_toArray, List.getElem_map, List.getElem_range]
    by_cases hik : k = i
    · subst hik; simp
    · have : i ≠ k := fun e => hik e.symm
      simp [hik, this]
theorem Bk.new_eq {w : World} {t : TypeId} {X Y : Array Value} (h : X = Y) : Bk (w.alloc (.cells X t)) w.heap.size t Y := h ▸ Bk.new w t X
theorem Lies.step {w w' : World} {A : Option Addr} {vs : List Value} (h : Lies w w.heap.size A vs) (hb : Below w.heap.size w w') : Lies w' w'.heap.size A vs := (h.below hb).more hb.size
theorem Bk.drew {w : World} {g : Nat} {t : TypeId} {cs : Array Value} (h : Bk w g t cs) : Bk w.drew g t cs := h
theorem arr_zero : arr (fun _ => 0) = #[.int .i64 0, .int .i64 0, .int .i64 0, .int .i64 0, .int .i64 0, .int .i64 0, .int .i64 0, .int .i64 0, .int .i64 0, .int .i64 0, .int .i64 0, .int .i64 0, .int .i64 0, .int .i64 0, .int .i64 0, .int .i64 0, .int .i64 0, .int .i64 0, .int .i64 0, .int .i64 0, .int .i64 0, .int .i64 0, .int .i64 0, .int .i64 0, .int .i64 0, .int .i64 0, .int .i64 0, .int .i64 0, .int .i64 0, .int .i64 0, .int .i64 0, .int .i64 0, .int .i64 0, .int .i64 0, .int .i64 0, .int .i64 0, .int .i64 0, .int .i64 0, .int .i64 0, .int .i64 0, .int .i64 0] := by rfl

/-- Take away at one place. -/
def less (f : Nat → Int) (k : Nat) (x : Int) : Nat → Int := fun i => if i = k then f k - x else f i
theorem Bk.arr_less {w : World} {g : Nat} {t : TypeId} {f : Nat → Int} (h : Bk w g t (arr f)) (k : Nat) (x : Int) : Bk (w.setCell ⟨g, k, none⟩ (.int .i64 (f k - x))) g t (arr (less f k x)) := h.arr_set k _

theorem less_in {f : Nat → Int} {a b c x : Int} (h : ∀ i, -a ≤ f i ∧ f i ≤ b) (hx : 0 ≤ x ∧ x ≤ c) (k : Nat) : ∀ i, -(a + c) ≤ less f k x i ∧ less f k x i ≤ b := fun i => by
  have := h i; have := h k; unfold less; split <;> omega

theorem mul_in {a b A B : Int} (h0 : 0 ≤ a) (h1 : a ≤ A) (h2 : 0 ≤ b) (h3 : b ≤ B) : 0 ≤ a * b ∧ a * b ≤ A * B :=
  ⟨Int.mul_nonneg h0 h2, Int.mul_le_mul h1 h3 h2 (by omega)⟩

theorem dev_sizes {l R Q d1 d2 al : Int} (hl : 1000 ≤ l ∧ l ≤ 30000) (hRl : 1000 ≤ R ∧ R ≤ 30000) (hQl : 1000 ≤ Q ∧ Q ≤ 30000) (hd1' : 0 ≤ d1 ∧ d1 ≤ R) (hd2' : 0 ≤ d2 ∧ d2 ≤ Q) (ha : 0 ≤ al ∧ al ≤ l) :
    (0 ≤ l * R ∧ l * R ≤ 900000000) ∧ (0 ≤ l * R * Q ∧ l * R * Q ≤ 27000000000000) ∧
    (0 ≤ (l - al) * (R - d1) ∧ (l - al) * (R - d1) ≤ 900000000) ∧ (0 ≤ (l - al) * (R - d1) * Q ∧ (l - al) * (R - d1) * Q ≤ 27000000000000) ∧
    (0 ≤ (l - al) * d1 ∧ (l - al) * d1 ≤ 900000000) ∧ (0 ≤ (l - al) * d1 * Q ∧ (l - al) * d1 * Q ≤ 27000000000000) ∧
    (0 ≤ al * (Q - d2) ∧ al * (Q - d2) ≤ 900000000) ∧ (0 ≤ al * (Q - d2) * R ∧ al * (Q - d2) * R ≤ 27000000000000) ∧
    (0 ≤ al * d2 ∧ al * d2 ≤ 900000000) ∧ (0 ≤ al * d2 * R ∧ al * d2 * R ≤ 27000000000000) := by
  have n1 : 0 ≤ l - al ∧ l - al ≤ 30000 := by omega
  have n2 : 0 ≤ R - d1 ∧ R - d1 ≤ 30000 := by omega
  have p2 : 0 ≤ Q - d2 ∧ Q - d2 ≤ 30000 := by omega
  have a0 : 0 ≤ al ∧ al ≤ 30000 := by omega
  have q1 : 0 ≤ d1 ∧ d1 ≤ 30000 := by omega
  have q2 : 0 ≤ d2 ∧ d2 ≤ 30000 := by omega
  have r1 : 0 ≤ R ∧ R ≤ 30000 := by omega
  have r2 : 0 ≤ Q ∧ Q ≤ 30000 := by omega
  have l1 : 0 ≤ l ∧ l ≤ 30000 := by omega
  have k (a b : Int) (ha : 0 ≤ a ∧ a ≤ 30000) (hb : 0 ≤ b ∧ b ≤ 30000) : 0 ≤ a * b ∧ a * b ≤ 900000000 := mul_in ha.1 ha.2 hb.1 hb.2
  have k2 (a b : Int) (ha : 0 ≤ a ∧ a ≤ 900000000) (hb : 0 ≤ b ∧ b ≤ 30000) : 0 ≤ a * b ∧ a * b ≤ 27000000000000 := mul_in ha.1 ha.2 hb.1 hb.2
  exact ⟨k _ _ l1 r1, k2 _ _ (k _ _ l1 r1) r2, k _ _ n1 n2, k2 _ _ (k _ _ n1 n2) r2, k _ _ n1 q1, k2 _ _ (k _ _ n1 q1) r2, k _ _ a0 p2, k2 _ _ (k _ _ a0 p2) r1, k _ _ a0 q2, k2 _ _ (k _ _ a0 q2) r1⟩

/-- A sum over the numbers from r on, below k. -/
def upTo (g : Nat → Int) (r k : Nat) : Int := ((List.range' r (k - r)).map g).sum
theorem upTo_self (g : Nat → Int) (r : Nat) : upTo g r r = 0 := by simp [upTo]
theorem upTo_succ (g : Nat → Int) {r k : Nat} (h : r ≤ k) : upTo g r (k + 1) = upTo g r k + g k := by
  unfold upTo
  have e : k + 1 - r = (k - r) + 1 := by omega
  have e2 : r + (k - r) = k := by omega
  rw [e, List.range'_concat]
  simp [e2]
theorem upTo_le {g h : Nat → Int} {c : Int} (hgh : ∀ i, -(c * h i) ≤ g i ∧ g i ≤ c * h i) {r k : Nat} (hk : r ≤ k) : -(c * upTo h r k) ≤ upTo g r k ∧ upTo g r k ≤ c * upTo h r k := by
  obtain ⟨d, rfl⟩ := Nat.exists_eq_add_of_le hk
  clear hk
  induction d with
  | zero => simp [upTo_self]
  | succ d ih =>
    rw [← Nat.add_assoc, upTo_succ _ (by omega), upTo_succ _ (by omega), Int.mul_add]
    have := hgh (r + d)
    omega
/-- The sizes, summed. -/
def sizes (f : Nat → Int) : Nat → Int := fun i => ((f i).natAbs : Int)
theorem sizes_less {f : Nat → Int} {k : Nat} {x : Int} (hx : 0 ≤ x) {r n : Nat} (h : r ≤ n) : upTo (sizes (less f k x)) r n ≤ upTo (sizes f) r n + (if k < n then x else 0) := by
  obtain ⟨d, rfl⟩ := Nat.exists_eq_add_of_le h
  clear h
  induction d with
  | zero => simp only [Nat.add_zero, upTo_self]; split <;> omega
  | succ d ih =>
    rw [← Nat.add_assoc, upTo_succ _ (by omega), upTo_succ _ (by omega)]
    have e : sizes (less f k x) (r + d) ≤ sizes f (r + d) + (if r + d = k then x else 0) := by
      unfold sizes less
      by_cases hk : r + d = k
      · subst hk; simp; omega
      · simp [hk]
    by_cases h1 : k < r + d
    · rw [if_neg (by omega)] at e; rw [if_pos h1] at ih; rw [if_pos (by omega)]; omega
    · by_cases h2 : r + d = k
      · rw [if_pos h2] at e; rw [if_neg h1] at ih; rw [if_pos (by omega)]; omega
      · rw [if_neg h2] at e; rw [if_neg h1] at ih; rw [if_neg (by omega)]; omega
theorem sizes_less' {f : Nat → Int} {k : Nat} {x c a : Int} {r n : Nat} (h : r ≤ n) (hf : upTo (sizes f) r n ≤ a) (hx : 0 ≤ x ∧ x ≤ c) : upTo (sizes (less f k x)) r n ≤ a + c := by
  have := sizes_less (f := f) (k := k) hx.1 h
  split at this <;> omega
theorem sizes_one {k : Nat} {x c : Int} (hx : 0 ≤ x ∧ x ≤ c) {r n : Nat} (h : r ≤ n) : upTo (sizes fun i => if i = k then x else 0) r n ≤ c := by
  have e : upTo (sizes fun i => if i = k then x else 0) r n ≤ if k < n then x else 0 := by
    obtain ⟨d, rfl⟩ := Nat.exists_eq_add_of_le h
    clear h
    induction d with
    | zero => simp only [Nat.add_zero, upTo_self]; split <;> omega
    | succ d ih =>
      rw [← Nat.add_assoc, upTo_succ _ (by omega)]
      have e : sizes (fun i => if i = k then x else 0) (r + d) = if r + d = k then x else 0 := by
        unfold sizes
        by_cases hk : r + d = k
        · simp only [if_pos hk]; omega
        · simp only [if_neg hk]; rfl
      rw [e]
      by_cases h1 : k < r + d
      · rw [if_pos h1] at ih; rw [if_neg (show ¬ r + d = k by omega), if_pos (show k < r + d + 1 by omega)]; omega
      · rw [if_neg h1] at ih
        by_cases h2 : r + d = k
        · rw [if_pos h2, if_pos (show k < r + d + 1 by omega)]; omega
        · rw [if_neg h2, if_neg (show ¬ k < r + d + 1 by omega)]; omega
  split at e <;> omega

/-- What a joint adds to the sum. -/
def addLo (L : Ll) (f : Nat → Int) (i : Nat) : Int := match L.js[i]? with | some j => f i * (j.x + if f i < 0 then j.hi else j.lo) | none => 0
def addHi (L : Ll) (f : Nat → Int) (i : Nat) : Int := match L.js[i]? with | some j => f i * (j.x + if f i < 0 then j.lo else j.hi) | none => 0

theorem mul_abs {a s : Int} {c : Nat} (hs : s.natAbs ≤ c) : -((c : Int) * a.natAbs) ≤ a * s ∧ a * s ≤ (c : Int) * a.natAbs := by
  have h : (a * s).natAbs ≤ c * a.natAbs := by rw [Int.natAbs_mul, Nat.mul_comm]; exact Nat.mul_le_mul_right _ hs
  have h2 : ((a * s).natAbs : Int) ≤ ((c * a.natAbs : Nat) : Int) := Int.ofNat_le.2 h
  rw [Int.natCast_mul] at h2
  omega
theorem joint_in {j : Lj} (h : jErr j = 0) : -20000 ≤ j.x ∧ j.x ≤ 20000 ∧ -100 ≤ j.lo ∧ j.lo ≤ 100 ∧ -100 ≤ j.hi ∧ j.hi ≤ 100 ∧ j.lo ≤ j.hi := by
  unfold jErr inB at h
  split at h
  · rename_i h1
    simp at h1
    split at h <;> omega
  · omega
theorem addLo_in {L : Ll} (hr : Right L) (f : Nat → Int) (i : Nat) : -(20100 * sizes f i) ≤ addLo L f i ∧ addLo L f i ≤ 20100 * sizes f i := by
  unfold addLo
  split
  · rename_i j hj
    have b := joint_in (hr.j j (List.mem_of_getElem? hj))
    exact mul_abs (c := 20100) (by split <;> omega)
  · unfold sizes; omega
theorem addHi_in {L : Ll} (hr : Right L) (f : Nat → Int) (i : Nat) : -(20100 * sizes f i) ≤ addHi L f i ∧ addHi L f i ≤ 20100 * sizes f i := by
  unfold addHi
  split
  · rename_i j hj
    have b := joint_in (hr.j j (List.mem_of_getElem? hj))
    exact mul_abs (c := 20100) (by split <;> omega)
  · unfold sizes; omega
theorem addLo_at {L : Ll} {f : Nat → Int} {i : Nat} {j : Lj} (hj : L.js[i]? = some j) : addLo L f i = f i * (j.x + if f i < 0 then j.hi else j.lo) := by unfold addLo; rw [hj]
theorem addHi_at {L : Ll} {f : Nat → Int} {i : Nat} {j : Lj} (hj : L.js[i]? = some j) : addHi L f i = f i * (j.x + if f i < 0 then j.lo else j.hi) := by unfold addHi; rw [hj]

set_option maxHeartbeats 400000 in
theorem ceiling_any (a b : Int) (ha : -9223372036854775807 ≤ a) (ha' : a ≤ 9223372036854775807) (hb : 1 ≤ b) (hb' : b ≤ 9223372036854775807) (w : World) :
    Calls Try.prog 138 #[.int .i64 a, .int .i64 b] w fun e w' => e = .returned (.int .i64 (-(-a / b))) ∧ w = w' := by
  have h1 : -9223372036854775807 ≤ -a / b ∧ -a / b ≤ 9223372036854775807 := by
    constructor
    · exact Int.le_trans (by omega) (Int.le_ediv_of_mul_le (c := b) (a := -9223372036854775807) (b := -a) (by omega) (by omega))
    · exact Int.ediv_le_of_le_mul (by omega) (by omega)
  have t1 := IntWalk.i64_in (-a) (by omega)
  have t2 := IntWalk.i64_in (-(-a / b)) (by omega)
  go_enter Try.func138, Try.ntmps138
  go_wp2_with (go_at_call 137; refine (floor_any (-a) b (by omega) (by omega) hb hb' _).mono ?_; rintro e w' ⟨rfl, rfl⟩)
  go_ret
  exact ⟨rfl, rfl⟩

/-- What each joint counts. -/
def partsF (l R Q d1 d2 al : Int) (j r q : Nat) : Nat → Int :=
  less (less (less (less (fun i => if i = j then l * R * Q else 0) r ((l - al) * (R - d1) * Q)) (r + 1) ((l - al) * d1 * Q)) q (al * (Q - d2) * R)) (q + 1) (al * d2 * R)

end Go.Proofs.Ytmnlgeglmkdecaa
