/-
  Plain facts of poses: the joints beneath, in their order; what the first unclear pose is.
-/
import Derived.Test.YtmnlgeglmkdecaaRefClr
import Derived.Test.YtmnlgeglmkdecaaBenK
namespace Go.Proofs.Ytmnlgeglmkdecaa
open Go.RowKit

theorem benP_iff {L : Ll} (hr : Right L) {v : Lv} (hv : vErr v = 0) {p : Int} (p0 : 0 ≤ p) (hT : p + v.len ≤ placeL L.bs L.bs.length) {k : Nat} (hk : k < L.js.length) :
    benP L v p k = true ↔ beamOf L p < k ∧ k < frontOf L (p + v.len) := by
  have h := ben_mem hr hv p0 hT (k : Int)
  rw [Bool.eq_iff_iff, decide_eq_true_eq] at h
  unfold benL benB at h
  simp only [List.mem_map, List.mem_filter, List.mem_range, Bool.and_eq_true, decide_eq_true_eq] at h
  constructor
  · intro hb
    have := h.1 ⟨k, ⟨hk, hb⟩, rfl⟩
    omega
  · intro hb
    obtain ⟨i, ⟨_, hi⟩, e⟩ := h.2 ⟨by omega, by omega⟩
    have e2 : i = k := by have : (i : Int) = (k : Int) := e; omega
    rw [← e2]; exact hi
theorem jsTo_nil {r k : Nat} (h : k ≤ r + 1) : jsTo r k = [] := by
  unfold jsTo
  rw [show k - (r + 1) = 0 from by omega]; rfl
theorem benL_upto {L : Ll} (hr : Right L) {v : Lv} (hv : vErr v = 0) {p : Int} (p0 : 0 ≤ p) (hT : p + v.len ≤ placeL L.bs L.bs.length) :
    ∀ k, k ≤ L.js.length → benL L v p k = (jsTo (beamOf L p) (min k (frontOf L (p + v.len)))).map Int.ofNat
  | 0, _ => by simp [benL, jsTo]
  | k + 1, hk => by
    have hb := benP_iff hr hv p0 hT (k := k) (by omega)
    have ih := benL_upto hr hv p0 hT k (by omega)
    by_cases h : benP L v p k = true
    · obtain ⟨h1, h2⟩ := hb.1 h
      rw [benL_yes h, ih, show min (k + 1) (frontOf L (p + v.len)) = k + 1 from by omega, show min k (frontOf L (p + v.len)) = k from by omega, ← jsTo_succ (by omega), List.map_append]
      rfl
    · have hn : benP L v p k = false := by simpa using h
      rw [benL_no hn, ih]
      by_cases h1 : beamOf L p < k
      · have h2 : ¬ k < frontOf L (p + v.len) := fun h2 => h (hb.2 ⟨h1, h2⟩)
        rw [show min (k + 1) (frontOf L (p + v.len)) = min k (frontOf L (p + v.len)) from by omega]
      · rw [jsTo_nil (by omega), jsTo_nil (by omega)]
theorem benL_all {L : Ll} (hr : Right L) {v : Lv} (hv : vErr v = 0) {p : Int} (p0 : 0 ≤ p) (hT : p + v.len ≤ placeL L.bs L.bs.length) :
    benL L v p L.js.length = (jsTo (beamOf L p) (frontOf L (p + v.len))).map Int.ofNat := by
  obtain ⟨⟨l1, l2⟩, _⟩ := vErr_in hv
  have f1 := (frontOf_at hr (p := p) (n := v.len) p0 (by omega) hT).1
  have := hr.jb
  rw [benL_upto hr hv p0 hT _ (Nat.le_refl _), show min L.js.length (frontOf L (p + v.len)) = frontOf L (p + v.len) from by omega]
theorem jsB_map (r N : Nat) : ∀ k, k ≤ N → (jsB r N k).map (fun x => x.1) = jsTo r k := fun k hk => by
  unfold jsB
  rw [List.map_filterMap]
  have : ∀ l : List Nat, (∀ x ∈ l, r < x ∧ x < N) → l.filterMap (fun x => Option.map (fun y : Ben r N => y.1) (if h : r < x ∧ x < N then some ⟨x, h⟩ else none)) = l := by
    intro l
    induction l with
    | nil => intro _; rfl
    | cons x l ih =>
      intro h
      have hx := h x (by simp)
      rw [List.filterMap_cons, dif_pos hx]
      simp only [Option.map_some]
      rw [ih (fun y hy => h y (by simp [hy]))]
  exact this _ (fun x hx => by rw [jsTo_mem] at hx; omega)

/-- The deviations at joints, told by their numbers. -/
def devsN (L : Ll) (v : Lv) (p : Int) (l : List Nat) : List (Int × Int) := l.map fun k => (devLo L v p k, devHi L v p k)
theorem devsN_snoc (L : Ll) (v : Lv) (p : Int) (l : List Nat) (k : Nat) : devsN L v p (l ++ [k]) = devsN L v p l ++ [(devLo L v p k, devHi L v p k)] := by
  simp [devsN]
theorem devsL_N (L : Ll) (v : Lv) (p : Int) (l : List Nat) : devsL L v p (l.map Int.ofNat) = devsN L v p l := by
  unfold devsL devsN
  rw [List.map_map]
  rfl
theorem clrV_acc {c : Int} {l : List (Int × Int)} (h : ∀ r ∈ l, noB c r.1 r.2 = false) : clrV c l = accV c l := by
  unfold clrV accV
  rw [if_neg]
  intro h1
  obtain ⟨r, hr, h2⟩ := List.any_eq_true.1 h1
  rw [h r hr] at h2
  cases h2
theorem clrV_no {c : Int} {l : List (Int × Int)} {r : Int × Int} (h : r ∈ l) (h2 : noB c r.1 r.2 = true) : clrV c l = 0 := by
  unfold clrV
  rw [if_pos (List.any_eq_true.2 ⟨r, h, h2⟩)]

/-- The first of some joints at which a vehicle is not clear for sure, and the deviation there. -/
def unN (L : Ll) (v : Lv) (p : Int) (l : List Nat) : Option (Int × Int × Int) := l.findSome? fun k => if insB v.clear (devLo L v p k) (devHi L v p k) then none else some ((k : Int), devLo L v p k, devHi L v p k)
theorem unN_snoc (L : Ll) (v : Lv) (p : Int) (l : List Nat) (k : Nat) (h : unN L v p l = none) : unN L v p (l ++ [k]) = if insB v.clear (devLo L v p k) (devHi L v p k) then none else some ((k : Int), devLo L v p k, devHi L v p k) := by
  unfold unN at h ⊢
  rw [List.findSome?_append, h]
  simp [List.findSome?_cons]
  split <;> simp_all
theorem unN_take (L : Ll) (v : Lv) (p : Int) (l m : List Nat) {x : Int × Int × Int} (h : unN L v p l = some x) : unN L v p (l ++ m) = some x := by
  unfold unN at h ⊢
  rw [List.findSome?_append, h]
  rfl
/-- The joints beneath a pose. -/
def benN (L : Ll) (v : Lv) (p : Int) : List Nat := jsTo (beamOf L p) (frontOf L (p + v.len))
/-- The first of some poses, told by their numbers, at which a vehicle is not clear for sure. -/
def unP (L : Ll) (v : Lv) (l : List Nat) : Option (Int × Int × Int × Int) := l.findSome? fun (i : Nat) => (unN L v ((i : Int) * v.step) (benN L v ((i : Int) * v.step))).map fun x => ((i : Int) * v.step, x)
theorem unP_snoc {L : Ll} {v : Lv} {l : List Nat} {i : Nat} (h : unP L v l = none) : unP L v (l ++ [i]) = (unN L v ((i : Int) * v.step) (benN L v ((i : Int) * v.step))).map fun x => ((i : Int) * v.step, x) := by
  unfold unP at h ⊢
  rw [List.findSome?_append, h]
  simp [List.findSome?_cons]
  cases unN L v ((i : Int) * v.step) (benN L v ((i : Int) * v.step)) <;> rfl
theorem unP_take {L : Ll} {v : Lv} (l m : List Nat) {x : Int × Int × Int × Int} (h : unP L v l = some x) : unP L v (l ++ m) = some x := by
  unfold unP at h ⊢
  rw [List.findSome?_append, h]
  rfl
theorem range_split {k n : Nat} (h : k ≤ n) : ∃ m, List.range n = List.range k ++ m :=
  ⟨(List.range n).drop k, by
    have h1 := List.take_append_drop k (List.range n)
    rw [List.take_range, show min k n = k from by omega] at h1
    exact h1.symm⟩
theorem jsTo_split {r k n : Nat} (h : k ≤ n) : ∃ m, jsTo r n = jsTo r k ++ m := by
  by_cases hr : r + 1 ≤ k
  · obtain ⟨d, rfl⟩ := Nat.exists_eq_add_of_le h
    clear h
    induction d with
    | zero => exact ⟨[], by simp⟩
    | succ d ih =>
      obtain ⟨m, hm⟩ := ih
      exact ⟨m ++ [k + d], by rw [← Nat.add_assoc, ← jsTo_succ (by omega), hm, List.append_assoc]⟩
  · exact ⟨jsTo r n, by rw [jsTo_nil (k := k) (by omega)]; rfl⟩
/-- How many poses there are. -/
def nPose (L : Ll) (v : Lv) : Nat := if placeL L.bs L.bs.length < v.len then 0 else ((placeL L.bs L.bs.length - v.len) / v.step).toNat + 1
theorem nPose_iff {L : Ll} {v : Lv} (hv : vErr v = 0) (i : Nat) : i < nPose L v ↔ (i : Int) * v.step + v.len ≤ placeL L.bs L.bs.length := by
  obtain ⟨_, _, s1, _⟩ := vErr_in hv
  unfold nPose
  have s0 : 0 < v.step := by omega
  have hi : 0 ≤ (i : Int) * v.step := Int.mul_nonneg (by omega) (by omega)
  split
  · constructor
    · intro h; omega
    · intro h; omega
  · have h0 : 0 ≤ (placeL L.bs L.bs.length - v.len) / v.step := Int.ediv_nonneg (by omega) (by omega)
    have h1 := @Int.le_ediv_iff_mul_le (i : Int) (placeL L.bs L.bs.length - v.len) v.step s0
    constructor
    · intro h
      have := h1.1 (by omega)
      omega
    · intro h
      have := h1.2 (by omega)
      omega
/-- The first unclear pose of all. -/
def unL (L : Ll) (v : Lv) : Option (Int × Int × Int × Int) := unP L v (List.range (nPose L v))
/-- FirstUnclear's answer. -/
def unAns (L : Ll) (v : Lv) : Value := match unL L v with
  | some (q, j, lo, hi) => .tuple #[.agg #[.int .i64 q, .int .i64 j, .int .i64 lo, .int .i64 hi], .int .i64 0]
  | none => .tuple #[.agg #[.int .i64 0, .int .i64 0, .int .i64 0, .int .i64 0], .int .i64 12]
end Go.Proofs.Ytmnlgeglmkdecaa
