/-
  Surveyed and warmed joints in plain words; the walks of common and of the reference's Warmed and Surveyed.
-/
import Derived.Test.YtmnlgeglmkdecaaSame
namespace Go.Proofs.Ytmnlgeglmkdecaa
open Go.RowKit

def warmJ (by_ : Int) (j : Lj) : Lj := { j with lo := max (j.lo - by_) (-100), hi := min (j.hi + by_) 100 }
/-- The joints, the first so many of them warmed. -/
def warmS (by_ : Int) (js : List Lj) : Nat → List Lj
  | 0 => js
  | k + 1 => match js[k]? with
    | some j => (warmS by_ js k).set k (warmJ by_ j)
    | none => warmS by_ js k
theorem warmS_len (b : Int) (js : List Lj) : ∀ k, (warmS b js k).length = js.length
  | 0 => rfl
  | k + 1 => by
    have ih := warmS_len b js k
    unfold warmS
    split
    · rw [List.length_set]; exact ih
    · exact ih
theorem warmS_far (b : Int) (js : List Lj) : ∀ (k i : Nat), k ≤ i → (warmS b js k)[i]? = js[i]?
  | 0, i, _ => rfl
  | k + 1, i, h => by
    have ih := warmS_far b js k i (by omega)
    unfold warmS
    split
    · rw [List.getElem?_set_ne (by omega)]; exact ih
    · exact ih
theorem warmS_succ {b : Int} {js : List Lj} {k : Nat} {j : Lj} (hj : js[k]? = some j) : warmS b js (k + 1) = (warmS b js k).set k (warmJ b j) := by
  rw [warmS, hj]

theorem own_not {w : World} {B n size : Nat} {e t : TypeId} {g q c : Nat} {xs : List Value} {cs : Array Value} (ho : w.ownsRow B e size (.slice (some ⟨g, 0, none⟩) n c) n xs) (hb : Bk w q t cs) (hne : e ≠ t) : q ≠ g := by
  rintro rfl
  rcases ho.2 with ⟨h, _⟩ | ⟨g', cap, cur, h, _, hg, _⟩
  · cases h
  · simp only [Value.slice.injEq, Option.some.injEq, Addr.mk.injEq, and_true, true_and] at h
    obtain ⟨rfl, _⟩ := h
    unfold Bk at hb
    rw [hb] at hg
    injection hg with hg
    injection hg with _ h2 _
    exact hne h2.symm

section
variable {w W : World} {L : Ll} {js : List Lj} {G : Hds} {gp : Hd} {bs : List Int}
theorem IF.setG {g k : Nat} {j : Lj} (h : IF w W L js G gp bs) (hg : G.j.A = some ⟨g, 0, none⟩) (hgB : w.heap.size + 2 ≤ g) (hjs : js[k]? = some j) (lo hi : Int) :
    IF w ((W.setCell ⟨g, k * 4 + 2, none⟩ (.int .i64 lo)).setCell ⟨g, k * 4 + 3, none⟩ (.int .i64 hi)) L (js.set k { j with lo := lo, hi := hi }) G gp bs := by
  have ho := h.own.setJ hg (k := k) (j := j) hjs lo hi
  refine ⟨(h.box.far (by show w.heap.size ≠ g; omega) _).far (by show w.heap.size ≠ g; omega) _, (h.res.far (by show w.heap.size + 1 ≠ g; omega) _).far (by show w.heap.size + 1 ≠ g; omega) _, ho,
    (h.bl.setCell (by show w.heap.size ≤ g; omega) _).setCell (by show w.heap.size ≤ g; omega) _, (h.pa.below (Below.of_set (by show w.heap.size ≤ g; omega))).below (Below.of_set (by show w.heap.size ≤ g; omega)), ?_⟩
  rw [List.length_set]
  exact h.n
end

set_option maxHeartbeats 2000000 in
set_option maxRecDepth 100000 in
theorem common_any (a b c d : Int) (w : World) :
    Calls Try.prog 120 #[.agg #[.int .i64 a, .int .i64 b], .agg #[.int .i64 c, .int .i64 d]] w fun e w' => e = .returned (.tuple #[.agg #[.int .i64 (max a c), .int .i64 (min b d)], .bool (decide (max a c ≤ min b d))]) ∧ Below w.heap.size w w' := by
  have hb := Lib.hid ((((Below.refl w.heap.size w).alloc (Nat.le_refl _) (.cells #[.int .i64 a, .int .i64 b] 54)).alloc (by simp) (.cells #[.int .i64 c, .int .i64 d] 54)).alloc (by simp; omega) (.cells #[.int .i64 0, .int .i64 0] 54))
  have R0 := Lib.hid (Bk.new2 w (.cells #[.int .i64 a, .int .i64 b] 54) (.cells #[.int .i64 c, .int .i64 d] 54) 54 #[.int .i64 0, .int .i64 0])
  obtain ⟨lo, hlo⟩ : ∃ lo, max a c = lo := ⟨_, rfl⟩
  obtain ⟨hi, hhi⟩ : ∃ hi, min b d = hi := ⟨_, rfl⟩
  rw [hlo, hhi]
  have c1 : (a < c ∧ c = lo) ∨ (¬ a < c ∧ a = lo) := by omega
  have c2 : (b < d ∧ ¬ d < b ∧ b = hi) ∨ (d < b ∧ ¬ b < d ∧ d = hi) ∨ (¬ b < d ∧ ¬ d < b ∧ b = hi ∧ d = b) := by omega
  clear hlo hhi
  rcases c1 with ⟨h1, e1⟩ | ⟨h1, e1⟩
  · rcases c2 with ⟨h2, h3, e2⟩ | ⟨h2, h3, e2⟩ | ⟨h2, h3, e2, e3⟩
    · subst e1
      subst e2
      by_cases h4 : c ≤ b
      all_goals
        go_enter Try.func120, Try.ntmps120
        go_wp2_with fail
        (first | go_region | fail "region")
        all_goals
          go_wp2_with fail
          have R1 := ((Bk.new2 w (.cells #[.int .i64 a, .int .i64 b] 54) (.cells #[.int .i64 c, .int .i64 d] 54) 54 #[.int .i64 c, .int .i64 b]).alloc (.cells #[.int .i64 c, .int .i64 b] 54)).drew
          obtain ⟨r0, r1, _, _⟩ := R1.two
          refine bodyPost_ret (v := .tuple #[.agg #[.int .i64 c, .int .i64 b], .bool (decide (c ≤ b))]) (by simp [results, Try.results120, go_sem, r0, r1, h4]) rfl ⟨rfl, ?_⟩
          exact (((((Below.refl w.heap.size w).alloc (Nat.le_refl _) _).alloc (by simp) _).alloc (by simp; omega) _).alloc (by simp; omega) _).drew
    · subst e1
      subst e2
      by_cases h4 : c ≤ d
      all_goals
        go_enter Try.func120, Try.ntmps120
        go_wp2_with fail
        (first | go_region | fail "region")
        all_goals
          go_wp2_with fail
          have R1 := ((Bk.new2 w (.cells #[.int .i64 a, .int .i64 b] 54) (.cells #[.int .i64 c, .int .i64 d] 54) 54 #[.int .i64 c, .int .i64 d]).alloc (.cells #[.int .i64 c, .int .i64 d] 54)).drew
          obtain ⟨r0, r1, _, _⟩ := R1.two
          refine bodyPost_ret (v := .tuple #[.agg #[.int .i64 c, .int .i64 d], .bool (decide (c ≤ d))]) (by simp [results, Try.results120, go_sem, r0, r1, h4]) rfl ⟨rfl, ?_⟩
          exact (((((Below.refl w.heap.size w).alloc (Nat.le_refl _) _).alloc (by simp) _).alloc (by simp; omega) _).alloc (by simp; omega) _).drew
    · subst e1
      subst e2
      have E3 := Lib.hid e3
      clear e3
      by_cases h4 : c ≤ b
      all_goals
        go_enter Try.func120, Try.ntmps120
        go_wp2_with fail
        (first | go_region | fail "region")
        all_goals
          go_wp2_with fail
          have R1 := ((Bk.new2 w (.cells #[.int .i64 a, .int .i64 b] 54) (.cells #[.int .i64 c, .int .i64 d] 54) 54 #[.int .i64 c, .int .i64 b]).alloc (.cells #[.int .i64 c, .int .i64 b] 54)).drew
          obtain ⟨r0, r1, _, _⟩ := R1.two
          refine bodyPost_ret (v := .tuple #[.agg #[.int .i64 c, .int .i64 b], .bool (decide (c ≤ b))]) (by simp [results, Try.results120, go_sem, r0, r1, h4]) rfl ⟨rfl, ?_⟩
          exact (((((Below.refl w.heap.size w).alloc (Nat.le_refl _) _).alloc (by simp) _).alloc (by simp; omega) _).alloc (by simp; omega) _).drew
  · rcases c2 with ⟨h2, h3, e2⟩ | ⟨h2, h3, e2⟩ | ⟨h2, h3, e2, e3⟩
    · subst e1
      subst e2
      by_cases h4 : a ≤ b
      all_goals
        go_enter Try.func120, Try.ntmps120
        go_wp2_with fail
        (first | go_region | fail "region")
        all_goals
          go_wp2_with fail
          have R1 := ((Bk.new2 w (.cells #[.int .i64 a, .int .i64 b] 54) (.cells #[.int .i64 c, .int .i64 d] 54) 54 #[.int .i64 a, .int .i64 b]).alloc (.cells #[.int .i64 a, .int .i64 b] 54)).drew
          obtain ⟨r0, r1, _, _⟩ := R1.two
          refine bodyPost_ret (v := .tuple #[.agg #[.int .i64 a, .int .i64 b], .bool (decide (a ≤ b))]) (by simp [results, Try.results120, go_sem, r0, r1, h4]) rfl ⟨rfl, ?_⟩
          exact (((((Below.refl w.heap.size w).alloc (Nat.le_refl _) _).alloc (by simp) _).alloc (by simp; omega) _).alloc (by simp; omega) _).drew
    · subst e1
      subst e2
      by_cases h4 : a ≤ d
      all_goals
        go_enter Try.func120, Try.ntmps120
        go_wp2_with fail
        (first | go_region | fail "region")
        all_goals
          go_wp2_with fail
          have R1 := ((Bk.new2 w (.cells #[.int .i64 a, .int .i64 b] 54) (.cells #[.int .i64 c, .int .i64 d] 54) 54 #[.int .i64 a, .int .i64 d]).alloc (.cells #[.int .i64 a, .int .i64 d] 54)).drew
          obtain ⟨r0, r1, _, _⟩ := R1.two
          refine bodyPost_ret (v := .tuple #[.agg #[.int .i64 a, .int .i64 d], .bool (decide (a ≤ d))]) (by simp [results, Try.results120, go_sem, r0, r1, h4]) rfl ⟨rfl, ?_⟩
          exact (((((Below.refl w.heap.size w).alloc (Nat.le_refl _) _).alloc (by simp) _).alloc (by simp; omega) _).alloc (by simp; omega) _).drew
    · subst e1
      subst e2
      have E3 := Lib.hid e3
      clear e3
      by_cases h4 : a ≤ b
      all_goals
        go_enter Try.func120, Try.ntmps120
        go_wp2_with fail
        (first | go_region | fail "region")
        all_goals
          go_wp2_with fail
          have R1 := ((Bk.new2 w (.cells #[.int .i64 a, .int .i64 b] 54) (.cells #[.int .i64 c, .int .i64 d] 54) 54 #[.int .i64 a, .int .i64 b]).alloc (.cells #[.int .i64 a, .int .i64 b] 54)).drew
          obtain ⟨r0, r1, _, _⟩ := R1.two
          refine bodyPost_ret (v := .tuple #[.agg #[.int .i64 a, .int .i64 b], .bool (decide (a ≤ b))]) (by simp [results, Try.results120, go_sem, r0, r1, h4]) rfl ⟨rfl, ?_⟩
          exact (((((Below.refl w.heap.size w).alloc (Nat.le_refl _) _).alloc (by simp) _).alloc (by simp; omega) _).alloc (by simp; omega) _).drew

end Go.Proofs.Ytmnlgeglmkdecaa
