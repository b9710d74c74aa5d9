
/-
  The walks of Even, of CurrentsErr and of the copies of lists.
-/
import Derived.Test.YtjpfchhmljkkhaaDoorTAwk
import Derived.Test.YtjpfchhmljkkhaaDoorTRefF
import Derived.Test.YtjpfchhmljkkhaaDoorOwn
import Derived.Laws.AppendOwnNone
namespace Go.Proofs.YtjpfchhmljkkhaaDoor
open Go.RowKit

theorem tc_one (l : List T3) : ∀ u ∈ l.flatMap tc, u.oneCell' = true := by
  intro u hu
  obtain ⟨x, _, hx⟩ := List.mem_flatMap.1 hu
  simp [tc] at hx
  rcases hx with rfl | rfl <;> rfl
/-- What lay ahead of the call lies there yet. -/
theorem Fr.lies {w W : World} {bs : List (Nat × TypeId × Array Value)} {A : Option Addr} {vs : List Value} (h : Lies w w.heap.size A vs) (hf : Fr w W bs) : Lies W W.heap.size A vs := (h.below hf.bl).more hf.size
theorem Fr.lies_alloc {w W : World} {bs : List (Nat × TypeId × Array Value)} {A : Option Addr} {vs : List Value} (h : Lies w w.heap.size A vs) (hf : Fr w W bs) (o : Obj) : Lies (W.alloc o) (W.alloc o).heap.size A vs := Fr.lies h (hf.new o)

theorem addr_zero (a : Addr) : a.add 0 = a := by first | exact Addr.add_zero a | rfl | (unfold Addr.add; split <;> simp_all)
/-- A copy of vectors. -/
def CopiedV (w : World) (l : List T3) (e : Ending) (w' : World) : Prop := ∃ g : Hd, e = .returned (.slice g.A l.length g.c) ∧ Lies w' w'.heap.size g.A (l.flatMap tc) ∧ HdOk g ∧ (∀ a, g.A = some a → w.heap.size ≤ a.block) ∧ Below w.heap.size w w'
set_option maxHeartbeats 800000 in
theorem CopyVectors_any (l : List T3) (h : Hd) (hl : l.length ≤ 1000) (hk : HdOk h) (w : World) (hA : Lies w w.heap.size h.A (l.flatMap tc)) :
    Calls Tryd.prog 16 #[.slice h.A l.length h.c] w (CopiedV w l) := by
  obtain ⟨A, c⟩ := h
  obtain ⟨i0, hi, hz0, hz1, hz2⟩ := info_parts info_third
  have b0 := (Below.refl w.heap.size w).alloc (Nat.le_refl _) (.cells #[] 25)
  have ho := World.ownsRow_made (base := w.heap.size) (e := 25) (size := 2) w #[] 0 (Nat.le_refl _) (by unfold maxLen; omega) rfl
  have HO := Lib.hid ho
  have HB := Lib.hid b0
  have HA := Lib.hid (hA.below b0)
  clear ho b0 hA
  cases A with
  | none =>
    obtain rfl : c = 0 := hk rfl
    have hl0 : l = [] := by
      cases l with
      | nil => rfl
      | cons x l => obtain ⟨a, h, _⟩ := HA.out 0 (.int .i64 x.a) rfl; cases h
    subst hl0
    go_enter Tryd.func16, Tryd.ntmps16
    go_wp2_with (at_builtin; refine wpList_append_own_none rfl _ _ 22 rfl w.heap.size 25 i0 2 Tryd.underlying22 hi _ 0 [] rfl HO.out rfl ?_)
    go_ret
    obtain ⟨g, hg, hL1, hk1, _⟩ := own_slice HO.out
    simp only [Value.slice.injEq] at hg
    exact ⟨⟨_, _⟩, rfl, Lies.nil, (fun h => by cases h), (fun a h => by cases h; exact Nat.le_refl _), HB.out⟩
  | some a =>
    have k1 : Hid ((l.flatMap tc).length = l.length * 2) := Lib.hid (flat_len tc 2 (fun _ => rfl) l)
    have k2 : Hid (∀ j u, (l.flatMap tc)[j]? = some u → (w.alloc (.cells #[] 25)).cell? (a.add j) = some u) := Lib.hid (fun j u hu => by obtain ⟨a', e, _, h⟩ := HA.out j u hu; cases e; exact h)
    go_enter Tryd.func16, Tryd.ntmps16
    go_wp2_with (at_builtin; refine wpList_append_own _ rfl _ _ 22 rfl w.heap.size 25 i0 (.agg #[.int .i64 0, .int .i64 0]) 2 16 Tryd.underlying22 hi hz0 hz1 hz2 rfl (by decide) _ 0 [] rfl HO.out a l.length c (l.flatMap tc) rfl k1.out k2.out (tc_one l) (by unfold maxLen; omega) (by omega) (by simp) ?_; intro v' w1 ho1 hg1 _; obtain ⟨g, rfl, hL1, hk1, hg2⟩ := own_slice ho1)
    go_ret
    have hg3 : (w.alloc (.cells #[] 25)).grownBy w1 (some w.heap.size) := hg1
    rw [Nat.zero_add, List.nil_append] at ho1
    rw [List.nil_append] at hL1
    exact ⟨g, rfl, hL1, hk1, hg2, HB.out.grown hg3 HB.out.size (fun k e => by cases e; exact Nat.le_refl _)⟩

/-- The error of currents. -/
def curE (l : List T3) : Int := if l.length = 0 then 10 else if 12 < l.length then 8 else vsE l
theorem cur_cases (l : List T3) : (curE l = 0 ∧ l.length ≠ 0 ∧ l.length ≤ 12 ∧ ∀ x ∈ l, okT x = true) ∨ curE l ≠ 0 := by
  unfold curE
  split
  · exact .inr (by decide)
  · split
    · exact .inr (by decide)
    · by_cases h : vsE l = 0
      · exact .inl ⟨h, by assumption, by omega, vsE_iff.1 h⟩
      · exact .inr h
/-- Do all currents have the force of the first one? -/
def evB (l : List T3) (f : T3) : Bool := l.all fun y => decide (forceV y f = forceV (l.headD T3.zero) f)
theorem evB_yes {l : List T3} {f x0 : T3} (h0 : l[0]? = some x0) (h : ∀ x ∈ l, forceV x f = forceV x0 f) : evB l f = true := by
  unfold evB
  cases l with
  | nil => simp at h0
  | cons y l =>
    simp only [List.getElem?_cons_zero, Option.some.injEq] at h0
    subst h0
    rw [List.all_eq_true]
    intro x hx
    simpa using h x hx
theorem evB_no {l : List T3} {f x0 x : T3} (h0 : l[0]? = some x0) (hx : x ∈ l) (h : ¬ forceV x f = forceV x0 f) : evB l f = false := by
  unfold evB
  cases l with
  | nil => simp at h0
  | cons y l =>
    simp only [List.getElem?_cons_zero, Option.some.injEq] at h0
    subst h0
    rw [← Bool.not_eq_true, List.all_eq_true]
    intro hh
    exact h (by simpa using hh x hx)

end Go.Proofs.YtjpfchhmljkkhaaDoor
