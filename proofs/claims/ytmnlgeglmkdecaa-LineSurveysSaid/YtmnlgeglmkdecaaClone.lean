/-
  The walks of slices.Clone and copyOf: a line's copy, in rows of its own.
-/
import Derived.Test.YtmnlgeglmkdecaaCopy
import Derived.Lib.SliceRun
namespace Go.Proofs.Ytmnlgeglmkdecaa
open Go.RowKit

theorem sc_one (l : List (Ls × Hd)) : ∀ u ∈ l.flatMap sc, u.oneCell' = true := by
  intro u hu
  obtain ⟨x, _, hx⟩ := List.mem_flatMap.1 hu
  simp only [sc, List.mem_cons, List.not_mem_nil, or_false] at hx
  rcases hx with rfl | rfl | rfl <;> rfl

set_option maxRecDepth 100000 in
set_option maxHeartbeats 2000000 in
theorem CloneJ_any (l : List Lj) (h : Hd) (hl : l.length ≤ 1000) (hk : HdOk h) (w : World) (hA : Lies w w.heap.size h.A (l.flatMap jc)) :
    Calls Try.prog 140 #[.slice h.A l.length h.c] w fun e w' => ∃ g : Hd, e = .returned (.slice g.A l.length g.c) ∧ w'.ownsRow w.heap.size 56 4 (.slice g.A l.length g.c) l.length (l.flatMap jc) ∧ Below w.heap.size w w' := by
  obtain ⟨A, c⟩ := h
  have ll := Lib.hid (flat_len jc 4 (fun _ => rfl) l)
  have HB := Lib.hid ((Below.refl w.heap.size w).alloc (Nat.le_refl _) (.cells #[] 56))
  have HA := Lib.hid (hA.below HB.out)
  clear hA
  cases A with
  | none =>
    obtain rfl : c = 0 := hk rfl
    have hl0 : l = [] := by
      cases l with
      | nil => rfl
      | cons x l => obtain ⟨a, h, _⟩ := HA.out.joint (i := 0) (j := x) rfl; cases h
    subst hl0
    have hnil : ∀ w, (binOp .eql 22 (.slice none 0 0) (.slice none 0 0)).run Try.prog w = .ok (.bool true) w := fun w => Lib.run_eql_slice_nil w _ _ none 0 0 0 0 Try.underlying22
    go_enter Try.func140, Try.ntmps140
    go_wp2_with fail
    go_ret
    exact ⟨⟨none, 0⟩, rfl, World.ownsRow_nil _ _ _ _, Below.refl _ _⟩
  | some a =>
    have hnil : ∀ w, (binOp .eql 22 (.slice (some a) l.length c) (.slice none 0 0)).run Try.prog w = .ok (.bool false) w := fun w => Lib.run_eql_slice_nil w _ _ (some a) _ _ 0 0 Try.underlying22
    go_enter Try.func140, Try.ntmps140
    go_wp2_with (at_builtin; refine wpList_append_all rfl _ _ 22 rfl 56 _ 4 32 Try.underlying22 info_joint rfl (by decide) (by decide) _ rfl _ rfl rfl ⟨some a, c⟩ (fun h => by cases h) l.length w.heap.size (l.flatMap jc) hl rfl ll.out HA.out (jc_one _) ?_)
    intro g w1 ho hb
    go_wp2_with fail
    go_ret
    exact ⟨g, rfl, ho, hb⟩
set_option maxRecDepth 100000 in
set_option maxHeartbeats 2000000 in
theorem CloneB_any (l : List Lb) (h : Hd) (hl : l.length ≤ 1000) (hk : HdOk h) (w : World) (hA : Lies w w.heap.size h.A (l.flatMap bc)) :
    Calls Try.prog 141 #[.slice h.A l.length h.c] w fun e w' => ∃ g : Hd, e = .returned (.slice g.A l.length g.c) ∧ w'.ownsRow w.heap.size 59 2 (.slice g.A l.length g.c) l.length (l.flatMap bc) ∧ Below w.heap.size w w' := by
  obtain ⟨A, c⟩ := h
  have ll := Lib.hid (flat_len bc 2 (fun _ => rfl) l)
  have HB := Lib.hid ((Below.refl w.heap.size w).alloc (Nat.le_refl _) (.cells #[] 59))
  have HA := Lib.hid (hA.below HB.out)
  clear hA
  cases A with
  | none =>
    obtain rfl : c = 0 := hk rfl
    have hl0 : l = [] := by
      cases l with
      | nil => rfl
      | cons x l => obtain ⟨a, h, _⟩ := HA.out.beam (i := 0) (b := x) rfl; cases h
    subst hl0
    have hnil : ∀ w, (binOp .eql 23 (.slice none 0 0) (.slice none 0 0)).run Try.prog w = .ok (.bool true) w := fun w => Lib.run_eql_slice_nil w _ _ none 0 0 0 0 Try.underlying23
    go_enter Try.func141, Try.ntmps141
    go_wp2_with fail
    go_ret
    exact ⟨⟨none, 0⟩, rfl, World.ownsRow_nil _ _ _ _, Below.refl _ _⟩
  | some a =>
    have hnil : ∀ w, (binOp .eql 23 (.slice (some a) l.length c) (.slice none 0 0)).run Try.prog w = .ok (.bool false) w := fun w => Lib.run_eql_slice_nil w _ _ (some a) _ _ 0 0 Try.underlying23
    go_enter Try.func141, Try.ntmps141
    go_wp2_with (at_builtin; refine wpList_append_all rfl _ _ 23 rfl 59 _ 2 16 Try.underlying23 info_beam rfl (by decide) (by decide) _ rfl _ rfl rfl ⟨some a, c⟩ (fun h => by cases h) l.length w.heap.size (l.flatMap bc) hl rfl ll.out HA.out (bc_one _) ?_)
    intro g w1 ho hb
    go_wp2_with fail
    go_ret
    exact ⟨g, rfl, ho, hb⟩
set_option maxRecDepth 100000 in
set_option maxHeartbeats 2000000 in
theorem CloneS_any (l : List (Ls × Hd)) (h : Hd) (hl : l.length ≤ 1000) (hk : HdOk h) (w : World) (hA : Lies w w.heap.size h.A (l.flatMap sc)) :
    Calls Try.prog 142 #[.slice h.A l.length h.c] w fun e w' => ∃ g : Hd, e = .returned (.slice g.A l.length g.c) ∧ w'.ownsRow w.heap.size 113 3 (.slice g.A l.length g.c) l.length (l.flatMap sc) ∧ Below w.heap.size w w' := by
  obtain ⟨A, c⟩ := h
  have ll := Lib.hid (flat_len sc 3 (fun _ => rfl) l)
  have HB := Lib.hid ((Below.refl w.heap.size w).alloc (Nat.le_refl _) (.cells #[] 113))
  have HA := Lib.hid (hA.below HB.out)
  clear hA
  cases A with
  | none =>
    obtain rfl : c = 0 := hk rfl
    have hl0 : l = [] := by
      cases l with
      | nil => rfl
      | cons x l => obtain ⟨a, h, _⟩ := HA.out.switch (i := 0) (p := x) rfl; cases h
    subst hl0
    have hnil : ∀ w, (binOp .eql 24 (.slice none 0 0) (.slice none 0 0)).run Try.prog w = .ok (.bool true) w := fun w => Lib.run_eql_slice_nil w _ _ none 0 0 0 0 Try.underlying24
    go_enter Try.func142, Try.ntmps142
    go_wp2_with fail
    go_ret
    exact ⟨⟨none, 0⟩, rfl, World.ownsRow_nil _ _ _ _, Below.refl _ _⟩
  | some a =>
    have hnil : ∀ w, (binOp .eql 24 (.slice (some a) l.length c) (.slice none 0 0)).run Try.prog w = .ok (.bool false) w := fun w => Lib.run_eql_slice_nil w _ _ (some a) _ _ 0 0 Try.underlying24
    go_enter Try.func142, Try.ntmps142
    go_wp2_with (at_builtin; refine wpList_append_all rfl _ _ 24 rfl 113 _ 3 48 Try.underlying24 info_switch rfl (by decide) (by decide) _ rfl _ rfl rfl ⟨some a, c⟩ (fun h => by cases h) l.length w.heap.size (l.flatMap sc) hl rfl ll.out HA.out (sc_one _) ?_)
    intro g w1 ho hb
    go_wp2_with fail
    go_ret
    exact ⟨g, rfl, ho, hb⟩
set_option maxRecDepth 100000 in
set_option maxHeartbeats 2000000 in
theorem CloneI_any (l : List Int) (h : Hd) (hl : l.length ≤ 1000) (hk : HdOk h) (w : World) (hA : Lies w w.heap.size h.A (ic l)) :
    Calls Try.prog 143 #[.slice h.A l.length h.c] w fun e w' => ∃ g : Hd, e = .returned (.slice g.A l.length g.c) ∧ w'.ownsRow w.heap.size 3 1 (.slice g.A l.length g.c) l.length (ic l) ∧ Below w.heap.size w w' := by
  obtain ⟨A, c⟩ := h
  have ll : Hid ((ic l).length = l.length * 1) := Lib.hid (by simp [ic])
  have HB := Lib.hid ((Below.refl w.heap.size w).alloc (Nat.le_refl _) (.cells #[] 3))
  have HA := Lib.hid (hA.below HB.out)
  clear hA
  cases A with
  | none =>
    obtain rfl : c = 0 := hk rfl
    have hl0 : l = [] := by
      cases l with
      | nil => rfl
      | cons x l => obtain ⟨a, h, _⟩ := HA.out.num (i := 0) (x := x) rfl; cases h
    subst hl0
    have hnil : ∀ w, (binOp .eql 67 (.slice none 0 0) (.slice none 0 0)).run Try.prog w = .ok (.bool true) w := fun w => Lib.run_eql_slice_nil w _ _ none 0 0 0 0 Try.underlying67
    go_enter Try.func143, Try.ntmps143
    go_wp2_with fail
    go_ret
    exact ⟨⟨none, 0⟩, rfl, World.ownsRow_nil _ _ _ _, Below.refl _ _⟩
  | some a =>
    have hnil : ∀ w, (binOp .eql 67 (.slice (some a) l.length c) (.slice none 0 0)).run Try.prog w = .ok (.bool false) w := fun w => Lib.run_eql_slice_nil w _ _ (some a) _ _ 0 0 Try.underlying67
    go_enter Try.func143, Try.ntmps143
    go_wp2_with (at_builtin; refine wpList_append_all rfl _ _ 67 rfl 3 _ 1 8 Try.underlying67 info_int rfl (by decide) (by decide) _ rfl _ rfl rfl ⟨some a, c⟩ (fun h => by cases h) l.length w.heap.size (ic l) hl rfl ll.out HA.out (ic_one _) ?_)
    intro g w1 ho hb
    go_wp2_with fail
    go_ret
    exact ⟨g, rfl, ho, hb⟩
end Go.Proofs.Ytmnlgeglmkdecaa
