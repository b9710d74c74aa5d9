
/-
  The walks of the copies of numbers and of tracks.
-/
import Derived.Test.YtohldmmfnjfgmaaDoorTEven
import Derived.Test.YtohldmmfnjfgmaaDoorTPla
namespace Go.Proofs.YtohldmmfnjfgmaaDoor
open Go.RowKit

theorem Lies.far {w : World} {B : Nat} {A : Option Addr} {vs : List Value} {q : Addr} (h : Lies w B A vs) (hq : ∀ a, A = some a → q.block ≠ a.block) (u : Value) : Lies (w.setCell q u) B A vs := fun j v hv => by
  obtain ⟨a, e, hb, hc⟩ := h j v hv
  refine ⟨a, e, hb, ?_⟩
  have hh : (w.setCell q u).heap[(a.add j).block]? = w.heap[(a.add j).block]? := Below.heap_setCell w q u (a.add j).block (by rw [add_blk]; exact fun e2 => hq a e e2.symm)
  rw [← hc]
  unfold World.cell?
  rw [hh]
/-- A copy of numbers. -/
def CopiedI (w : World) (l : List Int) (e : Ending) (w' : World) : Prop := ∃ g : Hd, e = .returned (.slice g.A l.length g.c) ∧ Lies w' w'.heap.size g.A (ic l) ∧ HdOk g ∧ (∀ a, g.A = some a → w.heap.size ≤ a.block) ∧ Below w.heap.size w w'
set_option maxHeartbeats 800000 in
theorem CopyInts_any (l : List Int) (h : Hd) (hl : l.length ≤ 1000) (hk : HdOk h) (w : World) (hA : Lies w w.heap.size h.A (ic l)) :
    Calls Tryd.prog 81 #[.slice h.A l.length h.c] w (CopiedI w l) := by
  obtain ⟨A, c⟩ := h
  obtain ⟨i0, hi, hz0, hz1, hz2⟩ := info_parts info_int
  have b0 := (Below.refl w.heap.size w).alloc (Nat.le_refl _) (.cells #[] 3)
  have ho := World.ownsRow_made (base := w.heap.size) (e := 3) (size := 1) w #[] 0 (Nat.le_refl _) (by unfold maxLen; omega) rfl
  have HO := Lib.hid ho
  have HB := Lib.hid b0
  have HA := Lib.hid (hA.below b0)
  clear ho b0 hA
  cases A with
  | none =>
    obtain rfl : c = 0 := hk rfl
    have hl0 : l = [] := by
      cases l with
      | nil => rfl
      | cons x l => obtain ⟨a, h, _⟩ := HA.out.num (i := 0) (x := x) rfl; cases h
    subst hl0
    go_enter Tryd.func81, Tryd.ntmps81
    go_wp2_with (at_builtin; refine wpList_append_own_none rfl _ _ 54 rfl w.heap.size 3 i0 1 Tryd.underlying54 hi _ 0 [] rfl HO.out rfl ?_)
    go_ret
    exact ⟨⟨_, _⟩, rfl, Lies.nil, (fun h => by cases h), (fun a h => by cases h; exact Nat.le_refl _), HB.out⟩
  | some a =>
    have k1 : Hid ((ic l).length = l.length * 1) := Lib.hid (by simp [ic])
    have k2 : Hid (∀ j u, (ic l)[j]? = some u → (w.alloc (.cells #[] 3)).cell? (a.add j) = some u) := Lib.hid (fun j u hu => by obtain ⟨a', e, _, h⟩ := HA.out j u hu; cases e; exact h)
    go_enter Tryd.func81, Tryd.ntmps81
    go_wp2_with (at_builtin; refine wpList_append_own _ rfl _ _ 54 rfl w.heap.size 3 i0 (.int .i64 0) 1 8 Tryd.underlying54 hi hz0 hz1 hz2 rfl (by decide) _ 0 [] rfl HO.out a l.length c (ic l) rfl k1.out k2.out (ic_one l) (by unfold maxLen; omega) (by omega) (by simp) ?_; intro v' w1 ho1 hg1 _; obtain ⟨g, rfl, hL1, hk1, hg2⟩ := own_slice ho1)
    go_ret
    have hg3 : (w.alloc (.cells #[] 3)).grownBy w1 (some w.heap.size) := hg1
    rw [List.nil_append] at hL1
    exact ⟨g, rfl, hL1, hk1, hg2, HB.out.grown hg3 HB.out.size (fun k e => by cases e; exact Nat.le_refl _)⟩

/-- A copy of a track. -/
def CopiedT (w : World) (l : List Int) (e : Ending) (w' : World) : Prop := ∃ g : Hd, e = .returned (.agg #[.slice g.A l.length g.c]) ∧ Lies w' w'.heap.size g.A (ic l) ∧ HdOk g ∧ Below w.heap.size w w'
set_option maxHeartbeats 800000 in
theorem CopyTrack_any (l : List Int) (h : Hd) (hl : l.length ≤ 1000) (hk : HdOk h) (w : World) (hA : Lies w w.heap.size h.A (ic l)) :
    Calls Tryd.prog 52 #[.agg #[.slice h.A l.length h.c]] w (CopiedT w l) := by
  have F0 := Lib.hid (Fr.b2 w 92 #[.slice h.A l.length h.c] 92 #[.slice none 0 0])
  have HA := Lib.hid hA
  have HK := Lib.hid hk
  clear hA hk
  go_enter Tryd.func52, Tryd.ntmps52
  go_wp2_with fail
  refine (CopyInts_any l h hl HK.out _ (Fr.lies HA.out F0.out)).mono ?_
  rintro e w1 ⟨g, rfl, hl1, hk1, hg1, hb1⟩
  have HG1 : Hid (∀ a, g.A = some a → w.heap.size + 1 ≠ a.block) := Lib.hid (fun a h => by have := hg1 a h; simp at this; omega)
  have F1 := Lib.hid (F0.out.call hb1)
  have HL := Lib.hid hl1
  have HK1 := Lib.hid hk1
  obtain ⟨d0, f0⟩ := F1.out.top.one
  have z1 := F1.out.top.lt
  clear hb1 hl1 hk1 hg1 F0
  go_wp2_with fail
  refine bodyPost_ret (v := .agg #[.slice g.A l.length g.c]) (by simp [results, Tryd.results52, go_sem, d0, z1, Nat.ne_of_lt z1]) rfl ⟨g, rfl, ?_, HK1.out, (by repeat (first | exact F1.out.bl | refine Below.drew ?_ | refine Below.setCell ?_ (by first | (simp; done) | (simp; omega) | omega) _ | refine Below.alloc ?_ (by first | (simp; done) | (simp; omega) | omega) _ | exact Below.refl _ _))⟩
  exact ((HL.out.far HG1.out _).more (by simp))
end Go.Proofs.YtohldmmfnjfgmaaDoor
