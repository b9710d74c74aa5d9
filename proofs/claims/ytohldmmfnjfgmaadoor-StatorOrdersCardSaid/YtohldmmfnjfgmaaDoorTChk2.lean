
/-
  The walks of the functions that check lists of vectors.
-/
import Derived.Test.YtohldmmfnjfgmaaDoorTChk
namespace Go.Proofs.YtohldmmfnjfgmaaDoor
open Go.RowKit

set_option maxHeartbeats 1000000 in
theorem checkVectors_any (l : List T3) (A : Option Addr) (c : Nat) (hl : l.length ≤ maxLen) (w : World) (hA : Lies w w.heap.size A (l.flatMap tc)) :
    Calls Tryd.prog 74 #[.slice A l.length c] w fun e w' => e = .returned (.int .i64 (vsE l)) ∧ Below w.heap.size w w' := by
  unfold maxLen at hl
  have HA := Lib.hid hA
  clear hA
  go_enter Tryd.func74, Tryd.ntmps74
  go_wp2_with fail
  have B0 := Below.refl w.heap.size w
  go_loopw [8] (fun i wr => ∃ k : Nat, k ≤ l.length ∧ i = .int .i64 k ∧ (∀ x ∈ l.take k, okT x = true) ∧ Below w.heap.size w wr) (fun i _ => l.length - (intOf i).toNat)
  case atStart => exact ⟨0, Nat.zero_le _, rfl, by simp, B0⟩
  case round =>
    obtain ⟨k, hk, rfl, hp, hb⟩ := hrel
    clear B0
    have HP := Lib.hid hp
    have HB := Lib.hid hb
    have hz := hb.size
    clear hp hb
    by_cases hlt : k < l.length
    · obtain ⟨a, rfl, hab, ca, cb⟩ := (HA.out.below HB.out).third (List.getElem?_eq_getElem hlt)
      have hab' : (a.add (k * 2)).block < w.heap.size := by rw [add_blk]; exact hab
      have X1 := Lib.hid (Bk.new wr 24 #[.int .i64 l[k].a, .int .i64 l[k].b])
      have B1 := Lib.hid (Below.new HB.out (.cells #[.int .i64 l[k].a, .int .i64 l[k].b] 24))
      cases hx : okT l[k] with
      | true =>
        have HX := Lib.hid hx
        have he : Hid (vE l[k] = 0) := Lib.hid (by unfold vE; rw [if_pos hx])
        clear hx
        go_wp2_with fail
        refine (checkVector_any l[k] _).mono ?_
        rintro e w2 ⟨rfl, hb2⟩
        rw [he.out]
        have B2 := Lib.hid (Below.step B1.out hb2)
        clear hb2
        go_wp2_with fail
        go_roundw
        case rel => exact ⟨k + 1, by omega, by go_num, fun x hx => by
          rw [List.take_succ_eq_append_getElem hlt] at hx
          rcases List.mem_append.1 hx with h | h
          · exact HP.out x h
          · rw [List.mem_singleton.1 h]; exact HX.out, B2.out⟩
        case measure => simp [intOf]; omega
      | false =>
        have HX := Lib.hid hx
        have he : Hid (vE l[k] = 2) := Lib.hid (by unfold vE; rw [if_neg (by rw [hx]; simp)])
        clear hx
        go_wp2_with fail
        refine (checkVector_any l[k] _).mono ?_
        rintro e w2 ⟨rfl, hb2⟩
        rw [he.out]
        have B2 := Lib.hid (Below.step B1.out hb2)
        clear hb2
        go_wp2_with fail
        go_ret
        exact ⟨ret_i64 (vsE_no (List.getElem_mem hlt) HX.out).symm, B2.out⟩
    · obtain rfl : k = l.length := by omega
      go_wp2_with fail
      go_ret
      exact ⟨ret_i64 (vsE_yes (by simpa using HP.out)).symm, HB.out⟩

set_option maxHeartbeats 1000000 in
theorem VectorsErr_any (l : List T3) (A : Option Addr) (c : Nat) (hl : l.length ≤ maxLen) (w : World) (hA : Lies w w.heap.size A (l.flatMap tc)) :
    Calls Tryd.prog 71 #[.slice A l.length c] w fun e w' => e = .returned (.int .i64 (vsE l)) ∧ Below w.heap.size w w' := by
  unfold maxLen at hl
  have HA := Lib.hid hA
  clear hA
  go_enter Tryd.func71, Tryd.ntmps71
  go_wp2_with fail
  have B0 := Below.refl w.heap.size w
  go_loopw [3] (fun i wr => ∃ k : Nat, k ≤ l.length ∧ i = .int .i64 k ∧ (∀ x ∈ l.take k, okT x = true) ∧ Below w.heap.size w wr) (fun i _ => l.length - (intOf i).toNat)
  case atStart => exact ⟨0, Nat.zero_le _, rfl, by simp, B0⟩
  case round =>
    obtain ⟨k, hk, rfl, hp, hb⟩ := hrel
    clear B0
    have HP := Lib.hid hp
    have HB := Lib.hid hb
    have hz := hb.size
    clear hp hb
    by_cases hlt : k < l.length
    · obtain ⟨a, rfl, hab, ca, cb⟩ := (HA.out.below HB.out).third (List.getElem?_eq_getElem hlt)
      cases hx : okT l[k] with
      | true =>
        have HX := Lib.hid hx
        have he : Hid (vE l[k] = 0) := Lib.hid (by unfold vE; rw [if_pos hx])
        clear hx
        go_wp2_with fail
        refine (VectorErr_any l[k] _).mono ?_
        rintro e w2 ⟨rfl, hb2⟩
        rw [he.out]
        have B2 := Lib.hid (Below.step HB.out hb2)
        clear hb2
        go_wp2_with fail
        go_roundw
        case rel => exact ⟨k + 1, by omega, by go_num, fun x hx => by
          rw [List.take_succ_eq_append_getElem hlt] at hx
          rcases List.mem_append.1 hx with h | h
          · exact HP.out x h
          · rw [List.mem_singleton.1 h]; exact HX.out, B2.out⟩
        case measure => simp [intOf]; omega
      | false =>
        have HX := Lib.hid hx
        have he : Hid (vE l[k] = 2) := Lib.hid (by unfold vE; rw [if_neg (by rw [hx]; simp)])
        clear hx
        go_wp2_with fail
        refine (VectorErr_any l[k] _).mono ?_
        rintro e w2 ⟨rfl, hb2⟩
        rw [he.out]
        have B2 := Lib.hid (Below.step HB.out hb2)
        clear hb2
        go_wp2_with fail
        go_ret
        exact ⟨ret_i64 (vsE_no (List.getElem_mem hlt) HX.out).symm, B2.out⟩
    · obtain rfl : k = l.length := by omega
      go_wp2_with fail
      go_ret
      exact ⟨ret_i64 (vsE_yes (by simpa using HP.out)).symm, HB.out⟩

theorem Lies.bk4 {w : World} {g : Nat} {t : TypeId} {a b c d : Value} (h : Bk w g t #[a, b, c, d]) : Lies w w.heap.size (some ⟨g, 0, none⟩) [a, b, c, d] := fun j u hu => by
  match j with
  | 0 => exact ⟨_, rfl, h.lt, by have := h.cell 0; simp at hu; subst hu; exact this⟩
  | 1 => exact ⟨_, rfl, h.lt, by have := h.cell 1; simp at hu; subst hu; exact this⟩
  | 2 => exact ⟨_, rfl, h.lt, by have := h.cell 2; simp at hu; subst hu; exact this⟩
  | 3 => exact ⟨_, rfl, h.lt, by have := h.cell 3; simp at hu; subst hu; exact this⟩
  | j + 4 => simp at hu
theorem vs2 (c f : T3) : vsE [c, f] = if okT c = true ∧ okT f = true then 0 else 2 := by
  unfold vsE; simp

/-- Two vectors of a list literal: the error. -/
theorem checkTwo (c f : T3) (w : World) (o o' : Obj) : Calls Tryd.prog 74 #[.slice (some ⟨w.heap.size + 1 + 1, 0, none⟩) 2 2] (((w.alloc o).alloc o').alloc (.cells #[.int .i64 c.a, .int .i64 c.b, .int .i64 f.a, .int .i64 f.b] 24))
    fun e w' => e = .returned (.int .i64 (vsE [c, f])) ∧ Below (((w.alloc o).alloc o').alloc (.cells #[.int .i64 c.a, .int .i64 c.b, .int .i64 f.a, .int .i64 f.b] 24)).heap.size (((w.alloc o).alloc o').alloc (.cells #[.int .i64 c.a, .int .i64 c.b, .int .i64 f.a, .int .i64 f.b] 24)) w' :=
  checkVectors_any [c, f] _ _ (by simp [maxLen]) _ (Lies.bk4 (Bk.new2 w o o' 24 #[.int .i64 c.a, .int .i64 c.b, .int .i64 f.a, .int .i64 f.b]))

set_option maxHeartbeats 1000000 in
theorem ForceOf_any (c f : T3) (w : World) : Calls Tryd.prog 48 #[(.agg #[.int .i64 c.a, .int .i64 c.b]), (.agg #[.int .i64 f.a, .int .i64 f.b])] w fun e w' => e = .returned (.tuple #[.int .i64 (if vsE [c, f] = 0 then forceV c f else 0), .int .i64 (vsE [c, f])]) ∧ Below w.heap.size w w' := by
  have B0 := Lib.hid (box3 w #[.int .i64 c.a, .int .i64 c.b] #[.int .i64 f.a, .int .i64 f.b] #[.int .i64 c.a, .int .i64 c.b, .int .i64 f.a, .int .i64 f.b] 24 24 24)
  have T0 := Lib.hid (Two3.start w c f)
  by_cases hc : okT c = true ∧ okT f = true
  · have e0 : Hid (vsE [c, f] = 0) := Lib.hid (by rw [vs2, if_pos hc])
    have HC := Lib.hid ((okT_bd hc.1).more (K := 100000000) (by omega))
    have HF := Lib.hid ((okT_bd hc.2).more (K := 100000000) (by omega))
    rw [e0.out, if_pos rfl]
    clear hc
    go_enter Tryd.func48, Tryd.ntmps48
    go_wp2_with fail
    refine (checkTwo c f w _ _).mono ?_
    rintro e w1 ⟨rfl, hb1⟩
    rw [e0.out]
    have T1 := Lib.hid (Two3.call (Two3.call T0.out (Below.new (Below.refl _ _) _)) hb1)
    have B1 := Lib.hid (Below.step B0.out hb1)
    obtain ⟨c0, c1, f0, f1⟩ := T1.out.all
    clear hb1 T0 B0
    go_wp2_with fail
    refine (force_any c f HC.out HF.out _).mono ?_
    rintro e w2 ⟨rfl, hb2⟩
    have B2 := Lib.hid (Below.step B1.out hb2)
    clear hb2 c0 c1 f0 f1
    go_wp2_with fail
    go_ret2
    exact ⟨rfl, B2.out⟩
  · have e0 : Hid (vsE [c, f] = 2) := Lib.hid (by rw [vs2, if_neg hc])
    rw [e0.out, if_neg (by decide)]
    clear hc
    go_enter Tryd.func48, Tryd.ntmps48
    go_wp2_with fail
    refine (checkTwo c f w _ _).mono ?_
    rintro e w1 ⟨rfl, hb1⟩
    rw [e0.out]
    have B1 := Lib.hid (Below.step B0.out hb1)
    clear hb1 T0 B0
    go_wp2_with fail
    go_ret2
    exact ⟨rfl, B1.out⟩
end Go.Proofs.YtohldmmfnjfgmaaDoor
