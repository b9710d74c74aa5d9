
/-
  The walks of the functions that check lists of vectors.
-/
import Derived.Test.YtjpfchhmljkkhaaDoorTChk
namespace Go.Proofs.YtjpfchhmljkkhaaDoor
open Go.RowKit

set_option maxHeartbeats 1000000 in
theorem checkVectors_any (l : List T3) (A : Option Addr) (c : Nat) (hl : l.length ≤ maxLen) (w : World) (hA : Lies w w.heap.size A (l.flatMap tc)) :
    Calls Tryd.prog 50 #[.slice A l.length c] w fun e w' => e = .returned (.int .i64 (vsE l)) ∧ Below w.heap.size w w' := by
  unfold maxLen at hl
  have HA := Lib.hid hA
  clear hA
  go_enter Tryd.func50, Tryd.ntmps50
  go_wp2_with fail
  have B0 := Below.refl w.heap.size w
  go_loopw [8] (fun i wr => ∃ k : Nat, k ≤ l.length ∧ i = .int .i64 k ∧ (∀ x ∈ l.take k, okT x = true) ∧ Below w.heap.size w wr) (fun i _ => l.length - (intOf i).toNat)
  case atStart => exact ⟨0, Nat.zero_le _, rfl, by simp, B0⟩
  case round =>
    obtain ⟨k, hk, rfl, hp, hb⟩ := hrel
    clear B0
    have HP := Lib.hid hp
    have HB := Lib.hid hb
    have hz := hb.size
    clear hp hb
    by_cases hlt : k < l.length
    · obtain ⟨a, rfl, hab, ca, cb⟩ := (HA.out.below HB.out).third (List.getElem?_eq_getElem hlt)
      have hab' : (a.add (k * 2)).block < w.heap.size := by rw [add_blk]; exact hab
      have X1 := Lib.hid (Bk.new wr 25 #[.int .i64 l[k].a, .int .i64 l[k].b])
      have B1 := Lib.hid (Below.new HB.out (.cells #[.int .i64 l[k].a, .int .i64 l[k].b] 25))
      cases hx : okT l[k] with
      | true =>
        have HX := Lib.hid hx
        have he : Hid (vE l[k] = 0) := Lib.hid (by unfold vE; rw [if_pos hx])
        clear hx
        go_wp2_with fail
        refine (checkVector_any l[k] _).mono ?_
        rintro e w2 ⟨rfl, hb2⟩
        rw [he.out]
        have B2 := Lib.hid (Below.step B1.out hb2)
        clear hb2
        go_wp2_with fail
        go_roundw
        case rel => exact ⟨k + 1, by omega, by go_num, fun x hx => by
          rw [List.take_succ_eq_append_getElem hlt] at hx
          rcases List.mem_append.1 hx with h | h
          · exact HP.out x h
          · rw [List.mem_singleton.1 h]; exact HX.out, B2.out⟩
        case measure => simp [intOf]; omega
      | false =>
        have HX := Lib.hid hx
        have he : Hid (vE l[k] = 2) := Lib.hid (by unfold vE; rw [if_neg (by rw [hx]; simp)])
        clear hx
        go_wp2_with fail
        refine (checkVector_any l[k] _).mono ?_
        rintro e w2 ⟨rfl, hb2⟩
        rw [he.out]
        have B2 := Lib.hid (Below.step B1.out hb2)
        clear hb2
        go_wp2_with fail
        go_ret
        exact ⟨ret_i64 (vsE_no (List.getElem_mem hlt) HX.out).symm, B2.out⟩
    · obtain rfl : k = l.length := by omega
      go_wp2_with fail
      go_ret
      exact ⟨ret_i64 (vsE_yes (by simpa using HP.out)).symm, HB.out⟩

set_option maxHeartbeats 1000000 in
theorem VectorsErr_any (l : List T3) (A : Option Addr) (c : Nat) (hl : l.length ≤ maxLen) (w : World) (hA : Lies w w.heap.size A (l.flatMap tc)) :
    Calls Tryd.prog 39 #[.slice A l.length c] w fun e w' => e = .returned (.int .i64 (vsE l)) ∧ Below w.heap.size w w' := by
  unfold maxLen at hl
  have HA := Lib.hid hA
  clear hA
  go_enter Tryd.func39, Tryd.ntmps39
  go_wp2_with fail
  have B0 := Below.refl w.heap.size w
  go_loopw [3] (fun i wr => ∃ k : Nat, k ≤ l.length ∧ i = .int .i64 k ∧ (∀ x ∈ l.take k, okT x = true) ∧ Below w.heap.size w wr) (fun i _ => l.length - (intOf i).toNat)
  case atStart => exact ⟨0, Nat.zero_le _, rfl, by simp, B0⟩
  case round =>
    obtain ⟨k, hk, rfl, hp, hb⟩ := hrel
    clear B0
    have HP := Lib.hid hp
    have HB := Lib.hid hb
    have hz := hb.size
    clear hp hb
    by_cases hlt : k < l.length
    · obtain ⟨a, rfl, hab, ca, cb⟩ := (HA.out.below HB.out).third (List.getElem?_eq_getElem hlt)
      cases hx : okT l[k] with
      | true =>
        have HX := Lib.hid hx
        have he : Hid (vE l[k] = 0) := Lib.hid (by unfold vE; rw [if_pos hx])
        clear hx
        go_wp2_with fail
        refine (VectorErr_any l[k] _).mono ?_
        rintro e w2 ⟨rfl, hb2⟩
        rw [he.out]
        have B2 := Lib.hid (Below.step HB.out hb2)
        clear hb2
        go_wp2_with fail
        go_roundw
        case rel => exact ⟨k + 1, by omega, by go_num, fun x hx => by
          rw [List.take_succ_eq_append_getElem hlt] at hx
          rcases List.mem_append.1 hx with h | h
          · exact HP.out x h
          · rw [List.mem_singleton.1 h]; exact HX.out, B2.out⟩
        case measure => simp [intOf]; omega
      | false =>
        have HX := Lib.hid hx
        have he : Hid (vE l[k] = 2) := Lib.hid (by unfold vE; rw [if_neg (by rw [hx]; simp)])
        clear hx
        go_wp2_with fail
        refine (VectorErr_any l[k] _).mono ?_
        rintro e w2 ⟨rfl, hb2⟩
        rw [he.out]
        have B2 := Lib.hid (Below.step HB.out hb2)
        clear hb2
        go_wp2_with fail
        go_ret
        exact ⟨ret_i64 (vsE_no (List.getElem_mem hlt) HX.out).symm, B2.out⟩
    · obtain rfl : k = l.length := by omega
      go_wp2_with fail
      go_ret
      exact ⟨ret_i64 (vsE_yes (by simpa using HP.out)).symm, HB.out⟩

theorem Lies.bk4 {w : World} {g : Nat} {t : TypeId} {a b c d : Value} (h : Bk w g t #[a, b, c, d]) : Lies w w.heap.size (some ⟨g, 0, none⟩) [a, b, c, d] := fun j u hu => by
  match j with
  | 0 => exact ⟨_, rfl, h.lt, by have := h.cell 0; simp at hu; subst hu; exact this⟩
  | 1 => exact ⟨_, rfl, h.lt, by have := h.cell 1; simp at hu; subst hu; exact this⟩
  | 2 => exact ⟨_, rfl, h.lt, by have := h.cell 2; simp at hu; subst hu; exact this⟩
  | 3 => exact ⟨_, rfl, h.lt, by have := h.cell 3; simp at hu; subst hu; exact this⟩
  | j + 4 => simp at hu
theorem vs2 (c f : T3) : vsE [c, f] = if okT c = true ∧ okT f = true then 0 else 2 := by
  unfold vsE; simp

/-- Two vectors of a list literal: the error. -/
theorem checkTwo (c f : T3) (w : World) (o o' : Obj) : Calls Tryd.prog 50 #[.slice (some ⟨w.heap.size + 1 + 1, 0, none⟩) 2 2] (((w.alloc o).alloc o').alloc (.cells #[.int .i64 c.a, .int .i64 c.b, .int .i64 f.a, .int .i64 f.b] 25))
    fun e w' => e = .returned (.int .i64 (vsE [c, f])) ∧ Below (((w.alloc o).alloc o').alloc (.cells #[.int .i64 c.a, .int .i64 c.b, .int .i64 f.a, .int .i64 f.b] 25)).heap.size (((w.alloc o).alloc o').alloc (.cells #[.int .i64 c.a, .int .i64 c.b, .int .i64 f.a, .int .i64 f.b] 25)) w' :=
  checkVectors_any [c, f] _ _ (by simp [maxLen]) _ (Lies.bk4 (Bk.new2 w o o' 25 #[.int .i64 c.a, .int .i64 c.b, .int .i64 f.a, .int .i64 f.b]))

end Go.Proofs.YtjpfchhmljkkhaaDoor
