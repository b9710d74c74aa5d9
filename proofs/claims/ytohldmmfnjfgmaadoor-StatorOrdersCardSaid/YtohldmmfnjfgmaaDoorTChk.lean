
/-
  The walks of the functions that check numbers and vectors, one by one.
-/
import Derived.Test.YtohldmmfnjfgmaaDoorTTurn
namespace Go.Proofs.YtohldmmfnjfgmaaDoor
open Go.RowKit

/-- The error of numbers that may be so great in size. -/
def szE (m : Int) (l : List Int) : Int := if l.all (fun x => inB x (-m) m) = true then 0 else 2
theorem szE_yes {m : Int} {l : List Int} (h : ∀ x ∈ l, inB x (-m) m = true) : szE m l = 0 := by
  unfold szE; rw [if_pos (List.all_eq_true.2 h)]
theorem szE_no {m : Int} {l : List Int} {x : Int} (hx : x ∈ l) (h : inB x (-m) m = false) : szE m l = 2 := by
  unfold szE; rw [if_neg]
  intro ha
  rw [List.all_eq_true.1 ha x hx] at h
  cases h
theorem szE_or (m : Int) (l : List Int) : szE m l = 0 ∨ szE m l = 2 := by unfold szE; split <;> simp
def vsE (l : List T3) : Int := if l.all okT = true then 0 else 2
theorem vsE_yes {l : List T3} (h : ∀ x ∈ l, okT x = true) : vsE l = 0 := by
  unfold vsE; rw [if_pos (List.all_eq_true.2 h)]
theorem vsE_no {l : List T3} {x : T3} (hx : x ∈ l) (h : okT x = false) : vsE l = 2 := by
  unfold vsE; rw [if_neg]
  intro ha
  rw [List.all_eq_true.1 ha x hx] at h
  cases h
theorem vsE_iff {l : List T3} : vsE l = 0 ↔ ∀ x ∈ l, okT x = true := by
  unfold vsE; rw [← List.all_eq_true]; split <;> simp [*]

/-- The cells of a vector. -/
def tc (v : T3) : List Value := [.int .i64 v.a, .int .i64 v.b]
section
variable {w w' : World} {B B' : Nat} {A : Option Addr}
theorem Lies.third {l : List T3} {i : Nat} {v : T3} (h : Lies w B A (l.flatMap tc)) (hj : l[i]? = some v) :
    ∃ a, A = some a ∧ a.block < B ∧ w.cell? (a.add (i * 2)) = some (.int .i64 v.a) ∧ w.cell? ⟨(a.add (i * 2)).block, (a.add (i * 2)).off + 1, none⟩ = some (.int .i64 v.b) := by
  have f := fun k (hk : k < 2) => flat_at tc 2 (fun _ => rfl) l i k hk
  simp only [hj, Option.bind_some] at f
  obtain ⟨a, e, hb, h0⟩ := h _ _ (f 0 (by omega))
  obtain ⟨a1, e1, _, h1⟩ := h _ _ (f 1 (by omega))
  obtain rfl : a = a1 := by rw [e] at e1; injection e1
  rw [add_off _ _ _ (by omega)] at h1
  exact ⟨a, e, hb, h0, h1⟩
end

set_option maxHeartbeats 1000000 in
theorem checkSizes_any (m : Int) (hm : 0 ≤ m ∧ m ≤ 1000000000) (l : List Int) (A : Option Addr) (c : Nat) (hl : l.length ≤ maxLen) (w : World) (hA : Lies w w.heap.size A (ic l)) :
    Calls Tryd.prog 54 #[.int .i64 m, .slice A l.length c] w fun e w' => e = .returned (.int .i64 (szE m l)) ∧ w = w' := by
  unfold maxLen at hl
  obtain ⟨m0, m1⟩ := hm
  have HA := Lib.hid hA
  clear hA
  go_enter Tryd.func54, Tryd.ntmps54
  go_wp2_with fail
  go_loop [9] (fun i => ∃ k : Nat, k ≤ l.length ∧ i = .int .i64 k ∧ ∀ x ∈ l.take k, inB x (-m) m = true) (fun i => l.length - (intOf i).toNat)
  case atStart => exact ⟨0, Nat.zero_le _, rfl, by simp⟩
  case round =>
    obtain ⟨k, hk, rfl, hp⟩ := hrel
    have HP := Lib.hid hp
    clear hp
    by_cases hlt : k < l.length
    · obtain ⟨a, rfl, _, ca⟩ := HA.out.num (List.getElem?_eq_getElem hlt)
      cases hx : inB l[k] (-m) m with
      | true =>
        have HX := Lib.hid hx
        go_wp2_with (go_at_call 60; refine (within_any _ _ _ _).mono ?_; rintro e w' ⟨rfl, rfl⟩)
        go_round
        case rel => exact ⟨k + 1, by omega, by go_num, fun x hx => by
          rw [List.take_succ_eq_append_getElem hlt] at hx
          rcases List.mem_append.1 hx with h | h
          · exact HP.out x h
          · rw [List.mem_singleton.1 h]; exact HX.out⟩
        case measure => simp [intOf]; omega
      | false =>
        have HX := Lib.hid hx
        go_wp2_with (go_at_call 60; refine (within_any _ _ _ _).mono ?_; rintro e w' ⟨rfl, rfl⟩)
        go_ret
        exact ⟨ret_i64 (szE_no (List.getElem_mem hlt) HX.out).symm, rfl⟩
    · obtain rfl : k = l.length := by omega
      go_wp2_with fail
      go_ret
      exact ⟨ret_i64 (szE_yes (by simpa using HP.out)).symm, rfl⟩

set_option maxHeartbeats 1000000 in
theorem numbersErr_any (l : List Int) (A : Option Addr) (c : Nat) (hl : l.length ≤ maxLen) (w : World) (hA : Lies w w.heap.size A (ic l)) :
    Calls Tryd.prog 56 #[.slice A l.length c] w fun e w' => e = .returned (.int .i64 (szE 100000 l)) ∧ w = w' := by
  unfold maxLen at hl
  have HA := Lib.hid hA
  clear hA
  go_enter Tryd.func56, Tryd.ntmps56
  go_wp2_with fail
  go_loop [3] (fun i => ∃ k : Nat, k ≤ l.length ∧ i = .int .i64 k ∧ ∀ x ∈ l.take k, inB x (-100000) 100000 = true) (fun i => l.length - (intOf i).toNat)
  case atStart => exact ⟨0, Nat.zero_le _, rfl, by simp⟩
  case round =>
    obtain ⟨k, hk, rfl, hp⟩ := hrel
    have HP := Lib.hid hp
    clear hp
    by_cases hlt : k < l.length
    · obtain ⟨a, rfl, _, ca⟩ := HA.out.num (List.getElem?_eq_getElem hlt)
      cases hx : inB l[k] (-100000) 100000 with
      | true =>
        have HX := Lib.hid hx
        go_wp2_with (go_at_call 59; refine (refsize_any _ _ (by omega) (by omega) _).mono ?_; rintro e w' ⟨rfl, rfl⟩)
        go_round
        case rel => exact ⟨k + 1, by omega, by go_num, fun x hx => by
          rw [List.take_succ_eq_append_getElem hlt] at hx
          rcases List.mem_append.1 hx with h | h
          · exact HP.out x h
          · rw [List.mem_singleton.1 h]; exact HX.out⟩
        case measure => simp [intOf]; omega
      | false =>
        have HX := Lib.hid hx
        go_wp2_with (go_at_call 59; refine (refsize_any _ _ (by omega) (by omega) _).mono ?_; rintro e w' ⟨rfl, rfl⟩)
        go_ret
        exact ⟨ret_i64 (szE_no (List.getElem_mem hlt) HX.out).symm, rfl⟩
    · obtain rfl : k = l.length := by omega
      go_wp2_with fail
      go_ret
      exact ⟨ret_i64 (szE_yes (by simpa using HP.out)).symm, rfl⟩

theorem vE_sz (v : T3) : szE 100000 [v.a, v.b] = vE v := by
  unfold szE vE okT
  simp
theorem Lies.bk2 {w : World} {g : Nat} {t : TypeId} {a b : Value} (h : Bk w g t #[a, b]) : Lies w w.heap.size (some ⟨g, 0, none⟩) [a, b] := fun j u hu => by
  match j with
  | 0 => exact ⟨_, rfl, h.lt, by have := h.cell 0; simp at hu; subst hu; exact this⟩
  | 1 => exact ⟨_, rfl, h.lt, by have := h.cell 1; simp at hu; subst hu; exact this⟩
  | j + 2 => simp at hu

set_option maxHeartbeats 400000 in
theorem checkVector_any (v : T3) (w : World) : Calls Tryd.prog 75 #[(.agg #[.int .i64 v.a, .int .i64 v.b])] w fun e w' => e = .returned (.int .i64 (vE v)) ∧ Below w.heap.size w w' := by
  have B0 := Lib.hid (box2 w #[.int .i64 v.a, .int .i64 v.b] #[.int .i64 v.a, .int .i64 v.b] 24 3)
  have L0 := Lib.hid (Lies.bk2 (Bk.new1 w (.cells #[.int .i64 v.a, .int .i64 v.b] 24) 3 #[.int .i64 v.a, .int .i64 v.b]))
  go_enter Tryd.func75, Tryd.ntmps75
  go_wp2_with fail
  refine (checkSizes_any 100000 (by omega) [v.a, v.b] _ _ (by simp [maxLen]) _ L0.out).mono ?_
  rintro e w' ⟨rfl, rfl⟩
  rw [vE_sz]
  go_wp2_with fail
  go_ret
  exact ⟨rfl, B0.out⟩
end Go.Proofs.YtohldmmfnjfgmaaDoor
