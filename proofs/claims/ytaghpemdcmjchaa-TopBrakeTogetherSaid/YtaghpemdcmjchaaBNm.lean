
/-
  The walks of names.
-/
import Derived.Test.YtaghpemdcmjchaaBLeaf
namespace Go.Proofs.Ytaghpemdcmjchaa
open Go.RowKit

theorem letB_iff (c : UInt8) : letB c = true ↔ (97 ≤ (c.toNat : Int) ∧ (c.toNat : Int) ≤ 122 ∨ 65 ≤ (c.toNat : Int) ∧ (c.toNat : Int) ≤ 90) := by
  simp only [letB, Bool.or_eq_true, Bool.and_eq_true, decide_eq_true_eq]
theorem chB_iff (c : UInt8) : chB c = true ↔ (97 ≤ (c.toNat : Int) ∧ (c.toNat : Int) ≤ 122 ∨ 65 ≤ (c.toNat : Int) ∧ (c.toNat : Int) ≤ 90 ∨ 48 ≤ (c.toNat : Int) ∧ (c.toNat : Int) ≤ 57 ∨ (c.toNat : Int) = 45) := by
  simp only [chB, letB, digB, Bool.or_eq_true, Bool.and_eq_true, decide_eq_true_eq, beq_iff_eq]
  omega
theorem nameB_small {s : ByteArray} (h : s.size = 0) : nameB s.data.toList = false := by
  have : s.data.toList = [] := List.eq_nil_of_length_eq_zero (by simpa using h)
  simp [nameB, this]
theorem nameB_large {s : ByteArray} (h : 12 < s.size) : nameB s.data.toList = false := by
  simp only [nameB, Bool.and_eq_false_iff, decide_eq_false_iff_not]
  left; left; right
  simp; exact h
theorem nameB_head {s : ByteArray} (h : 0 < s.size) (h' : letB s[0] = false) : nameB s.data.toList = false := by
  obtain ⟨⟨l⟩⟩ := s
  cases l with
  | nil => exact absurd h (by decide)
  | cons c l =>
    change letB c = false at h'
    simp [nameB, h']
theorem nameB_bad {s : ByteArray} {k : Nat} (h : k < s.size) (h' : chB s[k] = false) : nameB s.data.toList = false := by
  simp only [nameB, Bool.and_eq_false_iff]
  right
  rw [List.all_eq_false]
  exact ⟨s[k], by show s.data[k] ∈ _; simp, by simp [h']⟩
theorem nameB_good {s : ByteArray} (h : 0 < s.size) (h12 : s.size ≤ 12) (h' : letB s[0] = true) (ha : ∀ i (hi : i < s.size), chB s[i] = true) : nameB s.data.toList = true := by
  simp only [nameB, Bool.and_eq_true, decide_eq_true_eq, List.all_eq_true]
  refine ⟨⟨⟨by simp; exact h, by simp; exact h12⟩, ?_⟩, ?_⟩
  · obtain ⟨⟨l⟩⟩ := s
    cases l with
    | nil => exact absurd h (by decide)
    | cons c l => exact h'
  · intro c hc
    obtain ⟨i, hi, rfl⟩ := List.getElem_of_mem hc
    exact ha i (by simpa using hi)

set_option maxHeartbeats 1000000 in
theorem isName_any (s : ByteArray) (hs : s.size ≤ maxLen) (w : World) : Calls Try.prog 44 #[.string s] w fun e w' => e = .returned (.bool (nameB s.data.toList)) ∧ w = w' := by
  unfold maxLen at hs
  by_cases h0 : s.size = 0
  · have Hr := Lib.hid (nameB_small h0)
    have hE : s.toList.isEmpty = true := by rw [ByteArray.toList_eq, List.eq_nil_of_length_eq_zero (l := s.data.toList) (by simpa using h0)]; rfl
    clear h0
    go_enter Try.func44, Try.ntmps44
    go_wp2
    go_ret
    exact ⟨ret_bool Hr.out.symm, rfl⟩
  have hp : 0 < s.size := by omega
  have hE : s.toList.isEmpty = false := by
    rw [ByteArray.toList_eq]
    cases hl : s.data.toList with
    | nil => exact absurd (show s.size = 0 by have := congrArg List.length hl; simpa using this) h0
    | cons _ _ => rfl
  clear h0
  by_cases h12 : 12 < s.size
  · have Hr := Lib.hid (nameB_large h12)
    go_enter Try.func44, Try.ntmps44
    go_wp2
    go_ret
    exact ⟨ret_bool Hr.out.symm, rfl⟩
  cases hl : letB s[0] with
  | false =>
    have Hr := Lib.hid (nameB_head hp hl)
    go_enter Try.func44, Try.ntmps44
    go_wp2_with (go_at_call 49; refine (isLetter_any _ _).mono ?_; rintro e w' ⟨rfl, rfl⟩)
    go_ret
    exact ⟨ret_bool Hr.out.symm, rfl⟩
  | true =>
    go_enter Try.func44, Try.ntmps44
    go_wp2_with (go_at_call 49; refine (isLetter_any _ _).mono ?_; rintro e w' ⟨rfl, rfl⟩)
    go_loop [19] (fun i => ∃ k : Nat, k ≤ s.size ∧ i = .int .i64 k ∧ ∀ i (hi : i < k) (hs : i < s.size), chB s[i] = true) (fun i => s.size - (intOf i).toNat)
    case atStart => exact ⟨0, Nat.zero_le _, rfl, fun i hi => absurd hi (by omega)⟩
    case round =>
      obtain ⟨k, hk, rfl, hall⟩ := hrel
      have Hall := Lib.hid hall
      clear hall
      by_cases hlt : k < s.size
      · cases c1 : letB s[k] <;> cases c2 : digB s[k] <;> by_cases c3 : ((s[k].toNat : Int) == 45) = true
        all_goals first | (have c4 : ((s[k].toNat : Int) != 45) = false := by simpa using c3) | (have c4 : ((s[k].toNat : Int) != 45) = true := by simpa using c3)
        all_goals
          go_wp2_with (first | (go_at_call 49; refine (isLetter_any _ _).mono ?_; rintro e w' ⟨rfl, rfl⟩) | (go_at_call 50; refine (isDigit_any _ _).mono ?_; rintro e w' ⟨rfl, rfl⟩))
          first
            | (go_ret
               exact ⟨ret_bool (nameB_bad hlt (by simp [chB, c1, c2]; simpa using c3)).symm, rfl⟩)
            | (go_round
               case rel => exact ⟨k + 1, by omega, by go_num, fun i hi his => if h : i = k then (by subst h; simp [chB, c1, c2]; try simpa using c3) else Hall.out i (by omega) his⟩
               case measure => simp [intOf]; omega)
      · have Hr := Lib.hid (nameB_good hp (by omega) hl (fun i hi => Hall.out i (by omega) hi))
        go_wp2
        go_ret
        exact ⟨ret_bool Hr.out.symm, rfl⟩


set_option maxHeartbeats 1000000 in
set_option maxRecDepth 100000 in
theorem IsName_any (s : ByteArray) (hs : s.size ≤ maxLen) (w : World) : Calls Try.prog 34 #[.string s] w fun e w' => e = .returned (.bool (nameB s.data.toList)) ∧ w = w' := by
  unfold maxLen at hs
  by_cases h0 : s.size = 0
  · have Hr := Lib.hid (nameB_small h0)
    have h1 : (s.size : Int) < 1 := by omega
    clear h0
    go_enter Try.func34, Try.ntmps34
    go_wp2
    go_ret
    exact ⟨ret_bool Hr.out.symm, rfl⟩
  have hp : 0 < s.size := by omega
  clear h0
  by_cases h12 : 12 < s.size
  · have Hr := Lib.hid (nameB_large h12)
    go_enter Try.func34, Try.ntmps34
    go_wp2
    go_ret
    exact ⟨ret_bool Hr.out.symm, rfl⟩
  go_enter Try.func34, Try.ntmps34
  go_wp2
  go_loop [3] (fun i => ∃ k : Nat, k ≤ s.size ∧ i = .int .i64 k ∧ (∀ i (hi : i < k) (hs : i < s.size), chB s[i] = true) ∧ (0 < k → letB s[0] = true)) (fun i => s.size - (intOf i).toNat)
  case atStart => exact ⟨0, Nat.zero_le _, rfl, fun i hi => absurd hi (by omega), fun h => absurd h (by omega)⟩
  case round =>
    obtain ⟨k, hk, rfl, hall, hl⟩ := hrel
    have Hall := Lib.hid hall
    have Hl := Lib.hid hl
    clear hall hl
    by_cases hlt : k < s.size
    · obtain ⟨c, hc⟩ : ∃ c, s[k] = c := ⟨_, rfl⟩
      have HC := Lib.hid hc
      have cb : (c.toNat : Int) ≤ 255 := by have := c.toNat_lt; omega
      have hd := Lib.hid (chB_iff c)
      have hle := Lib.hid (letB_iff c)
      have hs0 : Hid (k = 0 → s[0] = c) := Lib.hid (fun h => by subst h; exact hc)
      by_cases hbad : ¬ (97 ≤ (c.toNat : Int) ∧ (c.toNat : Int) ≤ 122 ∨ 65 ≤ (c.toNat : Int) ∧ (c.toNat : Int) ≤ 90 ∨ 48 ≤ (c.toNat : Int) ∧ (c.toNat : Int) ≤ 57 ∨ (c.toNat : Int) = 45)
      · have Hr := Lib.hid (nameB_bad hlt (by rw [HC.out]; cases e : chB c with | false => rfl | true => exact absurd (hd.out.1 e) hbad))
        have hcls : (c.toNat : Int) ≤ 44 ∨ (46 ≤ (c.toNat : Int) ∧ (c.toNat : Int) ≤ 47) ∨ (58 ≤ (c.toNat : Int) ∧ (c.toNat : Int) ≤ 64) ∨ (91 ≤ (c.toNat : Int) ∧ (c.toNat : Int) ≤ 96) ∨ 123 ≤ (c.toNat : Int) := by omega
        clear hbad
        rcases hcls with h | ⟨h, h'⟩ | ⟨h, h'⟩ | ⟨h, h'⟩ | h
        all_goals
          have c45 : ((c.toNat : Int) != 45) = true := by rw [bne_iff_ne]; omega
          first | (have d90 : decide ((c.toNat : Int) ≤ 90) = true := decide_eq_true (by omega)) | (have d90 : decide ((c.toNat : Int) ≤ 90) = false := decide_eq_false (by omega))
          first | (have d122 : decide ((c.toNat : Int) ≤ 122) = true := decide_eq_true (by omega)) | (have d122 : decide ((c.toNat : Int) ≤ 122) = false := decide_eq_false (by omega))
          by_cases hk0 : k ≤ 0
          · have k2 : ((k : Int) == 0) = true := beq_iff_eq.2 (by omega)
            go_wp2
            all_goals first | (go_ret; exact ⟨ret_bool Hr.out.symm, rfl⟩) | (exfalso; omega)
          · have k2 : ((k : Int) == 0) = false := beq_eq_false_iff_ne.2 (by omega)
            go_wp2
            all_goals first | (go_ret; exact ⟨ret_bool Hr.out.symm, rfl⟩) | (exfalso; omega)
      · have Hg := Lib.hid (hd.out.2 (Classical.not_not.1 hbad))
        have hcls : (97 ≤ (c.toNat : Int) ∧ (c.toNat : Int) ≤ 122 ∨ 65 ≤ (c.toNat : Int) ∧ (c.toNat : Int) ≤ 90) ∨ (48 ≤ (c.toNat : Int) ∧ (c.toNat : Int) ≤ 57 ∨ 45 ≤ (c.toNat : Int) ∧ (c.toNat : Int) ≤ 45) := by omega
        clear hbad
        rcases hcls with hl2 | hl2
        · have HL := Lib.hid (hle.out.2 hl2)
          rcases hl2 with ⟨h, h'⟩ | ⟨h, h'⟩
          all_goals
            go_wp2
            go_round
            case rel => exact ⟨k + 1, by omega, by go_num, fun i hi his => if h : i = k then (by subst h; rw [HC.out]; exact Hg.out) else Hall.out i (by omega) his, fun _ => if h : k = 0 then (by rw [hs0.out h]; exact HL.out) else Hl.out (by omega)⟩
            case measure => simp [intOf]; omega
        · by_cases hk0 : k ≤ 0
          · have Hr := Lib.hid (nameB_head hp (by rw [hs0.out (by omega)]; cases e : letB c with | false => rfl | true => have := hle.out.1 e; omega))
            rcases hl2 with ⟨h, h'⟩ | ⟨h, h'⟩
            all_goals
              go_wp2
              go_ret
              exact ⟨ret_bool Hr.out.symm, rfl⟩
          · have k2 : ((k : Int) == 0) = false := beq_eq_false_iff_ne.2 (by omega)
            rcases hl2 with ⟨h, h'⟩ | ⟨h, h'⟩
            all_goals
              first | (have c45 : ((c.toNat : Int) != 45) = true := by rw [bne_iff_ne]; omega) | (have c45 : ((c.toNat : Int) != 45) = false := by rw [bne_eq_false_iff_eq]; omega)
              go_wp2
              go_round
              case rel => exact ⟨k + 1, by omega, by go_num, fun i hi his => if h : i = k then (by subst h; rw [HC.out]; exact Hg.out) else Hall.out i (by omega) his, fun _ => Hl.out (by omega)⟩
              case measure => simp [intOf]; omega
    · have Hr := Lib.hid (nameB_good hp (by omega) (Hl.out (by omega)) (fun i hi => Hall.out i (by omega) hi))
      go_wp2
      go_ret
      exact ⟨ret_bool Hr.out.symm, rfl⟩
end Go.Proofs.Ytaghpemdcmjchaa
