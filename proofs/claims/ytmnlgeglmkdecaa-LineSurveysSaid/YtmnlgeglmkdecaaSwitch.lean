/-
  The walk of checkSwitch.
-/
import Derived.Test.YtmnlgeglmkdecaaName
import Derived.Test.YtmnlgeglmkdecaaSet
namespace Go.Proofs.Ytmnlgeglmkdecaa
open Go.RowKit

def sNames (before : List Ls) (l : Lit) : Bool := before.any fun t => l.sameKey (.string t.name.data.toList)
def sBent (before : List Ls) (l : Lit) : Bool := before.any fun t => (List.range t.across.length).any fun k => l.sameKey (.int .i64 (t.first + k))

theorem sNames_at (before : List Ls) (nm : List UInt8) : sNames before (.string nm) = before.any (fun t => nm == t.name.data.toList) := by
  unfold sNames; congr 1
theorem sBent_at (before : List Ls) (x : Int) : sBent before (.int .i64 x) = before.any (fun t => decide (t.first ≤ x) && decide (x < t.first + t.across.length)) := by
  unfold sBent
  congr 1
  funext t
  rw [Bool.eq_iff_iff]
  simp only [List.any_eq_true, List.mem_range, Bool.and_eq_true, decide_eq_true_eq]
  constructor
  · rintro ⟨k, hk, h⟩
    have : (Lit.int .i64 x) = .int .i64 (t.first + k) := (WideAt.sameKey_iff (by simp [WideAt.IsKeyLit])).1 h
    injection this with _ this
    omega
  · rintro ⟨h1, h2⟩
    refine ⟨(x - t.first).toNat, by omega, (WideAt.sameKey_iff (by simp [WideAt.IsKeyLit])).2 ?_⟩
    rw [show t.first + ((x - t.first).toNat : Int) = x from by omega]

/-- Switches that are right as far as their joints go. -/
def Fit (n : Int) (t : Ls) : Prop := 1 ≤ t.first ∧ t.first ≤ n - t.across.length ∧ 1 ≤ t.across.length

theorem sErr_4 {n : Int} {b : List Ls} {s : Ls} (h : nameB s.name.data.toList = false) : sErr n b s = 4 := by simp [sErr, h]
theorem sErr_5 {n : Int} {b : List Ls} {s : Ls} (h : nameB s.name.data.toList = true) (h' : sNames b (.string s.name.data.toList) = true) : sErr n b s = 5 := by
  rw [sNames_at] at h'
  unfold sErr; rw [if_neg (by rw [h]; simp), if_pos h']
theorem sErr_10 {n : Int} {b : List Ls} {s : Ls} (h : nameB s.name.data.toList = true) (h' : sNames b (.string s.name.data.toList) = false) (h2 : s.across.length = 0) : sErr n b s = 10 := by
  rw [sNames_at] at h'
  unfold sErr; rw [if_neg (by rw [h]; simp), if_neg (by rw [h']; simp), if_pos h2]
theorem sErr_6 {n : Int} {b : List Ls} {s : Ls} (h : nameB s.name.data.toList = true) (h' : sNames b (.string s.name.data.toList) = false) (h2 : s.across.length ≠ 0) (h3 : ¬ (1 ≤ s.first ∧ s.first ≤ n - s.across.length)) : sErr n b s = 6 := by
  rw [sNames_at] at h'
  unfold sErr; rw [if_neg (by rw [h]; simp), if_neg (by rw [h']; simp), if_neg h2, if_pos h3]
theorem sErr_2 {n : Int} {b : List Ls} {s : Ls} (h : nameB s.name.data.toList = true) (h' : sNames b (.string s.name.data.toList) = false) (h2 : s.across.length ≠ 0) (h3 : 1 ≤ s.first ∧ s.first ≤ n - s.across.length)
    {k : Nat} (hk : k < s.across.length) (hx : inB s.across[k] (-20000) 20000 = false) : sErr n b s = 2 := by
  rw [sNames_at] at h'
  unfold sErr; rw [if_neg (by rw [h]; simp), if_neg (by rw [h']; simp), if_neg h2, if_neg (by simpa using h3), if_pos (by rw [List.any_eq_true]; exact ⟨_, List.getElem_mem hk, by simp [hx]⟩)]
theorem sErr_13 {n : Int} {b : List Ls} {s : Ls} (h : nameB s.name.data.toList = true) (h' : sNames b (.string s.name.data.toList) = false) (h2 : s.across.length ≠ 0) (h3 : 1 ≤ s.first ∧ s.first ≤ n - s.across.length)
    (ha : ∀ (i : Nat) (hi : i < s.across.length), inB s.across[i] (-20000) 20000 = true) {k : Nat} (hk : k < s.across.length) (hx : sBent b (.int .i64 (s.first + k)) = true) : sErr n b s = 13 := by
  rw [sNames_at] at h'
  rw [sBent_at, List.any_eq_true] at hx
  obtain ⟨t, ht, hx⟩ := hx
  simp only [Bool.and_eq_true, decide_eq_true_eq] at hx
  unfold sErr
  rw [if_neg (by rw [h]; simp), if_neg (by rw [h']; simp), if_neg h2, if_neg (by simpa using h3), if_neg, if_pos]
  · rw [List.any_eq_true]; exact ⟨t, ht, by simp only [Bool.and_eq_true, decide_eq_true_eq]; omega⟩
  · rw [List.any_eq_true]; rintro ⟨x, hx, hh⟩
    obtain ⟨i, hi, rfl⟩ := List.getElem_of_mem hx
    simp [ha i hi] at hh
theorem sErr_0 {n : Int} {b : List Ls} {s : Ls} (hb : ∀ t ∈ b, Fit n t) (h : nameB s.name.data.toList = true) (h' : sNames b (.string s.name.data.toList) = false) (h2 : s.across.length ≠ 0) (h3 : 1 ≤ s.first ∧ s.first ≤ n - s.across.length)
    (ha : ∀ (i : Nat) (hi : i < s.across.length), inB s.across[i] (-20000) 20000 = true) (hx : ∀ (k : Nat), k < s.across.length → sBent b (.int .i64 (s.first + k)) = false) : sErr n b s = 0 := by
  rw [sNames_at] at h'
  unfold sErr
  rw [if_neg (by rw [h]; simp), if_neg (by rw [h']; simp), if_neg h2, if_neg (by simpa using h3), if_neg, if_neg]
  · rw [List.any_eq_true]; rintro ⟨t, ht, hh⟩
    simp only [Bool.and_eq_true, decide_eq_true_eq] at hh
    obtain ⟨f1, f2, f3⟩ := hb t ht
    have key : ∃ k : Nat, k < s.across.length ∧ t.first ≤ s.first + k ∧ s.first + k < t.first + t.across.length := by
      by_cases hc : t.first ≤ s.first
      · exact ⟨0, by omega, by omega, by omega⟩
      · exact ⟨(t.first - s.first).toNat, by omega, by omega, by omega⟩
    obtain ⟨k, hk, k1, k2⟩ := key
    have := hx k hk
    rw [sBent_at, List.any_eq_false] at this
    exact this t ht (by simp only [Bool.and_eq_true, decide_eq_true_eq]; omega)
  · rw [List.any_eq_true]; rintro ⟨x, hx, hh⟩
    obtain ⟨i, hi, rfl⟩ := List.getElem_of_mem hx
    simp [ha i hi] at hh

set_option maxHeartbeats 2000000 in
set_option maxRecDepth 100000 in
theorem checkSwitch_any (s : Ls) (h : Hd) (hn : s.name.size ≤ 1000) (hl : s.across.length ≤ 1000) (last : Int) (l1 : 0 ≤ last) (l2 : last ≤ 1000) (before : List Ls) (hF : ∀ t ∈ before, Fit (last + 1) t)
    (bn bb N M : Nat) (w : World) (hN : SetAt w 9 4 bn N (sNames before)) (hM : SetAt w 3 4 bb M (sBent before)) (hA : Lies w w.heap.size h.A (ic s.across)) :
    Calls Try.prog 127 #[.agg #[.string s.name, .int .i64 s.first, .slice h.A s.across.length h.c], .int .i64 last, .map (some bn), .map (some bb)] w
      fun e w' => e = .returned (.int .i64 (sErr (last + 1) before s)) ∧ Below w.heap.size w w' := by
  obtain ⟨A, c⟩ := h
  have hb := (Below.refl w.heap.size w).alloc (Nat.le_refl _) (.cells #[.string s.name, .int .i64 s.first, .slice A s.across.length c] 113)
  have HF := Lib.hid hF
  have HB := Lib.hid hb
  have HN := Lib.hid (hN.alloc (.cells #[.string s.name, .int .i64 s.first, .slice A s.across.length c] 113))
  have HM := Lib.hid (hM.alloc (.cells #[.string s.name, .int .i64 s.first, .slice A s.across.length c] 113))
  have HA := Lib.hid (hA.below hb)
  have hs := small_max hn
  clear hF hb hN hM hA
  cases h1 : nameB s.name.data.toList with
  | false =>
    have hr := Lib.hid (sErr_4 (n := last + 1) (b := before) h1)
    go_enter Try.func127, Try.ntmps127
    go_wp2_with (go_at_call 125; refine (isName_any _ hs _).mono ?_; rintro e w' ⟨rfl, rfl⟩)
    go_ret
    exact ⟨ret_i64 hr.out.symm, HB.out⟩
  | true =>
  have hk1 := WideMaps.keyOf_string_mk (P := Try.prog) Try.underlying9 hs
  have HK1 := Lib.hid hk1
  clear hk1
  cases h2 : sNames before (.string s.name.data.toList) with
  | true =>
    have hr := Lib.hid (sErr_5 (n := last + 1) h1 h2)
    go_enter Try.func127, Try.ntmps127
    go_wp2_with (first | (go_at_call 125; refine (isName_any _ hs _).mono ?_; rintro e w' ⟨rfl, rfl⟩) | (at_lookup; refine wpList_lookup_set _ rfl _ _ 155 rfl 9 4 skeys Try.underlying155 Try.underlying4 zeroBool bn N _ rfl HN.out _ _ rfl HK1.out ?_))
    go_ret
    exact ⟨ret_i64 hr.out.symm, HB.out⟩
  | false =>
  by_cases h3 : s.across.length = 0
  · have hr := Lib.hid (sErr_10 (n := last + 1) h1 h2 h3)
    have g3 : ((s.across.length : Int) == 0) = true := beq_iff_eq.2 (by omega)
    clear h3
    go_enter Try.func127, Try.ntmps127
    go_wp2_with (first | (go_at_call 125; refine (isName_any _ hs _).mono ?_; rintro e w' ⟨rfl, rfl⟩) | (at_lookup; refine wpList_lookup_set _ rfl _ _ 155 rfl 9 4 skeys Try.underlying155 Try.underlying4 zeroBool bn N _ rfl HN.out _ _ rfl HK1.out ?_))
    go_ret
    exact ⟨ret_i64 hr.out.symm, HB.out⟩
  have g3 : ((s.across.length : Int) == 0) = false := beq_eq_false_iff_ne.2 (by omega)
  by_cases h4 : 1 ≤ s.first ∧ s.first ≤ last
  case neg =>
    have hr := Lib.hid (sErr_6 (n := last + 1) h1 h2 h3 (by omega))
    have g4 : inB s.first 1 last = false := by rw [← Bool.not_eq_true, inB_iff]; exact h4
    clear h4
    go_enter Try.func127, Try.ntmps127
    go_wp2_with (first | (go_at_call 110; refine (within_any _ _ _ _).mono ?_; rintro e w' ⟨rfl, rfl⟩) | (go_at_call 125; refine (isName_any _ hs _).mono ?_; rintro e w' ⟨rfl, rfl⟩) | (at_lookup; refine wpList_lookup_set _ rfl _ _ 155 rfl 9 4 skeys Try.underlying155 Try.underlying4 zeroBool bn N _ rfl HN.out _ _ rfl HK1.out ?_))
    go_ret
    exact ⟨ret_i64 hr.out.symm, HB.out⟩
  have g4 : inB s.first 1 last = true := inB_iff.2 h4
  obtain ⟨h5, h6⟩ := h4
  by_cases h7 : last - s.first + 1 < s.across.length
  · have hr := Lib.hid (sErr_6 (n := last + 1) h1 h2 h3 (by omega))
    go_enter Try.func127, Try.ntmps127
    go_wp2_with (first | (go_at_call 110; refine (within_any _ _ _ _).mono ?_; rintro e w' ⟨rfl, rfl⟩) | (go_at_call 125; refine (isName_any _ hs _).mono ?_; rintro e w' ⟨rfl, rfl⟩) | (at_lookup; refine wpList_lookup_set _ rfl _ _ 155 rfl 9 4 skeys Try.underlying155 Try.underlying4 zeroBool bn N _ rfl HN.out _ _ rfl HK1.out ?_))
    go_ret
    exact ⟨ret_i64 hr.out.symm, HB.out⟩
  have h8 : 1 ≤ s.first ∧ s.first ≤ last + 1 - s.across.length := by omega
  have H8 := Lib.hid h8
  have H3 := Lib.hid h3
  clear h8
  obtain ⟨ad, hA'⟩ : ∃ a, A = some a := by
    obtain ⟨a, e, _⟩ := HA.out.num (List.getElem?_eq_getElem (show 0 < s.across.length by omega)); exact ⟨a, e⟩
  subst hA'
  clear h3
  go_enter Try.func127, Try.ntmps127
  go_wp2_with (first | (go_at_call 110; refine (within_any _ _ _ _).mono ?_; rintro e w' ⟨rfl, rfl⟩) | (go_at_call 125; refine (isName_any _ hs _).mono ?_; rintro e w' ⟨rfl, rfl⟩) | (at_lookup; refine wpList_lookup_set _ rfl _ _ 155 rfl 9 4 skeys Try.underlying155 Try.underlying4 zeroBool bn N _ rfl HN.out _ _ rfl HK1.out ?_))
  go_loop [47] (fun i => ∃ k : Nat, k ≤ s.across.length ∧ i = .int .i64 k ∧ ∀ (i : Nat) (hi : i < k) (hl : i < s.across.length), inB s.across[i] (-20000) 20000 = true) (fun i => s.across.length - (intOf i).toNat)
  case atStart => exact ⟨0, Nat.zero_le _, rfl, fun i hi => absurd hi (by omega)⟩
  case round =>
    obtain ⟨k, hk, rfl, hz⟩ := hrel
    have HZ := Lib.hid hz
    clear hz
    by_cases hlt : k < s.across.length
    · obtain ⟨a', ha', _, j0⟩ := HA.out.num (List.getElem?_eq_getElem hlt)
      simp only [Option.some.injEq] at ha'
      subst ha'
      cases hx : inB s.across[k] (-20000) 20000 with
      | false =>
        have hr := Lib.hid (sErr_2 (n := last + 1) h1 h2 H3.out H8.out hlt hx)
        go_wp2_with (go_at_call 126; refine (exceeds_any _ _ (by omega) (by omega) _).mono ?_; rintro e w' ⟨rfl, rfl⟩)
        go_ret
        exact ⟨ret_i64 hr.out.symm, HB.out⟩
      | true =>
        have HX := Lib.hid hx
        go_wp2_with (go_at_call 126; refine (exceeds_any _ _ (by omega) (by omega) _).mono ?_; rintro e w' ⟨rfl, rfl⟩)
        go_round
        case rel => exact ⟨k + 1, by omega, by go_num, fun i hi hl => if h : i = k then (by subst h; exact HX.out) else HZ.out i (by omega) hl⟩
        case measure => simp [intOf]; omega
    · have HZ' : Hid (∀ (i : Nat) (hi : i < s.across.length), inB s.across[i] (-20000) 20000 = true) := Lib.hid (fun i hi => HZ.out i (by omega) hi)
      clear HZ
      go_wp2_with fail
      go_loop [57] (fun i => ∃ k : Nat, k ≤ s.across.length ∧ i = .int .i64 k ∧ ∀ (i : Nat) (hi : i < k), sBent before (.int .i64 (s.first + i)) = false) (fun i => s.across.length - (intOf i).toNat)
      case atStart => exact ⟨0, Nat.zero_le _, rfl, fun i hi => absurd hi (by omega)⟩
      case round =>
        obtain ⟨q, hq, rfl, hz⟩ := hrel
        have HZ := Lib.hid hz
        clear hz
        by_cases hlt : q < s.across.length
        · have hk2 := Maps.keyOf_int_mk (P := Try.prog) Try.underlying3 (a := s.first + q) (q := .i64) (WalkArith.wf_i64 (by omega))
          have HK2 := Lib.hid hk2
          clear hk2
          cases hx : sBent before (.int .i64 (s.first + q)) with
          | true =>
            have hr := Lib.hid (sErr_13 (n := last + 1) h1 h2 H3.out H8.out HZ'.out hlt hx)
            go_wp2_with (at_lookup; refine wpList_lookup_set _ rfl _ _ 156 rfl 3 4 ikeys Try.underlying156 Try.underlying4 zeroBool bb M _ rfl HM.out _ _ rfl HK2.out ?_; rw [hx])
            go_ret
            exact ⟨ret_i64 hr.out.symm, HB.out⟩
          | false =>
            have HX := Lib.hid hx
            go_wp2_with (at_lookup; refine wpList_lookup_set _ rfl _ _ 156 rfl 3 4 ikeys Try.underlying156 Try.underlying4 zeroBool bb M _ rfl HM.out _ _ rfl HK2.out ?_; rw [hx])
            go_round
            case rel => exact ⟨q + 1, by omega, by go_num, fun i hi => if h : i = q then (by subst h; exact HX.out) else HZ.out i (by omega)⟩
            case measure => simp [intOf]; omega
        · have hr := Lib.hid (sErr_0 HF.out h1 h2 H3.out H8.out HZ'.out (fun i hi => HZ.out i (by omega)))
          clear HZ
          go_wp2_with fail
          go_ret
          exact ⟨ret_i64 hr.out.symm, HB.out⟩
end Go.Proofs.Ytmnlgeglmkdecaa
