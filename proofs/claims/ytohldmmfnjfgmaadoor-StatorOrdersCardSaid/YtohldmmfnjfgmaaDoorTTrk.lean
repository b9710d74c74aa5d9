
/-
  Tracks: plain words, and the walks of the functions that check them.
-/
import Derived.Test.YtohldmmfnjfgmaaDoorTVecF
import Derived.Test.YtohldmmfnjfgmaaDoorOwn
namespace Go.Proofs.YtohldmmfnjfgmaaDoor
open Go.RowKit

/-- The sum of f i, i below k. -/
def upTo (f : Nat → Int) : Nat → Int
  | 0 => 0
  | k + 1 => upTo f k + f k
theorem upTo_bound {f : Nat → Int} {M : Int} (h : ∀ i, -M ≤ f i ∧ f i ≤ M) : ∀ k : Nat, -((k : Int) * M) ≤ upTo f k ∧ upTo f k ≤ (k : Int) * M
  | 0 => by simp [upTo]
  | k + 1 => by
    have h1 := upTo_bound h k
    have h2 := h k
    have e : ((k + 1 : Nat) : Int) * M = (k : Int) * M + M := by push_cast; grind
    rw [upTo, e]
    omega
theorem upTo_pos {f : Nat → Int} (h : ∀ i, 0 ≤ f i) : ∀ k : Nat, 0 ≤ upTo f k
  | 0 => by simp [upTo]
  | k + 1 => by have := upTo_pos h k; have := h k; rw [upTo]; omega
theorem upTo_congr {f g : Nat → Int} : ∀ (k : Nat), (∀ i, i < k → f i = g i) → upTo f k = upTo g k
  | 0, _ => rfl
  | k + 1, h => by rw [upTo, upTo, upTo_congr k (fun i hi => h i (by omega)), h k (by omega)]

def lE (x : Int) : Int := if inB x 1 1000000 = true then 0 else 2
theorem lE_ok {x : Int} (h : inB x 1 1000000 = true) : lE x = 0 := by unfold lE; rw [if_pos h]
theorem lE_bad {x : Int} (h : inB x 1 1000000 = false) : lE x = 2 := by unfold lE; rw [if_neg (by rw [h]; simp)]
/-- The first error of a track, with its number. -/
def trkE (ls : List Int) : Int × Int := if ls.length = 0 then (0, 10) else if 12 < ls.length then (0, 8) else if (firstErr lE 0 ls).2 = 0 then (0, 0) else ((firstErr lE 0 ls).1, (firstErr lE 0 ls).2)
theorem trkE_ok {ls : List Int} (h0 : ls.length ≠ 0) (h1 : ls.length ≤ 12) (h : ∀ x ∈ ls, inB x 1 1000000 = true) : trkE ls = (0, 0) := by
  unfold trkE
  rw [if_neg h0, if_neg (by omega), firstErr_none lE ls 0 (fun x hx => lE_ok (h x hx)), if_pos rfl]
theorem trkE_at {ls : List Int} (h1 : ls.length ≤ 12) (n : Nat) (hn : n < ls.length) (h : ∀ i (hi : i < n), inB (ls[i]'(by omega)) 1 1000000 = true) (hb : inB ls[n] 1 1000000 = false) : trkE ls = ((n : Int), 2) := by
  unfold trkE
  rw [if_neg (by omega), if_neg (by omega), firstErr_hit lE ls 0 n hn (fun i hi => lE_ok (h i hi)) (by rw [lE_bad hb]; decide), if_neg (by rw [lE_bad hb]; show ¬ (2 : Int) = 0; decide), lE_bad hb]
  simp
theorem trk_cases (ls : List Int) : (trkE ls = (0, 0) ∧ ls.length ≠ 0 ∧ ls.length ≤ 12 ∧ ∀ x ∈ ls, inB x 1 1000000 = true) ∨ (trkE ls).2 ≠ 0 := by
  by_cases h0 : ls.length = 0
  · right; unfold trkE; rw [if_pos h0]; decide
  by_cases h1 : 12 < ls.length
  · right; unfold trkE; rw [if_neg h0, if_pos h1]; decide
  by_cases h : ∀ x ∈ ls, inB x 1 1000000 = true
  · left; exact ⟨trkE_ok h0 (by omega) h, h0, by omega, h⟩
  · right
    unfold trkE
    rw [if_neg h0, if_neg h1]
    split
    · rename_i he
      exfalso
      apply h
      intro x hx
      cases hb : inB x 1 1000000 with
      | true => rfl
      | false =>
        have hz : ∀ (l : List Int) (k : Nat), (firstErr lE k l).2 = 0 → ∀ y ∈ l, lE y = 0 := by
          intro l
          induction l with
          | nil => intro k _ y hy; simp at hy
          | cons a l ih =>
            intro k hk y hy
            rw [firstErr] at hk
            split at hk
            · rename_i ha
              rcases List.mem_cons.1 hy with rfl | hy
              · exact ha
              · exact ih _ hk y hy
            · rename_i ha; exact absurd hk ha
        have := hz ls 0 he x hx
        rw [lE_bad hb] at this
        cases this
    · assumption
/-- Where section k begins. -/
def begV (ls : List Int) (k : Nat) : Int := upTo (fun i => ls.getD i 0) k
theorem getD_in {ls : List Int} (h : ∀ x ∈ ls, inB x 1 1000000 = true) (i : Nat) : -1000000 ≤ ls.getD i 0 ∧ ls.getD i 0 ≤ 1000000 := by
  rw [List.getD_eq_getElem?_getD]
  by_cases hi : i < ls.length
  · rw [List.getElem?_eq_getElem hi]
    have := inB_iff.1 (h _ (List.getElem_mem hi))
    simp only [Option.getD_some]
    omega
  · rw [List.getElem?_eq_none (by omega)]
    simp
theorem begV_bound {ls : List Int} (h : ∀ x ∈ ls, inB x 1 1000000 = true) (k : Nat) (hk : k ≤ 14) : -14000000 ≤ begV ls k ∧ begV ls k ≤ 14000000 := by
  have := upTo_bound (f := fun i => ls.getD i 0) (getD_in h) k
  unfold begV
  omega
theorem begV_succ (ls : List Int) (k : Nat) (hk : k < ls.length) : begV ls (k + 1) = begV ls k + ls[k] := by
  unfold begV
  rw [upTo]
  simp [List.getD_eq_getElem?_getD, hk]

set_option maxHeartbeats 2000000 in
theorem CheckTrack_any (ls : List Int) (A : Option Addr) (c : Nat) (hl : ls.length ≤ maxLen) (w : World) (hA : Lies w w.heap.size A (ic ls)) :
    Calls Tryd.prog 94 #[.agg #[.slice A ls.length c]] w fun e w' => e = .returned (.tuple #[.int .i64 (trkE ls).1, .int .i64 (trkE ls).2]) ∧ Below w.heap.size w w' := by
  unfold maxLen at hl
  have B0 := Lib.hid (box1 w #[.slice A ls.length c] 92)
  have HA := Lib.hid (Lies.new hA (.cells #[.slice A ls.length c] 92))
  clear hA
  by_cases h0 : ls.length = 0
  · have he : Hid (trkE ls = (0, 10)) := Lib.hid (by unfold trkE; rw [if_pos h0])
    have h0' : ((ls.length : Int) == 0) = true := by simp [h0]
    have H0 := Lib.hid h0
    rw [he.out]
    clear h0
    go_enter Tryd.func94, Tryd.ntmps94
    go_wp2_with fail
    go_ret2
    exact ⟨rfl, B0.out⟩
  by_cases h1 : 12 < ls.length
  · have he : Hid (trkE ls = (0, 8)) := Lib.hid (by unfold trkE; rw [if_neg h0, if_pos h1])
    have h0' : ((ls.length : Int) == 0) = false := by simp only [beq_eq_false_iff_ne, ne_eq]; omega
    have h1' : (12 : Int) < ls.length := by omega
    rw [he.out]
    clear h0 h1
    go_enter Tryd.func94, Tryd.ntmps94
    go_wp2_with fail
    go_ret2
    exact ⟨rfl, B0.out⟩
  have h0' : ((ls.length : Int) == 0) = false := by simp only [beq_eq_false_iff_ne, ne_eq]; omega
  have h1' : ¬ (12 : Int) < ls.length := by omega
  have H0 := Lib.hid h0
  have H1 := Lib.hid h1
  clear h0 h1
  go_enter Tryd.func94, Tryd.ntmps94
  go_wp2_with fail
  go_loop [19] (fun i => ∃ k : Nat, k ≤ ls.length ∧ i = .int .i64 k ∧ ∀ j (hj : j < k) (hj' : j < ls.length), inB ls[j] 1 1000000 = true) (fun i => ls.length - (intOf i).toNat)
  case atStart => exact ⟨0, Nat.zero_le _, rfl, fun j hj => by omega⟩
  case round =>
    obtain ⟨k, hk, rfl, hp⟩ := hrel
    have HP := Lib.hid hp
    clear hp
    by_cases hlt : k < ls.length
    · obtain ⟨a, rfl, _, ca⟩ := HA.out.num (List.getElem?_eq_getElem hlt)
      cases hx : inB ls[k] 1 1000000 with
      | true =>
        have HX := Lib.hid hx
        go_wp2_with (go_at_call 60; refine (within_any _ _ _ _).mono ?_; rintro e w' ⟨rfl, rfl⟩; rw [HX.out])
        go_round
        case rel => exact ⟨k + 1, by omega, by go_num, fun j hj hj' => by
          by_cases e : j = k
          · subst e; exact HX.out
          · exact HP.out j (by omega) hj'⟩
        case measure => simp [intOf]; omega
      | false =>
        have HX := Lib.hid hx
        have he := Lib.hid (trkE_at (ls := ls) (by have := H1.out; omega) k hlt (fun j hj => HP.out j hj (by omega)) hx)
        clear hx
        go_wp2_with (go_at_call 60; refine (within_any _ _ _ _).mono ?_; rintro e w' ⟨rfl, rfl⟩; rw [HX.out])
        go_ret2
        exact ⟨by rw [he.out]; rfl, B0.out⟩
    · obtain rfl : k = ls.length := by omega
      have he := Lib.hid (trkE_ok H0.out (by have := H1.out; omega) (fun x hx => by obtain ⟨j, hj, rfl⟩ := List.getElem_of_mem hx; exact HP.out j hj hj))
      go_wp2_with fail
      go_ret2
      exact ⟨by rw [he.out]; rfl, B0.out⟩
end Go.Proofs.YtohldmmfnjfgmaaDoor
