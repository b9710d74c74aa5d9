
/-
  Tracks and systems in memory, and the walks of the functions that check them, the program's and the reference's.
-/
import Derived.Test.YtaghpemdcmjchaaBNm
import Derived.Deep.Light
namespace Go.Proofs.Ytaghpemdcmjchaa
open Go.RowKit

/-- The cells of a piece. -/
def pc (p : Bp) : List Value := [.int .i64 p.len, .int .i64 p.grad, .int .i64 p.lim, .bool p.lv]
section
variable {w w' : World} {B B' : Nat} {A : Option Addr}
theorem Lies.piece {ps : List Bp} {i : Nat} {p : Bp} (h : Lies w B A (ps.flatMap pc)) (hj : ps[i]? = some p) :
    ∃ a, A = some a ∧ a.block < B ∧ w.cell? (a.add (i * 4)) = some (.int .i64 p.len) ∧ w.cell? ⟨(a.add (i * 4)).block, (a.add (i * 4)).off + 1, none⟩ = some (.int .i64 p.grad) ∧
      w.cell? ⟨(a.add (i * 4)).block, (a.add (i * 4)).off + 2, none⟩ = some (.int .i64 p.lim) ∧ w.cell? ⟨(a.add (i * 4)).block, (a.add (i * 4)).off + 3, none⟩ = some (.bool p.lv) := by
  have f := fun k (hk : k < 4) => flat_at pc 4 (fun _ => rfl) ps i k hk
  simp only [hj, Option.bind_some] at f
  obtain ⟨a, e, hb, h0⟩ := h _ _ (f 0 (by omega))
  obtain ⟨a1, e1, _, h1⟩ := h _ _ (f 1 (by omega))
  obtain ⟨a2, e2, _, h2⟩ := h _ _ (f 2 (by omega))
  obtain ⟨a3, e3, _, h3⟩ := h _ _ (f 3 (by omega))
  obtain rfl : a = a1 := by rw [e] at e1; injection e1
  obtain rfl : a = a2 := by rw [e] at e2; injection e2
  obtain rfl : a = a3 := by rw [e] at e3; injection e3
  rw [add_off _ _ _ (by omega)] at h1 h2 h3
  exact ⟨a, e, hb, h0, h1, h2, h3⟩
end
/-- What lies below a call's world lies there still. -/
theorem Fr.lies {w W : World} {bs : List (Nat × TypeId × Array Value)} {A : Option Addr} {vs : List Value} (hA : Lies w w.heap.size A vs) (h : Fr w W bs) : Lies W W.heap.size A vs := (hA.below h.bl).more h.bl.size
theorem ps_some {ps : List Bp} {w : World} {B : Nat} {A : Option Addr} (h : Lies w B A (ps.flatMap pc)) (h0 : ps.length ≠ 0) : ∃ a, A = some a := by
  obtain ⟨a, e, _⟩ := h.piece (i := 0) (List.getElem?_eq_getElem (by omega)); exact ⟨a, e⟩

set_option maxHeartbeats 4000000 in
set_option maxRecDepth 100000 in
theorem CheckTrack_any (s : ByteArray) (hs : s.size ≤ maxLen) (ps : List Bp) (A : Option Addr) (c : Nat) (hl : ps.length ≤ maxLen) (w : World) (hA : Lies w w.heap.size A (ps.flatMap pc)) :
    Calls Try.prog 32 #[.agg #[.string s, .slice A ps.length c]] w fun e w' => e = .returned (.tuple #[.int .i64 (trE s ps).1, .int .i64 (trE s ps).2]) ∧ Below w.heap.size w w' := by
  have hl' := hl
  unfold maxLen at hl'
  have F0 := Lib.hid (Fr.b1 w 24 #[.string s, .slice A ps.length c])
  have HA := Lib.hid hA
  clear hA
  cases hn : nameB s.data.toList with
  | false =>
    have he := Lib.hid (trE_name (ps := ps) hn)
    have HN := Lib.hid hn
    rw [he.out]
    clear hn
    go_enter Try.func32, Try.ntmps32
    go_wp2_with (go_at_call 44; refine (isName_any s hs _).mono ?_; rintro e w' ⟨rfl, rfl⟩; rw [HN.out])
    go_ret2
    exact ⟨rfl, F0.out.bl⟩
  | true =>
  by_cases h0 : ps.length = 0
  · have he := Lib.hid (trE_none hn h0)
    have HN := Lib.hid hn
    have h0' : ((ps.length : Int) == 0) = true := by simp [h0]
    rw [he.out]
    clear hn h0
    go_enter Try.func32, Try.ntmps32
    go_wp2_with (go_at_call 44; refine (isName_any s hs _).mono ?_; rintro e w' ⟨rfl, rfl⟩; rw [HN.out])
    go_ret2
    exact ⟨rfl, F0.out.bl⟩
  by_cases h1 : 12 < ps.length
  · have he := Lib.hid (trE_many hn h1)
    have HN := Lib.hid hn
    have h0' : ((ps.length : Int) == 0) = false := by simp only [beq_eq_false_iff_ne, ne_eq]; omega
    have h1' : (12 : Int) < ps.length := by omega
    rw [he.out]
    clear hn h0 h1
    go_enter Try.func32, Try.ntmps32
    go_wp2_with (go_at_call 44; refine (isName_any s hs _).mono ?_; rintro e w' ⟨rfl, rfl⟩; rw [HN.out])
    go_ret2
    exact ⟨rfl, F0.out.bl⟩
  have HN := Lib.hid hn
  have h0' : ((ps.length : Int) == 0) = false := by simp only [beq_eq_false_iff_ne, ne_eq]; omega
  have h1' : ¬ (12 : Int) < ps.length := by omega
  have H0 := Lib.hid h0
  have H1 := Lib.hid h1
  obtain ⟨a, rfl⟩ := ps_some HA.out h0
  clear hn h0 h1
  go_enter Try.func32, Try.ntmps32
  go_wp2_with (go_at_call 44; refine (isName_any s hs _).mono ?_; rintro e w' ⟨rfl, rfl⟩; rw [HN.out])
  go_loopw [24] (fun i wr => ∃ k : Nat, k ≤ ps.length ∧ i = .int .i64 k ∧ (∀ j (hj : j < k) (hj' : j < ps.length), okP ps[j] = true) ∧ Fr w wr [(w.heap.size, 24, #[.string s, .slice (some a) ps.length c])]) (fun i _ => ps.length - (intOf i).toNat)
  case atStart => exact ⟨0, Nat.zero_le _, rfl, fun j hj => absurd hj (by omega), F0.out⟩
  case round =>
    obtain ⟨k, hk, rfl, hp, hf⟩ := hrel
    have HP := Lib.hid hp
    have FK := Lib.hid hf
    obtain ⟨x0, x1, _, _⟩ := hf.top.two
    clear hp hf F0
    by_cases hlt : k < ps.length
    · obtain ⟨a2, ea, _, c0, c1, c2, c3⟩ := (Fr.lies HA.out FK.out).piece (List.getElem?_eq_getElem hlt)
      simp only [Option.some.injEq] at ea
      subst ea
      obtain ⟨p, hp⟩ : ∃ p, ps[k] = p := ⟨_, rfl⟩
      rw [hp] at c0 c1 c2 c3
      have HPK := Lib.hid hp
      clear hp
      have FN := Lib.hid (FK.out.new (.cells #[.int .i64 p.len, .int .i64 p.grad, .int .i64 p.lim, .bool p.lv] 54))
      cases e1 : inB p.len 1 10000000 <;> cases e2 : inB p.grad (-100) 100 <;> cases e3 : inB p.lim 0 20000000000
      case true.true.true =>
        have HX : Hid (okP p = true) := Lib.hid (by simp [okP, e1, e2, e3])
        have E1 := Lib.hid e1
        have E2 := Lib.hid e2
        have E3 := Lib.hid e3
        clear e1 e2 e3
        go_wp2_with (first | (go_at_call 36; refine (within_any _ _ _ _).mono ?_; rintro e w' ⟨rfl, rfl⟩; (first | rw [E1.out] | rw [E2.out] | rw [E3.out])) | (go_at_call 45; refine (isSquare_any _ _).mono ?_; rintro e w' ⟨rfl, rfl⟩; rw [E3.out]) | fail "call")
        go_roundw
        case rel => exact ⟨k + 1, by omega, by go_num, fun j hj hj' => by
          by_cases e : j = k
          · subst e; rw [HPK.out]; exact HX.out
          · exact HP.out j (by omega) hj', FN.out⟩
        case measure => simp [intOf]; omega
      all_goals
        have he := Lib.hid (trE_at (s := s) HN.out (by have := H1.out; omega) k hlt (fun j hj => HP.out j hj (by omega)) (by rw [HPK.out]; simp [okP, e1, e2, e3]))
        have E1 := Lib.hid e1
        have E2 := Lib.hid e2
        have E3 := Lib.hid e3
        clear e1 e2 e3
        go_wp2_with (first | (go_at_call 36; refine (within_any _ _ _ _).mono ?_; rintro e w' ⟨rfl, rfl⟩; (first | rw [E1.out] | rw [E2.out] | rw [E3.out])) | (go_at_call 45; refine (isSquare_any _ _).mono ?_; rintro e w' ⟨rfl, rfl⟩; rw [E3.out]) | fail "call")
        go_ret2
        exact ⟨by rw [he.out] <;> rfl, FN.out.bl⟩
    · obtain rfl : k = ps.length := by omega
      have he := Lib.hid (trE_ok ⟨HN.out, H0.out, by have := H1.out; omega, (fun p hp => by obtain ⟨j, hj, rfl⟩ := List.getElem_of_mem hp; exact HP.out j hj hj)⟩)
      go_wp2_with fail
      go_ret2
      exact ⟨by rw [he.out] <;> rfl, FK.out.bl⟩

set_option maxHeartbeats 4000000 in
set_option maxRecDepth 100000 in
theorem refCheckTrack_any (s : ByteArray) (hs : s.size ≤ maxLen) (ps : List Bp) (A : Option Addr) (c : Nat) (hl : ps.length ≤ maxLen) (w : World) (hA : Lies w w.heap.size A (ps.flatMap pc)) :
    Calls Try.prog 21 #[.agg #[.string s, .slice A ps.length c]] w fun e w' => e = .returned (.tuple #[.int .i64 (trE s ps).1, .int .i64 (trE s ps).2]) ∧ Below w.heap.size w w' := by
  have hl' := hl
  unfold maxLen at hl'
  have F0 := Lib.hid (Fr.b1 w 24 #[.string s, .slice A ps.length c])
  have HA := Lib.hid hA
  clear hA
  cases hn : nameB s.data.toList with
  | false =>
    have he := Lib.hid (trE_name (ps := ps) hn)
    have HN := Lib.hid hn
    rw [he.out]
    clear hn
    go_enter Try.func21, Try.ntmps21
    go_wp2_with (go_at_call 34; refine (IsName_any s hs _).mono ?_; rintro e w' ⟨rfl, rfl⟩; rw [HN.out])
    go_ret2
    exact ⟨rfl, F0.out.bl⟩
  | true =>
  by_cases h0 : ps.length = 0
  · have he := Lib.hid (trE_none hn h0)
    have HN := Lib.hid hn
    have h0' : ((ps.length : Int) == 0) = true := by simp [h0]
    rw [he.out]
    clear hn h0
    go_enter Try.func21, Try.ntmps21
    go_wp2_with (go_at_call 34; refine (IsName_any s hs _).mono ?_; rintro e w' ⟨rfl, rfl⟩; rw [HN.out])
    go_ret2
    exact ⟨rfl, F0.out.bl⟩
  by_cases h1 : 12 < ps.length
  · have he := Lib.hid (trE_many hn h1)
    have HN := Lib.hid hn
    have h0' : ((ps.length : Int) == 0) = false := by simp only [beq_eq_false_iff_ne, ne_eq]; omega
    have h1' : (12 : Int) < ps.length := by omega
    rw [he.out]
    clear hn h0 h1
    go_enter Try.func21, Try.ntmps21
    go_wp2_with (go_at_call 34; refine (IsName_any s hs _).mono ?_; rintro e w' ⟨rfl, rfl⟩; rw [HN.out])
    go_ret2
    exact ⟨rfl, F0.out.bl⟩
  have HN := Lib.hid hn
  have h0' : ((ps.length : Int) == 0) = false := by simp only [beq_eq_false_iff_ne, ne_eq]; omega
  have h1' : ¬ (12 : Int) < ps.length := by omega
  have H0 := Lib.hid h0
  have H1 := Lib.hid h1
  obtain ⟨a, rfl⟩ := ps_some HA.out h0
  clear hn h0 h1
  go_enter Try.func21, Try.ntmps21
  go_wp2_with (go_at_call 34; refine (IsName_any s hs _).mono ?_; rintro e w' ⟨rfl, rfl⟩; rw [HN.out])
  go_loopw [4] (fun i wr => ∃ k : Nat, k ≤ ps.length ∧ i = .int .i64 k ∧ (∀ j (hj : j < k) (hj' : j < ps.length), okP ps[j] = true) ∧ Fr w wr [(w.heap.size, 24, #[.string s, .slice (some a) ps.length c])]) (fun i _ => ps.length - (intOf i).toNat)
  case atStart => exact ⟨0, Nat.zero_le _, rfl, fun j hj => absurd hj (by omega), F0.out⟩
  case round =>
    obtain ⟨k, hk, rfl, hp, hf⟩ := hrel
    have HP := Lib.hid hp
    have FK := Lib.hid hf
    obtain ⟨x0, x1, _, _⟩ := hf.top.two
    clear hp hf F0
    by_cases hlt : k < ps.length
    · obtain ⟨a2, ea, _, c0, c1, c2, c3⟩ := (Fr.lies HA.out FK.out).piece (List.getElem?_eq_getElem hlt)
      simp only [Option.some.injEq] at ea
      subst ea
      obtain ⟨p, hp⟩ : ∃ p, ps[k] = p := ⟨_, rfl⟩
      rw [hp] at c0 c1 c2 c3
      have HPK := Lib.hid hp
      clear hp
      have FN := Lib.hid (FK.out.new (.cells #[.int .i64 p.len, .int .i64 p.grad, .int .i64 p.lim, .bool p.lv] 54))
      cases e1 : inB p.len 1 10000000 <;> cases e2 : inB p.grad (-100) 100 <;> cases e3 : inB p.lim 0 20000000000
      case true.true.true =>
        have HX : Hid (okP p = true) := Lib.hid (by simp [okP, e1, e2, e3])
        have E1 := Lib.hid e1
        have E2 := Lib.hid e2
        have E3 := Lib.hid e3
        clear e1 e2 e3
        go_wp2_with (first | (go_at_call 18; refine (Within_any _ _ _ _).mono ?_; rintro e w' ⟨rfl, rfl⟩; (first | rw [E1.out] | rw [E2.out] | rw [E3.out])) | fail "call")
        go_roundw
        case rel => exact ⟨k + 1, by omega, by go_num, fun j hj hj' => by
          by_cases e : j = k
          · subst e; rw [HPK.out]; exact HX.out
          · exact HP.out j (by omega) hj', FN.out⟩
        case measure => simp [intOf]; omega
      all_goals
        have he := Lib.hid (trE_at (s := s) HN.out (by have := H1.out; omega) k hlt (fun j hj => HP.out j hj (by omega)) (by rw [HPK.out]; simp [okP, e1, e2, e3]))
        have E1 := Lib.hid e1
        have E2 := Lib.hid e2
        have E3 := Lib.hid e3
        clear e1 e2 e3
        go_wp2_with (first | (go_at_call 18; refine (Within_any _ _ _ _).mono ?_; rintro e w' ⟨rfl, rfl⟩; (first | rw [E1.out] | rw [E2.out] | rw [E3.out])) | fail "call")
        go_ret2
        exact ⟨by rw [he.out] <;> rfl, FN.out.bl⟩
    · obtain rfl : k = ps.length := by omega
      have he := Lib.hid (trE_ok ⟨HN.out, H0.out, by have := H1.out; omega, (fun p hp => by obtain ⟨j, hj, rfl⟩ := List.getElem_of_mem hp; exact HP.out j hj hj)⟩)
      go_wp2_with fail
      go_ret2
      exact ⟨by rw [he.out] <;> rfl, FK.out.bl⟩

set_option maxHeartbeats 2000000 in
theorem CheckSystem_any (b : Bs) (w : World) : Calls Try.prog 35 #[.agg #[.int .i64 b.brk, .int .i64 b.drag, .int .i64 b.drv]] w fun e w' => e = .returned (.int .i64 (sE b)) ∧ Below w.heap.size w w' := by
  have F0 := Lib.hid (Fr.b1 w 26 #[.int .i64 b.brk, .int .i64 b.drag, .int .i64 b.drv])
  cases e1 : inB b.brk 1 3000 <;> cases e2 : inB b.drag 0 500 <;> cases e3 : inB b.drv 0 2000
  case true.true.true =>
    by_cases h : b.brk < b.drag
    all_goals
      have HX : Hid (sE b = if b.brk < b.drag then 9 else 0) := Lib.hid (by simp [sE, okS, e1, e2, e3])
      have E1 := Lib.hid e1
      have E2 := Lib.hid e2
      have E3 := Lib.hid e3
      clear e1 e2 e3
      go_enter Try.func35, Try.ntmps35
      go_wp2_with (go_at_call 36; refine (within_any _ _ _ _).mono ?_; rintro e w' ⟨rfl, rfl⟩; (first | rw [E1.out] | rw [E2.out] | rw [E3.out]))
      go_ret
      exact ⟨ret_i64 (by rw [HX.out]; first | rw [if_pos (by omega)] | rw [if_neg (by omega)]), F0.out.bl⟩
  all_goals
    have HX : Hid (sE b = 2) := Lib.hid (by simp [sE, okS, e1, e2, e3])
    have E1 := Lib.hid e1
    have E2 := Lib.hid e2
    have E3 := Lib.hid e3
    clear e1 e2 e3
    go_enter Try.func35, Try.ntmps35
    go_wp2_with (go_at_call 36; refine (within_any _ _ _ _).mono ?_; rintro e w' ⟨rfl, rfl⟩; (first | rw [E1.out] | rw [E2.out] | rw [E3.out]))
    go_ret
    exact ⟨ret_i64 HX.out.symm, F0.out.bl⟩

set_option maxHeartbeats 2000000 in
theorem refCheckSystem_any (b : Bs) (w : World) : Calls Try.prog 6 #[.agg #[.int .i64 b.brk, .int .i64 b.drag, .int .i64 b.drv]] w fun e w' => e = .returned (.int .i64 (sE b)) ∧ Below w.heap.size w w' := by
  have F0 := Lib.hid (Fr.b1 w 26 #[.int .i64 b.brk, .int .i64 b.drag, .int .i64 b.drv])
  cases e1 : inB b.brk 1 3000 <;> cases e2 : inB b.drag 0 500 <;> cases e3 : inB b.drv 0 2000
  case true.true.true =>
    by_cases h : b.brk < b.drag
    all_goals
      have HX : Hid (sE b = if b.brk < b.drag then 9 else 0) := Lib.hid (by simp [sE, okS, e1, e2, e3])
      have E1 := Lib.hid e1
      have E2 := Lib.hid e2
      have E3 := Lib.hid e3
      clear e1 e2 e3
      go_enter Try.func6, Try.ntmps6
      go_wp2_with (go_at_call 18; refine (Within_any _ _ _ _).mono ?_; rintro e w' ⟨rfl, rfl⟩; (first | rw [E1.out] | rw [E2.out] | rw [E3.out]))
      go_ret
      exact ⟨ret_i64 (by rw [HX.out]; first | rw [if_pos (by omega)] | rw [if_neg (by omega)]), F0.out.bl⟩
  all_goals
    have HX : Hid (sE b = 2) := Lib.hid (by simp [sE, okS, e1, e2, e3])
    have E1 := Lib.hid e1
    have E2 := Lib.hid e2
    have E3 := Lib.hid e3
    clear e1 e2 e3
    go_enter Try.func6, Try.ntmps6
    go_wp2_with (go_at_call 18; refine (Within_any _ _ _ _).mono ?_; rintro e w' ⟨rfl, rfl⟩; (first | rw [E1.out] | rw [E2.out] | rw [E3.out]))
    go_ret
    exact ⟨ret_i64 HX.out.symm, F0.out.bl⟩
end Go.Proofs.Ytaghpemdcmjchaa
