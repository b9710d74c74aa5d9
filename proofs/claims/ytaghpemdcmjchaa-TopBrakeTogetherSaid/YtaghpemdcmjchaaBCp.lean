
/-
  Copied numbers, the reference's errors of squares, a rest.
-/
import Derived.Test.YtaghpemdcmjchaaBSq
namespace Go.Proofs.Ytaghpemdcmjchaa
open Go.RowKit

/-- A copy of numbers. -/
def CopiedI (w : World) (l : List Int) (e : Ending) (w' : World) : Prop := ∃ g : Hd, e = .returned (.slice g.A l.length g.c) ∧ Lies w' w'.heap.size g.A (ic l) ∧ HdOk g ∧ (∀ a, g.A = some a → w.heap.size ≤ a.block) ∧ Below w.heap.size w w'
set_option maxHeartbeats 800000 in
theorem CopyInts_any (l : List Int) (h : Hd) (hl : l.length ≤ 1000) (hk : HdOk h) (w : World) (hA : Lies w w.heap.size h.A (ic l)) :
    Calls Try.prog 17 #[.slice h.A l.length h.c] w (CopiedI w l) := by
  obtain ⟨A, c⟩ := h
  obtain ⟨i0, hi, hz0, hz1, hz2⟩ := info_parts info_int
  have b0 := (Below.refl w.heap.size w).alloc (Nat.le_refl _) (.cells #[] 3)
  have ho := World.ownsRow_made (base := w.heap.size) (e := 3) (size := 1) w #[] 0 (Nat.le_refl _) (by unfold maxLen; omega) rfl
  have HO := Lib.hid ho
  have HB := Lib.hid b0
  have HA := Lib.hid (hA.below b0)
  clear ho b0 hA
  cases A with
  | none =>
    obtain rfl : c = 0 := hk rfl
    have hl0 : l = [] := by
      cases l with
      | nil => rfl
      | cons x l => obtain ⟨a, h, _⟩ := HA.out.num (i := 0) (x := x) rfl; cases h
    subst hl0
    go_enter Try.func17, Try.ntmps17
    go_wp2_with (at_builtin; refine wpList_append_own_none rfl _ _ 29 rfl w.heap.size 3 i0 1 Try.underlying29 hi _ 0 [] rfl HO.out rfl ?_)
    go_ret
    exact ⟨⟨_, _⟩, rfl, Lies.nil, (fun h => by cases h), (fun a h => by cases h; exact Nat.le_refl _), HB.out⟩
  | some a =>
    have k1 : Hid ((ic l).length = l.length * 1) := Lib.hid (by simp [ic])
    have k2 : Hid (∀ j u, (ic l)[j]? = some u → (w.alloc (.cells #[] 3)).cell? (a.add j) = some u) := Lib.hid (fun j u hu => by obtain ⟨a', e, _, h⟩ := HA.out j u hu; cases e; exact h)
    go_enter Try.func17, Try.ntmps17
    go_wp2_with (at_builtin; refine wpList_append_own _ rfl _ _ 29 rfl w.heap.size 3 i0 (.int .i64 0) 1 8 Try.underlying29 hi hz0 hz1 hz2 rfl (by decide) _ 0 [] rfl HO.out a l.length c (ic l) rfl k1.out k2.out (ic_one l) (by unfold maxLen; omega) (by omega) (by simp) ?_; intro v' w1 ho1 hg1 _; obtain ⟨g, rfl, hL1, hk1, hg2⟩ := own_slice ho1)
    go_ret
    have hg3 : (w.alloc (.cells #[] 3)).grownBy w1 (some w.heap.size) := hg1
    rw [List.nil_append] at hL1
    exact ⟨g, rfl, hL1, hk1, hg2, HB.out.grown hg3 HB.out.size (fun k e => by cases e; exact Nat.le_refl _)⟩


set_option maxHeartbeats 1600000 in
set_option maxRecDepth 100000 in
theorem SquaresErr_any (s : ByteArray) (ps : List Bp) (A : Option Addr) (c : Nat) (hl : ps.length ≤ 1000) (l : List Int) (B : Option Addr) (d : Nat) (hl2 : l.length ≤ maxLen) (w : World) (hL : Lies w w.heap.size B (ic l)) :
    Calls Try.prog 15 #[.agg #[.string s, .slice A ps.length c], .slice B l.length d] w fun e w' => e = .returned (.int .i64 (sqsE ps l)) ∧ Below w.heap.size w w' := by
  have F0 := Lib.hid (Fr.b1 w 24 #[.string s, .slice A ps.length c])
  have HL := Lib.hid (Fr.lies hL F0.out)
  have hw := IntWalk.i64_in ((ps.length : Int) + 1) (by omega)
  have hl3 := hl2
  unfold maxLen at hl3
  by_cases hn : l.length = ps.length + 1
  · have HE : Hid (sqsE ps l = sqE l) := Lib.hid (by unfold sqsE; rw [if_neg (by simpa using hn)])
    have hb : ((l.length : Int) != (ps.length : Int) + 1) = false := by rw [bne_eq_false_iff_eq]; omega
    obtain ⟨n, hnn⟩ : ∃ n, l.length = n := ⟨_, rfl⟩
    have HN := Lib.hid hnn
    rw [hnn] at hb hl3 ⊢
    clear hL hn hnn hl2
    go_enter Try.func15, Try.ntmps15
    go_wp2_with fail
    go_loop [5] (fun i => ∃ k : Nat, k ≤ n ∧ i = .int .i64 k ∧ ∀ x ∈ l.take k, inB x 0 20000000000 = true) (fun i => n - (intOf i).toNat)
    case atStart => exact ⟨0, Nat.zero_le _, rfl, by simp⟩
    case round =>
      obtain ⟨k, hk, rfl, hp⟩ := hrel
      have HP := Lib.hid hp
      clear hp
      by_cases hlt2 : k < n
      · have hlt : k < l.length := by have := HN.out; omega
        obtain ⟨a, rfl, _, ca⟩ := HL.out.num (List.getElem?_eq_getElem hlt)
        have hwk := IntWalk.i64_in ((k : Int) + 1) (by omega)
        obtain ⟨x, hxx⟩ : ∃ x, l[k] = x := ⟨_, rfl⟩
        rw [hxx] at ca
        have HXX : Hid (l[k]'hlt = x) := Lib.hid hxx
        have HLT := Lib.hid hlt
        clear hxx
        cases hx : inB x 0 20000000000 with
        | true =>
          have HX := Lib.hid hx
          clear hx
          go_wp2_with (go_at_call 18; refine (Within_any _ _ _ _).mono ?_; rintro e w' ⟨rfl, rfl⟩; rw [HX.out])
          go_round
          case rel => exact ⟨k + 1, by omega, by go_num, fun x hx => by
            rw [List.take_succ_eq_append_getElem HLT.out] at hx
            rcases List.mem_append.1 hx with h | h
            · exact HP.out x h
            · rw [List.mem_singleton.1 h, HXX.out]; exact HX.out⟩
          case measure => simp [intOf]; omega
        | false =>
          have HX := Lib.hid hx
          clear hx
          go_wp2_with (go_at_call 18; refine (Within_any _ _ _ _).mono ?_; rintro e w' ⟨rfl, rfl⟩; rw [HX.out])
          go_ret
          exact ⟨ret_i64 (by rw [HE.out]; exact (sqE_no (List.getElem_mem HLT.out) (by rw [HXX.out]; exact HX.out)).symm), F0.out.bl⟩
      · obtain rfl : k = n := by omega
        go_wp2_with fail
        go_ret
        exact ⟨ret_i64 (by rw [HE.out]; exact (sqE_yes (by have h := HP.out; rw [← HN.out] at h; simpa using h)).symm), F0.out.bl⟩
  · have HE : Hid (sqsE ps l = 10) := Lib.hid (by unfold sqsE; rw [if_pos hn])
    have hb : ((l.length : Int) != (ps.length : Int) + 1) = true := by rw [bne_iff_ne]; omega
    have hb2 : ¬ (l.length : Int) = (ps.length : Int) + 1 := by omega
    clear hL hn hl2
    go_enter Try.func15, Try.ntmps15
    go_wp2_with fail
    go_ret
    exact ⟨ret_i64 HE.out.symm, F0.out.bl⟩
end Go.Proofs.Ytaghpemdcmjchaa
