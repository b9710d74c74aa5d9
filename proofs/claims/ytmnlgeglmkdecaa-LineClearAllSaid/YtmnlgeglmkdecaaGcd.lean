/-
  The walks of fractions in lowest terms, of the program's and of the reference's.
-/
import Derived.Test.YtmnlgeglmkdecaaLeaf2
namespace Go.Proofs.Ytmnlgeglmkdecaa
open Go.RowKit

theorem tdiv_small {n : Int} {g M : Nat} (h : n.natAbs ≤ M) : (n.tdiv g).natAbs ≤ M := by
  rw [Int.natAbs_tdiv]; exact Nat.le_trans (Nat.div_le_self _ _) h

set_option maxHeartbeats 1000000 in
theorem fraction_any (n d : Int) (hn : -4611686018427387904 ≤ n) (hn' : n ≤ 4611686018427387904) (hd : 1 ≤ d) (hd' : d ≤ 4611686018427387904) (w : World) :
    Calls Try.prog 99 #[.int .i64 n, .int .i64 d] w fun e w' => e = .returned (.agg #[.int .i64 (n.tdiv (Int.gcd n d)), .int .i64 (d / (Int.gcd n d : Int))]) ∧ Below w.heap.size w w' := by
  have b0 := Lib.hid ((Below.refl w.heap.size w).alloc (Nat.le_refl _) (.cells #[.int .i64 0, .int .i64 0] 46))
  have R0 := Lib.hid (Bk.new w 46 #[.int .i64 0, .int .i64 0])
  obtain ⟨e, rfl⟩ := Int.eq_ofNat_of_zero_le (show 0 ≤ d by omega)
  have hm : max n (-n) = (n.natAbs : Int) := by omega
  have HM := Lib.hid hm
  have hg : Nat.gcd n.natAbs e = Int.gcd n (e : Int) := rfl
  have HG := Lib.hid hg
  clear hm hg
  go_enter Try.func99, Try.ntmps99
  go_wp2_with (go_at_call 95; refine (size_any n (by omega) (by omega) _).mono ?_; rintro e w' ⟨rfl, rfl⟩; rw [HM.out])
  go_loopw [5, 6] (fun x y wr => ∃ a b : Nat, a ≤ 4611686018427387904 ∧ b ≤ 4611686018427387904 ∧ x = .int .i64 a ∧ y = .int .i64 b ∧ Nat.gcd a b = Int.gcd n (e : Int) ∧ Below (w.heap.size + 1) (w.alloc (.cells #[.int .i64 0, .int .i64 0] 46)) wr) (fun _ y _ => (intOf y).toNat)
  case atStart => exact ⟨n.natAbs, e, by omega, by omega, rfl, rfl, HG.out, Below.refl _ _⟩
  case round =>
    obtain ⟨a, b, ha, hb, rfl, rfl, hgab, hbw⟩ := hrel
    have HB := Lib.hid hbw
    have HA := Lib.hid hgab
    clear hgab hbw
    by_cases h0 : b = 0
    · have hz : ((b : Int) != 0) = false := by simp [h0]
      have hag : a = Int.gcd n (e : Int) := by rw [← HA.out, h0, Nat.gcd_zero_right]
      have h1 : 0 < a := by rw [hag]; exact Int.gcd_pos_of_ne_zero_right _ (by omega)
      have HAG := Lib.hid hag
      have q1 := tdiv_small (n := n) (g := a) (M := 4611686018427387904) (by omega)
      have q2 : (e : Int) / (a : Int) ≤ 4611686018427387904 := Int.le_trans (Int.ediv_le_self _ (by omega)) hd'
      have q3 : 0 ≤ (e : Int) / (a : Int) := Int.ediv_nonneg (by omega) (by omega)
      have t1 := IntWalk.i64_in (n.tdiv a) (by omega)
      have t2 : wrap64 ((e : Int) / (a : Int)) = (e : Int) / (a : Int) := IntWalk.wrap64_in _ ⟨by omega, by omega⟩
      have z1 : ((a : Int) == 0) = false := by simp; omega
      obtain ⟨d0, d1, f0, f1⟩ := (R0.out.below HB.out (by omega)).two
      clear hag h0 q1 q2 q3
      go_wp2_with fail
      go_region
      all_goals
        go_wp2_with fail
        refine bodyPost_ret (v := .agg #[.int .i64 (n.tdiv a), .int .i64 ((e : Int) / (a : Int))]) (by simp [results, Try.results99, go_sem, d0, d1, t2]) rfl ⟨by rw [← HAG.out], ?_⟩
        have b1 := b0.out.trans (HB.out.mono (by omega))
        first | exact ((b1.setCell (by simp) _).setCell (by simp) _).drew | exact ((b1.drew).setCell (by simp) _).setCell (by simp) _ | exact (b1.setCell (by simp) _).setCell (by simp) _
    · have hz : ((b : Int) != 0) = true := by simp [h0]
      have hb1 : 1 ≤ b := by omega
      have hz2 : ((b : Int) == 0) = false := by simp [h0]
      go_wp2_with fail
      go_region
      all_goals
        go_wp2_with fail
        refine ⟨⟨b, a % b, hb, by have := Nat.mod_lt a (show b > 0 by omega); omega, rfl, by simp, ?_, HB.out.drew⟩, ?_⟩
        · rw [← HA.out, Nat.gcd_comm a b, Nat.gcd_rec b a, Nat.gcd_comm]
        · have := Nat.mod_lt a (show b > 0 by omega)
          simp only [intOf]; omega
set_option maxHeartbeats 1000000 in
theorem Gcd_any (n d : Int) (hn : -4611686018427387904 ≤ n) (hn' : n ≤ 4611686018427387904) (hd : -4611686018427387904 ≤ d) (hd' : d ≤ 4611686018427387904) (w : World) :
    Calls Try.prog 92 #[.int .i64 n, .int .i64 d] w fun e w' => e = .returned (.int .i64 (Int.gcd n d : Nat)) ∧ Below w.heap.size w w' := by
  go_enter Try.func92, Try.ntmps92
  go_wp2_with fail
  go_loopw [0, 1] (fun x y wr => ∃ a b : Int, a.natAbs ≤ 4611686018427387904 ∧ b.natAbs ≤ 4611686018427387904 ∧ x = .int .i64 a ∧ y = .int .i64 b ∧ Int.gcd a b = Int.gcd n d ∧ Below w.heap.size w wr) (fun _ y _ => (intOf y).natAbs)
  case atStart => exact ⟨n, d, by omega, by omega, rfl, rfl, rfl, Below.refl _ _⟩
  case round =>
    obtain ⟨a, b, ha, hb, rfl, rfl, hgab, hbw⟩ := hrel
    have HB := Lib.hid hbw
    have HA := Lib.hid hgab
    clear hgab hbw
    by_cases h0 : b = 0
    · have hz : (b != 0) = false := by simp [h0]
      have hm : max a (-a) = (Int.gcd n d : Int) := by rw [← HA.out, h0, Int.gcd_zero_right]; omega
      have HM := Lib.hid hm
      clear hm h0
      go_wp2_with (go_at_call 100; refine (Size_any a (by omega) (by omega) _).mono ?_; rintro e w' ⟨rfl, rfl⟩; rw [HM.out])
      go_ret
      exact ⟨rfl, HB.out⟩
    · have hz : (b != 0) = true := by simp [h0]
      have hz2 : (b == 0) = false := by simp [h0]
      have q1 : (a.tmod b).natAbs < b.natAbs := by rw [Int.natAbs_tmod]; exact Nat.mod_lt _ (by omega)
      have t1 := IntWalk.i64_in (a.tmod b) (by omega)
      have HE : Hid (Int.gcd b (a.tmod b) = Int.gcd a b) := Lib.hid (by unfold Int.gcd; rw [Int.natAbs_tmod, Nat.gcd_comm b.natAbs, ← Nat.gcd_rec, Nat.gcd_comm])
      clear h0
      go_wp2_with fail
      go_region
      all_goals
        go_wp2_with fail
        refine ⟨⟨b, a.tmod b, hb, by omega, rfl, rfl, HE.out.trans HA.out, HB.out.drew⟩, ?_⟩
        simp only [intOf]; exact q1

end Go.Proofs.Ytmnlgeglmkdecaa
