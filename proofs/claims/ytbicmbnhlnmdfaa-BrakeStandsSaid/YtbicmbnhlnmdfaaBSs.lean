
/-
  The walk of the reference's StandsAt, of the program's with errors, and what is known of both at any arguments.
-/
import Derived.Test.YtbicmbnhlnmdfaaBSt2
import Derived.Test.YtbicmbnhlnmdfaaBLm2
import Derived.Test.YtbicmbnhlnmdfaaBKit
import Derived.Test.YtbicmbnhlnmdfaaBErr
namespace Go.Proofs.Ytbicmbnhlnmdfaa
open Go.RowKit

theorem floor_of {a b : Int} (hb : 1 ≤ b) (h : a.tmod b < 0) : a / b = a.tdiv b - 1 := by
  have h1 := Int.emod_nonneg a (show b ≠ 0 by omega)
  rw [Int.tmod_eq_emod] at h
  rw [Int.tdiv_eq_ediv]
  split at h
  · omega
  · rename_i hh
    rw [if_neg hh, Int.sign_eq_one_of_pos (by omega)]; omega
theorem floor_of' {a b : Int} (hb : 1 ≤ b) (h : ¬ a.tmod b < 0) : a / b = a.tdiv b := by
  have h1 := Int.emod_lt_of_pos a (show 0 < b by omega)
  rw [Int.tmod_eq_emod] at h
  rw [Int.tdiv_eq_ediv]
  split at h
  · rename_i hh
    rw [if_pos hh]; omega
  · omega
set_option maxHeartbeats 400000 in
theorem Floor_any (a b : Int) (ha : -9223372036854775807 ≤ a) (ha' : a ≤ 9223372036854775807) (hb : 1 ≤ b) (hb' : b ≤ 9223372036854775807) (w : World) :
    Calls Try.prog 49 #[.int .i64 a, .int .i64 b] w fun e w' => e = .returned (.int .i64 (a / b)) ∧ w = w' := by
  have hz : (b == 0) = false := by simp; omega
  have hq : (a.tdiv b).natAbs ≤ a.natAbs := Int.natAbs_tdiv_le_natAbs a b
  have hq1 : -9223372036854775807 ≤ a.tdiv b := by omega
  have hq2 : a.tdiv b ≤ 9223372036854775807 := by omega
  clear hq
  by_cases h : a.tmod b < 0
  · have Hr := Lib.hid (floor_of hb h)
    go_enter Try.func49, Try.ntmps49
    go_wp2
    go_ret
    exact ⟨ret_i64 Hr.out.symm, rfl⟩
  · have Hr := Lib.hid (floor_of' hb h)
    go_enter Try.func49, Try.ntmps49
    go_wp2
    go_ret
    exact ⟨ret_i64 Hr.out.symm, rfl⟩
theorem div_bd {a b M : Int} (hM : 0 ≤ M) (hb : 1 ≤ b) (h0 : -M ≤ a) (h1 : a ≤ M) : -M ≤ a / b ∧ a / b ≤ M := by
  have l1 : a / b ≤ M := by
    have : a / b ≤ M / b := Int.ediv_le_ediv (by omega) h1
    have h2 : M / b ≤ M := Int.ediv_le_self _ hM
    omega
  have l2 : -M ≤ a / b := by
    rw [Int.le_ediv_iff_mul_le (by omega)]
    have : M * 1 ≤ M * b := Int.mul_le_mul_of_nonneg_left hb hM
    rw [Int.neg_mul]
    omega
  exact ⟨l2, l1⟩

set_option maxHeartbeats 400000 in
theorem Ceil_any (a b : Int) (ha : -2000000000000 ≤ a) (ha' : a ≤ 2000000000000) (hb : 1 ≤ b) (hb' : b ≤ 1000000000) (w : World) :
    Calls Try.prog 50 #[.int .i64 a, .int .i64 b] w fun e w' => e = .returned (.int .i64 (-(-a / b))) ∧ w = w' := by
  have hq := div_bd (a := -a) (M := 2000000000000) (by omega) hb (by omega) (by omega)
  obtain ⟨q0, q1⟩ := hq
  have w1 : IntKind.i64.wrap (-a) = -a := IntWalk.i64_in _ ⟨by omega, by omega⟩
  have w2 : IntKind.i64.wrap (-(-a / b)) = -(-a / b) := IntWalk.i64_in _ ⟨by omega, by omega⟩
  go_enter Try.func50, Try.ntmps50
  go_wp2_with (go_at_call 49; refine (Floor_any (-a) b (by omega) (by omega) hb (by omega) _).mono ?_; rintro e w' ⟨rfl, rfl⟩)
  go_ret
  exact ⟨rfl, rfl⟩
theorem ceil_tdiv {a b : Int} (ha : 0 ≤ a) (hb : 1 ≤ b) : -(-a / b) = (a + b - 1).tdiv b := by
  rw [Int.tdiv_eq_ediv_of_nonneg (by omega)]
  have h1 := Int.mul_ediv_add_emod (-a) b
  have h2 := Int.emod_nonneg (-a) (show b ≠ 0 by omega)
  have h3 := Int.emod_lt_of_pos (-a) (show 0 < b by omega)
  obtain ⟨q, hq⟩ : ∃ q, -a / b = q := ⟨_, rfl⟩
  rw [hq] at h1 ⊢
  have h4 : b * q = -(b * (-q)) := by rw [Int.mul_neg, Int.neg_neg]
  symm
  rw [Int.ediv_eq_iff_of_pos (by omega)]
  rw [Int.mul_comm (-q) b]
  omega
theorem Fr.base6 {w W W' : World} {bs : List (Nat × TypeId × Array Value)} (h : Fr w W bs) (hb : Below W.heap.size W W') : Fr W W' bs := ⟨hb, fun b hm => (h.bk b hm).call hb⟩
theorem list_cell3 {w : World} {B : Nat} {a : Addr} {n k : Nat} {f : Nat → Int} (h : Lies w B (some a) (ic (listF n f))) (hk : k < n) : w.cell? (a.add k) = some (.int .i64 (f k)) := by
  obtain ⟨b, e, _, c⟩ := h.num (listF_at hk)
  injection e with e
  subst e
  exact c
/-- The train stands at the piece j of those ahead. -/
def stH (ps : List Bp) (d : Int) (p : Nat) (sq : Int) (j : Nat) : Prop := 0 < d + 10 * (gp ps (p + j)).grad ∧ sqS ps d p sq j ≤ lossV (gp ps (p + j)) d
theorem hit_iff {p : Bp} (hp : okP p = true) {d x : Int} : (0 < lossV p d ∧ x ≤ lossV p d) ↔ (0 < d + 10 * p.grad ∧ x ≤ lossV p d) := by
  have h1 := okP_iff.1 hp
  unfold lossV
  constructor
  · rintro ⟨h, h2⟩
    refine ⟨Decidable.by_contra fun hn => ?_, h2⟩
    have := Int.mul_nonpos_of_nonpos_of_nonneg (a := 2 * (d + 10 * p.grad)) (b := p.len) (by omega) (by omega)
    omega
  · rintro ⟨h, h2⟩
    exact ⟨Int.mul_pos (by omega) (by omega), h2⟩

set_option maxHeartbeats 3200000 in
set_option maxRecDepth 100000 in
theorem refStandsAt_hit (s : ByteArray) (ps : List Bp) (a : Addr) (c : Nat) (b : Bs) (hb : OkS b) (h0 : ps.length ≠ 0) (h12 : ps.length ≤ 12) (hx : ∀ p ∈ ps, okP p = true) (p : Nat) (sq : Int) (hq : 0 ≤ sq ∧ sq ≤ 20000000000) (k : Nat) (hk : p + k < ps.length) (hmiss : ∀ j, j < k → ¬ stH ps b.brk p sq j) (hhit : stH ps b.brk p sq k) (h0s : 0 ≤ sqS ps b.brk p sq k) (w : World) (hA : Lies w w.heap.size (some a) (ps.flatMap pc)) :
    Calls Try.prog 19 #[.agg #[.string s, .slice (some a) ps.length c], .agg #[.int .i64 b.brk, .int .i64 b.drag, .int .i64 b.drv], .agg #[.int .i64 (p : Int), .int .i64 sq]] w fun e w' => e = .returned (.tuple #[.agg #[.int .i64 (plcV ps (p + k) + (sqS ps b.brk p sq k).tdiv (2 * (b.brk + 10 * (gp ps (p + k)).grad))), .int .i64 (plcV ps (p + k) + (sqS ps b.brk p sq k + 2 * (b.brk + 10 * (gp ps (p + k)).grad) - 1).tdiv (2 * (b.brk + 10 * (gp ps (p + k)).grad)))], .bool true]) ∧ Below w.heap.size w w' := by
  have F0 := Lib.hid (Fr.b4 w 24 #[.string s, .slice (some a) ps.length c] 26 #[.int .i64 b.brk, .int .i64 b.drag, .int .i64 b.drv] 28 #[.int .i64 (p : Int), .int .i64 sq] 48 #[.int .i64 0, .int .i64 0])
  have HA := Lib.hid hA
  have HX := Lib.hid hx
  have HB := Lib.hid hb
  have HQ := Lib.hid hq
  have HMISS := Lib.hid hmiss
  have HHIT := Lib.hid hhit
  have H0S := Lib.hid h0s
  have hdb : Hid (-3000 ≤ b.brk ∧ b.brk ≤ 3000) := Lib.hid (by have := hb.b0; have := hb.b1; omega)
  have hl : (ps.length : Int) ≤ 12 := by omega
  clear hA hx hb hq hmiss hhit h0s
  go_enter Try.func19, Try.ntmps19
  go_wp2_with fail
  refine (refPlaces_any s ps a c h0 h12 HX.out _ (Fr.lies HA.out F0.out)).mono ?_
  rintro e w1 ⟨gl, rfl, hll, _, hb1⟩
  rw [listF_len]
  have G1 := Fr.call F0.out hb1
  have BW := Lib.hid G1.bl
  have F1 : Hid (Fr w1 w1 [(w.heap.size + 1 + 1 + 1, 48, #[.int .i64 0, .int .i64 0]), (w.heap.size + 1 + 1, 28, #[.int .i64 (p : Int), .int .i64 sq]), (w.heap.size + 1, 26, #[.int .i64 b.brk, .int .i64 b.drag, .int .i64 b.drv]), (w.heap.size, 24, #[.string s, .slice (some a) ps.length c])]) := Lib.hid (G1.base6 (Below.refl _ _))
  have HL := Lib.hid hll
  have HA1 := Lib.hid (Fr.lies HA.out G1)
  clear hll hb1 G1 F0 HA
  obtain ⟨al, hal, _, _⟩ := HL.out.num (listF_at (n := ps.length + 1) (f := plcV ps) (k := 0) (by omega))
  obtain ⟨A4, c4⟩ := gl
  simp only at hal
  subst hal
  have HLI : Hid (∀ W, Fr w1 W [] → ∀ i, i < ps.length + 1 → W.cell? (al.add i) = some (.int .i64 (plcV ps i))) := Lib.hid (fun W h i hi => list_cell3 (Lies.call HL.out h.bl) hi)
  have y0 := (F1.out.get 1 rfl).cell 0
  have y1 := (F1.out.get 1 rfl).cell 1
  go_wp2_with fail
  go_loopw [9, 10] (fun q i wr => ∃ j : Nat, j ≤ k ∧ i = .int .i64 ((p : Int) + j) ∧ q = .int .i64 (sqS ps b.brk p sq j) ∧ Fr w1 wr [(w.heap.size + 1 + 1 + 1, 48, #[.int .i64 0, .int .i64 0]), (w.heap.size + 1 + 1, 28, #[.int .i64 (p : Int), .int .i64 sq]), (w.heap.size + 1, 26, #[.int .i64 b.brk, .int .i64 b.drag, .int .i64 b.drv]), (w.heap.size, 24, #[.string s, .slice (some a) ps.length c])]) (fun _ i _ => ps.length - (intOf i).toNat)
  case atStart => exact ⟨0, Nat.zero_le _, by first | rfl | exact cong64 (by omega), rfl, F1.out⟩
  case round =>
    obtain ⟨j, hj, rfl, rfl, hf⟩ := hrel
    have FK := Lib.hid hf
    clear hf F1 y0 y1
    obtain ⟨P, hP⟩ : ∃ P : Nat, P = p + j := ⟨_, rfl⟩
    have HP := Lib.hid hP
    have hPi : (p : Int) + (j : Int) = (P : Int) := by omega
    rw [hPi]
    have hPn : P < ps.length := by omega
    have hPl : (P : Int) < (ps.length : Int) := by omega
    have hPl1 : (P : Int) < (ps.length : Int) + 1 := by omega
    have hgr := okP_iff.1 (gp_ok HX.out P)
    have HLO : Hid (∀ W, Lies W W.heap.size (some a) (ps.flatMap pc) → Calls Try.prog 48 #[.agg #[.string s, .slice (some a) ps.length c], .int .i64 P, .int .i64 b.brk] W fun e w' => e = .returned (.int .i64 (lossV (gp ps P) b.brk)) ∧ Below W.heap.size W w') := Lib.hid (fun W hW => loses_any s ps a c h12 HX.out P hPn b.brk hdb.out W hW)
    have hEB := lossV_bound (gp_ok HX.out P) (d := b.brk) hdb.out
    have hSB := sqS_bound HX.out hdb.out p HQ.out j
    have hPB := plcV_bound HX.out P
    have HSTEP : Hid (sqS ps b.brk p sq (j + 1) = sqS ps b.brk p sq j - lossV (gp ps P) b.brk) := Lib.hid (by rw [sqS, hP])
    have hit := hit_iff (gp_ok HX.out P) (d := b.brk) (x := sqS ps b.brk p sq j)
    obtain ⟨d, hd⟩ : ∃ d, b.brk + 10 * (gp ps P).grad = d := ⟨_, rfl⟩
    have hlv : lossV (gp ps P) b.brk = 2 * d * (gp ps P).len := by unfold lossV; rw [hd]
    obtain ⟨l, hl2⟩ : ∃ l, lossV (gp ps P) b.brk = l := ⟨_, rfl⟩
    obtain ⟨x, hx⟩ : ∃ x, sqS ps b.brk p sq j = x := ⟨_, rfl⟩
    obtain ⟨z, hz⟩ : ∃ z, plcV ps P = z := ⟨_, rfl⟩
    have hd0 : -1000 ≤ d := by have := hdb.out; have := HB.out.b0; omega
    have hd1 : d ≤ 4000 := by have := hdb.out; omega
    rw [hx]
    rw [hl2] at HLO hEB HSTEP hlv
    rw [hx] at hSB HSTEP
    rw [hd, hl2, hx] at hit
    rw [hz] at hPB
    obtain ⟨eb0, eb1⟩ := hEB
    have sb0 : -1200000000000 ≤ x := by omega
    have sb1 : x ≤ 1200000000000 := by omega
    have pb0 := hPB.1
    have pb1 : z ≤ 120000000 := by have := hPB.2; omega
    have hwx := IntWalk.i64_in (x - l) (by omega)
    have hPj : (P : Int) + 1 = (p : Int) + ((j + 1 : Nat) : Int) := by omega
    have HPJ := Lib.hid hPj
    have HZ := Lib.hid hz
    have HIT := Lib.hid hit
    have q0 := (FK.out.get 3 rfl).cell 0
    have q1 := (FK.out.get 3 rfl).cell 1
    have q2 := (FK.out.get 2 rfl).cell 0
    by_cases hjk : j < k
    · have HM : Hid (¬ (0 < d ∧ x ≤ l)) := Lib.hid (by have h := HMISS.out j hjk; unfold stH at h; rw [← HP.out, hd, hl2, hx] at h; exact h)
      have HJK : Hid (j + 1 ≤ k) := Lib.hid hjk
      clear hP hPi hPj hd hl2 hx hz hgr hSB hPB hit hlv
      go_wp2_with fail
      refine (HLO.out _ (Fr.lies HA1.out FK.out)).mono ?_
      rintro e w5 ⟨rfl, hb5⟩
      have F5 := Lib.hid (Fr.call FK.out hb5)
      clear hb5 FK q0 q1 q2
      have q0 := (F5.out.get 3 rfl).cell 0
      have q1 := (F5.out.get 3 rfl).cell 1
      have q2 := (F5.out.get 2 rfl).cell 0
      by_cases hl3 : 0 < l
      · have hl4 : ¬ x ≤ l := fun h => HM.out (HIT.out.1 ⟨hl3, h⟩)
        go_wp2_with fail
        go_roundw
        case rel => exact ⟨j + 1, HJK.out, cong64 HPJ.out, cong64 HSTEP.out.symm, F5.out⟩
        case measure => simp [intOf] <;> omega
      · go_wp2_with fail
        go_roundw
        case rel => exact ⟨j + 1, HJK.out, cong64 HPJ.out, cong64 HSTEP.out.symm, F5.out⟩
        case measure => simp [intOf] <;> omega
    · obtain rfl : j = k := by omega
      have HM : Hid (0 < d ∧ x ≤ l) := Lib.hid (by have h := HHIT.out; unfold stH at h; rw [← HP.out, hd, hl2, hx] at h; exact h)
      have hX0 : 0 ≤ x := by have h := H0S.out; rw [hx] at h; exact h
      obtain ⟨hl3, hl4⟩ := HIT.out.2 HM.out
      have hd2 : 0 < d := HM.out.1
      have HFIN : Hid (plcV ps (p + j) = z ∧ sqS ps b.brk p sq j = x ∧ b.brk + 10 * (gp ps (p + j)).grad = d) := Lib.hid ⟨by rw [← HP.out]; exact hz, hx, by rw [← HP.out]; exact hd⟩
      have HFL : Hid (∀ w, Calls Try.prog 49 #[.int .i64 x, .int .i64 (2 * d)] w fun e w' => e = .returned (.int .i64 (x.tdiv (2 * d))) ∧ w = w') := Lib.hid (fun w => by rw [Int.tdiv_eq_ediv_of_nonneg hX0]; exact Floor_any x (2 * d) (by omega) (by omega) (by omega) (by omega) w)
      have HCL : Hid (∀ w, Calls Try.prog 50 #[.int .i64 x, .int .i64 (2 * d)] w fun e w' => e = .returned (.int .i64 ((x + 2 * d - 1).tdiv (2 * d))) ∧ w = w') := Lib.hid (fun w => by rw [← ceil_tdiv hX0 (by omega)]; exact Ceil_any x (2 * d) (by omega) (by omega) (by omega) (by omega) w)
      obtain ⟨lo, hlo⟩ : ∃ lo, x.tdiv (2 * d) = lo := ⟨_, rfl⟩
      obtain ⟨hi, hhi⟩ : ∃ hi, (x + 2 * d - 1).tdiv (2 * d) = hi := ⟨_, rfl⟩
      have HLOW := Lib.hid hlo
      have HHI := Lib.hid hhi
      have hq1 : (x.tdiv (2 * d)).natAbs ≤ x.natAbs := Int.natAbs_tdiv_le_natAbs _ _
      have hq2 : ((x + 2 * d - 1).tdiv (2 * d)).natAbs ≤ (x + 2 * d - 1).natAbs := Int.natAbs_tdiv_le_natAbs _ _
      rw [hlo] at HFL hq1
      rw [hhi] at HCL hq2
      have hw1 := IntWalk.i64_in (z + lo) (by omega)
      have hw2 := IntWalk.i64_in (z + hi) (by omega)
      obtain ⟨⟨pl0, pl1⟩, _, _⟩ := hgr
      have hdv : l.tdiv (gp ps P).len = 2 * d := by rw [hlv]; exact Int.mul_tdiv_cancel _ (by omega)
      obtain ⟨pl, hpl⟩ : ∃ pl, (gp ps P).len = pl := ⟨_, rfl⟩
      have HPLL := Lib.hid hpl
      rw [hpl] at hdv pl0 pl1
      have hpz : (pl == 0) = false := by simp; omega
      have hdw := IntWalk.i64_in (2 * d) (by omega)
      clear hP hPi hPj hd hl2 hx hz hSB hPB hlo hhi hq1 hq2 hj hit hlv hpl
      go_wp2_with fail
      refine (HLO.out _ (Fr.lies HA1.out FK.out)).mono ?_
      rintro e w5 ⟨rfl, hb5⟩
      have F5 := Lib.hid (Fr.call FK.out hb5)
      clear hb5 FK q0 q1 q2
      have q0 := (F5.out.get 3 rfl).cell 0
      have q1 := (F5.out.get 3 rfl).cell 1
      have q2 := (F5.out.get 2 rfl).cell 0
      obtain ⟨a2, ea, _, x0, _, _, _⟩ := (Fr.lies HA1.out F5.out).piece (gp_at (i := P) hPn)
      simp only [Option.some.injEq] at ea
      subst ea
      rw [HPLL.out] at x0
      go_upto_region 9 with fail
      have HALL : Hid (∀ W, Fr w1 W [(w.heap.size + 1 + 1 + 1, 48, #[.int .i64 0, .int .i64 0]), (w.heap.size + 1 + 1, 28, #[.int .i64 (p : Int), .int .i64 sq]), (w.heap.size + 1, 26, #[.int .i64 b.brk, .int .i64 b.drag, .int .i64 b.drv]), (w.heap.size, 24, #[.string s, .slice (some a) ps.length c])] → Fr w1 W [(w.heap.size + 1 + 1 + 1, 48, #[.int .i64 0, .int .i64 0]), (w.heap.size + 1 + 1, 28, #[.int .i64 (p : Int), .int .i64 sq]), (w.heap.size + 1, 26, #[.int .i64 b.brk, .int .i64 b.drag, .int .i64 b.drv]), (w.heap.size, 24, #[.string s, .slice (some a) ps.length c])] ∧ W.cell? (al.add P) = some (.int .i64 z)) := Lib.hid (fun W hW => ⟨hW, by rw [← HZ.out]; exact HLI.out _ hW.tail.tail.tail.tail P (by omega)⟩)
      have F10 : Fr w1 _ [(w.heap.size + 1 + 1 + 1, 48, #[.int .i64 0, .int .i64 0]), (w.heap.size + 1 + 1, 28, #[.int .i64 (p : Int), .int .i64 sq]), (w.heap.size + 1, 26, #[.int .i64 b.brk, .int .i64 b.drag, .int .i64 b.drv]), (w.heap.size, 24, #[.string s, .slice (some a) ps.length c])] := F5.out
      clear F5 q0 q1 q2 x0
      refine Tw_start 17 (fun W => Fr w1 W [(w.heap.size + 1 + 1 + 1, 48, #[.int .i64 0, .int .i64 0]), (w.heap.size + 1 + 1, 28, #[.int .i64 (p : Int), .int .i64 sq]), (w.heap.size + 1, 26, #[.int .i64 b.brk, .int .i64 b.drag, .int .i64 b.drv]), (w.heap.size, 24, #[.string s, .slice (some a) ps.length c])] ∧ W.cell? (al.add P) = some (.int .i64 z)) (by kernel_rfl) (by kernel_rfl) rfl ?_ ?_
      · (try dsimp only)
        ((go_split_ands; refine HALL.out _ ?_; (first | assumption | (repeat (first | assumption | refine Fr.new ?_ _ | refine Fr.drew ?_ | (refine Fr.set ?_ (by first | exact Nat.le_refl _ | omega | (simp; done) | (simp; omega)) (by first | (simp; done) | (simp; omega)) _))); done)))
      refine Tw_abs ?_
      intro wD hD
      clear hD
      refine Tw_takeL (i := 0) (v := ?tv96) rfl (by kernel_rfl) (by decide) (by kernel_rfl) (by kernel_rfl) (fun _ _ _ h => h) (by rfl) ?ty96 ?tn96
      case ty96 => (intro w hSw; (try dsimp only at hSw); go_simp <;> with_reducible rfl)
      (try simp only [Act.put, List.setIfInBounds_toArray, List.set_cons_zero, List.set_cons_succ])
      refine Tw_takeL (i := 1) (v := ?tv97) rfl (by kernel_rfl) (by decide) (by kernel_rfl) (by kernel_rfl) (fun _ _ _ h => h) (by rfl) ?ty97 ?tn97
      case ty97 => (intro w hSw; (try dsimp only at hSw); go_simp <;> with_reducible rfl)
      (try simp only [Act.put, List.setIfInBounds_toArray, List.set_cons_zero, List.set_cons_succ])
      refine Tw_takeL (i := 2) (v := ?tv98) rfl (by kernel_rfl) (by decide) (by kernel_rfl) (by kernel_rfl) (fun _ _ _ h => h) (by rfl) ?ty98 ?tn98
      case ty98 => (intro w hSw; (try dsimp only at hSw); go_simp <;> with_reducible rfl)
      (try simp only [Act.put, List.setIfInBounds_toArray, List.set_cons_zero, List.set_cons_succ])
      refine Tw_takeL (i := 3) (v := ?tv99) rfl (by kernel_rfl) (by decide) (by kernel_rfl) (by kernel_rfl) (fun _ _ _ h => h) (by rfl) ?ty99 ?tn99
      case ty99 => (intro w hSw; (try dsimp only at hSw); go_simp <;> with_reducible rfl)
      (try simp only [Act.put, List.setIfInBounds_toArray, List.set_cons_zero, List.set_cons_succ])
      refine Tw_takeL (i := 4) (v := ?tv100) rfl (by kernel_rfl) (by decide) (by kernel_rfl) (by kernel_rfl) (fun _ _ _ h => h) (by rfl) ?ty100 ?tn100
      case ty100 => (intro w hSw; (try dsimp only at hSw); go_simp <;> with_reducible rfl)
      (try simp only [Act.put, List.setIfInBounds_toArray, List.set_cons_zero, List.set_cons_succ])
      refine Tw_takeL (i := 5) (v := ?tv101) rfl (by kernel_rfl) (by decide) (by kernel_rfl) (by kernel_rfl) (fun _ _ _ h => h) (by rfl) ?ty101 ?tn101
      case ty101 => (intro w hSw; (try dsimp only at hSw); go_simp <;> with_reducible rfl)
      (try simp only [Act.put, List.setIfInBounds_toArray, List.set_cons_zero, List.set_cons_succ])
      refine Tw_takeL (i := 8) (v := ?tv102) rfl (by kernel_rfl) (by decide) (by kernel_rfl) (by kernel_rfl) (fun _ _ _ h => h) (by rfl) ?ty102 ?tn102
      case ty102 => (intro w hSw; (try dsimp only at hSw); go_simp <;> with_reducible rfl)
      (try simp only [Act.put, List.setIfInBounds_toArray, List.set_cons_zero, List.set_cons_succ])
      refine Tw_takeL (i := 9) (v := ?tv103) rfl (by kernel_rfl) (by decide) (by kernel_rfl) (by kernel_rfl) (fun _ _ _ h => h) (by rfl) ?ty103 ?tn103
      case ty103 => (intro w hSw; (try dsimp only at hSw); go_simp <;> with_reducible rfl)
      (try simp only [Act.put, List.setIfInBounds_toArray, List.set_cons_zero, List.set_cons_succ])
      refine Tw_takeL (i := 10) (v := ?tv104) rfl (by kernel_rfl) (by decide) (by kernel_rfl) (by kernel_rfl) (fun _ _ _ h => h) (by rfl) ?ty104 ?tn104
      case ty104 => (intro w hSw; (try dsimp only at hSw); go_simp <;> with_reducible rfl)
      (try simp only [Act.put, List.setIfInBounds_toArray, List.set_cons_zero, List.set_cons_succ])
      refine Tw_takeL (i := 11) (v := ?tv105) rfl (by kernel_rfl) (by decide) (by kernel_rfl) (by kernel_rfl) (fun _ _ _ h => h) (by rfl) ?ty105 ?tn105
      case ty105 => (intro w hSw; (try dsimp only at hSw); go_simp <;> with_reducible rfl)
      (try simp only [Act.put, List.setIfInBounds_toArray, List.set_cons_zero, List.set_cons_succ])
      refine Tw_takeL (i := 12) (v := ?tv106) rfl (by kernel_rfl) (by decide) (by kernel_rfl) (by kernel_rfl) (fun _ _ _ h => h) (by rfl) ?ty106 ?tn106
      case ty106 => (intro w hSw; (try dsimp only at hSw); go_simp <;> with_reducible rfl)
      (try simp only [Act.put, List.setIfInBounds_toArray, List.set_cons_zero, List.set_cons_succ])
      refine Tw_takeL (i := 13) (v := ?tv107) rfl (by kernel_rfl) (by decide) (by kernel_rfl) (by kernel_rfl) (fun _ _ _ h => h) (by rfl) ?ty107 ?tn107
      case ty107 => (intro w hSw; (try dsimp only at hSw); go_simp <;> with_reducible rfl)
      (try simp only [Act.put, List.setIfInBounds_toArray, List.set_cons_zero, List.set_cons_succ])
      refine Tw_all (rs := [6]) (by kernel_rfl) (by simp) (by decide) (fun hHeld => ?_)
      refine AllT.consL rfl (fun K hK => ?_) AllT.nil
      go_simp
      (go_at_call 49; go_split_ands; (with_reducible refine (HFL.out _).mono ?_); rintro e w7 ⟨rfl, rfl⟩)
      refine hK.out _ _ ?_ ?_
      · (try dsimp only)
        ((go_split_ands; refine HALL.out _ ?_; (first | assumption | (repeat (first | assumption | refine Fr.new ?_ _ | refine Fr.drew ?_ | (refine Fr.set ?_ (by first | exact Nat.le_refl _ | omega | (simp; done) | (simp; omega)) (by first | (simp; done) | (simp; omega)) _))); done)))
      clear hK K
      (try simp only [Act.put, List.setIfInBounds_toArray, List.set_cons_zero, List.set_cons_succ])
      refine Tw_takeL (i := 7) (v := ?tv108) rfl (by kernel_rfl) (by decide) (by kernel_rfl) (by kernel_rfl) (fun _ _ _ h => h) (by rfl) ?ty108 ?tn108
      case ty108 => (intro w hSw; (try dsimp only at hSw); go_simp <;> with_reducible rfl)
      (try simp only [Act.put, List.setIfInBounds_toArray, List.set_cons_zero, List.set_cons_succ])
      refine Tw_all (rs := [14]) (by kernel_rfl) (by simp) (by decide) (fun hHeld => ?_)
      refine AllT.consL rfl (fun K hK => ?_) AllT.nil
      go_simp
      (go_at_call 50; go_split_ands; (with_reducible refine (HCL.out _).mono ?_); rintro e w7 ⟨rfl, rfl⟩)
      refine hK.out _ _ ?_ ?_
      · (try dsimp only)
        ((go_split_ands; refine HALL.out _ ?_; (first | assumption | (repeat (first | assumption | refine Fr.new ?_ _ | refine Fr.drew ?_ | (refine Fr.set ?_ (by first | exact Nat.le_refl _ | omega | (simp; done) | (simp; omega)) (by first | (simp; done) | (simp; omega)) _))); done)))
      clear hK K
      (try simp only [Act.put, List.setIfInBounds_toArray, List.set_cons_zero, List.set_cons_succ])
      refine Tw_takeL (i := 15) (v := ?tv109) rfl (by kernel_rfl) (by decide) (by kernel_rfl) (by kernel_rfl) (fun _ _ _ h => h) (by rfl) ?ty109 ?tn109
      case ty109 => (intro w hSw; (try dsimp only at hSw); go_simp <;> with_reducible rfl)
      (try simp only [Act.put, List.setIfInBounds_toArray, List.set_cons_zero, List.set_cons_succ])
      refine Tw_takeL (i := 16) (v := ?tv110) rfl (by kernel_rfl) (by decide) (by kernel_rfl) (by kernel_rfl) (fun _ _ _ h => h) (by rfl) ?ty110 ?tn110
      case ty110 => (intro w hSw; (try dsimp only at hSw); go_simp <;> with_reducible rfl)
      (try simp only [Act.put, List.setIfInBounds_toArray, List.set_cons_zero, List.set_cons_succ])
      refine Tw_end (by kernel_rfl) (fun hh => ?_)
      obtain ⟨F11, _⟩ := hh
      clear HALL
      have HF := Lib.hid F11
      have d0 := (HF.out.get 0 rfl).cell 0
      have d1 := (HF.out.get 0 rfl).cell 1
      have f0 := (HF.out.get 0 rfl).frozen 0
      have f1 := (HF.out.get 0 rfl).frozen 1
      have zN := (HF.out.get 0 rfl).lt
      clear F11
      go_wp2_with fail
      exact bodyPost_ret (v := .tuple #[.agg #[.int .i64 (z + lo), .int .i64 (z + hi)], .bool true]) (by simp [results, Try.results19, go_sem, d0, d1]) rfl ⟨by obtain ⟨h1, h2, h3⟩ := HFIN.out; rw [h1, h2, h3, HLOW.out, HHI.out], ((((Below.step BW.out HF.out.bl).setCell (p := ⟨w.heap.size + 1 + 1 + 1, 0, none⟩) (by show w.heap.size ≤ w.heap.size + 1 + 1 + 1; omega) _).setCell (p := ⟨w.heap.size + 1 + 1 + 1, 1, none⟩) (by show w.heap.size ≤ w.heap.size + 1 + 1 + 1; omega) _))⟩

set_option maxHeartbeats 3200000 in
set_option maxRecDepth 100000 in
theorem refStandsAt_none (s : ByteArray) (ps : List Bp) (a : Addr) (c : Nat) (b : Bs) (hb : OkS b) (h0 : ps.length ≠ 0) (h12 : ps.length ≤ 12) (hx : ∀ p ∈ ps, okP p = true) (p : Nat) (sq : Int) (hq : 0 ≤ sq ∧ sq ≤ 20000000000) (hk : p ≤ ps.length) (hmiss : ∀ j, p + j < ps.length → ¬ stH ps b.brk p sq j) (w : World) (hA : Lies w w.heap.size (some a) (ps.flatMap pc)) :
    Calls Try.prog 19 #[.agg #[.string s, .slice (some a) ps.length c], .agg #[.int .i64 b.brk, .int .i64 b.drag, .int .i64 b.drv], .agg #[.int .i64 (p : Int), .int .i64 sq]] w fun e w' => e = .returned (.tuple #[.agg #[.int .i64 0, .int .i64 0], .bool false]) ∧ Below w.heap.size w w' := by
  have F0 := Lib.hid (Fr.b4 w 24 #[.string s, .slice (some a) ps.length c] 26 #[.int .i64 b.brk, .int .i64 b.drag, .int .i64 b.drv] 28 #[.int .i64 (p : Int), .int .i64 sq] 48 #[.int .i64 0, .int .i64 0])
  have HA := Lib.hid hA
  have HX := Lib.hid hx
  have HB := Lib.hid hb
  have HQ := Lib.hid hq
  have HMISS := Lib.hid hmiss
  have hdb : Hid (-3000 ≤ b.brk ∧ b.brk ≤ 3000) := Lib.hid (by have := hb.b0; have := hb.b1; omega)
  have hl : (ps.length : Int) ≤ 12 := by omega
  clear hA hx hb hq hmiss
  go_enter Try.func19, Try.ntmps19
  go_wp2_with fail
  refine (refPlaces_any s ps a c h0 h12 HX.out _ (Fr.lies HA.out F0.out)).mono ?_
  rintro e w1 ⟨gl, rfl, hll, _, hb1⟩
  rw [listF_len]
  have G1 := Fr.call F0.out hb1
  have BW := Lib.hid G1.bl
  have F1 : Hid (Fr w1 w1 [(w.heap.size + 1 + 1 + 1, 48, #[.int .i64 0, .int .i64 0]), (w.heap.size + 1 + 1, 28, #[.int .i64 (p : Int), .int .i64 sq]), (w.heap.size + 1, 26, #[.int .i64 b.brk, .int .i64 b.drag, .int .i64 b.drv]), (w.heap.size, 24, #[.string s, .slice (some a) ps.length c])]) := Lib.hid (G1.base6 (Below.refl _ _))
  have HL := Lib.hid hll
  have HA1 := Lib.hid (Fr.lies HA.out G1)
  clear hll hb1 G1 F0 HA
  obtain ⟨al, hal, _, _⟩ := HL.out.num (listF_at (n := ps.length + 1) (f := plcV ps) (k := 0) (by omega))
  obtain ⟨A4, c4⟩ := gl
  simp only at hal
  subst hal
  have HLI : Hid (∀ W, Fr w1 W [] → ∀ i, i < ps.length + 1 → W.cell? (al.add i) = some (.int .i64 (plcV ps i))) := Lib.hid (fun W h i hi => list_cell3 (Lies.call HL.out h.bl) hi)
  have y0 := (F1.out.get 1 rfl).cell 0
  have y1 := (F1.out.get 1 rfl).cell 1
  go_wp2_with fail
  go_loopw [9, 10] (fun q i wr => ∃ j : Nat, j ≤ (ps.length - p) ∧ i = .int .i64 ((p : Int) + j) ∧ q = .int .i64 (sqS ps b.brk p sq j) ∧ Fr w1 wr [(w.heap.size + 1 + 1 + 1, 48, #[.int .i64 0, .int .i64 0]), (w.heap.size + 1 + 1, 28, #[.int .i64 (p : Int), .int .i64 sq]), (w.heap.size + 1, 26, #[.int .i64 b.brk, .int .i64 b.drag, .int .i64 b.drv]), (w.heap.size, 24, #[.string s, .slice (some a) ps.length c])]) (fun _ i _ => ps.length - (intOf i).toNat)
  case atStart => exact ⟨0, Nat.zero_le _, by first | rfl | exact cong64 (by omega), rfl, F1.out⟩
  case round =>
    obtain ⟨j, hj, rfl, rfl, hf⟩ := hrel
    have FK := Lib.hid hf
    clear hf F1 y0 y1
    obtain ⟨P, hP⟩ : ∃ P : Nat, P = p + j := ⟨_, rfl⟩
    have HP := Lib.hid hP
    have hPi : (p : Int) + (j : Int) = (P : Int) := by omega
    rw [hPi]
    by_cases hPn : P < ps.length
    · skip
      have hPl : (P : Int) < (ps.length : Int) := by omega
      have hPl1 : (P : Int) < (ps.length : Int) + 1 := by omega
      have hgr := okP_iff.1 (gp_ok HX.out P)
      have HLO : Hid (∀ W, Lies W W.heap.size (some a) (ps.flatMap pc) → Calls Try.prog 48 #[.agg #[.string s, .slice (some a) ps.length c], .int .i64 P, .int .i64 b.brk] W fun e w' => e = .returned (.int .i64 (lossV (gp ps P) b.brk)) ∧ Below W.heap.size W w') := Lib.hid (fun W hW => loses_any s ps a c h12 HX.out P hPn b.brk hdb.out W hW)
      have hEB := lossV_bound (gp_ok HX.out P) (d := b.brk) hdb.out
      have hSB := sqS_bound HX.out hdb.out p HQ.out j
      have hPB := plcV_bound HX.out P
      have HSTEP : Hid (sqS ps b.brk p sq (j + 1) = sqS ps b.brk p sq j - lossV (gp ps P) b.brk) := Lib.hid (by rw [sqS, hP])
      have hit := hit_iff (gp_ok HX.out P) (d := b.brk) (x := sqS ps b.brk p sq j)
      obtain ⟨d, hd⟩ : ∃ d, b.brk + 10 * (gp ps P).grad = d := ⟨_, rfl⟩
      have hlv : lossV (gp ps P) b.brk = 2 * d * (gp ps P).len := by unfold lossV; rw [hd]
      obtain ⟨l, hl2⟩ : ∃ l, lossV (gp ps P) b.brk = l := ⟨_, rfl⟩
      obtain ⟨x, hx⟩ : ∃ x, sqS ps b.brk p sq j = x := ⟨_, rfl⟩
      obtain ⟨z, hz⟩ : ∃ z, plcV ps P = z := ⟨_, rfl⟩
      have hd0 : -1000 ≤ d := by have := hdb.out; have := HB.out.b0; omega
      have hd1 : d ≤ 4000 := by have := hdb.out; omega
      rw [hx]
      rw [hl2] at HLO hEB HSTEP hlv
      rw [hx] at hSB HSTEP
      rw [hd, hl2, hx] at hit
      rw [hz] at hPB
      obtain ⟨eb0, eb1⟩ := hEB
      have sb0 : -1200000000000 ≤ x := by omega
      have sb1 : x ≤ 1200000000000 := by omega
      have pb0 := hPB.1
      have pb1 : z ≤ 120000000 := by have := hPB.2; omega
      have hwx := IntWalk.i64_in (x - l) (by omega)
      have hPj : (P : Int) + 1 = (p : Int) + ((j + 1 : Nat) : Int) := by omega
      have HPJ := Lib.hid hPj
      have HZ := Lib.hid hz
      have HIT := Lib.hid hit
      have q0 := (FK.out.get 3 rfl).cell 0
      have q1 := (FK.out.get 3 rfl).cell 1
      have q2 := (FK.out.get 2 rfl).cell 0
      have HM : Hid (¬ (0 < d ∧ x ≤ l)) := Lib.hid (by have h := HMISS.out j (by omega); unfold stH at h; rw [← HP.out, hd, hl2, hx] at h; exact h)
      have HJK : Hid (j + 1 ≤ ps.length - p) := Lib.hid (by omega)
      clear hP hPi hPj hd hl2 hx hz hgr hSB hPB hit hlv
      go_wp2_with fail
      refine (HLO.out _ (Fr.lies HA1.out FK.out)).mono ?_
      rintro e w5 ⟨rfl, hb5⟩
      have F5 := Lib.hid (Fr.call FK.out hb5)
      clear hb5 FK q0 q1 q2
      have q0 := (F5.out.get 3 rfl).cell 0
      have q1 := (F5.out.get 3 rfl).cell 1
      have q2 := (F5.out.get 2 rfl).cell 0
      by_cases hl3 : 0 < l
      · have hl4 : ¬ x ≤ l := fun h => HM.out (HIT.out.1 ⟨hl3, h⟩)
        go_wp2_with fail
        go_roundw
        case rel => exact ⟨j + 1, HJK.out, cong64 HPJ.out, cong64 HSTEP.out.symm, F5.out⟩
        case measure => simp [intOf] <;> omega
      · go_wp2_with fail
        go_roundw
        case rel => exact ⟨j + 1, HJK.out, cong64 HPJ.out, cong64 HSTEP.out.symm, F5.out⟩
        case measure => simp [intOf] <;> omega
    · have hge : ¬ ((P : Int) < (ps.length : Int)) := by omega
      clear hP hPi hj
      have q0 := (FK.out.get 3 rfl).cell 0
      have q1 := (FK.out.get 3 rfl).cell 1
      have q2 := (FK.out.get 2 rfl).cell 0
      have d0 := (FK.out.get 0 rfl).cell 0
      have d1 := (FK.out.get 0 rfl).cell 1
      have f0 := (FK.out.get 0 rfl).frozen 0
      have f1 := (FK.out.get 0 rfl).frozen 1
      have zN := (FK.out.get 0 rfl).lt
      go_wp2_with fail
      exact bodyPost_ret (v := .tuple #[.agg #[.int .i64 0, .int .i64 0], .bool false]) (by simp [results, Try.results19, go_sem, d0, d1]) rfl ⟨rfl, ((((Below.step BW.out FK.out.bl).setCell (p := ⟨w.heap.size + 1 + 1 + 1, 0, none⟩) (by show w.heap.size ≤ w.heap.size + 1 + 1 + 1; omega) _).setCell (p := ⟨w.heap.size + 1 + 1 + 1, 1, none⟩) (by show w.heap.size ≤ w.heap.size + 1 + 1 + 1; omega) _))⟩

set_option maxHeartbeats 3200000 in
set_option maxRecDepth 100000 in
theorem StandsAt_bad (s : ByteArray) (hs : s.size ≤ maxLen) (ps : List Bp) (A : Option Addr) (c : Nat) (hl : ps.length ≤ 1000) (b : Bs) (p sq : Int) (er : Int) (he : nz ((trE s ps).2 :: sE b :: [stateE ps p sq]) = er) (hr : er ≠ 0) (w : World) (hA : Lies w w.heap.size A (ps.flatMap pc)) :
    Calls Try.prog 18 #[.agg #[.string s, .slice A ps.length c], .agg #[.int .i64 b.brk, .int .i64 b.drag, .int .i64 b.drv], .agg #[.int .i64 p, .int .i64 sq]] w fun e w' => e = .returned (.tuple #[.agg #[.int .i64 0, .int .i64 0], .int .i64 er]) ∧ Below w.heap.size w w' := by
  have hlm : ps.length ≤ maxLen := by unfold maxLen; omega
  have F0 := Lib.hid (Fr.b4 w 24 #[.string s, .slice A ps.length c] 26 #[.int .i64 b.brk, .int .i64 b.drag, .int .i64 b.drv] 28 #[.int .i64 p, .int .i64 sq] 48 #[.int .i64 0, .int .i64 0])
  have HA := Lib.hid hA
  obtain ⟨e1, h1⟩ : ∃ e1, stateE ps p sq = e1 := ⟨_, rfl⟩
  rw [h1] at he
  have ge : (er != 0) = true := by simp [hr]
  have HCR : Hid (∀ (fa : Addr) (W : World), Lies W W.heap.size A (ps.flatMap pc) → Lies W W.heap.size (some fa) (ic [e1]) → Calls Try.prog 34 #[.agg #[.string s, .slice A ps.length c], .agg #[.int .i64 b.brk, .int .i64 b.drag, .int .i64 b.drv], .slice (some fa) 1 1] W fun e w' => e = .returned (.tuple #[.agg #[.string ⟨#[]⟩, .slice none 0 0, .int .i64 0, .int .i64 0, .int .i64 0], .int .i64 er]) ∧ Below W.heap.size W w') := Lib.hid (fun fa W h1 h2 => checkRide_bad s hs ps A c hlm b [e1] fa 1 (by simp) (by simp) er he hr W h1 h2)
  have HS1 := Lib.hid h1
  clear hA h1 he hr
  go_enter Try.func18, Try.ntmps18
  go_upto_region 1 with fail
  go_cut [8, 9] from 8 to 23 (fun pv rv W => ∃ g : Nat, pv = .pointer (some ⟨g, 0, none⟩) ∧ rv = .int .i64 er ∧ Fr w W ((g, 82, #[.string ⟨#[]⟩, .slice none 0 0, .int .i64 0, .int .i64 0, .int .i64 0]) :: [(w.heap.size + 1 + 1 + 1, 48, #[.int .i64 0, .int .i64 0]), (w.heap.size + 1 + 1, 28, #[.int .i64 p, .int .i64 sq]), (w.heap.size + 1, 26, #[.int .i64 b.brk, .int .i64 b.drag, .int .i64 b.drv]), (w.heap.size, 24, #[.string s, .slice A ps.length c])]))
  case first =>
    refine wp_abs ?_
    intro w5 h5
    have HALL : Hid (∀ W, Fr w W [(w.heap.size + 1 + 1 + 1, 48, #[.int .i64 0, .int .i64 0]), (w.heap.size + 1 + 1, 28, #[.int .i64 p, .int .i64 sq]), (w.heap.size + 1, 26, #[.int .i64 b.brk, .int .i64 b.drag, .int .i64 b.drv]), (w.heap.size, 24, #[.string s, .slice A ps.length c])] → Fr w W [(w.heap.size + 1 + 1 + 1, 48, #[.int .i64 0, .int .i64 0]), (w.heap.size + 1 + 1, 28, #[.int .i64 p, .int .i64 sq]), (w.heap.size + 1, 26, #[.int .i64 b.brk, .int .i64 b.drag, .int .i64 b.drv]), (w.heap.size, 24, #[.string s, .slice A ps.length c])] ∧ W.cell? ⟨w.heap.size, 0, none⟩ = some (.string s) ∧ W.cell? ⟨w.heap.size, 1, none⟩ = some (.slice A ps.length c) ∧ W.cell? ⟨w.heap.size + 1, 0, none⟩ = some (.int .i64 b.brk) ∧ W.cell? ⟨w.heap.size + 1, 1, none⟩ = some (.int .i64 b.drag) ∧ W.cell? ⟨w.heap.size + 1, 2, none⟩ = some (.int .i64 b.drv) ∧ W.cell? ⟨w.heap.size + 1 + 1, 0, none⟩ = some (.int .i64 p) ∧ W.cell? ⟨w.heap.size + 1 + 1, 1, none⟩ = some (.int .i64 sq)) := Lib.hid (fun W hW => ⟨hW, hW.at3.cell 0, hW.at3.cell 1, hW.at2.cell 0, hW.at2.cell 1, hW.at2.cell 2, hW.at1.cell 0, hW.at1.cell 1⟩)
    have F10 : Fr w w5 [(w.heap.size + 1 + 1 + 1, 48, #[.int .i64 0, .int .i64 0]), (w.heap.size + 1 + 1, 28, #[.int .i64 p, .int .i64 sq]), (w.heap.size + 1, 26, #[.int .i64 b.brk, .int .i64 b.drag, .int .i64 b.drv]), (w.heap.size, 24, #[.string s, .slice A ps.length c])] := by subst h5; exact F0.out
    clear F0 h5
    refine Tw_start 12 (fun W => Fr w W [(w.heap.size + 1 + 1 + 1, 48, #[.int .i64 0, .int .i64 0]), (w.heap.size + 1 + 1, 28, #[.int .i64 p, .int .i64 sq]), (w.heap.size + 1, 26, #[.int .i64 b.brk, .int .i64 b.drag, .int .i64 b.drv]), (w.heap.size, 24, #[.string s, .slice A ps.length c])] ∧ W.cell? ⟨w.heap.size, 0, none⟩ = some (.string s) ∧ W.cell? ⟨w.heap.size, 1, none⟩ = some (.slice A ps.length c) ∧ W.cell? ⟨w.heap.size + 1, 0, none⟩ = some (.int .i64 b.brk) ∧ W.cell? ⟨w.heap.size + 1, 1, none⟩ = some (.int .i64 b.drag) ∧ W.cell? ⟨w.heap.size + 1, 2, none⟩ = some (.int .i64 b.drv) ∧ W.cell? ⟨w.heap.size + 1 + 1, 0, none⟩ = some (.int .i64 p) ∧ W.cell? ⟨w.heap.size + 1 + 1, 1, none⟩ = some (.int .i64 sq)) (by kernel_rfl) (by kernel_rfl) rfl ?_ ?_
    · (try dsimp only)
      ((go_split_ands; refine HALL.out _ ?_; (first | assumption | (repeat (first | assumption | refine Fr.new ?_ _ | refine Fr.drew ?_ | (refine Fr.set ?_ (by first | exact Nat.le_refl _ | omega | (simp; done) | (simp; omega)) (by first | (simp; done) | (simp; omega)) _))); done)))
    refine Tw_takeL (i := 0) (v := ?tv111) rfl (by kernel_rfl) (by decide) (by kernel_rfl) (by kernel_rfl) (fun _ _ _ h => h) (by rfl) ?ty111 ?tn111
    case ty111 => (intro w hSw; (try dsimp only at hSw); go_simp <;> with_reducible rfl)
    (try simp only [Act.put, List.setIfInBounds_toArray, List.set_cons_zero, List.set_cons_succ])
    refine Tw_takeL (i := 1) (v := ?tv112) rfl (by kernel_rfl) (by decide) (by kernel_rfl) (by kernel_rfl) (fun _ _ _ h => h) (by rfl) ?ty112 ?tn112
    case ty112 => (intro w hSw; (try dsimp only at hSw); go_simp <;> with_reducible rfl)
    (try simp only [Act.put, List.setIfInBounds_toArray, List.set_cons_zero, List.set_cons_succ])
    refine Tw_takeL (i := 2) (v := ?tv113) rfl (by kernel_rfl) (by decide) (by kernel_rfl) (by kernel_rfl) (fun _ _ _ h => h) (by rfl) ?ty113 ?tn113
    case ty113 => (intro w hSw; (try dsimp only at hSw); go_simp <;> with_reducible rfl)
    (try simp only [Act.put, List.setIfInBounds_toArray, List.set_cons_zero, List.set_cons_succ])
    refine Tw_takeL (i := 3) (v := ?tv114) rfl (by kernel_rfl) (by decide) (by kernel_rfl) (by kernel_rfl) (fun _ _ _ h => h) (by rfl) ?ty114 ?tn114
    case ty114 => (intro w hSw; (try dsimp only at hSw); go_simp <;> with_reducible rfl)
    (try simp only [Act.put, List.setIfInBounds_toArray, List.set_cons_zero, List.set_cons_succ])
    refine Tw_all (rs := [4, 10]) (by kernel_rfl) (by simp) (by decide) (fun hHeld => ?_)
    refine AllT.consL rfl (fun K hK => ?_) (AllT.consL rfl (fun K hK => ?_) (AllT.nil))
    · go_simp
      (go_at_call 35; go_split_ands; (with_reducible refine (errorOfState_any s ps A c (by omega) p sq _).mono ?_); rintro e w7 ⟨rfl, hb7⟩; rw [HS1.out]; have F4 := Fr.call (by assumption) hb7; (first | (have N1 := Lib.hid (Bk.call N1.out hb7)) | skip); (first | (have L1 := Lib.hid (Lies.call L1.out hb7)) | skip); clear hb7)
      refine hK.out _ _ ?_ ?_
      · (try dsimp only)
        ((go_split_ands; refine HALL.out _ ?_; (first | assumption | (repeat (first | assumption | refine Fr.new ?_ _ | refine Fr.drew ?_ | (refine Fr.set ?_ (by first | exact Nat.le_refl _ | omega | (simp; done) | (simp; omega)) (by first | (simp; done) | (simp; omega)) _))); done)))
      clear hK K
      (try simp only [Act.put, List.setIfInBounds_toArray, List.set_cons_zero, List.set_cons_succ])
      refine Tw_all (rs := [5, 10]) (by kernel_rfl) (by simp) (by decide) (fun hHeld => ?_)
      refine AllT.consL rfl (fun K hK => ?_) (AllT.consL rfl (fun K hK => ?_) (AllT.nil))
      · go_simp
        refine hK.out _ _ ?_ ?_
        · (try dsimp only)
          ((go_split_ands; refine HALL.out _ ?_; (first | assumption | (repeat (first | assumption | refine Fr.new ?_ _ | refine Fr.drew ?_ | (refine Fr.set ?_ (by first | exact Nat.le_refl _ | omega | (simp; done) | (simp; omega)) (by first | (simp; done) | (simp; omega)) _))); done)))
        clear hK K
        (try simp only [Act.put, List.setIfInBounds_toArray, List.set_cons_zero, List.set_cons_succ])
        refine Tw_abs ?_
        intro wA87 hA87
        (first | (have N1 := Lib.hid (Bk.over_alloc hA87 N1.out)) | (have N1 := Lib.hid (Bk.over_alloc_drew hA87 N1.out)) | skip)
        (first | (have L1 := Lib.hid (fs_alloc (l := [e1]) hA87 (by simp [maxLen]))) | (have L1 := Lib.hid (fs_drew (l := [e1]) hA87 (by simp [maxLen]))))
        clear hA87
        refine Tw_all (rs := [6, 10]) (by kernel_rfl) (by simp) (by decide) (fun hHeld => ?_)
        refine AllT.consL rfl (fun K hK => ?_) (AllT.consL rfl (fun K hK => ?_) (AllT.nil))
        · go_simp
          (go_at_call 34; go_split_ands; (refine (HCR.out _ _ (Fr.lies HA.out (by assumption)) L1.out).mono ?_); rintro e w7 ⟨rfl, hb7⟩; have F6 := Fr.call (by assumption) hb7; (first | (have N1 := Lib.hid (Bk.call N1.out hb7)) | skip); (first | (have L1 := Lib.hid (Lies.call L1.out hb7)) | skip); clear hb7)
          refine hK.out _ _ ?_ ?_
          · (try dsimp only)
            ((go_split_ands; refine HALL.out _ ?_; (first | assumption | (repeat (first | assumption | refine Fr.new ?_ _ | refine Fr.drew ?_ | (refine Fr.set ?_ (by first | exact Nat.le_refl _ | omega | (simp; done) | (simp; omega)) (by first | (simp; done) | (simp; omega)) _))); done)))
          clear hK K
          (try simp only [Act.put, List.setIfInBounds_toArray, List.set_cons_zero, List.set_cons_succ])
          refine Tw_takeL (i := 7) (v := ?tv115) rfl (by kernel_rfl) (by decide) (by kernel_rfl) (by kernel_rfl) (fun _ _ _ h => h) (by rfl) ?ty115 ?tn115
          case ty115 => (intro w hSw; (try dsimp only at hSw); go_simp <;> with_reducible rfl)
          (try simp only [Act.put, List.setIfInBounds_toArray, List.set_cons_zero, List.set_cons_succ])
          refine Tw_takeL (i := 8) (v := ?tv116) rfl (by kernel_rfl) (by decide) (by kernel_rfl) (by kernel_rfl) (fun _ _ _ h => h) (by rfl) ?ty116 ?tn116
          case ty116 => (intro w hSw; (try dsimp only at hSw); go_simp <;> with_reducible rfl)
          (try simp only [Act.put, List.setIfInBounds_toArray, List.set_cons_zero, List.set_cons_succ])
          refine Tw_takeL (i := 9) (v := ?tv117) rfl (by kernel_rfl) (by decide) (by kernel_rfl) (by kernel_rfl) (fun _ _ _ h => h) (by rfl) ?ty117 ?tn117
          case ty117 => (intro w hSw; (try dsimp only at hSw); go_simp <;> with_reducible rfl)
          (try simp only [Act.put, List.setIfInBounds_toArray, List.set_cons_zero, List.set_cons_succ])
          refine Tw_all (rs := [10]) (by kernel_rfl) (by simp) (by decide) (fun hHeld => ?_)
          refine AllT.consL rfl (fun K hK => ?_) (AllT.nil)
          · go_simp
            refine hK.out _ _ ?_ ?_
            · (try dsimp only)
              ((go_split_ands; refine HALL.out _ ?_; (first | assumption | (repeat (first | assumption | refine Fr.new ?_ _ | refine Fr.drew ?_ | (refine Fr.set ?_ (by first | exact Nat.le_refl _ | omega | (simp; done) | (simp; omega)) (by first | (simp; done) | (simp; omega)) _))); done)))
            clear hK K
            (try simp only [Act.put, List.setIfInBounds_toArray, List.set_cons_zero, List.set_cons_succ])
            refine Tw_abs ?_
            intro wA89 hA89
            (first | (have N1 := Lib.hid (Bk.of_alloc hA89)) | (have N1 := Lib.hid (Bk.of_alloc_drew hA89)))
            have zg := Lib.hid (show w.heap.size + 4 ≤ _ from hHeld.1.top.lt)
            (first | (have L1 := Lib.hid (Lies.alloc hA89 L1.out)) | (have L1 := Lib.hid (Lies.alloc_drew hA89 L1.out)) | skip)
            clear hA89
            refine Tw_all (rs := [11]) (by kernel_rfl) (by simp) (by decide) (fun hHeld => ?_)
            refine AllT.consL rfl (fun K hK => ?_) (AllT.nil)
            · have c0 := N1.out.cell 0
              have c1 := N1.out.cell 1
              have c2 := N1.out.cell 2
              have c3 := N1.out.cell 3
              have c4 := N1.out.cell 4
              have f0 := N1.out.frozen 0
              have f1 := N1.out.frozen 1
              have f2 := N1.out.frozen 2
              have f3 := N1.out.frozen 3
              have f4 := N1.out.frozen 4
              have zN := N1.out.lt
              go_simp
              refine hK.out _ _ ?_ ?_
              · exact HALL.out _ (Fr.off5 (n := 4) hHeld.1 zg.out (by intro b hb; simp only [List.mem_cons, List.not_mem_nil, or_false] at hb; rcases hb with rfl | rfl | rfl | rfl <;> (dsimp only; omega)) _ _ _ _ _)
              clear hK K c0 f0 c1 f1 c2 f2 c3 f3 c4 f4 zN
              have N1 := Lib.hid (Bk.set5 N1.out (.string ⟨#[]⟩) (.slice none 0 0) (.int .i64 0) (.int .i64 0) (.int .i64 0))
              (try simp only [Act.put, List.setIfInBounds_toArray, List.set_cons_zero, List.set_cons_succ])
              refine Tw_end (by kernel_rfl) (fun hh => ?_)
              obtain ⟨F11, _⟩ := hh
              clear HALL
              go_wp2_with fail
              go_meet
              exact ⟨_, rfl, rfl, F11.more N1.out⟩
        · go_simp
          refine hK.out _ _ ?_ ?_
          · (try dsimp only)
            ((go_split_ands; refine HALL.out _ ?_; (first | assumption | (repeat (first | assumption | refine Fr.new ?_ _ | refine Fr.drew ?_ | (refine Fr.set ?_ (by first | exact Nat.le_refl _ | omega | (simp; done) | (simp; omega)) (by first | (simp; done) | (simp; omega)) _))); done)))
          clear hK K
          (try simp only [Act.put, List.setIfInBounds_toArray, List.set_cons_zero, List.set_cons_succ])
          refine Tw_abs ?_
          intro wA91 hA91
          (first | (have N1 := Lib.hid (Bk.of_alloc hA91)) | (have N1 := Lib.hid (Bk.of_alloc_drew hA91)))
          have zg := Lib.hid (show w.heap.size + 4 ≤ _ from hHeld.1.top.lt)
          (first | (have L1 := Lib.hid (Lies.alloc hA91 L1.out)) | (have L1 := Lib.hid (Lies.alloc_drew hA91 L1.out)) | skip)
          clear hA91
          refine Tw_all (rs := [6]) (by kernel_rfl) (by simp) (by decide) (fun hHeld => ?_)
          refine AllT.consL rfl (fun K hK => ?_) (AllT.nil)
          · go_simp
            (go_at_call 34; go_split_ands; (refine (HCR.out _ _ (Fr.lies HA.out (by assumption)) L1.out).mono ?_); rintro e w7 ⟨rfl, hb7⟩; have F6 := Fr.call (by assumption) hb7; (first | (have N1 := Lib.hid (Bk.call N1.out hb7)) | skip); (first | (have L1 := Lib.hid (Lies.call L1.out hb7)) | skip); clear hb7)
            refine hK.out _ _ ?_ ?_
            · (try dsimp only)
              ((go_split_ands; refine HALL.out _ ?_; (first | assumption | (repeat (first | assumption | refine Fr.new ?_ _ | refine Fr.drew ?_ | (refine Fr.set ?_ (by first | exact Nat.le_refl _ | omega | (simp; done) | (simp; omega)) (by first | (simp; done) | (simp; omega)) _))); done)))
            clear hK K
            (try simp only [Act.put, List.setIfInBounds_toArray, List.set_cons_zero, List.set_cons_succ])
            refine Tw_takeL (i := 7) (v := ?tv118) rfl (by kernel_rfl) (by decide) (by kernel_rfl) (by kernel_rfl) (fun _ _ _ h => h) (by rfl) ?ty118 ?tn118
            case ty118 => (intro w hSw; (try dsimp only at hSw); go_simp <;> with_reducible rfl)
            (try simp only [Act.put, List.setIfInBounds_toArray, List.set_cons_zero, List.set_cons_succ])
            refine Tw_takeL (i := 8) (v := ?tv119) rfl (by kernel_rfl) (by decide) (by kernel_rfl) (by kernel_rfl) (fun _ _ _ h => h) (by rfl) ?ty119 ?tn119
            case ty119 => (intro w hSw; (try dsimp only at hSw); go_simp <;> with_reducible rfl)
            (try simp only [Act.put, List.setIfInBounds_toArray, List.set_cons_zero, List.set_cons_succ])
            refine Tw_takeL (i := 9) (v := ?tv120) rfl (by kernel_rfl) (by decide) (by kernel_rfl) (by kernel_rfl) (fun _ _ _ h => h) (by rfl) ?ty120 ?tn120
            case ty120 => (intro w hSw; (try dsimp only at hSw); go_simp <;> with_reducible rfl)
            (try simp only [Act.put, List.setIfInBounds_toArray, List.set_cons_zero, List.set_cons_succ])
            refine Tw_all (rs := [11]) (by kernel_rfl) (by simp) (by decide) (fun hHeld => ?_)
            refine AllT.consL rfl (fun K hK => ?_) (AllT.nil)
            · have c0 := N1.out.cell 0
              have c1 := N1.out.cell 1
              have c2 := N1.out.cell 2
              have c3 := N1.out.cell 3
              have c4 := N1.out.cell 4
              have f0 := N1.out.frozen 0
              have f1 := N1.out.frozen 1
              have f2 := N1.out.frozen 2
              have f3 := N1.out.frozen 3
              have f4 := N1.out.frozen 4
              have zN := N1.out.lt
              go_simp
              refine hK.out _ _ ?_ ?_
              · exact HALL.out _ (Fr.off5 (n := 4) hHeld.1 zg.out (by intro b hb; simp only [List.mem_cons, List.not_mem_nil, or_false] at hb; rcases hb with rfl | rfl | rfl | rfl <;> (dsimp only; omega)) _ _ _ _ _)
              clear hK K c0 f0 c1 f1 c2 f2 c3 f3 c4 f4 zN
              have N1 := Lib.hid (Bk.set5 N1.out (.string ⟨#[]⟩) (.slice none 0 0) (.int .i64 0) (.int .i64 0) (.int .i64 0))
              (try simp only [Act.put, List.setIfInBounds_toArray, List.set_cons_zero, List.set_cons_succ])
              refine Tw_end (by kernel_rfl) (fun hh => ?_)
              obtain ⟨F11, _⟩ := hh
              clear HALL
              go_wp2_with fail
              go_meet
              exact ⟨_, rfl, rfl, F11.more N1.out⟩
      · go_simp
        refine hK.out _ _ ?_ ?_
        · (try dsimp only)
          ((go_split_ands; refine HALL.out _ ?_; (first | assumption | (repeat (first | assumption | refine Fr.new ?_ _ | refine Fr.drew ?_ | (refine Fr.set ?_ (by first | exact Nat.le_refl _ | omega | (simp; done) | (simp; omega)) (by first | (simp; done) | (simp; omega)) _))); done)))
        clear hK K
        (try simp only [Act.put, List.setIfInBounds_toArray, List.set_cons_zero, List.set_cons_succ])
        refine Tw_abs ?_
        intro wA94 hA94
        (first | (have N1 := Lib.hid (Bk.of_alloc hA94)) | (have N1 := Lib.hid (Bk.of_alloc_drew hA94)))
        have zg := Lib.hid (show w.heap.size + 4 ≤ _ from hHeld.1.top.lt)
        (first | (have L1 := Lib.hid (Lies.alloc hA94 L1.out)) | (have L1 := Lib.hid (Lies.alloc_drew hA94 L1.out)) | skip)
        clear hA94
        refine Tw_all (rs := [5]) (by kernel_rfl) (by simp) (by decide) (fun hHeld => ?_)
        refine AllT.consL rfl (fun K hK => ?_) (AllT.nil)
        · go_simp
          refine hK.out _ _ ?_ ?_
          · (try dsimp only)
            ((go_split_ands; refine HALL.out _ ?_; (first | assumption | (repeat (first | assumption | refine Fr.new ?_ _ | refine Fr.drew ?_ | (refine Fr.set ?_ (by first | exact Nat.le_refl _ | omega | (simp; done) | (simp; omega)) (by first | (simp; done) | (simp; omega)) _))); done)))
          clear hK K
          (try simp only [Act.put, List.setIfInBounds_toArray, List.set_cons_zero, List.set_cons_succ])
          refine Tw_abs ?_
          intro wA95 hA95
          (first | (have N1 := Lib.hid (Bk.over_alloc hA95 N1.out)) | (have N1 := Lib.hid (Bk.over_alloc_drew hA95 N1.out)) | skip)
          (first | (have L1 := Lib.hid (fs_alloc (l := [e1]) hA95 (by simp [maxLen]))) | (have L1 := Lib.hid (fs_drew (l := [e1]) hA95 (by simp [maxLen]))))
          clear hA95
          refine Tw_all (rs := [6]) (by kernel_rfl) (by simp) (by decide) (fun hHeld => ?_)
          refine AllT.consL rfl (fun K hK => ?_) (AllT.nil)
          · go_simp
            (go_at_call 34; go_split_ands; (refine (HCR.out _ _ (Fr.lies HA.out (by assumption)) L1.out).mono ?_); rintro e w7 ⟨rfl, hb7⟩; have F6 := Fr.call (by assumption) hb7; (first | (have N1 := Lib.hid (Bk.call N1.out hb7)) | skip); (first | (have L1 := Lib.hid (Lies.call L1.out hb7)) | skip); clear hb7)
            refine hK.out _ _ ?_ ?_
            · (try dsimp only)
              ((go_split_ands; refine HALL.out _ ?_; (first | assumption | (repeat (first | assumption | refine Fr.new ?_ _ | refine Fr.drew ?_ | (refine Fr.set ?_ (by first | exact Nat.le_refl _ | omega | (simp; done) | (simp; omega)) (by first | (simp; done) | (simp; omega)) _))); done)))
            clear hK K
            (try simp only [Act.put, List.setIfInBounds_toArray, List.set_cons_zero, List.set_cons_succ])
            refine Tw_takeL (i := 7) (v := ?tv121) rfl (by kernel_rfl) (by decide) (by kernel_rfl) (by kernel_rfl) (fun _ _ _ h => h) (by rfl) ?ty121 ?tn121
            case ty121 => (intro w hSw; (try dsimp only at hSw); go_simp <;> with_reducible rfl)
            (try simp only [Act.put, List.setIfInBounds_toArray, List.set_cons_zero, List.set_cons_succ])
            refine Tw_takeL (i := 8) (v := ?tv122) rfl (by kernel_rfl) (by decide) (by kernel_rfl) (by kernel_rfl) (fun _ _ _ h => h) (by rfl) ?ty122 ?tn122
            case ty122 => (intro w hSw; (try dsimp only at hSw); go_simp <;> with_reducible rfl)
            (try simp only [Act.put, List.setIfInBounds_toArray, List.set_cons_zero, List.set_cons_succ])
            refine Tw_takeL (i := 9) (v := ?tv123) rfl (by kernel_rfl) (by decide) (by kernel_rfl) (by kernel_rfl) (fun _ _ _ h => h) (by rfl) ?ty123 ?tn123
            case ty123 => (intro w hSw; (try dsimp only at hSw); go_simp <;> with_reducible rfl)
            (try simp only [Act.put, List.setIfInBounds_toArray, List.set_cons_zero, List.set_cons_succ])
            refine Tw_all (rs := [11]) (by kernel_rfl) (by simp) (by decide) (fun hHeld => ?_)
            refine AllT.consL rfl (fun K hK => ?_) (AllT.nil)
            · have c0 := N1.out.cell 0
              have c1 := N1.out.cell 1
              have c2 := N1.out.cell 2
              have c3 := N1.out.cell 3
              have c4 := N1.out.cell 4
              have f0 := N1.out.frozen 0
              have f1 := N1.out.frozen 1
              have f2 := N1.out.frozen 2
              have f3 := N1.out.frozen 3
              have f4 := N1.out.frozen 4
              have zN := N1.out.lt
              go_simp
              refine hK.out _ _ ?_ ?_
              · exact HALL.out _ (Fr.off5 (n := 4) hHeld.1 zg.out (by intro b hb; simp only [List.mem_cons, List.not_mem_nil, or_false] at hb; rcases hb with rfl | rfl | rfl | rfl <;> (dsimp only; omega)) _ _ _ _ _)
              clear hK K c0 f0 c1 f1 c2 f2 c3 f3 c4 f4 zN
              have N1 := Lib.hid (Bk.set5 N1.out (.string ⟨#[]⟩) (.slice none 0 0) (.int .i64 0) (.int .i64 0) (.int .i64 0))
              (try simp only [Act.put, List.setIfInBounds_toArray, List.set_cons_zero, List.set_cons_succ])
              refine Tw_end (by kernel_rfl) (fun hh => ?_)
              obtain ⟨F11, _⟩ := hh
              clear HALL
              go_wp2_with fail
              go_meet
              exact ⟨_, rfl, rfl, F11.more N1.out⟩
    · go_simp
      refine hK.out _ _ ?_ ?_
      · (try dsimp only)
        ((go_split_ands; refine HALL.out _ ?_; (first | assumption | (repeat (first | assumption | refine Fr.new ?_ _ | refine Fr.drew ?_ | (refine Fr.set ?_ (by first | exact Nat.le_refl _ | omega | (simp; done) | (simp; omega)) (by first | (simp; done) | (simp; omega)) _))); done)))
      clear hK K
      (try simp only [Act.put, List.setIfInBounds_toArray, List.set_cons_zero, List.set_cons_succ])
      refine Tw_abs ?_
      intro wA98 hA98
      (first | (have N1 := Lib.hid (Bk.of_alloc hA98)) | (have N1 := Lib.hid (Bk.of_alloc_drew hA98)))
      have zg := Lib.hid (show w.heap.size + 4 ≤ _ from hHeld.1.top.lt)
      (first | (have L1 := Lib.hid (Lies.alloc hA98 L1.out)) | (have L1 := Lib.hid (Lies.alloc_drew hA98 L1.out)) | skip)
      clear hA98
      refine Tw_all (rs := [4]) (by kernel_rfl) (by simp) (by decide) (fun hHeld => ?_)
      refine AllT.consL rfl (fun K hK => ?_) (AllT.nil)
      · go_simp
        (go_at_call 35; go_split_ands; (with_reducible refine (errorOfState_any s ps A c (by omega) p sq _).mono ?_); rintro e w7 ⟨rfl, hb7⟩; rw [HS1.out]; have F4 := Fr.call (by assumption) hb7; (first | (have N1 := Lib.hid (Bk.call N1.out hb7)) | skip); (first | (have L1 := Lib.hid (Lies.call L1.out hb7)) | skip); clear hb7)
        refine hK.out _ _ ?_ ?_
        · (try dsimp only)
          ((go_split_ands; refine HALL.out _ ?_; (first | assumption | (repeat (first | assumption | refine Fr.new ?_ _ | refine Fr.drew ?_ | (refine Fr.set ?_ (by first | exact Nat.le_refl _ | omega | (simp; done) | (simp; omega)) (by first | (simp; done) | (simp; omega)) _))); done)))
        clear hK K
        (try simp only [Act.put, List.setIfInBounds_toArray, List.set_cons_zero, List.set_cons_succ])
        refine Tw_all (rs := [5]) (by kernel_rfl) (by simp) (by decide) (fun hHeld => ?_)
        refine AllT.consL rfl (fun K hK => ?_) (AllT.nil)
        · go_simp
          refine hK.out _ _ ?_ ?_
          · (try dsimp only)
            ((go_split_ands; refine HALL.out _ ?_; (first | assumption | (repeat (first | assumption | refine Fr.new ?_ _ | refine Fr.drew ?_ | (refine Fr.set ?_ (by first | exact Nat.le_refl _ | omega | (simp; done) | (simp; omega)) (by first | (simp; done) | (simp; omega)) _))); done)))
          clear hK K
          (try simp only [Act.put, List.setIfInBounds_toArray, List.set_cons_zero, List.set_cons_succ])
          refine Tw_abs ?_
          intro wA100 hA100
          (first | (have N1 := Lib.hid (Bk.over_alloc hA100 N1.out)) | (have N1 := Lib.hid (Bk.over_alloc_drew hA100 N1.out)) | skip)
          (first | (have L1 := Lib.hid (fs_alloc (l := [e1]) hA100 (by simp [maxLen]))) | (have L1 := Lib.hid (fs_drew (l := [e1]) hA100 (by simp [maxLen]))))
          clear hA100
          refine Tw_all (rs := [6]) (by kernel_rfl) (by simp) (by decide) (fun hHeld => ?_)
          refine AllT.consL rfl (fun K hK => ?_) (AllT.nil)
          · go_simp
            (go_at_call 34; go_split_ands; (refine (HCR.out _ _ (Fr.lies HA.out (by assumption)) L1.out).mono ?_); rintro e w7 ⟨rfl, hb7⟩; have F6 := Fr.call (by assumption) hb7; (first | (have N1 := Lib.hid (Bk.call N1.out hb7)) | skip); (first | (have L1 := Lib.hid (Lies.call L1.out hb7)) | skip); clear hb7)
            refine hK.out _ _ ?_ ?_
            · (try dsimp only)
              ((go_split_ands; refine HALL.out _ ?_; (first | assumption | (repeat (first | assumption | refine Fr.new ?_ _ | refine Fr.drew ?_ | (refine Fr.set ?_ (by first | exact Nat.le_refl _ | omega | (simp; done) | (simp; omega)) (by first | (simp; done) | (simp; omega)) _))); done)))
            clear hK K
            (try simp only [Act.put, List.setIfInBounds_toArray, List.set_cons_zero, List.set_cons_succ])
            refine Tw_takeL (i := 7) (v := ?tv124) rfl (by kernel_rfl) (by decide) (by kernel_rfl) (by kernel_rfl) (fun _ _ _ h => h) (by rfl) ?ty124 ?tn124
            case ty124 => (intro w hSw; (try dsimp only at hSw); go_simp <;> with_reducible rfl)
            (try simp only [Act.put, List.setIfInBounds_toArray, List.set_cons_zero, List.set_cons_succ])
            refine Tw_takeL (i := 8) (v := ?tv125) rfl (by kernel_rfl) (by decide) (by kernel_rfl) (by kernel_rfl) (fun _ _ _ h => h) (by rfl) ?ty125 ?tn125
            case ty125 => (intro w hSw; (try dsimp only at hSw); go_simp <;> with_reducible rfl)
            (try simp only [Act.put, List.setIfInBounds_toArray, List.set_cons_zero, List.set_cons_succ])
            refine Tw_takeL (i := 9) (v := ?tv126) rfl (by kernel_rfl) (by decide) (by kernel_rfl) (by kernel_rfl) (fun _ _ _ h => h) (by rfl) ?ty126 ?tn126
            case ty126 => (intro w hSw; (try dsimp only at hSw); go_simp <;> with_reducible rfl)
            (try simp only [Act.put, List.setIfInBounds_toArray, List.set_cons_zero, List.set_cons_succ])
            refine Tw_all (rs := [11]) (by kernel_rfl) (by simp) (by decide) (fun hHeld => ?_)
            refine AllT.consL rfl (fun K hK => ?_) (AllT.nil)
            · have c0 := N1.out.cell 0
              have c1 := N1.out.cell 1
              have c2 := N1.out.cell 2
              have c3 := N1.out.cell 3
              have c4 := N1.out.cell 4
              have f0 := N1.out.frozen 0
              have f1 := N1.out.frozen 1
              have f2 := N1.out.frozen 2
              have f3 := N1.out.frozen 3
              have f4 := N1.out.frozen 4
              have zN := N1.out.lt
              go_simp
              refine hK.out _ _ ?_ ?_
              · exact HALL.out _ (Fr.off5 (n := 4) hHeld.1 zg.out (by intro b hb; simp only [List.mem_cons, List.not_mem_nil, or_false] at hb; rcases hb with rfl | rfl | rfl | rfl <;> (dsimp only; omega)) _ _ _ _ _)
              clear hK K c0 f0 c1 f1 c2 f2 c3 f3 c4 f4 zN
              have N1 := Lib.hid (Bk.set5 N1.out (.string ⟨#[]⟩) (.slice none 0 0) (.int .i64 0) (.int .i64 0) (.int .i64 0))
              (try simp only [Act.put, List.setIfInBounds_toArray, List.set_cons_zero, List.set_cons_succ])
              refine Tw_end (by kernel_rfl) (fun hh => ?_)
              obtain ⟨F11, _⟩ := hh
              clear HALL
              go_wp2_with fail
              go_meet
              exact ⟨_, rfl, rfl, F11.more N1.out⟩
  case rest =>
    obtain ⟨wx, rfl⟩ : ∃ W, W = wc := ⟨_, rfl⟩
    obtain ⟨g, rfl, rfl, hx⟩ := hcut
    have FC := Lib.hid hx
    clear hx F0
    have d0 := (FC.out.get 1 rfl).cell 0
    have d1 := (FC.out.get 1 rfl).cell 1
    have f0 := (FC.out.get 1 rfl).frozen 0
    have f1 := (FC.out.get 1 rfl).frozen 1
    have zN := (FC.out.get 1 rfl).lt
    go_wp2_with fail
    exact bodyPost_ret (v := .tuple #[.agg #[.int .i64 0, .int .i64 0], .int .i64 er]) (by simp [results, Try.results18, go_sem, d0, d1]) rfl ⟨rfl, (((FC.out.bl.setCell (p := ⟨w.heap.size + 1 + 1 + 1, 0, none⟩) (by show w.heap.size ≤ w.heap.size + 1 + 1 + 1; omega) _).setCell (p := ⟨w.heap.size + 1 + 1 + 1, 1, none⟩) (by show w.heap.size ≤ w.heap.size + 1 + 1 + 1; omega) _))⟩
end Go.Proofs.Ytbicmbnhlnmdfaa
