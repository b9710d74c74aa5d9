
/-
  The walk of the reference's StandsAt, of the program's with errors, and what is known of both at any arguments.
-/
import Derived.Test.YtmjooiocgeoaiaaBSt2
import Derived.Test.YtmjooiocgeoaiaaBLm2
import Derived.Test.YtmjooiocgeoaiaaBKit
import Derived.Test.YtmjooiocgeoaiaaBErr
namespace Go.Proofs.Ytmjooiocgeoaiaa
open Go.RowKit

theorem floor_of {a b : Int} (hb : 1 ≤ b) (h : a.tmod b < 0) : a / b = a.tdiv b - 1 := by
  have h1 := Int.emod_nonneg a (show b ≠ 0 by omega)
  rw [Int.tmod_eq_emod] at h
  rw [Int.tdiv_eq_ediv]
  split at h
  · omega
  · rename_i hh
    rw [if_neg hh, Int.sign_eq_one_of_pos (by omega)]; omega
theorem floor_of' {a b : Int} (hb : 1 ≤ b) (h : ¬ a.tmod b < 0) : a / b = a.tdiv b := by
  have h1 := Int.emod_lt_of_pos a (show 0 < b by omega)
  rw [Int.tmod_eq_emod] at h
  rw [Int.tdiv_eq_ediv]
  split at h
  · rename_i hh
    rw [if_pos hh]; omega
  · omega
set_option maxHeartbeats 400000 in
theorem Floor_any (a b : Int) (ha : -9223372036854775807 ≤ a) (ha' : a ≤ 9223372036854775807) (hb : 1 ≤ b) (hb' : b ≤ 9223372036854775807) (w : World) :
    Calls Try.prog 58 #[.int .i64 a, .int .i64 b] w fun e w' => e = .returned (.int .i64 (a / b)) ∧ w = w' := by
  have hz : (b == 0) = false := by simp; omega
  have hq : (a.tdiv b).natAbs ≤ a.natAbs := Int.natAbs_tdiv_le_natAbs a b
  have hq1 : -9223372036854775807 ≤ a.tdiv b := by omega
  have hq2 : a.tdiv b ≤ 9223372036854775807 := by omega
  clear hq
  by_cases h : a.tmod b < 0
  · have Hr := Lib.hid (floor_of hb h)
    go_enter Try.func58, Try.ntmps58
    go_wp2
    go_ret
    exact ⟨ret_i64 Hr.out.symm, rfl⟩
  · have Hr := Lib.hid (floor_of' hb h)
    go_enter Try.func58, Try.ntmps58
    go_wp2
    go_ret
    exact ⟨ret_i64 Hr.out.symm, rfl⟩
theorem div_bd {a b M : Int} (hM : 0 ≤ M) (hb : 1 ≤ b) (h0 : -M ≤ a) (h1 : a ≤ M) : -M ≤ a / b ∧ a / b ≤ M := by
  have l1 : a / b ≤ M := by
    have : a / b ≤ M / b := Int.ediv_le_ediv (by omega) h1
    have h2 : M / b ≤ M := Int.ediv_le_self _ hM
    omega
  have l2 : -M ≤ a / b := by
    rw [Int.le_ediv_iff_mul_le (by omega)]
    have : M * 1 ≤ M * b := Int.mul_le_mul_of_nonneg_left hb hM
    rw [Int.neg_mul]
    omega
  exact ⟨l2, l1⟩

set_option maxHeartbeats 400000 in
theorem Ceil_any (a b : Int) (ha : -2000000000000 ≤ a) (ha' : a ≤ 2000000000000) (hb : 1 ≤ b) (hb' : b ≤ 1000000000) (w : World) :
    Calls Try.prog 60 #[.int .i64 a, .int .i64 b] w fun e w' => e = .returned (.int .i64 (-(-a / b))) ∧ w = w' := by
  have hq := div_bd (a := -a) (M := 2000000000000) (by omega) hb (by omega) (by omega)
  obtain ⟨q0, q1⟩ := hq
  have w1 : IntKind.i64.wrap (-a) = -a := IntWalk.i64_in _ ⟨by omega, by omega⟩
  have w2 : IntKind.i64.wrap (-(-a / b)) = -(-a / b) := IntWalk.i64_in _ ⟨by omega, by omega⟩
  go_enter Try.func60, Try.ntmps60
  go_wp2_with (go_at_call 58; refine (Floor_any (-a) b (by omega) (by omega) hb (by omega) _).mono ?_; rintro e w' ⟨rfl, rfl⟩)
  go_ret
  exact ⟨rfl, rfl⟩
theorem ceil_tdiv {a b : Int} (ha : 0 ≤ a) (hb : 1 ≤ b) : -(-a / b) = (a + b - 1).tdiv b := by
  rw [Int.tdiv_eq_ediv_of_nonneg (by omega)]
  have h1 := Int.mul_ediv_add_emod (-a) b
  have h2 := Int.emod_nonneg (-a) (show b ≠ 0 by omega)
  have h3 := Int.emod_lt_of_pos (-a) (show 0 < b by omega)
  obtain ⟨q, hq⟩ : ∃ q, -a / b = q := ⟨_, rfl⟩
  rw [hq] at h1 ⊢
  have h4 : b * q = -(b * (-q)) := by rw [Int.mul_neg, Int.neg_neg]
  symm
  rw [Int.ediv_eq_iff_of_pos (by omega)]
  rw [Int.mul_comm (-q) b]
  omega
theorem Fr.base6 {w W W' : World} {bs : List (Nat × TypeId × Array Value)} (h : Fr w W bs) (hb : Below W.heap.size W W') : Fr W W' bs := ⟨hb, fun b hm => (h.bk b hm).call hb⟩
theorem list_cell3 {w : World} {B : Nat} {a : Addr} {n k : Nat} {f : Nat → Int} (h : Lies w B (some a) (ic (listF n f))) (hk : k < n) : w.cell? (a.add k) = some (.int .i64 (f k)) := by
  obtain ⟨b, e, _, c⟩ := h.num (listF_at hk)
  injection e with e
  subst e
  exact c
/-- The train stands at the piece j of those ahead. -/
def stH (ps : List Bp) (d : Int) (p : Nat) (sq : Int) (j : Nat) : Prop := 0 < d + 10 * (gp ps (p + j)).grad ∧ sqS ps d p sq j ≤ lossV (gp ps (p + j)) d
theorem hit_iff {p : Bp} (hp : okP p = true) {d x : Int} : (0 < lossV p d ∧ x ≤ lossV p d) ↔ (0 < d + 10 * p.grad ∧ x ≤ lossV p d) := by
  have h1 := okP_iff.1 hp
  unfold lossV
  constructor
  · rintro ⟨h, h2⟩
    refine ⟨Decidable.by_contra fun hn => ?_, h2⟩
    have := Int.mul_nonpos_of_nonpos_of_nonneg (a := 2 * (d + 10 * p.grad)) (b := p.len) (by omega) (by omega)
    omega
  · rintro ⟨h, h2⟩
    exact ⟨Int.mul_pos (by omega) (by omega), h2⟩

set_option maxHeartbeats 3200000 in
set_option maxRecDepth 100000 in
theorem StandsAt_bad (s : ByteArray) (hs : s.size ≤ maxLen) (ps : List Bp) (A : Option Addr) (c : Nat) (hl : ps.length ≤ 1000) (b : Bs) (p sq : Int) (er : Int) (he : nz ((trE s ps).2 :: sE b :: [stateE ps p sq]) = er) (hr : er ≠ 0) (w : World) (hA : Lies w w.heap.size A (ps.flatMap pc)) :
    Calls Try.prog 37 #[.agg #[.string s, .slice A ps.length c], .agg #[.int .i64 b.brk, .int .i64 b.drag, .int .i64 b.drv], .agg #[.int .i64 p, .int .i64 sq]] w fun e w' => e = .returned (.tuple #[.agg #[.int .i64 0, .int .i64 0], .int .i64 er]) ∧ Below w.heap.size w w' := by
  have hlm : ps.length ≤ maxLen := by unfold maxLen; omega
  have F0 := Lib.hid (Fr.b4 w 24 #[.string s, .slice A ps.length c] 26 #[.int .i64 b.brk, .int .i64 b.drag, .int .i64 b.drv] 28 #[.int .i64 p, .int .i64 sq] 49 #[.int .i64 0, .int .i64 0])
  have HA := Lib.hid hA
  obtain ⟨e1, h1⟩ : ∃ e1, stateE ps p sq = e1 := ⟨_, rfl⟩
  rw [h1] at he
  have ge : (er != 0) = true := by simp [hr]
  have HCR : Hid (∀ (fa : Addr) (W : World), Lies W W.heap.size A (ps.flatMap pc) → Lies W W.heap.size (some fa) (ic [e1]) → Calls Try.prog 39 #[.agg #[.string s, .slice A ps.length c], .agg #[.int .i64 b.brk, .int .i64 b.drag, .int .i64 b.drv], .slice (some fa) 1 1] W fun e w' => e = .returned (.tuple #[.agg #[.string ⟨#[]⟩, .slice none 0 0, .int .i64 0, .int .i64 0, .int .i64 0], .int .i64 er]) ∧ Below W.heap.size W w') := Lib.hid (fun fa W h1 h2 => checkRide_bad s hs ps A c hlm b [e1] fa 1 (by simp) (by simp) er he hr W h1 h2)
  have HS1 := Lib.hid h1
  clear hA h1 he hr
  go_enter Try.func37, Try.ntmps37
  go_upto_region 1 with fail
  go_cut [8, 9] from 8 to 23 (fun pv rv W => ∃ g : Nat, pv = .pointer (some ⟨g, 0, none⟩) ∧ rv = .int .i64 er ∧ Fr w W ((g, 77, #[.string ⟨#[]⟩, .slice none 0 0, .int .i64 0, .int .i64 0, .int .i64 0]) :: [(w.heap.size + 1 + 1 + 1, 49, #[.int .i64 0, .int .i64 0]), (w.heap.size + 1 + 1, 28, #[.int .i64 p, .int .i64 sq]), (w.heap.size + 1, 26, #[.int .i64 b.brk, .int .i64 b.drag, .int .i64 b.drv]), (w.heap.size, 24, #[.string s, .slice A ps.length c])]))
  case first =>
    refine wp_abs ?_
    intro w5 h5
    have HALL : Hid (∀ W, Fr w W [(w.heap.size + 1 + 1 + 1, 49, #[.int .i64 0, .int .i64 0]), (w.heap.size + 1 + 1, 28, #[.int .i64 p, .int .i64 sq]), (w.heap.size + 1, 26, #[.int .i64 b.brk, .int .i64 b.drag, .int .i64 b.drv]), (w.heap.size, 24, #[.string s, .slice A ps.length c])] → Fr w W [(w.heap.size + 1 + 1 + 1, 49, #[.int .i64 0, .int .i64 0]), (w.heap.size + 1 + 1, 28, #[.int .i64 p, .int .i64 sq]), (w.heap.size + 1, 26, #[.int .i64 b.brk, .int .i64 b.drag, .int .i64 b.drv]), (w.heap.size, 24, #[.string s, .slice A ps.length c])] ∧ W.cell? ⟨w.heap.size, 0, none⟩ = some (.string s) ∧ W.cell? ⟨w.heap.size, 1, none⟩ = some (.slice A ps.length c) ∧ W.cell? ⟨w.heap.size + 1, 0, none⟩ = some (.int .i64 b.brk) ∧ W.cell? ⟨w.heap.size + 1, 1, none⟩ = some (.int .i64 b.drag) ∧ W.cell? ⟨w.heap.size + 1, 2, none⟩ = some (.int .i64 b.drv) ∧ W.cell? ⟨w.heap.size + 1 + 1, 0, none⟩ = some (.int .i64 p) ∧ W.cell? ⟨w.heap.size + 1 + 1, 1, none⟩ = some (.int .i64 sq)) := Lib.hid (fun W hW => ⟨hW, hW.at3.cell 0, hW.at3.cell 1, hW.at2.cell 0, hW.at2.cell 1, hW.at2.cell 2, hW.at1.cell 0, hW.at1.cell 1⟩)
    have F10 : Fr w w5 [(w.heap.size + 1 + 1 + 1, 49, #[.int .i64 0, .int .i64 0]), (w.heap.size + 1 + 1, 28, #[.int .i64 p, .int .i64 sq]), (w.heap.size + 1, 26, #[.int .i64 b.brk, .int .i64 b.drag, .int .i64 b.drv]), (w.heap.size, 24, #[.string s, .slice A ps.length c])] := by subst h5; exact F0.out
    clear F0 h5
    refine Tw_start 12 (fun W => Fr w W [(w.heap.size + 1 + 1 + 1, 49, #[.int .i64 0, .int .i64 0]), (w.heap.size + 1 + 1, 28, #[.int .i64 p, .int .i64 sq]), (w.heap.size + 1, 26, #[.int .i64 b.brk, .int .i64 b.drag, .int .i64 b.drv]), (w.heap.size, 24, #[.string s, .slice A ps.length c])] ∧ W.cell? ⟨w.heap.size, 0, none⟩ = some (.string s) ∧ W.cell? ⟨w.heap.size, 1, none⟩ = some (.slice A ps.length c) ∧ W.cell? ⟨w.heap.size + 1, 0, none⟩ = some (.int .i64 b.brk) ∧ W.cell? ⟨w.heap.size + 1, 1, none⟩ = some (.int .i64 b.drag) ∧ W.cell? ⟨w.heap.size + 1, 2, none⟩ = some (.int .i64 b.drv) ∧ W.cell? ⟨w.heap.size + 1 + 1, 0, none⟩ = some (.int .i64 p) ∧ W.cell? ⟨w.heap.size + 1 + 1, 1, none⟩ = some (.int .i64 sq)) (by kernel_rfl) (by kernel_rfl) rfl ?_ ?_
    · (try dsimp only)
      ((go_split_ands; refine HALL.out _ ?_; (first | assumption | (repeat (first | assumption | refine Fr.new ?_ _ | refine Fr.drew ?_ | (refine Fr.set ?_ (by first | exact Nat.le_refl _ | omega | (simp; done) | (simp; omega)) (by first | (simp; done) | (simp; omega)) _))); done)))
    refine Tw_takeL (i := 0) (v := ?tv111) rfl (by kernel_rfl) (by decide) (by kernel_rfl) (by kernel_rfl) (fun _ _ _ h => h) (by rfl) ?ty111 ?tn111
    case ty111 => (intro w hSw; (try dsimp only at hSw); go_simp <;> with_reducible rfl)
    (try simp only [Act.put, List.setIfInBounds_toArray, List.set_cons_zero, List.set_cons_succ])
    refine Tw_takeL (i := 1) (v := ?tv112) rfl (by kernel_rfl) (by decide) (by kernel_rfl) (by kernel_rfl) (fun _ _ _ h => h) (by rfl) ?ty112 ?tn112
    case ty112 => (intro w hSw; (try dsimp only at hSw); go_simp <;> with_reducible rfl)
    (try simp only [Act.put, List.setIfInBounds_toArray, List.set_cons_zero, List.set_cons_succ])
    refine Tw_takeL (i := 2) (v := ?tv113) rfl (by kernel_rfl) (by decide) (by kernel_rfl) (by kernel_rfl) (fun _ _ _ h => h) (by rfl) ?ty113 ?tn113
    case ty113 => (intro w hSw; (try dsimp only at hSw); go_simp <;> with_reducible rfl)
    (try simp only [Act.put, List.setIfInBounds_toArray, List.set_cons_zero, List.set_cons_succ])
    refine Tw_takeL (i := 3) (v := ?tv114) rfl (by kernel_rfl) (by decide) (by kernel_rfl) (by kernel_rfl) (fun _ _ _ h => h) (by rfl) ?ty114 ?tn114
    case ty114 => (intro w hSw; (try dsimp only at hSw); go_simp <;> with_reducible rfl)
    (try simp only [Act.put, List.setIfInBounds_toArray, List.set_cons_zero, List.set_cons_succ])
    refine Tw_all (rs := [4, 10]) (by kernel_rfl) (by simp) (by decide) (fun hHeld => ?_)
    refine AllT.consL rfl (fun K hK => ?_) (AllT.consL rfl (fun K hK => ?_) (AllT.nil))
    · go_simp
      (go_at_call 40; go_split_ands; (with_reducible refine (errorOfState_any s ps A c (by omega) p sq _).mono ?_); rintro e w7 ⟨rfl, hb7⟩; rw [HS1.out]; have F4 := Fr.call (by assumption) hb7; (first | (have N1 := Lib.hid (Bk.call N1.out hb7)) | skip); (first | (have L1 := Lib.hid (Lies.call L1.out hb7)) | skip); clear hb7)
      refine hK.out _ _ ?_ ?_
      · (try dsimp only)
        ((go_split_ands; refine HALL.out _ ?_; (first | assumption | (repeat (first | assumption | refine Fr.new ?_ _ | refine Fr.drew ?_ | (refine Fr.set ?_ (by first | exact Nat.le_refl _ | omega | (simp; done) | (simp; omega)) (by first | (simp; done) | (simp; omega)) _))); done)))
      clear hK K
      (try simp only [Act.put, List.setIfInBounds_toArray, List.set_cons_zero, List.set_cons_succ])
      refine Tw_all (rs := [5, 10]) (by kernel_rfl) (by simp) (by decide) (fun hHeld => ?_)
      refine AllT.consL rfl (fun K hK => ?_) (AllT.consL rfl (fun K hK => ?_) (AllT.nil))
      · go_simp
        refine hK.out _ _ ?_ ?_
        · (try dsimp only)
          ((go_split_ands; refine HALL.out _ ?_; (first | assumption | (repeat (first | assumption | refine Fr.new ?_ _ | refine Fr.drew ?_ | (refine Fr.set ?_ (by first | exact Nat.le_refl _ | omega | (simp; done) | (simp; omega)) (by first | (simp; done) | (simp; omega)) _))); done)))
        clear hK K
        (try simp only [Act.put, List.setIfInBounds_toArray, List.set_cons_zero, List.set_cons_succ])
        refine Tw_abs ?_
        intro wA87 hA87
        (first | (have N1 := Lib.hid (Bk.over_alloc hA87 N1.out)) | (have N1 := Lib.hid (Bk.over_alloc_drew hA87 N1.out)) | skip)
        (first | (have L1 := Lib.hid (fs_alloc (l := [e1]) hA87 (by simp [maxLen]))) | (have L1 := Lib.hid (fs_drew (l := [e1]) hA87 (by simp [maxLen]))))
        clear hA87
        refine Tw_all (rs := [6, 10]) (by kernel_rfl) (by simp) (by decide) (fun hHeld => ?_)
        refine AllT.consL rfl (fun K hK => ?_) (AllT.consL rfl (fun K hK => ?_) (AllT.nil))
        · go_simp
          (go_at_call 39; go_split_ands; (refine (HCR.out _ _ (Fr.lies HA.out (by assumption)) L1.out).mono ?_); rintro e w7 ⟨rfl, hb7⟩; have F6 := Fr.call (by assumption) hb7; (first | (have N1 := Lib.hid (Bk.call N1.out hb7)) | skip); (first | (have L1 := Lib.hid (Lies.call L1.out hb7)) | skip); clear hb7)
          refine hK.out _ _ ?_ ?_
          · (try dsimp only)
            ((go_split_ands; refine HALL.out _ ?_; (first | assumption | (repeat (first | assumption | refine Fr.new ?_ _ | refine Fr.drew ?_ | (refine Fr.set ?_ (by first | exact Nat.le_refl _ | omega | (simp; done) | (simp; omega)) (by first | (simp; done) | (simp; omega)) _))); done)))
          clear hK K
          (try simp only [Act.put, List.setIfInBounds_toArray, List.set_cons_zero, List.set_cons_succ])
          refine Tw_takeL (i := 7) (v := ?tv115) rfl (by kernel_rfl) (by decide) (by kernel_rfl) (by kernel_rfl) (fun _ _ _ h => h) (by rfl) ?ty115 ?tn115
          case ty115 => (intro w hSw; (try dsimp only at hSw); go_simp <;> with_reducible rfl)
          (try simp only [Act.put, List.setIfInBounds_toArray, List.set_cons_zero, List.set_cons_succ])
          refine Tw_takeL (i := 8) (v := ?tv116) rfl (by kernel_rfl) (by decide) (by kernel_rfl) (by kernel_rfl) (fun _ _ _ h => h) (by rfl) ?ty116 ?tn116
          case ty116 => (intro w hSw; (try dsimp only at hSw); go_simp <;> with_reducible rfl)
          (try simp only [Act.put, List.setIfInBounds_toArray, List.set_cons_zero, List.set_cons_succ])
          refine Tw_takeL (i := 9) (v := ?tv117) rfl (by kernel_rfl) (by decide) (by kernel_rfl) (by kernel_rfl) (fun _ _ _ h => h) (by rfl) ?ty117 ?tn117
          case ty117 => (intro w hSw; (try dsimp only at hSw); go_simp <;> with_reducible rfl)
          (try simp only [Act.put, List.setIfInBounds_toArray, List.set_cons_zero, List.set_cons_succ])
          refine Tw_all (rs := [10]) (by kernel_rfl) (by simp) (by decide) (fun hHeld => ?_)
          refine AllT.consL rfl (fun K hK => ?_) (AllT.nil)
          · go_simp
            refine hK.out _ _ ?_ ?_
            · (try dsimp only)
              ((go_split_ands; refine HALL.out _ ?_; (first | assumption | (repeat (first | assumption | refine Fr.new ?_ _ | refine Fr.drew ?_ | (refine Fr.set ?_ (by first | exact Nat.le_refl _ | omega | (simp; done) | (simp; omega)) (by first | (simp; done) | (simp; omega)) _))); done)))
            clear hK K
            (try simp only [Act.put, List.setIfInBounds_toArray, List.set_cons_zero, List.set_cons_succ])
            refine Tw_abs ?_
            intro wA89 hA89
            (first | (have N1 := Lib.hid (Bk.of_alloc hA89)) | (have N1 := Lib.hid (Bk.of_alloc_drew hA89)))
            have zg := Lib.hid (show w.heap.size + 4 ≤ _ from hHeld.1.top.lt)
            (first | (have L1 := Lib.hid (Lies.alloc hA89 L1.out)) | (have L1 := Lib.hid (Lies.alloc_drew hA89 L1.out)) | skip)
            clear hA89
            refine Tw_all (rs := [11]) (by kernel_rfl) (by simp) (by decide) (fun hHeld => ?_)
            refine AllT.consL rfl (fun K hK => ?_) (AllT.nil)
            · have c0 := N1.out.cell 0
              have c1 := N1.out.cell 1
              have c2 := N1.out.cell 2
              have c3 := N1.out.cell 3
              have c4 := N1.out.cell 4
              have f0 := N1.out.frozen 0
              have f1 := N1.out.frozen 1
              have f2 := N1.out.frozen 2
              have f3 := N1.out.frozen 3
              have f4 := N1.out.frozen 4
              have zN := N1.out.lt
              go_simp
              refine hK.out _ _ ?_ ?_
              · exact HALL.out _ (Fr.off5 (n := 4) hHeld.1 zg.out (by intro b hb; simp only [List.mem_cons, List.not_mem_nil, or_false] at hb; rcases hb with rfl | rfl | rfl | rfl <;> (dsimp only; omega)) _ _ _ _ _)
              clear hK K c0 f0 c1 f1 c2 f2 c3 f3 c4 f4 zN
              have N1 := Lib.hid (Bk.set5 N1.out (.string ⟨#[]⟩) (.slice none 0 0) (.int .i64 0) (.int .i64 0) (.int .i64 0))
              (try simp only [Act.put, List.setIfInBounds_toArray, List.set_cons_zero, List.set_cons_succ])
              refine Tw_end (by kernel_rfl) (fun hh => ?_)
              obtain ⟨F11, _⟩ := hh
              clear HALL
              go_wp2_with fail
              go_meet
              exact ⟨_, rfl, rfl, F11.more N1.out⟩
        · go_simp
          refine hK.out _ _ ?_ ?_
          · (try dsimp only)
            ((go_split_ands; refine HALL.out _ ?_; (first | assumption | (repeat (first | assumption | refine Fr.new ?_ _ | refine Fr.drew ?_ | (refine Fr.set ?_ (by first | exact Nat.le_refl _ | omega | (simp; done) | (simp; omega)) (by first | (simp; done) | (simp; omega)) _))); done)))
          clear hK K
          (try simp only [Act.put, List.setIfInBounds_toArray, List.set_cons_zero, List.set_cons_succ])
          refine Tw_abs ?_
          intro wA91 hA91
          (first | (have N1 := Lib.hid (Bk.of_alloc hA91)) | (have N1 := Lib.hid (Bk.of_alloc_drew hA91)))
          have zg := Lib.hid (show w.heap.size + 4 ≤ _ from hHeld.1.top.lt)
          (first | (have L1 := Lib.hid (Lies.alloc hA91 L1.out)) | (have L1 := Lib.hid (Lies.alloc_drew hA91 L1.out)) | skip)
          clear hA91
          refine Tw_all (rs := [6]) (by kernel_rfl) (by simp) (by decide) (fun hHeld => ?_)
          refine AllT.consL rfl (fun K hK => ?_) (AllT.nil)
          · go_simp
            (go_at_call 39; go_split_ands; (refine (HCR.out _ _ (Fr.lies HA.out (by assumption)) L1.out).mono ?_); rintro e w7 ⟨rfl, hb7⟩; have F6 := Fr.call (by assumption) hb7; (first | (have N1 := Lib.hid (Bk.call N1.out hb7)) | skip); (first | (have L1 := Lib.hid (Lies.call L1.out hb7)) | skip); clear hb7)
            refine hK.out _ _ ?_ ?_
            · (try dsimp only)
              ((go_split_ands; refine HALL.out _ ?_; (first | assumption | (repeat (first | assumption | refine Fr.new ?_ _ | refine Fr.drew ?_ | (refine Fr.set ?_ (by first | exact Nat.le_refl _ | omega | (simp; done) | (simp; omega)) (by first | (simp; done) | (simp; omega)) _))); done)))
            clear hK K
            (try simp only [Act.put, List.setIfInBounds_toArray, List.set_cons_zero, List.set_cons_succ])
            refine Tw_takeL (i := 7) (v := ?tv118) rfl (by kernel_rfl) (by decide) (by kernel_rfl) (by kernel_rfl) (fun _ _ _ h => h) (by rfl) ?ty118 ?tn118
            case ty118 => (intro w hSw; (try dsimp only at hSw); go_simp <;> with_reducible rfl)
            (try simp only [Act.put, List.setIfInBounds_toArray, List.set_cons_zero, List.set_cons_succ])
            refine Tw_takeL (i := 8) (v := ?tv119) rfl (by kernel_rfl) (by decide) (by kernel_rfl) (by kernel_rfl) (fun _ _ _ h => h) (by rfl) ?ty119 ?tn119
            case ty119 => (intro w hSw; (try dsimp only at hSw); go_simp <;> with_reducible rfl)
            (try simp only [Act.put, List.setIfInBounds_toArray, List.set_cons_zero, List.set_cons_succ])
            refine Tw_takeL (i := 9) (v := ?tv120) rfl (by kernel_rfl) (by decide) (by kernel_rfl) (by kernel_rfl) (fun _ _ _ h => h) (by rfl) ?ty120 ?tn120
            case ty120 => (intro w hSw; (try dsimp only at hSw); go_simp <;> with_reducible rfl)
            (try simp only [Act.put, List.setIfInBounds_toArray, List.set_cons_zero, List.set_cons_succ])
            refine Tw_all (rs := [11]) (by kernel_rfl) (by simp) (by decide) (fun hHeld => ?_)
            refine AllT.consL rfl (fun K hK => ?_) (AllT.nil)
            · have c0 := N1.out.cell 0
              have c1 := N1.out.cell 1
              have c2 := N1.out.cell 2
              have c3 := N1.out.cell 3
              have c4 := N1.out.cell 4
              have f0 := N1.out.frozen 0
              have f1 := N1.out.frozen 1
              have f2 := N1.out.frozen 2
              have f3 := N1.out.frozen 3
              have f4 := N1.out.frozen 4
              have zN := N1.out.lt
              go_simp
              refine hK.out _ _ ?_ ?_
              · exact HALL.out _ (Fr.off5 (n := 4) hHeld.1 zg.out (by intro b hb; simp only [List.mem_cons, List.not_mem_nil, or_false] at hb; rcases hb with rfl | rfl | rfl | rfl <;> (dsimp only; omega)) _ _ _ _ _)
              clear hK K c0 f0 c1 f1 c2 f2 c3 f3 c4 f4 zN
              have N1 := Lib.hid (Bk.set5 N1.out (.string ⟨#[]⟩) (.slice none 0 0) (.int .i64 0) (.int .i64 0) (.int .i64 0))
              (try simp only [Act.put, List.setIfInBounds_toArray, List.set_cons_zero, List.set_cons_succ])
              refine Tw_end (by kernel_rfl) (fun hh => ?_)
              obtain ⟨F11, _⟩ := hh
              clear HALL
              go_wp2_with fail
              go_meet
              exact ⟨_, rfl, rfl, F11.more N1.out⟩
      · go_simp
        refine hK.out _ _ ?_ ?_
        · (try dsimp only)
          ((go_split_ands; refine HALL.out _ ?_; (first | assumption | (repeat (first | assumption | refine Fr.new ?_ _ | refine Fr.drew ?_ | (refine Fr.set ?_ (by first | exact Nat.le_refl _ | omega | (simp; done) | (simp; omega)) (by first | (simp; done) | (simp; omega)) _))); done)))
        clear hK K
        (try simp only [Act.put, List.setIfInBounds_toArray, List.set_cons_zero, List.set_cons_succ])
        refine Tw_abs ?_
        intro wA94 hA94
        (first | (have N1 := Lib.hid (Bk.of_alloc hA94)) | (have N1 := Lib.hid (Bk.of_alloc_drew hA94)))
        have zg := Lib.hid (show w.heap.size + 4 ≤ _ from hHeld.1.top.lt)
        (first | (have L1 := Lib.hid (Lies.alloc hA94 L1.out)) | (have L1 := Lib.hid (Lies.alloc_drew hA94 L1.out)) | skip)
        clear hA94
        refine Tw_all (rs := [5]) (by kernel_rfl) (by simp) (by decide) (fun hHeld => ?_)
        refine AllT.consL rfl (fun K hK => ?_) (AllT.nil)
        · go_simp
          refine hK.out _ _ ?_ ?_
          · (try dsimp only)
            ((go_split_ands; refine HALL.out _ ?_; (first | assumption | (repeat (first | assumption | refine Fr.new ?_ _ | refine Fr.drew ?_ | (refine Fr.set ?_ (by first | exact Nat.le_refl _ | omega | (simp; done) | (simp; omega)) (by first | (simp; done) | (simp; omega)) _))); done)))
          clear hK K
          (try simp only [Act.put, List.setIfInBounds_toArray, List.set_cons_zero, List.set_cons_succ])
          refine Tw_abs ?_
          intro wA95 hA95
          (first | (have N1 := Lib.hid (Bk.over_alloc hA95 N1.out)) | (have N1 := Lib.hid (Bk.over_alloc_drew hA95 N1.out)) | skip)
          (first | (have L1 := Lib.hid (fs_alloc (l := [e1]) hA95 (by simp [maxLen]))) | (have L1 := Lib.hid (fs_drew (l := [e1]) hA95 (by simp [maxLen]))))
          clear hA95
          refine Tw_all (rs := [6]) (by kernel_rfl) (by simp) (by decide) (fun hHeld => ?_)
          refine AllT.consL rfl (fun K hK => ?_) (AllT.nil)
          · go_simp
            (go_at_call 39; go_split_ands; (refine (HCR.out _ _ (Fr.lies HA.out (by assumption)) L1.out).mono ?_); rintro e w7 ⟨rfl, hb7⟩; have F6 := Fr.call (by assumption) hb7; (first | (have N1 := Lib.hid (Bk.call N1.out hb7)) | skip); (first | (have L1 := Lib.hid (Lies.call L1.out hb7)) | skip); clear hb7)
            refine hK.out _ _ ?_ ?_
            · (try dsimp only)
              ((go_split_ands; refine HALL.out _ ?_; (first | assumption | (repeat (first | assumption | refine Fr.new ?_ _ | refine Fr.drew ?_ | (refine Fr.set ?_ (by first | exact Nat.le_refl _ | omega | (simp; done) | (simp; omega)) (by first | (simp; done) | (simp; omega)) _))); done)))
            clear hK K
            (try simp only [Act.put, List.setIfInBounds_toArray, List.set_cons_zero, List.set_cons_succ])
            refine Tw_takeL (i := 7) (v := ?tv121) rfl (by kernel_rfl) (by decide) (by kernel_rfl) (by kernel_rfl) (fun _ _ _ h => h) (by rfl) ?ty121 ?tn121
            case ty121 => (intro w hSw; (try dsimp only at hSw); go_simp <;> with_reducible rfl)
            (try simp only [Act.put, List.setIfInBounds_toArray, List.set_cons_zero, List.set_cons_succ])
            refine Tw_takeL (i := 8) (v := ?tv122) rfl (by kernel_rfl) (by decide) (by kernel_rfl) (by kernel_rfl) (fun _ _ _ h => h) (by rfl) ?ty122 ?tn122
            case ty122 => (intro w hSw; (try dsimp only at hSw); go_simp <;> with_reducible rfl)
            (try simp only [Act.put, List.setIfInBounds_toArray, List.set_cons_zero, List.set_cons_succ])
            refine Tw_takeL (i := 9) (v := ?tv123) rfl (by kernel_rfl) (by decide) (by kernel_rfl) (by kernel_rfl) (fun _ _ _ h => h) (by rfl) ?ty123 ?tn123
            case ty123 => (intro w hSw; (try dsimp only at hSw); go_simp <;> with_reducible rfl)
            (try simp only [Act.put, List.setIfInBounds_toArray, List.set_cons_zero, List.set_cons_succ])
            refine Tw_all (rs := [11]) (by kernel_rfl) (by simp) (by decide) (fun hHeld => ?_)
            refine AllT.consL rfl (fun K hK => ?_) (AllT.nil)
            · have c0 := N1.out.cell 0
              have c1 := N1.out.cell 1
              have c2 := N1.out.cell 2
              have c3 := N1.out.cell 3
              have c4 := N1.out.cell 4
              have f0 := N1.out.frozen 0
              have f1 := N1.out.frozen 1
              have f2 := N1.out.frozen 2
              have f3 := N1.out.frozen 3
              have f4 := N1.out.frozen 4
              have zN := N1.out.lt
              go_simp
              refine hK.out _ _ ?_ ?_
              · exact HALL.out _ (Fr.off5 (n := 4) hHeld.1 zg.out (by intro b hb; simp only [List.mem_cons, List.not_mem_nil, or_false] at hb; rcases hb with rfl | rfl | rfl | rfl <;> (dsimp only; omega)) _ _ _ _ _)
              clear hK K c0 f0 c1 f1 c2 f2 c3 f3 c4 f4 zN
              have N1 := Lib.hid (Bk.set5 N1.out (.string ⟨#[]⟩) (.slice none 0 0) (.int .i64 0) (.int .i64 0) (.int .i64 0))
              (try simp only [Act.put, List.setIfInBounds_toArray, List.set_cons_zero, List.set_cons_succ])
              refine Tw_end (by kernel_rfl) (fun hh => ?_)
              obtain ⟨F11, _⟩ := hh
              clear HALL
              go_wp2_with fail
              go_meet
              exact ⟨_, rfl, rfl, F11.more N1.out⟩
    · go_simp
      refine hK.out _ _ ?_ ?_
      · (try dsimp only)
        ((go_split_ands; refine HALL.out _ ?_; (first | assumption | (repeat (first | assumption | refine Fr.new ?_ _ | refine Fr.drew ?_ | (refine Fr.set ?_ (by first | exact Nat.le_refl _ | omega | (simp; done) | (simp; omega)) (by first | (simp; done) | (simp; omega)) _))); done)))
      clear hK K
      (try simp only [Act.put, List.setIfInBounds_toArray, List.set_cons_zero, List.set_cons_succ])
      refine Tw_abs ?_
      intro wA98 hA98
      (first | (have N1 := Lib.hid (Bk.of_alloc hA98)) | (have N1 := Lib.hid (Bk.of_alloc_drew hA98)))
      have zg := Lib.hid (show w.heap.size + 4 ≤ _ from hHeld.1.top.lt)
      (first | (have L1 := Lib.hid (Lies.alloc hA98 L1.out)) | (have L1 := Lib.hid (Lies.alloc_drew hA98 L1.out)) | skip)
      clear hA98
      refine Tw_all (rs := [4]) (by kernel_rfl) (by simp) (by decide) (fun hHeld => ?_)
      refine AllT.consL rfl (fun K hK => ?_) (AllT.nil)
      · go_simp
        (go_at_call 40; go_split_ands; (with_reducible refine (errorOfState_any s ps A c (by omega) p sq _).mono ?_); rintro e w7 ⟨rfl, hb7⟩; rw [HS1.out]; have F4 := Fr.call (by assumption) hb7; (first | (have N1 := Lib.hid (Bk.call N1.out hb7)) | skip); (first | (have L1 := Lib.hid (Lies.call L1.out hb7)) | skip); clear hb7)
        refine hK.out _ _ ?_ ?_
        · (try dsimp only)
          ((go_split_ands; refine HALL.out _ ?_; (first | assumption | (repeat (first | assumption | refine Fr.new ?_ _ | refine Fr.drew ?_ | (refine Fr.set ?_ (by first | exact Nat.le_refl _ | omega | (simp; done) | (simp; omega)) (by first | (simp; done) | (simp; omega)) _))); done)))
        clear hK K
        (try simp only [Act.put, List.setIfInBounds_toArray, List.set_cons_zero, List.set_cons_succ])
        refine Tw_all (rs := [5]) (by kernel_rfl) (by simp) (by decide) (fun hHeld => ?_)
        refine AllT.consL rfl (fun K hK => ?_) (AllT.nil)
        · go_simp
          refine hK.out _ _ ?_ ?_
          · (try dsimp only)
            ((go_split_ands; refine HALL.out _ ?_; (first | assumption | (repeat (first | assumption | refine Fr.new ?_ _ | refine Fr.drew ?_ | (refine Fr.set ?_ (by first | exact Nat.le_refl _ | omega | (simp; done) | (simp; omega)) (by first | (simp; done) | (simp; omega)) _))); done)))
          clear hK K
          (try simp only [Act.put, List.setIfInBounds_toArray, List.set_cons_zero, List.set_cons_succ])
          refine Tw_abs ?_
          intro wA100 hA100
          (first | (have N1 := Lib.hid (Bk.over_alloc hA100 N1.out)) | (have N1 := Lib.hid (Bk.over_alloc_drew hA100 N1.out)) | skip)
          (first | (have L1 := Lib.hid (fs_alloc (l := [e1]) hA100 (by simp [maxLen]))) | (have L1 := Lib.hid (fs_drew (l := [e1]) hA100 (by simp [maxLen]))))
          clear hA100
          refine Tw_all (rs := [6]) (by kernel_rfl) (by simp) (by decide) (fun hHeld => ?_)
          refine AllT.consL rfl (fun K hK => ?_) (AllT.nil)
          · go_simp
            (go_at_call 39; go_split_ands; (refine (HCR.out _ _ (Fr.lies HA.out (by assumption)) L1.out).mono ?_); rintro e w7 ⟨rfl, hb7⟩; have F6 := Fr.call (by assumption) hb7; (first | (have N1 := Lib.hid (Bk.call N1.out hb7)) | skip); (first | (have L1 := Lib.hid (Lies.call L1.out hb7)) | skip); clear hb7)
            refine hK.out _ _ ?_ ?_
            · (try dsimp only)
              ((go_split_ands; refine HALL.out _ ?_; (first | assumption | (repeat (first | assumption | refine Fr.new ?_ _ | refine Fr.drew ?_ | (refine Fr.set ?_ (by first | exact Nat.le_refl _ | omega | (simp; done) | (simp; omega)) (by first | (simp; done) | (simp; omega)) _))); done)))
            clear hK K
            (try simp only [Act.put, List.setIfInBounds_toArray, List.set_cons_zero, List.set_cons_succ])
            refine Tw_takeL (i := 7) (v := ?tv124) rfl (by kernel_rfl) (by decide) (by kernel_rfl) (by kernel_rfl) (fun _ _ _ h => h) (by rfl) ?ty124 ?tn124
            case ty124 => (intro w hSw; (try dsimp only at hSw); go_simp <;> with_reducible rfl)
            (try simp only [Act.put, List.setIfInBounds_toArray, List.set_cons_zero, List.set_cons_succ])
            refine Tw_takeL (i := 8) (v := ?tv125) rfl (by kernel_rfl) (by decide) (by kernel_rfl) (by kernel_rfl) (fun _ _ _ h => h) (by rfl) ?ty125 ?tn125
            case ty125 => (intro w hSw; (try dsimp only at hSw); go_simp <;> with_reducible rfl)
            (try simp only [Act.put, List.setIfInBounds_toArray, List.set_cons_zero, List.set_cons_succ])
            refine Tw_takeL (i := 9) (v := ?tv126) rfl (by kernel_rfl) (by decide) (by kernel_rfl) (by kernel_rfl) (fun _ _ _ h => h) (by rfl) ?ty126 ?tn126
            case ty126 => (intro w hSw; (try dsimp only at hSw); go_simp <;> with_reducible rfl)
            (try simp only [Act.put, List.setIfInBounds_toArray, List.set_cons_zero, List.set_cons_succ])
            refine Tw_all (rs := [11]) (by kernel_rfl) (by simp) (by decide) (fun hHeld => ?_)
            refine AllT.consL rfl (fun K hK => ?_) (AllT.nil)
            · have c0 := N1.out.cell 0
              have c1 := N1.out.cell 1
              have c2 := N1.out.cell 2
              have c3 := N1.out.cell 3
              have c4 := N1.out.cell 4
              have f0 := N1.out.frozen 0
              have f1 := N1.out.frozen 1
              have f2 := N1.out.frozen 2
              have f3 := N1.out.frozen 3
              have f4 := N1.out.frozen 4
              have zN := N1.out.lt
              go_simp
              refine hK.out _ _ ?_ ?_
              · exact HALL.out _ (Fr.off5 (n := 4) hHeld.1 zg.out (by intro b hb; simp only [List.mem_cons, List.not_mem_nil, or_false] at hb; rcases hb with rfl | rfl | rfl | rfl <;> (dsimp only; omega)) _ _ _ _ _)
              clear hK K c0 f0 c1 f1 c2 f2 c3 f3 c4 f4 zN
              have N1 := Lib.hid (Bk.set5 N1.out (.string ⟨#[]⟩) (.slice none 0 0) (.int .i64 0) (.int .i64 0) (.int .i64 0))
              (try simp only [Act.put, List.setIfInBounds_toArray, List.set_cons_zero, List.set_cons_succ])
              refine Tw_end (by kernel_rfl) (fun hh => ?_)
              obtain ⟨F11, _⟩ := hh
              clear HALL
              go_wp2_with fail
              go_meet
              exact ⟨_, rfl, rfl, F11.more N1.out⟩
  case rest =>
    obtain ⟨wx, rfl⟩ : ∃ W, W = wc := ⟨_, rfl⟩
    obtain ⟨g, rfl, rfl, hx⟩ := hcut
    have FC := Lib.hid hx
    clear hx F0
    have d0 := (FC.out.get 1 rfl).cell 0
    have d1 := (FC.out.get 1 rfl).cell 1
    have f0 := (FC.out.get 1 rfl).frozen 0
    have f1 := (FC.out.get 1 rfl).frozen 1
    have zN := (FC.out.get 1 rfl).lt
    go_wp2_with fail
    exact bodyPost_ret (v := .tuple #[.agg #[.int .i64 0, .int .i64 0], .int .i64 er]) (by simp [results, Try.results37, go_sem, d0, d1]) rfl ⟨rfl, (((FC.out.bl.setCell (p := ⟨w.heap.size + 1 + 1 + 1, 0, none⟩) (by show w.heap.size ≤ w.heap.size + 1 + 1 + 1; omega) _).setCell (p := ⟨w.heap.size + 1 + 1 + 1, 1, none⟩) (by show w.heap.size ≤ w.heap.size + 1 + 1 + 1; omega) _))⟩
end Go.Proofs.Ytmjooiocgeoaiaa
