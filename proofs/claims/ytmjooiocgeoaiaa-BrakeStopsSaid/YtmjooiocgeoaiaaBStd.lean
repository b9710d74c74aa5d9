
/-
  The walk of StandsAt of the program, where the train stands at a piece.
-/
import Derived.Test.YtmjooiocgeoaiaaBRun
namespace Go.Proofs.Ytmjooiocgeoaiaa
open Go.RowKit

/-- The square behind k pieces, braked. -/
def sqS (ps : List Bp) (d : Int) (p : Nat) (sq : Int) : Nat → Int
  | 0 => sq
  | k + 1 => sqS ps d p sq k - lossV (gp ps (p + k)) d
theorem sqS_bound {ps : List Bp} (h : ∀ p ∈ ps, okP p = true) {d : Int} (hd : -3000 ≤ d ∧ d ≤ 3000) (p : Nat) {sq : Int} (hq : 0 ≤ sq ∧ sq ≤ 20000000000) : ∀ k : Nat, -((k : Int) * 80000000000) ≤ sqS ps d p sq k ∧ sqS ps d p sq k ≤ 20000000000 + (k : Int) * 80000000000
  | 0 => by simp only [sqS]; omega
  | k + 1 => by
    have h1 := sqS_bound h hd p hq k
    have h2 := lossV_bound (gp_ok h (p + k)) hd
    have e : ((k + 1 : Nat) : Int) * 80000000000 = (k : Int) * 80000000000 + 80000000000 := by push_cast; omega
    rw [sqS, e]
    omega
set_option maxHeartbeats 400000 in
theorem floor_any (a b : Int) (ha : 0 ≤ a) (ha' : a ≤ 2000000000000) (hb : 1 ≤ b) (hb' : b ≤ 100000) (w : World) :
    Calls Try.prog 53 #[.int .i64 a, .int .i64 b] w fun e w' => e = .returned (.int .i64 (a.tdiv b)) ∧ w = w' := by
  have hz : (b == 0) = false := by simp; omega
  have hq : (a.tdiv b).natAbs ≤ a.natAbs := Int.natAbs_tdiv_le_natAbs a b
  have hq1 : -9223372036854775807 ≤ a.tdiv b := by omega
  have hq2 : a.tdiv b ≤ 9223372036854775807 := by omega
  clear hq
  go_enter Try.func53, Try.ntmps53
  go_wp2
  go_ret
  exact ⟨rfl, rfl⟩
set_option maxHeartbeats 400000 in
theorem ceiling_any (a b : Int) (ha : 0 ≤ a) (ha' : a ≤ 2000000000000) (hb : 1 ≤ b) (hb' : b ≤ 100000) (w : World) :
    Calls Try.prog 54 #[.int .i64 a, .int .i64 b] w fun e w' => e = .returned (.int .i64 ((a + b - 1).tdiv b)) ∧ w = w' := by
  have hz : (b == 0) = false := by simp; omega
  have hw1 := IntWalk.i64_in (a + b) (by omega)
  have hw2 := IntWalk.i64_in (a + b - 1) (by omega)
  have hq : ((a + b - 1).tdiv b).natAbs ≤ (a + b - 1).natAbs := Int.natAbs_tdiv_le_natAbs (a + b - 1) b
  have hq1 : -9223372036854775807 ≤ (a + b - 1).tdiv b := by omega
  have hq2 : (a + b - 1).tdiv b ≤ 9223372036854775807 := by omega
  clear hq
  go_enter Try.func54, Try.ntmps54
  go_wp2
  go_ret
  exact ⟨rfl, rfl⟩

set_option maxHeartbeats 8000000 in
set_option maxRecDepth 100000 in
theorem StandsAt_ok (s : ByteArray) (hs : s.size ≤ maxLen) (ps : List Bp) (a : Addr) (c : Nat) (hl : ps.length ≤ 1000) (b : Bs) (hok : OkT s ps) (hb : OkS b) (hsb : sE b = 0) (p : Nat) (sq : Int) (hq : 0 ≤ sq ∧ sq ≤ 20000000000) (k : Nat) (hk : p + k < ps.length)
    (hmiss : ∀ j, j < k → ¬ (0 < b.brk + 10 * (gp ps (p + j)).grad ∧ sqS ps b.brk p sq j ≤ lossV (gp ps (p + j)) b.brk)) (hhit : 0 < b.brk + 10 * (gp ps (p + k)).grad ∧ sqS ps b.brk p sq k ≤ lossV (gp ps (p + k)) b.brk) (h0s : 0 ≤ sqS ps b.brk p sq k) (w : World) (hA : Lies w w.heap.size (some a) (ps.flatMap pc)) :
    Calls Try.prog 37 #[.agg #[.string s, .slice (some a) ps.length c], .agg #[.int .i64 b.brk, .int .i64 b.drag, .int .i64 b.drv], .agg #[.int .i64 (p : Int), .int .i64 sq]] w fun e w' => e = .returned (.tuple #[.agg #[.int .i64 (plcV ps (p + k) + (sqS ps b.brk p sq k).tdiv (2 * (b.brk + 10 * (gp ps (p + k)).grad))), .int .i64 (plcV ps (p + k) + (sqS ps b.brk p sq k + 2 * (b.brk + 10 * (gp ps (p + k)).grad) - 1).tdiv (2 * (b.brk + 10 * (gp ps (p + k)).grad)))], .int .i64 0]) ∧ Below w.heap.size w w' := by
  have hlm : ps.length ≤ maxLen := by unfold maxLen; omega
  have F0 := Lib.hid (Fr.b4 w 24 #[.string s, .slice (some a) ps.length c] 26 #[.int .i64 b.brk, .int .i64 b.drag, .int .i64 b.drv] 28 #[.int .i64 (p : Int), .int .i64 sq] 49 #[.int .i64 0, .int .i64 0])
  have HA := Lib.hid hA
  have HOK := Lib.hid hok
  have HB := Lib.hid hb
  obtain ⟨e1, h1⟩ : ∃ e1, stateE ps (p : Int) sq = e1 := ⟨_, rfl⟩
  have g1 : e1 = 0 := by rw [← h1]; unfold stateE; rw [if_neg (by rw [inB_iff.2 (by omega)]; simp), if_pos (inB_iff.2 hq)]
  have HN : nz ((trE s ps).2 :: sE b :: [e1]) = 0 := by rw [trE_ok hok, hsb, g1]; rfl
  have HCR : Hid (∀ (fa : Addr) (W : World), Lies W W.heap.size (some a) (ps.flatMap pc) → Lies W W.heap.size (some fa) (ic [e1]) → Calls Try.prog 39 #[.agg #[.string s, .slice (some a) ps.length c], .agg #[.int .i64 b.brk, .int .i64 b.drag, .int .i64 b.drv], .slice (some fa) 1 1] W fun e w' => e = .returned (.tuple #[.agg #[.string s, .slice (some a) ps.length c, .int .i64 b.brk, .int .i64 b.drag, .int .i64 b.drv], .int .i64 0]) ∧ Below W.heap.size W w') := Lib.hid (fun fa W h1 h2 => checkRide_ok s hs ps (some a) c hlm b [e1] fa 1 (by simp) (by simp) HN W h1 h2)
  have HS1 := Lib.hid h1
  have HQ := Lib.hid hq
  have HMISS := Lib.hid hmiss
  have HHIT := Lib.hid hhit
  have H0S := Lib.hid h0s
  have hdb : Hid (-3000 ≤ b.brk ∧ b.brk ≤ 3000) := Lib.hid (by have := hb.b0; have := hb.b1; omega)
  have h12 := hok.n12
  clear hA hok hb hsb g1 h1 HN hq hmiss hhit h0s
  go_enter Try.func37, Try.ntmps37
  go_upto_region 1 with fail
  go_cut [8, 9] from 8 to 23 (fun pv rv W => ∃ g : Nat, pv = .pointer (some ⟨g, 0, none⟩) ∧ rv = .int .i64 0 ∧ Fr w W ((g, 77, #[.string s, .slice (some a) ps.length c, .int .i64 b.brk, .int .i64 b.drag, .int .i64 b.drv]) :: [(w.heap.size + 1 + 1 + 1, 49, #[.int .i64 0, .int .i64 0]), (w.heap.size + 1 + 1, 28, #[.int .i64 (p : Int), .int .i64 sq]), (w.heap.size + 1, 26, #[.int .i64 b.brk, .int .i64 b.drag, .int .i64 b.drv]), (w.heap.size, 24, #[.string s, .slice (some a) ps.length c])]))
  case first =>
    refine wp_abs ?_
    intro w5 h5
    have HALL : Hid (∀ W, Fr w W [(w.heap.size + 1 + 1 + 1, 49, #[.int .i64 0, .int .i64 0]), (w.heap.size + 1 + 1, 28, #[.int .i64 (p : Int), .int .i64 sq]), (w.heap.size + 1, 26, #[.int .i64 b.brk, .int .i64 b.drag, .int .i64 b.drv]), (w.heap.size, 24, #[.string s, .slice (some a) ps.length c])] → Fr w W [(w.heap.size + 1 + 1 + 1, 49, #[.int .i64 0, .int .i64 0]), (w.heap.size + 1 + 1, 28, #[.int .i64 (p : Int), .int .i64 sq]), (w.heap.size + 1, 26, #[.int .i64 b.brk, .int .i64 b.drag, .int .i64 b.drv]), (w.heap.size, 24, #[.string s, .slice (some a) ps.length c])] ∧ W.cell? ⟨w.heap.size, 0, none⟩ = some (.string s) ∧ W.cell? ⟨w.heap.size, 1, none⟩ = some (.slice (some a) ps.length c) ∧ W.cell? ⟨w.heap.size + 1, 0, none⟩ = some (.int .i64 b.brk) ∧ W.cell? ⟨w.heap.size + 1, 1, none⟩ = some (.int .i64 b.drag) ∧ W.cell? ⟨w.heap.size + 1, 2, none⟩ = some (.int .i64 b.drv) ∧ W.cell? ⟨w.heap.size + 1 + 1, 0, none⟩ = some (.int .i64 (p : Int)) ∧ W.cell? ⟨w.heap.size + 1 + 1, 1, none⟩ = some (.int .i64 sq)) := Lib.hid (fun W hW => ⟨hW, hW.at3.cell 0, hW.at3.cell 1, hW.at2.cell 0, hW.at2.cell 1, hW.at2.cell 2, hW.at1.cell 0, hW.at1.cell 1⟩)
    have F10 : Fr w w5 [(w.heap.size + 1 + 1 + 1, 49, #[.int .i64 0, .int .i64 0]), (w.heap.size + 1 + 1, 28, #[.int .i64 (p : Int), .int .i64 sq]), (w.heap.size + 1, 26, #[.int .i64 b.brk, .int .i64 b.drag, .int .i64 b.drv]), (w.heap.size, 24, #[.string s, .slice (some a) ps.length c])] := by subst h5; exact F0.out
    clear F0 h5
    refine Tw_start 12 (fun W => Fr w W [(w.heap.size + 1 + 1 + 1, 49, #[.int .i64 0, .int .i64 0]), (w.heap.size + 1 + 1, 28, #[.int .i64 (p : Int), .int .i64 sq]), (w.heap.size + 1, 26, #[.int .i64 b.brk, .int .i64 b.drag, .int .i64 b.drv]), (w.heap.size, 24, #[.string s, .slice (some a) ps.length c])] ∧ W.cell? ⟨w.heap.size, 0, none⟩ = some (.string s) ∧ W.cell? ⟨w.heap.size, 1, none⟩ = some (.slice (some a) ps.length c) ∧ W.cell? ⟨w.heap.size + 1, 0, none⟩ = some (.int .i64 b.brk) ∧ W.cell? ⟨w.heap.size + 1, 1, none⟩ = some (.int .i64 b.drag) ∧ W.cell? ⟨w.heap.size + 1, 2, none⟩ = some (.int .i64 b.drv) ∧ W.cell? ⟨w.heap.size + 1 + 1, 0, none⟩ = some (.int .i64 (p : Int)) ∧ W.cell? ⟨w.heap.size + 1 + 1, 1, none⟩ = some (.int .i64 sq)) (by kernel_rfl) (by kernel_rfl) rfl ?_ ?_
    · (try dsimp only)
      ((go_split_ands; refine HALL.out _ ?_; (first | assumption | (repeat (first | assumption | refine Fr.new ?_ _ | refine Fr.drew ?_ | (refine Fr.set ?_ (by first | exact Nat.le_refl _ | omega | (simp; done) | (simp; omega)) (by first | (simp; done) | (simp; omega)) _))); done)))
    refine Tw_takeL (i := 0) (v := ?tv65) rfl (by kernel_rfl) (by decide) (by kernel_rfl) (by kernel_rfl) (fun _ _ _ h => h) (by rfl) ?ty65 ?tn65
    case ty65 => (intro w hSw; (try dsimp only at hSw); go_simp <;> with_reducible rfl)
    (try simp only [Act.put, List.setIfInBounds_toArray, List.set_cons_zero, List.set_cons_succ])
    refine Tw_takeL (i := 1) (v := ?tv66) rfl (by kernel_rfl) (by decide) (by kernel_rfl) (by kernel_rfl) (fun _ _ _ h => h) (by rfl) ?ty66 ?tn66
    case ty66 => (intro w hSw; (try dsimp only at hSw); go_simp <;> with_reducible rfl)
    (try simp only [Act.put, List.setIfInBounds_toArray, List.set_cons_zero, List.set_cons_succ])
    refine Tw_takeL (i := 2) (v := ?tv67) rfl (by kernel_rfl) (by decide) (by kernel_rfl) (by kernel_rfl) (fun _ _ _ h => h) (by rfl) ?ty67 ?tn67
    case ty67 => (intro w hSw; (try dsimp only at hSw); go_simp <;> with_reducible rfl)
    (try simp only [Act.put, List.setIfInBounds_toArray, List.set_cons_zero, List.set_cons_succ])
    refine Tw_takeL (i := 3) (v := ?tv68) rfl (by kernel_rfl) (by decide) (by kernel_rfl) (by kernel_rfl) (fun _ _ _ h => h) (by rfl) ?ty68 ?tn68
    case ty68 => (intro w hSw; (try dsimp only at hSw); go_simp <;> with_reducible rfl)
    (try simp only [Act.put, List.setIfInBounds_toArray, List.set_cons_zero, List.set_cons_succ])
    refine Tw_all (rs := [4, 10]) (by kernel_rfl) (by simp) (by decide) (fun hHeld => ?_)
    refine AllT.consL rfl (fun K hK => ?_) (AllT.consL rfl (fun K hK => ?_) (AllT.nil))
    · go_simp
      (go_at_call 40; go_split_ands; (with_reducible refine (errorOfState_any s ps (some a) c (by omega) (p : Int) sq _).mono ?_); rintro e w7 ⟨rfl, hb7⟩; rw [HS1.out]; have F4 := Fr.call (by assumption) hb7; (first | (have N1 := Lib.hid (Bk.call N1.out hb7)) | skip); (first | (have L1 := Lib.hid (Lies.call L1.out hb7)) | skip); clear hb7)
      refine hK.out _ _ ?_ ?_
      · (try dsimp only)
        ((go_split_ands; refine HALL.out _ ?_; (first | assumption | (repeat (first | assumption | refine Fr.new ?_ _ | refine Fr.drew ?_ | (refine Fr.set ?_ (by first | exact Nat.le_refl _ | omega | (simp; done) | (simp; omega)) (by first | (simp; done) | (simp; omega)) _))); done)))
      clear hK K
      (try simp only [Act.put, List.setIfInBounds_toArray, List.set_cons_zero, List.set_cons_succ])
      refine Tw_all (rs := [5, 10]) (by kernel_rfl) (by simp) (by decide) (fun hHeld => ?_)
      refine AllT.consL rfl (fun K hK => ?_) (AllT.consL rfl (fun K hK => ?_) (AllT.nil))
      · go_simp
        refine hK.out _ _ ?_ ?_
        · (try dsimp only)
          ((go_split_ands; refine HALL.out _ ?_; (first | assumption | (repeat (first | assumption | refine Fr.new ?_ _ | refine Fr.drew ?_ | (refine Fr.set ?_ (by first | exact Nat.le_refl _ | omega | (simp; done) | (simp; omega)) (by first | (simp; done) | (simp; omega)) _))); done)))
        clear hK K
        (try simp only [Act.put, List.setIfInBounds_toArray, List.set_cons_zero, List.set_cons_succ])
        refine Tw_abs ?_
        intro wA70 hA70
        (first | (have N1 := Lib.hid (Bk.over_alloc hA70 N1.out)) | (have N1 := Lib.hid (Bk.over_alloc_drew hA70 N1.out)) | skip)
        (first | (have L1 := Lib.hid (fs_alloc (l := [e1]) hA70 (by simp [maxLen]))) | (have L1 := Lib.hid (fs_drew (l := [e1]) hA70 (by simp [maxLen]))))
        clear hA70
        refine Tw_all (rs := [6, 10]) (by kernel_rfl) (by simp) (by decide) (fun hHeld => ?_)
        refine AllT.consL rfl (fun K hK => ?_) (AllT.consL rfl (fun K hK => ?_) (AllT.nil))
        · go_simp
          (go_at_call 39; go_split_ands; (refine (HCR.out _ _ (Fr.lies HA.out (by assumption)) L1.out).mono ?_); rintro e w7 ⟨rfl, hb7⟩; have F6 := Fr.call (by assumption) hb7; (first | (have N1 := Lib.hid (Bk.call N1.out hb7)) | skip); (first | (have L1 := Lib.hid (Lies.call L1.out hb7)) | skip); clear hb7)
          refine hK.out _ _ ?_ ?_
          · (try dsimp only)
            ((go_split_ands; refine HALL.out _ ?_; (first | assumption | (repeat (first | assumption | refine Fr.new ?_ _ | refine Fr.drew ?_ | (refine Fr.set ?_ (by first | exact Nat.le_refl _ | omega | (simp; done) | (simp; omega)) (by first | (simp; done) | (simp; omega)) _))); done)))
          clear hK K
          (try simp only [Act.put, List.setIfInBounds_toArray, List.set_cons_zero, List.set_cons_succ])
          refine Tw_takeL (i := 7) (v := ?tv69) rfl (by kernel_rfl) (by decide) (by kernel_rfl) (by kernel_rfl) (fun _ _ _ h => h) (by rfl) ?ty69 ?tn69
          case ty69 => (intro w hSw; (try dsimp only at hSw); go_simp <;> with_reducible rfl)
          (try simp only [Act.put, List.setIfInBounds_toArray, List.set_cons_zero, List.set_cons_succ])
          refine Tw_takeL (i := 8) (v := ?tv70) rfl (by kernel_rfl) (by decide) (by kernel_rfl) (by kernel_rfl) (fun _ _ _ h => h) (by rfl) ?ty70 ?tn70
          case ty70 => (intro w hSw; (try dsimp only at hSw); go_simp <;> with_reducible rfl)
          (try simp only [Act.put, List.setIfInBounds_toArray, List.set_cons_zero, List.set_cons_succ])
          refine Tw_takeL (i := 9) (v := ?tv71) rfl (by kernel_rfl) (by decide) (by kernel_rfl) (by kernel_rfl) (fun _ _ _ h => h) (by rfl) ?ty71 ?tn71
          case ty71 => (intro w hSw; (try dsimp only at hSw); go_simp <;> with_reducible rfl)
          (try simp only [Act.put, List.setIfInBounds_toArray, List.set_cons_zero, List.set_cons_succ])
          refine Tw_all (rs := [10]) (by kernel_rfl) (by simp) (by decide) (fun hHeld => ?_)
          refine AllT.consL rfl (fun K hK => ?_) (AllT.nil)
          · go_simp
            refine hK.out _ _ ?_ ?_
            · (try dsimp only)
              ((go_split_ands; refine HALL.out _ ?_; (first | assumption | (repeat (first | assumption | refine Fr.new ?_ _ | refine Fr.drew ?_ | (refine Fr.set ?_ (by first | exact Nat.le_refl _ | omega | (simp; done) | (simp; omega)) (by first | (simp; done) | (simp; omega)) _))); done)))
            clear hK K
            (try simp only [Act.put, List.setIfInBounds_toArray, List.set_cons_zero, List.set_cons_succ])
            refine Tw_abs ?_
            intro wA72 hA72
            (first | (have N1 := Lib.hid (Bk.of_alloc hA72)) | (have N1 := Lib.hid (Bk.of_alloc_drew hA72)))
            have zg := Lib.hid (show w.heap.size + 4 ≤ _ from hHeld.1.top.lt)
            (first | (have L1 := Lib.hid (Lies.alloc hA72 L1.out)) | (have L1 := Lib.hid (Lies.alloc_drew hA72 L1.out)) | skip)
            clear hA72
            refine Tw_all (rs := [11]) (by kernel_rfl) (by simp) (by decide) (fun hHeld => ?_)
            refine AllT.consL rfl (fun K hK => ?_) (AllT.nil)
            · have c0 := N1.out.cell 0
              have c1 := N1.out.cell 1
              have c2 := N1.out.cell 2
              have c3 := N1.out.cell 3
              have c4 := N1.out.cell 4
              have f0 := N1.out.frozen 0
              have f1 := N1.out.frozen 1
              have f2 := N1.out.frozen 2
              have f3 := N1.out.frozen 3
              have f4 := N1.out.frozen 4
              have zN := N1.out.lt
              go_simp
              refine hK.out _ _ ?_ ?_
              · exact HALL.out _ (Fr.off5 (n := 4) hHeld.1 zg.out (by intro b hb; simp only [List.mem_cons, List.not_mem_nil, or_false] at hb; rcases hb with rfl | rfl | rfl | rfl <;> (dsimp only; omega)) _ _ _ _ _)
              clear hK K c0 f0 c1 f1 c2 f2 c3 f3 c4 f4 zN
              have N1 := Lib.hid (Bk.set5 N1.out (.string s) (.slice (some a) ps.length c) (.int .i64 b.brk) (.int .i64 b.drag) (.int .i64 b.drv))
              (try simp only [Act.put, List.setIfInBounds_toArray, List.set_cons_zero, List.set_cons_succ])
              refine Tw_end (by kernel_rfl) (fun hh => ?_)
              obtain ⟨F11, _⟩ := hh
              clear HALL
              go_wp2_with fail
              go_meet
              exact ⟨_, rfl, rfl, F11.more N1.out⟩
        · go_simp
          refine hK.out _ _ ?_ ?_
          · (try dsimp only)
            ((go_split_ands; refine HALL.out _ ?_; (first | assumption | (repeat (first | assumption | refine Fr.new ?_ _ | refine Fr.drew ?_ | (refine Fr.set ?_ (by first | exact Nat.le_refl _ | omega | (simp; done) | (simp; omega)) (by first | (simp; done) | (simp; omega)) _))); done)))
          clear hK K
          (try simp only [Act.put, List.setIfInBounds_toArray, List.set_cons_zero, List.set_cons_succ])
          refine Tw_abs ?_
          intro wA74 hA74
          (first | (have N1 := Lib.hid (Bk.of_alloc hA74)) | (have N1 := Lib.hid (Bk.of_alloc_drew hA74)))
          have zg := Lib.hid (show w.heap.size + 4 ≤ _ from hHeld.1.top.lt)
          (first | (have L1 := Lib.hid (Lies.alloc hA74 L1.out)) | (have L1 := Lib.hid (Lies.alloc_drew hA74 L1.out)) | skip)
          clear hA74
          refine Tw_all (rs := [6]) (by kernel_rfl) (by simp) (by decide) (fun hHeld => ?_)
          refine AllT.consL rfl (fun K hK => ?_) (AllT.nil)
          · go_simp
            (go_at_call 39; go_split_ands; (refine (HCR.out _ _ (Fr.lies HA.out (by assumption)) L1.out).mono ?_); rintro e w7 ⟨rfl, hb7⟩; have F6 := Fr.call (by assumption) hb7; (first | (have N1 := Lib.hid (Bk.call N1.out hb7)) | skip); (first | (have L1 := Lib.hid (Lies.call L1.out hb7)) | skip); clear hb7)
            refine hK.out _ _ ?_ ?_
            · (try dsimp only)
              ((go_split_ands; refine HALL.out _ ?_; (first | assumption | (repeat (first | assumption | refine Fr.new ?_ _ | refine Fr.drew ?_ | (refine Fr.set ?_ (by first | exact Nat.le_refl _ | omega | (simp; done) | (simp; omega)) (by first | (simp; done) | (simp; omega)) _))); done)))
            clear hK K
            (try simp only [Act.put, List.setIfInBounds_toArray, List.set_cons_zero, List.set_cons_succ])
            refine Tw_takeL (i := 7) (v := ?tv72) rfl (by kernel_rfl) (by decide) (by kernel_rfl) (by kernel_rfl) (fun _ _ _ h => h) (by rfl) ?ty72 ?tn72
            case ty72 => (intro w hSw; (try dsimp only at hSw); go_simp <;> with_reducible rfl)
            (try simp only [Act.put, List.setIfInBounds_toArray, List.set_cons_zero, List.set_cons_succ])
            refine Tw_takeL (i := 8) (v := ?tv73) rfl (by kernel_rfl) (by decide) (by kernel_rfl) (by kernel_rfl) (fun _ _ _ h => h) (by rfl) ?ty73 ?tn73
            case ty73 => (intro w hSw; (try dsimp only at hSw); go_simp <;> with_reducible rfl)
            (try simp only [Act.put, List.setIfInBounds_toArray, List.set_cons_zero, List.set_cons_succ])
            refine Tw_takeL (i := 9) (v := ?tv74) rfl (by kernel_rfl) (by decide) (by kernel_rfl) (by kernel_rfl) (fun _ _ _ h => h) (by rfl) ?ty74 ?tn74
            case ty74 => (intro w hSw; (try dsimp only at hSw); go_simp <;> with_reducible rfl)
            (try simp only [Act.put, List.setIfInBounds_toArray, List.set_cons_zero, List.set_cons_succ])
            refine Tw_all (rs := [11]) (by kernel_rfl) (by simp) (by decide) (fun hHeld => ?_)
            refine AllT.consL rfl (fun K hK => ?_) (AllT.nil)
            · have c0 := N1.out.cell 0
              have c1 := N1.out.cell 1
              have c2 := N1.out.cell 2
              have c3 := N1.out.cell 3
              have c4 := N1.out.cell 4
              have f0 := N1.out.frozen 0
              have f1 := N1.out.frozen 1
              have f2 := N1.out.frozen 2
              have f3 := N1.out.frozen 3
              have f4 := N1.out.frozen 4
              have zN := N1.out.lt
              go_simp
              refine hK.out _ _ ?_ ?_
              · exact HALL.out _ (Fr.off5 (n := 4) hHeld.1 zg.out (by intro b hb; simp only [List.mem_cons, List.not_mem_nil, or_false] at hb; rcases hb with rfl | rfl | rfl | rfl <;> (dsimp only; omega)) _ _ _ _ _)
              clear hK K c0 f0 c1 f1 c2 f2 c3 f3 c4 f4 zN
              have N1 := Lib.hid (Bk.set5 N1.out (.string s) (.slice (some a) ps.length c) (.int .i64 b.brk) (.int .i64 b.drag) (.int .i64 b.drv))
              (try simp only [Act.put, List.setIfInBounds_toArray, List.set_cons_zero, List.set_cons_succ])
              refine Tw_end (by kernel_rfl) (fun hh => ?_)
              obtain ⟨F11, _⟩ := hh
              clear HALL
              go_wp2_with fail
              go_meet
              exact ⟨_, rfl, rfl, F11.more N1.out⟩
      · go_simp
        refine hK.out _ _ ?_ ?_
        · (try dsimp only)
          ((go_split_ands; refine HALL.out _ ?_; (first | assumption | (repeat (first | assumption | refine Fr.new ?_ _ | refine Fr.drew ?_ | (refine Fr.set ?_ (by first | exact Nat.le_refl _ | omega | (simp; done) | (simp; omega)) (by first | (simp; done) | (simp; omega)) _))); done)))
        clear hK K
        (try simp only [Act.put, List.setIfInBounds_toArray, List.set_cons_zero, List.set_cons_succ])
        refine Tw_abs ?_
        intro wA77 hA77
        (first | (have N1 := Lib.hid (Bk.of_alloc hA77)) | (have N1 := Lib.hid (Bk.of_alloc_drew hA77)))
        have zg := Lib.hid (show w.heap.size + 4 ≤ _ from hHeld.1.top.lt)
        (first | (have L1 := Lib.hid (Lies.alloc hA77 L1.out)) | (have L1 := Lib.hid (Lies.alloc_drew hA77 L1.out)) | skip)
        clear hA77
        refine Tw_all (rs := [5]) (by kernel_rfl) (by simp) (by decide) (fun hHeld => ?_)
        refine AllT.consL rfl (fun K hK => ?_) (AllT.nil)
        · go_simp
          refine hK.out _ _ ?_ ?_
          · (try dsimp only)
            ((go_split_ands; refine HALL.out _ ?_; (first | assumption | (repeat (first | assumption | refine Fr.new ?_ _ | refine Fr.drew ?_ | (refine Fr.set ?_ (by first | exact Nat.le_refl _ | omega | (simp; done) | (simp; omega)) (by first | (simp; done) | (simp; omega)) _))); done)))
          clear hK K
          (try simp only [Act.put, List.setIfInBounds_toArray, List.set_cons_zero, List.set_cons_succ])
          refine Tw_abs ?_
          intro wA78 hA78
          (first | (have N1 := Lib.hid (Bk.over_alloc hA78 N1.out)) | (have N1 := Lib.hid (Bk.over_alloc_drew hA78 N1.out)) | skip)
          (first | (have L1 := Lib.hid (fs_alloc (l := [e1]) hA78 (by simp [maxLen]))) | (have L1 := Lib.hid (fs_drew (l := [e1]) hA78 (by simp [maxLen]))))
          clear hA78
          refine Tw_all (rs := [6]) (by kernel_rfl) (by simp) (by decide) (fun hHeld => ?_)
          refine AllT.consL rfl (fun K hK => ?_) (AllT.nil)
          · go_simp
            (go_at_call 39; go_split_ands; (refine (HCR.out _ _ (Fr.lies HA.out (by assumption)) L1.out).mono ?_); rintro e w7 ⟨rfl, hb7⟩; have F6 := Fr.call (by assumption) hb7; (first | (have N1 := Lib.hid (Bk.call N1.out hb7)) | skip); (first | (have L1 := Lib.hid (Lies.call L1.out hb7)) | skip); clear hb7)
            refine hK.out _ _ ?_ ?_
            · (try dsimp only)
              ((go_split_ands; refine HALL.out _ ?_; (first | assumption | (repeat (first | assumption | refine Fr.new ?_ _ | refine Fr.drew ?_ | (refine Fr.set ?_ (by first | exact Nat.le_refl _ | omega | (simp; done) | (simp; omega)) (by first | (simp; done) | (simp; omega)) _))); done)))
            clear hK K
            (try simp only [Act.put, List.setIfInBounds_toArray, List.set_cons_zero, List.set_cons_succ])
            refine Tw_takeL (i := 7) (v := ?tv75) rfl (by kernel_rfl) (by decide) (by kernel_rfl) (by kernel_rfl) (fun _ _ _ h => h) (by rfl) ?ty75 ?tn75
            case ty75 => (intro w hSw; (try dsimp only at hSw); go_simp <;> with_reducible rfl)
            (try simp only [Act.put, List.setIfInBounds_toArray, List.set_cons_zero, List.set_cons_succ])
            refine Tw_takeL (i := 8) (v := ?tv76) rfl (by kernel_rfl) (by decide) (by kernel_rfl) (by kernel_rfl) (fun _ _ _ h => h) (by rfl) ?ty76 ?tn76
            case ty76 => (intro w hSw; (try dsimp only at hSw); go_simp <;> with_reducible rfl)
            (try simp only [Act.put, List.setIfInBounds_toArray, List.set_cons_zero, List.set_cons_succ])
            refine Tw_takeL (i := 9) (v := ?tv77) rfl (by kernel_rfl) (by decide) (by kernel_rfl) (by kernel_rfl) (fun _ _ _ h => h) (by rfl) ?ty77 ?tn77
            case ty77 => (intro w hSw; (try dsimp only at hSw); go_simp <;> with_reducible rfl)
            (try simp only [Act.put, List.setIfInBounds_toArray, List.set_cons_zero, List.set_cons_succ])
            refine Tw_all (rs := [11]) (by kernel_rfl) (by simp) (by decide) (fun hHeld => ?_)
            refine AllT.consL rfl (fun K hK => ?_) (AllT.nil)
            · have c0 := N1.out.cell 0
              have c1 := N1.out.cell 1
              have c2 := N1.out.cell 2
              have c3 := N1.out.cell 3
              have c4 := N1.out.cell 4
              have f0 := N1.out.frozen 0
              have f1 := N1.out.frozen 1
              have f2 := N1.out.frozen 2
              have f3 := N1.out.frozen 3
              have f4 := N1.out.frozen 4
              have zN := N1.out.lt
              go_simp
              refine hK.out _ _ ?_ ?_
              · exact HALL.out _ (Fr.off5 (n := 4) hHeld.1 zg.out (by intro b hb; simp only [List.mem_cons, List.not_mem_nil, or_false] at hb; rcases hb with rfl | rfl | rfl | rfl <;> (dsimp only; omega)) _ _ _ _ _)
              clear hK K c0 f0 c1 f1 c2 f2 c3 f3 c4 f4 zN
              have N1 := Lib.hid (Bk.set5 N1.out (.string s) (.slice (some a) ps.length c) (.int .i64 b.brk) (.int .i64 b.drag) (.int .i64 b.drv))
              (try simp only [Act.put, List.setIfInBounds_toArray, List.set_cons_zero, List.set_cons_succ])
              refine Tw_end (by kernel_rfl) (fun hh => ?_)
              obtain ⟨F11, _⟩ := hh
              clear HALL
              go_wp2_with fail
              go_meet
              exact ⟨_, rfl, rfl, F11.more N1.out⟩
    · go_simp
      refine hK.out _ _ ?_ ?_
      · (try dsimp only)
        ((go_split_ands; refine HALL.out _ ?_; (first | assumption | (repeat (first | assumption | refine Fr.new ?_ _ | refine Fr.drew ?_ | (refine Fr.set ?_ (by first | exact Nat.le_refl _ | omega | (simp; done) | (simp; omega)) (by first | (simp; done) | (simp; omega)) _))); done)))
      clear hK K
      (try simp only [Act.put, List.setIfInBounds_toArray, List.set_cons_zero, List.set_cons_succ])
      refine Tw_abs ?_
      intro wA81 hA81
      (first | (have N1 := Lib.hid (Bk.of_alloc hA81)) | (have N1 := Lib.hid (Bk.of_alloc_drew hA81)))
      have zg := Lib.hid (show w.heap.size + 4 ≤ _ from hHeld.1.top.lt)
      (first | (have L1 := Lib.hid (Lies.alloc hA81 L1.out)) | (have L1 := Lib.hid (Lies.alloc_drew hA81 L1.out)) | skip)
      clear hA81
      refine Tw_all (rs := [4]) (by kernel_rfl) (by simp) (by decide) (fun hHeld => ?_)
      refine AllT.consL rfl (fun K hK => ?_) (AllT.nil)
      · go_simp
        (go_at_call 40; go_split_ands; (with_reducible refine (errorOfState_any s ps (some a) c (by omega) (p : Int) sq _).mono ?_); rintro e w7 ⟨rfl, hb7⟩; rw [HS1.out]; have F4 := Fr.call (by assumption) hb7; (first | (have N1 := Lib.hid (Bk.call N1.out hb7)) | skip); (first | (have L1 := Lib.hid (Lies.call L1.out hb7)) | skip); clear hb7)
        refine hK.out _ _ ?_ ?_
        · (try dsimp only)
          ((go_split_ands; refine HALL.out _ ?_; (first | assumption | (repeat (first | assumption | refine Fr.new ?_ _ | refine Fr.drew ?_ | (refine Fr.set ?_ (by first | exact Nat.le_refl _ | omega | (simp; done) | (simp; omega)) (by first | (simp; done) | (simp; omega)) _))); done)))
        clear hK K
        (try simp only [Act.put, List.setIfInBounds_toArray, List.set_cons_zero, List.set_cons_succ])
        refine Tw_all (rs := [5]) (by kernel_rfl) (by simp) (by decide) (fun hHeld => ?_)
        refine AllT.consL rfl (fun K hK => ?_) (AllT.nil)
        · go_simp
          refine hK.out _ _ ?_ ?_
          · (try dsimp only)
            ((go_split_ands; refine HALL.out _ ?_; (first | assumption | (repeat (first | assumption | refine Fr.new ?_ _ | refine Fr.drew ?_ | (refine Fr.set ?_ (by first | exact Nat.le_refl _ | omega | (simp; done) | (simp; omega)) (by first | (simp; done) | (simp; omega)) _))); done)))
          clear hK K
          (try simp only [Act.put, List.setIfInBounds_toArray, List.set_cons_zero, List.set_cons_succ])
          refine Tw_abs ?_
          intro wA83 hA83
          (first | (have N1 := Lib.hid (Bk.over_alloc hA83 N1.out)) | (have N1 := Lib.hid (Bk.over_alloc_drew hA83 N1.out)) | skip)
          (first | (have L1 := Lib.hid (fs_alloc (l := [e1]) hA83 (by simp [maxLen]))) | (have L1 := Lib.hid (fs_drew (l := [e1]) hA83 (by simp [maxLen]))))
          clear hA83
          refine Tw_all (rs := [6]) (by kernel_rfl) (by simp) (by decide) (fun hHeld => ?_)
          refine AllT.consL rfl (fun K hK => ?_) (AllT.nil)
          · go_simp
            (go_at_call 39; go_split_ands; (refine (HCR.out _ _ (Fr.lies HA.out (by assumption)) L1.out).mono ?_); rintro e w7 ⟨rfl, hb7⟩; have F6 := Fr.call (by assumption) hb7; (first | (have N1 := Lib.hid (Bk.call N1.out hb7)) | skip); (first | (have L1 := Lib.hid (Lies.call L1.out hb7)) | skip); clear hb7)
            refine hK.out _ _ ?_ ?_
            · (try dsimp only)
              ((go_split_ands; refine HALL.out _ ?_; (first | assumption | (repeat (first | assumption | refine Fr.new ?_ _ | refine Fr.drew ?_ | (refine Fr.set ?_ (by first | exact Nat.le_refl _ | omega | (simp; done) | (simp; omega)) (by first | (simp; done) | (simp; omega)) _))); done)))
            clear hK K
            (try simp only [Act.put, List.setIfInBounds_toArray, List.set_cons_zero, List.set_cons_succ])
            refine Tw_takeL (i := 7) (v := ?tv78) rfl (by kernel_rfl) (by decide) (by kernel_rfl) (by kernel_rfl) (fun _ _ _ h => h) (by rfl) ?ty78 ?tn78
            case ty78 => (intro w hSw; (try dsimp only at hSw); go_simp <;> with_reducible rfl)
            (try simp only [Act.put, List.setIfInBounds_toArray, List.set_cons_zero, List.set_cons_succ])
            refine Tw_takeL (i := 8) (v := ?tv79) rfl (by kernel_rfl) (by decide) (by kernel_rfl) (by kernel_rfl) (fun _ _ _ h => h) (by rfl) ?ty79 ?tn79
            case ty79 => (intro w hSw; (try dsimp only at hSw); go_simp <;> with_reducible rfl)
            (try simp only [Act.put, List.setIfInBounds_toArray, List.set_cons_zero, List.set_cons_succ])
            refine Tw_takeL (i := 9) (v := ?tv80) rfl (by kernel_rfl) (by decide) (by kernel_rfl) (by kernel_rfl) (fun _ _ _ h => h) (by rfl) ?ty80 ?tn80
            case ty80 => (intro w hSw; (try dsimp only at hSw); go_simp <;> with_reducible rfl)
            (try simp only [Act.put, List.setIfInBounds_toArray, List.set_cons_zero, List.set_cons_succ])
            refine Tw_all (rs := [11]) (by kernel_rfl) (by simp) (by decide) (fun hHeld => ?_)
            refine AllT.consL rfl (fun K hK => ?_) (AllT.nil)
            · have c0 := N1.out.cell 0
              have c1 := N1.out.cell 1
              have c2 := N1.out.cell 2
              have c3 := N1.out.cell 3
              have c4 := N1.out.cell 4
              have f0 := N1.out.frozen 0
              have f1 := N1.out.frozen 1
              have f2 := N1.out.frozen 2
              have f3 := N1.out.frozen 3
              have f4 := N1.out.frozen 4
              have zN := N1.out.lt
              go_simp
              refine hK.out _ _ ?_ ?_
              · exact HALL.out _ (Fr.off5 (n := 4) hHeld.1 zg.out (by intro b hb; simp only [List.mem_cons, List.not_mem_nil, or_false] at hb; rcases hb with rfl | rfl | rfl | rfl <;> (dsimp only; omega)) _ _ _ _ _)
              clear hK K c0 f0 c1 f1 c2 f2 c3 f3 c4 f4 zN
              have N1 := Lib.hid (Bk.set5 N1.out (.string s) (.slice (some a) ps.length c) (.int .i64 b.brk) (.int .i64 b.drag) (.int .i64 b.drv))
              (try simp only [Act.put, List.setIfInBounds_toArray, List.set_cons_zero, List.set_cons_succ])
              refine Tw_end (by kernel_rfl) (fun hh => ?_)
              obtain ⟨F11, _⟩ := hh
              clear HALL
              go_wp2_with fail
              go_meet
              exact ⟨_, rfl, rfl, F11.more N1.out⟩
  case rest =>
    obtain ⟨wx, rfl⟩ : ∃ W, W = wc := ⟨_, rfl⟩
    obtain ⟨g, rfl, rfl, hx⟩ := hcut
    have FC := Lib.hid hx
    clear hx F0
    have q0 := FC.out.top.cell 0
    have q1 := FC.out.top.cell 1
    go_wp2_with fail
    refine (places_any s ps a c HOK.out.n12 HOK.out.each _ (Fr.lies HA.out FC.out)).mono ?_
    rintro e w2 ⟨g2, rfl, n2, _, hb2⟩
    have F2 := Lib.hid ((FC.out.call hb2).more n2)
    clear hb2 n2 FC q0 q1
    have y0 := (F2.out.get 3 rfl).cell 0
    have y1 := (F2.out.get 3 rfl).cell 1
    go_wp2_with fail
    go_loopw [11, 12] (fun q i wr => ∃ j : Nat, j ≤ k ∧ i = .int .i64 ((p : Int) + j) ∧ q = .int .i64 (sqS ps b.brk p sq j) ∧ Fr w wr ((g2, 3, rowF (ps.length + 1) (plcV ps)) :: (g, 77, #[.string s, .slice (some a) ps.length c, .int .i64 b.brk, .int .i64 b.drag, .int .i64 b.drv]) :: [(w.heap.size + 1 + 1 + 1, 49, #[.int .i64 0, .int .i64 0]), (w.heap.size + 1 + 1, 28, #[.int .i64 (p : Int), .int .i64 sq]), (w.heap.size + 1, 26, #[.int .i64 b.brk, .int .i64 b.drag, .int .i64 b.drv]), (w.heap.size, 24, #[.string s, .slice (some a) ps.length c])])) (fun _ i _ => ps.length - (intOf i).toNat)
    case atStart => exact ⟨0, Nat.zero_le _, by first | rfl | exact cong64 (by omega), rfl, F2.out⟩
    case round =>
      obtain ⟨j, hj, rfl, rfl, hf⟩ := hrel
      have FK := Lib.hid hf
      clear hf F2 y0 y1
      obtain ⟨P, hP⟩ : ∃ P : Nat, P = p + j := ⟨_, rfl⟩
      have HP := Lib.hid hP
      have hPi : (p : Int) + (j : Int) = (P : Int) := by omega
      rw [hPi]
      have hPn : P < ps.length := by omega
      have hPl : (P : Int) < (ps.length : Int) := by omega
      have hPl1 : (P : Int) < (ps.length : Int) + 1 := by omega
      have hgr := okP_iff.1 (gp_ok HOK.out.each P)
      have HDE : Hid (∀ W, Lies W W.heap.size (some a) (ps.flatMap pc) → Calls Try.prog 70 #[.agg #[.string s, .slice (some a) ps.length c, .int .i64 b.brk, .int .i64 b.drag, .int .i64 b.drv], .int .i64 P] W fun e w' => e = .returned (.int .i64 (b.brk + 10 * (gp ps P).grad)) ∧ Below W.heap.size W w') := Lib.hid (fun W hW => deceleration_any s ps a c b HB.out h12 HOK.out.each P hPn W hW)
      have HBR : Hid (∀ W, Lies W W.heap.size (some a) (ps.flatMap pc) → Calls Try.prog 71 #[.agg #[.string s, .slice (some a) ps.length c, .int .i64 b.brk, .int .i64 b.drag, .int .i64 b.drv], .int .i64 P] W fun e w' => e = .returned (.int .i64 (lossV (gp ps P) b.brk)) ∧ Below W.heap.size W w') := Lib.hid (fun W hW => braked_any s ps a c b HB.out h12 HOK.out.each P hPn W hW)
      have hEB := lossV_bound (gp_ok HOK.out.each P) (d := b.brk) hdb.out
      have hSB := sqS_bound HOK.out.each hdb.out p HQ.out j
      have hPB := plcV_bound HOK.out.each P
      have HSTEP : Hid (sqS ps b.brk p sq (j + 1) = sqS ps b.brk p sq j - lossV (gp ps P) b.brk) := Lib.hid (by rw [sqS, hP])
      obtain ⟨d, hd⟩ : ∃ d, b.brk + 10 * (gp ps P).grad = d := ⟨_, rfl⟩
      obtain ⟨l, hl2⟩ : ∃ l, lossV (gp ps P) b.brk = l := ⟨_, rfl⟩
      obtain ⟨x, hx⟩ : ∃ x, sqS ps b.brk p sq j = x := ⟨_, rfl⟩
      obtain ⟨z, hz⟩ : ∃ z, plcV ps P = z := ⟨_, rfl⟩
      have hd0 : -1000 ≤ d := by have := hdb.out; have := HB.out.b0; omega
      have hd1 : d ≤ 4000 := by have := hdb.out; omega
      rw [hx]
      rw [hd] at HDE
      rw [hl2] at HBR hEB HSTEP
      rw [hx] at hSB HSTEP
      rw [hz] at hPB
      obtain ⟨eb0, eb1⟩ := hEB
      have sb0 : -1200000000000 ≤ x := by omega
      have sb1 : x ≤ 1200000000000 := by omega
      have pb0 := hPB.1
      have pb1 : z ≤ 120000000 := by have := hPB.2; omega
      have hwx := IntWalk.i64_in (x - l) (by omega)
      have hPj : (P : Int) + 1 = (p : Int) + ((j + 1 : Nat) : Int) := by omega
      have HPJ := Lib.hid hPj
      have HZ := Lib.hid hz
      have q0 := (FK.out.get 1 rfl).cell 0
      have q1 := (FK.out.get 1 rfl).cell 1
      have q2 := (FK.out.get 1 rfl).cell 2
      have q3 := (FK.out.get 1 rfl).cell 3
      have q4 := (FK.out.get 1 rfl).cell 4
      by_cases hjk : j < k
      · have HM := HMISS.out j hjk
        rw [← HP.out, hd, hl2, hx] at HM
        have HJK := Lib.hid hjk
        clear hP hPi hPj hd hl2 hx hz hgr hSB hPB
        by_cases hd2 : 0 < d
        · have hl3 : l < x := by omega
          clear HM
          go_wp2_with fail
          refine (HDE.out _ (Fr.lies HA.out FK.out)).mono ?_
          rintro e w5 ⟨rfl, hb5⟩
          have F5 := Lib.hid (Fr.call FK.out hb5)
          clear hb5 FK
          clear q0 q1 q2 q3 q4
          have q0 := (F5.out.get 1 rfl).cell 0
          have q1 := (F5.out.get 1 rfl).cell 1
          have q2 := (F5.out.get 1 rfl).cell 2
          have q3 := (F5.out.get 1 rfl).cell 3
          have q4 := (F5.out.get 1 rfl).cell 4
          go_wp2_with fail
          refine (HBR.out _ (Fr.lies HA.out F5.out)).mono ?_
          rintro e w6 ⟨rfl, hb6⟩
          have F6 := Lib.hid (Fr.call F5.out hb6)
          clear hb6 F5
          clear q0 q1 q2 q3 q4
          have q0 := (F6.out.get 1 rfl).cell 0
          have q1 := (F6.out.get 1 rfl).cell 1
          have q2 := (F6.out.get 1 rfl).cell 2
          have q3 := (F6.out.get 1 rfl).cell 3
          have q4 := (F6.out.get 1 rfl).cell 4
          go_wp2_with fail
          refine (HBR.out _ (Fr.lies HA.out F6.out)).mono ?_
          rintro e w7 ⟨rfl, hb7⟩
          have F7 := Lib.hid (Fr.call F6.out hb7)
          clear hb7 F6
          clear q0 q1 q2 q3 q4
          have q0 := (F7.out.get 1 rfl).cell 0
          have q1 := (F7.out.get 1 rfl).cell 1
          have q2 := (F7.out.get 1 rfl).cell 2
          have q3 := (F7.out.get 1 rfl).cell 3
          have q4 := (F7.out.get 1 rfl).cell 4
          go_wp2_with fail
          go_roundw
          case rel => exact ⟨j + 1, by have := HJK.out; omega, cong64 HPJ.out, cong64 HSTEP.out.symm, F7.out⟩
          case measure => simp [intOf] <;> omega
        · clear HM
          go_wp2_with fail
          refine (HDE.out _ (Fr.lies HA.out FK.out)).mono ?_
          rintro e w5 ⟨rfl, hb5⟩
          have F5 := Lib.hid (Fr.call FK.out hb5)
          clear hb5 FK
          clear q0 q1 q2 q3 q4
          have q0 := (F5.out.get 1 rfl).cell 0
          have q1 := (F5.out.get 1 rfl).cell 1
          have q2 := (F5.out.get 1 rfl).cell 2
          have q3 := (F5.out.get 1 rfl).cell 3
          have q4 := (F5.out.get 1 rfl).cell 4
          go_wp2_with fail
          refine (HBR.out _ (Fr.lies HA.out F5.out)).mono ?_
          rintro e w7 ⟨rfl, hb7⟩
          have F7 := Lib.hid (Fr.call F5.out hb7)
          clear hb7 F5
          clear q0 q1 q2 q3 q4
          have q0 := (F7.out.get 1 rfl).cell 0
          have q1 := (F7.out.get 1 rfl).cell 1
          have q2 := (F7.out.get 1 rfl).cell 2
          have q3 := (F7.out.get 1 rfl).cell 3
          have q4 := (F7.out.get 1 rfl).cell 4
          go_wp2_with fail
          go_roundw
          case rel => exact ⟨j + 1, by have := HJK.out; omega, cong64 HPJ.out, cong64 HSTEP.out.symm, F7.out⟩
          case measure => simp [intOf] <;> omega
      · obtain rfl : j = k := by omega
        have HM := HHIT.out
        have HX0 := H0S.out
        rw [← HP.out, hd, hl2, hx] at HM
        rw [hx] at HX0
        obtain ⟨hd2, hl3⟩ := HM
        have HFIN : Hid (plcV ps (p + j) = z ∧ sqS ps b.brk p sq j = x ∧ b.brk + 10 * (gp ps (p + j)).grad = d) := Lib.hid ⟨by rw [← HP.out]; exact hz, hx, by rw [← HP.out]; exact hd⟩
        have HFL := Lib.hid (fun w => floor_any x (2 * d) HX0 (by omega) (by omega) (by omega) w)
        have HCL := Lib.hid (fun w => ceiling_any x (2 * d) HX0 (by omega) (by omega) (by omega) w)
        obtain ⟨lo, hlo⟩ : ∃ lo, x.tdiv (2 * d) = lo := ⟨_, rfl⟩
        obtain ⟨hi, hhi⟩ : ∃ hi, (x + 2 * d - 1).tdiv (2 * d) = hi := ⟨_, rfl⟩
        have HLO := Lib.hid hlo
        have HHI := Lib.hid hhi
        have hq1 : (x.tdiv (2 * d)).natAbs ≤ x.natAbs := Int.natAbs_tdiv_le_natAbs _ _
        have hq2 : ((x + 2 * d - 1).tdiv (2 * d)).natAbs ≤ (x + 2 * d - 1).natAbs := Int.natAbs_tdiv_le_natAbs _ _
        rw [hlo] at HFL hq1
        rw [hhi] at HCL hq2
        have hw1 := IntWalk.i64_in (z + lo) (by omega)
        have hw2 := IntWalk.i64_in (z + hi) (by omega)
        clear hP hPi hPj hd hl2 hx hz hgr hSB hPB hlo hhi hq1 hq2 hj
        go_wp2_with fail
        refine (HDE.out _ (Fr.lies HA.out FK.out)).mono ?_
        rintro e w5 ⟨rfl, hb5⟩
        have F5 := Lib.hid (Fr.call FK.out hb5)
        clear hb5 FK
        clear q0 q1 q2 q3 q4
        have q0 := (F5.out.get 1 rfl).cell 0
        have q1 := (F5.out.get 1 rfl).cell 1
        have q2 := (F5.out.get 1 rfl).cell 2
        have q3 := (F5.out.get 1 rfl).cell 3
        have q4 := (F5.out.get 1 rfl).cell 4
        go_wp2_with fail
        refine (HBR.out _ (Fr.lies HA.out F5.out)).mono ?_
        rintro e w6 ⟨rfl, hb6⟩
        have F6 := Lib.hid (Fr.call F5.out hb6)
        clear hb6 F5
        clear q0 q1 q2 q3 q4
        have q0 := (F6.out.get 1 rfl).cell 0
        have q1 := (F6.out.get 1 rfl).cell 1
        have q2 := (F6.out.get 1 rfl).cell 2
        have q3 := (F6.out.get 1 rfl).cell 3
        have q4 := (F6.out.get 1 rfl).cell 4
        go_wp2_with fail
        refine (HDE.out _ (Fr.lies HA.out F6.out)).mono ?_
        rintro e w7 ⟨rfl, hb7⟩
        have F7 := Lib.hid (Fr.call F6.out hb7)
        clear hb7 F6
        clear q0 q1 q2 q3 q4
        have q0 := (F7.out.get 1 rfl).cell 0
        have q1 := (F7.out.get 1 rfl).cell 1
        have q2 := (F7.out.get 1 rfl).cell 2
        have q3 := (F7.out.get 1 rfl).cell 3
        have q4 := (F7.out.get 1 rfl).cell 4
        go_upto_region 11 with fail
        have HALL : Hid (∀ W, Fr w W ((g2, 3, rowF (ps.length + 1) (plcV ps)) :: (g, 77, #[.string s, .slice (some a) ps.length c, .int .i64 b.brk, .int .i64 b.drag, .int .i64 b.drv]) :: [(w.heap.size + 1 + 1 + 1, 49, #[.int .i64 0, .int .i64 0]), (w.heap.size + 1 + 1, 28, #[.int .i64 (p : Int), .int .i64 sq]), (w.heap.size + 1, 26, #[.int .i64 b.brk, .int .i64 b.drag, .int .i64 b.drv]), (w.heap.size, 24, #[.string s, .slice (some a) ps.length c])]) → Fr w W ((g2, 3, rowF (ps.length + 1) (plcV ps)) :: (g, 77, #[.string s, .slice (some a) ps.length c, .int .i64 b.brk, .int .i64 b.drag, .int .i64 b.drv]) :: [(w.heap.size + 1 + 1 + 1, 49, #[.int .i64 0, .int .i64 0]), (w.heap.size + 1 + 1, 28, #[.int .i64 (p : Int), .int .i64 sq]), (w.heap.size + 1, 26, #[.int .i64 b.brk, .int .i64 b.drag, .int .i64 b.drv]), (w.heap.size, 24, #[.string s, .slice (some a) ps.length c])]) ∧ W.cell? ⟨g2, P, none⟩ = some (.int .i64 z)) := Lib.hid (fun W hW => ⟨hW, by rw [hW.top.rowF_at (by omega), HZ.out]⟩)
        have F10 : Fr w _ ((g2, 3, rowF (ps.length + 1) (plcV ps)) :: (g, 77, #[.string s, .slice (some a) ps.length c, .int .i64 b.brk, .int .i64 b.drag, .int .i64 b.drv]) :: [(w.heap.size + 1 + 1 + 1, 49, #[.int .i64 0, .int .i64 0]), (w.heap.size + 1 + 1, 28, #[.int .i64 (p : Int), .int .i64 sq]), (w.heap.size + 1, 26, #[.int .i64 b.brk, .int .i64 b.drag, .int .i64 b.drv]), (w.heap.size, 24, #[.string s, .slice (some a) ps.length c])]) := F7.out
        clear F7 q0 q1 q2 q3 q4
        refine Tw_start 17 (fun W => Fr w W ((g2, 3, rowF (ps.length + 1) (plcV ps)) :: (g, 77, #[.string s, .slice (some a) ps.length c, .int .i64 b.brk, .int .i64 b.drag, .int .i64 b.drv]) :: [(w.heap.size + 1 + 1 + 1, 49, #[.int .i64 0, .int .i64 0]), (w.heap.size + 1 + 1, 28, #[.int .i64 (p : Int), .int .i64 sq]), (w.heap.size + 1, 26, #[.int .i64 b.brk, .int .i64 b.drag, .int .i64 b.drv]), (w.heap.size, 24, #[.string s, .slice (some a) ps.length c])]) ∧ W.cell? ⟨g2, P, none⟩ = some (.int .i64 z)) (by kernel_rfl) (by kernel_rfl) rfl ?_ ?_
        · (try dsimp only)
          ((go_split_ands; refine HALL.out _ ?_; (first | assumption | (repeat (first | assumption | refine Fr.new ?_ _ | refine Fr.drew ?_ | (refine Fr.set ?_ (by first | exact Nat.le_refl _ | omega | (simp; done) | (simp; omega)) (by first | (simp; done) | (simp; omega)) _))); done)))
        refine Tw_abs ?_
        intro wD hD
        clear hD
        refine Tw_takeL (i := 0) (v := ?tv81) rfl (by kernel_rfl) (by decide) (by kernel_rfl) (by kernel_rfl) (fun _ _ _ h => h) (by rfl) ?ty81 ?tn81
        case ty81 => (intro w hSw; (try dsimp only at hSw); go_simp <;> with_reducible rfl)
        (try simp only [Act.put, List.setIfInBounds_toArray, List.set_cons_zero, List.set_cons_succ])
        refine Tw_takeL (i := 1) (v := ?tv82) rfl (by kernel_rfl) (by decide) (by kernel_rfl) (by kernel_rfl) (fun _ _ _ h => h) (by rfl) ?ty82 ?tn82
        case ty82 => (intro w hSw; (try dsimp only at hSw); go_simp <;> with_reducible rfl)
        (try simp only [Act.put, List.setIfInBounds_toArray, List.set_cons_zero, List.set_cons_succ])
        refine Tw_takeL (i := 2) (v := ?tv83) rfl (by kernel_rfl) (by decide) (by kernel_rfl) (by kernel_rfl) (fun _ _ _ h => h) (by rfl) ?ty83 ?tn83
        case ty83 => (intro w hSw; (try dsimp only at hSw); go_simp <;> with_reducible rfl)
        (try simp only [Act.put, List.setIfInBounds_toArray, List.set_cons_zero, List.set_cons_succ])
        refine Tw_takeL (i := 3) (v := ?tv84) rfl (by kernel_rfl) (by decide) (by kernel_rfl) (by kernel_rfl) (fun _ _ _ h => h) (by rfl) ?ty84 ?tn84
        case ty84 => (intro w hSw; (try dsimp only at hSw); go_simp <;> with_reducible rfl)
        (try simp only [Act.put, List.setIfInBounds_toArray, List.set_cons_zero, List.set_cons_succ])
        refine Tw_takeL (i := 4) (v := ?tv85) rfl (by kernel_rfl) (by decide) (by kernel_rfl) (by kernel_rfl) (fun _ _ _ h => h) (by rfl) ?ty85 ?tn85
        case ty85 => (intro w hSw; (try dsimp only at hSw); go_simp <;> with_reducible rfl)
        (try simp only [Act.put, List.setIfInBounds_toArray, List.set_cons_zero, List.set_cons_succ])
        refine Tw_takeL (i := 5) (v := ?tv86) rfl (by kernel_rfl) (by decide) (by kernel_rfl) (by kernel_rfl) (fun _ _ _ h => h) (by rfl) ?ty86 ?tn86
        case ty86 => (intro w hSw; (try dsimp only at hSw); go_simp <;> with_reducible rfl)
        (try simp only [Act.put, List.setIfInBounds_toArray, List.set_cons_zero, List.set_cons_succ])
        refine Tw_takeL (i := 8) (v := ?tv87) rfl (by kernel_rfl) (by decide) (by kernel_rfl) (by kernel_rfl) (fun _ _ _ h => h) (by rfl) ?ty87 ?tn87
        case ty87 => (intro w hSw; (try dsimp only at hSw); go_simp <;> with_reducible rfl)
        (try simp only [Act.put, List.setIfInBounds_toArray, List.set_cons_zero, List.set_cons_succ])
        refine Tw_takeL (i := 9) (v := ?tv88) rfl (by kernel_rfl) (by decide) (by kernel_rfl) (by kernel_rfl) (fun _ _ _ h => h) (by rfl) ?ty88 ?tn88
        case ty88 => (intro w hSw; (try dsimp only at hSw); go_simp <;> with_reducible rfl)
        (try simp only [Act.put, List.setIfInBounds_toArray, List.set_cons_zero, List.set_cons_succ])
        refine Tw_takeL (i := 10) (v := ?tv89) rfl (by kernel_rfl) (by decide) (by kernel_rfl) (by kernel_rfl) (fun _ _ _ h => h) (by rfl) ?ty89 ?tn89
        case ty89 => (intro w hSw; (try dsimp only at hSw); go_simp <;> with_reducible rfl)
        (try simp only [Act.put, List.setIfInBounds_toArray, List.set_cons_zero, List.set_cons_succ])
        refine Tw_takeL (i := 11) (v := ?tv90) rfl (by kernel_rfl) (by decide) (by kernel_rfl) (by kernel_rfl) (fun _ _ _ h => h) (by rfl) ?ty90 ?tn90
        case ty90 => (intro w hSw; (try dsimp only at hSw); go_simp <;> with_reducible rfl)
        (try simp only [Act.put, List.setIfInBounds_toArray, List.set_cons_zero, List.set_cons_succ])
        refine Tw_takeL (i := 12) (v := ?tv91) rfl (by kernel_rfl) (by decide) (by kernel_rfl) (by kernel_rfl) (fun _ _ _ h => h) (by rfl) ?ty91 ?tn91
        case ty91 => (intro w hSw; (try dsimp only at hSw); go_simp <;> with_reducible rfl)
        (try simp only [Act.put, List.setIfInBounds_toArray, List.set_cons_zero, List.set_cons_succ])
        refine Tw_takeL (i := 13) (v := ?tv92) rfl (by kernel_rfl) (by decide) (by kernel_rfl) (by kernel_rfl) (fun _ _ _ h => h) (by rfl) ?ty92 ?tn92
        case ty92 => (intro w hSw; (try dsimp only at hSw); go_simp <;> with_reducible rfl)
        (try simp only [Act.put, List.setIfInBounds_toArray, List.set_cons_zero, List.set_cons_succ])
        refine Tw_all (rs := [6]) (by kernel_rfl) (by simp) (by decide) (fun hHeld => ?_)
        refine AllT.consL rfl (fun K hK => ?_) AllT.nil
        go_simp
        (go_at_call 53; go_split_ands; (with_reducible refine (HFL.out _).mono ?_); rintro e w7 ⟨rfl, rfl⟩)
        refine hK.out _ _ ?_ ?_
        · (try dsimp only)
          ((go_split_ands; refine HALL.out _ ?_; (first | assumption | (repeat (first | assumption | refine Fr.new ?_ _ | refine Fr.drew ?_ | (refine Fr.set ?_ (by first | exact Nat.le_refl _ | omega | (simp; done) | (simp; omega)) (by first | (simp; done) | (simp; omega)) _))); done)))
        clear hK K
        (try simp only [Act.put, List.setIfInBounds_toArray, List.set_cons_zero, List.set_cons_succ])
        refine Tw_takeL (i := 7) (v := ?tv93) rfl (by kernel_rfl) (by decide) (by kernel_rfl) (by kernel_rfl) (fun _ _ _ h => h) (by rfl) ?ty93 ?tn93
        case ty93 => (intro w hSw; (try dsimp only at hSw); go_simp <;> with_reducible rfl)
        (try simp only [Act.put, List.setIfInBounds_toArray, List.set_cons_zero, List.set_cons_succ])
        refine Tw_all (rs := [14]) (by kernel_rfl) (by simp) (by decide) (fun hHeld => ?_)
        refine AllT.consL rfl (fun K hK => ?_) AllT.nil
        go_simp
        (go_at_call 54; go_split_ands; (with_reducible refine (HCL.out _).mono ?_); rintro e w7 ⟨rfl, rfl⟩)
        refine hK.out _ _ ?_ ?_
        · (try dsimp only)
          ((go_split_ands; refine HALL.out _ ?_; (first | assumption | (repeat (first | assumption | refine Fr.new ?_ _ | refine Fr.drew ?_ | (refine Fr.set ?_ (by first | exact Nat.le_refl _ | omega | (simp; done) | (simp; omega)) (by first | (simp; done) | (simp; omega)) _))); done)))
        clear hK K
        (try simp only [Act.put, List.setIfInBounds_toArray, List.set_cons_zero, List.set_cons_succ])
        refine Tw_takeL (i := 15) (v := ?tv94) rfl (by kernel_rfl) (by decide) (by kernel_rfl) (by kernel_rfl) (fun _ _ _ h => h) (by rfl) ?ty94 ?tn94
        case ty94 => (intro w hSw; (try dsimp only at hSw); go_simp <;> with_reducible rfl)
        (try simp only [Act.put, List.setIfInBounds_toArray, List.set_cons_zero, List.set_cons_succ])
        refine Tw_takeL (i := 16) (v := ?tv95) rfl (by kernel_rfl) (by decide) (by kernel_rfl) (by kernel_rfl) (fun _ _ _ h => h) (by rfl) ?ty95 ?tn95
        case ty95 => (intro w hSw; (try dsimp only at hSw); go_simp <;> with_reducible rfl)
        (try simp only [Act.put, List.setIfInBounds_toArray, List.set_cons_zero, List.set_cons_succ])
        refine Tw_end (by kernel_rfl) (fun hh => ?_)
        obtain ⟨F11, _⟩ := hh
        clear HALL
        have HF := Lib.hid F11
        have d0 := (F11.get 2 rfl).cell 0
        have d1 := (F11.get 2 rfl).cell 1
        have f0 := (F11.get 2 rfl).frozen 0
        have f1 := (F11.get 2 rfl).frozen 1
        have zN := (F11.get 2 rfl).lt
        clear F11
        go_wp2_with fail
        exact bodyPost_ret (v := .tuple #[.agg #[.int .i64 (z + lo), .int .i64 (z + hi)], .int .i64 0]) (by simp [results, Try.results37, go_sem, d0, d1]) rfl ⟨by obtain ⟨h1, h2, h3⟩ := HFIN.out; rw [h1, h2, h3, HLO.out, HHI.out], (by repeat (first | exact HF.out.bl | refine Below.drew ?_ | refine Below.setCell ?_ (by first | (simp; done) | (simp; omega) | omega) _ | refine Below.alloc ?_ (by first | (simp; done) | (simp; omega) | omega) _ | exact Below.refl _ _))⟩
end Go.Proofs.Ytmjooiocgeoaiaa
