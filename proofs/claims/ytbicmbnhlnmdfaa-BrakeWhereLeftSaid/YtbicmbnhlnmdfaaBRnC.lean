
/-
  The walk of Reaches of the program, where all is right.
-/
import Derived.Test.YtbicmbnhlnmdfaaBRun
namespace Go.Proofs.Ytbicmbnhlnmdfaa
open Go.RowKit

set_option maxHeartbeats 8000000 in
set_option maxRecDepth 100000 in
theorem Reaches_ok (s : ByteArray) (hs : s.size ≤ maxLen) (ps : List Bp) (a : Addr) (c : Nat) (hl : ps.length ≤ 1000) (b : Bs) (hok : OkT s ps) (hb : OkS b) (hsb : sE b = 0) (stop p : Nat) (hst : stop < ps.length) (hlv : (gp ps stop).lv = true) (hp : p ≤ stop) (sq : Int) (hq : 0 ≤ sq ∧ sq ≤ 20000000000) (w : World) (hA : Lies w w.heap.size (some a) (ps.flatMap pc)) :
    Calls Try.prog 17 #[.agg #[.string s, .slice (some a) ps.length c], .agg #[.int .i64 b.brk, .int .i64 b.drag, .int .i64 b.drv], .agg #[.int .i64 (p : Int), .int .i64 sq], .int .i64 (stop : Int)] w (fun e w' => e = .returned (.tuple #[.bool (decide (runE ps b stop p sq = 0)), .int .i64 0]) ∧ Below w.heap.size w w') := by
  have hlm : ps.length ≤ maxLen := by unfold maxLen; omega
  have F0 := Lib.hid (Fr.b3 w 24 #[.string s, .slice (some a) ps.length c] 26 #[.int .i64 b.brk, .int .i64 b.drag, .int .i64 b.drv] 28 #[.int .i64 (p : Int), .int .i64 sq])
  have HA := Lib.hid hA
  have HOK := Lib.hid hok
  have HB := Lib.hid hb
  obtain ⟨e1, h1⟩ : ∃ e1, stateE ps (p : Int) sq = e1 := ⟨_, rfl⟩
  obtain ⟨e2, h2⟩ : ∃ e2, stopE ps (stop : Int) = e2 := ⟨_, rfl⟩
  obtain ⟨e3, h3⟩ : ∃ e3, orderE (p : Int) (stop : Int) = e3 := ⟨_, rfl⟩
  have g1 : e1 = 0 := by rw [← h1]; unfold stateE; rw [if_neg (by rw [inB_iff.2 (by omega)]; simp), if_pos (inB_iff.2 hq)]
  have g2 : e2 = 0 := by rw [← h2, stopE_in hst, hlv]; rfl
  have g3 : e3 = 0 := by rw [← h3]; unfold orderE; rw [if_neg (by omega)]
  have HN : nz ((trE s ps).2 :: sE b :: [e1, e2, e3]) = 0 := by rw [trE_ok hok, hsb, g1, g2, g3]; rfl
  have HCR : Hid (∀ (fa : Addr) (W : World), Lies W W.heap.size (some a) (ps.flatMap pc) → Lies W W.heap.size (some fa) (ic [e1, e2, e3]) → Calls Try.prog 34 #[.agg #[.string s, .slice (some a) ps.length c], .agg #[.int .i64 b.brk, .int .i64 b.drag, .int .i64 b.drv], .slice (some fa) 3 3] W fun e w' => e = .returned (.tuple #[.agg #[.string s, .slice (some a) ps.length c, .int .i64 b.brk, .int .i64 b.drag, .int .i64 b.drv], .int .i64 0]) ∧ Below W.heap.size W w') := Lib.hid (fun fa W h1 h2 => checkRide_ok s hs ps (some a) c hlm b [e1, e2, e3] fa 3 (by simp) (by simp) HN W h1 h2)
  have HS1 := Lib.hid h1
  have HS2 := Lib.hid h2
  have HS3 := Lib.hid h3
  have HQ := Lib.hid hq
  clear hA hok hb hsb hlv g1 g2 g3 h1 h2 h3 HN hq
  go_enter Try.func17, Try.ntmps17
  go_upto_region 1 with fail
  go_cut [10, 11] from 10 to 27 (fun pv rv W => ∃ g : Nat, pv = .pointer (some ⟨g, 0, none⟩) ∧ rv = .int .i64 0 ∧ Fr w W ((g, 82, #[.string s, .slice (some a) ps.length c, .int .i64 b.brk, .int .i64 b.drag, .int .i64 b.drv]) :: [(w.heap.size + 1 + 1, 28, #[.int .i64 (p : Int), .int .i64 sq]), (w.heap.size + 1, 26, #[.int .i64 b.brk, .int .i64 b.drag, .int .i64 b.drv]), (w.heap.size, 24, #[.string s, .slice (some a) ps.length c])]))
  case first =>
    refine wp_abs ?_
    intro w5 h5
    have HALL : Hid (∀ W, Fr w W [(w.heap.size + 1 + 1, 28, #[.int .i64 (p : Int), .int .i64 sq]), (w.heap.size + 1, 26, #[.int .i64 b.brk, .int .i64 b.drag, .int .i64 b.drv]), (w.heap.size, 24, #[.string s, .slice (some a) ps.length c])] → Fr w W [(w.heap.size + 1 + 1, 28, #[.int .i64 (p : Int), .int .i64 sq]), (w.heap.size + 1, 26, #[.int .i64 b.brk, .int .i64 b.drag, .int .i64 b.drv]), (w.heap.size, 24, #[.string s, .slice (some a) ps.length c])] ∧ W.cell? ⟨w.heap.size, 0, none⟩ = some (.string s) ∧ W.cell? ⟨w.heap.size, 1, none⟩ = some (.slice (some a) ps.length c) ∧ W.cell? ⟨w.heap.size + 1, 0, none⟩ = some (.int .i64 b.brk) ∧ W.cell? ⟨w.heap.size + 1, 1, none⟩ = some (.int .i64 b.drag) ∧ W.cell? ⟨w.heap.size + 1, 2, none⟩ = some (.int .i64 b.drv) ∧ W.cell? ⟨w.heap.size + 1 + 1, 0, none⟩ = some (.int .i64 (p : Int)) ∧ W.cell? ⟨w.heap.size + 1 + 1, 1, none⟩ = some (.int .i64 sq)) := Lib.hid (fun W hW => ⟨hW, hW.at2.cell 0, hW.at2.cell 1, hW.at1.cell 0, hW.at1.cell 1, hW.at1.cell 2, hW.top.cell 0, hW.top.cell 1⟩)
    have F10 : Fr w w5 [(w.heap.size + 1 + 1, 28, #[.int .i64 (p : Int), .int .i64 sq]), (w.heap.size + 1, 26, #[.int .i64 b.brk, .int .i64 b.drag, .int .i64 b.drv]), (w.heap.size, 24, #[.string s, .slice (some a) ps.length c])] := by subst h5; exact F0.out
    clear F0 h5
    refine Tw_start 18 (fun W => Fr w W [(w.heap.size + 1 + 1, 28, #[.int .i64 (p : Int), .int .i64 sq]), (w.heap.size + 1, 26, #[.int .i64 b.brk, .int .i64 b.drag, .int .i64 b.drv]), (w.heap.size, 24, #[.string s, .slice (some a) ps.length c])] ∧ W.cell? ⟨w.heap.size, 0, none⟩ = some (.string s) ∧ W.cell? ⟨w.heap.size, 1, none⟩ = some (.slice (some a) ps.length c) ∧ W.cell? ⟨w.heap.size + 1, 0, none⟩ = some (.int .i64 b.brk) ∧ W.cell? ⟨w.heap.size + 1, 1, none⟩ = some (.int .i64 b.drag) ∧ W.cell? ⟨w.heap.size + 1, 2, none⟩ = some (.int .i64 b.drv) ∧ W.cell? ⟨w.heap.size + 1 + 1, 0, none⟩ = some (.int .i64 (p : Int)) ∧ W.cell? ⟨w.heap.size + 1 + 1, 1, none⟩ = some (.int .i64 sq)) (by kernel_rfl) (by kernel_rfl) rfl ?_ ?_
    · (try dsimp only)
      ((go_split_ands; refine HALL.out _ ?_; (first | assumption | (repeat (first | assumption | refine Fr.new ?_ _ | refine Fr.drew ?_ | (refine Fr.set ?_ (by first | exact Nat.le_refl _ | omega | (simp; done) | (simp; omega)) (by first | (simp; done) | (simp; omega)) _))); done)))
    refine Tw_takeL (i := 0) (v := ?tv127) rfl (by kernel_rfl) (by decide) (by kernel_rfl) (by kernel_rfl) (fun _ _ _ h => h) (by rfl) ?ty127 ?tn127
    case ty127 => (intro w hSw; (try dsimp only at hSw); go_simp <;> with_reducible rfl)
    (try simp only [Act.put, List.setIfInBounds_toArray, List.set_cons_zero, List.set_cons_succ])
    refine Tw_takeL (i := 1) (v := ?tv128) rfl (by kernel_rfl) (by decide) (by kernel_rfl) (by kernel_rfl) (fun _ _ _ h => h) (by rfl) ?ty128 ?tn128
    case ty128 => (intro w hSw; (try dsimp only at hSw); go_simp <;> with_reducible rfl)
    (try simp only [Act.put, List.setIfInBounds_toArray, List.set_cons_zero, List.set_cons_succ])
    refine Tw_takeL (i := 2) (v := ?tv129) rfl (by kernel_rfl) (by decide) (by kernel_rfl) (by kernel_rfl) (fun _ _ _ h => h) (by rfl) ?ty129 ?tn129
    case ty129 => (intro w hSw; (try dsimp only at hSw); go_simp <;> with_reducible rfl)
    (try simp only [Act.put, List.setIfInBounds_toArray, List.set_cons_zero, List.set_cons_succ])
    refine Tw_takeL (i := 3) (v := ?tv130) rfl (by kernel_rfl) (by decide) (by kernel_rfl) (by kernel_rfl) (fun _ _ _ h => h) (by rfl) ?ty130 ?tn130
    case ty130 => (intro w hSw; (try dsimp only at hSw); go_simp <;> with_reducible rfl)
    (try simp only [Act.put, List.setIfInBounds_toArray, List.set_cons_zero, List.set_cons_succ])
    refine Tw_takeL (i := 5) (v := ?tv131) rfl (by kernel_rfl) (by decide) (by kernel_rfl) (by kernel_rfl) (fun _ _ _ h => h) (by rfl) ?ty131 ?tn131
    case ty131 => (intro w hSw; (try dsimp only at hSw); go_simp <;> with_reducible rfl)
    (try simp only [Act.put, List.setIfInBounds_toArray, List.set_cons_zero, List.set_cons_succ])
    refine Tw_takeL (i := 6) (v := ?tv132) rfl (by kernel_rfl) (by decide) (by kernel_rfl) (by kernel_rfl) (fun _ _ _ h => h) (by rfl) ?ty132 ?tn132
    case ty132 => (intro w hSw; (try dsimp only at hSw); go_simp <;> with_reducible rfl)
    (try simp only [Act.put, List.setIfInBounds_toArray, List.set_cons_zero, List.set_cons_succ])
    refine Tw_takeL (i := 8) (v := ?tv133) rfl (by kernel_rfl) (by decide) (by kernel_rfl) (by kernel_rfl) (fun _ _ _ h => h) (by rfl) ?ty133 ?tn133
    case ty133 => (intro w hSw; (try dsimp only at hSw); go_simp <;> with_reducible rfl)
    (try simp only [Act.put, List.setIfInBounds_toArray, List.set_cons_zero, List.set_cons_succ])
    refine Tw_takeL (i := 9) (v := ?tv134) rfl (by kernel_rfl) (by decide) (by kernel_rfl) (by kernel_rfl) (fun _ _ _ h => h) (by rfl) ?ty134 ?tn134
    case ty134 => (intro w hSw; (try dsimp only at hSw); go_simp <;> with_reducible rfl)
    (try simp only [Act.put, List.setIfInBounds_toArray, List.set_cons_zero, List.set_cons_succ])
    refine Tw_all (rs := [4, 16]) (by kernel_rfl) (by simp) (by decide) (fun hHeld => ?_)
    refine AllT.consL rfl (fun K hK => ?_) (AllT.consL rfl (fun K hK => ?_) (AllT.nil))
    · go_simp
      (go_at_call 35; go_split_ands; (with_reducible refine (errorOfState_any s ps (some a) c (by omega) (p : Int) sq _).mono ?_); rintro e w7 ⟨rfl, hb7⟩; rw [HS1.out]; have F4 := Fr.call (by assumption) hb7; (first | (have N1 := Lib.hid (Bk.call N1.out hb7)) | skip); (first | (have L1 := Lib.hid (Lies.call L1.out hb7)) | skip); clear hb7)
      refine hK.out _ _ ?_ ?_
      · (try dsimp only)
        ((go_split_ands; refine HALL.out _ ?_; (first | assumption | (repeat (first | assumption | refine Fr.new ?_ _ | refine Fr.drew ?_ | (refine Fr.set ?_ (by first | exact Nat.le_refl _ | omega | (simp; done) | (simp; omega)) (by first | (simp; done) | (simp; omega)) _))); done)))
      clear hK K
      (try simp only [Act.put, List.setIfInBounds_toArray, List.set_cons_zero, List.set_cons_succ])
      refine Tw_all (rs := [7, 16]) (by kernel_rfl) (by simp) (by decide) (fun hHeld => ?_)
      refine AllT.consL rfl (fun K hK => ?_) (AllT.consL rfl (fun K hK => ?_) (AllT.nil))
      · go_simp
        (go_at_call 36; go_split_ands; (with_reducible refine (errorOfStop_any s ps (some a) c (by omega) (stop : Int) _ (Fr.lies HA.out (by assumption))).mono ?_); rintro e w7 ⟨rfl, hb7⟩; rw [HS2.out]; have F4 := Fr.call (by assumption) hb7; (first | (have N1 := Lib.hid (Bk.call N1.out hb7)) | skip); (first | (have L1 := Lib.hid (Lies.call L1.out hb7)) | skip); clear hb7)
        refine hK.out _ _ ?_ ?_
        · (try dsimp only)
          ((go_split_ands; refine HALL.out _ ?_; (first | assumption | (repeat (first | assumption | refine Fr.new ?_ _ | refine Fr.drew ?_ | (refine Fr.set ?_ (by first | exact Nat.le_refl _ | omega | (simp; done) | (simp; omega)) (by first | (simp; done) | (simp; omega)) _))); done)))
        clear hK K
        (try simp only [Act.put, List.setIfInBounds_toArray, List.set_cons_zero, List.set_cons_succ])
        refine Tw_all (rs := [10, 16]) (by kernel_rfl) (by simp) (by decide) (fun hHeld => ?_)
        refine AllT.consL rfl (fun K hK => ?_) (AllT.consL rfl (fun K hK => ?_) (AllT.nil))
        · go_simp
          (go_at_call 37; go_split_ands; (with_reducible refine (errorOfOrder_any (p : Int) sq (stop : Int) _).mono ?_); rintro e w7 ⟨rfl, hb7⟩; rw [HS3.out]; have F4 := Fr.call (by assumption) hb7; (first | (have N1 := Lib.hid (Bk.call N1.out hb7)) | skip); (first | (have L1 := Lib.hid (Lies.call L1.out hb7)) | skip); clear hb7)
          refine hK.out _ _ ?_ ?_
          · (try dsimp only)
            ((go_split_ands; refine HALL.out _ ?_; (first | assumption | (repeat (first | assumption | refine Fr.new ?_ _ | refine Fr.drew ?_ | (refine Fr.set ?_ (by first | exact Nat.le_refl _ | omega | (simp; done) | (simp; omega)) (by first | (simp; done) | (simp; omega)) _))); done)))
          clear hK K
          (try simp only [Act.put, List.setIfInBounds_toArray, List.set_cons_zero, List.set_cons_succ])
          refine Tw_all (rs := [11, 16]) (by kernel_rfl) (by simp) (by decide) (fun hHeld => ?_)
          refine AllT.consL rfl (fun K hK => ?_) (AllT.consL rfl (fun K hK => ?_) (AllT.nil))
          · go_simp
            refine hK.out _ _ ?_ ?_
            · (try dsimp only)
              ((go_split_ands; refine HALL.out _ ?_; (first | assumption | (repeat (first | assumption | refine Fr.new ?_ _ | refine Fr.drew ?_ | (refine Fr.set ?_ (by first | exact Nat.le_refl _ | omega | (simp; done) | (simp; omega)) (by first | (simp; done) | (simp; omega)) _))); done)))
            clear hK K
            (try simp only [Act.put, List.setIfInBounds_toArray, List.set_cons_zero, List.set_cons_succ])
            refine Tw_abs ?_
            intro wA136 hA136
            (first | (have N1 := Lib.hid (Bk.over_alloc hA136 N1.out)) | (have N1 := Lib.hid (Bk.over_alloc_drew hA136 N1.out)) | skip)
            (first | (have L1 := Lib.hid (fs_alloc (l := [e1, e2, e3]) hA136 (by simp [maxLen]))) | (have L1 := Lib.hid (fs_drew (l := [e1, e2, e3]) hA136 (by simp [maxLen]))))
            clear hA136
            refine Tw_all (rs := [12, 16]) (by kernel_rfl) (by simp) (by decide) (fun hHeld => ?_)
            refine AllT.consL rfl (fun K hK => ?_) (AllT.consL rfl (fun K hK => ?_) (AllT.nil))
            · go_simp
              (go_at_call 34; go_split_ands; (refine (HCR.out _ _ (Fr.lies HA.out (by assumption)) L1.out).mono ?_); rintro e w7 ⟨rfl, hb7⟩; have F6 := Fr.call (by assumption) hb7; (first | (have N1 := Lib.hid (Bk.call N1.out hb7)) | skip); (first | (have L1 := Lib.hid (Lies.call L1.out hb7)) | skip); clear hb7)
              refine hK.out _ _ ?_ ?_
              · (try dsimp only)
                ((go_split_ands; refine HALL.out _ ?_; (first | assumption | (repeat (first | assumption | refine Fr.new ?_ _ | refine Fr.drew ?_ | (refine Fr.set ?_ (by first | exact Nat.le_refl _ | omega | (simp; done) | (simp; omega)) (by first | (simp; done) | (simp; omega)) _))); done)))
              clear hK K
              (try simp only [Act.put, List.setIfInBounds_toArray, List.set_cons_zero, List.set_cons_succ])
              refine Tw_takeL (i := 13) (v := ?tv135) rfl (by kernel_rfl) (by decide) (by kernel_rfl) (by kernel_rfl) (fun _ _ _ h => h) (by rfl) ?ty135 ?tn135
              case ty135 => (intro w hSw; (try dsimp only at hSw); go_simp <;> with_reducible rfl)
              (try simp only [Act.put, List.setIfInBounds_toArray, List.set_cons_zero, List.set_cons_succ])
              refine Tw_takeL (i := 14) (v := ?tv136) rfl (by kernel_rfl) (by decide) (by kernel_rfl) (by kernel_rfl) (fun _ _ _ h => h) (by rfl) ?ty136 ?tn136
              case ty136 => (intro w hSw; (try dsimp only at hSw); go_simp <;> with_reducible rfl)
              (try simp only [Act.put, List.setIfInBounds_toArray, List.set_cons_zero, List.set_cons_succ])
              refine Tw_takeL (i := 15) (v := ?tv137) rfl (by kernel_rfl) (by decide) (by kernel_rfl) (by kernel_rfl) (fun _ _ _ h => h) (by rfl) ?ty137 ?tn137
              case ty137 => (intro w hSw; (try dsimp only at hSw); go_simp <;> with_reducible rfl)
              (try simp only [Act.put, List.setIfInBounds_toArray, List.set_cons_zero, List.set_cons_succ])
              refine Tw_all (rs := [16]) (by kernel_rfl) (by simp) (by decide) (fun hHeld => ?_)
              refine AllT.consL rfl (fun K hK => ?_) (AllT.nil)
              · go_simp
                refine hK.out _ _ ?_ ?_
                · (try dsimp only)
                  ((go_split_ands; refine HALL.out _ ?_; (first | assumption | (repeat (first | assumption | refine Fr.new ?_ _ | refine Fr.drew ?_ | (refine Fr.set ?_ (by first | exact Nat.le_refl _ | omega | (simp; done) | (simp; omega)) (by first | (simp; done) | (simp; omega)) _))); done)))
                clear hK K
                (try simp only [Act.put, List.setIfInBounds_toArray, List.set_cons_zero, List.set_cons_succ])
                refine Tw_abs ?_
                intro wA138 hA138
                (first | (have N1 := Lib.hid (Bk.of_alloc hA138)) | (have N1 := Lib.hid (Bk.of_alloc_drew hA138)))
                have zg := Lib.hid (show w.heap.size + 3 ≤ _ from hHeld.1.top.lt)
                (first | (have L1 := Lib.hid (Lies.alloc hA138 L1.out)) | (have L1 := Lib.hid (Lies.alloc_drew hA138 L1.out)) | skip)
                clear hA138
                refine Tw_all (rs := [17]) (by kernel_rfl) (by simp) (by decide) (fun hHeld => ?_)
                refine AllT.consL rfl (fun K hK => ?_) (AllT.nil)
                · have c0 := N1.out.cell 0
                  have c1 := N1.out.cell 1
                  have c2 := N1.out.cell 2
                  have c3 := N1.out.cell 3
                  have c4 := N1.out.cell 4
                  have f0 := N1.out.frozen 0
                  have f1 := N1.out.frozen 1
                  have f2 := N1.out.frozen 2
                  have f3 := N1.out.frozen 3
                  have f4 := N1.out.frozen 4
                  have zN := N1.out.lt
                  go_simp
                  refine hK.out _ _ ?_ ?_
                  · exact HALL.out _ (Fr.off5 (n := 3) hHeld.1 zg.out (by intro b hb; simp only [List.mem_cons, List.not_mem_nil, or_false] at hb; rcases hb with rfl | rfl | rfl <;> (dsimp only; omega)) _ _ _ _ _)
                  clear hK K c0 f0 c1 f1 c2 f2 c3 f3 c4 f4 zN
                  have N1 := Lib.hid (Bk.set5 N1.out (.string s) (.slice (some a) ps.length c) (.int .i64 b.brk) (.int .i64 b.drag) (.int .i64 b.drv))
                  (try simp only [Act.put, List.setIfInBounds_toArray, List.set_cons_zero, List.set_cons_succ])
                  refine Tw_end (by kernel_rfl) (fun hh => ?_)
                  obtain ⟨F11, _⟩ := hh
                  clear HALL
                  go_wp2_with fail
                  go_meet
                  exact ⟨_, rfl, rfl, F11.more N1.out⟩
            · go_simp
              refine hK.out _ _ ?_ ?_
              · (try dsimp only)
                ((go_split_ands; refine HALL.out _ ?_; (first | assumption | (repeat (first | assumption | refine Fr.new ?_ _ | refine Fr.drew ?_ | (refine Fr.set ?_ (by first | exact Nat.le_refl _ | omega | (simp; done) | (simp; omega)) (by first | (simp; done) | (simp; omega)) _))); done)))
              clear hK K
              (try simp only [Act.put, List.setIfInBounds_toArray, List.set_cons_zero, List.set_cons_succ])
              refine Tw_abs ?_
              intro wA140 hA140
              (first | (have N1 := Lib.hid (Bk.of_alloc hA140)) | (have N1 := Lib.hid (Bk.of_alloc_drew hA140)))
              have zg := Lib.hid (show w.heap.size + 3 ≤ _ from hHeld.1.top.lt)
              (first | (have L1 := Lib.hid (Lies.alloc hA140 L1.out)) | (have L1 := Lib.hid (Lies.alloc_drew hA140 L1.out)) | skip)
              clear hA140
              refine Tw_all (rs := [12]) (by kernel_rfl) (by simp) (by decide) (fun hHeld => ?_)
              refine AllT.consL rfl (fun K hK => ?_) (AllT.nil)
              · go_simp
                (go_at_call 34; go_split_ands; (refine (HCR.out _ _ (Fr.lies HA.out (by assumption)) L1.out).mono ?_); rintro e w7 ⟨rfl, hb7⟩; have F6 := Fr.call (by assumption) hb7; (first | (have N1 := Lib.hid (Bk.call N1.out hb7)) | skip); (first | (have L1 := Lib.hid (Lies.call L1.out hb7)) | skip); clear hb7)
                refine hK.out _ _ ?_ ?_
                · (try dsimp only)
                  ((go_split_ands; refine HALL.out _ ?_; (first | assumption | (repeat (first | assumption | refine Fr.new ?_ _ | refine Fr.drew ?_ | (refine Fr.set ?_ (by first | exact Nat.le_refl _ | omega | (simp; done) | (simp; omega)) (by first | (simp; done) | (simp; omega)) _))); done)))
                clear hK K
                (try simp only [Act.put, List.setIfInBounds_toArray, List.set_cons_zero, List.set_cons_succ])
                refine Tw_takeL (i := 13) (v := ?tv138) rfl (by kernel_rfl) (by decide) (by kernel_rfl) (by kernel_rfl) (fun _ _ _ h => h) (by rfl) ?ty138 ?tn138
                case ty138 => (intro w hSw; (try dsimp only at hSw); go_simp <;> with_reducible rfl)
                (try simp only [Act.put, List.setIfInBounds_toArray, List.set_cons_zero, List.set_cons_succ])
                refine Tw_takeL (i := 14) (v := ?tv139) rfl (by kernel_rfl) (by decide) (by kernel_rfl) (by kernel_rfl) (fun _ _ _ h => h) (by rfl) ?ty139 ?tn139
                case ty139 => (intro w hSw; (try dsimp only at hSw); go_simp <;> with_reducible rfl)
                (try simp only [Act.put, List.setIfInBounds_toArray, List.set_cons_zero, List.set_cons_succ])
                refine Tw_takeL (i := 15) (v := ?tv140) rfl (by kernel_rfl) (by decide) (by kernel_rfl) (by kernel_rfl) (fun _ _ _ h => h) (by rfl) ?ty140 ?tn140
                case ty140 => (intro w hSw; (try dsimp only at hSw); go_simp <;> with_reducible rfl)
                (try simp only [Act.put, List.setIfInBounds_toArray, List.set_cons_zero, List.set_cons_succ])
                refine Tw_all (rs := [17]) (by kernel_rfl) (by simp) (by decide) (fun hHeld => ?_)
                refine AllT.consL rfl (fun K hK => ?_) (AllT.nil)
                · have c0 := N1.out.cell 0
                  have c1 := N1.out.cell 1
                  have c2 := N1.out.cell 2
                  have c3 := N1.out.cell 3
                  have c4 := N1.out.cell 4
                  have f0 := N1.out.frozen 0
                  have f1 := N1.out.frozen 1
                  have f2 := N1.out.frozen 2
                  have f3 := N1.out.frozen 3
                  have f4 := N1.out.frozen 4
                  have zN := N1.out.lt
                  go_simp
                  refine hK.out _ _ ?_ ?_
                  · exact HALL.out _ (Fr.off5 (n := 3) hHeld.1 zg.out (by intro b hb; simp only [List.mem_cons, List.not_mem_nil, or_false] at hb; rcases hb with rfl | rfl | rfl <;> (dsimp only; omega)) _ _ _ _ _)
                  clear hK K c0 f0 c1 f1 c2 f2 c3 f3 c4 f4 zN
                  have N1 := Lib.hid (Bk.set5 N1.out (.string s) (.slice (some a) ps.length c) (.int .i64 b.brk) (.int .i64 b.drag) (.int .i64 b.drv))
                  (try simp only [Act.put, List.setIfInBounds_toArray, List.set_cons_zero, List.set_cons_succ])
                  refine Tw_end (by kernel_rfl) (fun hh => ?_)
                  obtain ⟨F11, _⟩ := hh
                  clear HALL
                  go_wp2_with fail
                  go_meet
                  exact ⟨_, rfl, rfl, F11.more N1.out⟩
          · go_simp
            refine hK.out _ _ ?_ ?_
            · (try dsimp only)
              ((go_split_ands; refine HALL.out _ ?_; (first | assumption | (repeat (first | assumption | refine Fr.new ?_ _ | refine Fr.drew ?_ | (refine Fr.set ?_ (by first | exact Nat.le_refl _ | omega | (simp; done) | (simp; omega)) (by first | (simp; done) | (simp; omega)) _))); done)))
            clear hK K
            (try simp only [Act.put, List.setIfInBounds_toArray, List.set_cons_zero, List.set_cons_succ])
            refine Tw_abs ?_
            intro wA143 hA143
            (first | (have N1 := Lib.hid (Bk.of_alloc hA143)) | (have N1 := Lib.hid (Bk.of_alloc_drew hA143)))
            have zg := Lib.hid (show w.heap.size + 3 ≤ _ from hHeld.1.top.lt)
            (first | (have L1 := Lib.hid (Lies.alloc hA143 L1.out)) | (have L1 := Lib.hid (Lies.alloc_drew hA143 L1.out)) | skip)
            clear hA143
            refine Tw_all (rs := [11]) (by kernel_rfl) (by simp) (by decide) (fun hHeld => ?_)
            refine AllT.consL rfl (fun K hK => ?_) (AllT.nil)
            · go_simp
              refine hK.out _ _ ?_ ?_
              · (try dsimp only)
                ((go_split_ands; refine HALL.out _ ?_; (first | assumption | (repeat (first | assumption | refine Fr.new ?_ _ | refine Fr.drew ?_ | (refine Fr.set ?_ (by first | exact Nat.le_refl _ | omega | (simp; done) | (simp; omega)) (by first | (simp; done) | (simp; omega)) _))); done)))
              clear hK K
              (try simp only [Act.put, List.setIfInBounds_toArray, List.set_cons_zero, List.set_cons_succ])
              refine Tw_abs ?_
              intro wA144 hA144
              (first | (have N1 := Lib.hid (Bk.over_alloc hA144 N1.out)) | (have N1 := Lib.hid (Bk.over_alloc_drew hA144 N1.out)) | skip)
              (first | (have L1 := Lib.hid (fs_alloc (l := [e1, e2, e3]) hA144 (by simp [maxLen]))) | (have L1 := Lib.hid (fs_drew (l := [e1, e2, e3]) hA144 (by simp [maxLen]))))
              clear hA144
              refine Tw_all (rs := [12]) (by kernel_rfl) (by simp) (by decide) (fun hHeld => ?_)
              refine AllT.consL rfl (fun K hK => ?_) (AllT.nil)
              · go_simp
                (go_at_call 34; go_split_ands; (refine (HCR.out _ _ (Fr.lies HA.out (by assumption)) L1.out).mono ?_); rintro e w7 ⟨rfl, hb7⟩; have F6 := Fr.call (by assumption) hb7; (first | (have N1 := Lib.hid (Bk.call N1.out hb7)) | skip); (first | (have L1 := Lib.hid (Lies.call L1.out hb7)) | skip); clear hb7)
                refine hK.out _ _ ?_ ?_
                · (try dsimp only)
                  ((go_split_ands; refine HALL.out _ ?_; (first | assumption | (repeat (first | assumption | refine Fr.new ?_ _ | refine Fr.drew ?_ | (refine Fr.set ?_ (by first | exact Nat.le_refl _ | omega | (simp; done) | (simp; omega)) (by first | (simp; done) | (simp; omega)) _))); done)))
                clear hK K
                (try simp only [Act.put, List.setIfInBounds_toArray, List.set_cons_zero, List.set_cons_succ])
                refine Tw_takeL (i := 13) (v := ?tv141) rfl (by kernel_rfl) (by decide) (by kernel_rfl) (by kernel_rfl) (fun _ _ _ h => h) (by rfl) ?ty141 ?tn141
                case ty141 => (intro w hSw; (try dsimp only at hSw); go_simp <;> with_reducible rfl)
                (try simp only [Act.put, List.setIfInBounds_toArray, List.set_cons_zero, List.set_cons_succ])
                refine Tw_takeL (i := 14) (v := ?tv142) rfl (by kernel_rfl) (by decide) (by kernel_rfl) (by kernel_rfl) (fun _ _ _ h => h) (by rfl) ?ty142 ?tn142
                case ty142 => (intro w hSw; (try dsimp only at hSw); go_simp <;> with_reducible rfl)
                (try simp only [Act.put, List.setIfInBounds_toArray, List.set_cons_zero, List.set_cons_succ])
                refine Tw_takeL (i := 15) (v := ?tv143) rfl (by kernel_rfl) (by decide) (by kernel_rfl) (by kernel_rfl) (fun _ _ _ h => h) (by rfl) ?ty143 ?tn143
                case ty143 => (intro w hSw; (try dsimp only at hSw); go_simp <;> with_reducible rfl)
                (try simp only [Act.put, List.setIfInBounds_toArray, List.set_cons_zero, List.set_cons_succ])
                refine Tw_all (rs := [17]) (by kernel_rfl) (by simp) (by decide) (fun hHeld => ?_)
                refine AllT.consL rfl (fun K hK => ?_) (AllT.nil)
                · have c0 := N1.out.cell 0
                  have c1 := N1.out.cell 1
                  have c2 := N1.out.cell 2
                  have c3 := N1.out.cell 3
                  have c4 := N1.out.cell 4
                  have f0 := N1.out.frozen 0
                  have f1 := N1.out.frozen 1
                  have f2 := N1.out.frozen 2
                  have f3 := N1.out.frozen 3
                  have f4 := N1.out.frozen 4
                  have zN := N1.out.lt
                  go_simp
                  refine hK.out _ _ ?_ ?_
                  · exact HALL.out _ (Fr.off5 (n := 3) hHeld.1 zg.out (by intro b hb; simp only [List.mem_cons, List.not_mem_nil, or_false] at hb; rcases hb with rfl | rfl | rfl <;> (dsimp only; omega)) _ _ _ _ _)
                  clear hK K c0 f0 c1 f1 c2 f2 c3 f3 c4 f4 zN
                  have N1 := Lib.hid (Bk.set5 N1.out (.string s) (.slice (some a) ps.length c) (.int .i64 b.brk) (.int .i64 b.drag) (.int .i64 b.drv))
                  (try simp only [Act.put, List.setIfInBounds_toArray, List.set_cons_zero, List.set_cons_succ])
                  refine Tw_end (by kernel_rfl) (fun hh => ?_)
                  obtain ⟨F11, _⟩ := hh
                  clear HALL
                  go_wp2_with fail
                  go_meet
                  exact ⟨_, rfl, rfl, F11.more N1.out⟩
        · go_simp
          refine hK.out _ _ ?_ ?_
          · (try dsimp only)
            ((go_split_ands; refine HALL.out _ ?_; (first | assumption | (repeat (first | assumption | refine Fr.new ?_ _ | refine Fr.drew ?_ | (refine Fr.set ?_ (by first | exact Nat.le_refl _ | omega | (simp; done) | (simp; omega)) (by first | (simp; done) | (simp; omega)) _))); done)))
          clear hK K
          (try simp only [Act.put, List.setIfInBounds_toArray, List.set_cons_zero, List.set_cons_succ])
          refine Tw_abs ?_
          intro wA147 hA147
          (first | (have N1 := Lib.hid (Bk.of_alloc hA147)) | (have N1 := Lib.hid (Bk.of_alloc_drew hA147)))
          have zg := Lib.hid (show w.heap.size + 3 ≤ _ from hHeld.1.top.lt)
          (first | (have L1 := Lib.hid (Lies.alloc hA147 L1.out)) | (have L1 := Lib.hid (Lies.alloc_drew hA147 L1.out)) | skip)
          clear hA147
          refine Tw_all (rs := [10]) (by kernel_rfl) (by simp) (by decide) (fun hHeld => ?_)
          refine AllT.consL rfl (fun K hK => ?_) (AllT.nil)
          · go_simp
            (go_at_call 37; go_split_ands; (with_reducible refine (errorOfOrder_any (p : Int) sq (stop : Int) _).mono ?_); rintro e w7 ⟨rfl, hb7⟩; rw [HS3.out]; have F4 := Fr.call (by assumption) hb7; (first | (have N1 := Lib.hid (Bk.call N1.out hb7)) | skip); (first | (have L1 := Lib.hid (Lies.call L1.out hb7)) | skip); clear hb7)
            refine hK.out _ _ ?_ ?_
            · (try dsimp only)
              ((go_split_ands; refine HALL.out _ ?_; (first | assumption | (repeat (first | assumption | refine Fr.new ?_ _ | refine Fr.drew ?_ | (refine Fr.set ?_ (by first | exact Nat.le_refl _ | omega | (simp; done) | (simp; omega)) (by first | (simp; done) | (simp; omega)) _))); done)))
            clear hK K
            (try simp only [Act.put, List.setIfInBounds_toArray, List.set_cons_zero, List.set_cons_succ])
            refine Tw_all (rs := [11]) (by kernel_rfl) (by simp) (by decide) (fun hHeld => ?_)
            refine AllT.consL rfl (fun K hK => ?_) (AllT.nil)
            · go_simp
              refine hK.out _ _ ?_ ?_
              · (try dsimp only)
                ((go_split_ands; refine HALL.out _ ?_; (first | assumption | (repeat (first | assumption | refine Fr.new ?_ _ | refine Fr.drew ?_ | (refine Fr.set ?_ (by first | exact Nat.le_refl _ | omega | (simp; done) | (simp; omega)) (by first | (simp; done) | (simp; omega)) _))); done)))
              clear hK K
              (try simp only [Act.put, List.setIfInBounds_toArray, List.set_cons_zero, List.set_cons_succ])
              refine Tw_abs ?_
              intro wA149 hA149
              (first | (have N1 := Lib.hid (Bk.over_alloc hA149 N1.out)) | (have N1 := Lib.hid (Bk.over_alloc_drew hA149 N1.out)) | skip)
              (first | (have L1 := Lib.hid (fs_alloc (l := [e1, e2, e3]) hA149 (by simp [maxLen]))) | (have L1 := Lib.hid (fs_drew (l := [e1, e2, e3]) hA149 (by simp [maxLen]))))
              clear hA149
              refine Tw_all (rs := [12]) (by kernel_rfl) (by simp) (by decide) (fun hHeld => ?_)
              refine AllT.consL rfl (fun K hK => ?_) (AllT.nil)
              · go_simp
                (go_at_call 34; go_split_ands; (refine (HCR.out _ _ (Fr.lies HA.out (by assumption)) L1.out).mono ?_); rintro e w7 ⟨rfl, hb7⟩; have F6 := Fr.call (by assumption) hb7; (first | (have N1 := Lib.hid (Bk.call N1.out hb7)) | skip); (first | (have L1 := Lib.hid (Lies.call L1.out hb7)) | skip); clear hb7)
                refine hK.out _ _ ?_ ?_
                · (try dsimp only)
                  ((go_split_ands; refine HALL.out _ ?_; (first | assumption | (repeat (first | assumption | refine Fr.new ?_ _ | refine Fr.drew ?_ | (refine Fr.set ?_ (by first | exact Nat.le_refl _ | omega | (simp; done) | (simp; omega)) (by first | (simp; done) | (simp; omega)) _))); done)))
                clear hK K
                (try simp only [Act.put, List.setIfInBounds_toArray, List.set_cons_zero, List.set_cons_succ])
                refine Tw_takeL (i := 13) (v := ?tv144) rfl (by kernel_rfl) (by decide) (by kernel_rfl) (by kernel_rfl) (fun _ _ _ h => h) (by rfl) ?ty144 ?tn144
                case ty144 => (intro w hSw; (try dsimp only at hSw); go_simp <;> with_reducible rfl)
                (try simp only [Act.put, List.setIfInBounds_toArray, List.set_cons_zero, List.set_cons_succ])
                refine Tw_takeL (i := 14) (v := ?tv145) rfl (by kernel_rfl) (by decide) (by kernel_rfl) (by kernel_rfl) (fun _ _ _ h => h) (by rfl) ?ty145 ?tn145
                case ty145 => (intro w hSw; (try dsimp only at hSw); go_simp <;> with_reducible rfl)
                (try simp only [Act.put, List.setIfInBounds_toArray, List.set_cons_zero, List.set_cons_succ])
                refine Tw_takeL (i := 15) (v := ?tv146) rfl (by kernel_rfl) (by decide) (by kernel_rfl) (by kernel_rfl) (fun _ _ _ h => h) (by rfl) ?ty146 ?tn146
                case ty146 => (intro w hSw; (try dsimp only at hSw); go_simp <;> with_reducible rfl)
                (try simp only [Act.put, List.setIfInBounds_toArray, List.set_cons_zero, List.set_cons_succ])
                refine Tw_all (rs := [17]) (by kernel_rfl) (by simp) (by decide) (fun hHeld => ?_)
                refine AllT.consL rfl (fun K hK => ?_) (AllT.nil)
                · have c0 := N1.out.cell 0
                  have c1 := N1.out.cell 1
                  have c2 := N1.out.cell 2
                  have c3 := N1.out.cell 3
                  have c4 := N1.out.cell 4
                  have f0 := N1.out.frozen 0
                  have f1 := N1.out.frozen 1
                  have f2 := N1.out.frozen 2
                  have f3 := N1.out.frozen 3
                  have f4 := N1.out.frozen 4
                  have zN := N1.out.lt
                  go_simp
                  refine hK.out _ _ ?_ ?_
                  · exact HALL.out _ (Fr.off5 (n := 3) hHeld.1 zg.out (by intro b hb; simp only [List.mem_cons, List.not_mem_nil, or_false] at hb; rcases hb with rfl | rfl | rfl <;> (dsimp only; omega)) _ _ _ _ _)
                  clear hK K c0 f0 c1 f1 c2 f2 c3 f3 c4 f4 zN
                  have N1 := Lib.hid (Bk.set5 N1.out (.string s) (.slice (some a) ps.length c) (.int .i64 b.brk) (.int .i64 b.drag) (.int .i64 b.drv))
                  (try simp only [Act.put, List.setIfInBounds_toArray, List.set_cons_zero, List.set_cons_succ])
                  refine Tw_end (by kernel_rfl) (fun hh => ?_)
                  obtain ⟨F11, _⟩ := hh
                  clear HALL
                  go_wp2_with fail
                  go_meet
                  exact ⟨_, rfl, rfl, F11.more N1.out⟩
      · go_simp
        refine hK.out _ _ ?_ ?_
        · (try dsimp only)
          ((go_split_ands; refine HALL.out _ ?_; (first | assumption | (repeat (first | assumption | refine Fr.new ?_ _ | refine Fr.drew ?_ | (refine Fr.set ?_ (by first | exact Nat.le_refl _ | omega | (simp; done) | (simp; omega)) (by first | (simp; done) | (simp; omega)) _))); done)))
        clear hK K
        (try simp only [Act.put, List.setIfInBounds_toArray, List.set_cons_zero, List.set_cons_succ])
        refine Tw_abs ?_
        intro wA152 hA152
        (first | (have N1 := Lib.hid (Bk.of_alloc hA152)) | (have N1 := Lib.hid (Bk.of_alloc_drew hA152)))
        have zg := Lib.hid (show w.heap.size + 3 ≤ _ from hHeld.1.top.lt)
        (first | (have L1 := Lib.hid (Lies.alloc hA152 L1.out)) | (have L1 := Lib.hid (Lies.alloc_drew hA152 L1.out)) | skip)
        clear hA152
        refine Tw_all (rs := [7]) (by kernel_rfl) (by simp) (by decide) (fun hHeld => ?_)
        refine AllT.consL rfl (fun K hK => ?_) (AllT.nil)
        · go_simp
          (go_at_call 36; go_split_ands; (with_reducible refine (errorOfStop_any s ps (some a) c (by omega) (stop : Int) _ (Fr.lies HA.out (by assumption))).mono ?_); rintro e w7 ⟨rfl, hb7⟩; rw [HS2.out]; have F4 := Fr.call (by assumption) hb7; (first | (have N1 := Lib.hid (Bk.call N1.out hb7)) | skip); (first | (have L1 := Lib.hid (Lies.call L1.out hb7)) | skip); clear hb7)
          refine hK.out _ _ ?_ ?_
          · (try dsimp only)
            ((go_split_ands; refine HALL.out _ ?_; (first | assumption | (repeat (first | assumption | refine Fr.new ?_ _ | refine Fr.drew ?_ | (refine Fr.set ?_ (by first | exact Nat.le_refl _ | omega | (simp; done) | (simp; omega)) (by first | (simp; done) | (simp; omega)) _))); done)))
          clear hK K
          (try simp only [Act.put, List.setIfInBounds_toArray, List.set_cons_zero, List.set_cons_succ])
          refine Tw_all (rs := [10]) (by kernel_rfl) (by simp) (by decide) (fun hHeld => ?_)
          refine AllT.consL rfl (fun K hK => ?_) (AllT.nil)
          · go_simp
            (go_at_call 37; go_split_ands; (with_reducible refine (errorOfOrder_any (p : Int) sq (stop : Int) _).mono ?_); rintro e w7 ⟨rfl, hb7⟩; rw [HS3.out]; have F4 := Fr.call (by assumption) hb7; (first | (have N1 := Lib.hid (Bk.call N1.out hb7)) | skip); (first | (have L1 := Lib.hid (Lies.call L1.out hb7)) | skip); clear hb7)
            refine hK.out _ _ ?_ ?_
            · (try dsimp only)
              ((go_split_ands; refine HALL.out _ ?_; (first | assumption | (repeat (first | assumption | refine Fr.new ?_ _ | refine Fr.drew ?_ | (refine Fr.set ?_ (by first | exact Nat.le_refl _ | omega | (simp; done) | (simp; omega)) (by first | (simp; done) | (simp; omega)) _))); done)))
            clear hK K
            (try simp only [Act.put, List.setIfInBounds_toArray, List.set_cons_zero, List.set_cons_succ])
            refine Tw_all (rs := [11]) (by kernel_rfl) (by simp) (by decide) (fun hHeld => ?_)
            refine AllT.consL rfl (fun K hK => ?_) (AllT.nil)
            · go_simp
              refine hK.out _ _ ?_ ?_
              · (try dsimp only)
                ((go_split_ands; refine HALL.out _ ?_; (first | assumption | (repeat (first | assumption | refine Fr.new ?_ _ | refine Fr.drew ?_ | (refine Fr.set ?_ (by first | exact Nat.le_refl _ | omega | (simp; done) | (simp; omega)) (by first | (simp; done) | (simp; omega)) _))); done)))
              clear hK K
              (try simp only [Act.put, List.setIfInBounds_toArray, List.set_cons_zero, List.set_cons_succ])
              refine Tw_abs ?_
              intro wA155 hA155
              (first | (have N1 := Lib.hid (Bk.over_alloc hA155 N1.out)) | (have N1 := Lib.hid (Bk.over_alloc_drew hA155 N1.out)) | skip)
              (first | (have L1 := Lib.hid (fs_alloc (l := [e1, e2, e3]) hA155 (by simp [maxLen]))) | (have L1 := Lib.hid (fs_drew (l := [e1, e2, e3]) hA155 (by simp [maxLen]))))
              clear hA155
              refine Tw_all (rs := [12]) (by kernel_rfl) (by simp) (by decide) (fun hHeld => ?_)
              refine AllT.consL rfl (fun K hK => ?_) (AllT.nil)
              · go_simp
                (go_at_call 34; go_split_ands; (refine (HCR.out _ _ (Fr.lies HA.out (by assumption)) L1.out).mono ?_); rintro e w7 ⟨rfl, hb7⟩; have F6 := Fr.call (by assumption) hb7; (first | (have N1 := Lib.hid (Bk.call N1.out hb7)) | skip); (first | (have L1 := Lib.hid (Lies.call L1.out hb7)) | skip); clear hb7)
                refine hK.out _ _ ?_ ?_
                · (try dsimp only)
                  ((go_split_ands; refine HALL.out _ ?_; (first | assumption | (repeat (first | assumption | refine Fr.new ?_ _ | refine Fr.drew ?_ | (refine Fr.set ?_ (by first | exact Nat.le_refl _ | omega | (simp; done) | (simp; omega)) (by first | (simp; done) | (simp; omega)) _))); done)))
                clear hK K
                (try simp only [Act.put, List.setIfInBounds_toArray, List.set_cons_zero, List.set_cons_succ])
                refine Tw_takeL (i := 13) (v := ?tv147) rfl (by kernel_rfl) (by decide) (by kernel_rfl) (by kernel_rfl) (fun _ _ _ h => h) (by rfl) ?ty147 ?tn147
                case ty147 => (intro w hSw; (try dsimp only at hSw); go_simp <;> with_reducible rfl)
                (try simp only [Act.put, List.setIfInBounds_toArray, List.set_cons_zero, List.set_cons_succ])
                refine Tw_takeL (i := 14) (v := ?tv148) rfl (by kernel_rfl) (by decide) (by kernel_rfl) (by kernel_rfl) (fun _ _ _ h => h) (by rfl) ?ty148 ?tn148
                case ty148 => (intro w hSw; (try dsimp only at hSw); go_simp <;> with_reducible rfl)
                (try simp only [Act.put, List.setIfInBounds_toArray, List.set_cons_zero, List.set_cons_succ])
                refine Tw_takeL (i := 15) (v := ?tv149) rfl (by kernel_rfl) (by decide) (by kernel_rfl) (by kernel_rfl) (fun _ _ _ h => h) (by rfl) ?ty149 ?tn149
                case ty149 => (intro w hSw; (try dsimp only at hSw); go_simp <;> with_reducible rfl)
                (try simp only [Act.put, List.setIfInBounds_toArray, List.set_cons_zero, List.set_cons_succ])
                refine Tw_all (rs := [17]) (by kernel_rfl) (by simp) (by decide) (fun hHeld => ?_)
                refine AllT.consL rfl (fun K hK => ?_) (AllT.nil)
                · have c0 := N1.out.cell 0
                  have c1 := N1.out.cell 1
                  have c2 := N1.out.cell 2
                  have c3 := N1.out.cell 3
                  have c4 := N1.out.cell 4
                  have f0 := N1.out.frozen 0
                  have f1 := N1.out.frozen 1
                  have f2 := N1.out.frozen 2
                  have f3 := N1.out.frozen 3
                  have f4 := N1.out.frozen 4
                  have zN := N1.out.lt
                  go_simp
                  refine hK.out _ _ ?_ ?_
                  · exact HALL.out _ (Fr.off5 (n := 3) hHeld.1 zg.out (by intro b hb; simp only [List.mem_cons, List.not_mem_nil, or_false] at hb; rcases hb with rfl | rfl | rfl <;> (dsimp only; omega)) _ _ _ _ _)
                  clear hK K c0 f0 c1 f1 c2 f2 c3 f3 c4 f4 zN
                  have N1 := Lib.hid (Bk.set5 N1.out (.string s) (.slice (some a) ps.length c) (.int .i64 b.brk) (.int .i64 b.drag) (.int .i64 b.drv))
                  (try simp only [Act.put, List.setIfInBounds_toArray, List.set_cons_zero, List.set_cons_succ])
                  refine Tw_end (by kernel_rfl) (fun hh => ?_)
                  obtain ⟨F11, _⟩ := hh
                  clear HALL
                  go_wp2_with fail
                  go_meet
                  exact ⟨_, rfl, rfl, F11.more N1.out⟩
    · go_simp
      refine hK.out _ _ ?_ ?_
      · (try dsimp only)
        ((go_split_ands; refine HALL.out _ ?_; (first | assumption | (repeat (first | assumption | refine Fr.new ?_ _ | refine Fr.drew ?_ | (refine Fr.set ?_ (by first | exact Nat.le_refl _ | omega | (simp; done) | (simp; omega)) (by first | (simp; done) | (simp; omega)) _))); done)))
      clear hK K
      (try simp only [Act.put, List.setIfInBounds_toArray, List.set_cons_zero, List.set_cons_succ])
      refine Tw_abs ?_
      intro wA158 hA158
      (first | (have N1 := Lib.hid (Bk.of_alloc hA158)) | (have N1 := Lib.hid (Bk.of_alloc_drew hA158)))
      have zg := Lib.hid (show w.heap.size + 3 ≤ _ from hHeld.1.top.lt)
      (first | (have L1 := Lib.hid (Lies.alloc hA158 L1.out)) | (have L1 := Lib.hid (Lies.alloc_drew hA158 L1.out)) | skip)
      clear hA158
      refine Tw_all (rs := [4]) (by kernel_rfl) (by simp) (by decide) (fun hHeld => ?_)
      refine AllT.consL rfl (fun K hK => ?_) (AllT.nil)
      · go_simp
        (go_at_call 35; go_split_ands; (with_reducible refine (errorOfState_any s ps (some a) c (by omega) (p : Int) sq _).mono ?_); rintro e w7 ⟨rfl, hb7⟩; rw [HS1.out]; have F4 := Fr.call (by assumption) hb7; (first | (have N1 := Lib.hid (Bk.call N1.out hb7)) | skip); (first | (have L1 := Lib.hid (Lies.call L1.out hb7)) | skip); clear hb7)
        refine hK.out _ _ ?_ ?_
        · (try dsimp only)
          ((go_split_ands; refine HALL.out _ ?_; (first | assumption | (repeat (first | assumption | refine Fr.new ?_ _ | refine Fr.drew ?_ | (refine Fr.set ?_ (by first | exact Nat.le_refl _ | omega | (simp; done) | (simp; omega)) (by first | (simp; done) | (simp; omega)) _))); done)))
        clear hK K
        (try simp only [Act.put, List.setIfInBounds_toArray, List.set_cons_zero, List.set_cons_succ])
        refine Tw_all (rs := [7]) (by kernel_rfl) (by simp) (by decide) (fun hHeld => ?_)
        refine AllT.consL rfl (fun K hK => ?_) (AllT.nil)
        · go_simp
          (go_at_call 36; go_split_ands; (with_reducible refine (errorOfStop_any s ps (some a) c (by omega) (stop : Int) _ (Fr.lies HA.out (by assumption))).mono ?_); rintro e w7 ⟨rfl, hb7⟩; rw [HS2.out]; have F4 := Fr.call (by assumption) hb7; (first | (have N1 := Lib.hid (Bk.call N1.out hb7)) | skip); (first | (have L1 := Lib.hid (Lies.call L1.out hb7)) | skip); clear hb7)
          refine hK.out _ _ ?_ ?_
          · (try dsimp only)
            ((go_split_ands; refine HALL.out _ ?_; (first | assumption | (repeat (first | assumption | refine Fr.new ?_ _ | refine Fr.drew ?_ | (refine Fr.set ?_ (by first | exact Nat.le_refl _ | omega | (simp; done) | (simp; omega)) (by first | (simp; done) | (simp; omega)) _))); done)))
          clear hK K
          (try simp only [Act.put, List.setIfInBounds_toArray, List.set_cons_zero, List.set_cons_succ])
          refine Tw_all (rs := [10]) (by kernel_rfl) (by simp) (by decide) (fun hHeld => ?_)
          refine AllT.consL rfl (fun K hK => ?_) (AllT.nil)
          · go_simp
            (go_at_call 37; go_split_ands; (with_reducible refine (errorOfOrder_any (p : Int) sq (stop : Int) _).mono ?_); rintro e w7 ⟨rfl, hb7⟩; rw [HS3.out]; have F4 := Fr.call (by assumption) hb7; (first | (have N1 := Lib.hid (Bk.call N1.out hb7)) | skip); (first | (have L1 := Lib.hid (Lies.call L1.out hb7)) | skip); clear hb7)
            refine hK.out _ _ ?_ ?_
            · (try dsimp only)
              ((go_split_ands; refine HALL.out _ ?_; (first | assumption | (repeat (first | assumption | refine Fr.new ?_ _ | refine Fr.drew ?_ | (refine Fr.set ?_ (by first | exact Nat.le_refl _ | omega | (simp; done) | (simp; omega)) (by first | (simp; done) | (simp; omega)) _))); done)))
            clear hK K
            (try simp only [Act.put, List.setIfInBounds_toArray, List.set_cons_zero, List.set_cons_succ])
            refine Tw_all (rs := [11]) (by kernel_rfl) (by simp) (by decide) (fun hHeld => ?_)
            refine AllT.consL rfl (fun K hK => ?_) (AllT.nil)
            · go_simp
              refine hK.out _ _ ?_ ?_
              · (try dsimp only)
                ((go_split_ands; refine HALL.out _ ?_; (first | assumption | (repeat (first | assumption | refine Fr.new ?_ _ | refine Fr.drew ?_ | (refine Fr.set ?_ (by first | exact Nat.le_refl _ | omega | (simp; done) | (simp; omega)) (by first | (simp; done) | (simp; omega)) _))); done)))
              clear hK K
              (try simp only [Act.put, List.setIfInBounds_toArray, List.set_cons_zero, List.set_cons_succ])
              refine Tw_abs ?_
              intro wA162 hA162
              (first | (have N1 := Lib.hid (Bk.over_alloc hA162 N1.out)) | (have N1 := Lib.hid (Bk.over_alloc_drew hA162 N1.out)) | skip)
              (first | (have L1 := Lib.hid (fs_alloc (l := [e1, e2, e3]) hA162 (by simp [maxLen]))) | (have L1 := Lib.hid (fs_drew (l := [e1, e2, e3]) hA162 (by simp [maxLen]))))
              clear hA162
              refine Tw_all (rs := [12]) (by kernel_rfl) (by simp) (by decide) (fun hHeld => ?_)
              refine AllT.consL rfl (fun K hK => ?_) (AllT.nil)
              · go_simp
                (go_at_call 34; go_split_ands; (refine (HCR.out _ _ (Fr.lies HA.out (by assumption)) L1.out).mono ?_); rintro e w7 ⟨rfl, hb7⟩; have F6 := Fr.call (by assumption) hb7; (first | (have N1 := Lib.hid (Bk.call N1.out hb7)) | skip); (first | (have L1 := Lib.hid (Lies.call L1.out hb7)) | skip); clear hb7)
                refine hK.out _ _ ?_ ?_
                · (try dsimp only)
                  ((go_split_ands; refine HALL.out _ ?_; (first | assumption | (repeat (first | assumption | refine Fr.new ?_ _ | refine Fr.drew ?_ | (refine Fr.set ?_ (by first | exact Nat.le_refl _ | omega | (simp; done) | (simp; omega)) (by first | (simp; done) | (simp; omega)) _))); done)))
                clear hK K
                (try simp only [Act.put, List.setIfInBounds_toArray, List.set_cons_zero, List.set_cons_succ])
                refine Tw_takeL (i := 13) (v := ?tv150) rfl (by kernel_rfl) (by decide) (by kernel_rfl) (by kernel_rfl) (fun _ _ _ h => h) (by rfl) ?ty150 ?tn150
                case ty150 => (intro w hSw; (try dsimp only at hSw); go_simp <;> with_reducible rfl)
                (try simp only [Act.put, List.setIfInBounds_toArray, List.set_cons_zero, List.set_cons_succ])
                refine Tw_takeL (i := 14) (v := ?tv151) rfl (by kernel_rfl) (by decide) (by kernel_rfl) (by kernel_rfl) (fun _ _ _ h => h) (by rfl) ?ty151 ?tn151
                case ty151 => (intro w hSw; (try dsimp only at hSw); go_simp <;> with_reducible rfl)
                (try simp only [Act.put, List.setIfInBounds_toArray, List.set_cons_zero, List.set_cons_succ])
                refine Tw_takeL (i := 15) (v := ?tv152) rfl (by kernel_rfl) (by decide) (by kernel_rfl) (by kernel_rfl) (fun _ _ _ h => h) (by rfl) ?ty152 ?tn152
                case ty152 => (intro w hSw; (try dsimp only at hSw); go_simp <;> with_reducible rfl)
                (try simp only [Act.put, List.setIfInBounds_toArray, List.set_cons_zero, List.set_cons_succ])
                refine Tw_all (rs := [17]) (by kernel_rfl) (by simp) (by decide) (fun hHeld => ?_)
                refine AllT.consL rfl (fun K hK => ?_) (AllT.nil)
                · have c0 := N1.out.cell 0
                  have c1 := N1.out.cell 1
                  have c2 := N1.out.cell 2
                  have c3 := N1.out.cell 3
                  have c4 := N1.out.cell 4
                  have f0 := N1.out.frozen 0
                  have f1 := N1.out.frozen 1
                  have f2 := N1.out.frozen 2
                  have f3 := N1.out.frozen 3
                  have f4 := N1.out.frozen 4
                  have zN := N1.out.lt
                  go_simp
                  refine hK.out _ _ ?_ ?_
                  · exact HALL.out _ (Fr.off5 (n := 3) hHeld.1 zg.out (by intro b hb; simp only [List.mem_cons, List.not_mem_nil, or_false] at hb; rcases hb with rfl | rfl | rfl <;> (dsimp only; omega)) _ _ _ _ _)
                  clear hK K c0 f0 c1 f1 c2 f2 c3 f3 c4 f4 zN
                  have N1 := Lib.hid (Bk.set5 N1.out (.string s) (.slice (some a) ps.length c) (.int .i64 b.brk) (.int .i64 b.drag) (.int .i64 b.drv))
                  (try simp only [Act.put, List.setIfInBounds_toArray, List.set_cons_zero, List.set_cons_succ])
                  refine Tw_end (by kernel_rfl) (fun hh => ?_)
                  obtain ⟨F11, _⟩ := hh
                  clear HALL
                  go_wp2_with fail
                  go_meet
                  exact ⟨_, rfl, rfl, F11.more N1.out⟩
  case rest =>
    obtain ⟨wx, rfl⟩ : ∃ W, W = wc := ⟨_, rfl⟩
    obtain ⟨g, rfl, rfl, hx⟩ := hcut
    have FC := Lib.hid hx
    clear hx F0
    have q0 := FC.out.top.cell 0
    have q1 := FC.out.top.cell 1
    have q2 := FC.out.top.cell 2
    have q3 := FC.out.top.cell 3
    have q4 := FC.out.top.cell 4
    have y0 := FC.out.at1.cell 0
    have y1 := FC.out.at1.cell 1
    go_wp2_with fail
    refine (reaches_any s ps a c b HB.out HOK.out.n0 HOK.out.n12 HOK.out.each stop p hst hp sq HQ.out _ (Fr.lies HA.out FC.out)).mono ?_
    rintro e w2 ⟨rfl, hb2⟩
    have F2 := Lib.hid (FC.out.call hb2)
    clear hb2 FC q0 q1 q2 q3 q4 y0 y1
    go_wp2_with fail
    go_ret2
    exact ⟨rfl, F2.out.bl⟩
end Go.Proofs.Ytbicmbnhlnmdfaa
