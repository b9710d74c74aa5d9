
/-
  The walk of StopsOf of the program.
-/
import Derived.Test.YtmjooiocgeoaiaaBBt
import Derived.Test.YtmjooiocgeoaiaaBErr
import Derived.Test.YtmjooiocgeoaiaaBApi
namespace Go.Proofs.Ytmjooiocgeoaiaa
open Go.RowKit
attribute [local go_sem] Oper.semAt_some

set_option maxHeartbeats 8000000 in
set_option maxRecDepth 100000 in
theorem StopsOf_bad (s : ByteArray) (hs : s.size ≤ maxLen) (ps : List Bp) (A : Option Addr) (c : Nat) (hl : ps.length ≤ 1000) (b : Bs) (p sq : Int) (er : Int) (he : nz ((trE s ps).2 :: sE b :: [stateE ps p sq]) = er) (hr : er ≠ 0) (w : World) (hA : Lies w w.heap.size A (ps.flatMap pc)) :
    Calls Try.prog 9 #[.agg #[.string s, .slice A ps.length c], .agg #[.int .i64 b.brk, .int .i64 b.drag, .int .i64 b.drv], .agg #[.int .i64 p, .int .i64 sq]] w fun e w' => e = .returned (.tuple #[.slice none 0 0, .int .i64 er]) ∧ Below w.heap.size w w' := by
  have hlm : ps.length ≤ maxLen := by unfold maxLen; omega
  have F0 := Lib.hid (Fr.b3 w 24 #[.string s, .slice A ps.length c] 26 #[.int .i64 b.brk, .int .i64 b.drag, .int .i64 b.drv] 28 #[.int .i64 p, .int .i64 sq])
  have HA := Lib.hid hA
  obtain ⟨e1, h1⟩ : ∃ e1, stateE ps p sq = e1 := ⟨_, rfl⟩
  rw [h1] at he
  have ge : (er != 0) = true := by simp [hr]
  have HCR : Hid (∀ (fa : Addr) (W : World), Lies W W.heap.size A (ps.flatMap pc) → Lies W W.heap.size (some fa) (ic [e1]) → Calls Try.prog 39 #[.agg #[.string s, .slice A ps.length c], .agg #[.int .i64 b.brk, .int .i64 b.drag, .int .i64 b.drv], .slice (some fa) 1 1] W fun e w' => e = .returned (.tuple #[.agg #[.string ⟨#[]⟩, .slice none 0 0, .int .i64 0, .int .i64 0, .int .i64 0], .int .i64 er]) ∧ Below W.heap.size W w') := Lib.hid (fun fa W h1 h2 => checkRide_bad s hs ps A c hlm b [e1] fa 1 (by simp) (by simp) er he hr W h1 h2)
  have HS1 := Lib.hid h1
  clear hA h1 he hr
  refine (callsIn_wide (n := 12)).1 ?_
  refine callsIn_of_wp_marks Try.func9 rfl trivial ?_ rfl
  simp only [Try.ntmps9, List.size_toArray, List.length_cons, List.length_nil, Nat.reduceAdd, Nat.reduceSub, Array.replicate_succ, Array.replicate_zero, List.push_toArray, List.append_toArray, List.nil_append, List.cons_append]
  refine wpIn_wide.2 ?_
  refine wp_mono ?_ nopan_to
  go_upto_region 1 with fail
  go_cut [8, 9] from 8 to 21 (fun pv rv W => ∃ g : Nat, pv = .pointer (some ⟨g, 0, none⟩) ∧ rv = .int .i64 er ∧ Fr w W ((g, 77, #[.string ⟨#[]⟩, .slice none 0 0, .int .i64 0, .int .i64 0, .int .i64 0]) :: [(w.heap.size + 1 + 1, 28, #[.int .i64 p, .int .i64 sq]), (w.heap.size + 1, 26, #[.int .i64 b.brk, .int .i64 b.drag, .int .i64 b.drv]), (w.heap.size, 24, #[.string s, .slice A ps.length c])]))
  case first =>
    refine wp_abs ?_
    intro w5 h5
    have HALL : Hid (∀ W, Fr w W [(w.heap.size + 1 + 1, 28, #[.int .i64 p, .int .i64 sq]), (w.heap.size + 1, 26, #[.int .i64 b.brk, .int .i64 b.drag, .int .i64 b.drv]), (w.heap.size, 24, #[.string s, .slice A ps.length c])] → Fr w W [(w.heap.size + 1 + 1, 28, #[.int .i64 p, .int .i64 sq]), (w.heap.size + 1, 26, #[.int .i64 b.brk, .int .i64 b.drag, .int .i64 b.drv]), (w.heap.size, 24, #[.string s, .slice A ps.length c])] ∧ W.cell? ⟨w.heap.size, 0, none⟩ = some (.string s) ∧ W.cell? ⟨w.heap.size, 1, none⟩ = some (.slice A ps.length c) ∧ W.cell? ⟨w.heap.size + 1, 0, none⟩ = some (.int .i64 b.brk) ∧ W.cell? ⟨w.heap.size + 1, 1, none⟩ = some (.int .i64 b.drag) ∧ W.cell? ⟨w.heap.size + 1, 2, none⟩ = some (.int .i64 b.drv) ∧ W.cell? ⟨w.heap.size + 1 + 1, 0, none⟩ = some (.int .i64 p) ∧ W.cell? ⟨w.heap.size + 1 + 1, 1, none⟩ = some (.int .i64 sq)) := Lib.hid (fun W hW => ⟨hW, hW.at2.cell 0, hW.at2.cell 1, hW.at1.cell 0, hW.at1.cell 1, hW.at1.cell 2, hW.top.cell 0, hW.top.cell 1⟩)
    have F10 : Fr w w5 [(w.heap.size + 1 + 1, 28, #[.int .i64 p, .int .i64 sq]), (w.heap.size + 1, 26, #[.int .i64 b.brk, .int .i64 b.drag, .int .i64 b.drv]), (w.heap.size, 24, #[.string s, .slice A ps.length c])] := by subst h5; exact F0.out
    clear F0 h5
    refine Tw_start 12 (fun W => Fr w W [(w.heap.size + 1 + 1, 28, #[.int .i64 p, .int .i64 sq]), (w.heap.size + 1, 26, #[.int .i64 b.brk, .int .i64 b.drag, .int .i64 b.drv]), (w.heap.size, 24, #[.string s, .slice A ps.length c])] ∧ W.cell? ⟨w.heap.size, 0, none⟩ = some (.string s) ∧ W.cell? ⟨w.heap.size, 1, none⟩ = some (.slice A ps.length c) ∧ W.cell? ⟨w.heap.size + 1, 0, none⟩ = some (.int .i64 b.brk) ∧ W.cell? ⟨w.heap.size + 1, 1, none⟩ = some (.int .i64 b.drag) ∧ W.cell? ⟨w.heap.size + 1, 2, none⟩ = some (.int .i64 b.drv) ∧ W.cell? ⟨w.heap.size + 1 + 1, 0, none⟩ = some (.int .i64 p) ∧ W.cell? ⟨w.heap.size + 1 + 1, 1, none⟩ = some (.int .i64 sq)) (by kernel_rfl) (by kernel_rfl) rfl ?_ ?_
    · (try dsimp only)
      ((go_split_ands; refine HALL.out _ ?_; (first | assumption | (repeat (first | assumption | refine Fr.new ?_ _ | refine Fr.drew ?_ | (refine Fr.set ?_ (by first | exact Nat.le_refl _ | omega | (simp; done) | (simp; omega)) (by first | (simp; done) | (simp; omega)) _))); done)))
    refine Tw_takeL (i := 0) (v := ?tv65) rfl (by kernel_rfl) (by decide) (by kernel_rfl) (by kernel_rfl) (fun _ _ _ h => h) (by rfl) ?ty65 ?tn65
    case ty65 => (intro w hSw; (try dsimp only at hSw); go_simp <;> with_reducible rfl)
    (try simp only [Act.put, List.setIfInBounds_toArray, List.set_cons_zero, List.set_cons_succ])
    refine Tw_takeL (i := 1) (v := ?tv66) rfl (by kernel_rfl) (by decide) (by kernel_rfl) (by kernel_rfl) (fun _ _ _ h => h) (by rfl) ?ty66 ?tn66
    case ty66 => (intro w hSw; (try dsimp only at hSw); go_simp <;> with_reducible rfl)
    (try simp only [Act.put, List.setIfInBounds_toArray, List.set_cons_zero, List.set_cons_succ])
    refine Tw_takeL (i := 2) (v := ?tv67) rfl (by kernel_rfl) (by decide) (by kernel_rfl) (by kernel_rfl) (fun _ _ _ h => h) (by rfl) ?ty67 ?tn67
    case ty67 => (intro w hSw; (try dsimp only at hSw); go_simp <;> with_reducible rfl)
    (try simp only [Act.put, List.setIfInBounds_toArray, List.set_cons_zero, List.set_cons_succ])
    refine Tw_takeL (i := 3) (v := ?tv68) rfl (by kernel_rfl) (by decide) (by kernel_rfl) (by kernel_rfl) (fun _ _ _ h => h) (by rfl) ?ty68 ?tn68
    case ty68 => (intro w hSw; (try dsimp only at hSw); go_simp <;> with_reducible rfl)
    (try simp only [Act.put, List.setIfInBounds_toArray, List.set_cons_zero, List.set_cons_succ])
    refine Tw_all (rs := [4, 10]) (by kernel_rfl) (by simp) (by decide) (fun hHeld => ?_)
    refine AllT.consL rfl (fun K hK => ?_) (AllT.consL rfl (fun K hK => ?_) (AllT.nil))
    · go_simp
      (go_at_call 40; go_split_ands; (with_reducible refine (errorOfState_any s ps A c (by omega) p sq _).mono ?_); rintro e w7 ⟨rfl, hb7⟩; rw [HS1.out]; have F4 := Fr.call (by assumption) hb7; (first | (have N1 := Lib.hid (Bk.call N1.out hb7)) | skip); (first | (have L1 := Lib.hid (Lies.call L1.out hb7)) | skip); clear hb7)
      refine hK.out _ _ ?_ ?_
      · (try dsimp only)
        ((go_split_ands; refine HALL.out _ ?_; (first | assumption | (repeat (first | assumption | refine Fr.new ?_ _ | refine Fr.drew ?_ | (refine Fr.set ?_ (by first | exact Nat.le_refl _ | omega | (simp; done) | (simp; omega)) (by first | (simp; done) | (simp; omega)) _))); done)))
      clear hK K
      (try simp only [Act.put, List.setIfInBounds_toArray, List.set_cons_zero, List.set_cons_succ])
      refine Tw_all (rs := [5, 10]) (by kernel_rfl) (by simp) (by decide) (fun hHeld => ?_)
      refine AllT.consL rfl (fun K hK => ?_) (AllT.consL rfl (fun K hK => ?_) (AllT.nil))
      · go_simp
        refine hK.out _ _ ?_ ?_
        · (try dsimp only)
          ((go_split_ands; refine HALL.out _ ?_; (first | assumption | (repeat (first | assumption | refine Fr.new ?_ _ | refine Fr.drew ?_ | (refine Fr.set ?_ (by first | exact Nat.le_refl _ | omega | (simp; done) | (simp; omega)) (by first | (simp; done) | (simp; omega)) _))); done)))
        clear hK K
        (try simp only [Act.put, List.setIfInBounds_toArray, List.set_cons_zero, List.set_cons_succ])
        refine Tw_abs ?_
        intro wA70 hA70
        (first | (have N1 := Lib.hid (Bk.over_alloc hA70 N1.out)) | (have N1 := Lib.hid (Bk.over_alloc_drew hA70 N1.out)) | skip)
        (first | (have L1 := Lib.hid (fs_alloc (l := [e1]) hA70 (by simp [maxLen]))) | (have L1 := Lib.hid (fs_drew (l := [e1]) hA70 (by simp [maxLen]))))
        clear hA70
        refine Tw_all (rs := [6, 10]) (by kernel_rfl) (by simp) (by decide) (fun hHeld => ?_)
        refine AllT.consL rfl (fun K hK => ?_) (AllT.consL rfl (fun K hK => ?_) (AllT.nil))
        · go_simp
          (go_at_call 39; go_split_ands; (refine (HCR.out _ _ (Fr.lies HA.out (by assumption)) L1.out).mono ?_); rintro e w7 ⟨rfl, hb7⟩; have F6 := Fr.call (by assumption) hb7; (first | (have N1 := Lib.hid (Bk.call N1.out hb7)) | skip); (first | (have L1 := Lib.hid (Lies.call L1.out hb7)) | skip); clear hb7)
          refine hK.out _ _ ?_ ?_
          · (try dsimp only)
            ((go_split_ands; refine HALL.out _ ?_; (first | assumption | (repeat (first | assumption | refine Fr.new ?_ _ | refine Fr.drew ?_ | (refine Fr.set ?_ (by first | exact Nat.le_refl _ | omega | (simp; done) | (simp; omega)) (by first | (simp; done) | (simp; omega)) _))); done)))
          clear hK K
          (try simp only [Act.put, List.setIfInBounds_toArray, List.set_cons_zero, List.set_cons_succ])
          refine Tw_takeL (i := 7) (v := ?tv69) rfl (by kernel_rfl) (by decide) (by kernel_rfl) (by kernel_rfl) (fun _ _ _ h => h) (by rfl) ?ty69 ?tn69
          case ty69 => (intro w hSw; (try dsimp only at hSw); go_simp <;> with_reducible rfl)
          (try simp only [Act.put, List.setIfInBounds_toArray, List.set_cons_zero, List.set_cons_succ])
          refine Tw_takeL (i := 8) (v := ?tv70) rfl (by kernel_rfl) (by decide) (by kernel_rfl) (by kernel_rfl) (fun _ _ _ h => h) (by rfl) ?ty70 ?tn70
          case ty70 => (intro w hSw; (try dsimp only at hSw); go_simp <;> with_reducible rfl)
          (try simp only [Act.put, List.setIfInBounds_toArray, List.set_cons_zero, List.set_cons_succ])
          refine Tw_takeL (i := 9) (v := ?tv71) rfl (by kernel_rfl) (by decide) (by kernel_rfl) (by kernel_rfl) (fun _ _ _ h => h) (by rfl) ?ty71 ?tn71
          case ty71 => (intro w hSw; (try dsimp only at hSw); go_simp <;> with_reducible rfl)
          (try simp only [Act.put, List.setIfInBounds_toArray, List.set_cons_zero, List.set_cons_succ])
          refine Tw_all (rs := [10]) (by kernel_rfl) (by simp) (by decide) (fun hHeld => ?_)
          refine AllT.consL rfl (fun K hK => ?_) (AllT.nil)
          · go_simp
            refine hK.out _ _ ?_ ?_
            · (try dsimp only)
              ((go_split_ands; refine HALL.out _ ?_; (first | assumption | (repeat (first | assumption | refine Fr.new ?_ _ | refine Fr.drew ?_ | (refine Fr.set ?_ (by first | exact Nat.le_refl _ | omega | (simp; done) | (simp; omega)) (by first | (simp; done) | (simp; omega)) _))); done)))
            clear hK K
            (try simp only [Act.put, List.setIfInBounds_toArray, List.set_cons_zero, List.set_cons_succ])
            refine Tw_abs ?_
            intro wA72 hA72
            (first | (have N1 := Lib.hid (Bk.of_alloc hA72)) | (have N1 := Lib.hid (Bk.of_alloc_drew hA72)))
            have zg := Lib.hid (show w.heap.size + 3 ≤ _ from hHeld.1.top.lt)
            (first | (have L1 := Lib.hid (Lies.alloc hA72 L1.out)) | (have L1 := Lib.hid (Lies.alloc_drew hA72 L1.out)) | skip)
            clear hA72
            refine Tw_all (rs := [11]) (by kernel_rfl) (by simp) (by decide) (fun hHeld => ?_)
            refine AllT.consL rfl (fun K hK => ?_) (AllT.nil)
            · have c0 := N1.out.cell 0
              have c1 := N1.out.cell 1
              have c2 := N1.out.cell 2
              have c3 := N1.out.cell 3
              have c4 := N1.out.cell 4
              have f0 := N1.out.frozen 0
              have f1 := N1.out.frozen 1
              have f2 := N1.out.frozen 2
              have f3 := N1.out.frozen 3
              have f4 := N1.out.frozen 4
              have zN := N1.out.lt
              go_simp
              refine hK.out _ _ ?_ ?_
              · exact HALL.out _ (Fr.off5 (n := 3) hHeld.1 zg.out (by intro b hb; simp only [List.mem_cons, List.not_mem_nil, or_false] at hb; rcases hb with rfl | rfl | rfl <;> (dsimp only; omega)) _ _ _ _ _)
              clear hK K c0 f0 c1 f1 c2 f2 c3 f3 c4 f4 zN
              have N1 := Lib.hid (Bk.set5 N1.out (.string ⟨#[]⟩) (.slice none 0 0) (.int .i64 0) (.int .i64 0) (.int .i64 0))
              (try simp only [Act.put, List.setIfInBounds_toArray, List.set_cons_zero, List.set_cons_succ])
              refine Tw_end (by kernel_rfl) (fun hh => ?_)
              obtain ⟨F11, _⟩ := hh
              clear HALL
              go_wp2_with fail
              go_meet
              exact ⟨_, rfl, rfl, F11.more N1.out⟩
        · go_simp
          refine hK.out _ _ ?_ ?_
          · (try dsimp only)
            ((go_split_ands; refine HALL.out _ ?_; (first | assumption | (repeat (first | assumption | refine Fr.new ?_ _ | refine Fr.drew ?_ | (refine Fr.set ?_ (by first | exact Nat.le_refl _ | omega | (simp; done) | (simp; omega)) (by first | (simp; done) | (simp; omega)) _))); done)))
          clear hK K
          (try simp only [Act.put, List.setIfInBounds_toArray, List.set_cons_zero, List.set_cons_succ])
          refine Tw_abs ?_
          intro wA74 hA74
          (first | (have N1 := Lib.hid (Bk.of_alloc hA74)) | (have N1 := Lib.hid (Bk.of_alloc_drew hA74)))
          have zg := Lib.hid (show w.heap.size + 3 ≤ _ from hHeld.1.top.lt)
          (first | (have L1 := Lib.hid (Lies.alloc hA74 L1.out)) | (have L1 := Lib.hid (Lies.alloc_drew hA74 L1.out)) | skip)
          clear hA74
          refine Tw_all (rs := [6]) (by kernel_rfl) (by simp) (by decide) (fun hHeld => ?_)
          refine AllT.consL rfl (fun K hK => ?_) (AllT.nil)
          · go_simp
            (go_at_call 39; go_split_ands; (refine (HCR.out _ _ (Fr.lies HA.out (by assumption)) L1.out).mono ?_); rintro e w7 ⟨rfl, hb7⟩; have F6 := Fr.call (by assumption) hb7; (first | (have N1 := Lib.hid (Bk.call N1.out hb7)) | skip); (first | (have L1 := Lib.hid (Lies.call L1.out hb7)) | skip); clear hb7)
            refine hK.out _ _ ?_ ?_
            · (try dsimp only)
              ((go_split_ands; refine HALL.out _ ?_; (first | assumption | (repeat (first | assumption | refine Fr.new ?_ _ | refine Fr.drew ?_ | (refine Fr.set ?_ (by first | exact Nat.le_refl _ | omega | (simp; done) | (simp; omega)) (by first | (simp; done) | (simp; omega)) _))); done)))
            clear hK K
            (try simp only [Act.put, List.setIfInBounds_toArray, List.set_cons_zero, List.set_cons_succ])
            refine Tw_takeL (i := 7) (v := ?tv72) rfl (by kernel_rfl) (by decide) (by kernel_rfl) (by kernel_rfl) (fun _ _ _ h => h) (by rfl) ?ty72 ?tn72
            case ty72 => (intro w hSw; (try dsimp only at hSw); go_simp <;> with_reducible rfl)
            (try simp only [Act.put, List.setIfInBounds_toArray, List.set_cons_zero, List.set_cons_succ])
            refine Tw_takeL (i := 8) (v := ?tv73) rfl (by kernel_rfl) (by decide) (by kernel_rfl) (by kernel_rfl) (fun _ _ _ h => h) (by rfl) ?ty73 ?tn73
            case ty73 => (intro w hSw; (try dsimp only at hSw); go_simp <;> with_reducible rfl)
            (try simp only [Act.put, List.setIfInBounds_toArray, List.set_cons_zero, List.set_cons_succ])
            refine Tw_takeL (i := 9) (v := ?tv74) rfl (by kernel_rfl) (by decide) (by kernel_rfl) (by kernel_rfl) (fun _ _ _ h => h) (by rfl) ?ty74 ?tn74
            case ty74 => (intro w hSw; (try dsimp only at hSw); go_simp <;> with_reducible rfl)
            (try simp only [Act.put, List.setIfInBounds_toArray, List.set_cons_zero, List.set_cons_succ])
            refine Tw_all (rs := [11]) (by kernel_rfl) (by simp) (by decide) (fun hHeld => ?_)
            refine AllT.consL rfl (fun K hK => ?_) (AllT.nil)
            · have c0 := N1.out.cell 0
              have c1 := N1.out.cell 1
              have c2 := N1.out.cell 2
              have c3 := N1.out.cell 3
              have c4 := N1.out.cell 4
              have f0 := N1.out.frozen 0
              have f1 := N1.out.frozen 1
              have f2 := N1.out.frozen 2
              have f3 := N1.out.frozen 3
              have f4 := N1.out.frozen 4
              have zN := N1.out.lt
              go_simp
              refine hK.out _ _ ?_ ?_
              · exact HALL.out _ (Fr.off5 (n := 3) hHeld.1 zg.out (by intro b hb; simp only [List.mem_cons, List.not_mem_nil, or_false] at hb; rcases hb with rfl | rfl | rfl <;> (dsimp only; omega)) _ _ _ _ _)
              clear hK K c0 f0 c1 f1 c2 f2 c3 f3 c4 f4 zN
              have N1 := Lib.hid (Bk.set5 N1.out (.string ⟨#[]⟩) (.slice none 0 0) (.int .i64 0) (.int .i64 0) (.int .i64 0))
              (try simp only [Act.put, List.setIfInBounds_toArray, List.set_cons_zero, List.set_cons_succ])
              refine Tw_end (by kernel_rfl) (fun hh => ?_)
              obtain ⟨F11, _⟩ := hh
              clear HALL
              go_wp2_with fail
              go_meet
              exact ⟨_, rfl, rfl, F11.more N1.out⟩
      · go_simp
        refine hK.out _ _ ?_ ?_
        · (try dsimp only)
          ((go_split_ands; refine HALL.out _ ?_; (first | assumption | (repeat (first | assumption | refine Fr.new ?_ _ | refine Fr.drew ?_ | (refine Fr.set ?_ (by first | exact Nat.le_refl _ | omega | (simp; done) | (simp; omega)) (by first | (simp; done) | (simp; omega)) _))); done)))
        clear hK K
        (try simp only [Act.put, List.setIfInBounds_toArray, List.set_cons_zero, List.set_cons_succ])
        refine Tw_abs ?_
        intro wA77 hA77
        (first | (have N1 := Lib.hid (Bk.of_alloc hA77)) | (have N1 := Lib.hid (Bk.of_alloc_drew hA77)))
        have zg := Lib.hid (show w.heap.size + 3 ≤ _ from hHeld.1.top.lt)
        (first | (have L1 := Lib.hid (Lies.alloc hA77 L1.out)) | (have L1 := Lib.hid (Lies.alloc_drew hA77 L1.out)) | skip)
        clear hA77
        refine Tw_all (rs := [5]) (by kernel_rfl) (by simp) (by decide) (fun hHeld => ?_)
        refine AllT.consL rfl (fun K hK => ?_) (AllT.nil)
        · go_simp
          refine hK.out _ _ ?_ ?_
          · (try dsimp only)
            ((go_split_ands; refine HALL.out _ ?_; (first | assumption | (repeat (first | assumption | refine Fr.new ?_ _ | refine Fr.drew ?_ | (refine Fr.set ?_ (by first | exact Nat.le_refl _ | omega | (simp; done) | (simp; omega)) (by first | (simp; done) | (simp; omega)) _))); done)))
          clear hK K
          (try simp only [Act.put, List.setIfInBounds_toArray, List.set_cons_zero, List.set_cons_succ])
          refine Tw_abs ?_
          intro wA78 hA78
          (first | (have N1 := Lib.hid (Bk.over_alloc hA78 N1.out)) | (have N1 := Lib.hid (Bk.over_alloc_drew hA78 N1.out)) | skip)
          (first | (have L1 := Lib.hid (fs_alloc (l := [e1]) hA78 (by simp [maxLen]))) | (have L1 := Lib.hid (fs_drew (l := [e1]) hA78 (by simp [maxLen]))))
          clear hA78
          refine Tw_all (rs := [6]) (by kernel_rfl) (by simp) (by decide) (fun hHeld => ?_)
          refine AllT.consL rfl (fun K hK => ?_) (AllT.nil)
          · go_simp
            (go_at_call 39; go_split_ands; (refine (HCR.out _ _ (Fr.lies HA.out (by assumption)) L1.out).mono ?_); rintro e w7 ⟨rfl, hb7⟩; have F6 := Fr.call (by assumption) hb7; (first | (have N1 := Lib.hid (Bk.call N1.out hb7)) | skip); (first | (have L1 := Lib.hid (Lies.call L1.out hb7)) | skip); clear hb7)
            refine hK.out _ _ ?_ ?_
            · (try dsimp only)
              ((go_split_ands; refine HALL.out _ ?_; (first | assumption | (repeat (first | assumption | refine Fr.new ?_ _ | refine Fr.drew ?_ | (refine Fr.set ?_ (by first | exact Nat.le_refl _ | omega | (simp; done) | (simp; omega)) (by first | (simp; done) | (simp; omega)) _))); done)))
            clear hK K
            (try simp only [Act.put, List.setIfInBounds_toArray, List.set_cons_zero, List.set_cons_succ])
            refine Tw_takeL (i := 7) (v := ?tv75) rfl (by kernel_rfl) (by decide) (by kernel_rfl) (by kernel_rfl) (fun _ _ _ h => h) (by rfl) ?ty75 ?tn75
            case ty75 => (intro w hSw; (try dsimp only at hSw); go_simp <;> with_reducible rfl)
            (try simp only [Act.put, List.setIfInBounds_toArray, List.set_cons_zero, List.set_cons_succ])
            refine Tw_takeL (i := 8) (v := ?tv76) rfl (by kernel_rfl) (by decide) (by kernel_rfl) (by kernel_rfl) (fun _ _ _ h => h) (by rfl) ?ty76 ?tn76
            case ty76 => (intro w hSw; (try dsimp only at hSw); go_simp <;> with_reducible rfl)
            (try simp only [Act.put, List.setIfInBounds_toArray, List.set_cons_zero, List.set_cons_succ])
            refine Tw_takeL (i := 9) (v := ?tv77) rfl (by kernel_rfl) (by decide) (by kernel_rfl) (by kernel_rfl) (fun _ _ _ h => h) (by rfl) ?ty77 ?tn77
            case ty77 => (intro w hSw; (try dsimp only at hSw); go_simp <;> with_reducible rfl)
            (try simp only [Act.put, List.setIfInBounds_toArray, List.set_cons_zero, List.set_cons_succ])
            refine Tw_all (rs := [11]) (by kernel_rfl) (by simp) (by decide) (fun hHeld => ?_)
            refine AllT.consL rfl (fun K hK => ?_) (AllT.nil)
            · have c0 := N1.out.cell 0
              have c1 := N1.out.cell 1
              have c2 := N1.out.cell 2
              have c3 := N1.out.cell 3
              have c4 := N1.out.cell 4
              have f0 := N1.out.frozen 0
              have f1 := N1.out.frozen 1
              have f2 := N1.out.frozen 2
              have f3 := N1.out.frozen 3
              have f4 := N1.out.frozen 4
              have zN := N1.out.lt
              go_simp
              refine hK.out _ _ ?_ ?_
              · exact HALL.out _ (Fr.off5 (n := 3) hHeld.1 zg.out (by intro b hb; simp only [List.mem_cons, List.not_mem_nil, or_false] at hb; rcases hb with rfl | rfl | rfl <;> (dsimp only; omega)) _ _ _ _ _)
              clear hK K c0 f0 c1 f1 c2 f2 c3 f3 c4 f4 zN
              have N1 := Lib.hid (Bk.set5 N1.out (.string ⟨#[]⟩) (.slice none 0 0) (.int .i64 0) (.int .i64 0) (.int .i64 0))
              (try simp only [Act.put, List.setIfInBounds_toArray, List.set_cons_zero, List.set_cons_succ])
              refine Tw_end (by kernel_rfl) (fun hh => ?_)
              obtain ⟨F11, _⟩ := hh
              clear HALL
              go_wp2_with fail
              go_meet
              exact ⟨_, rfl, rfl, F11.more N1.out⟩
    · go_simp
      refine hK.out _ _ ?_ ?_
      · (try dsimp only)
        ((go_split_ands; refine HALL.out _ ?_; (first | assumption | (repeat (first | assumption | refine Fr.new ?_ _ | refine Fr.drew ?_ | (refine Fr.set ?_ (by first | exact Nat.le_refl _ | omega | (simp; done) | (simp; omega)) (by first | (simp; done) | (simp; omega)) _))); done)))
      clear hK K
      (try simp only [Act.put, List.setIfInBounds_toArray, List.set_cons_zero, List.set_cons_succ])
      refine Tw_abs ?_
      intro wA81 hA81
      (first | (have N1 := Lib.hid (Bk.of_alloc hA81)) | (have N1 := Lib.hid (Bk.of_alloc_drew hA81)))
      have zg := Lib.hid (show w.heap.size + 3 ≤ _ from hHeld.1.top.lt)
      (first | (have L1 := Lib.hid (Lies.alloc hA81 L1.out)) | (have L1 := Lib.hid (Lies.alloc_drew hA81 L1.out)) | skip)
      clear hA81
      refine Tw_all (rs := [4]) (by kernel_rfl) (by simp) (by decide) (fun hHeld => ?_)
      refine AllT.consL rfl (fun K hK => ?_) (AllT.nil)
      · go_simp
        (go_at_call 40; go_split_ands; (with_reducible refine (errorOfState_any s ps A c (by omega) p sq _).mono ?_); rintro e w7 ⟨rfl, hb7⟩; rw [HS1.out]; have F4 := Fr.call (by assumption) hb7; (first | (have N1 := Lib.hid (Bk.call N1.out hb7)) | skip); (first | (have L1 := Lib.hid (Lies.call L1.out hb7)) | skip); clear hb7)
        refine hK.out _ _ ?_ ?_
        · (try dsimp only)
          ((go_split_ands; refine HALL.out _ ?_; (first | assumption | (repeat (first | assumption | refine Fr.new ?_ _ | refine Fr.drew ?_ | (refine Fr.set ?_ (by first | exact Nat.le_refl _ | omega | (simp; done) | (simp; omega)) (by first | (simp; done) | (simp; omega)) _))); done)))
        clear hK K
        (try simp only [Act.put, List.setIfInBounds_toArray, List.set_cons_zero, List.set_cons_succ])
        refine Tw_all (rs := [5]) (by kernel_rfl) (by simp) (by decide) (fun hHeld => ?_)
        refine AllT.consL rfl (fun K hK => ?_) (AllT.nil)
        · go_simp
          refine hK.out _ _ ?_ ?_
          · (try dsimp only)
            ((go_split_ands; refine HALL.out _ ?_; (first | assumption | (repeat (first | assumption | refine Fr.new ?_ _ | refine Fr.drew ?_ | (refine Fr.set ?_ (by first | exact Nat.le_refl _ | omega | (simp; done) | (simp; omega)) (by first | (simp; done) | (simp; omega)) _))); done)))
          clear hK K
          (try simp only [Act.put, List.setIfInBounds_toArray, List.set_cons_zero, List.set_cons_succ])
          refine Tw_abs ?_
          intro wA83 hA83
          (first | (have N1 := Lib.hid (Bk.over_alloc hA83 N1.out)) | (have N1 := Lib.hid (Bk.over_alloc_drew hA83 N1.out)) | skip)
          (first | (have L1 := Lib.hid (fs_alloc (l := [e1]) hA83 (by simp [maxLen]))) | (have L1 := Lib.hid (fs_drew (l := [e1]) hA83 (by simp [maxLen]))))
          clear hA83
          refine Tw_all (rs := [6]) (by kernel_rfl) (by simp) (by decide) (fun hHeld => ?_)
          refine AllT.consL rfl (fun K hK => ?_) (AllT.nil)
          · go_simp
            (go_at_call 39; go_split_ands; (refine (HCR.out _ _ (Fr.lies HA.out (by assumption)) L1.out).mono ?_); rintro e w7 ⟨rfl, hb7⟩; have F6 := Fr.call (by assumption) hb7; (first | (have N1 := Lib.hid (Bk.call N1.out hb7)) | skip); (first | (have L1 := Lib.hid (Lies.call L1.out hb7)) | skip); clear hb7)
            refine hK.out _ _ ?_ ?_
            · (try dsimp only)
              ((go_split_ands; refine HALL.out _ ?_; (first | assumption | (repeat (first | assumption | refine Fr.new ?_ _ | refine Fr.drew ?_ | (refine Fr.set ?_ (by first | exact Nat.le_refl _ | omega | (simp; done) | (simp; omega)) (by first | (simp; done) | (simp; omega)) _))); done)))
            clear hK K
            (try simp only [Act.put, List.setIfInBounds_toArray, List.set_cons_zero, List.set_cons_succ])
            refine Tw_takeL (i := 7) (v := ?tv78) rfl (by kernel_rfl) (by decide) (by kernel_rfl) (by kernel_rfl) (fun _ _ _ h => h) (by rfl) ?ty78 ?tn78
            case ty78 => (intro w hSw; (try dsimp only at hSw); go_simp <;> with_reducible rfl)
            (try simp only [Act.put, List.setIfInBounds_toArray, List.set_cons_zero, List.set_cons_succ])
            refine Tw_takeL (i := 8) (v := ?tv79) rfl (by kernel_rfl) (by decide) (by kernel_rfl) (by kernel_rfl) (fun _ _ _ h => h) (by rfl) ?ty79 ?tn79
            case ty79 => (intro w hSw; (try dsimp only at hSw); go_simp <;> with_reducible rfl)
            (try simp only [Act.put, List.setIfInBounds_toArray, List.set_cons_zero, List.set_cons_succ])
            refine Tw_takeL (i := 9) (v := ?tv80) rfl (by kernel_rfl) (by decide) (by kernel_rfl) (by kernel_rfl) (fun _ _ _ h => h) (by rfl) ?ty80 ?tn80
            case ty80 => (intro w hSw; (try dsimp only at hSw); go_simp <;> with_reducible rfl)
            (try simp only [Act.put, List.setIfInBounds_toArray, List.set_cons_zero, List.set_cons_succ])
            refine Tw_all (rs := [11]) (by kernel_rfl) (by simp) (by decide) (fun hHeld => ?_)
            refine AllT.consL rfl (fun K hK => ?_) (AllT.nil)
            · have c0 := N1.out.cell 0
              have c1 := N1.out.cell 1
              have c2 := N1.out.cell 2
              have c3 := N1.out.cell 3
              have c4 := N1.out.cell 4
              have f0 := N1.out.frozen 0
              have f1 := N1.out.frozen 1
              have f2 := N1.out.frozen 2
              have f3 := N1.out.frozen 3
              have f4 := N1.out.frozen 4
              have zN := N1.out.lt
              go_simp
              refine hK.out _ _ ?_ ?_
              · exact HALL.out _ (Fr.off5 (n := 3) hHeld.1 zg.out (by intro b hb; simp only [List.mem_cons, List.not_mem_nil, or_false] at hb; rcases hb with rfl | rfl | rfl <;> (dsimp only; omega)) _ _ _ _ _)
              clear hK K c0 f0 c1 f1 c2 f2 c3 f3 c4 f4 zN
              have N1 := Lib.hid (Bk.set5 N1.out (.string ⟨#[]⟩) (.slice none 0 0) (.int .i64 0) (.int .i64 0) (.int .i64 0))
              (try simp only [Act.put, List.setIfInBounds_toArray, List.set_cons_zero, List.set_cons_succ])
              refine Tw_end (by kernel_rfl) (fun hh => ?_)
              obtain ⟨F11, _⟩ := hh
              clear HALL
              go_wp2_with fail
              go_meet
              exact ⟨_, rfl, rfl, F11.more N1.out⟩
  case rest =>
    obtain ⟨wx, rfl⟩ : ∃ W, W = wc := ⟨_, rfl⟩
    obtain ⟨g, rfl, rfl, hx⟩ := hcut
    have FC := Lib.hid hx
    clear hx F0
    go_wp2_with fail
    exact nopan_ret (v := .tuple #[.slice none 0 0, .int .i64 er]) (by simp [results, Try.results9, go_sem]) rfl ⟨rfl, FC.out.bl⟩

set_option maxHeartbeats 8000000 in
set_option maxRecDepth 100000 in
theorem StopsOf_ok (s : ByteArray) (hs : s.size ≤ maxLen) (ps : List Bp) (a : Addr) (c : Nat) (hl : ps.length ≤ 1000) (b : Bs) (hok : OkT s ps) (hb : OkS b) (hsb : sE b = 0) (p : Nat) (hp : p ≤ ps.length) (sq : Int) (hq : 0 ≤ sq ∧ sq ≤ 20000000000) (w : World) (hA : Lies w w.heap.size (some a) (ps.flatMap pc)) :
    Calls Try.prog 9 #[.agg #[.string s, .slice (some a) ps.length c], .agg #[.int .i64 b.brk, .int .i64 b.drag, .int .i64 b.drv], .agg #[.int .i64 (p : Int), .int .i64 sq]] w fun e w' => ∃ g : Hd, e = .returned (.tuple #[.slice g.A (stV ps b p sq ps.length).length g.c, .int .i64 0]) ∧ Lies w' w'.heap.size g.A (ic (stV ps b p sq ps.length)) ∧ Below w.heap.size w w' := by
  have hlm : ps.length ≤ maxLen := by unfold maxLen; omega
  have F0 := Lib.hid (Fr.b3 w 24 #[.string s, .slice (some a) ps.length c] 26 #[.int .i64 b.brk, .int .i64 b.drag, .int .i64 b.drv] 28 #[.int .i64 (p : Int), .int .i64 sq])
  have HA := Lib.hid hA
  have HOK := Lib.hid hok
  have HB := Lib.hid hb
  have HQ := Lib.hid hq
  have h12 := hok.n12
  obtain ⟨e1, h1⟩ : ∃ e1, stateE ps (p : Int) sq = e1 := ⟨_, rfl⟩
  have g1 : e1 = 0 := by rw [← h1]; unfold stateE; rw [if_neg (by rw [inB_iff.2 (by omega)]; simp), if_pos (inB_iff.2 hq)]
  have HN : nz ((trE s ps).2 :: sE b :: [e1]) = 0 := by rw [trE_ok hok, hsb, g1]; rfl
  have HCR : Hid (∀ (fa : Addr) (W : World), Lies W W.heap.size (some a) (ps.flatMap pc) → Lies W W.heap.size (some fa) (ic [e1]) → Calls Try.prog 39 #[.agg #[.string s, .slice (some a) ps.length c], .agg #[.int .i64 b.brk, .int .i64 b.drag, .int .i64 b.drv], .slice (some fa) 1 1] W fun e w' => e = .returned (.tuple #[.agg #[.string s, .slice (some a) ps.length c, .int .i64 b.brk, .int .i64 b.drag, .int .i64 b.drv], .int .i64 0]) ∧ Below W.heap.size W w') := Lib.hid (fun fa W h1 h2 => checkRide_ok s hs ps (some a) c hlm b [e1] fa 1 (by simp) (by simp) HN W h1 h2)
  have HS1 := Lib.hid h1
  clear hA h1 HN g1 hok hb hsb hq
  refine (callsIn_wide (n := 12)).1 ?_
  refine callsIn_of_wp_marks Try.func9 rfl trivial ?_ rfl
  simp only [Try.ntmps9, List.size_toArray, List.length_cons, List.length_nil, Nat.reduceAdd, Nat.reduceSub, Array.replicate_succ, Array.replicate_zero, List.push_toArray, List.append_toArray, List.nil_append, List.cons_append]
  refine wpIn_wide.2 ?_
  refine wp_mono ?_ nopan_to
  go_upto_region 1 with fail
  go_cut [8, 9] from 8 to 21 (fun pv rv W => ∃ g : Nat, pv = .pointer (some ⟨g, 0, none⟩) ∧ rv = .int .i64 0 ∧ Fr w W ((g, 77, #[.string s, .slice (some a) ps.length c, .int .i64 b.brk, .int .i64 b.drag, .int .i64 b.drv]) :: [(w.heap.size + 1 + 1, 28, #[.int .i64 (p : Int), .int .i64 sq]), (w.heap.size + 1, 26, #[.int .i64 b.brk, .int .i64 b.drag, .int .i64 b.drv]), (w.heap.size, 24, #[.string s, .slice (some a) ps.length c])]))
  case first =>
    refine wp_abs ?_
    intro w5 h5
    have HALL : Hid (∀ W, Fr w W [(w.heap.size + 1 + 1, 28, #[.int .i64 (p : Int), .int .i64 sq]), (w.heap.size + 1, 26, #[.int .i64 b.brk, .int .i64 b.drag, .int .i64 b.drv]), (w.heap.size, 24, #[.string s, .slice (some a) ps.length c])] → Fr w W [(w.heap.size + 1 + 1, 28, #[.int .i64 (p : Int), .int .i64 sq]), (w.heap.size + 1, 26, #[.int .i64 b.brk, .int .i64 b.drag, .int .i64 b.drv]), (w.heap.size, 24, #[.string s, .slice (some a) ps.length c])] ∧ W.cell? ⟨w.heap.size, 0, none⟩ = some (.string s) ∧ W.cell? ⟨w.heap.size, 1, none⟩ = some (.slice (some a) ps.length c) ∧ W.cell? ⟨w.heap.size + 1, 0, none⟩ = some (.int .i64 b.brk) ∧ W.cell? ⟨w.heap.size + 1, 1, none⟩ = some (.int .i64 b.drag) ∧ W.cell? ⟨w.heap.size + 1, 2, none⟩ = some (.int .i64 b.drv) ∧ W.cell? ⟨w.heap.size + 1 + 1, 0, none⟩ = some (.int .i64 (p : Int)) ∧ W.cell? ⟨w.heap.size + 1 + 1, 1, none⟩ = some (.int .i64 sq)) := Lib.hid (fun W hW => ⟨hW, hW.at2.cell 0, hW.at2.cell 1, hW.at1.cell 0, hW.at1.cell 1, hW.at1.cell 2, hW.top.cell 0, hW.top.cell 1⟩)
    have F10 : Fr w w5 [(w.heap.size + 1 + 1, 28, #[.int .i64 (p : Int), .int .i64 sq]), (w.heap.size + 1, 26, #[.int .i64 b.brk, .int .i64 b.drag, .int .i64 b.drv]), (w.heap.size, 24, #[.string s, .slice (some a) ps.length c])] := by subst h5; exact F0.out
    clear F0 h5
    refine Tw_start 12 (fun W => Fr w W [(w.heap.size + 1 + 1, 28, #[.int .i64 (p : Int), .int .i64 sq]), (w.heap.size + 1, 26, #[.int .i64 b.brk, .int .i64 b.drag, .int .i64 b.drv]), (w.heap.size, 24, #[.string s, .slice (some a) ps.length c])] ∧ W.cell? ⟨w.heap.size, 0, none⟩ = some (.string s) ∧ W.cell? ⟨w.heap.size, 1, none⟩ = some (.slice (some a) ps.length c) ∧ W.cell? ⟨w.heap.size + 1, 0, none⟩ = some (.int .i64 b.brk) ∧ W.cell? ⟨w.heap.size + 1, 1, none⟩ = some (.int .i64 b.drag) ∧ W.cell? ⟨w.heap.size + 1, 2, none⟩ = some (.int .i64 b.drv) ∧ W.cell? ⟨w.heap.size + 1 + 1, 0, none⟩ = some (.int .i64 (p : Int)) ∧ W.cell? ⟨w.heap.size + 1 + 1, 1, none⟩ = some (.int .i64 sq)) (by kernel_rfl) (by kernel_rfl) rfl ?_ ?_
    · (try dsimp only)
      ((go_split_ands; refine HALL.out _ ?_; (first | assumption | (repeat (first | assumption | refine Fr.new ?_ _ | refine Fr.drew ?_ | (refine Fr.set ?_ (by first | exact Nat.le_refl _ | omega | (simp; done) | (simp; omega)) (by first | (simp; done) | (simp; omega)) _))); done)))
    refine Tw_takeL (i := 0) (v := ?tv81) rfl (by kernel_rfl) (by decide) (by kernel_rfl) (by kernel_rfl) (fun _ _ _ h => h) (by rfl) ?ty81 ?tn81
    case ty81 => (intro w hSw; (try dsimp only at hSw); go_simp <;> with_reducible rfl)
    (try simp only [Act.put, List.setIfInBounds_toArray, List.set_cons_zero, List.set_cons_succ])
    refine Tw_takeL (i := 1) (v := ?tv82) rfl (by kernel_rfl) (by decide) (by kernel_rfl) (by kernel_rfl) (fun _ _ _ h => h) (by rfl) ?ty82 ?tn82
    case ty82 => (intro w hSw; (try dsimp only at hSw); go_simp <;> with_reducible rfl)
    (try simp only [Act.put, List.setIfInBounds_toArray, List.set_cons_zero, List.set_cons_succ])
    refine Tw_takeL (i := 2) (v := ?tv83) rfl (by kernel_rfl) (by decide) (by kernel_rfl) (by kernel_rfl) (fun _ _ _ h => h) (by rfl) ?ty83 ?tn83
    case ty83 => (intro w hSw; (try dsimp only at hSw); go_simp <;> with_reducible rfl)
    (try simp only [Act.put, List.setIfInBounds_toArray, List.set_cons_zero, List.set_cons_succ])
    refine Tw_takeL (i := 3) (v := ?tv84) rfl (by kernel_rfl) (by decide) (by kernel_rfl) (by kernel_rfl) (fun _ _ _ h => h) (by rfl) ?ty84 ?tn84
    case ty84 => (intro w hSw; (try dsimp only at hSw); go_simp <;> with_reducible rfl)
    (try simp only [Act.put, List.setIfInBounds_toArray, List.set_cons_zero, List.set_cons_succ])
    refine Tw_all (rs := [4, 10]) (by kernel_rfl) (by simp) (by decide) (fun hHeld => ?_)
    refine AllT.consL rfl (fun K hK => ?_) (AllT.consL rfl (fun K hK => ?_) (AllT.nil))
    · go_simp
      (go_at_call 40; go_split_ands; (with_reducible refine (errorOfState_any s ps (some a) c (by omega) (p : Int) sq _).mono ?_); rintro e w7 ⟨rfl, hb7⟩; rw [HS1.out]; have F4 := Fr.call (by assumption) hb7; (first | (have N1 := Lib.hid (Bk.call N1.out hb7)) | skip); (first | (have L1 := Lib.hid (Lies.call L1.out hb7)) | skip); clear hb7)
      refine hK.out _ _ ?_ ?_
      · (try dsimp only)
        ((go_split_ands; refine HALL.out _ ?_; (first | assumption | (repeat (first | assumption | refine Fr.new ?_ _ | refine Fr.drew ?_ | (refine Fr.set ?_ (by first | exact Nat.le_refl _ | omega | (simp; done) | (simp; omega)) (by first | (simp; done) | (simp; omega)) _))); done)))
      clear hK K
      (try simp only [Act.put, List.setIfInBounds_toArray, List.set_cons_zero, List.set_cons_succ])
      refine Tw_all (rs := [5, 10]) (by kernel_rfl) (by simp) (by decide) (fun hHeld => ?_)
      refine AllT.consL rfl (fun K hK => ?_) (AllT.consL rfl (fun K hK => ?_) (AllT.nil))
      · go_simp
        refine hK.out _ _ ?_ ?_
        · (try dsimp only)
          ((go_split_ands; refine HALL.out _ ?_; (first | assumption | (repeat (first | assumption | refine Fr.new ?_ _ | refine Fr.drew ?_ | (refine Fr.set ?_ (by first | exact Nat.le_refl _ | omega | (simp; done) | (simp; omega)) (by first | (simp; done) | (simp; omega)) _))); done)))
        clear hK K
        (try simp only [Act.put, List.setIfInBounds_toArray, List.set_cons_zero, List.set_cons_succ])
        refine Tw_abs ?_
        intro wA87 hA87
        (first | (have N1 := Lib.hid (Bk.over_alloc hA87 N1.out)) | (have N1 := Lib.hid (Bk.over_alloc_drew hA87 N1.out)) | skip)
        (first | (have L1 := Lib.hid (fs_alloc (l := [e1]) hA87 (by simp [maxLen]))) | (have L1 := Lib.hid (fs_drew (l := [e1]) hA87 (by simp [maxLen]))))
        clear hA87
        refine Tw_all (rs := [6, 10]) (by kernel_rfl) (by simp) (by decide) (fun hHeld => ?_)
        refine AllT.consL rfl (fun K hK => ?_) (AllT.consL rfl (fun K hK => ?_) (AllT.nil))
        · go_simp
          (go_at_call 39; go_split_ands; (refine (HCR.out _ _ (Fr.lies HA.out (by assumption)) L1.out).mono ?_); rintro e w7 ⟨rfl, hb7⟩; have F6 := Fr.call (by assumption) hb7; (first | (have N1 := Lib.hid (Bk.call N1.out hb7)) | skip); (first | (have L1 := Lib.hid (Lies.call L1.out hb7)) | skip); clear hb7)
          refine hK.out _ _ ?_ ?_
          · (try dsimp only)
            ((go_split_ands; refine HALL.out _ ?_; (first | assumption | (repeat (first | assumption | refine Fr.new ?_ _ | refine Fr.drew ?_ | (refine Fr.set ?_ (by first | exact Nat.le_refl _ | omega | (simp; done) | (simp; omega)) (by first | (simp; done) | (simp; omega)) _))); done)))
          clear hK K
          (try simp only [Act.put, List.setIfInBounds_toArray, List.set_cons_zero, List.set_cons_succ])
          refine Tw_takeL (i := 7) (v := ?tv85) rfl (by kernel_rfl) (by decide) (by kernel_rfl) (by kernel_rfl) (fun _ _ _ h => h) (by rfl) ?ty85 ?tn85
          case ty85 => (intro w hSw; (try dsimp only at hSw); go_simp <;> with_reducible rfl)
          (try simp only [Act.put, List.setIfInBounds_toArray, List.set_cons_zero, List.set_cons_succ])
          refine Tw_takeL (i := 8) (v := ?tv86) rfl (by kernel_rfl) (by decide) (by kernel_rfl) (by kernel_rfl) (fun _ _ _ h => h) (by rfl) ?ty86 ?tn86
          case ty86 => (intro w hSw; (try dsimp only at hSw); go_simp <;> with_reducible rfl)
          (try simp only [Act.put, List.setIfInBounds_toArray, List.set_cons_zero, List.set_cons_succ])
          refine Tw_takeL (i := 9) (v := ?tv87) rfl (by kernel_rfl) (by decide) (by kernel_rfl) (by kernel_rfl) (fun _ _ _ h => h) (by rfl) ?ty87 ?tn87
          case ty87 => (intro w hSw; (try dsimp only at hSw); go_simp <;> with_reducible rfl)
          (try simp only [Act.put, List.setIfInBounds_toArray, List.set_cons_zero, List.set_cons_succ])
          refine Tw_all (rs := [10]) (by kernel_rfl) (by simp) (by decide) (fun hHeld => ?_)
          refine AllT.consL rfl (fun K hK => ?_) (AllT.nil)
          · go_simp
            refine hK.out _ _ ?_ ?_
            · (try dsimp only)
              ((go_split_ands; refine HALL.out _ ?_; (first | assumption | (repeat (first | assumption | refine Fr.new ?_ _ | refine Fr.drew ?_ | (refine Fr.set ?_ (by first | exact Nat.le_refl _ | omega | (simp; done) | (simp; omega)) (by first | (simp; done) | (simp; omega)) _))); done)))
            clear hK K
            (try simp only [Act.put, List.setIfInBounds_toArray, List.set_cons_zero, List.set_cons_succ])
            refine Tw_abs ?_
            intro wA89 hA89
            (first | (have N1 := Lib.hid (Bk.of_alloc hA89)) | (have N1 := Lib.hid (Bk.of_alloc_drew hA89)))
            have zg := Lib.hid (show w.heap.size + 3 ≤ _ from hHeld.1.top.lt)
            (first | (have L1 := Lib.hid (Lies.alloc hA89 L1.out)) | (have L1 := Lib.hid (Lies.alloc_drew hA89 L1.out)) | skip)
            clear hA89
            refine Tw_all (rs := [11]) (by kernel_rfl) (by simp) (by decide) (fun hHeld => ?_)
            refine AllT.consL rfl (fun K hK => ?_) (AllT.nil)
            · have c0 := N1.out.cell 0
              have c1 := N1.out.cell 1
              have c2 := N1.out.cell 2
              have c3 := N1.out.cell 3
              have c4 := N1.out.cell 4
              have f0 := N1.out.frozen 0
              have f1 := N1.out.frozen 1
              have f2 := N1.out.frozen 2
              have f3 := N1.out.frozen 3
              have f4 := N1.out.frozen 4
              have zN := N1.out.lt
              go_simp
              refine hK.out _ _ ?_ ?_
              · exact HALL.out _ (Fr.off5 (n := 3) hHeld.1 zg.out (by intro b hb; simp only [List.mem_cons, List.not_mem_nil, or_false] at hb; rcases hb with rfl | rfl | rfl <;> (dsimp only; omega)) _ _ _ _ _)
              clear hK K c0 f0 c1 f1 c2 f2 c3 f3 c4 f4 zN
              have N1 := Lib.hid (Bk.set5 N1.out (.string s) (.slice (some a) ps.length c) (.int .i64 b.brk) (.int .i64 b.drag) (.int .i64 b.drv))
              (try simp only [Act.put, List.setIfInBounds_toArray, List.set_cons_zero, List.set_cons_succ])
              refine Tw_end (by kernel_rfl) (fun hh => ?_)
              obtain ⟨F11, _⟩ := hh
              clear HALL
              go_wp2_with fail
              go_meet
              exact ⟨_, rfl, rfl, F11.more N1.out⟩
        · go_simp
          refine hK.out _ _ ?_ ?_
          · (try dsimp only)
            ((go_split_ands; refine HALL.out _ ?_; (first | assumption | (repeat (first | assumption | refine Fr.new ?_ _ | refine Fr.drew ?_ | (refine Fr.set ?_ (by first | exact Nat.le_refl _ | omega | (simp; done) | (simp; omega)) (by first | (simp; done) | (simp; omega)) _))); done)))
          clear hK K
          (try simp only [Act.put, List.setIfInBounds_toArray, List.set_cons_zero, List.set_cons_succ])
          refine Tw_abs ?_
          intro wA91 hA91
          (first | (have N1 := Lib.hid (Bk.of_alloc hA91)) | (have N1 := Lib.hid (Bk.of_alloc_drew hA91)))
          have zg := Lib.hid (show w.heap.size + 3 ≤ _ from hHeld.1.top.lt)
          (first | (have L1 := Lib.hid (Lies.alloc hA91 L1.out)) | (have L1 := Lib.hid (Lies.alloc_drew hA91 L1.out)) | skip)
          clear hA91
          refine Tw_all (rs := [6]) (by kernel_rfl) (by simp) (by decide) (fun hHeld => ?_)
          refine AllT.consL rfl (fun K hK => ?_) (AllT.nil)
          · go_simp
            (go_at_call 39; go_split_ands; (refine (HCR.out _ _ (Fr.lies HA.out (by assumption)) L1.out).mono ?_); rintro e w7 ⟨rfl, hb7⟩; have F6 := Fr.call (by assumption) hb7; (first | (have N1 := Lib.hid (Bk.call N1.out hb7)) | skip); (first | (have L1 := Lib.hid (Lies.call L1.out hb7)) | skip); clear hb7)
            refine hK.out _ _ ?_ ?_
            · (try dsimp only)
              ((go_split_ands; refine HALL.out _ ?_; (first | assumption | (repeat (first | assumption | refine Fr.new ?_ _ | refine Fr.drew ?_ | (refine Fr.set ?_ (by first | exact Nat.le_refl _ | omega | (simp; done) | (simp; omega)) (by first | (simp; done) | (simp; omega)) _))); done)))
            clear hK K
            (try simp only [Act.put, List.setIfInBounds_toArray, List.set_cons_zero, List.set_cons_succ])
            refine Tw_takeL (i := 7) (v := ?tv88) rfl (by kernel_rfl) (by decide) (by kernel_rfl) (by kernel_rfl) (fun _ _ _ h => h) (by rfl) ?ty88 ?tn88
            case ty88 => (intro w hSw; (try dsimp only at hSw); go_simp <;> with_reducible rfl)
            (try simp only [Act.put, List.setIfInBounds_toArray, List.set_cons_zero, List.set_cons_succ])
            refine Tw_takeL (i := 8) (v := ?tv89) rfl (by kernel_rfl) (by decide) (by kernel_rfl) (by kernel_rfl) (fun _ _ _ h => h) (by rfl) ?ty89 ?tn89
            case ty89 => (intro w hSw; (try dsimp only at hSw); go_simp <;> with_reducible rfl)
            (try simp only [Act.put, List.setIfInBounds_toArray, List.set_cons_zero, List.set_cons_succ])
            refine Tw_takeL (i := 9) (v := ?tv90) rfl (by kernel_rfl) (by decide) (by kernel_rfl) (by kernel_rfl) (fun _ _ _ h => h) (by rfl) ?ty90 ?tn90
            case ty90 => (intro w hSw; (try dsimp only at hSw); go_simp <;> with_reducible rfl)
            (try simp only [Act.put, List.setIfInBounds_toArray, List.set_cons_zero, List.set_cons_succ])
            refine Tw_all (rs := [11]) (by kernel_rfl) (by simp) (by decide) (fun hHeld => ?_)
            refine AllT.consL rfl (fun K hK => ?_) (AllT.nil)
            · have c0 := N1.out.cell 0
              have c1 := N1.out.cell 1
              have c2 := N1.out.cell 2
              have c3 := N1.out.cell 3
              have c4 := N1.out.cell 4
              have f0 := N1.out.frozen 0
              have f1 := N1.out.frozen 1
              have f2 := N1.out.frozen 2
              have f3 := N1.out.frozen 3
              have f4 := N1.out.frozen 4
              have zN := N1.out.lt
              go_simp
              refine hK.out _ _ ?_ ?_
              · exact HALL.out _ (Fr.off5 (n := 3) hHeld.1 zg.out (by intro b hb; simp only [List.mem_cons, List.not_mem_nil, or_false] at hb; rcases hb with rfl | rfl | rfl <;> (dsimp only; omega)) _ _ _ _ _)
              clear hK K c0 f0 c1 f1 c2 f2 c3 f3 c4 f4 zN
              have N1 := Lib.hid (Bk.set5 N1.out (.string s) (.slice (some a) ps.length c) (.int .i64 b.brk) (.int .i64 b.drag) (.int .i64 b.drv))
              (try simp only [Act.put, List.setIfInBounds_toArray, List.set_cons_zero, List.set_cons_succ])
              refine Tw_end (by kernel_rfl) (fun hh => ?_)
              obtain ⟨F11, _⟩ := hh
              clear HALL
              go_wp2_with fail
              go_meet
              exact ⟨_, rfl, rfl, F11.more N1.out⟩
      · go_simp
        refine hK.out _ _ ?_ ?_
        · (try dsimp only)
          ((go_split_ands; refine HALL.out _ ?_; (first | assumption | (repeat (first | assumption | refine Fr.new ?_ _ | refine Fr.drew ?_ | (refine Fr.set ?_ (by first | exact Nat.le_refl _ | omega | (simp; done) | (simp; omega)) (by first | (simp; done) | (simp; omega)) _))); done)))
        clear hK K
        (try simp only [Act.put, List.setIfInBounds_toArray, List.set_cons_zero, List.set_cons_succ])
        refine Tw_abs ?_
        intro wA94 hA94
        (first | (have N1 := Lib.hid (Bk.of_alloc hA94)) | (have N1 := Lib.hid (Bk.of_alloc_drew hA94)))
        have zg := Lib.hid (show w.heap.size + 3 ≤ _ from hHeld.1.top.lt)
        (first | (have L1 := Lib.hid (Lies.alloc hA94 L1.out)) | (have L1 := Lib.hid (Lies.alloc_drew hA94 L1.out)) | skip)
        clear hA94
        refine Tw_all (rs := [5]) (by kernel_rfl) (by simp) (by decide) (fun hHeld => ?_)
        refine AllT.consL rfl (fun K hK => ?_) (AllT.nil)
        · go_simp
          refine hK.out _ _ ?_ ?_
          · (try dsimp only)
            ((go_split_ands; refine HALL.out _ ?_; (first | assumption | (repeat (first | assumption | refine Fr.new ?_ _ | refine Fr.drew ?_ | (refine Fr.set ?_ (by first | exact Nat.le_refl _ | omega | (simp; done) | (simp; omega)) (by first | (simp; done) | (simp; omega)) _))); done)))
          clear hK K
          (try simp only [Act.put, List.setIfInBounds_toArray, List.set_cons_zero, List.set_cons_succ])
          refine Tw_abs ?_
          intro wA95 hA95
          (first | (have N1 := Lib.hid (Bk.over_alloc hA95 N1.out)) | (have N1 := Lib.hid (Bk.over_alloc_drew hA95 N1.out)) | skip)
          (first | (have L1 := Lib.hid (fs_alloc (l := [e1]) hA95 (by simp [maxLen]))) | (have L1 := Lib.hid (fs_drew (l := [e1]) hA95 (by simp [maxLen]))))
          clear hA95
          refine Tw_all (rs := [6]) (by kernel_rfl) (by simp) (by decide) (fun hHeld => ?_)
          refine AllT.consL rfl (fun K hK => ?_) (AllT.nil)
          · go_simp
            (go_at_call 39; go_split_ands; (refine (HCR.out _ _ (Fr.lies HA.out (by assumption)) L1.out).mono ?_); rintro e w7 ⟨rfl, hb7⟩; have F6 := Fr.call (by assumption) hb7; (first | (have N1 := Lib.hid (Bk.call N1.out hb7)) | skip); (first | (have L1 := Lib.hid (Lies.call L1.out hb7)) | skip); clear hb7)
            refine hK.out _ _ ?_ ?_
            · (try dsimp only)
              ((go_split_ands; refine HALL.out _ ?_; (first | assumption | (repeat (first | assumption | refine Fr.new ?_ _ | refine Fr.drew ?_ | (refine Fr.set ?_ (by first | exact Nat.le_refl _ | omega | (simp; done) | (simp; omega)) (by first | (simp; done) | (simp; omega)) _))); done)))
            clear hK K
            (try simp only [Act.put, List.setIfInBounds_toArray, List.set_cons_zero, List.set_cons_succ])
            refine Tw_takeL (i := 7) (v := ?tv91) rfl (by kernel_rfl) (by decide) (by kernel_rfl) (by kernel_rfl) (fun _ _ _ h => h) (by rfl) ?ty91 ?tn91
            case ty91 => (intro w hSw; (try dsimp only at hSw); go_simp <;> with_reducible rfl)
            (try simp only [Act.put, List.setIfInBounds_toArray, List.set_cons_zero, List.set_cons_succ])
            refine Tw_takeL (i := 8) (v := ?tv92) rfl (by kernel_rfl) (by decide) (by kernel_rfl) (by kernel_rfl) (fun _ _ _ h => h) (by rfl) ?ty92 ?tn92
            case ty92 => (intro w hSw; (try dsimp only at hSw); go_simp <;> with_reducible rfl)
            (try simp only [Act.put, List.setIfInBounds_toArray, List.set_cons_zero, List.set_cons_succ])
            refine Tw_takeL (i := 9) (v := ?tv93) rfl (by kernel_rfl) (by decide) (by kernel_rfl) (by kernel_rfl) (fun _ _ _ h => h) (by rfl) ?ty93 ?tn93
            case ty93 => (intro w hSw; (try dsimp only at hSw); go_simp <;> with_reducible rfl)
            (try simp only [Act.put, List.setIfInBounds_toArray, List.set_cons_zero, List.set_cons_succ])
            refine Tw_all (rs := [11]) (by kernel_rfl) (by simp) (by decide) (fun hHeld => ?_)
            refine AllT.consL rfl (fun K hK => ?_) (AllT.nil)
            · have c0 := N1.out.cell 0
              have c1 := N1.out.cell 1
              have c2 := N1.out.cell 2
              have c3 := N1.out.cell 3
              have c4 := N1.out.cell 4
              have f0 := N1.out.frozen 0
              have f1 := N1.out.frozen 1
              have f2 := N1.out.frozen 2
              have f3 := N1.out.frozen 3
              have f4 := N1.out.frozen 4
              have zN := N1.out.lt
              go_simp
              refine hK.out _ _ ?_ ?_
              · exact HALL.out _ (Fr.off5 (n := 3) hHeld.1 zg.out (by intro b hb; simp only [List.mem_cons, List.not_mem_nil, or_false] at hb; rcases hb with rfl | rfl | rfl <;> (dsimp only; omega)) _ _ _ _ _)
              clear hK K c0 f0 c1 f1 c2 f2 c3 f3 c4 f4 zN
              have N1 := Lib.hid (Bk.set5 N1.out (.string s) (.slice (some a) ps.length c) (.int .i64 b.brk) (.int .i64 b.drag) (.int .i64 b.drv))
              (try simp only [Act.put, List.setIfInBounds_toArray, List.set_cons_zero, List.set_cons_succ])
              refine Tw_end (by kernel_rfl) (fun hh => ?_)
              obtain ⟨F11, _⟩ := hh
              clear HALL
              go_wp2_with fail
              go_meet
              exact ⟨_, rfl, rfl, F11.more N1.out⟩
    · go_simp
      refine hK.out _ _ ?_ ?_
      · (try dsimp only)
        ((go_split_ands; refine HALL.out _ ?_; (first | assumption | (repeat (first | assumption | refine Fr.new ?_ _ | refine Fr.drew ?_ | (refine Fr.set ?_ (by first | exact Nat.le_refl _ | omega | (simp; done) | (simp; omega)) (by first | (simp; done) | (simp; omega)) _))); done)))
      clear hK K
      (try simp only [Act.put, List.setIfInBounds_toArray, List.set_cons_zero, List.set_cons_succ])
      refine Tw_abs ?_
      intro wA98 hA98
      (first | (have N1 := Lib.hid (Bk.of_alloc hA98)) | (have N1 := Lib.hid (Bk.of_alloc_drew hA98)))
      have zg := Lib.hid (show w.heap.size + 3 ≤ _ from hHeld.1.top.lt)
      (first | (have L1 := Lib.hid (Lies.alloc hA98 L1.out)) | (have L1 := Lib.hid (Lies.alloc_drew hA98 L1.out)) | skip)
      clear hA98
      refine Tw_all (rs := [4]) (by kernel_rfl) (by simp) (by decide) (fun hHeld => ?_)
      refine AllT.consL rfl (fun K hK => ?_) (AllT.nil)
      · go_simp
        (go_at_call 40; go_split_ands; (with_reducible refine (errorOfState_any s ps (some a) c (by omega) (p : Int) sq _).mono ?_); rintro e w7 ⟨rfl, hb7⟩; rw [HS1.out]; have F4 := Fr.call (by assumption) hb7; (first | (have N1 := Lib.hid (Bk.call N1.out hb7)) | skip); (first | (have L1 := Lib.hid (Lies.call L1.out hb7)) | skip); clear hb7)
        refine hK.out _ _ ?_ ?_
        · (try dsimp only)
          ((go_split_ands; refine HALL.out _ ?_; (first | assumption | (repeat (first | assumption | refine Fr.new ?_ _ | refine Fr.drew ?_ | (refine Fr.set ?_ (by first | exact Nat.le_refl _ | omega | (simp; done) | (simp; omega)) (by first | (simp; done) | (simp; omega)) _))); done)))
        clear hK K
        (try simp only [Act.put, List.setIfInBounds_toArray, List.set_cons_zero, List.set_cons_succ])
        refine Tw_all (rs := [5]) (by kernel_rfl) (by simp) (by decide) (fun hHeld => ?_)
        refine AllT.consL rfl (fun K hK => ?_) (AllT.nil)
        · go_simp
          refine hK.out _ _ ?_ ?_
          · (try dsimp only)
            ((go_split_ands; refine HALL.out _ ?_; (first | assumption | (repeat (first | assumption | refine Fr.new ?_ _ | refine Fr.drew ?_ | (refine Fr.set ?_ (by first | exact Nat.le_refl _ | omega | (simp; done) | (simp; omega)) (by first | (simp; done) | (simp; omega)) _))); done)))
          clear hK K
          (try simp only [Act.put, List.setIfInBounds_toArray, List.set_cons_zero, List.set_cons_succ])
          refine Tw_abs ?_
          intro wA100 hA100
          (first | (have N1 := Lib.hid (Bk.over_alloc hA100 N1.out)) | (have N1 := Lib.hid (Bk.over_alloc_drew hA100 N1.out)) | skip)
          (first | (have L1 := Lib.hid (fs_alloc (l := [e1]) hA100 (by simp [maxLen]))) | (have L1 := Lib.hid (fs_drew (l := [e1]) hA100 (by simp [maxLen]))))
          clear hA100
          refine Tw_all (rs := [6]) (by kernel_rfl) (by simp) (by decide) (fun hHeld => ?_)
          refine AllT.consL rfl (fun K hK => ?_) (AllT.nil)
          · go_simp
            (go_at_call 39; go_split_ands; (refine (HCR.out _ _ (Fr.lies HA.out (by assumption)) L1.out).mono ?_); rintro e w7 ⟨rfl, hb7⟩; have F6 := Fr.call (by assumption) hb7; (first | (have N1 := Lib.hid (Bk.call N1.out hb7)) | skip); (first | (have L1 := Lib.hid (Lies.call L1.out hb7)) | skip); clear hb7)
            refine hK.out _ _ ?_ ?_
            · (try dsimp only)
              ((go_split_ands; refine HALL.out _ ?_; (first | assumption | (repeat (first | assumption | refine Fr.new ?_ _ | refine Fr.drew ?_ | (refine Fr.set ?_ (by first | exact Nat.le_refl _ | omega | (simp; done) | (simp; omega)) (by first | (simp; done) | (simp; omega)) _))); done)))
            clear hK K
            (try simp only [Act.put, List.setIfInBounds_toArray, List.set_cons_zero, List.set_cons_succ])
            refine Tw_takeL (i := 7) (v := ?tv94) rfl (by kernel_rfl) (by decide) (by kernel_rfl) (by kernel_rfl) (fun _ _ _ h => h) (by rfl) ?ty94 ?tn94
            case ty94 => (intro w hSw; (try dsimp only at hSw); go_simp <;> with_reducible rfl)
            (try simp only [Act.put, List.setIfInBounds_toArray, List.set_cons_zero, List.set_cons_succ])
            refine Tw_takeL (i := 8) (v := ?tv95) rfl (by kernel_rfl) (by decide) (by kernel_rfl) (by kernel_rfl) (fun _ _ _ h => h) (by rfl) ?ty95 ?tn95
            case ty95 => (intro w hSw; (try dsimp only at hSw); go_simp <;> with_reducible rfl)
            (try simp only [Act.put, List.setIfInBounds_toArray, List.set_cons_zero, List.set_cons_succ])
            refine Tw_takeL (i := 9) (v := ?tv96) rfl (by kernel_rfl) (by decide) (by kernel_rfl) (by kernel_rfl) (fun _ _ _ h => h) (by rfl) ?ty96 ?tn96
            case ty96 => (intro w hSw; (try dsimp only at hSw); go_simp <;> with_reducible rfl)
            (try simp only [Act.put, List.setIfInBounds_toArray, List.set_cons_zero, List.set_cons_succ])
            refine Tw_all (rs := [11]) (by kernel_rfl) (by simp) (by decide) (fun hHeld => ?_)
            refine AllT.consL rfl (fun K hK => ?_) (AllT.nil)
            · have c0 := N1.out.cell 0
              have c1 := N1.out.cell 1
              have c2 := N1.out.cell 2
              have c3 := N1.out.cell 3
              have c4 := N1.out.cell 4
              have f0 := N1.out.frozen 0
              have f1 := N1.out.frozen 1
              have f2 := N1.out.frozen 2
              have f3 := N1.out.frozen 3
              have f4 := N1.out.frozen 4
              have zN := N1.out.lt
              go_simp
              refine hK.out _ _ ?_ ?_
              · exact HALL.out _ (Fr.off5 (n := 3) hHeld.1 zg.out (by intro b hb; simp only [List.mem_cons, List.not_mem_nil, or_false] at hb; rcases hb with rfl | rfl | rfl <;> (dsimp only; omega)) _ _ _ _ _)
              clear hK K c0 f0 c1 f1 c2 f2 c3 f3 c4 f4 zN
              have N1 := Lib.hid (Bk.set5 N1.out (.string s) (.slice (some a) ps.length c) (.int .i64 b.brk) (.int .i64 b.drag) (.int .i64 b.drv))
              (try simp only [Act.put, List.setIfInBounds_toArray, List.set_cons_zero, List.set_cons_succ])
              refine Tw_end (by kernel_rfl) (fun hh => ?_)
              obtain ⟨F11, _⟩ := hh
              clear HALL
              go_wp2_with fail
              go_meet
              exact ⟨_, rfl, rfl, F11.more N1.out⟩
  case rest =>
    obtain ⟨wx, rfl⟩ : ∃ W, W = wc := ⟨_, rfl⟩
    obtain ⟨g, rfl, rfl, hx⟩ := hcut
    have FC := Lib.hid hx
    clear hx F0
    have q0 := FC.out.top.cell 0
    have q1 := FC.out.top.cell 1
    have x0 := (FC.out.get 1 rfl).cell 0
    have hg1 : g < wx.heap.size := FC.out.top.lt
    have hg2 : w.heap.size + 3 ≤ wx.heap.size := by have := (FC.out.get 1 rfl).lt; omega
    have q2 := ((FC.out.get 1 rfl).alloc (.cells #[.slice none 0 0] 31)).cell 0
    have r0 := (FC.out.top.alloc (.cells #[.slice none 0 0] 31)).cell 0
    have r1 := (FC.out.top.alloc (.cells #[.slice none 0 0] 31)).cell 1
    go_wp2_with fail
    refine (stops_any s (some a) ps.length c p _).mono ?_
    rintro e w2 ⟨rfl, hw2⟩
    have F2 : Hid (Fr w w2 [(wx.heap.size + 1 + 1, 3, #[.int .i64 (p : Int)]), (wx.heap.size + 1, 75, #[.string s, .slice (some a) ps.length c]), (wx.heap.size, 31, #[.slice none 0 0]), (g, 77, #[.string s, .slice (some a) ps.length c, .int .i64 b.brk, .int .i64 b.drag, .int .i64 b.drv]), (w.heap.size + 1 + 1, 28, #[.int .i64 (p : Int), .int .i64 sq]), (w.heap.size + 1, 26, #[.int .i64 b.brk, .int .i64 b.drag, .int .i64 b.drv]), (w.heap.size, 24, #[.string s, .slice (some a) ps.length c])]) := Lib.hid (by
      rw [hw2]
      have := ((FC.out.box 31 #[.slice none 0 0]).box 75 #[.string s, .slice (some a) ps.length c]).box 3 #[.int .i64 (p : Int)]
      simpa using this)
    have hz2 : w2.heap.size = wx.heap.size + 3 := by rw [hw2]; simp
    have hs2 : wx.heap.size + 3 ≤ w2.heap.size := by omega
    have L2 := Lib.hid ((HA.out.below (F2.out.bl)))
    obtain ⟨i0, hi0, hiz0, his0, hib0⟩ := info_parts info_int
    clear hw2 hz2 FC q0 q1 x0 q2 r0 r1
    go_wp2_with fail
    refine (wpIn_wide (n := 12)).1 ?_
    refine wpIn_rangeFunc_ownH (α := Sp ps p) rfl (by decide) (gf := 76) (lb := #[.pointer (some ⟨wx.heap.size + 1 + 1, 0, none⟩), .pointer (some ⟨wx.heap.size + 1, 0, none⟩)]) rfl trivial (enters_of Try.func76 (by kernel_rfl) rfl)
      (encs := fun x => #[.int .i64 (x.1 : Int)]) (Kp := But wx.heap.size w2.heap.size) (S := fun ys => ys = stL ps p ps.length) (Sp := fun pre => ∃ k, k ≤ ps.length ∧ pre = stL ps p k) (N := ps.length) (w0 := w2)
      (fun l J Jx W hW hJ _ hY h0 => stops1_but (12 - 1) (by decide) s ps (some a) c h12 p hp l (wx.heap.size + 1) w2.heap.size wx.heap.size w.heap.size (by omega) (by omega) J Jx
        (fun s A B hs hb => hJ s A B none hs (grown_of_below hb) (fun r e => by cases e)) hY W (by omega) hW.size ((F2.out.get 1 rfl).below hW (by omega)) ((F2.out.get 0 rfl).below hW (by omega)) (L2.out.below (hW.mono (by omega))) h0)
      butK_t (butK_b (Nat.le_refl _)) (Below.refl _ _) (fun _ => rfl)
      (fun pre W => (∃ v, Bk W wx.heap.size 31 #[v] ∧ W.ownsRow w2.heap.size 3 1 v (rcL b sq pre).length (ic (rcL b sq pre))) ∧ But wx.heap.size w2.heap.size w2 W)
      (fun _ _ _ => False)
      (OwnFrom.and (fun s A B row hs hg hr => by obtain ⟨v, h1, h2⟩ := hs; exact ⟨v, h1.kept hg (fun r e => (hr r e).2), own_kept5 h2 hg (fun r e => (hr r e).2)⟩) (ownFrom_but (Nat.le_refl _) (Nat.le_refl _)))
      (fun c s A B row hs hg hr => hs)
      ⟨⟨.slice none 0 0, F2.out.get 2 rfl, World.ownsRow_nil _ _ _ _⟩, But.refl _ _ _⟩
      (fun x a' _ => a' = { tmps := #[.agg #[.string s, .slice (some a) ps.length c], .agg #[.int .i64 b.brk, .int .i64 b.drag, .int .i64 b.drv], .agg #[.int .i64 p, .int .i64 sq], .pointer (some ⟨w.heap.size, 0, none⟩), .pointer (some ⟨w.heap.size + 1, 0, none⟩), .pointer (some ⟨w.heap.size + 1 + 1, 0, none⟩), .slice none 0 0, .int .i64 0, .pointer (some ⟨g, 0, none⟩), .int .i64 0, .pointer (some ⟨wx.heap.size, 0, none⟩), .int .i64 (x.1 : Int), u12, u13, u14, u15, u16, u17, u18, u19, u20, u21, .int .i64 0, .bool false, undef, .pointer (some ⟨g, 0, none⟩), .agg #[.string s, .slice (some a) ps.length c], .pointer (some ⟨w.heap.size + 1 + 1, 0, none⟩), .int .i64 p, .func (.func 76) #[] #[.pointer (some ⟨wx.heap.size + 1 + 1, 0, none⟩), .pointer (some ⟨wx.heap.size + 1, 0, none⟩)], .int .i64 (x.1 : Int), undef, undef, undef, undef, undef, undef, undef, undef, undef], defers := [] })
      (fun _ _ _ _ _ _ hs _ _ => hs)
      ?assign ?body ?done ?stop
    case assign =>
      rintro l pre x W K hi hK
      gi_wp2
      exact hK _ _ (KeepsFrom.refl _ _) (But.refl _ _ _) hi rfl
    case body =>
      rintro l pre x a' W hl _ ⟨⟨v, hbk, hown⟩, hB⟩ rfl hlt
      have HBW := Lib.hid hB
      have HBK := Lib.hid hbk
      have HO := Lib.hid hown
      have hBs := hB.size
      have hd : 1 ≤ 12 - 1 - 1 := by decide
      have BW := Lib.hid (F2.out.bl.trans (hB.low (show w.heap.size ≤ wx.heap.size by omega) (by omega)))
      have LW := Lib.hid ((HA.out.below BW.out).more (show w.heap.size ≤ W.heap.size by omega))
      have HRE := Lib.hid (fun W hW => reaches_any s ps a c b HB.out HOK.out.n0 h12 HOK.out.each x.1 p x.2.2.1 x.2.1 sq HQ.out W hW)
      have R4 := Lib.hid ((F2.out.get 3 rfl).but hB (by omega) (by omega))
      have r0 := R4.out.cell 0
      have r1 := R4.out.cell 1
      have r2 := R4.out.cell 2
      have r3 := R4.out.cell 3
      have r4 := R4.out.cell 4
      have X4 := Lib.hid ((F2.out.get 4 rfl).but hB (by omega) (by omega))
      have x0 := X4.out.cell 0
      have x1 := X4.out.cell 1
      have hlr : (rcL b sq pre).length ≤ 12 := by
        have : (rcL b sq pre).length ≤ pre.length := by unfold rcL; rw [List.length_map]; exact List.length_filter_le _ _
        omega
      clear hB hbk hown
      cases hr : rchB ps b p sq x.1 with
      | false =>
        have HR : Hid (rcL b sq (pre ++ [x]) = rcL b sq pre) := Lib.hid (by rw [rcL_snoc, if_neg (by rw [hr]; simp)])
        have hr2 := hr
        unfold rchB at hr2
        rw [hr2] at HRE
        clear hr hr2
        gi_wp2_with (refine ⟨trivial, ?_⟩; gi_at_call 42; refine (CallsIn.inRound l (callsIn_wide.2 (HRE.out _ LW.out))).mono ?_; rintro e w3 ⟨rfl, hb3⟩; have HB3 := Lib.hid hb3; clear hb3)
        exact ⟨(keeps_of_below HB3.out).from _, but_of (HB3.out.mono hBs) _, ⟨v, HBK.out.call HB3.out, by rw [HR.out]; exact own_below HO.out HB3.out⟩, HBW.out.step HB3.out hBs⟩
      | true =>
        have HR : Hid (rcL b sq (pre ++ [x]) = rcL b sq pre ++ [(x.1 : Int)]) := Lib.hid (by rw [rcL_snoc, if_pos hr])
        have hr2 := hr
        unfold rchB at hr2
        rw [hr2] at HRE
        clear hr hr2
        gi_wp2_with (first
          | (refine ⟨trivial, ?_⟩; gi_at_call 42; refine (CallsIn.inRound l (callsIn_wide.2 (HRE.out _ LW.out))).mono ?_; rintro e w3 ⟨rfl, hb3⟩; have HB3 := Lib.hid hb3; have B3 := Lib.hid (HBK.out.call hb3); have HO3 := Lib.hid (own_below HO.out hb3); obtain ⟨p0, p1⟩ := B3.out.one; have z3 := hb3.size; clear hb3)
          | (gi_at_builtin; refine wpListIn_append_own _ rfl _ _ 31 rfl w2.heap.size 3 i0 (.int .i64 0) 1 8 Try.underlying31 hi0 hiz0 his0 hib0 rfl (by decide) v _ _ rfl (own_below HO3.out ((Below.refl _ _).alloc (Nat.le_refl _) _)) _ _ _ [.int .i64 _] rfl rfl (Bk.new _ _ _).adds (fun u hu => by simp at hu; subst hu; rfl) (by unfold maxLen; omega) (by omega) (by simp; omega) ?_; intro v' w6 ho6 hg6 _; obtain ⟨q1, k1, rfl⟩ := ownsRow_succ ho6; have HO6 := Lib.hid ho6; have HG6 := Lib.hid hg6; have hr6 : ∀ q, v.ownBlock = some q → w2.heap.size ≤ q := (fun q e => (HO3.out.lt q e).1); have B6 := Lib.hid ((B3.out.alloc (.cells #[.int .i64 (x.1 : Int)] 3)).grown5 hg6 hr6 (by omega)); obtain ⟨b6, b7⟩ := B6.out.one; have HR6 := Lib.hid hr6; clear ho6 hg6 hr6))
        have k6 : But wx.heap.size w2.heap.size W (w6.setCell ⟨wx.heap.size, 0, none⟩ (.slice (some ⟨q1, 0, none⟩) ((rcL b sq pre).length + 1) k1)) := (((but_of (HB3.out.mono hBs) wx.heap.size).alloc (by omega) (.cells #[.int .i64 (x.1 : Int)] 3)).grown (by simp; omega) HG6.out HR6.out).setCell (p := ⟨wx.heap.size, 0, none⟩) (.inl rfl) _
        exact ⟨((keeps_of_below HB3.out).trans ((KeepsOthers.alloc _ _).trans ((KeepsOthers.of_grownBy HG6.out (own_cells5 (own_below HO3.out ((Below.refl _ _).alloc (Nat.le_refl _) _)))).trans (KeepsOthers.setCell _ _ _)))).from _, k6, ⟨_, by have := B6.out.set_ 0 (.slice (some ⟨q1, 0, none⟩) ((rcL b sq pre).length + 1) k1); simpa using this, by rw [HR.out, List.length_append]; have := own_far (p := ⟨wx.heap.size, 0, none⟩) (u := .slice (some ⟨q1, 0, none⟩) ((rcL b sq pre).length + 1) k1) HO6.out (by simp; omega); simpa [ic] using this⟩, HBW.out.trans k6⟩
    case done =>
      rintro D ys W hD rfl ⟨⟨v, hbk, hown⟩, hB⟩ hK
      rw [rcL_stL] at hown
      obtain ⟨gs, rfl, _, _, _⟩ := own_slice hown
      have HO := Lib.hid hown
      obtain ⟨p0, p1⟩ := hbk.one
      have BW := Lib.hid (F2.out.bl.trans (hB.low (show w.heap.size ≤ wx.heap.size by omega) (by omega)))
      clear hbk hown hB
      go_wp2_with fail
      refine nopan_marks ⟨by simp, .inl ⟨_, _, rfl, run_takeDeferred hK, ?_⟩⟩
      refine ⟨.tuple #[.slice gs.A (stV ps b p sq ps.length).length gs.c, .int .i64 0], ?_, gs, rfl, (own_lies (ownsRow_putObj HO.out (.deferred none) hK rfl)).1, BW.out.trans (belowK_b (w := w) (Nat.le_refl _) W D _ _ (by omega) hK rfl rfl)⟩
      simp [results, Try.f9, go_sem]
    case stop =>
      rintro D c pre W hD hpre hF hK
      exact hF.elim
end Go.Proofs.Ytmjooiocgeoaiaa
