
/-
  The walk of GreatestAt of the program.
-/
import Derived.Test.YtmjooiocgeoaiaaBGp
import Derived.Test.YtmjooiocgeoaiaaBErr
import Derived.Test.YtmjooiocgeoaiaaBApi
import Derived.Test.YtmjooiocgeoaiaaTRgi
namespace Go.Proofs.Ytmjooiocgeoaiaa
open Go.RowKit
attribute [local go_sem] Oper.semAt_some
theorem wpIn_abs {F : Fence} {n : Nat} {P : Program} {Q : Exit → Act → World → Prop} {a : Act} {w : World} {c : Code} (h : ∀ w', w = w' → c.wpIn F n P Q a w') : c.wpIn F n P Q a w := h w rfl

set_option maxHeartbeats 8000000 in
set_option maxRecDepth 100000 in
theorem GreatestAt_bad (s : ByteArray) (hs : s.size ≤ maxLen) (ps : List Bp) (A : Option Addr) (c : Nat) (hl : ps.length ≤ 1000) (b : Bs) (p : Int) (er : Int) (he : nz ((trE s ps).2 :: sE b :: [postE ps p]) = er) (hr : er ≠ 0) (w : World) (hA : Lies w w.heap.size A (ps.flatMap pc)) :
    Calls Try.prog 11 #[.agg #[.string s, .slice A ps.length c], .agg #[.int .i64 b.brk, .int .i64 b.drag, .int .i64 b.drv], .int .i64 p] w fun e w' => e = .returned (.tuple #[.int .i64 0, .int .i64 er]) ∧ Below w.heap.size w w' := by
  have hlm : ps.length ≤ maxLen := by unfold maxLen; omega
  have F0 := Lib.hid (Fr.b3 w 24 #[.string s, .slice A ps.length c] 26 #[.int .i64 b.brk, .int .i64 b.drag, .int .i64 b.drv] 3 #[.int .i64 p])
  have HA := Lib.hid hA
  obtain ⟨e1, h1⟩ : ∃ e1, postE ps p = e1 := ⟨_, rfl⟩
  rw [h1] at he
  have ge : (er != 0) = true := by simp [hr]
  have HCR : Hid (∀ (fa : Addr) (W : World), Lies W W.heap.size A (ps.flatMap pc) → Lies W W.heap.size (some fa) (ic [e1]) → Calls Try.prog 39 #[.agg #[.string s, .slice A ps.length c], .agg #[.int .i64 b.brk, .int .i64 b.drag, .int .i64 b.drv], .slice (some fa) 1 1] W fun e w' => e = .returned (.tuple #[.agg #[.string ⟨#[]⟩, .slice none 0 0, .int .i64 0, .int .i64 0, .int .i64 0], .int .i64 er]) ∧ Below W.heap.size W w') := Lib.hid (fun fa W h1 h2 => checkRide_bad s hs ps A c hlm b [e1] fa 1 (by simp) (by simp) er he hr W h1 h2)
  have HS1 := Lib.hid h1
  clear hA h1 he hr
  refine (callsIn_wide (n := 12)).1 ?_
  refine callsIn_of_wp_marks Try.func11 rfl trivial ?_ rfl
  simp only [Try.ntmps11, List.size_toArray, List.length_cons, List.length_nil, Nat.reduceAdd, Nat.reduceSub, Array.replicate_succ, Array.replicate_zero, List.push_toArray, List.append_toArray, List.nil_append, List.cons_append]
  refine wpIn_wide.2 ?_
  refine wp_mono ?_ nopan_to
  go_upto_region 1 with fail
  go_cut [8, 9] from 8 to 22 (fun pv rv W => ∃ g : Nat, pv = .pointer (some ⟨g, 0, none⟩) ∧ rv = .int .i64 er ∧ Fr w W ((g, 77, #[.string ⟨#[]⟩, .slice none 0 0, .int .i64 0, .int .i64 0, .int .i64 0]) :: [(w.heap.size + 1 + 1, 3, #[.int .i64 p]), (w.heap.size + 1, 26, #[.int .i64 b.brk, .int .i64 b.drag, .int .i64 b.drv]), (w.heap.size, 24, #[.string s, .slice A ps.length c])]))
  case first =>
    refine wp_abs ?_
    intro w5 h5
    have HALL : Hid (∀ W, Fr w W [(w.heap.size + 1 + 1, 3, #[.int .i64 p]), (w.heap.size + 1, 26, #[.int .i64 b.brk, .int .i64 b.drag, .int .i64 b.drv]), (w.heap.size, 24, #[.string s, .slice A ps.length c])] → Fr w W [(w.heap.size + 1 + 1, 3, #[.int .i64 p]), (w.heap.size + 1, 26, #[.int .i64 b.brk, .int .i64 b.drag, .int .i64 b.drv]), (w.heap.size, 24, #[.string s, .slice A ps.length c])] ∧ W.cell? ⟨w.heap.size, 0, none⟩ = some (.string s) ∧ W.cell? ⟨w.heap.size, 1, none⟩ = some (.slice A ps.length c) ∧ W.cell? ⟨w.heap.size + 1, 0, none⟩ = some (.int .i64 b.brk) ∧ W.cell? ⟨w.heap.size + 1, 1, none⟩ = some (.int .i64 b.drag) ∧ W.cell? ⟨w.heap.size + 1, 2, none⟩ = some (.int .i64 b.drv) ∧ W.cell? ⟨w.heap.size + 1 + 1, 0, none⟩ = some (.int .i64 p)) := Lib.hid (fun W hW => ⟨hW, hW.at2.cell 0, hW.at2.cell 1, hW.at1.cell 0, hW.at1.cell 1, hW.at1.cell 2, hW.top.cell 0⟩)
    have F10 : Fr w w5 [(w.heap.size + 1 + 1, 3, #[.int .i64 p]), (w.heap.size + 1, 26, #[.int .i64 b.brk, .int .i64 b.drag, .int .i64 b.drv]), (w.heap.size, 24, #[.string s, .slice A ps.length c])] := by subst h5; exact F0.out
    clear F0 h5
    refine Tw_start 12 (fun W => Fr w W [(w.heap.size + 1 + 1, 3, #[.int .i64 p]), (w.heap.size + 1, 26, #[.int .i64 b.brk, .int .i64 b.drag, .int .i64 b.drv]), (w.heap.size, 24, #[.string s, .slice A ps.length c])] ∧ W.cell? ⟨w.heap.size, 0, none⟩ = some (.string s) ∧ W.cell? ⟨w.heap.size, 1, none⟩ = some (.slice A ps.length c) ∧ W.cell? ⟨w.heap.size + 1, 0, none⟩ = some (.int .i64 b.brk) ∧ W.cell? ⟨w.heap.size + 1, 1, none⟩ = some (.int .i64 b.drag) ∧ W.cell? ⟨w.heap.size + 1, 2, none⟩ = some (.int .i64 b.drv) ∧ W.cell? ⟨w.heap.size + 1 + 1, 0, none⟩ = some (.int .i64 p)) (by kernel_rfl) (by kernel_rfl) rfl ?_ ?_
    · (try dsimp only)
      ((go_split_ands; refine HALL.out _ ?_; (first | assumption | (repeat (first | assumption | refine Fr.new ?_ _ | refine Fr.drew ?_ | (refine Fr.set ?_ (by first | exact Nat.le_refl _ | omega | (simp; done) | (simp; omega)) (by first | (simp; done) | (simp; omega)) _))); done)))
    refine Tw_takeL (i := 0) (v := ?tv97) rfl (by kernel_rfl) (by decide) (by kernel_rfl) (by kernel_rfl) (fun _ _ _ h => h) (by rfl) ?ty97 ?tn97
    case ty97 => (intro w hSw; (try dsimp only at hSw); go_simp <;> with_reducible rfl)
    (try simp only [Act.put, List.setIfInBounds_toArray, List.set_cons_zero, List.set_cons_succ])
    refine Tw_takeL (i := 1) (v := ?tv98) rfl (by kernel_rfl) (by decide) (by kernel_rfl) (by kernel_rfl) (fun _ _ _ h => h) (by rfl) ?ty98 ?tn98
    case ty98 => (intro w hSw; (try dsimp only at hSw); go_simp <;> with_reducible rfl)
    (try simp only [Act.put, List.setIfInBounds_toArray, List.set_cons_zero, List.set_cons_succ])
    refine Tw_takeL (i := 2) (v := ?tv99) rfl (by kernel_rfl) (by decide) (by kernel_rfl) (by kernel_rfl) (fun _ _ _ h => h) (by rfl) ?ty99 ?tn99
    case ty99 => (intro w hSw; (try dsimp only at hSw); go_simp <;> with_reducible rfl)
    (try simp only [Act.put, List.setIfInBounds_toArray, List.set_cons_zero, List.set_cons_succ])
    refine Tw_takeL (i := 3) (v := ?tv100) rfl (by kernel_rfl) (by decide) (by kernel_rfl) (by kernel_rfl) (fun _ _ _ h => h) (by rfl) ?ty100 ?tn100
    case ty100 => (intro w hSw; (try dsimp only at hSw); go_simp <;> with_reducible rfl)
    (try simp only [Act.put, List.setIfInBounds_toArray, List.set_cons_zero, List.set_cons_succ])
    refine Tw_all (rs := [4, 10]) (by kernel_rfl) (by simp) (by decide) (fun hHeld => ?_)
    refine AllT.consL rfl (fun K hK => ?_) (AllT.consL rfl (fun K hK => ?_) (AllT.nil))
    · go_simp
      (go_at_call 43; go_split_ands; (with_reducible refine (errorOfPost_any s ps A c (by omega) p _).mono ?_); rintro e w7 ⟨rfl, hb7⟩; rw [HS1.out]; have F4 := Fr.call (by assumption) hb7; (first | (have N1 := Lib.hid (Bk.call N1.out hb7)) | skip); (first | (have L1 := Lib.hid (Lies.call L1.out hb7)) | skip); clear hb7)
      refine hK.out _ _ ?_ ?_
      · (try dsimp only)
        ((go_split_ands; refine HALL.out _ ?_; (first | assumption | (repeat (first | assumption | refine Fr.new ?_ _ | refine Fr.drew ?_ | (refine Fr.set ?_ (by first | exact Nat.le_refl _ | omega | (simp; done) | (simp; omega)) (by first | (simp; done) | (simp; omega)) _))); done)))
      clear hK K
      (try simp only [Act.put, List.setIfInBounds_toArray, List.set_cons_zero, List.set_cons_succ])
      refine Tw_all (rs := [5, 10]) (by kernel_rfl) (by simp) (by decide) (fun hHeld => ?_)
      refine AllT.consL rfl (fun K hK => ?_) (AllT.consL rfl (fun K hK => ?_) (AllT.nil))
      · go_simp
        refine hK.out _ _ ?_ ?_
        · (try dsimp only)
          ((go_split_ands; refine HALL.out _ ?_; (first | assumption | (repeat (first | assumption | refine Fr.new ?_ _ | refine Fr.drew ?_ | (refine Fr.set ?_ (by first | exact Nat.le_refl _ | omega | (simp; done) | (simp; omega)) (by first | (simp; done) | (simp; omega)) _))); done)))
        clear hK K
        (try simp only [Act.put, List.setIfInBounds_toArray, List.set_cons_zero, List.set_cons_succ])
        refine Tw_abs ?_
        intro wA104 hA104
        (first | (have N1 := Lib.hid (Bk.over_alloc hA104 N1.out)) | (have N1 := Lib.hid (Bk.over_alloc_drew hA104 N1.out)) | skip)
        (first | (have L1 := Lib.hid (fs_alloc (l := [e1]) hA104 (by simp [maxLen]))) | (have L1 := Lib.hid (fs_drew (l := [e1]) hA104 (by simp [maxLen]))))
        clear hA104
        refine Tw_all (rs := [6, 10]) (by kernel_rfl) (by simp) (by decide) (fun hHeld => ?_)
        refine AllT.consL rfl (fun K hK => ?_) (AllT.consL rfl (fun K hK => ?_) (AllT.nil))
        · go_simp
          (go_at_call 39; go_split_ands; (refine (HCR.out _ _ (Fr.lies HA.out (by assumption)) L1.out).mono ?_); rintro e w7 ⟨rfl, hb7⟩; have F6 := Fr.call (by assumption) hb7; (first | (have N1 := Lib.hid (Bk.call N1.out hb7)) | skip); (first | (have L1 := Lib.hid (Lies.call L1.out hb7)) | skip); clear hb7)
          refine hK.out _ _ ?_ ?_
          · (try dsimp only)
            ((go_split_ands; refine HALL.out _ ?_; (first | assumption | (repeat (first | assumption | refine Fr.new ?_ _ | refine Fr.drew ?_ | (refine Fr.set ?_ (by first | exact Nat.le_refl _ | omega | (simp; done) | (simp; omega)) (by first | (simp; done) | (simp; omega)) _))); done)))
          clear hK K
          (try simp only [Act.put, List.setIfInBounds_toArray, List.set_cons_zero, List.set_cons_succ])
          refine Tw_takeL (i := 7) (v := ?tv101) rfl (by kernel_rfl) (by decide) (by kernel_rfl) (by kernel_rfl) (fun _ _ _ h => h) (by rfl) ?ty101 ?tn101
          case ty101 => (intro w hSw; (try dsimp only at hSw); go_simp <;> with_reducible rfl)
          (try simp only [Act.put, List.setIfInBounds_toArray, List.set_cons_zero, List.set_cons_succ])
          refine Tw_takeL (i := 8) (v := ?tv102) rfl (by kernel_rfl) (by decide) (by kernel_rfl) (by kernel_rfl) (fun _ _ _ h => h) (by rfl) ?ty102 ?tn102
          case ty102 => (intro w hSw; (try dsimp only at hSw); go_simp <;> with_reducible rfl)
          (try simp only [Act.put, List.setIfInBounds_toArray, List.set_cons_zero, List.set_cons_succ])
          refine Tw_takeL (i := 9) (v := ?tv103) rfl (by kernel_rfl) (by decide) (by kernel_rfl) (by kernel_rfl) (fun _ _ _ h => h) (by rfl) ?ty103 ?tn103
          case ty103 => (intro w hSw; (try dsimp only at hSw); go_simp <;> with_reducible rfl)
          (try simp only [Act.put, List.setIfInBounds_toArray, List.set_cons_zero, List.set_cons_succ])
          refine Tw_all (rs := [10]) (by kernel_rfl) (by simp) (by decide) (fun hHeld => ?_)
          refine AllT.consL rfl (fun K hK => ?_) (AllT.nil)
          · go_simp
            refine hK.out _ _ ?_ ?_
            · (try dsimp only)
              ((go_split_ands; refine HALL.out _ ?_; (first | assumption | (repeat (first | assumption | refine Fr.new ?_ _ | refine Fr.drew ?_ | (refine Fr.set ?_ (by first | exact Nat.le_refl _ | omega | (simp; done) | (simp; omega)) (by first | (simp; done) | (simp; omega)) _))); done)))
            clear hK K
            (try simp only [Act.put, List.setIfInBounds_toArray, List.set_cons_zero, List.set_cons_succ])
            refine Tw_abs ?_
            intro wA106 hA106
            (first | (have N1 := Lib.hid (Bk.of_alloc hA106)) | (have N1 := Lib.hid (Bk.of_alloc_drew hA106)))
            have zg := Lib.hid (show w.heap.size + 3 ≤ _ from hHeld.1.top.lt)
            (first | (have L1 := Lib.hid (Lies.alloc hA106 L1.out)) | (have L1 := Lib.hid (Lies.alloc_drew hA106 L1.out)) | skip)
            clear hA106
            refine Tw_all (rs := [11]) (by kernel_rfl) (by simp) (by decide) (fun hHeld => ?_)
            refine AllT.consL rfl (fun K hK => ?_) (AllT.nil)
            · have c0 := N1.out.cell 0
              have c1 := N1.out.cell 1
              have c2 := N1.out.cell 2
              have c3 := N1.out.cell 3
              have c4 := N1.out.cell 4
              have f0 := N1.out.frozen 0
              have f1 := N1.out.frozen 1
              have f2 := N1.out.frozen 2
              have f3 := N1.out.frozen 3
              have f4 := N1.out.frozen 4
              have zN := N1.out.lt
              go_simp
              refine hK.out _ _ ?_ ?_
              · exact HALL.out _ (Fr.off5 (n := 3) hHeld.1 zg.out (by intro b hb; simp only [List.mem_cons, List.not_mem_nil, or_false] at hb; rcases hb with rfl | rfl | rfl <;> (dsimp only; omega)) _ _ _ _ _)
              clear hK K c0 f0 c1 f1 c2 f2 c3 f3 c4 f4 zN
              have N1 := Lib.hid (Bk.set5 N1.out (.string ⟨#[]⟩) (.slice none 0 0) (.int .i64 0) (.int .i64 0) (.int .i64 0))
              (try simp only [Act.put, List.setIfInBounds_toArray, List.set_cons_zero, List.set_cons_succ])
              refine Tw_end (by kernel_rfl) (fun hh => ?_)
              obtain ⟨F11, _⟩ := hh
              clear HALL
              go_wp2_with fail
              go_meet
              exact ⟨_, rfl, rfl, F11.more N1.out⟩
        · go_simp
          refine hK.out _ _ ?_ ?_
          · (try dsimp only)
            ((go_split_ands; refine HALL.out _ ?_; (first | assumption | (repeat (first | assumption | refine Fr.new ?_ _ | refine Fr.drew ?_ | (refine Fr.set ?_ (by first | exact Nat.le_refl _ | omega | (simp; done) | (simp; omega)) (by first | (simp; done) | (simp; omega)) _))); done)))
          clear hK K
          (try simp only [Act.put, List.setIfInBounds_toArray, List.set_cons_zero, List.set_cons_succ])
          refine Tw_abs ?_
          intro wA108 hA108
          (first | (have N1 := Lib.hid (Bk.of_alloc hA108)) | (have N1 := Lib.hid (Bk.of_alloc_drew hA108)))
          have zg := Lib.hid (show w.heap.size + 3 ≤ _ from hHeld.1.top.lt)
          (first | (have L1 := Lib.hid (Lies.alloc hA108 L1.out)) | (have L1 := Lib.hid (Lies.alloc_drew hA108 L1.out)) | skip)
          clear hA108
          refine Tw_all (rs := [6]) (by kernel_rfl) (by simp) (by decide) (fun hHeld => ?_)
          refine AllT.consL rfl (fun K hK => ?_) (AllT.nil)
          · go_simp
            (go_at_call 39; go_split_ands; (refine (HCR.out _ _ (Fr.lies HA.out (by assumption)) L1.out).mono ?_); rintro e w7 ⟨rfl, hb7⟩; have F6 := Fr.call (by assumption) hb7; (first | (have N1 := Lib.hid (Bk.call N1.out hb7)) | skip); (first | (have L1 := Lib.hid (Lies.call L1.out hb7)) | skip); clear hb7)
            refine hK.out _ _ ?_ ?_
            · (try dsimp only)
              ((go_split_ands; refine HALL.out _ ?_; (first | assumption | (repeat (first | assumption | refine Fr.new ?_ _ | refine Fr.drew ?_ | (refine Fr.set ?_ (by first | exact Nat.le_refl _ | omega | (simp; done) | (simp; omega)) (by first | (simp; done) | (simp; omega)) _))); done)))
            clear hK K
            (try simp only [Act.put, List.setIfInBounds_toArray, List.set_cons_zero, List.set_cons_succ])
            refine Tw_takeL (i := 7) (v := ?tv104) rfl (by kernel_rfl) (by decide) (by kernel_rfl) (by kernel_rfl) (fun _ _ _ h => h) (by rfl) ?ty104 ?tn104
            case ty104 => (intro w hSw; (try dsimp only at hSw); go_simp <;> with_reducible rfl)
            (try simp only [Act.put, List.setIfInBounds_toArray, List.set_cons_zero, List.set_cons_succ])
            refine Tw_takeL (i := 8) (v := ?tv105) rfl (by kernel_rfl) (by decide) (by kernel_rfl) (by kernel_rfl) (fun _ _ _ h => h) (by rfl) ?ty105 ?tn105
            case ty105 => (intro w hSw; (try dsimp only at hSw); go_simp <;> with_reducible rfl)
            (try simp only [Act.put, List.setIfInBounds_toArray, List.set_cons_zero, List.set_cons_succ])
            refine Tw_takeL (i := 9) (v := ?tv106) rfl (by kernel_rfl) (by decide) (by kernel_rfl) (by kernel_rfl) (fun _ _ _ h => h) (by rfl) ?ty106 ?tn106
            case ty106 => (intro w hSw; (try dsimp only at hSw); go_simp <;> with_reducible rfl)
            (try simp only [Act.put, List.setIfInBounds_toArray, List.set_cons_zero, List.set_cons_succ])
            refine Tw_all (rs := [11]) (by kernel_rfl) (by simp) (by decide) (fun hHeld => ?_)
            refine AllT.consL rfl (fun K hK => ?_) (AllT.nil)
            · have c0 := N1.out.cell 0
              have c1 := N1.out.cell 1
              have c2 := N1.out.cell 2
              have c3 := N1.out.cell 3
              have c4 := N1.out.cell 4
              have f0 := N1.out.frozen 0
              have f1 := N1.out.frozen 1
              have f2 := N1.out.frozen 2
              have f3 := N1.out.frozen 3
              have f4 := N1.out.frozen 4
              have zN := N1.out.lt
              go_simp
              refine hK.out _ _ ?_ ?_
              · exact HALL.out _ (Fr.off5 (n := 3) hHeld.1 zg.out (by intro b hb; simp only [List.mem_cons, List.not_mem_nil, or_false] at hb; rcases hb with rfl | rfl | rfl <;> (dsimp only; omega)) _ _ _ _ _)
              clear hK K c0 f0 c1 f1 c2 f2 c3 f3 c4 f4 zN
              have N1 := Lib.hid (Bk.set5 N1.out (.string ⟨#[]⟩) (.slice none 0 0) (.int .i64 0) (.int .i64 0) (.int .i64 0))
              (try simp only [Act.put, List.setIfInBounds_toArray, List.set_cons_zero, List.set_cons_succ])
              refine Tw_end (by kernel_rfl) (fun hh => ?_)
              obtain ⟨F11, _⟩ := hh
              clear HALL
              go_wp2_with fail
              go_meet
              exact ⟨_, rfl, rfl, F11.more N1.out⟩
      · go_simp
        refine hK.out _ _ ?_ ?_
        · (try dsimp only)
          ((go_split_ands; refine HALL.out _ ?_; (first | assumption | (repeat (first | assumption | refine Fr.new ?_ _ | refine Fr.drew ?_ | (refine Fr.set ?_ (by first | exact Nat.le_refl _ | omega | (simp; done) | (simp; omega)) (by first | (simp; done) | (simp; omega)) _))); done)))
        clear hK K
        (try simp only [Act.put, List.setIfInBounds_toArray, List.set_cons_zero, List.set_cons_succ])
        refine Tw_abs ?_
        intro wA111 hA111
        (first | (have N1 := Lib.hid (Bk.of_alloc hA111)) | (have N1 := Lib.hid (Bk.of_alloc_drew hA111)))
        have zg := Lib.hid (show w.heap.size + 3 ≤ _ from hHeld.1.top.lt)
        (first | (have L1 := Lib.hid (Lies.alloc hA111 L1.out)) | (have L1 := Lib.hid (Lies.alloc_drew hA111 L1.out)) | skip)
        clear hA111
        refine Tw_all (rs := [5]) (by kernel_rfl) (by simp) (by decide) (fun hHeld => ?_)
        refine AllT.consL rfl (fun K hK => ?_) (AllT.nil)
        · go_simp
          refine hK.out _ _ ?_ ?_
          · (try dsimp only)
            ((go_split_ands; refine HALL.out _ ?_; (first | assumption | (repeat (first | assumption | refine Fr.new ?_ _ | refine Fr.drew ?_ | (refine Fr.set ?_ (by first | exact Nat.le_refl _ | omega | (simp; done) | (simp; omega)) (by first | (simp; done) | (simp; omega)) _))); done)))
          clear hK K
          (try simp only [Act.put, List.setIfInBounds_toArray, List.set_cons_zero, List.set_cons_succ])
          refine Tw_abs ?_
          intro wA112 hA112
          (first | (have N1 := Lib.hid (Bk.over_alloc hA112 N1.out)) | (have N1 := Lib.hid (Bk.over_alloc_drew hA112 N1.out)) | skip)
          (first | (have L1 := Lib.hid (fs_alloc (l := [e1]) hA112 (by simp [maxLen]))) | (have L1 := Lib.hid (fs_drew (l := [e1]) hA112 (by simp [maxLen]))))
          clear hA112
          refine Tw_all (rs := [6]) (by kernel_rfl) (by simp) (by decide) (fun hHeld => ?_)
          refine AllT.consL rfl (fun K hK => ?_) (AllT.nil)
          · go_simp
            (go_at_call 39; go_split_ands; (refine (HCR.out _ _ (Fr.lies HA.out (by assumption)) L1.out).mono ?_); rintro e w7 ⟨rfl, hb7⟩; have F6 := Fr.call (by assumption) hb7; (first | (have N1 := Lib.hid (Bk.call N1.out hb7)) | skip); (first | (have L1 := Lib.hid (Lies.call L1.out hb7)) | skip); clear hb7)
            refine hK.out _ _ ?_ ?_
            · (try dsimp only)
              ((go_split_ands; refine HALL.out _ ?_; (first | assumption | (repeat (first | assumption | refine Fr.new ?_ _ | refine Fr.drew ?_ | (refine Fr.set ?_ (by first | exact Nat.le_refl _ | omega | (simp; done) | (simp; omega)) (by first | (simp; done) | (simp; omega)) _))); done)))
            clear hK K
            (try simp only [Act.put, List.setIfInBounds_toArray, List.set_cons_zero, List.set_cons_succ])
            refine Tw_takeL (i := 7) (v := ?tv107) rfl (by kernel_rfl) (by decide) (by kernel_rfl) (by kernel_rfl) (fun _ _ _ h => h) (by rfl) ?ty107 ?tn107
            case ty107 => (intro w hSw; (try dsimp only at hSw); go_simp <;> with_reducible rfl)
            (try simp only [Act.put, List.setIfInBounds_toArray, List.set_cons_zero, List.set_cons_succ])
            refine Tw_takeL (i := 8) (v := ?tv108) rfl (by kernel_rfl) (by decide) (by kernel_rfl) (by kernel_rfl) (fun _ _ _ h => h) (by rfl) ?ty108 ?tn108
            case ty108 => (intro w hSw; (try dsimp only at hSw); go_simp <;> with_reducible rfl)
            (try simp only [Act.put, List.setIfInBounds_toArray, List.set_cons_zero, List.set_cons_succ])
            refine Tw_takeL (i := 9) (v := ?tv109) rfl (by kernel_rfl) (by decide) (by kernel_rfl) (by kernel_rfl) (fun _ _ _ h => h) (by rfl) ?ty109 ?tn109
            case ty109 => (intro w hSw; (try dsimp only at hSw); go_simp <;> with_reducible rfl)
            (try simp only [Act.put, List.setIfInBounds_toArray, List.set_cons_zero, List.set_cons_succ])
            refine Tw_all (rs := [11]) (by kernel_rfl) (by simp) (by decide) (fun hHeld => ?_)
            refine AllT.consL rfl (fun K hK => ?_) (AllT.nil)
            · have c0 := N1.out.cell 0
              have c1 := N1.out.cell 1
              have c2 := N1.out.cell 2
              have c3 := N1.out.cell 3
              have c4 := N1.out.cell 4
              have f0 := N1.out.frozen 0
              have f1 := N1.out.frozen 1
              have f2 := N1.out.frozen 2
              have f3 := N1.out.frozen 3
              have f4 := N1.out.frozen 4
              have zN := N1.out.lt
              go_simp
              refine hK.out _ _ ?_ ?_
              · exact HALL.out _ (Fr.off5 (n := 3) hHeld.1 zg.out (by intro b hb; simp only [List.mem_cons, List.not_mem_nil, or_false] at hb; rcases hb with rfl | rfl | rfl <;> (dsimp only; omega)) _ _ _ _ _)
              clear hK K c0 f0 c1 f1 c2 f2 c3 f3 c4 f4 zN
              have N1 := Lib.hid (Bk.set5 N1.out (.string ⟨#[]⟩) (.slice none 0 0) (.int .i64 0) (.int .i64 0) (.int .i64 0))
              (try simp only [Act.put, List.setIfInBounds_toArray, List.set_cons_zero, List.set_cons_succ])
              refine Tw_end (by kernel_rfl) (fun hh => ?_)
              obtain ⟨F11, _⟩ := hh
              clear HALL
              go_wp2_with fail
              go_meet
              exact ⟨_, rfl, rfl, F11.more N1.out⟩
    · go_simp
      refine hK.out _ _ ?_ ?_
      · (try dsimp only)
        ((go_split_ands; refine HALL.out _ ?_; (first | assumption | (repeat (first | assumption | refine Fr.new ?_ _ | refine Fr.drew ?_ | (refine Fr.set ?_ (by first | exact Nat.le_refl _ | omega | (simp; done) | (simp; omega)) (by first | (simp; done) | (simp; omega)) _))); done)))
      clear hK K
      (try simp only [Act.put, List.setIfInBounds_toArray, List.set_cons_zero, List.set_cons_succ])
      refine Tw_abs ?_
      intro wA115 hA115
      (first | (have N1 := Lib.hid (Bk.of_alloc hA115)) | (have N1 := Lib.hid (Bk.of_alloc_drew hA115)))
      have zg := Lib.hid (show w.heap.size + 3 ≤ _ from hHeld.1.top.lt)
      (first | (have L1 := Lib.hid (Lies.alloc hA115 L1.out)) | (have L1 := Lib.hid (Lies.alloc_drew hA115 L1.out)) | skip)
      clear hA115
      refine Tw_all (rs := [4]) (by kernel_rfl) (by simp) (by decide) (fun hHeld => ?_)
      refine AllT.consL rfl (fun K hK => ?_) (AllT.nil)
      · go_simp
        (go_at_call 43; go_split_ands; (with_reducible refine (errorOfPost_any s ps A c (by omega) p _).mono ?_); rintro e w7 ⟨rfl, hb7⟩; rw [HS1.out]; have F4 := Fr.call (by assumption) hb7; (first | (have N1 := Lib.hid (Bk.call N1.out hb7)) | skip); (first | (have L1 := Lib.hid (Lies.call L1.out hb7)) | skip); clear hb7)
        refine hK.out _ _ ?_ ?_
        · (try dsimp only)
          ((go_split_ands; refine HALL.out _ ?_; (first | assumption | (repeat (first | assumption | refine Fr.new ?_ _ | refine Fr.drew ?_ | (refine Fr.set ?_ (by first | exact Nat.le_refl _ | omega | (simp; done) | (simp; omega)) (by first | (simp; done) | (simp; omega)) _))); done)))
        clear hK K
        (try simp only [Act.put, List.setIfInBounds_toArray, List.set_cons_zero, List.set_cons_succ])
        refine Tw_all (rs := [5]) (by kernel_rfl) (by simp) (by decide) (fun hHeld => ?_)
        refine AllT.consL rfl (fun K hK => ?_) (AllT.nil)
        · go_simp
          refine hK.out _ _ ?_ ?_
          · (try dsimp only)
            ((go_split_ands; refine HALL.out _ ?_; (first | assumption | (repeat (first | assumption | refine Fr.new ?_ _ | refine Fr.drew ?_ | (refine Fr.set ?_ (by first | exact Nat.le_refl _ | omega | (simp; done) | (simp; omega)) (by first | (simp; done) | (simp; omega)) _))); done)))
          clear hK K
          (try simp only [Act.put, List.setIfInBounds_toArray, List.set_cons_zero, List.set_cons_succ])
          refine Tw_abs ?_
          intro wA117 hA117
          (first | (have N1 := Lib.hid (Bk.over_alloc hA117 N1.out)) | (have N1 := Lib.hid (Bk.over_alloc_drew hA117 N1.out)) | skip)
          (first | (have L1 := Lib.hid (fs_alloc (l := [e1]) hA117 (by simp [maxLen]))) | (have L1 := Lib.hid (fs_drew (l := [e1]) hA117 (by simp [maxLen]))))
          clear hA117
          refine Tw_all (rs := [6]) (by kernel_rfl) (by simp) (by decide) (fun hHeld => ?_)
          refine AllT.consL rfl (fun K hK => ?_) (AllT.nil)
          · go_simp
            (go_at_call 39; go_split_ands; (refine (HCR.out _ _ (Fr.lies HA.out (by assumption)) L1.out).mono ?_); rintro e w7 ⟨rfl, hb7⟩; have F6 := Fr.call (by assumption) hb7; (first | (have N1 := Lib.hid (Bk.call N1.out hb7)) | skip); (first | (have L1 := Lib.hid (Lies.call L1.out hb7)) | skip); clear hb7)
            refine hK.out _ _ ?_ ?_
            · (try dsimp only)
              ((go_split_ands; refine HALL.out _ ?_; (first | assumption | (repeat (first | assumption | refine Fr.new ?_ _ | refine Fr.drew ?_ | (refine Fr.set ?_ (by first | exact Nat.le_refl _ | omega | (simp; done) | (simp; omega)) (by first | (simp; done) | (simp; omega)) _))); done)))
            clear hK K
            (try simp only [Act.put, List.setIfInBounds_toArray, List.set_cons_zero, List.set_cons_succ])
            refine Tw_takeL (i := 7) (v := ?tv110) rfl (by kernel_rfl) (by decide) (by kernel_rfl) (by kernel_rfl) (fun _ _ _ h => h) (by rfl) ?ty110 ?tn110
            case ty110 => (intro w hSw; (try dsimp only at hSw); go_simp <;> with_reducible rfl)
            (try simp only [Act.put, List.setIfInBounds_toArray, List.set_cons_zero, List.set_cons_succ])
            refine Tw_takeL (i := 8) (v := ?tv111) rfl (by kernel_rfl) (by decide) (by kernel_rfl) (by kernel_rfl) (fun _ _ _ h => h) (by rfl) ?ty111 ?tn111
            case ty111 => (intro w hSw; (try dsimp only at hSw); go_simp <;> with_reducible rfl)
            (try simp only [Act.put, List.setIfInBounds_toArray, List.set_cons_zero, List.set_cons_succ])
            refine Tw_takeL (i := 9) (v := ?tv112) rfl (by kernel_rfl) (by decide) (by kernel_rfl) (by kernel_rfl) (fun _ _ _ h => h) (by rfl) ?ty112 ?tn112
            case ty112 => (intro w hSw; (try dsimp only at hSw); go_simp <;> with_reducible rfl)
            (try simp only [Act.put, List.setIfInBounds_toArray, List.set_cons_zero, List.set_cons_succ])
            refine Tw_all (rs := [11]) (by kernel_rfl) (by simp) (by decide) (fun hHeld => ?_)
            refine AllT.consL rfl (fun K hK => ?_) (AllT.nil)
            · have c0 := N1.out.cell 0
              have c1 := N1.out.cell 1
              have c2 := N1.out.cell 2
              have c3 := N1.out.cell 3
              have c4 := N1.out.cell 4
              have f0 := N1.out.frozen 0
              have f1 := N1.out.frozen 1
              have f2 := N1.out.frozen 2
              have f3 := N1.out.frozen 3
              have f4 := N1.out.frozen 4
              have zN := N1.out.lt
              go_simp
              refine hK.out _ _ ?_ ?_
              · exact HALL.out _ (Fr.off5 (n := 3) hHeld.1 zg.out (by intro b hb; simp only [List.mem_cons, List.not_mem_nil, or_false] at hb; rcases hb with rfl | rfl | rfl <;> (dsimp only; omega)) _ _ _ _ _)
              clear hK K c0 f0 c1 f1 c2 f2 c3 f3 c4 f4 zN
              have N1 := Lib.hid (Bk.set5 N1.out (.string ⟨#[]⟩) (.slice none 0 0) (.int .i64 0) (.int .i64 0) (.int .i64 0))
              (try simp only [Act.put, List.setIfInBounds_toArray, List.set_cons_zero, List.set_cons_succ])
              refine Tw_end (by kernel_rfl) (fun hh => ?_)
              obtain ⟨F11, _⟩ := hh
              clear HALL
              go_wp2_with fail
              go_meet
              exact ⟨_, rfl, rfl, F11.more N1.out⟩
  case rest =>
    obtain ⟨wx, rfl⟩ : ∃ W, W = wc := ⟨_, rfl⟩
    obtain ⟨g, rfl, rfl, hx⟩ := hcut
    have FC := Lib.hid hx
    clear hx F0
    go_wp2_with fail
    exact nopan_ret (v := .tuple #[.int .i64 0, .int .i64 er]) (by simp [results, Try.results11, go_sem]) rfl ⟨rfl, FC.out.bl⟩

set_option maxHeartbeats 8000000 in
set_option maxRecDepth 100000 in
theorem GreatestAt_ok (s : ByteArray) (hs : s.size ≤ maxLen) (ps : List Bp) (a : Addr) (c : Nat) (hl : ps.length ≤ 1000) (b : Bs) (hok : OkT s ps) (hb : OkS b) (hsb : sE b = 0) (p : Nat) (hp : p ≤ ps.length) (w : World) (hA : Lies w w.heap.size (some a) (ps.flatMap pc)) :
    Calls Try.prog 11 #[.agg #[.string s, .slice (some a) ps.length c], .agg #[.int .i64 b.brk, .int .i64 b.drag, .int .i64 b.drv], .int .i64 p] w fun e w' => e = .returned (.tuple (gtR (gtS ps b p ps.length))) ∧ Below w.heap.size w w' := by
  have hlm : ps.length ≤ maxLen := by unfold maxLen; omega
  have F0 := Lib.hid (Fr.b3 w 24 #[.string s, .slice (some a) ps.length c] 26 #[.int .i64 b.brk, .int .i64 b.drag, .int .i64 b.drv] 3 #[.int .i64 (p : Int)])
  have HA := Lib.hid hA
  have HOK := Lib.hid hok
  have HB := Lib.hid hb
  have h12 := hok.n12
  obtain ⟨e1, h1⟩ : ∃ e1, postE ps (p : Int) = e1 := ⟨_, rfl⟩
  have g1 : e1 = 0 := by rw [← h1]; unfold postE; rw [if_pos (inB_iff.2 (by omega))]
  have HN : nz ((trE s ps).2 :: sE b :: [e1]) = 0 := by rw [trE_ok hok, hsb, g1]; rfl
  have HCR : Hid (∀ (fa : Addr) (W : World), Lies W W.heap.size (some a) (ps.flatMap pc) → Lies W W.heap.size (some fa) (ic [e1]) → Calls Try.prog 39 #[.agg #[.string s, .slice (some a) ps.length c], .agg #[.int .i64 b.brk, .int .i64 b.drag, .int .i64 b.drv], .slice (some fa) 1 1] W fun e w' => e = .returned (.tuple #[.agg #[.string s, .slice (some a) ps.length c, .int .i64 b.brk, .int .i64 b.drag, .int .i64 b.drv], .int .i64 0]) ∧ Below W.heap.size W w') := Lib.hid (fun fa W h1 h2 => checkRide_ok s hs ps (some a) c hlm b [e1] fa 1 (by simp) (by simp) HN W h1 h2)
  have HS1 := Lib.hid h1
  clear hA h1 HN g1 hok hb hsb
  refine (callsIn_wide (n := 12)).1 ?_
  refine callsIn_of_wp_marks Try.func11 rfl trivial ?_ rfl
  simp only [Try.ntmps11, List.size_toArray, List.length_cons, List.length_nil, Nat.reduceAdd, Nat.reduceSub, Array.replicate_succ, Array.replicate_zero, List.push_toArray, List.append_toArray, List.nil_append, List.cons_append]
  refine wpIn_wide.2 ?_
  refine wp_mono ?_ nopan_to
  go_upto_region 1 with fail
  go_cut [8, 9] from 8 to 22 (fun pv rv W => ∃ g : Nat, pv = .pointer (some ⟨g, 0, none⟩) ∧ rv = .int .i64 0 ∧ Fr w W ((g, 77, #[.string s, .slice (some a) ps.length c, .int .i64 b.brk, .int .i64 b.drag, .int .i64 b.drv]) :: [(w.heap.size + 1 + 1, 3, #[.int .i64 (p : Int)]), (w.heap.size + 1, 26, #[.int .i64 b.brk, .int .i64 b.drag, .int .i64 b.drv]), (w.heap.size, 24, #[.string s, .slice (some a) ps.length c])]))
  case first =>
    refine wp_abs ?_
    intro w5 h5
    have HALL : Hid (∀ W, Fr w W [(w.heap.size + 1 + 1, 3, #[.int .i64 (p : Int)]), (w.heap.size + 1, 26, #[.int .i64 b.brk, .int .i64 b.drag, .int .i64 b.drv]), (w.heap.size, 24, #[.string s, .slice (some a) ps.length c])] → Fr w W [(w.heap.size + 1 + 1, 3, #[.int .i64 (p : Int)]), (w.heap.size + 1, 26, #[.int .i64 b.brk, .int .i64 b.drag, .int .i64 b.drv]), (w.heap.size, 24, #[.string s, .slice (some a) ps.length c])] ∧ W.cell? ⟨w.heap.size, 0, none⟩ = some (.string s) ∧ W.cell? ⟨w.heap.size, 1, none⟩ = some (.slice (some a) ps.length c) ∧ W.cell? ⟨w.heap.size + 1, 0, none⟩ = some (.int .i64 b.brk) ∧ W.cell? ⟨w.heap.size + 1, 1, none⟩ = some (.int .i64 b.drag) ∧ W.cell? ⟨w.heap.size + 1, 2, none⟩ = some (.int .i64 b.drv) ∧ W.cell? ⟨w.heap.size + 1 + 1, 0, none⟩ = some (.int .i64 (p : Int))) := Lib.hid (fun W hW => ⟨hW, hW.at2.cell 0, hW.at2.cell 1, hW.at1.cell 0, hW.at1.cell 1, hW.at1.cell 2, hW.top.cell 0⟩)
    have F10 : Fr w w5 [(w.heap.size + 1 + 1, 3, #[.int .i64 (p : Int)]), (w.heap.size + 1, 26, #[.int .i64 b.brk, .int .i64 b.drag, .int .i64 b.drv]), (w.heap.size, 24, #[.string s, .slice (some a) ps.length c])] := by subst h5; exact F0.out
    clear F0 h5
    refine Tw_start 12 (fun W => Fr w W [(w.heap.size + 1 + 1, 3, #[.int .i64 (p : Int)]), (w.heap.size + 1, 26, #[.int .i64 b.brk, .int .i64 b.drag, .int .i64 b.drv]), (w.heap.size, 24, #[.string s, .slice (some a) ps.length c])] ∧ W.cell? ⟨w.heap.size, 0, none⟩ = some (.string s) ∧ W.cell? ⟨w.heap.size, 1, none⟩ = some (.slice (some a) ps.length c) ∧ W.cell? ⟨w.heap.size + 1, 0, none⟩ = some (.int .i64 b.brk) ∧ W.cell? ⟨w.heap.size + 1, 1, none⟩ = some (.int .i64 b.drag) ∧ W.cell? ⟨w.heap.size + 1, 2, none⟩ = some (.int .i64 b.drv) ∧ W.cell? ⟨w.heap.size + 1 + 1, 0, none⟩ = some (.int .i64 (p : Int))) (by kernel_rfl) (by kernel_rfl) rfl ?_ ?_
    · (try dsimp only)
      ((go_split_ands; refine HALL.out _ ?_; (first | assumption | (repeat (first | assumption | refine Fr.new ?_ _ | refine Fr.drew ?_ | (refine Fr.set ?_ (by first | exact Nat.le_refl _ | omega | (simp; done) | (simp; omega)) (by first | (simp; done) | (simp; omega)) _))); done)))
    refine Tw_takeL (i := 0) (v := ?tv113) rfl (by kernel_rfl) (by decide) (by kernel_rfl) (by kernel_rfl) (fun _ _ _ h => h) (by rfl) ?ty113 ?tn113
    case ty113 => (intro w hSw; (try dsimp only at hSw); go_simp <;> with_reducible rfl)
    (try simp only [Act.put, List.setIfInBounds_toArray, List.set_cons_zero, List.set_cons_succ])
    refine Tw_takeL (i := 1) (v := ?tv114) rfl (by kernel_rfl) (by decide) (by kernel_rfl) (by kernel_rfl) (fun _ _ _ h => h) (by rfl) ?ty114 ?tn114
    case ty114 => (intro w hSw; (try dsimp only at hSw); go_simp <;> with_reducible rfl)
    (try simp only [Act.put, List.setIfInBounds_toArray, List.set_cons_zero, List.set_cons_succ])
    refine Tw_takeL (i := 2) (v := ?tv115) rfl (by kernel_rfl) (by decide) (by kernel_rfl) (by kernel_rfl) (fun _ _ _ h => h) (by rfl) ?ty115 ?tn115
    case ty115 => (intro w hSw; (try dsimp only at hSw); go_simp <;> with_reducible rfl)
    (try simp only [Act.put, List.setIfInBounds_toArray, List.set_cons_zero, List.set_cons_succ])
    refine Tw_takeL (i := 3) (v := ?tv116) rfl (by kernel_rfl) (by decide) (by kernel_rfl) (by kernel_rfl) (fun _ _ _ h => h) (by rfl) ?ty116 ?tn116
    case ty116 => (intro w hSw; (try dsimp only at hSw); go_simp <;> with_reducible rfl)
    (try simp only [Act.put, List.setIfInBounds_toArray, List.set_cons_zero, List.set_cons_succ])
    refine Tw_all (rs := [4, 10]) (by kernel_rfl) (by simp) (by decide) (fun hHeld => ?_)
    refine AllT.consL rfl (fun K hK => ?_) (AllT.consL rfl (fun K hK => ?_) (AllT.nil))
    · go_simp
      (go_at_call 43; go_split_ands; (with_reducible refine (errorOfPost_any s ps (some a) c (by omega) (p : Int) _).mono ?_); rintro e w7 ⟨rfl, hb7⟩; rw [HS1.out]; have F4 := Fr.call (by assumption) hb7; (first | (have N1 := Lib.hid (Bk.call N1.out hb7)) | skip); (first | (have L1 := Lib.hid (Lies.call L1.out hb7)) | skip); clear hb7)
      refine hK.out _ _ ?_ ?_
      · (try dsimp only)
        ((go_split_ands; refine HALL.out _ ?_; (first | assumption | (repeat (first | assumption | refine Fr.new ?_ _ | refine Fr.drew ?_ | (refine Fr.set ?_ (by first | exact Nat.le_refl _ | omega | (simp; done) | (simp; omega)) (by first | (simp; done) | (simp; omega)) _))); done)))
      clear hK K
      (try simp only [Act.put, List.setIfInBounds_toArray, List.set_cons_zero, List.set_cons_succ])
      refine Tw_all (rs := [5, 10]) (by kernel_rfl) (by simp) (by decide) (fun hHeld => ?_)
      refine AllT.consL rfl (fun K hK => ?_) (AllT.consL rfl (fun K hK => ?_) (AllT.nil))
      · go_simp
        refine hK.out _ _ ?_ ?_
        · (try dsimp only)
          ((go_split_ands; refine HALL.out _ ?_; (first | assumption | (repeat (first | assumption | refine Fr.new ?_ _ | refine Fr.drew ?_ | (refine Fr.set ?_ (by first | exact Nat.le_refl _ | omega | (simp; done) | (simp; omega)) (by first | (simp; done) | (simp; omega)) _))); done)))
        clear hK K
        (try simp only [Act.put, List.setIfInBounds_toArray, List.set_cons_zero, List.set_cons_succ])
        refine Tw_abs ?_
        intro wA121 hA121
        (first | (have N1 := Lib.hid (Bk.over_alloc hA121 N1.out)) | (have N1 := Lib.hid (Bk.over_alloc_drew hA121 N1.out)) | skip)
        (first | (have L1 := Lib.hid (fs_alloc (l := [e1]) hA121 (by simp [maxLen]))) | (have L1 := Lib.hid (fs_drew (l := [e1]) hA121 (by simp [maxLen]))))
        clear hA121
        refine Tw_all (rs := [6, 10]) (by kernel_rfl) (by simp) (by decide) (fun hHeld => ?_)
        refine AllT.consL rfl (fun K hK => ?_) (AllT.consL rfl (fun K hK => ?_) (AllT.nil))
        · go_simp
          (go_at_call 39; go_split_ands; (refine (HCR.out _ _ (Fr.lies HA.out (by assumption)) L1.out).mono ?_); rintro e w7 ⟨rfl, hb7⟩; have F6 := Fr.call (by assumption) hb7; (first | (have N1 := Lib.hid (Bk.call N1.out hb7)) | skip); (first | (have L1 := Lib.hid (Lies.call L1.out hb7)) | skip); clear hb7)
          refine hK.out _ _ ?_ ?_
          · (try dsimp only)
            ((go_split_ands; refine HALL.out _ ?_; (first | assumption | (repeat (first | assumption | refine Fr.new ?_ _ | refine Fr.drew ?_ | (refine Fr.set ?_ (by first | exact Nat.le_refl _ | omega | (simp; done) | (simp; omega)) (by first | (simp; done) | (simp; omega)) _))); done)))
          clear hK K
          (try simp only [Act.put, List.setIfInBounds_toArray, List.set_cons_zero, List.set_cons_succ])
          refine Tw_takeL (i := 7) (v := ?tv117) rfl (by kernel_rfl) (by decide) (by kernel_rfl) (by kernel_rfl) (fun _ _ _ h => h) (by rfl) ?ty117 ?tn117
          case ty117 => (intro w hSw; (try dsimp only at hSw); go_simp <;> with_reducible rfl)
          (try simp only [Act.put, List.setIfInBounds_toArray, List.set_cons_zero, List.set_cons_succ])
          refine Tw_takeL (i := 8) (v := ?tv118) rfl (by kernel_rfl) (by decide) (by kernel_rfl) (by kernel_rfl) (fun _ _ _ h => h) (by rfl) ?ty118 ?tn118
          case ty118 => (intro w hSw; (try dsimp only at hSw); go_simp <;> with_reducible rfl)
          (try simp only [Act.put, List.setIfInBounds_toArray, List.set_cons_zero, List.set_cons_succ])
          refine Tw_takeL (i := 9) (v := ?tv119) rfl (by kernel_rfl) (by decide) (by kernel_rfl) (by kernel_rfl) (fun _ _ _ h => h) (by rfl) ?ty119 ?tn119
          case ty119 => (intro w hSw; (try dsimp only at hSw); go_simp <;> with_reducible rfl)
          (try simp only [Act.put, List.setIfInBounds_toArray, List.set_cons_zero, List.set_cons_succ])
          refine Tw_all (rs := [10]) (by kernel_rfl) (by simp) (by decide) (fun hHeld => ?_)
          refine AllT.consL rfl (fun K hK => ?_) (AllT.nil)
          · go_simp
            refine hK.out _ _ ?_ ?_
            · (try dsimp only)
              ((go_split_ands; refine HALL.out _ ?_; (first | assumption | (repeat (first | assumption | refine Fr.new ?_ _ | refine Fr.drew ?_ | (refine Fr.set ?_ (by first | exact Nat.le_refl _ | omega | (simp; done) | (simp; omega)) (by first | (simp; done) | (simp; omega)) _))); done)))
            clear hK K
            (try simp only [Act.put, List.setIfInBounds_toArray, List.set_cons_zero, List.set_cons_succ])
            refine Tw_abs ?_
            intro wA123 hA123
            (first | (have N1 := Lib.hid (Bk.of_alloc hA123)) | (have N1 := Lib.hid (Bk.of_alloc_drew hA123)))
            have zg := Lib.hid (show w.heap.size + 3 ≤ _ from hHeld.1.top.lt)
            (first | (have L1 := Lib.hid (Lies.alloc hA123 L1.out)) | (have L1 := Lib.hid (Lies.alloc_drew hA123 L1.out)) | skip)
            clear hA123
            refine Tw_all (rs := [11]) (by kernel_rfl) (by simp) (by decide) (fun hHeld => ?_)
            refine AllT.consL rfl (fun K hK => ?_) (AllT.nil)
            · have c0 := N1.out.cell 0
              have c1 := N1.out.cell 1
              have c2 := N1.out.cell 2
              have c3 := N1.out.cell 3
              have c4 := N1.out.cell 4
              have f0 := N1.out.frozen 0
              have f1 := N1.out.frozen 1
              have f2 := N1.out.frozen 2
              have f3 := N1.out.frozen 3
              have f4 := N1.out.frozen 4
              have zN := N1.out.lt
              go_simp
              refine hK.out _ _ ?_ ?_
              · exact HALL.out _ (Fr.off5 (n := 3) hHeld.1 zg.out (by intro b hb; simp only [List.mem_cons, List.not_mem_nil, or_false] at hb; rcases hb with rfl | rfl | rfl <;> (dsimp only; omega)) _ _ _ _ _)
              clear hK K c0 f0 c1 f1 c2 f2 c3 f3 c4 f4 zN
              have N1 := Lib.hid (Bk.set5 N1.out (.string s) (.slice (some a) ps.length c) (.int .i64 b.brk) (.int .i64 b.drag) (.int .i64 b.drv))
              (try simp only [Act.put, List.setIfInBounds_toArray, List.set_cons_zero, List.set_cons_succ])
              refine Tw_end (by kernel_rfl) (fun hh => ?_)
              obtain ⟨F11, _⟩ := hh
              clear HALL
              go_wp2_with fail
              go_meet
              exact ⟨_, rfl, rfl, F11.more N1.out⟩
        · go_simp
          refine hK.out _ _ ?_ ?_
          · (try dsimp only)
            ((go_split_ands; refine HALL.out _ ?_; (first | assumption | (repeat (first | assumption | refine Fr.new ?_ _ | refine Fr.drew ?_ | (refine Fr.set ?_ (by first | exact Nat.le_refl _ | omega | (simp; done) | (simp; omega)) (by first | (simp; done) | (simp; omega)) _))); done)))
          clear hK K
          (try simp only [Act.put, List.setIfInBounds_toArray, List.set_cons_zero, List.set_cons_succ])
          refine Tw_abs ?_
          intro wA125 hA125
          (first | (have N1 := Lib.hid (Bk.of_alloc hA125)) | (have N1 := Lib.hid (Bk.of_alloc_drew hA125)))
          have zg := Lib.hid (show w.heap.size + 3 ≤ _ from hHeld.1.top.lt)
          (first | (have L1 := Lib.hid (Lies.alloc hA125 L1.out)) | (have L1 := Lib.hid (Lies.alloc_drew hA125 L1.out)) | skip)
          clear hA125
          refine Tw_all (rs := [6]) (by kernel_rfl) (by simp) (by decide) (fun hHeld => ?_)
          refine AllT.consL rfl (fun K hK => ?_) (AllT.nil)
          · go_simp
            (go_at_call 39; go_split_ands; (refine (HCR.out _ _ (Fr.lies HA.out (by assumption)) L1.out).mono ?_); rintro e w7 ⟨rfl, hb7⟩; have F6 := Fr.call (by assumption) hb7; (first | (have N1 := Lib.hid (Bk.call N1.out hb7)) | skip); (first | (have L1 := Lib.hid (Lies.call L1.out hb7)) | skip); clear hb7)
            refine hK.out _ _ ?_ ?_
            · (try dsimp only)
              ((go_split_ands; refine HALL.out _ ?_; (first | assumption | (repeat (first | assumption | refine Fr.new ?_ _ | refine Fr.drew ?_ | (refine Fr.set ?_ (by first | exact Nat.le_refl _ | omega | (simp; done) | (simp; omega)) (by first | (simp; done) | (simp; omega)) _))); done)))
            clear hK K
            (try simp only [Act.put, List.setIfInBounds_toArray, List.set_cons_zero, List.set_cons_succ])
            refine Tw_takeL (i := 7) (v := ?tv120) rfl (by kernel_rfl) (by decide) (by kernel_rfl) (by kernel_rfl) (fun _ _ _ h => h) (by rfl) ?ty120 ?tn120
            case ty120 => (intro w hSw; (try dsimp only at hSw); go_simp <;> with_reducible rfl)
            (try simp only [Act.put, List.setIfInBounds_toArray, List.set_cons_zero, List.set_cons_succ])
            refine Tw_takeL (i := 8) (v := ?tv121) rfl (by kernel_rfl) (by decide) (by kernel_rfl) (by kernel_rfl) (fun _ _ _ h => h) (by rfl) ?ty121 ?tn121
            case ty121 => (intro w hSw; (try dsimp only at hSw); go_simp <;> with_reducible rfl)
            (try simp only [Act.put, List.setIfInBounds_toArray, List.set_cons_zero, List.set_cons_succ])
            refine Tw_takeL (i := 9) (v := ?tv122) rfl (by kernel_rfl) (by decide) (by kernel_rfl) (by kernel_rfl) (fun _ _ _ h => h) (by rfl) ?ty122 ?tn122
            case ty122 => (intro w hSw; (try dsimp only at hSw); go_simp <;> with_reducible rfl)
            (try simp only [Act.put, List.setIfInBounds_toArray, List.set_cons_zero, List.set_cons_succ])
            refine Tw_all (rs := [11]) (by kernel_rfl) (by simp) (by decide) (fun hHeld => ?_)
            refine AllT.consL rfl (fun K hK => ?_) (AllT.nil)
            · have c0 := N1.out.cell 0
              have c1 := N1.out.cell 1
              have c2 := N1.out.cell 2
              have c3 := N1.out.cell 3
              have c4 := N1.out.cell 4
              have f0 := N1.out.frozen 0
              have f1 := N1.out.frozen 1
              have f2 := N1.out.frozen 2
              have f3 := N1.out.frozen 3
              have f4 := N1.out.frozen 4
              have zN := N1.out.lt
              go_simp
              refine hK.out _ _ ?_ ?_
              · exact HALL.out _ (Fr.off5 (n := 3) hHeld.1 zg.out (by intro b hb; simp only [List.mem_cons, List.not_mem_nil, or_false] at hb; rcases hb with rfl | rfl | rfl <;> (dsimp only; omega)) _ _ _ _ _)
              clear hK K c0 f0 c1 f1 c2 f2 c3 f3 c4 f4 zN
              have N1 := Lib.hid (Bk.set5 N1.out (.string s) (.slice (some a) ps.length c) (.int .i64 b.brk) (.int .i64 b.drag) (.int .i64 b.drv))
              (try simp only [Act.put, List.setIfInBounds_toArray, List.set_cons_zero, List.set_cons_succ])
              refine Tw_end (by kernel_rfl) (fun hh => ?_)
              obtain ⟨F11, _⟩ := hh
              clear HALL
              go_wp2_with fail
              go_meet
              exact ⟨_, rfl, rfl, F11.more N1.out⟩
      · go_simp
        refine hK.out _ _ ?_ ?_
        · (try dsimp only)
          ((go_split_ands; refine HALL.out _ ?_; (first | assumption | (repeat (first | assumption | refine Fr.new ?_ _ | refine Fr.drew ?_ | (refine Fr.set ?_ (by first | exact Nat.le_refl _ | omega | (simp; done) | (simp; omega)) (by first | (simp; done) | (simp; omega)) _))); done)))
        clear hK K
        (try simp only [Act.put, List.setIfInBounds_toArray, List.set_cons_zero, List.set_cons_succ])
        refine Tw_abs ?_
        intro wA128 hA128
        (first | (have N1 := Lib.hid (Bk.of_alloc hA128)) | (have N1 := Lib.hid (Bk.of_alloc_drew hA128)))
        have zg := Lib.hid (show w.heap.size + 3 ≤ _ from hHeld.1.top.lt)
        (first | (have L1 := Lib.hid (Lies.alloc hA128 L1.out)) | (have L1 := Lib.hid (Lies.alloc_drew hA128 L1.out)) | skip)
        clear hA128
        refine Tw_all (rs := [5]) (by kernel_rfl) (by simp) (by decide) (fun hHeld => ?_)
        refine AllT.consL rfl (fun K hK => ?_) (AllT.nil)
        · go_simp
          refine hK.out _ _ ?_ ?_
          · (try dsimp only)
            ((go_split_ands; refine HALL.out _ ?_; (first | assumption | (repeat (first | assumption | refine Fr.new ?_ _ | refine Fr.drew ?_ | (refine Fr.set ?_ (by first | exact Nat.le_refl _ | omega | (simp; done) | (simp; omega)) (by first | (simp; done) | (simp; omega)) _))); done)))
          clear hK K
          (try simp only [Act.put, List.setIfInBounds_toArray, List.set_cons_zero, List.set_cons_succ])
          refine Tw_abs ?_
          intro wA129 hA129
          (first | (have N1 := Lib.hid (Bk.over_alloc hA129 N1.out)) | (have N1 := Lib.hid (Bk.over_alloc_drew hA129 N1.out)) | skip)
          (first | (have L1 := Lib.hid (fs_alloc (l := [e1]) hA129 (by simp [maxLen]))) | (have L1 := Lib.hid (fs_drew (l := [e1]) hA129 (by simp [maxLen]))))
          clear hA129
          refine Tw_all (rs := [6]) (by kernel_rfl) (by simp) (by decide) (fun hHeld => ?_)
          refine AllT.consL rfl (fun K hK => ?_) (AllT.nil)
          · go_simp
            (go_at_call 39; go_split_ands; (refine (HCR.out _ _ (Fr.lies HA.out (by assumption)) L1.out).mono ?_); rintro e w7 ⟨rfl, hb7⟩; have F6 := Fr.call (by assumption) hb7; (first | (have N1 := Lib.hid (Bk.call N1.out hb7)) | skip); (first | (have L1 := Lib.hid (Lies.call L1.out hb7)) | skip); clear hb7)
            refine hK.out _ _ ?_ ?_
            · (try dsimp only)
              ((go_split_ands; refine HALL.out _ ?_; (first | assumption | (repeat (first | assumption | refine Fr.new ?_ _ | refine Fr.drew ?_ | (refine Fr.set ?_ (by first | exact Nat.le_refl _ | omega | (simp; done) | (simp; omega)) (by first | (simp; done) | (simp; omega)) _))); done)))
            clear hK K
            (try simp only [Act.put, List.setIfInBounds_toArray, List.set_cons_zero, List.set_cons_succ])
            refine Tw_takeL (i := 7) (v := ?tv123) rfl (by kernel_rfl) (by decide) (by kernel_rfl) (by kernel_rfl) (fun _ _ _ h => h) (by rfl) ?ty123 ?tn123
            case ty123 => (intro w hSw; (try dsimp only at hSw); go_simp <;> with_reducible rfl)
            (try simp only [Act.put, List.setIfInBounds_toArray, List.set_cons_zero, List.set_cons_succ])
            refine Tw_takeL (i := 8) (v := ?tv124) rfl (by kernel_rfl) (by decide) (by kernel_rfl) (by kernel_rfl) (fun _ _ _ h => h) (by rfl) ?ty124 ?tn124
            case ty124 => (intro w hSw; (try dsimp only at hSw); go_simp <;> with_reducible rfl)
            (try simp only [Act.put, List.setIfInBounds_toArray, List.set_cons_zero, List.set_cons_succ])
            refine Tw_takeL (i := 9) (v := ?tv125) rfl (by kernel_rfl) (by decide) (by kernel_rfl) (by kernel_rfl) (fun _ _ _ h => h) (by rfl) ?ty125 ?tn125
            case ty125 => (intro w hSw; (try dsimp only at hSw); go_simp <;> with_reducible rfl)
            (try simp only [Act.put, List.setIfInBounds_toArray, List.set_cons_zero, List.set_cons_succ])
            refine Tw_all (rs := [11]) (by kernel_rfl) (by simp) (by decide) (fun hHeld => ?_)
            refine AllT.consL rfl (fun K hK => ?_) (AllT.nil)
            · have c0 := N1.out.cell 0
              have c1 := N1.out.cell 1
              have c2 := N1.out.cell 2
              have c3 := N1.out.cell 3
              have c4 := N1.out.cell 4
              have f0 := N1.out.frozen 0
              have f1 := N1.out.frozen 1
              have f2 := N1.out.frozen 2
              have f3 := N1.out.frozen 3
              have f4 := N1.out.frozen 4
              have zN := N1.out.lt
              go_simp
              refine hK.out _ _ ?_ ?_
              · exact HALL.out _ (Fr.off5 (n := 3) hHeld.1 zg.out (by intro b hb; simp only [List.mem_cons, List.not_mem_nil, or_false] at hb; rcases hb with rfl | rfl | rfl <;> (dsimp only; omega)) _ _ _ _ _)
              clear hK K c0 f0 c1 f1 c2 f2 c3 f3 c4 f4 zN
              have N1 := Lib.hid (Bk.set5 N1.out (.string s) (.slice (some a) ps.length c) (.int .i64 b.brk) (.int .i64 b.drag) (.int .i64 b.drv))
              (try simp only [Act.put, List.setIfInBounds_toArray, List.set_cons_zero, List.set_cons_succ])
              refine Tw_end (by kernel_rfl) (fun hh => ?_)
              obtain ⟨F11, _⟩ := hh
              clear HALL
              go_wp2_with fail
              go_meet
              exact ⟨_, rfl, rfl, F11.more N1.out⟩
    · go_simp
      refine hK.out _ _ ?_ ?_
      · (try dsimp only)
        ((go_split_ands; refine HALL.out _ ?_; (first | assumption | (repeat (first | assumption | refine Fr.new ?_ _ | refine Fr.drew ?_ | (refine Fr.set ?_ (by first | exact Nat.le_refl _ | omega | (simp; done) | (simp; omega)) (by first | (simp; done) | (simp; omega)) _))); done)))
      clear hK K
      (try simp only [Act.put, List.setIfInBounds_toArray, List.set_cons_zero, List.set_cons_succ])
      refine Tw_abs ?_
      intro wA132 hA132
      (first | (have N1 := Lib.hid (Bk.of_alloc hA132)) | (have N1 := Lib.hid (Bk.of_alloc_drew hA132)))
      have zg := Lib.hid (show w.heap.size + 3 ≤ _ from hHeld.1.top.lt)
      (first | (have L1 := Lib.hid (Lies.alloc hA132 L1.out)) | (have L1 := Lib.hid (Lies.alloc_drew hA132 L1.out)) | skip)
      clear hA132
      refine Tw_all (rs := [4]) (by kernel_rfl) (by simp) (by decide) (fun hHeld => ?_)
      refine AllT.consL rfl (fun K hK => ?_) (AllT.nil)
      · go_simp
        (go_at_call 43; go_split_ands; (with_reducible refine (errorOfPost_any s ps (some a) c (by omega) (p : Int) _).mono ?_); rintro e w7 ⟨rfl, hb7⟩; rw [HS1.out]; have F4 := Fr.call (by assumption) hb7; (first | (have N1 := Lib.hid (Bk.call N1.out hb7)) | skip); (first | (have L1 := Lib.hid (Lies.call L1.out hb7)) | skip); clear hb7)
        refine hK.out _ _ ?_ ?_
        · (try dsimp only)
          ((go_split_ands; refine HALL.out _ ?_; (first | assumption | (repeat (first | assumption | refine Fr.new ?_ _ | refine Fr.drew ?_ | (refine Fr.set ?_ (by first | exact Nat.le_refl _ | omega | (simp; done) | (simp; omega)) (by first | (simp; done) | (simp; omega)) _))); done)))
        clear hK K
        (try simp only [Act.put, List.setIfInBounds_toArray, List.set_cons_zero, List.set_cons_succ])
        refine Tw_all (rs := [5]) (by kernel_rfl) (by simp) (by decide) (fun hHeld => ?_)
        refine AllT.consL rfl (fun K hK => ?_) (AllT.nil)
        · go_simp
          refine hK.out _ _ ?_ ?_
          · (try dsimp only)
            ((go_split_ands; refine HALL.out _ ?_; (first | assumption | (repeat (first | assumption | refine Fr.new ?_ _ | refine Fr.drew ?_ | (refine Fr.set ?_ (by first | exact Nat.le_refl _ | omega | (simp; done) | (simp; omega)) (by first | (simp; done) | (simp; omega)) _))); done)))
          clear hK K
          (try simp only [Act.put, List.setIfInBounds_toArray, List.set_cons_zero, List.set_cons_succ])
          refine Tw_abs ?_
          intro wA134 hA134
          (first | (have N1 := Lib.hid (Bk.over_alloc hA134 N1.out)) | (have N1 := Lib.hid (Bk.over_alloc_drew hA134 N1.out)) | skip)
          (first | (have L1 := Lib.hid (fs_alloc (l := [e1]) hA134 (by simp [maxLen]))) | (have L1 := Lib.hid (fs_drew (l := [e1]) hA134 (by simp [maxLen]))))
          clear hA134
          refine Tw_all (rs := [6]) (by kernel_rfl) (by simp) (by decide) (fun hHeld => ?_)
          refine AllT.consL rfl (fun K hK => ?_) (AllT.nil)
          · go_simp
            (go_at_call 39; go_split_ands; (refine (HCR.out _ _ (Fr.lies HA.out (by assumption)) L1.out).mono ?_); rintro e w7 ⟨rfl, hb7⟩; have F6 := Fr.call (by assumption) hb7; (first | (have N1 := Lib.hid (Bk.call N1.out hb7)) | skip); (first | (have L1 := Lib.hid (Lies.call L1.out hb7)) | skip); clear hb7)
            refine hK.out _ _ ?_ ?_
            · (try dsimp only)
              ((go_split_ands; refine HALL.out _ ?_; (first | assumption | (repeat (first | assumption | refine Fr.new ?_ _ | refine Fr.drew ?_ | (refine Fr.set ?_ (by first | exact Nat.le_refl _ | omega | (simp; done) | (simp; omega)) (by first | (simp; done) | (simp; omega)) _))); done)))
            clear hK K
            (try simp only [Act.put, List.setIfInBounds_toArray, List.set_cons_zero, List.set_cons_succ])
            refine Tw_takeL (i := 7) (v := ?tv126) rfl (by kernel_rfl) (by decide) (by kernel_rfl) (by kernel_rfl) (fun _ _ _ h => h) (by rfl) ?ty126 ?tn126
            case ty126 => (intro w hSw; (try dsimp only at hSw); go_simp <;> with_reducible rfl)
            (try simp only [Act.put, List.setIfInBounds_toArray, List.set_cons_zero, List.set_cons_succ])
            refine Tw_takeL (i := 8) (v := ?tv127) rfl (by kernel_rfl) (by decide) (by kernel_rfl) (by kernel_rfl) (fun _ _ _ h => h) (by rfl) ?ty127 ?tn127
            case ty127 => (intro w hSw; (try dsimp only at hSw); go_simp <;> with_reducible rfl)
            (try simp only [Act.put, List.setIfInBounds_toArray, List.set_cons_zero, List.set_cons_succ])
            refine Tw_takeL (i := 9) (v := ?tv128) rfl (by kernel_rfl) (by decide) (by kernel_rfl) (by kernel_rfl) (fun _ _ _ h => h) (by rfl) ?ty128 ?tn128
            case ty128 => (intro w hSw; (try dsimp only at hSw); go_simp <;> with_reducible rfl)
            (try simp only [Act.put, List.setIfInBounds_toArray, List.set_cons_zero, List.set_cons_succ])
            refine Tw_all (rs := [11]) (by kernel_rfl) (by simp) (by decide) (fun hHeld => ?_)
            refine AllT.consL rfl (fun K hK => ?_) (AllT.nil)
            · have c0 := N1.out.cell 0
              have c1 := N1.out.cell 1
              have c2 := N1.out.cell 2
              have c3 := N1.out.cell 3
              have c4 := N1.out.cell 4
              have f0 := N1.out.frozen 0
              have f1 := N1.out.frozen 1
              have f2 := N1.out.frozen 2
              have f3 := N1.out.frozen 3
              have f4 := N1.out.frozen 4
              have zN := N1.out.lt
              go_simp
              refine hK.out _ _ ?_ ?_
              · exact HALL.out _ (Fr.off5 (n := 3) hHeld.1 zg.out (by intro b hb; simp only [List.mem_cons, List.not_mem_nil, or_false] at hb; rcases hb with rfl | rfl | rfl <;> (dsimp only; omega)) _ _ _ _ _)
              clear hK K c0 f0 c1 f1 c2 f2 c3 f3 c4 f4 zN
              have N1 := Lib.hid (Bk.set5 N1.out (.string s) (.slice (some a) ps.length c) (.int .i64 b.brk) (.int .i64 b.drag) (.int .i64 b.drv))
              (try simp only [Act.put, List.setIfInBounds_toArray, List.set_cons_zero, List.set_cons_succ])
              refine Tw_end (by kernel_rfl) (fun hh => ?_)
              obtain ⟨F11, _⟩ := hh
              clear HALL
              go_wp2_with fail
              go_meet
              exact ⟨_, rfl, rfl, F11.more N1.out⟩
  case rest =>
    obtain ⟨wx, rfl⟩ : ∃ W, W = wc := ⟨_, rfl⟩
    obtain ⟨g, rfl, rfl, hx⟩ := hcut
    have FC := Lib.hid hx
    clear hx F0
    have hg1 : g < wx.heap.size := FC.out.top.lt
    have hg2 : w.heap.size + 3 ≤ wx.heap.size := by have := (FC.out.get 1 rfl).lt; omega
    have q0 := FC.out.top.cell 0
    have q1 := FC.out.top.cell 1
    have x0 := (FC.out.get 1 rfl).cell 0
    have q2 := ((FC.out.get 1 rfl).alloc (.cells #[.int .i64 (-1)] 3)).cell 0
    have r0 := (FC.out.top.alloc (.cells #[.int .i64 (-1)] 3)).cell 0
    have r1 := (FC.out.top.alloc (.cells #[.int .i64 (-1)] 3)).cell 1
    go_wp2_with fail
    refine (stops_any s (some a) ps.length c p _).mono ?_
    rintro e w2 ⟨rfl, hw2⟩
    have F2 : Hid (Fr w w2 [(wx.heap.size + 1 + 1, 3, #[.int .i64 (p : Int)]), (wx.heap.size + 1, 75, #[.string s, .slice (some a) ps.length c]), (wx.heap.size, 3, #[.int .i64 (-1)]), (g, 77, #[.string s, .slice (some a) ps.length c, .int .i64 b.brk, .int .i64 b.drag, .int .i64 b.drv]), (w.heap.size + 1 + 1, 3, #[.int .i64 (p : Int)]), (w.heap.size + 1, 26, #[.int .i64 b.brk, .int .i64 b.drag, .int .i64 b.drv]), (w.heap.size, 24, #[.string s, .slice (some a) ps.length c])]) := Lib.hid (by
      rw [hw2]
      have := ((FC.out.box 3 #[.int .i64 (-1)]).box 75 #[.string s, .slice (some a) ps.length c]).box 3 #[.int .i64 (p : Int)]
      simpa using this)
    have hz2 : w2.heap.size = wx.heap.size + 3 := by rw [hw2]; simp
    have hs2 : wx.heap.size + 3 ≤ w2.heap.size := by omega
    have L2 := Lib.hid ((HA.out.below (F2.out.bl)))
    clear hw2 hz2 FC q0 q1 x0 q2 r0 r1
    go_wp2_with fail
    refine (wpIn_wide (n := 12)).1 ?_
    refine wpIn_rangeFunc_ownH (α := Sp ps p) rfl (by decide) (gf := 76) (lb := #[.pointer (some ⟨wx.heap.size + 1 + 1, 0, none⟩), .pointer (some ⟨wx.heap.size + 1, 0, none⟩)]) rfl trivial (enters_of Try.func76 (by kernel_rfl) rfl)
      (encs := fun x => #[.int .i64 (x.1 : Int)]) (Kp := But wx.heap.size w2.heap.size) (S := fun ys => ys = stL ps p ps.length) (Sp := fun pre => ∃ k, k ≤ ps.length ∧ pre = stL ps p k) (N := ps.length) (w0 := w2)
      (fun l J Jx W hW hJ _ hY h0 => stops1_but (12 - 1) (by decide) s ps (some a) c h12 p hp l (wx.heap.size + 1) w2.heap.size wx.heap.size w.heap.size (by omega) (by omega) J Jx
        (fun s A B hs hb => hJ s A B none hs (grown_of_below hb) (fun r e => by cases e)) hY W (by omega) hW.size ((F2.out.get 1 rfl).below hW (by omega)) ((F2.out.get 0 rfl).below hW (by omega)) (L2.out.below (hW.mono (by omega))) h0)
      butK_t (butK_b (Nat.le_refl _)) (Below.refl _ _) (fun _ => rfl)
      (fun pre W => Bk W wx.heap.size 3 #[.int .i64 (grL b pre)] ∧ But wx.heap.size w2.heap.size w2 W)
      (fun _ _ _ => False)
      (OwnFrom.and (fun s A B row hs hg hr => hs.kept hg (fun r e => (hr r e).2)) (ownFrom_but (Nat.le_refl _) (Nat.le_refl _)))
      (fun c s A B row hs hg hr => hs)
      ⟨F2.out.get 2 rfl, But.refl _ _ _⟩
      (fun x a' _ => a' = { tmps := #[.agg #[.string s, .slice (some a) ps.length c], .agg #[.int .i64 b.brk, .int .i64 b.drag, .int .i64 b.drv], .int .i64 p, .pointer (some ⟨w.heap.size, 0, none⟩), .pointer (some ⟨w.heap.size + 1, 0, none⟩), .pointer (some ⟨w.heap.size + 1 + 1, 0, none⟩), .int .i64 0, .int .i64 0, .pointer (some ⟨g, 0, none⟩), .int .i64 0, .pointer (some ⟨wx.heap.size, 0, none⟩), .int .i64 (x.1 : Int), u12, u13, u14, u15, u16, u17, u18, u19, u20, u21, u22, .int .i64 0, .bool false, undef, .pointer (some ⟨g, 0, none⟩), .agg #[.string s, .slice (some a) ps.length c], .int .i64 p, .func (.func 76) #[] #[.pointer (some ⟨wx.heap.size + 1 + 1, 0, none⟩), .pointer (some ⟨wx.heap.size + 1, 0, none⟩)], .int .i64 (x.1 : Int), undef, undef, undef, undef, undef, undef, undef, undef, undef, undef, undef, undef, undef, undef, undef, undef, undef, undef, undef], defers := [] })
      (fun _ _ _ _ _ _ hs _ _ => hs)
      ?assign ?body ?done ?stop
    case assign =>
      rintro l pre x W K hi hK
      gi_wp2
      exact hK _ _ (KeepsFrom.refl _ _) (But.refl _ _ _) hi rfl
    case body =>
      rintro l pre x a' W hl _ ⟨hbk, hB⟩ rfl hlt
      have HBW := Lib.hid hB
      have HBK := Lib.hid hbk
      have hBs := hB.size
      have hd : 1 ≤ 12 - 1 - 1 := by decide
      have BW := Lib.hid (F2.out.bl.trans (hB.low (show w.heap.size ≤ wx.heap.size by omega) (by omega)))
      have LW := Lib.hid ((HA.out.below BW.out).more (show w.heap.size ≤ W.heap.size by omega))
      have R4 := Lib.hid ((F2.out.get 3 rfl).but hB (by omega) (by omega))
      have X4 := Lib.hid ((F2.out.get 4 rfl).but hB (by omega) (by omega))
      have r0 := R4.out.cell 0
      have r1 := R4.out.cell 1
      have r2 := R4.out.cell 2
      have r3 := R4.out.cell 3
      have r4 := R4.out.cell 4
      have x0 := X4.out.cell 0
      have z4 := X4.out.lt
      have z5 := R4.out.lt
      have hpi : (p : Int) < (x.1 : Int) + 2 := by have := x.2.1; omega
      have hpn : p < x.1 + 2 := by have := x.2.1; omega
      have HGS := Lib.hid (grL_snoc b pre x)
      have hcb := crvV_bound HOK.out.each b.brk x.1 p
      have hgb := grL_in HOK.out.each b pre
      have HCU := Lib.hid (fun W hW => curve_any s ps a c b HB.out HOK.out.n0 h12 HOK.out.each x.1 x.2.2.1 W hW)
      have HRE := Lib.hid (fun W hW => reaches_crv s ps a c b HB.out HOK.out.n0 h12 HOK.out.each x.1 p x.2.2.1 x.2.1 W hW)
      obtain ⟨y, hy⟩ : ∃ y, crvV ps b.brk x.1 p = y := ⟨_, rfl⟩
      obtain ⟨m, hm⟩ : ∃ m, grL b pre = m := ⟨_, rfl⟩
      have HYY := Lib.hid hy
      rw [hy] at HRE HGS hcb
      rw [hm] at HGS hgb HBK
      clear hB hbk hy hm
      gi_wp2
      have HALL : Hid (∀ W2, Fr W W2 [] → Fr W W2 [] ∧ W2.cell? ⟨w.heap.size + 1 + 1, 0, none⟩ = some (.int .i64 p) ∧ W2.cell? ⟨g, 0, none⟩ = some (.string s) ∧ W2.cell? ⟨g, 1, none⟩ = some (.slice (some a) ps.length c) ∧ W2.cell? ⟨g, 2, none⟩ = some (.int .i64 b.brk) ∧ W2.cell? ⟨g, 3, none⟩ = some (.int .i64 b.drag) ∧ W2.cell? ⟨g, 4, none⟩ = some (.int .i64 b.drv)) := Lib.hid (fun W2 hW => ⟨hW, (X4.out.call hW.bl).cell 0, (R4.out.call hW.bl).cell 0, (R4.out.call hW.bl).cell 1, (R4.out.call hW.bl).cell 2, (R4.out.call hW.bl).cell 3, (R4.out.call hW.bl).cell 4⟩)
      have F10 : Fr W W [] := Fr.nil W
      clear r0 r1 r2 r3 r4 x0
      cases hr : rcvB ps b p x.1 with
      | false =>
        rw [hr, if_neg (by simp)] at HGS
        rw [hr] at HRE
        clear hr
        refine Tw_startIn 9 (fun W9 => Fr W W9 [] ∧ W9.cell? ⟨w.heap.size + 1 + 1, 0, none⟩ = some (.int .i64 p) ∧ W9.cell? ⟨g, 0, none⟩ = some (.string s) ∧ W9.cell? ⟨g, 1, none⟩ = some (.slice (some a) ps.length c) ∧ W9.cell? ⟨g, 2, none⟩ = some (.int .i64 b.brk) ∧ W9.cell? ⟨g, 3, none⟩ = some (.int .i64 b.drag) ∧ W9.cell? ⟨g, 4, none⟩ = some (.int .i64 b.drv)) (by kernel_rfl) (fun ⟨_, _, h⟩ => h) (by kernel_rfl) (by kernel_rfl) rfl ?_ ?_
        · (try dsimp only)
          ((go_split_ands; refine HALL.out _ ?_; (first | assumption | (repeat (first | assumption | refine Fr.new ?_ _ | refine Fr.drew ?_ | (refine Fr.set ?_ (by first | exact Nat.le_refl _ | omega | (simp; done) | (simp; omega)) (by first | (simp; done) | (simp; omega)) _))); done)))
        refine Tw_takeL (i := 0) (v := ?tv129) rfl (by kernel_rfl) (by decide) (by kernel_rfl) (by kernel_rfl) (fun _ _ _ h => h) (by rfl) ?ty129 ?tn129
        case ty129 => (intro w hSw; (try dsimp only at hSw); go_simp <;> with_reducible rfl)
        (try simp only [Act.put, List.setIfInBounds_toArray, List.set_cons_zero, List.set_cons_succ])
        refine Tw_takeL (i := 1) (v := ?tv130) rfl (by kernel_rfl) (by decide) (by kernel_rfl) (by kernel_rfl) (fun _ _ _ h => h) (by rfl) ?ty130 ?tn130
        case ty130 => (intro w hSw; (try dsimp only at hSw); go_simp <;> with_reducible rfl)
        (try simp only [Act.put, List.setIfInBounds_toArray, List.set_cons_zero, List.set_cons_succ])
        refine Tw_takeL (i := 2) (v := ?tv131) rfl (by kernel_rfl) (by decide) (by kernel_rfl) (by kernel_rfl) (fun _ _ _ h => h) (by rfl) ?ty131 ?tn131
        case ty131 => (intro w hSw; (try dsimp only at hSw); go_simp <;> with_reducible rfl)
        (try simp only [Act.put, List.setIfInBounds_toArray, List.set_cons_zero, List.set_cons_succ])
        refine Tw_takeL (i := 4) (v := ?tv132) rfl (by kernel_rfl) (by decide) (by kernel_rfl) (by kernel_rfl) (fun _ _ _ h => h) (by rfl) ?ty132 ?tn132
        case ty132 => (intro w hSw; (try dsimp only at hSw); go_simp <;> with_reducible rfl)
        (try simp only [Act.put, List.setIfInBounds_toArray, List.set_cons_zero, List.set_cons_succ])
        refine Tw_all (rs := [3, 8]) (by kernel_rfl) (by simp) (by decide) (fun hHeld => ?_)
        refine AllT.consL rfl (fun K hK => ?_) (AllT.consL rfl (fun K hK => ?_) (AllT.nil))
        · go_simp
          (go_at_call 44; go_split_ands; (refine (HCU.out _ (Lies.call LW.out (Fr.bl (by assumption)))).mono ?_); rintro e w7 ⟨gC, rfl, nC, hgC, hb7⟩; have NC := Lib.hid nC; have F4 := Fr.call (by assumption) hb7; (first | (have N1 := Lib.hid (Bk.call N1.out hb7)) | skip); clear hb7 nC hgC)
          refine hK.out _ _ ?_ ?_
          · (try dsimp only)
            ((go_split_ands; refine HALL.out _ ?_; (first | assumption | (repeat (first | assumption | refine Fr.new ?_ _ | refine Fr.drew ?_ | (refine Fr.set ?_ (by first | exact Nat.le_refl _ | omega | (simp; done) | (simp; omega)) (by first | (simp; done) | (simp; omega)) _))); done)))
          clear hK K
          (try simp only [Act.put, List.setIfInBounds_toArray, List.set_cons_zero, List.set_cons_succ])
          refine Tw_takeL (i := 5) (v := ?tv133) rfl (by kernel_rfl) (by decide) (by kernel_rfl) (by kernel_rfl) (fun _ _ _ h => h) (by rfl) ?ty133 ?tn133
          case ty133 => (intro w hSw; (try dsimp only at hSw); go_simp <;> with_reducible rfl)
          (try simp only [Act.put, List.setIfInBounds_toArray, List.set_cons_zero, List.set_cons_succ])
          refine Tw_all (rs := [6, 8]) (by kernel_rfl) (by simp) (by decide) (fun hHeld => ?_)
          refine AllT.consL rfl (fun K hK => ?_) (AllT.consL rfl (fun K hK => ?_) (AllT.nil))
          · have n0 := NC.out.rowF_at hpn
            rw [HYY.out] at n0
            go_simp
            refine hK.out _ _ ?_ ?_
            · (try dsimp only)
              ((go_split_ands; refine HALL.out _ ?_; (first | assumption | (repeat (first | assumption | refine Fr.new ?_ _ | refine Fr.drew ?_ | (refine Fr.set ?_ (by first | exact Nat.le_refl _ | omega | (simp; done) | (simp; omega)) (by first | (simp; done) | (simp; omega)) _))); done)))
            clear hK K n0
            (try simp only [Act.put, List.setIfInBounds_toArray, List.set_cons_zero, List.set_cons_succ])
            refine Tw_takeL (i := 7) (v := ?tv134) rfl (by kernel_rfl) (by decide) (by kernel_rfl) (by kernel_rfl) (fun _ _ _ h => h) (by rfl) ?ty134 ?tn134
            case ty134 => (intro w hSw; (try dsimp only at hSw); go_simp <;> with_reducible rfl)
            (try simp only [Act.put, List.setIfInBounds_toArray, List.set_cons_zero, List.set_cons_succ])
            refine Tw_all (rs := [8]) (by kernel_rfl) (by simp) (by decide) (fun hHeld => ?_)
            refine AllT.consL rfl (fun K hK => ?_) (AllT.nil)
            · go_simp
              refine hK.out _ _ ?_ ?_
              · (try dsimp only)
                ((go_split_ands; refine HALL.out _ ?_; (first | assumption | (repeat (first | assumption | refine Fr.new ?_ _ | refine Fr.drew ?_ | (refine Fr.set ?_ (by first | exact Nat.le_refl _ | omega | (simp; done) | (simp; omega)) (by first | (simp; done) | (simp; omega)) _))); done)))
              clear hK K
              (try simp only [Act.put, List.setIfInBounds_toArray, List.set_cons_zero, List.set_cons_succ])
              refine Tw_abs ?_
              intro wA139 hA139
              (first | (have N1 := Lib.hid (Bk.of_alloc hA139)) | (have N1 := Lib.hid (Bk.of_alloc_drew hA139)))
              have zg := Lib.hid (show W.heap.size ≤ _ from hHeld.1.size)
              (first | (have NC := Lib.hid (Bk.over_alloc hA139 NC.out)) | (have NC := Lib.hid (Bk.over_alloc_drew hA139 NC.out)) | skip)
              clear hA139
              refine Tw_end (by kernel_rfl) (fun hh => ?_)
              obtain ⟨F11, _⟩ := hh
              clear HALL
              have KB := Lib.hid F11.bl
              have n0 := N1.out.cell 0
              have n1 := N1.out.cell 1
              have f0 := N1.out.frozen 0
              have f1 := N1.out.frozen 1
              have za := N1.out.lt
              go_wp2_with fail
              refine wpIn_abs ?_
              intro w4 h4
              have N4 : Hid (Bk w4 _ 28 #[.int .i64 p, .int .i64 y]) := Lib.hid (by subst h4; exact N1.out.set2 _ _)
              have K4 : Hid (Below W.heap.size W w4) := Lib.hid (by subst h4; exact (KB.out.setCell zg.out _).setCell zg.out _)
              clear h4 n0 n1 f0 f1 za F11
              have R5 := Lib.hid (R4.out.call K4.out)
              have r0 := R5.out.cell 0
              have r1 := R5.out.cell 1
              have r2 := R5.out.cell 2
              have r3 := R5.out.cell 3
              have r4 := R5.out.cell 4
              obtain ⟨t0, t1, t2, t3⟩ := N4.out.two
              have zt := N4.out.lt
              have zk := K4.out.size
              have LW4 := Lib.hid (Lies.call LW.out K4.out)
              gi_wp2_with (refine ⟨trivial, ?_⟩; gi_at_call 42; refine (CallsIn.inRound l (callsIn_wide.2 (HRE.out _ LW4.out))).mono ?_; rintro e w5 ⟨rfl, hb5⟩; have K5 := Lib.hid (Below.step K4.out hb5); clear hb5)
              exact ⟨(keeps_of_below K5.out).from _, but_of (K5.out.mono hBs) _, by rw [HGS.out]; exact HBK.out.call K5.out, HBW.out.step K5.out hBs⟩
          · go_simp
            refine hK.out _ _ ?_ ?_
            · (try dsimp only)
              ((go_split_ands; refine HALL.out _ ?_; (first | assumption | (repeat (first | assumption | refine Fr.new ?_ _ | refine Fr.drew ?_ | (refine Fr.set ?_ (by first | exact Nat.le_refl _ | omega | (simp; done) | (simp; omega)) (by first | (simp; done) | (simp; omega)) _))); done)))
            clear hK K
            (try simp only [Act.put, List.setIfInBounds_toArray, List.set_cons_zero, List.set_cons_succ])
            refine Tw_abs ?_
            intro wA140 hA140
            (first | (have N1 := Lib.hid (Bk.of_alloc hA140)) | (have N1 := Lib.hid (Bk.of_alloc_drew hA140)))
            have zg := Lib.hid (show W.heap.size ≤ _ from hHeld.1.size)
            (first | (have NC := Lib.hid (Bk.over_alloc hA140 NC.out)) | (have NC := Lib.hid (Bk.over_alloc_drew hA140 NC.out)) | skip)
            clear hA140
            refine Tw_all (rs := [6]) (by kernel_rfl) (by simp) (by decide) (fun hHeld => ?_)
            refine AllT.consL rfl (fun K hK => ?_) (AllT.nil)
            · have n0 := NC.out.rowF_at hpn
              rw [HYY.out] at n0
              go_simp
              refine hK.out _ _ ?_ ?_
              · (try dsimp only)
                ((go_split_ands; refine HALL.out _ ?_; (first | assumption | (repeat (first | assumption | refine Fr.new ?_ _ | refine Fr.drew ?_ | (refine Fr.set ?_ (by first | exact Nat.le_refl _ | omega | (simp; done) | (simp; omega)) (by first | (simp; done) | (simp; omega)) _))); done)))
              clear hK K n0
              (try simp only [Act.put, List.setIfInBounds_toArray, List.set_cons_zero, List.set_cons_succ])
              refine Tw_takeL (i := 7) (v := ?tv135) rfl (by kernel_rfl) (by decide) (by kernel_rfl) (by kernel_rfl) (fun _ _ _ h => h) (by rfl) ?ty135 ?tn135
              case ty135 => (intro w hSw; (try dsimp only at hSw); go_simp <;> with_reducible rfl)
              (try simp only [Act.put, List.setIfInBounds_toArray, List.set_cons_zero, List.set_cons_succ])
              refine Tw_end (by kernel_rfl) (fun hh => ?_)
              obtain ⟨F11, _⟩ := hh
              clear HALL
              have KB := Lib.hid F11.bl
              have n0 := N1.out.cell 0
              have n1 := N1.out.cell 1
              have f0 := N1.out.frozen 0
              have f1 := N1.out.frozen 1
              have za := N1.out.lt
              go_wp2_with fail
              refine wpIn_abs ?_
              intro w4 h4
              have N4 : Hid (Bk w4 _ 28 #[.int .i64 p, .int .i64 y]) := Lib.hid (by subst h4; exact N1.out.set2 _ _)
              have K4 : Hid (Below W.heap.size W w4) := Lib.hid (by subst h4; exact (KB.out.setCell zg.out _).setCell zg.out _)
              clear h4 n0 n1 f0 f1 za F11
              have R5 := Lib.hid (R4.out.call K4.out)
              have r0 := R5.out.cell 0
              have r1 := R5.out.cell 1
              have r2 := R5.out.cell 2
              have r3 := R5.out.cell 3
              have r4 := R5.out.cell 4
              obtain ⟨t0, t1, t2, t3⟩ := N4.out.two
              have zt := N4.out.lt
              have zk := K4.out.size
              have LW4 := Lib.hid (Lies.call LW.out K4.out)
              gi_wp2_with (refine ⟨trivial, ?_⟩; gi_at_call 42; refine (CallsIn.inRound l (callsIn_wide.2 (HRE.out _ LW4.out))).mono ?_; rintro e w5 ⟨rfl, hb5⟩; have K5 := Lib.hid (Below.step K4.out hb5); clear hb5)
              exact ⟨(keeps_of_below K5.out).from _, but_of (K5.out.mono hBs) _, by rw [HGS.out]; exact HBK.out.call K5.out, HBW.out.step K5.out hBs⟩
        · go_simp
          refine hK.out _ _ ?_ ?_
          · (try dsimp only)
            ((go_split_ands; refine HALL.out _ ?_; (first | assumption | (repeat (first | assumption | refine Fr.new ?_ _ | refine Fr.drew ?_ | (refine Fr.set ?_ (by first | exact Nat.le_refl _ | omega | (simp; done) | (simp; omega)) (by first | (simp; done) | (simp; omega)) _))); done)))
          clear hK K
          (try simp only [Act.put, List.setIfInBounds_toArray, List.set_cons_zero, List.set_cons_succ])
          refine Tw_abs ?_
          intro wA142 hA142
          (first | (have N1 := Lib.hid (Bk.of_alloc hA142)) | (have N1 := Lib.hid (Bk.of_alloc_drew hA142)))
          have zg := Lib.hid (show W.heap.size ≤ _ from hHeld.1.size)
          (first | (have NC := Lib.hid (Bk.over_alloc hA142 NC.out)) | (have NC := Lib.hid (Bk.over_alloc_drew hA142 NC.out)) | skip)
          clear hA142
          refine Tw_all (rs := [3]) (by kernel_rfl) (by simp) (by decide) (fun hHeld => ?_)
          refine AllT.consL rfl (fun K hK => ?_) (AllT.nil)
          · go_simp
            (go_at_call 44; go_split_ands; (refine (HCU.out _ (Lies.call LW.out (Fr.bl (by assumption)))).mono ?_); rintro e w7 ⟨gC, rfl, nC, hgC, hb7⟩; have NC := Lib.hid nC; have F4 := Fr.call (by assumption) hb7; (first | (have N1 := Lib.hid (Bk.call N1.out hb7)) | skip); clear hb7 nC hgC)
            refine hK.out _ _ ?_ ?_
            · (try dsimp only)
              ((go_split_ands; refine HALL.out _ ?_; (first | assumption | (repeat (first | assumption | refine Fr.new ?_ _ | refine Fr.drew ?_ | (refine Fr.set ?_ (by first | exact Nat.le_refl _ | omega | (simp; done) | (simp; omega)) (by first | (simp; done) | (simp; omega)) _))); done)))
            clear hK K
            (try simp only [Act.put, List.setIfInBounds_toArray, List.set_cons_zero, List.set_cons_succ])
            refine Tw_takeL (i := 5) (v := ?tv136) rfl (by kernel_rfl) (by decide) (by kernel_rfl) (by kernel_rfl) (fun _ _ _ h => h) (by rfl) ?ty136 ?tn136
            case ty136 => (intro w hSw; (try dsimp only at hSw); go_simp <;> with_reducible rfl)
            (try simp only [Act.put, List.setIfInBounds_toArray, List.set_cons_zero, List.set_cons_succ])
            refine Tw_all (rs := [6]) (by kernel_rfl) (by simp) (by decide) (fun hHeld => ?_)
            refine AllT.consL rfl (fun K hK => ?_) (AllT.nil)
            · have n0 := NC.out.rowF_at hpn
              rw [HYY.out] at n0
              go_simp
              refine hK.out _ _ ?_ ?_
              · (try dsimp only)
                ((go_split_ands; refine HALL.out _ ?_; (first | assumption | (repeat (first | assumption | refine Fr.new ?_ _ | refine Fr.drew ?_ | (refine Fr.set ?_ (by first | exact Nat.le_refl _ | omega | (simp; done) | (simp; omega)) (by first | (simp; done) | (simp; omega)) _))); done)))
              clear hK K n0
              (try simp only [Act.put, List.setIfInBounds_toArray, List.set_cons_zero, List.set_cons_succ])
              refine Tw_takeL (i := 7) (v := ?tv137) rfl (by kernel_rfl) (by decide) (by kernel_rfl) (by kernel_rfl) (fun _ _ _ h => h) (by rfl) ?ty137 ?tn137
              case ty137 => (intro w hSw; (try dsimp only at hSw); go_simp <;> with_reducible rfl)
              (try simp only [Act.put, List.setIfInBounds_toArray, List.set_cons_zero, List.set_cons_succ])
              refine Tw_end (by kernel_rfl) (fun hh => ?_)
              obtain ⟨F11, _⟩ := hh
              clear HALL
              have KB := Lib.hid F11.bl
              have n0 := N1.out.cell 0
              have n1 := N1.out.cell 1
              have f0 := N1.out.frozen 0
              have f1 := N1.out.frozen 1
              have za := N1.out.lt
              go_wp2_with fail
              refine wpIn_abs ?_
              intro w4 h4
              have N4 : Hid (Bk w4 _ 28 #[.int .i64 p, .int .i64 y]) := Lib.hid (by subst h4; exact N1.out.set2 _ _)
              have K4 : Hid (Below W.heap.size W w4) := Lib.hid (by subst h4; exact (KB.out.setCell zg.out _).setCell zg.out _)
              clear h4 n0 n1 f0 f1 za F11
              have R5 := Lib.hid (R4.out.call K4.out)
              have r0 := R5.out.cell 0
              have r1 := R5.out.cell 1
              have r2 := R5.out.cell 2
              have r3 := R5.out.cell 3
              have r4 := R5.out.cell 4
              obtain ⟨t0, t1, t2, t3⟩ := N4.out.two
              have zt := N4.out.lt
              have zk := K4.out.size
              have LW4 := Lib.hid (Lies.call LW.out K4.out)
              gi_wp2_with (refine ⟨trivial, ?_⟩; gi_at_call 42; refine (CallsIn.inRound l (callsIn_wide.2 (HRE.out _ LW4.out))).mono ?_; rintro e w5 ⟨rfl, hb5⟩; have K5 := Lib.hid (Below.step K4.out hb5); clear hb5)
              exact ⟨(keeps_of_below K5.out).from _, but_of (K5.out.mono hBs) _, by rw [HGS.out]; exact HBK.out.call K5.out, HBW.out.step K5.out hBs⟩
      | true =>
        rw [hr, if_pos rfl] at HGS
        rw [hr] at HRE
        clear hr
        rcases Int.lt_trichotomy m y with h1 | h1 | h1
        · have h2 : ¬ y < m := by omega
          rw [show max m y = y by omega] at HGS
          refine Tw_startIn 9 (fun W9 => Fr W W9 [] ∧ W9.cell? ⟨w.heap.size + 1 + 1, 0, none⟩ = some (.int .i64 p) ∧ W9.cell? ⟨g, 0, none⟩ = some (.string s) ∧ W9.cell? ⟨g, 1, none⟩ = some (.slice (some a) ps.length c) ∧ W9.cell? ⟨g, 2, none⟩ = some (.int .i64 b.brk) ∧ W9.cell? ⟨g, 3, none⟩ = some (.int .i64 b.drag) ∧ W9.cell? ⟨g, 4, none⟩ = some (.int .i64 b.drv)) (by kernel_rfl) (fun ⟨_, _, h⟩ => h) (by kernel_rfl) (by kernel_rfl) rfl ?_ ?_
          · (try dsimp only)
            ((go_split_ands; refine HALL.out _ ?_; (first | assumption | (repeat (first | assumption | refine Fr.new ?_ _ | refine Fr.drew ?_ | (refine Fr.set ?_ (by first | exact Nat.le_refl _ | omega | (simp; done) | (simp; omega)) (by first | (simp; done) | (simp; omega)) _))); done)))
          refine Tw_takeL (i := 0) (v := ?tv138) rfl (by kernel_rfl) (by decide) (by kernel_rfl) (by kernel_rfl) (fun _ _ _ h => h) (by rfl) ?ty138 ?tn138
          case ty138 => (intro w hSw; (try dsimp only at hSw); go_simp <;> with_reducible rfl)
          (try simp only [Act.put, List.setIfInBounds_toArray, List.set_cons_zero, List.set_cons_succ])
          refine Tw_takeL (i := 1) (v := ?tv139) rfl (by kernel_rfl) (by decide) (by kernel_rfl) (by kernel_rfl) (fun _ _ _ h => h) (by rfl) ?ty139 ?tn139
          case ty139 => (intro w hSw; (try dsimp only at hSw); go_simp <;> with_reducible rfl)
          (try simp only [Act.put, List.setIfInBounds_toArray, List.set_cons_zero, List.set_cons_succ])
          refine Tw_takeL (i := 2) (v := ?tv140) rfl (by kernel_rfl) (by decide) (by kernel_rfl) (by kernel_rfl) (fun _ _ _ h => h) (by rfl) ?ty140 ?tn140
          case ty140 => (intro w hSw; (try dsimp only at hSw); go_simp <;> with_reducible rfl)
          (try simp only [Act.put, List.setIfInBounds_toArray, List.set_cons_zero, List.set_cons_succ])
          refine Tw_takeL (i := 4) (v := ?tv141) rfl (by kernel_rfl) (by decide) (by kernel_rfl) (by kernel_rfl) (fun _ _ _ h => h) (by rfl) ?ty141 ?tn141
          case ty141 => (intro w hSw; (try dsimp only at hSw); go_simp <;> with_reducible rfl)
          (try simp only [Act.put, List.setIfInBounds_toArray, List.set_cons_zero, List.set_cons_succ])
          refine Tw_all (rs := [3, 8]) (by kernel_rfl) (by simp) (by decide) (fun hHeld => ?_)
          refine AllT.consL rfl (fun K hK => ?_) (AllT.consL rfl (fun K hK => ?_) (AllT.nil))
          · go_simp
            (go_at_call 44; go_split_ands; (refine (HCU.out _ (Lies.call LW.out (Fr.bl (by assumption)))).mono ?_); rintro e w7 ⟨gC, rfl, nC, hgC, hb7⟩; have NC := Lib.hid nC; have F4 := Fr.call (by assumption) hb7; (first | (have N1 := Lib.hid (Bk.call N1.out hb7)) | skip); clear hb7 nC hgC)
            refine hK.out _ _ ?_ ?_
            · (try dsimp only)
              ((go_split_ands; refine HALL.out _ ?_; (first | assumption | (repeat (first | assumption | refine Fr.new ?_ _ | refine Fr.drew ?_ | (refine Fr.set ?_ (by first | exact Nat.le_refl _ | omega | (simp; done) | (simp; omega)) (by first | (simp; done) | (simp; omega)) _))); done)))
            clear hK K
            (try simp only [Act.put, List.setIfInBounds_toArray, List.set_cons_zero, List.set_cons_succ])
            refine Tw_takeL (i := 5) (v := ?tv142) rfl (by kernel_rfl) (by decide) (by kernel_rfl) (by kernel_rfl) (fun _ _ _ h => h) (by rfl) ?ty142 ?tn142
            case ty142 => (intro w hSw; (try dsimp only at hSw); go_simp <;> with_reducible rfl)
            (try simp only [Act.put, List.setIfInBounds_toArray, List.set_cons_zero, List.set_cons_succ])
            refine Tw_all (rs := [6, 8]) (by kernel_rfl) (by simp) (by decide) (fun hHeld => ?_)
            refine AllT.consL rfl (fun K hK => ?_) (AllT.consL rfl (fun K hK => ?_) (AllT.nil))
            · have n0 := NC.out.rowF_at hpn
              rw [HYY.out] at n0
              go_simp
              refine hK.out _ _ ?_ ?_
              · (try dsimp only)
                ((go_split_ands; refine HALL.out _ ?_; (first | assumption | (repeat (first | assumption | refine Fr.new ?_ _ | refine Fr.drew ?_ | (refine Fr.set ?_ (by first | exact Nat.le_refl _ | omega | (simp; done) | (simp; omega)) (by first | (simp; done) | (simp; omega)) _))); done)))
              clear hK K n0
              (try simp only [Act.put, List.setIfInBounds_toArray, List.set_cons_zero, List.set_cons_succ])
              refine Tw_takeL (i := 7) (v := ?tv143) rfl (by kernel_rfl) (by decide) (by kernel_rfl) (by kernel_rfl) (fun _ _ _ h => h) (by rfl) ?ty143 ?tn143
              case ty143 => (intro w hSw; (try dsimp only at hSw); go_simp <;> with_reducible rfl)
              (try simp only [Act.put, List.setIfInBounds_toArray, List.set_cons_zero, List.set_cons_succ])
              refine Tw_all (rs := [8]) (by kernel_rfl) (by simp) (by decide) (fun hHeld => ?_)
              refine AllT.consL rfl (fun K hK => ?_) (AllT.nil)
              · go_simp
                refine hK.out _ _ ?_ ?_
                · (try dsimp only)
                  ((go_split_ands; refine HALL.out _ ?_; (first | assumption | (repeat (first | assumption | refine Fr.new ?_ _ | refine Fr.drew ?_ | (refine Fr.set ?_ (by first | exact Nat.le_refl _ | omega | (simp; done) | (simp; omega)) (by first | (simp; done) | (simp; omega)) _))); done)))
                clear hK K
                (try simp only [Act.put, List.setIfInBounds_toArray, List.set_cons_zero, List.set_cons_succ])
                refine Tw_abs ?_
                intro wA147 hA147
                (first | (have N1 := Lib.hid (Bk.of_alloc hA147)) | (have N1 := Lib.hid (Bk.of_alloc_drew hA147)))
                have zg := Lib.hid (show W.heap.size ≤ _ from hHeld.1.size)
                (first | (have NC := Lib.hid (Bk.over_alloc hA147 NC.out)) | (have NC := Lib.hid (Bk.over_alloc_drew hA147 NC.out)) | skip)
                clear hA147
                refine Tw_end (by kernel_rfl) (fun hh => ?_)
                obtain ⟨F11, _⟩ := hh
                clear HALL
                have KB := Lib.hid F11.bl
                have n0 := N1.out.cell 0
                have n1 := N1.out.cell 1
                have f0 := N1.out.frozen 0
                have f1 := N1.out.frozen 1
                have za := N1.out.lt
                go_wp2_with fail
                refine wpIn_abs ?_
                intro w4 h4
                have N4 : Hid (Bk w4 _ 28 #[.int .i64 p, .int .i64 y]) := Lib.hid (by subst h4; exact N1.out.set2 _ _)
                have K4 : Hid (Below W.heap.size W w4) := Lib.hid (by subst h4; exact (KB.out.setCell zg.out _).setCell zg.out _)
                clear h4 n0 n1 f0 f1 za F11
                have R5 := Lib.hid (R4.out.call K4.out)
                have r0 := R5.out.cell 0
                have r1 := R5.out.cell 1
                have r2 := R5.out.cell 2
                have r3 := R5.out.cell 3
                have r4 := R5.out.cell 4
                obtain ⟨t0, t1, t2, t3⟩ := N4.out.two
                have zt := N4.out.lt
                have zk := K4.out.size
                have LW4 := Lib.hid (Lies.call LW.out K4.out)
                gi_wp2_with (refine ⟨trivial, ?_⟩; gi_at_call 42; refine (CallsIn.inRound l (callsIn_wide.2 (HRE.out _ LW4.out))).mono ?_; rintro e w5 ⟨rfl, hb5⟩; have K5 := Lib.hid (Below.step K4.out hb5); obtain ⟨u0, u1, u2, u3⟩ := (N4.out.call hb5).two; have B5 := Lib.hid (HBK.out.call K5.out); obtain ⟨v0, v1⟩ := B5.out.one; clear hb5 t0 t1 t2 t3 r0 r1 r2 r3 r4)
                have k6 : But wx.heap.size w2.heap.size W (w5.setCell ⟨wx.heap.size, 0, none⟩ (.int .i64 y)) := (but_of (K5.out.mono hBs) wx.heap.size).setCell (p := ⟨wx.heap.size, 0, none⟩) (.inl rfl) _
                exact ⟨((keeps_of_below K5.out).trans (KeepsOthers.setCell _ _ _)).from _, k6, by rw [HGS.out]; have := B5.out.set_ 0 (.int .i64 y); simpa using this, HBW.out.trans k6⟩
            · go_simp
              refine hK.out _ _ ?_ ?_
              · (try dsimp only)
                ((go_split_ands; refine HALL.out _ ?_; (first | assumption | (repeat (first | assumption | refine Fr.new ?_ _ | refine Fr.drew ?_ | (refine Fr.set ?_ (by first | exact Nat.le_refl _ | omega | (simp; done) | (simp; omega)) (by first | (simp; done) | (simp; omega)) _))); done)))
              clear hK K
              (try simp only [Act.put, List.setIfInBounds_toArray, List.set_cons_zero, List.set_cons_succ])
              refine Tw_abs ?_
              intro wA148 hA148
              (first | (have N1 := Lib.hid (Bk.of_alloc hA148)) | (have N1 := Lib.hid (Bk.of_alloc_drew hA148)))
              have zg := Lib.hid (show W.heap.size ≤ _ from hHeld.1.size)
              (first | (have NC := Lib.hid (Bk.over_alloc hA148 NC.out)) | (have NC := Lib.hid (Bk.over_alloc_drew hA148 NC.out)) | skip)
              clear hA148
              refine Tw_all (rs := [6]) (by kernel_rfl) (by simp) (by decide) (fun hHeld => ?_)
              refine AllT.consL rfl (fun K hK => ?_) (AllT.nil)
              · have n0 := NC.out.rowF_at hpn
                rw [HYY.out] at n0
                go_simp
                refine hK.out _ _ ?_ ?_
                · (try dsimp only)
                  ((go_split_ands; refine HALL.out _ ?_; (first | assumption | (repeat (first | assumption | refine Fr.new ?_ _ | refine Fr.drew ?_ | (refine Fr.set ?_ (by first | exact Nat.le_refl _ | omega | (simp; done) | (simp; omega)) (by first | (simp; done) | (simp; omega)) _))); done)))
                clear hK K n0
                (try simp only [Act.put, List.setIfInBounds_toArray, List.set_cons_zero, List.set_cons_succ])
                refine Tw_takeL (i := 7) (v := ?tv144) rfl (by kernel_rfl) (by decide) (by kernel_rfl) (by kernel_rfl) (fun _ _ _ h => h) (by rfl) ?ty144 ?tn144
                case ty144 => (intro w hSw; (try dsimp only at hSw); go_simp <;> with_reducible rfl)
                (try simp only [Act.put, List.setIfInBounds_toArray, List.set_cons_zero, List.set_cons_succ])
                refine Tw_end (by kernel_rfl) (fun hh => ?_)
                obtain ⟨F11, _⟩ := hh
                clear HALL
                have KB := Lib.hid F11.bl
                have n0 := N1.out.cell 0
                have n1 := N1.out.cell 1
                have f0 := N1.out.frozen 0
                have f1 := N1.out.frozen 1
                have za := N1.out.lt
                go_wp2_with fail
                refine wpIn_abs ?_
                intro w4 h4
                have N4 : Hid (Bk w4 _ 28 #[.int .i64 p, .int .i64 y]) := Lib.hid (by subst h4; exact N1.out.set2 _ _)
                have K4 : Hid (Below W.heap.size W w4) := Lib.hid (by subst h4; exact (KB.out.setCell zg.out _).setCell zg.out _)
                clear h4 n0 n1 f0 f1 za F11
                have R5 := Lib.hid (R4.out.call K4.out)
                have r0 := R5.out.cell 0
                have r1 := R5.out.cell 1
                have r2 := R5.out.cell 2
                have r3 := R5.out.cell 3
                have r4 := R5.out.cell 4
                obtain ⟨t0, t1, t2, t3⟩ := N4.out.two
                have zt := N4.out.lt
                have zk := K4.out.size
                have LW4 := Lib.hid (Lies.call LW.out K4.out)
                gi_wp2_with (refine ⟨trivial, ?_⟩; gi_at_call 42; refine (CallsIn.inRound l (callsIn_wide.2 (HRE.out _ LW4.out))).mono ?_; rintro e w5 ⟨rfl, hb5⟩; have K5 := Lib.hid (Below.step K4.out hb5); obtain ⟨u0, u1, u2, u3⟩ := (N4.out.call hb5).two; have B5 := Lib.hid (HBK.out.call K5.out); obtain ⟨v0, v1⟩ := B5.out.one; clear hb5 t0 t1 t2 t3 r0 r1 r2 r3 r4)
                have k6 : But wx.heap.size w2.heap.size W (w5.setCell ⟨wx.heap.size, 0, none⟩ (.int .i64 y)) := (but_of (K5.out.mono hBs) wx.heap.size).setCell (p := ⟨wx.heap.size, 0, none⟩) (.inl rfl) _
                exact ⟨((keeps_of_below K5.out).trans (KeepsOthers.setCell _ _ _)).from _, k6, by rw [HGS.out]; have := B5.out.set_ 0 (.int .i64 y); simpa using this, HBW.out.trans k6⟩
          · go_simp
            refine hK.out _ _ ?_ ?_
            · (try dsimp only)
              ((go_split_ands; refine HALL.out _ ?_; (first | assumption | (repeat (first | assumption | refine Fr.new ?_ _ | refine Fr.drew ?_ | (refine Fr.set ?_ (by first | exact Nat.le_refl _ | omega | (simp; done) | (simp; omega)) (by first | (simp; done) | (simp; omega)) _))); done)))
            clear hK K
            (try simp only [Act.put, List.setIfInBounds_toArray, List.set_cons_zero, List.set_cons_succ])
            refine Tw_abs ?_
            intro wA150 hA150
            (first | (have N1 := Lib.hid (Bk.of_alloc hA150)) | (have N1 := Lib.hid (Bk.of_alloc_drew hA150)))
            have zg := Lib.hid (show W.heap.size ≤ _ from hHeld.1.size)
            (first | (have NC := Lib.hid (Bk.over_alloc hA150 NC.out)) | (have NC := Lib.hid (Bk.over_alloc_drew hA150 NC.out)) | skip)
            clear hA150
            refine Tw_all (rs := [3]) (by kernel_rfl) (by simp) (by decide) (fun hHeld => ?_)
            refine AllT.consL rfl (fun K hK => ?_) (AllT.nil)
            · go_simp
              (go_at_call 44; go_split_ands; (refine (HCU.out _ (Lies.call LW.out (Fr.bl (by assumption)))).mono ?_); rintro e w7 ⟨gC, rfl, nC, hgC, hb7⟩; have NC := Lib.hid nC; have F4 := Fr.call (by assumption) hb7; (first | (have N1 := Lib.hid (Bk.call N1.out hb7)) | skip); clear hb7 nC hgC)
              refine hK.out _ _ ?_ ?_
              · (try dsimp only)
                ((go_split_ands; refine HALL.out _ ?_; (first | assumption | (repeat (first | assumption | refine Fr.new ?_ _ | refine Fr.drew ?_ | (refine Fr.set ?_ (by first | exact Nat.le_refl _ | omega | (simp; done) | (simp; omega)) (by first | (simp; done) | (simp; omega)) _))); done)))
              clear hK K
              (try simp only [Act.put, List.setIfInBounds_toArray, List.set_cons_zero, List.set_cons_succ])
              refine Tw_takeL (i := 5) (v := ?tv145) rfl (by kernel_rfl) (by decide) (by kernel_rfl) (by kernel_rfl) (fun _ _ _ h => h) (by rfl) ?ty145 ?tn145
              case ty145 => (intro w hSw; (try dsimp only at hSw); go_simp <;> with_reducible rfl)
              (try simp only [Act.put, List.setIfInBounds_toArray, List.set_cons_zero, List.set_cons_succ])
              refine Tw_all (rs := [6]) (by kernel_rfl) (by simp) (by decide) (fun hHeld => ?_)
              refine AllT.consL rfl (fun K hK => ?_) (AllT.nil)
              · have n0 := NC.out.rowF_at hpn
                rw [HYY.out] at n0
                go_simp
                refine hK.out _ _ ?_ ?_
                · (try dsimp only)
                  ((go_split_ands; refine HALL.out _ ?_; (first | assumption | (repeat (first | assumption | refine Fr.new ?_ _ | refine Fr.drew ?_ | (refine Fr.set ?_ (by first | exact Nat.le_refl _ | omega | (simp; done) | (simp; omega)) (by first | (simp; done) | (simp; omega)) _))); done)))
                clear hK K n0
                (try simp only [Act.put, List.setIfInBounds_toArray, List.set_cons_zero, List.set_cons_succ])
                refine Tw_takeL (i := 7) (v := ?tv146) rfl (by kernel_rfl) (by decide) (by kernel_rfl) (by kernel_rfl) (fun _ _ _ h => h) (by rfl) ?ty146 ?tn146
                case ty146 => (intro w hSw; (try dsimp only at hSw); go_simp <;> with_reducible rfl)
                (try simp only [Act.put, List.setIfInBounds_toArray, List.set_cons_zero, List.set_cons_succ])
                refine Tw_end (by kernel_rfl) (fun hh => ?_)
                obtain ⟨F11, _⟩ := hh
                clear HALL
                have KB := Lib.hid F11.bl
                have n0 := N1.out.cell 0
                have n1 := N1.out.cell 1
                have f0 := N1.out.frozen 0
                have f1 := N1.out.frozen 1
                have za := N1.out.lt
                go_wp2_with fail
                refine wpIn_abs ?_
                intro w4 h4
                have N4 : Hid (Bk w4 _ 28 #[.int .i64 p, .int .i64 y]) := Lib.hid (by subst h4; exact N1.out.set2 _ _)
                have K4 : Hid (Below W.heap.size W w4) := Lib.hid (by subst h4; exact (KB.out.setCell zg.out _).setCell zg.out _)
                clear h4 n0 n1 f0 f1 za F11
                have R5 := Lib.hid (R4.out.call K4.out)
                have r0 := R5.out.cell 0
                have r1 := R5.out.cell 1
                have r2 := R5.out.cell 2
                have r3 := R5.out.cell 3
                have r4 := R5.out.cell 4
                obtain ⟨t0, t1, t2, t3⟩ := N4.out.two
                have zt := N4.out.lt
                have zk := K4.out.size
                have LW4 := Lib.hid (Lies.call LW.out K4.out)
                gi_wp2_with (refine ⟨trivial, ?_⟩; gi_at_call 42; refine (CallsIn.inRound l (callsIn_wide.2 (HRE.out _ LW4.out))).mono ?_; rintro e w5 ⟨rfl, hb5⟩; have K5 := Lib.hid (Below.step K4.out hb5); obtain ⟨u0, u1, u2, u3⟩ := (N4.out.call hb5).two; have B5 := Lib.hid (HBK.out.call K5.out); obtain ⟨v0, v1⟩ := B5.out.one; clear hb5 t0 t1 t2 t3 r0 r1 r2 r3 r4)
                have k6 : But wx.heap.size w2.heap.size W (w5.setCell ⟨wx.heap.size, 0, none⟩ (.int .i64 y)) := (but_of (K5.out.mono hBs) wx.heap.size).setCell (p := ⟨wx.heap.size, 0, none⟩) (.inl rfl) _
                exact ⟨((keeps_of_below K5.out).trans (KeepsOthers.setCell _ _ _)).from _, k6, by rw [HGS.out]; have := B5.out.set_ 0 (.int .i64 y); simpa using this, HBW.out.trans k6⟩
        · subst h1
          have h2 : ¬ m < m := by omega
          rw [show max m m = m by omega] at HGS
          refine Tw_startIn 9 (fun W9 => Fr W W9 [] ∧ W9.cell? ⟨w.heap.size + 1 + 1, 0, none⟩ = some (.int .i64 p) ∧ W9.cell? ⟨g, 0, none⟩ = some (.string s) ∧ W9.cell? ⟨g, 1, none⟩ = some (.slice (some a) ps.length c) ∧ W9.cell? ⟨g, 2, none⟩ = some (.int .i64 b.brk) ∧ W9.cell? ⟨g, 3, none⟩ = some (.int .i64 b.drag) ∧ W9.cell? ⟨g, 4, none⟩ = some (.int .i64 b.drv)) (by kernel_rfl) (fun ⟨_, _, h⟩ => h) (by kernel_rfl) (by kernel_rfl) rfl ?_ ?_
          · (try dsimp only)
            ((go_split_ands; refine HALL.out _ ?_; (first | assumption | (repeat (first | assumption | refine Fr.new ?_ _ | refine Fr.drew ?_ | (refine Fr.set ?_ (by first | exact Nat.le_refl _ | omega | (simp; done) | (simp; omega)) (by first | (simp; done) | (simp; omega)) _))); done)))
          refine Tw_takeL (i := 0) (v := ?tv147) rfl (by kernel_rfl) (by decide) (by kernel_rfl) (by kernel_rfl) (fun _ _ _ h => h) (by rfl) ?ty147 ?tn147
          case ty147 => (intro w hSw; (try dsimp only at hSw); go_simp <;> with_reducible rfl)
          (try simp only [Act.put, List.setIfInBounds_toArray, List.set_cons_zero, List.set_cons_succ])
          refine Tw_takeL (i := 1) (v := ?tv148) rfl (by kernel_rfl) (by decide) (by kernel_rfl) (by kernel_rfl) (fun _ _ _ h => h) (by rfl) ?ty148 ?tn148
          case ty148 => (intro w hSw; (try dsimp only at hSw); go_simp <;> with_reducible rfl)
          (try simp only [Act.put, List.setIfInBounds_toArray, List.set_cons_zero, List.set_cons_succ])
          refine Tw_takeL (i := 2) (v := ?tv149) rfl (by kernel_rfl) (by decide) (by kernel_rfl) (by kernel_rfl) (fun _ _ _ h => h) (by rfl) ?ty149 ?tn149
          case ty149 => (intro w hSw; (try dsimp only at hSw); go_simp <;> with_reducible rfl)
          (try simp only [Act.put, List.setIfInBounds_toArray, List.set_cons_zero, List.set_cons_succ])
          refine Tw_takeL (i := 4) (v := ?tv150) rfl (by kernel_rfl) (by decide) (by kernel_rfl) (by kernel_rfl) (fun _ _ _ h => h) (by rfl) ?ty150 ?tn150
          case ty150 => (intro w hSw; (try dsimp only at hSw); go_simp <;> with_reducible rfl)
          (try simp only [Act.put, List.setIfInBounds_toArray, List.set_cons_zero, List.set_cons_succ])
          refine Tw_all (rs := [3, 8]) (by kernel_rfl) (by simp) (by decide) (fun hHeld => ?_)
          refine AllT.consL rfl (fun K hK => ?_) (AllT.consL rfl (fun K hK => ?_) (AllT.nil))
          · go_simp
            (go_at_call 44; go_split_ands; (refine (HCU.out _ (Lies.call LW.out (Fr.bl (by assumption)))).mono ?_); rintro e w7 ⟨gC, rfl, nC, hgC, hb7⟩; have NC := Lib.hid nC; have F4 := Fr.call (by assumption) hb7; (first | (have N1 := Lib.hid (Bk.call N1.out hb7)) | skip); clear hb7 nC hgC)
            refine hK.out _ _ ?_ ?_
            · (try dsimp only)
              ((go_split_ands; refine HALL.out _ ?_; (first | assumption | (repeat (first | assumption | refine Fr.new ?_ _ | refine Fr.drew ?_ | (refine Fr.set ?_ (by first | exact Nat.le_refl _ | omega | (simp; done) | (simp; omega)) (by first | (simp; done) | (simp; omega)) _))); done)))
            clear hK K
            (try simp only [Act.put, List.setIfInBounds_toArray, List.set_cons_zero, List.set_cons_succ])
            refine Tw_takeL (i := 5) (v := ?tv151) rfl (by kernel_rfl) (by decide) (by kernel_rfl) (by kernel_rfl) (fun _ _ _ h => h) (by rfl) ?ty151 ?tn151
            case ty151 => (intro w hSw; (try dsimp only at hSw); go_simp <;> with_reducible rfl)
            (try simp only [Act.put, List.setIfInBounds_toArray, List.set_cons_zero, List.set_cons_succ])
            refine Tw_all (rs := [6, 8]) (by kernel_rfl) (by simp) (by decide) (fun hHeld => ?_)
            refine AllT.consL rfl (fun K hK => ?_) (AllT.consL rfl (fun K hK => ?_) (AllT.nil))
            · have n0 := NC.out.rowF_at hpn
              rw [HYY.out] at n0
              go_simp
              refine hK.out _ _ ?_ ?_
              · (try dsimp only)
                ((go_split_ands; refine HALL.out _ ?_; (first | assumption | (repeat (first | assumption | refine Fr.new ?_ _ | refine Fr.drew ?_ | (refine Fr.set ?_ (by first | exact Nat.le_refl _ | omega | (simp; done) | (simp; omega)) (by first | (simp; done) | (simp; omega)) _))); done)))
              clear hK K n0
              (try simp only [Act.put, List.setIfInBounds_toArray, List.set_cons_zero, List.set_cons_succ])
              refine Tw_takeL (i := 7) (v := ?tv152) rfl (by kernel_rfl) (by decide) (by kernel_rfl) (by kernel_rfl) (fun _ _ _ h => h) (by rfl) ?ty152 ?tn152
              case ty152 => (intro w hSw; (try dsimp only at hSw); go_simp <;> with_reducible rfl)
              (try simp only [Act.put, List.setIfInBounds_toArray, List.set_cons_zero, List.set_cons_succ])
              refine Tw_all (rs := [8]) (by kernel_rfl) (by simp) (by decide) (fun hHeld => ?_)
              refine AllT.consL rfl (fun K hK => ?_) (AllT.nil)
              · go_simp
                refine hK.out _ _ ?_ ?_
                · (try dsimp only)
                  ((go_split_ands; refine HALL.out _ ?_; (first | assumption | (repeat (first | assumption | refine Fr.new ?_ _ | refine Fr.drew ?_ | (refine Fr.set ?_ (by first | exact Nat.le_refl _ | omega | (simp; done) | (simp; omega)) (by first | (simp; done) | (simp; omega)) _))); done)))
                clear hK K
                (try simp only [Act.put, List.setIfInBounds_toArray, List.set_cons_zero, List.set_cons_succ])
                refine Tw_abs ?_
                intro wA155 hA155
                (first | (have N1 := Lib.hid (Bk.of_alloc hA155)) | (have N1 := Lib.hid (Bk.of_alloc_drew hA155)))
                have zg := Lib.hid (show W.heap.size ≤ _ from hHeld.1.size)
                (first | (have NC := Lib.hid (Bk.over_alloc hA155 NC.out)) | (have NC := Lib.hid (Bk.over_alloc_drew hA155 NC.out)) | skip)
                clear hA155
                refine Tw_end (by kernel_rfl) (fun hh => ?_)
                obtain ⟨F11, _⟩ := hh
                clear HALL
                have KB := Lib.hid F11.bl
                have n0 := N1.out.cell 0
                have n1 := N1.out.cell 1
                have f0 := N1.out.frozen 0
                have f1 := N1.out.frozen 1
                have za := N1.out.lt
                go_wp2_with fail
                refine wpIn_abs ?_
                intro w4 h4
                have N4 : Hid (Bk w4 _ 28 #[.int .i64 p, .int .i64 m]) := Lib.hid (by subst h4; exact N1.out.set2 _ _)
                have K4 : Hid (Below W.heap.size W w4) := Lib.hid (by subst h4; exact (KB.out.setCell zg.out _).setCell zg.out _)
                clear h4 n0 n1 f0 f1 za F11
                have R5 := Lib.hid (R4.out.call K4.out)
                have r0 := R5.out.cell 0
                have r1 := R5.out.cell 1
                have r2 := R5.out.cell 2
                have r3 := R5.out.cell 3
                have r4 := R5.out.cell 4
                obtain ⟨t0, t1, t2, t3⟩ := N4.out.two
                have zt := N4.out.lt
                have zk := K4.out.size
                have LW4 := Lib.hid (Lies.call LW.out K4.out)
                gi_wp2_with (refine ⟨trivial, ?_⟩; gi_at_call 42; refine (CallsIn.inRound l (callsIn_wide.2 (HRE.out _ LW4.out))).mono ?_; rintro e w5 ⟨rfl, hb5⟩; have K5 := Lib.hid (Below.step K4.out hb5); obtain ⟨u0, u1, u2, u3⟩ := (N4.out.call hb5).two; have B5 := Lib.hid (HBK.out.call K5.out); obtain ⟨v0, v1⟩ := B5.out.one; clear hb5 t0 t1 t2 t3 r0 r1 r2 r3 r4)
                have k6 : But wx.heap.size w2.heap.size W (w5.setCell ⟨wx.heap.size, 0, none⟩ (.int .i64 m)) := (but_of (K5.out.mono hBs) wx.heap.size).setCell (p := ⟨wx.heap.size, 0, none⟩) (.inl rfl) _
                exact ⟨((keeps_of_below K5.out).trans (KeepsOthers.setCell _ _ _)).from _, k6, by rw [HGS.out]; have := B5.out.set_ 0 (.int .i64 m); simpa using this, HBW.out.trans k6⟩
            · go_simp
              refine hK.out _ _ ?_ ?_
              · (try dsimp only)
                ((go_split_ands; refine HALL.out _ ?_; (first | assumption | (repeat (first | assumption | refine Fr.new ?_ _ | refine Fr.drew ?_ | (refine Fr.set ?_ (by first | exact Nat.le_refl _ | omega | (simp; done) | (simp; omega)) (by first | (simp; done) | (simp; omega)) _))); done)))
              clear hK K
              (try simp only [Act.put, List.setIfInBounds_toArray, List.set_cons_zero, List.set_cons_succ])
              refine Tw_abs ?_
              intro wA156 hA156
              (first | (have N1 := Lib.hid (Bk.of_alloc hA156)) | (have N1 := Lib.hid (Bk.of_alloc_drew hA156)))
              have zg := Lib.hid (show W.heap.size ≤ _ from hHeld.1.size)
              (first | (have NC := Lib.hid (Bk.over_alloc hA156 NC.out)) | (have NC := Lib.hid (Bk.over_alloc_drew hA156 NC.out)) | skip)
              clear hA156
              refine Tw_all (rs := [6]) (by kernel_rfl) (by simp) (by decide) (fun hHeld => ?_)
              refine AllT.consL rfl (fun K hK => ?_) (AllT.nil)
              · have n0 := NC.out.rowF_at hpn
                rw [HYY.out] at n0
                go_simp
                refine hK.out _ _ ?_ ?_
                · (try dsimp only)
                  ((go_split_ands; refine HALL.out _ ?_; (first | assumption | (repeat (first | assumption | refine Fr.new ?_ _ | refine Fr.drew ?_ | (refine Fr.set ?_ (by first | exact Nat.le_refl _ | omega | (simp; done) | (simp; omega)) (by first | (simp; done) | (simp; omega)) _))); done)))
                clear hK K n0
                (try simp only [Act.put, List.setIfInBounds_toArray, List.set_cons_zero, List.set_cons_succ])
                refine Tw_takeL (i := 7) (v := ?tv153) rfl (by kernel_rfl) (by decide) (by kernel_rfl) (by kernel_rfl) (fun _ _ _ h => h) (by rfl) ?ty153 ?tn153
                case ty153 => (intro w hSw; (try dsimp only at hSw); go_simp <;> with_reducible rfl)
                (try simp only [Act.put, List.setIfInBounds_toArray, List.set_cons_zero, List.set_cons_succ])
                refine Tw_end (by kernel_rfl) (fun hh => ?_)
                obtain ⟨F11, _⟩ := hh
                clear HALL
                have KB := Lib.hid F11.bl
                have n0 := N1.out.cell 0
                have n1 := N1.out.cell 1
                have f0 := N1.out.frozen 0
                have f1 := N1.out.frozen 1
                have za := N1.out.lt
                go_wp2_with fail
                refine wpIn_abs ?_
                intro w4 h4
                have N4 : Hid (Bk w4 _ 28 #[.int .i64 p, .int .i64 m]) := Lib.hid (by subst h4; exact N1.out.set2 _ _)
                have K4 : Hid (Below W.heap.size W w4) := Lib.hid (by subst h4; exact (KB.out.setCell zg.out _).setCell zg.out _)
                clear h4 n0 n1 f0 f1 za F11
                have R5 := Lib.hid (R4.out.call K4.out)
                have r0 := R5.out.cell 0
                have r1 := R5.out.cell 1
                have r2 := R5.out.cell 2
                have r3 := R5.out.cell 3
                have r4 := R5.out.cell 4
                obtain ⟨t0, t1, t2, t3⟩ := N4.out.two
                have zt := N4.out.lt
                have zk := K4.out.size
                have LW4 := Lib.hid (Lies.call LW.out K4.out)
                gi_wp2_with (refine ⟨trivial, ?_⟩; gi_at_call 42; refine (CallsIn.inRound l (callsIn_wide.2 (HRE.out _ LW4.out))).mono ?_; rintro e w5 ⟨rfl, hb5⟩; have K5 := Lib.hid (Below.step K4.out hb5); obtain ⟨u0, u1, u2, u3⟩ := (N4.out.call hb5).two; have B5 := Lib.hid (HBK.out.call K5.out); obtain ⟨v0, v1⟩ := B5.out.one; clear hb5 t0 t1 t2 t3 r0 r1 r2 r3 r4)
                have k6 : But wx.heap.size w2.heap.size W (w5.setCell ⟨wx.heap.size, 0, none⟩ (.int .i64 m)) := (but_of (K5.out.mono hBs) wx.heap.size).setCell (p := ⟨wx.heap.size, 0, none⟩) (.inl rfl) _
                exact ⟨((keeps_of_below K5.out).trans (KeepsOthers.setCell _ _ _)).from _, k6, by rw [HGS.out]; have := B5.out.set_ 0 (.int .i64 m); simpa using this, HBW.out.trans k6⟩
          · go_simp
            refine hK.out _ _ ?_ ?_
            · (try dsimp only)
              ((go_split_ands; refine HALL.out _ ?_; (first | assumption | (repeat (first | assumption | refine Fr.new ?_ _ | refine Fr.drew ?_ | (refine Fr.set ?_ (by first | exact Nat.le_refl _ | omega | (simp; done) | (simp; omega)) (by first | (simp; done) | (simp; omega)) _))); done)))
            clear hK K
            (try simp only [Act.put, List.setIfInBounds_toArray, List.set_cons_zero, List.set_cons_succ])
            refine Tw_abs ?_
            intro wA158 hA158
            (first | (have N1 := Lib.hid (Bk.of_alloc hA158)) | (have N1 := Lib.hid (Bk.of_alloc_drew hA158)))
            have zg := Lib.hid (show W.heap.size ≤ _ from hHeld.1.size)
            (first | (have NC := Lib.hid (Bk.over_alloc hA158 NC.out)) | (have NC := Lib.hid (Bk.over_alloc_drew hA158 NC.out)) | skip)
            clear hA158
            refine Tw_all (rs := [3]) (by kernel_rfl) (by simp) (by decide) (fun hHeld => ?_)
            refine AllT.consL rfl (fun K hK => ?_) (AllT.nil)
            · go_simp
              (go_at_call 44; go_split_ands; (refine (HCU.out _ (Lies.call LW.out (Fr.bl (by assumption)))).mono ?_); rintro e w7 ⟨gC, rfl, nC, hgC, hb7⟩; have NC := Lib.hid nC; have F4 := Fr.call (by assumption) hb7; (first | (have N1 := Lib.hid (Bk.call N1.out hb7)) | skip); clear hb7 nC hgC)
              refine hK.out _ _ ?_ ?_
              · (try dsimp only)
                ((go_split_ands; refine HALL.out _ ?_; (first | assumption | (repeat (first | assumption | refine Fr.new ?_ _ | refine Fr.drew ?_ | (refine Fr.set ?_ (by first | exact Nat.le_refl _ | omega | (simp; done) | (simp; omega)) (by first | (simp; done) | (simp; omega)) _))); done)))
              clear hK K
              (try simp only [Act.put, List.setIfInBounds_toArray, List.set_cons_zero, List.set_cons_succ])
              refine Tw_takeL (i := 5) (v := ?tv154) rfl (by kernel_rfl) (by decide) (by kernel_rfl) (by kernel_rfl) (fun _ _ _ h => h) (by rfl) ?ty154 ?tn154
              case ty154 => (intro w hSw; (try dsimp only at hSw); go_simp <;> with_reducible rfl)
              (try simp only [Act.put, List.setIfInBounds_toArray, List.set_cons_zero, List.set_cons_succ])
              refine Tw_all (rs := [6]) (by kernel_rfl) (by simp) (by decide) (fun hHeld => ?_)
              refine AllT.consL rfl (fun K hK => ?_) (AllT.nil)
              · have n0 := NC.out.rowF_at hpn
                rw [HYY.out] at n0
                go_simp
                refine hK.out _ _ ?_ ?_
                · (try dsimp only)
                  ((go_split_ands; refine HALL.out _ ?_; (first | assumption | (repeat (first | assumption | refine Fr.new ?_ _ | refine Fr.drew ?_ | (refine Fr.set ?_ (by first | exact Nat.le_refl _ | omega | (simp; done) | (simp; omega)) (by first | (simp; done) | (simp; omega)) _))); done)))
                clear hK K n0
                (try simp only [Act.put, List.setIfInBounds_toArray, List.set_cons_zero, List.set_cons_succ])
                refine Tw_takeL (i := 7) (v := ?tv155) rfl (by kernel_rfl) (by decide) (by kernel_rfl) (by kernel_rfl) (fun _ _ _ h => h) (by rfl) ?ty155 ?tn155
                case ty155 => (intro w hSw; (try dsimp only at hSw); go_simp <;> with_reducible rfl)
                (try simp only [Act.put, List.setIfInBounds_toArray, List.set_cons_zero, List.set_cons_succ])
                refine Tw_end (by kernel_rfl) (fun hh => ?_)
                obtain ⟨F11, _⟩ := hh
                clear HALL
                have KB := Lib.hid F11.bl
                have n0 := N1.out.cell 0
                have n1 := N1.out.cell 1
                have f0 := N1.out.frozen 0
                have f1 := N1.out.frozen 1
                have za := N1.out.lt
                go_wp2_with fail
                refine wpIn_abs ?_
                intro w4 h4
                have N4 : Hid (Bk w4 _ 28 #[.int .i64 p, .int .i64 m]) := Lib.hid (by subst h4; exact N1.out.set2 _ _)
                have K4 : Hid (Below W.heap.size W w4) := Lib.hid (by subst h4; exact (KB.out.setCell zg.out _).setCell zg.out _)
                clear h4 n0 n1 f0 f1 za F11
                have R5 := Lib.hid (R4.out.call K4.out)
                have r0 := R5.out.cell 0
                have r1 := R5.out.cell 1
                have r2 := R5.out.cell 2
                have r3 := R5.out.cell 3
                have r4 := R5.out.cell 4
                obtain ⟨t0, t1, t2, t3⟩ := N4.out.two
                have zt := N4.out.lt
                have zk := K4.out.size
                have LW4 := Lib.hid (Lies.call LW.out K4.out)
                gi_wp2_with (refine ⟨trivial, ?_⟩; gi_at_call 42; refine (CallsIn.inRound l (callsIn_wide.2 (HRE.out _ LW4.out))).mono ?_; rintro e w5 ⟨rfl, hb5⟩; have K5 := Lib.hid (Below.step K4.out hb5); obtain ⟨u0, u1, u2, u3⟩ := (N4.out.call hb5).two; have B5 := Lib.hid (HBK.out.call K5.out); obtain ⟨v0, v1⟩ := B5.out.one; clear hb5 t0 t1 t2 t3 r0 r1 r2 r3 r4)
                have k6 : But wx.heap.size w2.heap.size W (w5.setCell ⟨wx.heap.size, 0, none⟩ (.int .i64 m)) := (but_of (K5.out.mono hBs) wx.heap.size).setCell (p := ⟨wx.heap.size, 0, none⟩) (.inl rfl) _
                exact ⟨((keeps_of_below K5.out).trans (KeepsOthers.setCell _ _ _)).from _, k6, by rw [HGS.out]; have := B5.out.set_ 0 (.int .i64 m); simpa using this, HBW.out.trans k6⟩
        · have h2 : ¬ m < y := by omega
          rw [show max m y = m by omega] at HGS
          refine Tw_startIn 9 (fun W9 => Fr W W9 [] ∧ W9.cell? ⟨w.heap.size + 1 + 1, 0, none⟩ = some (.int .i64 p) ∧ W9.cell? ⟨g, 0, none⟩ = some (.string s) ∧ W9.cell? ⟨g, 1, none⟩ = some (.slice (some a) ps.length c) ∧ W9.cell? ⟨g, 2, none⟩ = some (.int .i64 b.brk) ∧ W9.cell? ⟨g, 3, none⟩ = some (.int .i64 b.drag) ∧ W9.cell? ⟨g, 4, none⟩ = some (.int .i64 b.drv)) (by kernel_rfl) (fun ⟨_, _, h⟩ => h) (by kernel_rfl) (by kernel_rfl) rfl ?_ ?_
          · (try dsimp only)
            ((go_split_ands; refine HALL.out _ ?_; (first | assumption | (repeat (first | assumption | refine Fr.new ?_ _ | refine Fr.drew ?_ | (refine Fr.set ?_ (by first | exact Nat.le_refl _ | omega | (simp; done) | (simp; omega)) (by first | (simp; done) | (simp; omega)) _))); done)))
          refine Tw_takeL (i := 0) (v := ?tv156) rfl (by kernel_rfl) (by decide) (by kernel_rfl) (by kernel_rfl) (fun _ _ _ h => h) (by rfl) ?ty156 ?tn156
          case ty156 => (intro w hSw; (try dsimp only at hSw); go_simp <;> with_reducible rfl)
          (try simp only [Act.put, List.setIfInBounds_toArray, List.set_cons_zero, List.set_cons_succ])
          refine Tw_takeL (i := 1) (v := ?tv157) rfl (by kernel_rfl) (by decide) (by kernel_rfl) (by kernel_rfl) (fun _ _ _ h => h) (by rfl) ?ty157 ?tn157
          case ty157 => (intro w hSw; (try dsimp only at hSw); go_simp <;> with_reducible rfl)
          (try simp only [Act.put, List.setIfInBounds_toArray, List.set_cons_zero, List.set_cons_succ])
          refine Tw_takeL (i := 2) (v := ?tv158) rfl (by kernel_rfl) (by decide) (by kernel_rfl) (by kernel_rfl) (fun _ _ _ h => h) (by rfl) ?ty158 ?tn158
          case ty158 => (intro w hSw; (try dsimp only at hSw); go_simp <;> with_reducible rfl)
          (try simp only [Act.put, List.setIfInBounds_toArray, List.set_cons_zero, List.set_cons_succ])
          refine Tw_takeL (i := 4) (v := ?tv159) rfl (by kernel_rfl) (by decide) (by kernel_rfl) (by kernel_rfl) (fun _ _ _ h => h) (by rfl) ?ty159 ?tn159
          case ty159 => (intro w hSw; (try dsimp only at hSw); go_simp <;> with_reducible rfl)
          (try simp only [Act.put, List.setIfInBounds_toArray, List.set_cons_zero, List.set_cons_succ])
          refine Tw_all (rs := [3, 8]) (by kernel_rfl) (by simp) (by decide) (fun hHeld => ?_)
          refine AllT.consL rfl (fun K hK => ?_) (AllT.consL rfl (fun K hK => ?_) (AllT.nil))
          · go_simp
            (go_at_call 44; go_split_ands; (refine (HCU.out _ (Lies.call LW.out (Fr.bl (by assumption)))).mono ?_); rintro e w7 ⟨gC, rfl, nC, hgC, hb7⟩; have NC := Lib.hid nC; have F4 := Fr.call (by assumption) hb7; (first | (have N1 := Lib.hid (Bk.call N1.out hb7)) | skip); clear hb7 nC hgC)
            refine hK.out _ _ ?_ ?_
            · (try dsimp only)
              ((go_split_ands; refine HALL.out _ ?_; (first | assumption | (repeat (first | assumption | refine Fr.new ?_ _ | refine Fr.drew ?_ | (refine Fr.set ?_ (by first | exact Nat.le_refl _ | omega | (simp; done) | (simp; omega)) (by first | (simp; done) | (simp; omega)) _))); done)))
            clear hK K
            (try simp only [Act.put, List.setIfInBounds_toArray, List.set_cons_zero, List.set_cons_succ])
            refine Tw_takeL (i := 5) (v := ?tv160) rfl (by kernel_rfl) (by decide) (by kernel_rfl) (by kernel_rfl) (fun _ _ _ h => h) (by rfl) ?ty160 ?tn160
            case ty160 => (intro w hSw; (try dsimp only at hSw); go_simp <;> with_reducible rfl)
            (try simp only [Act.put, List.setIfInBounds_toArray, List.set_cons_zero, List.set_cons_succ])
            refine Tw_all (rs := [6, 8]) (by kernel_rfl) (by simp) (by decide) (fun hHeld => ?_)
            refine AllT.consL rfl (fun K hK => ?_) (AllT.consL rfl (fun K hK => ?_) (AllT.nil))
            · have n0 := NC.out.rowF_at hpn
              rw [HYY.out] at n0
              go_simp
              refine hK.out _ _ ?_ ?_
              · (try dsimp only)
                ((go_split_ands; refine HALL.out _ ?_; (first | assumption | (repeat (first | assumption | refine Fr.new ?_ _ | refine Fr.drew ?_ | (refine Fr.set ?_ (by first | exact Nat.le_refl _ | omega | (simp; done) | (simp; omega)) (by first | (simp; done) | (simp; omega)) _))); done)))
              clear hK K n0
              (try simp only [Act.put, List.setIfInBounds_toArray, List.set_cons_zero, List.set_cons_succ])
              refine Tw_takeL (i := 7) (v := ?tv161) rfl (by kernel_rfl) (by decide) (by kernel_rfl) (by kernel_rfl) (fun _ _ _ h => h) (by rfl) ?ty161 ?tn161
              case ty161 => (intro w hSw; (try dsimp only at hSw); go_simp <;> with_reducible rfl)
              (try simp only [Act.put, List.setIfInBounds_toArray, List.set_cons_zero, List.set_cons_succ])
              refine Tw_all (rs := [8]) (by kernel_rfl) (by simp) (by decide) (fun hHeld => ?_)
              refine AllT.consL rfl (fun K hK => ?_) (AllT.nil)
              · go_simp
                refine hK.out _ _ ?_ ?_
                · (try dsimp only)
                  ((go_split_ands; refine HALL.out _ ?_; (first | assumption | (repeat (first | assumption | refine Fr.new ?_ _ | refine Fr.drew ?_ | (refine Fr.set ?_ (by first | exact Nat.le_refl _ | omega | (simp; done) | (simp; omega)) (by first | (simp; done) | (simp; omega)) _))); done)))
                clear hK K
                (try simp only [Act.put, List.setIfInBounds_toArray, List.set_cons_zero, List.set_cons_succ])
                refine Tw_abs ?_
                intro wA163 hA163
                (first | (have N1 := Lib.hid (Bk.of_alloc hA163)) | (have N1 := Lib.hid (Bk.of_alloc_drew hA163)))
                have zg := Lib.hid (show W.heap.size ≤ _ from hHeld.1.size)
                (first | (have NC := Lib.hid (Bk.over_alloc hA163 NC.out)) | (have NC := Lib.hid (Bk.over_alloc_drew hA163 NC.out)) | skip)
                clear hA163
                refine Tw_end (by kernel_rfl) (fun hh => ?_)
                obtain ⟨F11, _⟩ := hh
                clear HALL
                have KB := Lib.hid F11.bl
                have n0 := N1.out.cell 0
                have n1 := N1.out.cell 1
                have f0 := N1.out.frozen 0
                have f1 := N1.out.frozen 1
                have za := N1.out.lt
                go_wp2_with fail
                refine wpIn_abs ?_
                intro w4 h4
                have N4 : Hid (Bk w4 _ 28 #[.int .i64 p, .int .i64 y]) := Lib.hid (by subst h4; exact N1.out.set2 _ _)
                have K4 : Hid (Below W.heap.size W w4) := Lib.hid (by subst h4; exact (KB.out.setCell zg.out _).setCell zg.out _)
                clear h4 n0 n1 f0 f1 za F11
                have R5 := Lib.hid (R4.out.call K4.out)
                have r0 := R5.out.cell 0
                have r1 := R5.out.cell 1
                have r2 := R5.out.cell 2
                have r3 := R5.out.cell 3
                have r4 := R5.out.cell 4
                obtain ⟨t0, t1, t2, t3⟩ := N4.out.two
                have zt := N4.out.lt
                have zk := K4.out.size
                have LW4 := Lib.hid (Lies.call LW.out K4.out)
                gi_wp2_with (refine ⟨trivial, ?_⟩; gi_at_call 42; refine (CallsIn.inRound l (callsIn_wide.2 (HRE.out _ LW4.out))).mono ?_; rintro e w5 ⟨rfl, hb5⟩; have K5 := Lib.hid (Below.step K4.out hb5); obtain ⟨u0, u1, u2, u3⟩ := (N4.out.call hb5).two; have B5 := Lib.hid (HBK.out.call K5.out); obtain ⟨v0, v1⟩ := B5.out.one; clear hb5 t0 t1 t2 t3 r0 r1 r2 r3 r4)
                have k6 : But wx.heap.size w2.heap.size W (w5.setCell ⟨wx.heap.size, 0, none⟩ (.int .i64 m)) := (but_of (K5.out.mono hBs) wx.heap.size).setCell (p := ⟨wx.heap.size, 0, none⟩) (.inl rfl) _
                exact ⟨((keeps_of_below K5.out).trans (KeepsOthers.setCell _ _ _)).from _, k6, by rw [HGS.out]; have := B5.out.set_ 0 (.int .i64 m); simpa using this, HBW.out.trans k6⟩
            · go_simp
              refine hK.out _ _ ?_ ?_
              · (try dsimp only)
                ((go_split_ands; refine HALL.out _ ?_; (first | assumption | (repeat (first | assumption | refine Fr.new ?_ _ | refine Fr.drew ?_ | (refine Fr.set ?_ (by first | exact Nat.le_refl _ | omega | (simp; done) | (simp; omega)) (by first | (simp; done) | (simp; omega)) _))); done)))
              clear hK K
              (try simp only [Act.put, List.setIfInBounds_toArray, List.set_cons_zero, List.set_cons_succ])
              refine Tw_abs ?_
              intro wA164 hA164
              (first | (have N1 := Lib.hid (Bk.of_alloc hA164)) | (have N1 := Lib.hid (Bk.of_alloc_drew hA164)))
              have zg := Lib.hid (show W.heap.size ≤ _ from hHeld.1.size)
              (first | (have NC := Lib.hid (Bk.over_alloc hA164 NC.out)) | (have NC := Lib.hid (Bk.over_alloc_drew hA164 NC.out)) | skip)
              clear hA164
              refine Tw_all (rs := [6]) (by kernel_rfl) (by simp) (by decide) (fun hHeld => ?_)
              refine AllT.consL rfl (fun K hK => ?_) (AllT.nil)
              · have n0 := NC.out.rowF_at hpn
                rw [HYY.out] at n0
                go_simp
                refine hK.out _ _ ?_ ?_
                · (try dsimp only)
                  ((go_split_ands; refine HALL.out _ ?_; (first | assumption | (repeat (first | assumption | refine Fr.new ?_ _ | refine Fr.drew ?_ | (refine Fr.set ?_ (by first | exact Nat.le_refl _ | omega | (simp; done) | (simp; omega)) (by first | (simp; done) | (simp; omega)) _))); done)))
                clear hK K n0
                (try simp only [Act.put, List.setIfInBounds_toArray, List.set_cons_zero, List.set_cons_succ])
                refine Tw_takeL (i := 7) (v := ?tv162) rfl (by kernel_rfl) (by decide) (by kernel_rfl) (by kernel_rfl) (fun _ _ _ h => h) (by rfl) ?ty162 ?tn162
                case ty162 => (intro w hSw; (try dsimp only at hSw); go_simp <;> with_reducible rfl)
                (try simp only [Act.put, List.setIfInBounds_toArray, List.set_cons_zero, List.set_cons_succ])
                refine Tw_end (by kernel_rfl) (fun hh => ?_)
                obtain ⟨F11, _⟩ := hh
                clear HALL
                have KB := Lib.hid F11.bl
                have n0 := N1.out.cell 0
                have n1 := N1.out.cell 1
                have f0 := N1.out.frozen 0
                have f1 := N1.out.frozen 1
                have za := N1.out.lt
                go_wp2_with fail
                refine wpIn_abs ?_
                intro w4 h4
                have N4 : Hid (Bk w4 _ 28 #[.int .i64 p, .int .i64 y]) := Lib.hid (by subst h4; exact N1.out.set2 _ _)
                have K4 : Hid (Below W.heap.size W w4) := Lib.hid (by subst h4; exact (KB.out.setCell zg.out _).setCell zg.out _)
                clear h4 n0 n1 f0 f1 za F11
                have R5 := Lib.hid (R4.out.call K4.out)
                have r0 := R5.out.cell 0
                have r1 := R5.out.cell 1
                have r2 := R5.out.cell 2
                have r3 := R5.out.cell 3
                have r4 := R5.out.cell 4
                obtain ⟨t0, t1, t2, t3⟩ := N4.out.two
                have zt := N4.out.lt
                have zk := K4.out.size
                have LW4 := Lib.hid (Lies.call LW.out K4.out)
                gi_wp2_with (refine ⟨trivial, ?_⟩; gi_at_call 42; refine (CallsIn.inRound l (callsIn_wide.2 (HRE.out _ LW4.out))).mono ?_; rintro e w5 ⟨rfl, hb5⟩; have K5 := Lib.hid (Below.step K4.out hb5); obtain ⟨u0, u1, u2, u3⟩ := (N4.out.call hb5).two; have B5 := Lib.hid (HBK.out.call K5.out); obtain ⟨v0, v1⟩ := B5.out.one; clear hb5 t0 t1 t2 t3 r0 r1 r2 r3 r4)
                have k6 : But wx.heap.size w2.heap.size W (w5.setCell ⟨wx.heap.size, 0, none⟩ (.int .i64 m)) := (but_of (K5.out.mono hBs) wx.heap.size).setCell (p := ⟨wx.heap.size, 0, none⟩) (.inl rfl) _
                exact ⟨((keeps_of_below K5.out).trans (KeepsOthers.setCell _ _ _)).from _, k6, by rw [HGS.out]; have := B5.out.set_ 0 (.int .i64 m); simpa using this, HBW.out.trans k6⟩
          · go_simp
            refine hK.out _ _ ?_ ?_
            · (try dsimp only)
              ((go_split_ands; refine HALL.out _ ?_; (first | assumption | (repeat (first | assumption | refine Fr.new ?_ _ | refine Fr.drew ?_ | (refine Fr.set ?_ (by first | exact Nat.le_refl _ | omega | (simp; done) | (simp; omega)) (by first | (simp; done) | (simp; omega)) _))); done)))
            clear hK K
            (try simp only [Act.put, List.setIfInBounds_toArray, List.set_cons_zero, List.set_cons_succ])
            refine Tw_abs ?_
            intro wA166 hA166
            (first | (have N1 := Lib.hid (Bk.of_alloc hA166)) | (have N1 := Lib.hid (Bk.of_alloc_drew hA166)))
            have zg := Lib.hid (show W.heap.size ≤ _ from hHeld.1.size)
            (first | (have NC := Lib.hid (Bk.over_alloc hA166 NC.out)) | (have NC := Lib.hid (Bk.over_alloc_drew hA166 NC.out)) | skip)
            clear hA166
            refine Tw_all (rs := [3]) (by kernel_rfl) (by simp) (by decide) (fun hHeld => ?_)
            refine AllT.consL rfl (fun K hK => ?_) (AllT.nil)
            · go_simp
              (go_at_call 44; go_split_ands; (refine (HCU.out _ (Lies.call LW.out (Fr.bl (by assumption)))).mono ?_); rintro e w7 ⟨gC, rfl, nC, hgC, hb7⟩; have NC := Lib.hid nC; have F4 := Fr.call (by assumption) hb7; (first | (have N1 := Lib.hid (Bk.call N1.out hb7)) | skip); clear hb7 nC hgC)
              refine hK.out _ _ ?_ ?_
              · (try dsimp only)
                ((go_split_ands; refine HALL.out _ ?_; (first | assumption | (repeat (first | assumption | refine Fr.new ?_ _ | refine Fr.drew ?_ | (refine Fr.set ?_ (by first | exact Nat.le_refl _ | omega | (simp; done) | (simp; omega)) (by first | (simp; done) | (simp; omega)) _))); done)))
              clear hK K
              (try simp only [Act.put, List.setIfInBounds_toArray, List.set_cons_zero, List.set_cons_succ])
              refine Tw_takeL (i := 5) (v := ?tv163) rfl (by kernel_rfl) (by decide) (by kernel_rfl) (by kernel_rfl) (fun _ _ _ h => h) (by rfl) ?ty163 ?tn163
              case ty163 => (intro w hSw; (try dsimp only at hSw); go_simp <;> with_reducible rfl)
              (try simp only [Act.put, List.setIfInBounds_toArray, List.set_cons_zero, List.set_cons_succ])
              refine Tw_all (rs := [6]) (by kernel_rfl) (by simp) (by decide) (fun hHeld => ?_)
              refine AllT.consL rfl (fun K hK => ?_) (AllT.nil)
              · have n0 := NC.out.rowF_at hpn
                rw [HYY.out] at n0
                go_simp
                refine hK.out _ _ ?_ ?_
                · (try dsimp only)
                  ((go_split_ands; refine HALL.out _ ?_; (first | assumption | (repeat (first | assumption | refine Fr.new ?_ _ | refine Fr.drew ?_ | (refine Fr.set ?_ (by first | exact Nat.le_refl _ | omega | (simp; done) | (simp; omega)) (by first | (simp; done) | (simp; omega)) _))); done)))
                clear hK K n0
                (try simp only [Act.put, List.setIfInBounds_toArray, List.set_cons_zero, List.set_cons_succ])
                refine Tw_takeL (i := 7) (v := ?tv164) rfl (by kernel_rfl) (by decide) (by kernel_rfl) (by kernel_rfl) (fun _ _ _ h => h) (by rfl) ?ty164 ?tn164
                case ty164 => (intro w hSw; (try dsimp only at hSw); go_simp <;> with_reducible rfl)
                (try simp only [Act.put, List.setIfInBounds_toArray, List.set_cons_zero, List.set_cons_succ])
                refine Tw_end (by kernel_rfl) (fun hh => ?_)
                obtain ⟨F11, _⟩ := hh
                clear HALL
                have KB := Lib.hid F11.bl
                have n0 := N1.out.cell 0
                have n1 := N1.out.cell 1
                have f0 := N1.out.frozen 0
                have f1 := N1.out.frozen 1
                have za := N1.out.lt
                go_wp2_with fail
                refine wpIn_abs ?_
                intro w4 h4
                have N4 : Hid (Bk w4 _ 28 #[.int .i64 p, .int .i64 y]) := Lib.hid (by subst h4; exact N1.out.set2 _ _)
                have K4 : Hid (Below W.heap.size W w4) := Lib.hid (by subst h4; exact (KB.out.setCell zg.out _).setCell zg.out _)
                clear h4 n0 n1 f0 f1 za F11
                have R5 := Lib.hid (R4.out.call K4.out)
                have r0 := R5.out.cell 0
                have r1 := R5.out.cell 1
                have r2 := R5.out.cell 2
                have r3 := R5.out.cell 3
                have r4 := R5.out.cell 4
                obtain ⟨t0, t1, t2, t3⟩ := N4.out.two
                have zt := N4.out.lt
                have zk := K4.out.size
                have LW4 := Lib.hid (Lies.call LW.out K4.out)
                gi_wp2_with (refine ⟨trivial, ?_⟩; gi_at_call 42; refine (CallsIn.inRound l (callsIn_wide.2 (HRE.out _ LW4.out))).mono ?_; rintro e w5 ⟨rfl, hb5⟩; have K5 := Lib.hid (Below.step K4.out hb5); obtain ⟨u0, u1, u2, u3⟩ := (N4.out.call hb5).two; have B5 := Lib.hid (HBK.out.call K5.out); obtain ⟨v0, v1⟩ := B5.out.one; clear hb5 t0 t1 t2 t3 r0 r1 r2 r3 r4)
                have k6 : But wx.heap.size w2.heap.size W (w5.setCell ⟨wx.heap.size, 0, none⟩ (.int .i64 m)) := (but_of (K5.out.mono hBs) wx.heap.size).setCell (p := ⟨wx.heap.size, 0, none⟩) (.inl rfl) _
                exact ⟨((keeps_of_below K5.out).trans (KeepsOthers.setCell _ _ _)).from _, k6, by rw [HGS.out]; have := B5.out.set_ 0 (.int .i64 m); simpa using this, HBW.out.trans k6⟩
    case done =>
      rintro D ys W hD rfl ⟨hbk, hB⟩ hK
      rw [grL_stL] at hbk
      have BW := Lib.hid (F2.out.bl.trans (hB.low (show w.heap.size ≤ wx.heap.size by omega) (by omega)))
      obtain ⟨p0, p1⟩ := hbk.one
      have hin := gtS_in HOK.out.each b p ps.length
      obtain ⟨m, hm⟩ : ∃ m, gtS ps b p ps.length = m := ⟨_, rfl⟩
      have HM := Lib.hid hm
      rw [hm] at p0 hin
      clear hbk hB hm
      by_cases h : m = -1
      · have HV := Lib.hid (HM.out.trans h)
        subst h
        go_wp2_with fail
        refine nopan_marks ⟨by simp, .inl ⟨_, _, rfl, run_takeDeferred hK, ?_⟩⟩
        refine ⟨.tuple #[.int .i64 0, .int .i64 12], ?_, by rw [HV.out, gtR_none], BW.out.trans (belowK_b (w := w) (Nat.le_refl _) W D _ _ (by omega) hK rfl rfl)⟩
        simp [results, Try.f11, go_sem]
      · have h1 : (m == -1) = false := by simp [h]
        go_wp2_with fail
        refine nopan_marks ⟨by simp, .inl ⟨_, _, rfl, run_takeDeferred hK, ?_⟩⟩
        refine ⟨.tuple #[.int .i64 m, .int .i64 0], ?_, by rw [HM.out, gtR_some h], BW.out.trans (belowK_b (w := w) (Nat.le_refl _) W D _ _ (by omega) hK rfl rfl)⟩
        simp [results, Try.f11, go_sem]
    case stop =>
      rintro D c pre W hD hpre hF hK
      exact hF.elim
end Go.Proofs.Ytmjooiocgeoaiaa
