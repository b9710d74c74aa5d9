
/-
  The walks of canChange, errorOfSquares and CheckSquares of the program.
-/
import Derived.Test.YtmjooiocgeoaiaaBFs2
namespace Go.Proofs.Ytmjooiocgeoaiaa
open Go.RowKit

/-- The error of squares of a right track. -/
def sqsE (ps : List Bp) (l : List Int) : Int := if l.length ≠ ps.length + 1 then 10 else sqE l
/-- Square k. -/
def sqAt (l : List Int) (k : Nat) : Int := l.getD k 0
theorem sqAt_get {l : List Int} {k : Nat} (h : k < l.length) : l[k]? = some (sqAt l k) := by unfold sqAt; rw [List.getD_eq_getElem?_getD, List.getElem?_eq_getElem h]; rfl
/-- Whether square k can't be run. -/
def badS (ps : List Bp) (b : Bs) (l : List Int) (k : Nat) : Bool := decide (limV ps k < sqAt l k) || (decide (0 < k) && !inB (sqAt l k) (sqAt l (k - 1) - lossV (gp ps (k - 1)) b.brk) (sqAt l (k - 1) + drvG (gp ps (k - 1)) b.drv))
theorem sqE_zero {l : List Int} (h : sqE l = 0) : ∀ x ∈ l, 0 ≤ x ∧ x ≤ 20000000000 := by
  unfold sqE at h
  split at h
  · rename_i h1; exact fun x hx => inB_iff.1 (List.all_eq_true.1 h1 x hx)
  · cases h
theorem sqAt_in {l : List Int} (h : sqE l = 0) (k : Nat) : 0 ≤ sqAt l k ∧ sqAt l k ≤ 20000000000 := by
  unfold sqAt
  rw [List.getD_eq_getElem?_getD]
  by_cases hk : k < l.length
  · rw [List.getElem?_eq_getElem hk]; exact sqE_zero h _ (List.getElem_mem hk)
  · rw [List.getElem?_eq_none (by omega)]; decide

set_option maxHeartbeats 8000000 in
set_option maxRecDepth 100000 in
theorem canChange_any (s : ByteArray) (ps : List Bp) (a : Addr) (c : Nat) (b : Bs) (hb : OkS b) (h12 : ps.length ≤ 12) (hx : ∀ p ∈ ps, okP p = true) (k : Nat) (hk : k < ps.length) (x y : Int) (hx0 : 0 ≤ x ∧ x ≤ 20000000000) (w : World) (hA : Lies w w.heap.size (some a) (ps.flatMap pc)) :
    Calls Try.prog 50 #[.agg #[.string s, .slice (some a) ps.length c, .int .i64 b.brk, .int .i64 b.drag, .int .i64 b.drv], .int .i64 k, .int .i64 x, .int .i64 y] w fun e w' => e = .returned (.bool (inB y (x - lossV (gp ps k) b.brk) (x + drvG (gp ps k) b.drv))) ∧ Below w.heap.size w w' := by
  have F0 := Lib.hid (Fr.b1 w 77 #[.string s, .slice (some a) ps.length c, .int .i64 b.brk, .int .i64 b.drag, .int .i64 b.drv])
  have HA := Lib.hid hA
  have HX := Lib.hid hx
  have HB := Lib.hid hb
  have h1 := lossV_bound (gp_ok hx k) (d := b.brk) (by have := hb.b0; have := hb.b1; omega)
  have h2 := drvG_bound (gp_ok hx k) (d := b.drv) ⟨hb.v0, hb.v1⟩
  obtain ⟨x0, x1⟩ := hx0
  have HL1 := Lib.hid (fun W hW => braked_any s ps a c b HB.out h12 HX.out k hk W hW)
  have HL2 := Lib.hid (fun W hW => driven_any s ps a c b HB.out h12 HX.out k hk W hW)
  obtain ⟨l, hl⟩ : ∃ l, lossV (gp ps k) b.brk = l := ⟨_, rfl⟩
  obtain ⟨d, hd⟩ : ∃ d, drvG (gp ps k) b.drv = d := ⟨_, rfl⟩
  rw [hl] at h1 HL1
  rw [hd] at h2 HL2
  rw [hl, hd]
  have hw1 := IntWalk.i64_in (x - l) (by omega)
  have hw2 := IntWalk.i64_in (x + d) (by omega)
  clear hA hx hb h1 h2 hl hd
  go_enter Try.func50, Try.ntmps50
  go_wp2_with fail
  have HALL : Hid (∀ W, Fr w W [(w.heap.size, 77, #[.string s, .slice (some a) ps.length c, .int .i64 b.brk, .int .i64 b.drag, .int .i64 b.drv])] → Fr w W [(w.heap.size, 77, #[.string s, .slice (some a) ps.length c, .int .i64 b.brk, .int .i64 b.drag, .int .i64 b.drv])] ∧ W.cell? ⟨w.heap.size, 0, none⟩ = some (.string s) ∧ W.cell? ⟨w.heap.size, 1, none⟩ = some (.slice (some a) ps.length c) ∧ W.cell? ⟨w.heap.size, 2, none⟩ = some (.int .i64 b.brk) ∧ W.cell? ⟨w.heap.size, 3, none⟩ = some (.int .i64 b.drag) ∧ W.cell? ⟨w.heap.size, 4, none⟩ = some (.int .i64 b.drv)) := Lib.hid (fun W hW => ⟨hW, hW.top.cell 0, hW.top.cell 1, hW.top.cell 2, hW.top.cell 3, hW.top.cell 4⟩)
  have F10 : Fr w _ [(w.heap.size, 77, #[.string s, .slice (some a) ps.length c, .int .i64 b.brk, .int .i64 b.drag, .int .i64 b.drv])] := F0.out
  clear F0
  go_region_held3 (fun W => Fr w W [(w.heap.size, 77, #[.string s, .slice (some a) ps.length c, .int .i64 b.brk, .int .i64 b.drag, .int .i64 b.drv])] ∧ W.cell? ⟨w.heap.size, 0, none⟩ = some (.string s) ∧ W.cell? ⟨w.heap.size, 1, none⟩ = some (.slice (some a) ps.length c) ∧ W.cell? ⟨w.heap.size, 2, none⟩ = some (.int .i64 b.brk) ∧ W.cell? ⟨w.heap.size, 3, none⟩ = some (.int .i64 b.drag) ∧ W.cell? ⟨w.heap.size, 4, none⟩ = some (.int .i64 b.drv))
      ((go_split_ands; refine HALL.out _ ?_; (first | assumption | (repeat (first | assumption | refine Fr.new ?_ _ | refine Fr.drew ?_ | (refine Fr.set ?_ (by first | exact Nat.le_refl _ | omega | (simp; done) | (simp; omega)) (by first | (simp; done) | (simp; omega)) _))); done)))
      ((first
        | (go_at_call 71; go_split_ands; (with_reducible refine (HL1.out _ (Fr.lies HA.out (by assumption))).mono ?_); rintro e w1 ⟨rfl, hb1⟩; have F4 := Fr.call (by assumption) hb1; clear hb1)
        | (go_at_call 73; go_split_ands; (with_reducible refine (HL2.out _ (Fr.lies HA.out (by assumption))).mono ?_); rintro e w1 ⟨rfl, hb1⟩; have F5 := Fr.call (by assumption) hb1; clear hb1)
        | (go_at_call 77; go_split_ands; (with_reducible refine (within_any _ _ _ _).mono ?_); rintro e w' ⟨rfl, rfl⟩)
        | fail "arm"))
  all_goals
    go_split_ands
    go_wp2_with fail
    go_ret
    exact ⟨rfl, Fr.bl (by assumption)⟩

set_option maxHeartbeats 8000000 in
set_option maxRecDepth 100000 in
theorem errorOfSquares_any (s : ByteArray) (ps : List Bp) (A : Option Addr) (c : Nat) (hl : ps.length ≤ 1000) (l : List Int) (B : Option Addr) (d : Nat) (hl2 : l.length ≤ maxLen) (w : World) (hL : Lies w w.heap.size B (ic l)) :
    Calls Try.prog 48 #[.agg #[.string s, .slice A ps.length c], .slice B l.length d] w fun e w' => e = .returned (.int .i64 (sqsE ps l)) ∧ Below w.heap.size w w' := by
  have F0 := Lib.hid (Fr.b1 w 24 #[.string s, .slice A ps.length c])
  have HL := Lib.hid hL
  have hw := IntWalk.i64_in ((ps.length : Int) + 1) (by omega)
  have hl3 := hl2
  unfold maxLen at hl3
  by_cases hn : l.length = ps.length + 1
  · have HE : Hid (sqsE ps l = sqE l) := Lib.hid (by unfold sqsE; rw [if_neg (by simpa using hn)])
    have hb : ((l.length : Int) != (ps.length : Int) + 1) = false := by rw [bne_eq_false_iff_eq]; omega
    have hb2 : (l.length : Int) = (ps.length : Int) + 1 := by omega
    obtain ⟨n, hnn⟩ : ∃ n, l.length = n := ⟨_, rfl⟩
    have HQ := Lib.hid (fun W h => errorOfSquare_bl l B d hl2 W h)
    rw [hnn] at HQ hb hb2 hl3 ⊢
    clear hL hn hnn hl2 hb2
    go_enter Try.func48, Try.ntmps48
    go_wp2_with fail
    refine (HQ.out _ (Fr.lies HL.out F0.out)).mono ?_
    rintro e w1 ⟨rfl, hb1⟩
    have F1 := Lib.hid (Fr.call F0.out hb1)
    clear hb1 F0
    go_wp2_with fail
    go_ret
    exact ⟨ret_i64 HE.out.symm, F1.out.bl⟩
  · have HE : Hid (sqsE ps l = 10) := Lib.hid (by unfold sqsE; rw [if_pos hn])
    have hb : ((l.length : Int) != (ps.length : Int) + 1) = true := by rw [bne_iff_ne]; omega
    have hb2 : ¬ (l.length : Int) = (ps.length : Int) + 1 := by omega
    clear hL hn hl2
    go_enter Try.func48, Try.ntmps48
    go_wp2_with fail
    go_ret
    exact ⟨ret_i64 HE.out.symm, F0.out.bl⟩

set_option maxHeartbeats 8000000 in
set_option maxRecDepth 100000 in
theorem CheckSquares_bad (s : ByteArray) (hs : s.size ≤ maxLen) (ps : List Bp) (A : Option Addr) (c : Nat) (hl : ps.length ≤ 1000) (b : Bs) (l : List Int) (B : Option Addr) (d : Nat) (hl2 : l.length ≤ maxLen) (er : Int) (he : nz ((trE s ps).2 :: sE b :: [sqsE ps l]) = er) (hr : er ≠ 0) (w : World) (hA : Lies w w.heap.size A (ps.flatMap pc)) (hL : Lies w w.heap.size B (ic l)) :
    Calls Try.prog 18 #[.agg #[.string s, .slice A ps.length c], .agg #[.int .i64 b.brk, .int .i64 b.drag, .int .i64 b.drv], .slice B l.length d] w fun e w' => e = .returned (.tuple #[.int .i64 0, .int .i64 er]) ∧ Below w.heap.size w w' := by
  have hlm : ps.length ≤ maxLen := by unfold maxLen; omega
  have F0 := Lib.hid (Fr.b2 w 24 #[.string s, .slice A ps.length c] 26 #[.int .i64 b.brk, .int .i64 b.drag, .int .i64 b.drv])
  have HA := Lib.hid hA
  have HL := Lib.hid hL
  obtain ⟨se, hse⟩ : ∃ se, sqsE ps l = se := ⟨_, rfl⟩
  have HSE : Hid (∀ W, Lies W W.heap.size B (ic l) → Calls Try.prog 48 #[.agg #[.string s, .slice A ps.length c], .slice B l.length d] W fun e w' => e = .returned (.int .i64 (sqsE ps l)) ∧ Below W.heap.size W w') := Lib.hid (fun W h => errorOfSquares_any s ps A c hl l B d hl2 W h)
  have HS1 := Lib.hid hse
  rw [hse] at he
  have HR := Lib.hid hr
  have ge : (er != 0) = true := by simp [hr]
  have HCR : Hid (∀ (fa : Addr) (W : World), Lies W W.heap.size A (ps.flatMap pc) → Lies W W.heap.size (some fa) (ic [se]) → Calls Try.prog 39 #[.agg #[.string s, .slice A ps.length c], .agg #[.int .i64 b.brk, .int .i64 b.drag, .int .i64 b.drv], .slice (some fa) 1 1] W fun e w' => e = .returned (.tuple #[.agg #[.string ⟨#[]⟩, .slice none 0 0, .int .i64 0, .int .i64 0, .int .i64 0], .int .i64 er]) ∧ Below W.heap.size W w') := Lib.hid (fun fa W h1 h2 => checkRide_bad s hs ps A c hlm b [se] fa 1 (by simp) (by simp) er he hr W h1 h2)
  obtain ⟨LL, hLL⟩ : ∃ n, l.length = n := ⟨_, rfl⟩
  rw [hLL] at HSE ⊢
  clear hA hL hse he hr hLL hl2
  go_enter Try.func18, Try.ntmps18
  go_upto_region 1 with fail
  go_cut [8, 9] from 8 to 22 (fun pv rv W => ∃ g : Nat, pv = .pointer (some ⟨g, 0, none⟩) ∧ rv = .int .i64 er ∧ Fr w W ((g, 77, #[.string ⟨#[]⟩, .slice none 0 0, .int .i64 0, .int .i64 0, .int .i64 0]) :: [(w.heap.size + 1, 26, #[.int .i64 b.brk, .int .i64 b.drag, .int .i64 b.drv]), (w.heap.size, 24, #[.string s, .slice A ps.length c])]))
  case first =>
    refine wp_abs ?_
    intro w5 h5
    have HALL : Hid (∀ W, Fr w W [(w.heap.size + 1, 26, #[.int .i64 b.brk, .int .i64 b.drag, .int .i64 b.drv]), (w.heap.size, 24, #[.string s, .slice A ps.length c])] → Fr w W [(w.heap.size + 1, 26, #[.int .i64 b.brk, .int .i64 b.drag, .int .i64 b.drv]), (w.heap.size, 24, #[.string s, .slice A ps.length c])] ∧ W.cell? ⟨w.heap.size, 0, none⟩ = some (.string s) ∧ W.cell? ⟨w.heap.size, 1, none⟩ = some (.slice A ps.length c) ∧ W.cell? ⟨w.heap.size + 1, 0, none⟩ = some (.int .i64 b.brk) ∧ W.cell? ⟨w.heap.size + 1, 1, none⟩ = some (.int .i64 b.drag) ∧ W.cell? ⟨w.heap.size + 1, 2, none⟩ = some (.int .i64 b.drv)) := Lib.hid (fun W hW => ⟨hW, hW.at1.cell 0, hW.at1.cell 1, hW.top.cell 0, hW.top.cell 1, hW.top.cell 2⟩)
    have F10 : Fr w w5 [(w.heap.size + 1, 26, #[.int .i64 b.brk, .int .i64 b.drag, .int .i64 b.drv]), (w.heap.size, 24, #[.string s, .slice A ps.length c])] := by subst h5; exact F0.out
    clear F0 h5
    refine Tw_start 12 (fun W => Fr w W [(w.heap.size + 1, 26, #[.int .i64 b.brk, .int .i64 b.drag, .int .i64 b.drv]), (w.heap.size, 24, #[.string s, .slice A ps.length c])] ∧ W.cell? ⟨w.heap.size, 0, none⟩ = some (.string s) ∧ W.cell? ⟨w.heap.size, 1, none⟩ = some (.slice A ps.length c) ∧ W.cell? ⟨w.heap.size + 1, 0, none⟩ = some (.int .i64 b.brk) ∧ W.cell? ⟨w.heap.size + 1, 1, none⟩ = some (.int .i64 b.drag) ∧ W.cell? ⟨w.heap.size + 1, 2, none⟩ = some (.int .i64 b.drv)) (by kernel_rfl) (by kernel_rfl) rfl ?_ ?_
    · (try dsimp only)
      ((go_split_ands; refine HALL.out _ ?_; (first | assumption | (repeat (first | assumption | refine Fr.new ?_ _ | refine Fr.drew ?_ | (refine Fr.set ?_ (by first | exact Nat.le_refl _ | omega | (simp; done) | (simp; omega)) (by first | (simp; done) | (simp; omega)) _))); done)))
    refine Tw_takeL (i := 0) (v := ?tv65) rfl (by kernel_rfl) (by decide) (by kernel_rfl) (by kernel_rfl) (fun _ _ _ h => h) (by rfl) ?ty65 ?tn65
    case ty65 => (intro w hSw; (try dsimp only at hSw); go_simp <;> with_reducible rfl)
    (try simp only [Act.put, List.setIfInBounds_toArray, List.set_cons_zero, List.set_cons_succ])
    refine Tw_takeL (i := 1) (v := ?tv66) rfl (by kernel_rfl) (by decide) (by kernel_rfl) (by kernel_rfl) (fun _ _ _ h => h) (by rfl) ?ty66 ?tn66
    case ty66 => (intro w hSw; (try dsimp only at hSw); go_simp <;> with_reducible rfl)
    (try simp only [Act.put, List.setIfInBounds_toArray, List.set_cons_zero, List.set_cons_succ])
    refine Tw_takeL (i := 2) (v := ?tv67) rfl (by kernel_rfl) (by decide) (by kernel_rfl) (by kernel_rfl) (fun _ _ _ h => h) (by rfl) ?ty67 ?tn67
    case ty67 => (intro w hSw; (try dsimp only at hSw); go_simp <;> with_reducible rfl)
    (try simp only [Act.put, List.setIfInBounds_toArray, List.set_cons_zero, List.set_cons_succ])
    refine Tw_takeL (i := 3) (v := ?tv68) rfl (by kernel_rfl) (by decide) (by kernel_rfl) (by kernel_rfl) (fun _ _ _ h => h) (by rfl) ?ty68 ?tn68
    case ty68 => (intro w hSw; (try dsimp only at hSw); go_simp <;> with_reducible rfl)
    (try simp only [Act.put, List.setIfInBounds_toArray, List.set_cons_zero, List.set_cons_succ])
    refine Tw_all (rs := [4, 10]) (by kernel_rfl) (by simp) (by decide) (fun hHeld => ?_)
    refine AllT.consL rfl (fun K hK => ?_) (AllT.consL rfl (fun K hK => ?_) (AllT.nil))
    · go_simp
      (go_at_call 48; go_split_ands; (with_reducible refine (HSE.out _ (Fr.lies HL.out (by assumption))).mono ?_); rintro e w7 ⟨rfl, hb7⟩; rw [HS1.out]; have F4 := Fr.call (by assumption) hb7; (first | (have N1 := Lib.hid (Bk.call N1.out hb7)) | skip); (first | (have L1 := Lib.hid (Lies.call L1.out hb7)) | skip); clear hb7)
      refine hK.out _ _ ?_ ?_
      · (try dsimp only)
        ((go_split_ands; refine HALL.out _ ?_; (first | assumption | (repeat (first | assumption | refine Fr.new ?_ _ | refine Fr.drew ?_ | (refine Fr.set ?_ (by first | exact Nat.le_refl _ | omega | (simp; done) | (simp; omega)) (by first | (simp; done) | (simp; omega)) _))); done)))
      clear hK K
      (try simp only [Act.put, List.setIfInBounds_toArray, List.set_cons_zero, List.set_cons_succ])
      refine Tw_all (rs := [5, 10]) (by kernel_rfl) (by simp) (by decide) (fun hHeld => ?_)
      refine AllT.consL rfl (fun K hK => ?_) (AllT.consL rfl (fun K hK => ?_) (AllT.nil))
      · go_simp
        refine hK.out _ _ ?_ ?_
        · (try dsimp only)
          ((go_split_ands; refine HALL.out _ ?_; (first | assumption | (repeat (first | assumption | refine Fr.new ?_ _ | refine Fr.drew ?_ | (refine Fr.set ?_ (by first | exact Nat.le_refl _ | omega | (simp; done) | (simp; omega)) (by first | (simp; done) | (simp; omega)) _))); done)))
        clear hK K
        (try simp only [Act.put, List.setIfInBounds_toArray, List.set_cons_zero, List.set_cons_succ])
        refine Tw_abs ?_
        intro wA70 hA70
        (first | (have N1 := Lib.hid (Bk.over_alloc hA70 N1.out)) | (have N1 := Lib.hid (Bk.over_alloc_drew hA70 N1.out)) | skip)
        (first | (have L1 := Lib.hid (fs_alloc (l := [se]) hA70 (by simp [maxLen]))) | (have L1 := Lib.hid (fs_drew (l := [se]) hA70 (by simp [maxLen]))))
        clear hA70
        refine Tw_all (rs := [6, 10]) (by kernel_rfl) (by simp) (by decide) (fun hHeld => ?_)
        refine AllT.consL rfl (fun K hK => ?_) (AllT.consL rfl (fun K hK => ?_) (AllT.nil))
        · go_simp
          (go_at_call 39; go_split_ands; (refine (HCR.out _ _ (Fr.lies HA.out (by assumption)) L1.out).mono ?_); rintro e w7 ⟨rfl, hb7⟩; have F6 := Fr.call (by assumption) hb7; (first | (have N1 := Lib.hid (Bk.call N1.out hb7)) | skip); (first | (have L1 := Lib.hid (Lies.call L1.out hb7)) | skip); clear hb7)
          refine hK.out _ _ ?_ ?_
          · (try dsimp only)
            ((go_split_ands; refine HALL.out _ ?_; (first | assumption | (repeat (first | assumption | refine Fr.new ?_ _ | refine Fr.drew ?_ | (refine Fr.set ?_ (by first | exact Nat.le_refl _ | omega | (simp; done) | (simp; omega)) (by first | (simp; done) | (simp; omega)) _))); done)))
          clear hK K
          (try simp only [Act.put, List.setIfInBounds_toArray, List.set_cons_zero, List.set_cons_succ])
          refine Tw_takeL (i := 7) (v := ?tv69) rfl (by kernel_rfl) (by decide) (by kernel_rfl) (by kernel_rfl) (fun _ _ _ h => h) (by rfl) ?ty69 ?tn69
          case ty69 => (intro w hSw; (try dsimp only at hSw); go_simp <;> with_reducible rfl)
          (try simp only [Act.put, List.setIfInBounds_toArray, List.set_cons_zero, List.set_cons_succ])
          refine Tw_takeL (i := 8) (v := ?tv70) rfl (by kernel_rfl) (by decide) (by kernel_rfl) (by kernel_rfl) (fun _ _ _ h => h) (by rfl) ?ty70 ?tn70
          case ty70 => (intro w hSw; (try dsimp only at hSw); go_simp <;> with_reducible rfl)
          (try simp only [Act.put, List.setIfInBounds_toArray, List.set_cons_zero, List.set_cons_succ])
          refine Tw_takeL (i := 9) (v := ?tv71) rfl (by kernel_rfl) (by decide) (by kernel_rfl) (by kernel_rfl) (fun _ _ _ h => h) (by rfl) ?ty71 ?tn71
          case ty71 => (intro w hSw; (try dsimp only at hSw); go_simp <;> with_reducible rfl)
          (try simp only [Act.put, List.setIfInBounds_toArray, List.set_cons_zero, List.set_cons_succ])
          refine Tw_all (rs := [10]) (by kernel_rfl) (by simp) (by decide) (fun hHeld => ?_)
          refine AllT.consL rfl (fun K hK => ?_) (AllT.nil)
          · go_simp
            refine hK.out _ _ ?_ ?_
            · (try dsimp only)
              ((go_split_ands; refine HALL.out _ ?_; (first | assumption | (repeat (first | assumption | refine Fr.new ?_ _ | refine Fr.drew ?_ | (refine Fr.set ?_ (by first | exact Nat.le_refl _ | omega | (simp; done) | (simp; omega)) (by first | (simp; done) | (simp; omega)) _))); done)))
            clear hK K
            (try simp only [Act.put, List.setIfInBounds_toArray, List.set_cons_zero, List.set_cons_succ])
            refine Tw_abs ?_
            intro wA72 hA72
            (first | (have N1 := Lib.hid (Bk.of_alloc hA72)) | (have N1 := Lib.hid (Bk.of_alloc_drew hA72)))
            have zg := Lib.hid (show w.heap.size + 2 ≤ _ from hHeld.1.top.lt)
            (first | (have L1 := Lib.hid (Lies.alloc hA72 L1.out)) | (have L1 := Lib.hid (Lies.alloc_drew hA72 L1.out)) | skip)
            clear hA72
            refine Tw_all (rs := [11]) (by kernel_rfl) (by simp) (by decide) (fun hHeld => ?_)
            refine AllT.consL rfl (fun K hK => ?_) (AllT.nil)
            · have c0 := N1.out.cell 0
              have c1 := N1.out.cell 1
              have c2 := N1.out.cell 2
              have c3 := N1.out.cell 3
              have c4 := N1.out.cell 4
              have f0 := N1.out.frozen 0
              have f1 := N1.out.frozen 1
              have f2 := N1.out.frozen 2
              have f3 := N1.out.frozen 3
              have f4 := N1.out.frozen 4
              have zN := N1.out.lt
              go_simp
              refine hK.out _ _ ?_ ?_
              · exact HALL.out _ (Fr.off5 (n := 2) hHeld.1 zg.out (by intro b hb; simp only [List.mem_cons, List.not_mem_nil, or_false] at hb; rcases hb with rfl | rfl <;> (dsimp only; omega)) _ _ _ _ _)
              clear hK K c0 f0 c1 f1 c2 f2 c3 f3 c4 f4 zN
              have N1 := Lib.hid (Bk.set5 N1.out (.string ⟨#[]⟩) (.slice none 0 0) (.int .i64 0) (.int .i64 0) (.int .i64 0))
              (try simp only [Act.put, List.setIfInBounds_toArray, List.set_cons_zero, List.set_cons_succ])
              refine Tw_end (by kernel_rfl) (fun hh => ?_)
              obtain ⟨F11, _⟩ := hh
              clear HALL
              go_wp2_with fail
              go_meet
              exact ⟨_, rfl, rfl, F11.more N1.out⟩
        · go_simp
          refine hK.out _ _ ?_ ?_
          · (try dsimp only)
            ((go_split_ands; refine HALL.out _ ?_; (first | assumption | (repeat (first | assumption | refine Fr.new ?_ _ | refine Fr.drew ?_ | (refine Fr.set ?_ (by first | exact Nat.le_refl _ | omega | (simp; done) | (simp; omega)) (by first | (simp; done) | (simp; omega)) _))); done)))
          clear hK K
          (try simp only [Act.put, List.setIfInBounds_toArray, List.set_cons_zero, List.set_cons_succ])
          refine Tw_abs ?_
          intro wA74 hA74
          (first | (have N1 := Lib.hid (Bk.of_alloc hA74)) | (have N1 := Lib.hid (Bk.of_alloc_drew hA74)))
          have zg := Lib.hid (show w.heap.size + 2 ≤ _ from hHeld.1.top.lt)
          (first | (have L1 := Lib.hid (Lies.alloc hA74 L1.out)) | (have L1 := Lib.hid (Lies.alloc_drew hA74 L1.out)) | skip)
          clear hA74
          refine Tw_all (rs := [6]) (by kernel_rfl) (by simp) (by decide) (fun hHeld => ?_)
          refine AllT.consL rfl (fun K hK => ?_) (AllT.nil)
          · go_simp
            (go_at_call 39; go_split_ands; (refine (HCR.out _ _ (Fr.lies HA.out (by assumption)) L1.out).mono ?_); rintro e w7 ⟨rfl, hb7⟩; have F6 := Fr.call (by assumption) hb7; (first | (have N1 := Lib.hid (Bk.call N1.out hb7)) | skip); (first | (have L1 := Lib.hid (Lies.call L1.out hb7)) | skip); clear hb7)
            refine hK.out _ _ ?_ ?_
            · (try dsimp only)
              ((go_split_ands; refine HALL.out _ ?_; (first | assumption | (repeat (first | assumption | refine Fr.new ?_ _ | refine Fr.drew ?_ | (refine Fr.set ?_ (by first | exact Nat.le_refl _ | omega | (simp; done) | (simp; omega)) (by first | (simp; done) | (simp; omega)) _))); done)))
            clear hK K
            (try simp only [Act.put, List.setIfInBounds_toArray, List.set_cons_zero, List.set_cons_succ])
            refine Tw_takeL (i := 7) (v := ?tv72) rfl (by kernel_rfl) (by decide) (by kernel_rfl) (by kernel_rfl) (fun _ _ _ h => h) (by rfl) ?ty72 ?tn72
            case ty72 => (intro w hSw; (try dsimp only at hSw); go_simp <;> with_reducible rfl)
            (try simp only [Act.put, List.setIfInBounds_toArray, List.set_cons_zero, List.set_cons_succ])
            refine Tw_takeL (i := 8) (v := ?tv73) rfl (by kernel_rfl) (by decide) (by kernel_rfl) (by kernel_rfl) (fun _ _ _ h => h) (by rfl) ?ty73 ?tn73
            case ty73 => (intro w hSw; (try dsimp only at hSw); go_simp <;> with_reducible rfl)
            (try simp only [Act.put, List.setIfInBounds_toArray, List.set_cons_zero, List.set_cons_succ])
            refine Tw_takeL (i := 9) (v := ?tv74) rfl (by kernel_rfl) (by decide) (by kernel_rfl) (by kernel_rfl) (fun _ _ _ h => h) (by rfl) ?ty74 ?tn74
            case ty74 => (intro w hSw; (try dsimp only at hSw); go_simp <;> with_reducible rfl)
            (try simp only [Act.put, List.setIfInBounds_toArray, List.set_cons_zero, List.set_cons_succ])
            refine Tw_all (rs := [11]) (by kernel_rfl) (by simp) (by decide) (fun hHeld => ?_)
            refine AllT.consL rfl (fun K hK => ?_) (AllT.nil)
            · have c0 := N1.out.cell 0
              have c1 := N1.out.cell 1
              have c2 := N1.out.cell 2
              have c3 := N1.out.cell 3
              have c4 := N1.out.cell 4
              have f0 := N1.out.frozen 0
              have f1 := N1.out.frozen 1
              have f2 := N1.out.frozen 2
              have f3 := N1.out.frozen 3
              have f4 := N1.out.frozen 4
              have zN := N1.out.lt
              go_simp
              refine hK.out _ _ ?_ ?_
              · exact HALL.out _ (Fr.off5 (n := 2) hHeld.1 zg.out (by intro b hb; simp only [List.mem_cons, List.not_mem_nil, or_false] at hb; rcases hb with rfl | rfl <;> (dsimp only; omega)) _ _ _ _ _)
              clear hK K c0 f0 c1 f1 c2 f2 c3 f3 c4 f4 zN
              have N1 := Lib.hid (Bk.set5 N1.out (.string ⟨#[]⟩) (.slice none 0 0) (.int .i64 0) (.int .i64 0) (.int .i64 0))
              (try simp only [Act.put, List.setIfInBounds_toArray, List.set_cons_zero, List.set_cons_succ])
              refine Tw_end (by kernel_rfl) (fun hh => ?_)
              obtain ⟨F11, _⟩ := hh
              clear HALL
              go_wp2_with fail
              go_meet
              exact ⟨_, rfl, rfl, F11.more N1.out⟩
      · go_simp
        refine hK.out _ _ ?_ ?_
        · (try dsimp only)
          ((go_split_ands; refine HALL.out _ ?_; (first | assumption | (repeat (first | assumption | refine Fr.new ?_ _ | refine Fr.drew ?_ | (refine Fr.set ?_ (by first | exact Nat.le_refl _ | omega | (simp; done) | (simp; omega)) (by first | (simp; done) | (simp; omega)) _))); done)))
        clear hK K
        (try simp only [Act.put, List.setIfInBounds_toArray, List.set_cons_zero, List.set_cons_succ])
        refine Tw_abs ?_
        intro wA77 hA77
        (first | (have N1 := Lib.hid (Bk.of_alloc hA77)) | (have N1 := Lib.hid (Bk.of_alloc_drew hA77)))
        have zg := Lib.hid (show w.heap.size + 2 ≤ _ from hHeld.1.top.lt)
        (first | (have L1 := Lib.hid (Lies.alloc hA77 L1.out)) | (have L1 := Lib.hid (Lies.alloc_drew hA77 L1.out)) | skip)
        clear hA77
        refine Tw_all (rs := [5]) (by kernel_rfl) (by simp) (by decide) (fun hHeld => ?_)
        refine AllT.consL rfl (fun K hK => ?_) (AllT.nil)
        · go_simp
          refine hK.out _ _ ?_ ?_
          · (try dsimp only)
            ((go_split_ands; refine HALL.out _ ?_; (first | assumption | (repeat (first | assumption | refine Fr.new ?_ _ | refine Fr.drew ?_ | (refine Fr.set ?_ (by first | exact Nat.le_refl _ | omega | (simp; done) | (simp; omega)) (by first | (simp; done) | (simp; omega)) _))); done)))
          clear hK K
          (try simp only [Act.put, List.setIfInBounds_toArray, List.set_cons_zero, List.set_cons_succ])
          refine Tw_abs ?_
          intro wA78 hA78
          (first | (have N1 := Lib.hid (Bk.over_alloc hA78 N1.out)) | (have N1 := Lib.hid (Bk.over_alloc_drew hA78 N1.out)) | skip)
          (first | (have L1 := Lib.hid (fs_alloc (l := [se]) hA78 (by simp [maxLen]))) | (have L1 := Lib.hid (fs_drew (l := [se]) hA78 (by simp [maxLen]))))
          clear hA78
          refine Tw_all (rs := [6]) (by kernel_rfl) (by simp) (by decide) (fun hHeld => ?_)
          refine AllT.consL rfl (fun K hK => ?_) (AllT.nil)
          · go_simp
            (go_at_call 39; go_split_ands; (refine (HCR.out _ _ (Fr.lies HA.out (by assumption)) L1.out).mono ?_); rintro e w7 ⟨rfl, hb7⟩; have F6 := Fr.call (by assumption) hb7; (first | (have N1 := Lib.hid (Bk.call N1.out hb7)) | skip); (first | (have L1 := Lib.hid (Lies.call L1.out hb7)) | skip); clear hb7)
            refine hK.out _ _ ?_ ?_
            · (try dsimp only)
              ((go_split_ands; refine HALL.out _ ?_; (first | assumption | (repeat (first | assumption | refine Fr.new ?_ _ | refine Fr.drew ?_ | (refine Fr.set ?_ (by first | exact Nat.le_refl _ | omega | (simp; done) | (simp; omega)) (by first | (simp; done) | (simp; omega)) _))); done)))
            clear hK K
            (try simp only [Act.put, List.setIfInBounds_toArray, List.set_cons_zero, List.set_cons_succ])
            refine Tw_takeL (i := 7) (v := ?tv75) rfl (by kernel_rfl) (by decide) (by kernel_rfl) (by kernel_rfl) (fun _ _ _ h => h) (by rfl) ?ty75 ?tn75
            case ty75 => (intro w hSw; (try dsimp only at hSw); go_simp <;> with_reducible rfl)
            (try simp only [Act.put, List.setIfInBounds_toArray, List.set_cons_zero, List.set_cons_succ])
            refine Tw_takeL (i := 8) (v := ?tv76) rfl (by kernel_rfl) (by decide) (by kernel_rfl) (by kernel_rfl) (fun _ _ _ h => h) (by rfl) ?ty76 ?tn76
            case ty76 => (intro w hSw; (try dsimp only at hSw); go_simp <;> with_reducible rfl)
            (try simp only [Act.put, List.setIfInBounds_toArray, List.set_cons_zero, List.set_cons_succ])
            refine Tw_takeL (i := 9) (v := ?tv77) rfl (by kernel_rfl) (by decide) (by kernel_rfl) (by kernel_rfl) (fun _ _ _ h => h) (by rfl) ?ty77 ?tn77
            case ty77 => (intro w hSw; (try dsimp only at hSw); go_simp <;> with_reducible rfl)
            (try simp only [Act.put, List.setIfInBounds_toArray, List.set_cons_zero, List.set_cons_succ])
            refine Tw_all (rs := [11]) (by kernel_rfl) (by simp) (by decide) (fun hHeld => ?_)
            refine AllT.consL rfl (fun K hK => ?_) (AllT.nil)
            · have c0 := N1.out.cell 0
              have c1 := N1.out.cell 1
              have c2 := N1.out.cell 2
              have c3 := N1.out.cell 3
              have c4 := N1.out.cell 4
              have f0 := N1.out.frozen 0
              have f1 := N1.out.frozen 1
              have f2 := N1.out.frozen 2
              have f3 := N1.out.frozen 3
              have f4 := N1.out.frozen 4
              have zN := N1.out.lt
              go_simp
              refine hK.out _ _ ?_ ?_
              · exact HALL.out _ (Fr.off5 (n := 2) hHeld.1 zg.out (by intro b hb; simp only [List.mem_cons, List.not_mem_nil, or_false] at hb; rcases hb with rfl | rfl <;> (dsimp only; omega)) _ _ _ _ _)
              clear hK K c0 f0 c1 f1 c2 f2 c3 f3 c4 f4 zN
              have N1 := Lib.hid (Bk.set5 N1.out (.string ⟨#[]⟩) (.slice none 0 0) (.int .i64 0) (.int .i64 0) (.int .i64 0))
              (try simp only [Act.put, List.setIfInBounds_toArray, List.set_cons_zero, List.set_cons_succ])
              refine Tw_end (by kernel_rfl) (fun hh => ?_)
              obtain ⟨F11, _⟩ := hh
              clear HALL
              go_wp2_with fail
              go_meet
              exact ⟨_, rfl, rfl, F11.more N1.out⟩
    · go_simp
      refine hK.out _ _ ?_ ?_
      · (try dsimp only)
        ((go_split_ands; refine HALL.out _ ?_; (first | assumption | (repeat (first | assumption | refine Fr.new ?_ _ | refine Fr.drew ?_ | (refine Fr.set ?_ (by first | exact Nat.le_refl _ | omega | (simp; done) | (simp; omega)) (by first | (simp; done) | (simp; omega)) _))); done)))
      clear hK K
      (try simp only [Act.put, List.setIfInBounds_toArray, List.set_cons_zero, List.set_cons_succ])
      refine Tw_abs ?_
      intro wA81 hA81
      (first | (have N1 := Lib.hid (Bk.of_alloc hA81)) | (have N1 := Lib.hid (Bk.of_alloc_drew hA81)))
      have zg := Lib.hid (show w.heap.size + 2 ≤ _ from hHeld.1.top.lt)
      (first | (have L1 := Lib.hid (Lies.alloc hA81 L1.out)) | (have L1 := Lib.hid (Lies.alloc_drew hA81 L1.out)) | skip)
      clear hA81
      refine Tw_all (rs := [4]) (by kernel_rfl) (by simp) (by decide) (fun hHeld => ?_)
      refine AllT.consL rfl (fun K hK => ?_) (AllT.nil)
      · go_simp
        (go_at_call 48; go_split_ands; (with_reducible refine (HSE.out _ (Fr.lies HL.out (by assumption))).mono ?_); rintro e w7 ⟨rfl, hb7⟩; rw [HS1.out]; have F4 := Fr.call (by assumption) hb7; (first | (have N1 := Lib.hid (Bk.call N1.out hb7)) | skip); (first | (have L1 := Lib.hid (Lies.call L1.out hb7)) | skip); clear hb7)
        refine hK.out _ _ ?_ ?_
        · (try dsimp only)
          ((go_split_ands; refine HALL.out _ ?_; (first | assumption | (repeat (first | assumption | refine Fr.new ?_ _ | refine Fr.drew ?_ | (refine Fr.set ?_ (by first | exact Nat.le_refl _ | omega | (simp; done) | (simp; omega)) (by first | (simp; done) | (simp; omega)) _))); done)))
        clear hK K
        (try simp only [Act.put, List.setIfInBounds_toArray, List.set_cons_zero, List.set_cons_succ])
        refine Tw_all (rs := [5]) (by kernel_rfl) (by simp) (by decide) (fun hHeld => ?_)
        refine AllT.consL rfl (fun K hK => ?_) (AllT.nil)
        · go_simp
          refine hK.out _ _ ?_ ?_
          · (try dsimp only)
            ((go_split_ands; refine HALL.out _ ?_; (first | assumption | (repeat (first | assumption | refine Fr.new ?_ _ | refine Fr.drew ?_ | (refine Fr.set ?_ (by first | exact Nat.le_refl _ | omega | (simp; done) | (simp; omega)) (by first | (simp; done) | (simp; omega)) _))); done)))
          clear hK K
          (try simp only [Act.put, List.setIfInBounds_toArray, List.set_cons_zero, List.set_cons_succ])
          refine Tw_abs ?_
          intro wA83 hA83
          (first | (have N1 := Lib.hid (Bk.over_alloc hA83 N1.out)) | (have N1 := Lib.hid (Bk.over_alloc_drew hA83 N1.out)) | skip)
          (first | (have L1 := Lib.hid (fs_alloc (l := [se]) hA83 (by simp [maxLen]))) | (have L1 := Lib.hid (fs_drew (l := [se]) hA83 (by simp [maxLen]))))
          clear hA83
          refine Tw_all (rs := [6]) (by kernel_rfl) (by simp) (by decide) (fun hHeld => ?_)
          refine AllT.consL rfl (fun K hK => ?_) (AllT.nil)
          · go_simp
            (go_at_call 39; go_split_ands; (refine (HCR.out _ _ (Fr.lies HA.out (by assumption)) L1.out).mono ?_); rintro e w7 ⟨rfl, hb7⟩; have F6 := Fr.call (by assumption) hb7; (first | (have N1 := Lib.hid (Bk.call N1.out hb7)) | skip); (first | (have L1 := Lib.hid (Lies.call L1.out hb7)) | skip); clear hb7)
            refine hK.out _ _ ?_ ?_
            · (try dsimp only)
              ((go_split_ands; refine HALL.out _ ?_; (first | assumption | (repeat (first | assumption | refine Fr.new ?_ _ | refine Fr.drew ?_ | (refine Fr.set ?_ (by first | exact Nat.le_refl _ | omega | (simp; done) | (simp; omega)) (by first | (simp; done) | (simp; omega)) _))); done)))
            clear hK K
            (try simp only [Act.put, List.setIfInBounds_toArray, List.set_cons_zero, List.set_cons_succ])
            refine Tw_takeL (i := 7) (v := ?tv78) rfl (by kernel_rfl) (by decide) (by kernel_rfl) (by kernel_rfl) (fun _ _ _ h => h) (by rfl) ?ty78 ?tn78
            case ty78 => (intro w hSw; (try dsimp only at hSw); go_simp <;> with_reducible rfl)
            (try simp only [Act.put, List.setIfInBounds_toArray, List.set_cons_zero, List.set_cons_succ])
            refine Tw_takeL (i := 8) (v := ?tv79) rfl (by kernel_rfl) (by decide) (by kernel_rfl) (by kernel_rfl) (fun _ _ _ h => h) (by rfl) ?ty79 ?tn79
            case ty79 => (intro w hSw; (try dsimp only at hSw); go_simp <;> with_reducible rfl)
            (try simp only [Act.put, List.setIfInBounds_toArray, List.set_cons_zero, List.set_cons_succ])
            refine Tw_takeL (i := 9) (v := ?tv80) rfl (by kernel_rfl) (by decide) (by kernel_rfl) (by kernel_rfl) (fun _ _ _ h => h) (by rfl) ?ty80 ?tn80
            case ty80 => (intro w hSw; (try dsimp only at hSw); go_simp <;> with_reducible rfl)
            (try simp only [Act.put, List.setIfInBounds_toArray, List.set_cons_zero, List.set_cons_succ])
            refine Tw_all (rs := [11]) (by kernel_rfl) (by simp) (by decide) (fun hHeld => ?_)
            refine AllT.consL rfl (fun K hK => ?_) (AllT.nil)
            · have c0 := N1.out.cell 0
              have c1 := N1.out.cell 1
              have c2 := N1.out.cell 2
              have c3 := N1.out.cell 3
              have c4 := N1.out.cell 4
              have f0 := N1.out.frozen 0
              have f1 := N1.out.frozen 1
              have f2 := N1.out.frozen 2
              have f3 := N1.out.frozen 3
              have f4 := N1.out.frozen 4
              have zN := N1.out.lt
              go_simp
              refine hK.out _ _ ?_ ?_
              · exact HALL.out _ (Fr.off5 (n := 2) hHeld.1 zg.out (by intro b hb; simp only [List.mem_cons, List.not_mem_nil, or_false] at hb; rcases hb with rfl | rfl <;> (dsimp only; omega)) _ _ _ _ _)
              clear hK K c0 f0 c1 f1 c2 f2 c3 f3 c4 f4 zN
              have N1 := Lib.hid (Bk.set5 N1.out (.string ⟨#[]⟩) (.slice none 0 0) (.int .i64 0) (.int .i64 0) (.int .i64 0))
              (try simp only [Act.put, List.setIfInBounds_toArray, List.set_cons_zero, List.set_cons_succ])
              refine Tw_end (by kernel_rfl) (fun hh => ?_)
              obtain ⟨F11, _⟩ := hh
              clear HALL
              go_wp2_with fail
              go_meet
              exact ⟨_, rfl, rfl, F11.more N1.out⟩
  case rest =>
    obtain ⟨wx, rfl⟩ : ∃ W, W = wc := ⟨_, rfl⟩
    obtain ⟨g, rfl, rfl, hx⟩ := hcut
    have FC := Lib.hid hx
    clear hx F0
    go_wp2_with fail
    go_ret2
    exact ⟨rfl, FC.out.bl⟩

set_option maxHeartbeats 8000000 in
set_option maxRecDepth 100000 in
theorem CheckSquares_hit (s : ByteArray) (hs : s.size ≤ maxLen) (ps : List Bp) (a : Addr) (c : Nat) (hl : ps.length ≤ 1000) (b : Bs) (l : List Int) (B : Option Addr) (d : Nat) (hl2 : l.length ≤ maxLen) (hok : OkT s ps) (hb : OkS b) (hsb : sE b = 0) (h2 : sqsE ps l = 0) (n : Nat) (hn : n ≤ ps.length) (hmiss : ∀ j, j < n → badS ps b l j = false) (hhit : badS ps b l n = true) (w : World) (hA : Lies w w.heap.size (some a) (ps.flatMap pc)) (hL : Lies w w.heap.size B (ic l)) :
    Calls Try.prog 18 #[.agg #[.string s, .slice (some a) ps.length c], .agg #[.int .i64 b.brk, .int .i64 b.drag, .int .i64 b.drv], .slice B l.length d] w fun e w' => e = .returned (.tuple #[.int .i64 n, .int .i64 24]) ∧ Below w.heap.size w w' := by
  have HHIT := Lib.hid hhit
  have HMISS := Lib.hid hmiss
  clear hmiss hhit
  have hlm : ps.length ≤ maxLen := by unfold maxLen; omega
  have F0 := Lib.hid (Fr.b2 w 24 #[.string s, .slice (some a) ps.length c] 26 #[.int .i64 b.brk, .int .i64 b.drag, .int .i64 b.drv])
  have HA := Lib.hid hA
  have HL := Lib.hid hL
  obtain ⟨se, hse⟩ : ∃ se, sqsE ps l = se := ⟨_, rfl⟩
  have HSE : Hid (∀ W, Lies W W.heap.size B (ic l) → Calls Try.prog 48 #[.agg #[.string s, .slice (some a) ps.length c], .slice B l.length d] W fun e w' => e = .returned (.int .i64 (sqsE ps l)) ∧ Below W.heap.size W w') := Lib.hid (fun W h => errorOfSquares_any s ps (some a) c hl l B d hl2 W h)
  have HS1 := Lib.hid hse
  have HN : nz ((trE s ps).2 :: sE b :: [se]) = 0 := by rw [trE_ok hok, hsb, ← hse, h2]; rfl
  have HCR : Hid (∀ (fa : Addr) (W : World), Lies W W.heap.size (some a) (ps.flatMap pc) → Lies W W.heap.size (some fa) (ic [se]) → Calls Try.prog 39 #[.agg #[.string s, .slice (some a) ps.length c], .agg #[.int .i64 b.brk, .int .i64 b.drag, .int .i64 b.drv], .slice (some fa) 1 1] W fun e w' => e = .returned (.tuple #[.agg #[.string s, .slice (some a) ps.length c, .int .i64 b.brk, .int .i64 b.drag, .int .i64 b.drv], .int .i64 0]) ∧ Below W.heap.size W w') := Lib.hid (fun fa W h1 h2 => checkRide_ok s hs ps (some a) c hlm b [se] fa 1 (by simp) (by simp) HN W h1 h2)
  have HOK := Lib.hid hok
  have HB := Lib.hid hb
  have hln : l.length = ps.length + 1 := Decidable.by_contra fun h => by unfold sqsE at h2; rw [if_pos h] at h2; cases h2
  have HQ : Hid (sqE l = 0) := Lib.hid (by unfold sqsE at h2; rw [if_neg (by simpa using hln)] at h2; exact h2)
  have h12 := hok.n12
  have hl12 : (ps.length : Int) ≤ 12 := by omega
  have HLE : Hid (∀ k, k ≤ ps.length → ∀ W, Fr w W [] → ∃ a2, B = some a2 ∧ a2.block < w.heap.size ∧ W.cell? (a2.add k) = some (.int .i64 (sqAt l k))) := Lib.hid (fun k hk W hW => by
    obtain ⟨a2, e, h1, _⟩ := hL.num (sqAt_get (k := k) (by omega))
    obtain ⟨a3, e3, _, h3⟩ := (Fr.lies hL hW).num (sqAt_get (k := k) (by omega))
    rw [e] at e3
    injection e3 with e3
    subst e3
    exact ⟨a2, e, h1, h3⟩)
  obtain ⟨a2, ea2, _, _⟩ := HLE.out 0 (Nat.zero_le _) w (Fr.nil w)
  subst ea2
  have HLC : Hid (∀ k, k ≤ ps.length → ∀ W, Fr w W [] → W.cell? (a2.add k) = some (.int .i64 (sqAt l k))) := Lib.hid (fun k hk W hW => by
    obtain ⟨a3, e3, _, h3⟩ := HLE.out k hk W hW
    injection e3 with e3
    subst e3
    exact h3)
  rw [hln] at HSE ⊢
  obtain ⟨N, hN⟩ : ∃ N, N = ps.length + 1 := ⟨_, rfl⟩
  rw [← hN] at HSE ⊢
  have HNN := Lib.hid hN
  clear hN hA hL hse hok hb hsb h2 hln hl2 HLE HN
  go_enter Try.func18, Try.ntmps18
  go_upto_region 1 with fail
  go_cut [8, 9] from 8 to 22 (fun pv rv W => ∃ g : Nat, pv = .pointer (some ⟨g, 0, none⟩) ∧ rv = .int .i64 0 ∧ Fr w W ((g, 77, #[.string s, .slice (some a) ps.length c, .int .i64 b.brk, .int .i64 b.drag, .int .i64 b.drv]) :: [(w.heap.size + 1, 26, #[.int .i64 b.brk, .int .i64 b.drag, .int .i64 b.drv]), (w.heap.size, 24, #[.string s, .slice (some a) ps.length c])]))
  case first =>
    refine wp_abs ?_
    intro w5 h5
    have HALL : Hid (∀ W, Fr w W [(w.heap.size + 1, 26, #[.int .i64 b.brk, .int .i64 b.drag, .int .i64 b.drv]), (w.heap.size, 24, #[.string s, .slice (some a) ps.length c])] → Fr w W [(w.heap.size + 1, 26, #[.int .i64 b.brk, .int .i64 b.drag, .int .i64 b.drv]), (w.heap.size, 24, #[.string s, .slice (some a) ps.length c])] ∧ W.cell? ⟨w.heap.size, 0, none⟩ = some (.string s) ∧ W.cell? ⟨w.heap.size, 1, none⟩ = some (.slice (some a) ps.length c) ∧ W.cell? ⟨w.heap.size + 1, 0, none⟩ = some (.int .i64 b.brk) ∧ W.cell? ⟨w.heap.size + 1, 1, none⟩ = some (.int .i64 b.drag) ∧ W.cell? ⟨w.heap.size + 1, 2, none⟩ = some (.int .i64 b.drv)) := Lib.hid (fun W hW => ⟨hW, hW.at1.cell 0, hW.at1.cell 1, hW.top.cell 0, hW.top.cell 1, hW.top.cell 2⟩)
    have F10 : Fr w w5 [(w.heap.size + 1, 26, #[.int .i64 b.brk, .int .i64 b.drag, .int .i64 b.drv]), (w.heap.size, 24, #[.string s, .slice (some a) ps.length c])] := by subst h5; exact F0.out
    clear F0 h5
    refine Tw_start 12 (fun W => Fr w W [(w.heap.size + 1, 26, #[.int .i64 b.brk, .int .i64 b.drag, .int .i64 b.drv]), (w.heap.size, 24, #[.string s, .slice (some a) ps.length c])] ∧ W.cell? ⟨w.heap.size, 0, none⟩ = some (.string s) ∧ W.cell? ⟨w.heap.size, 1, none⟩ = some (.slice (some a) ps.length c) ∧ W.cell? ⟨w.heap.size + 1, 0, none⟩ = some (.int .i64 b.brk) ∧ W.cell? ⟨w.heap.size + 1, 1, none⟩ = some (.int .i64 b.drag) ∧ W.cell? ⟨w.heap.size + 1, 2, none⟩ = some (.int .i64 b.drv)) (by kernel_rfl) (by kernel_rfl) rfl ?_ ?_
    · (try dsimp only)
      ((go_split_ands; refine HALL.out _ ?_; (first | assumption | (repeat (first | assumption | refine Fr.new ?_ _ | refine Fr.drew ?_ | (refine Fr.set ?_ (by first | exact Nat.le_refl _ | omega | (simp; done) | (simp; omega)) (by first | (simp; done) | (simp; omega)) _))); done)))
    refine Tw_takeL (i := 0) (v := ?tv81) rfl (by kernel_rfl) (by decide) (by kernel_rfl) (by kernel_rfl) (fun _ _ _ h => h) (by rfl) ?ty81 ?tn81
    case ty81 => (intro w hSw; (try dsimp only at hSw); go_simp <;> with_reducible rfl)
    (try simp only [Act.put, List.setIfInBounds_toArray, List.set_cons_zero, List.set_cons_succ])
    refine Tw_takeL (i := 1) (v := ?tv82) rfl (by kernel_rfl) (by decide) (by kernel_rfl) (by kernel_rfl) (fun _ _ _ h => h) (by rfl) ?ty82 ?tn82
    case ty82 => (intro w hSw; (try dsimp only at hSw); go_simp <;> with_reducible rfl)
    (try simp only [Act.put, List.setIfInBounds_toArray, List.set_cons_zero, List.set_cons_succ])
    refine Tw_takeL (i := 2) (v := ?tv83) rfl (by kernel_rfl) (by decide) (by kernel_rfl) (by kernel_rfl) (fun _ _ _ h => h) (by rfl) ?ty83 ?tn83
    case ty83 => (intro w hSw; (try dsimp only at hSw); go_simp <;> with_reducible rfl)
    (try simp only [Act.put, List.setIfInBounds_toArray, List.set_cons_zero, List.set_cons_succ])
    refine Tw_takeL (i := 3) (v := ?tv84) rfl (by kernel_rfl) (by decide) (by kernel_rfl) (by kernel_rfl) (fun _ _ _ h => h) (by rfl) ?ty84 ?tn84
    case ty84 => (intro w hSw; (try dsimp only at hSw); go_simp <;> with_reducible rfl)
    (try simp only [Act.put, List.setIfInBounds_toArray, List.set_cons_zero, List.set_cons_succ])
    refine Tw_all (rs := [4, 10]) (by kernel_rfl) (by simp) (by decide) (fun hHeld => ?_)
    refine AllT.consL rfl (fun K hK => ?_) (AllT.consL rfl (fun K hK => ?_) (AllT.nil))
    · go_simp
      (go_at_call 48; go_split_ands; (with_reducible refine (HSE.out _ (Fr.lies HL.out (by assumption))).mono ?_); rintro e w7 ⟨rfl, hb7⟩; rw [HS1.out]; have F4 := Fr.call (by assumption) hb7; (first | (have N1 := Lib.hid (Bk.call N1.out hb7)) | skip); (first | (have L1 := Lib.hid (Lies.call L1.out hb7)) | skip); clear hb7)
      refine hK.out _ _ ?_ ?_
      · (try dsimp only)
        ((go_split_ands; refine HALL.out _ ?_; (first | assumption | (repeat (first | assumption | refine Fr.new ?_ _ | refine Fr.drew ?_ | (refine Fr.set ?_ (by first | exact Nat.le_refl _ | omega | (simp; done) | (simp; omega)) (by first | (simp; done) | (simp; omega)) _))); done)))
      clear hK K
      (try simp only [Act.put, List.setIfInBounds_toArray, List.set_cons_zero, List.set_cons_succ])
      refine Tw_all (rs := [5, 10]) (by kernel_rfl) (by simp) (by decide) (fun hHeld => ?_)
      refine AllT.consL rfl (fun K hK => ?_) (AllT.consL rfl (fun K hK => ?_) (AllT.nil))
      · go_simp
        refine hK.out _ _ ?_ ?_
        · (try dsimp only)
          ((go_split_ands; refine HALL.out _ ?_; (first | assumption | (repeat (first | assumption | refine Fr.new ?_ _ | refine Fr.drew ?_ | (refine Fr.set ?_ (by first | exact Nat.le_refl _ | omega | (simp; done) | (simp; omega)) (by first | (simp; done) | (simp; omega)) _))); done)))
        clear hK K
        (try simp only [Act.put, List.setIfInBounds_toArray, List.set_cons_zero, List.set_cons_succ])
        refine Tw_abs ?_
        intro wA87 hA87
        (first | (have N1 := Lib.hid (Bk.over_alloc hA87 N1.out)) | (have N1 := Lib.hid (Bk.over_alloc_drew hA87 N1.out)) | skip)
        (first | (have L1 := Lib.hid (fs_alloc (l := [se]) hA87 (by simp [maxLen]))) | (have L1 := Lib.hid (fs_drew (l := [se]) hA87 (by simp [maxLen]))))
        clear hA87
        refine Tw_all (rs := [6, 10]) (by kernel_rfl) (by simp) (by decide) (fun hHeld => ?_)
        refine AllT.consL rfl (fun K hK => ?_) (AllT.consL rfl (fun K hK => ?_) (AllT.nil))
        · go_simp
          (go_at_call 39; go_split_ands; (refine (HCR.out _ _ (Fr.lies HA.out (by assumption)) L1.out).mono ?_); rintro e w7 ⟨rfl, hb7⟩; have F6 := Fr.call (by assumption) hb7; (first | (have N1 := Lib.hid (Bk.call N1.out hb7)) | skip); (first | (have L1 := Lib.hid (Lies.call L1.out hb7)) | skip); clear hb7)
          refine hK.out _ _ ?_ ?_
          · (try dsimp only)
            ((go_split_ands; refine HALL.out _ ?_; (first | assumption | (repeat (first | assumption | refine Fr.new ?_ _ | refine Fr.drew ?_ | (refine Fr.set ?_ (by first | exact Nat.le_refl _ | omega | (simp; done) | (simp; omega)) (by first | (simp; done) | (simp; omega)) _))); done)))
          clear hK K
          (try simp only [Act.put, List.setIfInBounds_toArray, List.set_cons_zero, List.set_cons_succ])
          refine Tw_takeL (i := 7) (v := ?tv85) rfl (by kernel_rfl) (by decide) (by kernel_rfl) (by kernel_rfl) (fun _ _ _ h => h) (by rfl) ?ty85 ?tn85
          case ty85 => (intro w hSw; (try dsimp only at hSw); go_simp <;> with_reducible rfl)
          (try simp only [Act.put, List.setIfInBounds_toArray, List.set_cons_zero, List.set_cons_succ])
          refine Tw_takeL (i := 8) (v := ?tv86) rfl (by kernel_rfl) (by decide) (by kernel_rfl) (by kernel_rfl) (fun _ _ _ h => h) (by rfl) ?ty86 ?tn86
          case ty86 => (intro w hSw; (try dsimp only at hSw); go_simp <;> with_reducible rfl)
          (try simp only [Act.put, List.setIfInBounds_toArray, List.set_cons_zero, List.set_cons_succ])
          refine Tw_takeL (i := 9) (v := ?tv87) rfl (by kernel_rfl) (by decide) (by kernel_rfl) (by kernel_rfl) (fun _ _ _ h => h) (by rfl) ?ty87 ?tn87
          case ty87 => (intro w hSw; (try dsimp only at hSw); go_simp <;> with_reducible rfl)
          (try simp only [Act.put, List.setIfInBounds_toArray, List.set_cons_zero, List.set_cons_succ])
          refine Tw_all (rs := [10]) (by kernel_rfl) (by simp) (by decide) (fun hHeld => ?_)
          refine AllT.consL rfl (fun K hK => ?_) (AllT.nil)
          · go_simp
            refine hK.out _ _ ?_ ?_
            · (try dsimp only)
              ((go_split_ands; refine HALL.out _ ?_; (first | assumption | (repeat (first | assumption | refine Fr.new ?_ _ | refine Fr.drew ?_ | (refine Fr.set ?_ (by first | exact Nat.le_refl _ | omega | (simp; done) | (simp; omega)) (by first | (simp; done) | (simp; omega)) _))); done)))
            clear hK K
            (try simp only [Act.put, List.setIfInBounds_toArray, List.set_cons_zero, List.set_cons_succ])
            refine Tw_abs ?_
            intro wA89 hA89
            (first | (have N1 := Lib.hid (Bk.of_alloc hA89)) | (have N1 := Lib.hid (Bk.of_alloc_drew hA89)))
            have zg := Lib.hid (show w.heap.size + 2 ≤ _ from hHeld.1.top.lt)
            (first | (have L1 := Lib.hid (Lies.alloc hA89 L1.out)) | (have L1 := Lib.hid (Lies.alloc_drew hA89 L1.out)) | skip)
            clear hA89
            refine Tw_all (rs := [11]) (by kernel_rfl) (by simp) (by decide) (fun hHeld => ?_)
            refine AllT.consL rfl (fun K hK => ?_) (AllT.nil)
            · have c0 := N1.out.cell 0
              have c1 := N1.out.cell 1
              have c2 := N1.out.cell 2
              have c3 := N1.out.cell 3
              have c4 := N1.out.cell 4
              have f0 := N1.out.frozen 0
              have f1 := N1.out.frozen 1
              have f2 := N1.out.frozen 2
              have f3 := N1.out.frozen 3
              have f4 := N1.out.frozen 4
              have zN := N1.out.lt
              go_simp
              refine hK.out _ _ ?_ ?_
              · exact HALL.out _ (Fr.off5 (n := 2) hHeld.1 zg.out (by intro b hb; simp only [List.mem_cons, List.not_mem_nil, or_false] at hb; rcases hb with rfl | rfl <;> (dsimp only; omega)) _ _ _ _ _)
              clear hK K c0 f0 c1 f1 c2 f2 c3 f3 c4 f4 zN
              have N1 := Lib.hid (Bk.set5 N1.out (.string s) (.slice (some a) ps.length c) (.int .i64 b.brk) (.int .i64 b.drag) (.int .i64 b.drv))
              (try simp only [Act.put, List.setIfInBounds_toArray, List.set_cons_zero, List.set_cons_succ])
              refine Tw_end (by kernel_rfl) (fun hh => ?_)
              obtain ⟨F11, _⟩ := hh
              clear HALL
              go_wp2_with fail
              go_meet
              exact ⟨_, rfl, rfl, F11.more N1.out⟩
        · go_simp
          refine hK.out _ _ ?_ ?_
          · (try dsimp only)
            ((go_split_ands; refine HALL.out _ ?_; (first | assumption | (repeat (first | assumption | refine Fr.new ?_ _ | refine Fr.drew ?_ | (refine Fr.set ?_ (by first | exact Nat.le_refl _ | omega | (simp; done) | (simp; omega)) (by first | (simp; done) | (simp; omega)) _))); done)))
          clear hK K
          (try simp only [Act.put, List.setIfInBounds_toArray, List.set_cons_zero, List.set_cons_succ])
          refine Tw_abs ?_
          intro wA91 hA91
          (first | (have N1 := Lib.hid (Bk.of_alloc hA91)) | (have N1 := Lib.hid (Bk.of_alloc_drew hA91)))
          have zg := Lib.hid (show w.heap.size + 2 ≤ _ from hHeld.1.top.lt)
          (first | (have L1 := Lib.hid (Lies.alloc hA91 L1.out)) | (have L1 := Lib.hid (Lies.alloc_drew hA91 L1.out)) | skip)
          clear hA91
          refine Tw_all (rs := [6]) (by kernel_rfl) (by simp) (by decide) (fun hHeld => ?_)
          refine AllT.consL rfl (fun K hK => ?_) (AllT.nil)
          · go_simp
            (go_at_call 39; go_split_ands; (refine (HCR.out _ _ (Fr.lies HA.out (by assumption)) L1.out).mono ?_); rintro e w7 ⟨rfl, hb7⟩; have F6 := Fr.call (by assumption) hb7; (first | (have N1 := Lib.hid (Bk.call N1.out hb7)) | skip); (first | (have L1 := Lib.hid (Lies.call L1.out hb7)) | skip); clear hb7)
            refine hK.out _ _ ?_ ?_
            · (try dsimp only)
              ((go_split_ands; refine HALL.out _ ?_; (first | assumption | (repeat (first | assumption | refine Fr.new ?_ _ | refine Fr.drew ?_ | (refine Fr.set ?_ (by first | exact Nat.le_refl _ | omega | (simp; done) | (simp; omega)) (by first | (simp; done) | (simp; omega)) _))); done)))
            clear hK K
            (try simp only [Act.put, List.setIfInBounds_toArray, List.set_cons_zero, List.set_cons_succ])
            refine Tw_takeL (i := 7) (v := ?tv88) rfl (by kernel_rfl) (by decide) (by kernel_rfl) (by kernel_rfl) (fun _ _ _ h => h) (by rfl) ?ty88 ?tn88
            case ty88 => (intro w hSw; (try dsimp only at hSw); go_simp <;> with_reducible rfl)
            (try simp only [Act.put, List.setIfInBounds_toArray, List.set_cons_zero, List.set_cons_succ])
            refine Tw_takeL (i := 8) (v := ?tv89) rfl (by kernel_rfl) (by decide) (by kernel_rfl) (by kernel_rfl) (fun _ _ _ h => h) (by rfl) ?ty89 ?tn89
            case ty89 => (intro w hSw; (try dsimp only at hSw); go_simp <;> with_reducible rfl)
            (try simp only [Act.put, List.setIfInBounds_toArray, List.set_cons_zero, List.set_cons_succ])
            refine Tw_takeL (i := 9) (v := ?tv90) rfl (by kernel_rfl) (by decide) (by kernel_rfl) (by kernel_rfl) (fun _ _ _ h => h) (by rfl) ?ty90 ?tn90
            case ty90 => (intro w hSw; (try dsimp only at hSw); go_simp <;> with_reducible rfl)
            (try simp only [Act.put, List.setIfInBounds_toArray, List.set_cons_zero, List.set_cons_succ])
            refine Tw_all (rs := [11]) (by kernel_rfl) (by simp) (by decide) (fun hHeld => ?_)
            refine AllT.consL rfl (fun K hK => ?_) (AllT.nil)
            · have c0 := N1.out.cell 0
              have c1 := N1.out.cell 1
              have c2 := N1.out.cell 2
              have c3 := N1.out.cell 3
              have c4 := N1.out.cell 4
              have f0 := N1.out.frozen 0
              have f1 := N1.out.frozen 1
              have f2 := N1.out.frozen 2
              have f3 := N1.out.frozen 3
              have f4 := N1.out.frozen 4
              have zN := N1.out.lt
              go_simp
              refine hK.out _ _ ?_ ?_
              · exact HALL.out _ (Fr.off5 (n := 2) hHeld.1 zg.out (by intro b hb; simp only [List.mem_cons, List.not_mem_nil, or_false] at hb; rcases hb with rfl | rfl <;> (dsimp only; omega)) _ _ _ _ _)
              clear hK K c0 f0 c1 f1 c2 f2 c3 f3 c4 f4 zN
              have N1 := Lib.hid (Bk.set5 N1.out (.string s) (.slice (some a) ps.length c) (.int .i64 b.brk) (.int .i64 b.drag) (.int .i64 b.drv))
              (try simp only [Act.put, List.setIfInBounds_toArray, List.set_cons_zero, List.set_cons_succ])
              refine Tw_end (by kernel_rfl) (fun hh => ?_)
              obtain ⟨F11, _⟩ := hh
              clear HALL
              go_wp2_with fail
              go_meet
              exact ⟨_, rfl, rfl, F11.more N1.out⟩
      · go_simp
        refine hK.out _ _ ?_ ?_
        · (try dsimp only)
          ((go_split_ands; refine HALL.out _ ?_; (first | assumption | (repeat (first | assumption | refine Fr.new ?_ _ | refine Fr.drew ?_ | (refine Fr.set ?_ (by first | exact Nat.le_refl _ | omega | (simp; done) | (simp; omega)) (by first | (simp; done) | (simp; omega)) _))); done)))
        clear hK K
        (try simp only [Act.put, List.setIfInBounds_toArray, List.set_cons_zero, List.set_cons_succ])
        refine Tw_abs ?_
        intro wA94 hA94
        (first | (have N1 := Lib.hid (Bk.of_alloc hA94)) | (have N1 := Lib.hid (Bk.of_alloc_drew hA94)))
        have zg := Lib.hid (show w.heap.size + 2 ≤ _ from hHeld.1.top.lt)
        (first | (have L1 := Lib.hid (Lies.alloc hA94 L1.out)) | (have L1 := Lib.hid (Lies.alloc_drew hA94 L1.out)) | skip)
        clear hA94
        refine Tw_all (rs := [5]) (by kernel_rfl) (by simp) (by decide) (fun hHeld => ?_)
        refine AllT.consL rfl (fun K hK => ?_) (AllT.nil)
        · go_simp
          refine hK.out _ _ ?_ ?_
          · (try dsimp only)
            ((go_split_ands; refine HALL.out _ ?_; (first | assumption | (repeat (first | assumption | refine Fr.new ?_ _ | refine Fr.drew ?_ | (refine Fr.set ?_ (by first | exact Nat.le_refl _ | omega | (simp; done) | (simp; omega)) (by first | (simp; done) | (simp; omega)) _))); done)))
          clear hK K
          (try simp only [Act.put, List.setIfInBounds_toArray, List.set_cons_zero, List.set_cons_succ])
          refine Tw_abs ?_
          intro wA95 hA95
          (first | (have N1 := Lib.hid (Bk.over_alloc hA95 N1.out)) | (have N1 := Lib.hid (Bk.over_alloc_drew hA95 N1.out)) | skip)
          (first | (have L1 := Lib.hid (fs_alloc (l := [se]) hA95 (by simp [maxLen]))) | (have L1 := Lib.hid (fs_drew (l := [se]) hA95 (by simp [maxLen]))))
          clear hA95
          refine Tw_all (rs := [6]) (by kernel_rfl) (by simp) (by decide) (fun hHeld => ?_)
          refine AllT.consL rfl (fun K hK => ?_) (AllT.nil)
          · go_simp
            (go_at_call 39; go_split_ands; (refine (HCR.out _ _ (Fr.lies HA.out (by assumption)) L1.out).mono ?_); rintro e w7 ⟨rfl, hb7⟩; have F6 := Fr.call (by assumption) hb7; (first | (have N1 := Lib.hid (Bk.call N1.out hb7)) | skip); (first | (have L1 := Lib.hid (Lies.call L1.out hb7)) | skip); clear hb7)
            refine hK.out _ _ ?_ ?_
            · (try dsimp only)
              ((go_split_ands; refine HALL.out _ ?_; (first | assumption | (repeat (first | assumption | refine Fr.new ?_ _ | refine Fr.drew ?_ | (refine Fr.set ?_ (by first | exact Nat.le_refl _ | omega | (simp; done) | (simp; omega)) (by first | (simp; done) | (simp; omega)) _))); done)))
            clear hK K
            (try simp only [Act.put, List.setIfInBounds_toArray, List.set_cons_zero, List.set_cons_succ])
            refine Tw_takeL (i := 7) (v := ?tv91) rfl (by kernel_rfl) (by decide) (by kernel_rfl) (by kernel_rfl) (fun _ _ _ h => h) (by rfl) ?ty91 ?tn91
            case ty91 => (intro w hSw; (try dsimp only at hSw); go_simp <;> with_reducible rfl)
            (try simp only [Act.put, List.setIfInBounds_toArray, List.set_cons_zero, List.set_cons_succ])
            refine Tw_takeL (i := 8) (v := ?tv92) rfl (by kernel_rfl) (by decide) (by kernel_rfl) (by kernel_rfl) (fun _ _ _ h => h) (by rfl) ?ty92 ?tn92
            case ty92 => (intro w hSw; (try dsimp only at hSw); go_simp <;> with_reducible rfl)
            (try simp only [Act.put, List.setIfInBounds_toArray, List.set_cons_zero, List.set_cons_succ])
            refine Tw_takeL (i := 9) (v := ?tv93) rfl (by kernel_rfl) (by decide) (by kernel_rfl) (by kernel_rfl) (fun _ _ _ h => h) (by rfl) ?ty93 ?tn93
            case ty93 => (intro w hSw; (try dsimp only at hSw); go_simp <;> with_reducible rfl)
            (try simp only [Act.put, List.setIfInBounds_toArray, List.set_cons_zero, List.set_cons_succ])
            refine Tw_all (rs := [11]) (by kernel_rfl) (by simp) (by decide) (fun hHeld => ?_)
            refine AllT.consL rfl (fun K hK => ?_) (AllT.nil)
            · have c0 := N1.out.cell 0
              have c1 := N1.out.cell 1
              have c2 := N1.out.cell 2
              have c3 := N1.out.cell 3
              have c4 := N1.out.cell 4
              have f0 := N1.out.frozen 0
              have f1 := N1.out.frozen 1
              have f2 := N1.out.frozen 2
              have f3 := N1.out.frozen 3
              have f4 := N1.out.frozen 4
              have zN := N1.out.lt
              go_simp
              refine hK.out _ _ ?_ ?_
              · exact HALL.out _ (Fr.off5 (n := 2) hHeld.1 zg.out (by intro b hb; simp only [List.mem_cons, List.not_mem_nil, or_false] at hb; rcases hb with rfl | rfl <;> (dsimp only; omega)) _ _ _ _ _)
              clear hK K c0 f0 c1 f1 c2 f2 c3 f3 c4 f4 zN
              have N1 := Lib.hid (Bk.set5 N1.out (.string s) (.slice (some a) ps.length c) (.int .i64 b.brk) (.int .i64 b.drag) (.int .i64 b.drv))
              (try simp only [Act.put, List.setIfInBounds_toArray, List.set_cons_zero, List.set_cons_succ])
              refine Tw_end (by kernel_rfl) (fun hh => ?_)
              obtain ⟨F11, _⟩ := hh
              clear HALL
              go_wp2_with fail
              go_meet
              exact ⟨_, rfl, rfl, F11.more N1.out⟩
    · go_simp
      refine hK.out _ _ ?_ ?_
      · (try dsimp only)
        ((go_split_ands; refine HALL.out _ ?_; (first | assumption | (repeat (first | assumption | refine Fr.new ?_ _ | refine Fr.drew ?_ | (refine Fr.set ?_ (by first | exact Nat.le_refl _ | omega | (simp; done) | (simp; omega)) (by first | (simp; done) | (simp; omega)) _))); done)))
      clear hK K
      (try simp only [Act.put, List.setIfInBounds_toArray, List.set_cons_zero, List.set_cons_succ])
      refine Tw_abs ?_
      intro wA98 hA98
      (first | (have N1 := Lib.hid (Bk.of_alloc hA98)) | (have N1 := Lib.hid (Bk.of_alloc_drew hA98)))
      have zg := Lib.hid (show w.heap.size + 2 ≤ _ from hHeld.1.top.lt)
      (first | (have L1 := Lib.hid (Lies.alloc hA98 L1.out)) | (have L1 := Lib.hid (Lies.alloc_drew hA98 L1.out)) | skip)
      clear hA98
      refine Tw_all (rs := [4]) (by kernel_rfl) (by simp) (by decide) (fun hHeld => ?_)
      refine AllT.consL rfl (fun K hK => ?_) (AllT.nil)
      · go_simp
        (go_at_call 48; go_split_ands; (with_reducible refine (HSE.out _ (Fr.lies HL.out (by assumption))).mono ?_); rintro e w7 ⟨rfl, hb7⟩; rw [HS1.out]; have F4 := Fr.call (by assumption) hb7; (first | (have N1 := Lib.hid (Bk.call N1.out hb7)) | skip); (first | (have L1 := Lib.hid (Lies.call L1.out hb7)) | skip); clear hb7)
        refine hK.out _ _ ?_ ?_
        · (try dsimp only)
          ((go_split_ands; refine HALL.out _ ?_; (first | assumption | (repeat (first | assumption | refine Fr.new ?_ _ | refine Fr.drew ?_ | (refine Fr.set ?_ (by first | exact Nat.le_refl _ | omega | (simp; done) | (simp; omega)) (by first | (simp; done) | (simp; omega)) _))); done)))
        clear hK K
        (try simp only [Act.put, List.setIfInBounds_toArray, List.set_cons_zero, List.set_cons_succ])
        refine Tw_all (rs := [5]) (by kernel_rfl) (by simp) (by decide) (fun hHeld => ?_)
        refine AllT.consL rfl (fun K hK => ?_) (AllT.nil)
        · go_simp
          refine hK.out _ _ ?_ ?_
          · (try dsimp only)
            ((go_split_ands; refine HALL.out _ ?_; (first | assumption | (repeat (first | assumption | refine Fr.new ?_ _ | refine Fr.drew ?_ | (refine Fr.set ?_ (by first | exact Nat.le_refl _ | omega | (simp; done) | (simp; omega)) (by first | (simp; done) | (simp; omega)) _))); done)))
          clear hK K
          (try simp only [Act.put, List.setIfInBounds_toArray, List.set_cons_zero, List.set_cons_succ])
          refine Tw_abs ?_
          intro wA100 hA100
          (first | (have N1 := Lib.hid (Bk.over_alloc hA100 N1.out)) | (have N1 := Lib.hid (Bk.over_alloc_drew hA100 N1.out)) | skip)
          (first | (have L1 := Lib.hid (fs_alloc (l := [se]) hA100 (by simp [maxLen]))) | (have L1 := Lib.hid (fs_drew (l := [se]) hA100 (by simp [maxLen]))))
          clear hA100
          refine Tw_all (rs := [6]) (by kernel_rfl) (by simp) (by decide) (fun hHeld => ?_)
          refine AllT.consL rfl (fun K hK => ?_) (AllT.nil)
          · go_simp
            (go_at_call 39; go_split_ands; (refine (HCR.out _ _ (Fr.lies HA.out (by assumption)) L1.out).mono ?_); rintro e w7 ⟨rfl, hb7⟩; have F6 := Fr.call (by assumption) hb7; (first | (have N1 := Lib.hid (Bk.call N1.out hb7)) | skip); (first | (have L1 := Lib.hid (Lies.call L1.out hb7)) | skip); clear hb7)
            refine hK.out _ _ ?_ ?_
            · (try dsimp only)
              ((go_split_ands; refine HALL.out _ ?_; (first | assumption | (repeat (first | assumption | refine Fr.new ?_ _ | refine Fr.drew ?_ | (refine Fr.set ?_ (by first | exact Nat.le_refl _ | omega | (simp; done) | (simp; omega)) (by first | (simp; done) | (simp; omega)) _))); done)))
            clear hK K
            (try simp only [Act.put, List.setIfInBounds_toArray, List.set_cons_zero, List.set_cons_succ])
            refine Tw_takeL (i := 7) (v := ?tv94) rfl (by kernel_rfl) (by decide) (by kernel_rfl) (by kernel_rfl) (fun _ _ _ h => h) (by rfl) ?ty94 ?tn94
            case ty94 => (intro w hSw; (try dsimp only at hSw); go_simp <;> with_reducible rfl)
            (try simp only [Act.put, List.setIfInBounds_toArray, List.set_cons_zero, List.set_cons_succ])
            refine Tw_takeL (i := 8) (v := ?tv95) rfl (by kernel_rfl) (by decide) (by kernel_rfl) (by kernel_rfl) (fun _ _ _ h => h) (by rfl) ?ty95 ?tn95
            case ty95 => (intro w hSw; (try dsimp only at hSw); go_simp <;> with_reducible rfl)
            (try simp only [Act.put, List.setIfInBounds_toArray, List.set_cons_zero, List.set_cons_succ])
            refine Tw_takeL (i := 9) (v := ?tv96) rfl (by kernel_rfl) (by decide) (by kernel_rfl) (by kernel_rfl) (fun _ _ _ h => h) (by rfl) ?ty96 ?tn96
            case ty96 => (intro w hSw; (try dsimp only at hSw); go_simp <;> with_reducible rfl)
            (try simp only [Act.put, List.setIfInBounds_toArray, List.set_cons_zero, List.set_cons_succ])
            refine Tw_all (rs := [11]) (by kernel_rfl) (by simp) (by decide) (fun hHeld => ?_)
            refine AllT.consL rfl (fun K hK => ?_) (AllT.nil)
            · have c0 := N1.out.cell 0
              have c1 := N1.out.cell 1
              have c2 := N1.out.cell 2
              have c3 := N1.out.cell 3
              have c4 := N1.out.cell 4
              have f0 := N1.out.frozen 0
              have f1 := N1.out.frozen 1
              have f2 := N1.out.frozen 2
              have f3 := N1.out.frozen 3
              have f4 := N1.out.frozen 4
              have zN := N1.out.lt
              go_simp
              refine hK.out _ _ ?_ ?_
              · exact HALL.out _ (Fr.off5 (n := 2) hHeld.1 zg.out (by intro b hb; simp only [List.mem_cons, List.not_mem_nil, or_false] at hb; rcases hb with rfl | rfl <;> (dsimp only; omega)) _ _ _ _ _)
              clear hK K c0 f0 c1 f1 c2 f2 c3 f3 c4 f4 zN
              have N1 := Lib.hid (Bk.set5 N1.out (.string s) (.slice (some a) ps.length c) (.int .i64 b.brk) (.int .i64 b.drag) (.int .i64 b.drv))
              (try simp only [Act.put, List.setIfInBounds_toArray, List.set_cons_zero, List.set_cons_succ])
              refine Tw_end (by kernel_rfl) (fun hh => ?_)
              obtain ⟨F11, _⟩ := hh
              clear HALL
              go_wp2_with fail
              go_meet
              exact ⟨_, rfl, rfl, F11.more N1.out⟩
  case rest =>
    obtain ⟨wx, rfl⟩ : ∃ W, W = wc := ⟨_, rfl⟩
    obtain ⟨g, rfl, rfl, hx⟩ := hcut
    have FC := Lib.hid hx
    clear hx F0
    have q0 := FC.out.top.cell 0
    have q1 := FC.out.top.cell 1
    go_wp2_with fail
    refine (limits_any s ps a c HOK.out.n0 HOK.out.n12 HOK.out.each _ (Fr.lies HA.out FC.out)).mono ?_
    rintro e w2 ⟨g2, rfl, n2, hg2, hb2⟩
    have F2 := Lib.hid ((FC.out.call hb2).more n2)
    clear hb2 n2 FC q0 q1 hg2
    go_wp2_with fail
    go_loopw [31] (fun i wr => ∃ k : Nat, k ≤ n ∧ i = .int .i64 k ∧ Fr w wr ((g2, 3, rowF (ps.length + 1) (limV ps)) :: (g, 77, #[.string s, .slice (some a) ps.length c, .int .i64 b.brk, .int .i64 b.drag, .int .i64 b.drv]) :: [(w.heap.size + 1, 26, #[.int .i64 b.brk, .int .i64 b.drag, .int .i64 b.drv]), (w.heap.size, 24, #[.string s, .slice (some a) ps.length c])])) (fun i _ => ps.length + 1 - (intOf i).toNat)
    case atStart => exact ⟨0, Nat.zero_le _, rfl, F2.out⟩
    case round =>
      obtain ⟨k, hk, rfl, hf⟩ := hrel
      have FK := Lib.hid hf
      clear hf F2
      by_cases hkn2 : k < n
      · skip
        have hki : (k : Int) < (N : Int) := by have := HNN.out; omega
        have hki2 : (k : Int) < (ps.length : Int) + 1 := by omega
        have hwk := IntWalk.i64_in ((k : Int) + 1) (by omega)
        obtain ⟨x, hx⟩ : ∃ x, sqAt l k = x := ⟨_, rfl⟩
        obtain ⟨lm, hlm⟩ : ∃ lm, limV ps k = lm := ⟨_, rfl⟩
        have HLM := Lib.hid hlm
        have cx := HLC.out k (by omega) wr FK.out.tail.tail.tail.tail
        rw [hx] at cx
        have HB0 : Hid (badS ps b l k = false) := Lib.hid (HMISS.out k (by omega))
        unfold badS at HB0
        rw [hx, hlm] at HB0
        by_cases hxl : lm < x
        · exfalso
          have := HB0.out
          rw [decide_eq_true hxl] at this
          simp at this
        · have hxd : decide (lm < x) = false := decide_eq_false hxl
          rw [hxd] at HB0
          simp only [Bool.false_or] at HB0
          by_cases hk0 : k = 0
          · have hkn : ¬ (0 : Int) < (k : Int) := by omega
            have hkN : ¬ (0 < k) := by omega
            clear hx hlm hk0 HB0
            go_upto_region 8 with fail
            go_cut [58] from 36 to 58 (fun r W => r = .bool false ∧ Fr wr W [])
            case first =>
              have HA8 : Hid (Lies wr wr.heap.size (some a) (ps.flatMap pc)) := Lib.hid (Fr.lies HA.out FK.out)
              have HALL : Hid (∀ W, Fr wr W [] → Fr wr W [] ∧ W.cell? ⟨g, 0, none⟩ = some (.string s) ∧ W.cell? ⟨g, 1, none⟩ = some (.slice (some a) ps.length c) ∧ W.cell? ⟨g, 2, none⟩ = some (.int .i64 b.brk) ∧ W.cell? ⟨g, 3, none⟩ = some (.int .i64 b.drag) ∧ W.cell? ⟨g, 4, none⟩ = some (.int .i64 b.drv) ∧ W.cell? ⟨g2, k, none⟩ = some (.int .i64 lm)) := Lib.hid (fun W hW => ⟨hW, ((FK.out.get 1 rfl).call hW.bl).cell 0, ((FK.out.get 1 rfl).call hW.bl).cell 1, ((FK.out.get 1 rfl).call hW.bl).cell 2, ((FK.out.get 1 rfl).call hW.bl).cell 3, ((FK.out.get 1 rfl).call hW.bl).cell 4, by rw [(FK.out.top.call hW.bl).rowF_at (by omega), HLM.out]⟩)
              have F10 : Fr wr wr [] := Fr.nil wr
              refine Tw_start 22 (fun W => Fr wr W [] ∧ W.cell? ⟨g, 0, none⟩ = some (.string s) ∧ W.cell? ⟨g, 1, none⟩ = some (.slice (some a) ps.length c) ∧ W.cell? ⟨g, 2, none⟩ = some (.int .i64 b.brk) ∧ W.cell? ⟨g, 3, none⟩ = some (.int .i64 b.drag) ∧ W.cell? ⟨g, 4, none⟩ = some (.int .i64 b.drv) ∧ W.cell? ⟨g2, k, none⟩ = some (.int .i64 lm)) (by kernel_rfl) (by kernel_rfl) rfl ?_ ?_
              · (try dsimp only)
                ((go_split_ands; refine HALL.out _ ?_; (first | assumption | (repeat (first | assumption | refine Fr.new ?_ _ | refine Fr.drew ?_ | (refine Fr.set ?_ (by first | exact Nat.le_refl _ | omega | (simp; done) | (simp; omega)) (by first | (simp; done) | (simp; omega)) _))); done)))
              refine Tw_takeL (i := 0) (v := ?tv97) rfl (by kernel_rfl) (by decide) (by kernel_rfl) (by kernel_rfl) (fun _ _ _ h => h) (by rfl) ?ty97 ?tn97
              case ty97 => (intro w hSw; (try dsimp only at hSw); go_simp <;> with_reducible rfl)
              (try simp only [Act.put, List.setIfInBounds_toArray, List.set_cons_zero, List.set_cons_succ])
              refine Tw_takeL (i := 1) (v := ?tv98) rfl (by kernel_rfl) (by decide) (by kernel_rfl) (by kernel_rfl) (fun _ _ _ h => h) (by rfl) ?ty98 ?tn98
              case ty98 => (intro w hSw; (try dsimp only at hSw); go_simp <;> with_reducible rfl)
              (try simp only [Act.put, List.setIfInBounds_toArray, List.set_cons_zero, List.set_cons_succ])
              refine Tw_takeL (i := 2) (v := ?tv99) rfl (by kernel_rfl) (by decide) (by kernel_rfl) (by kernel_rfl) (fun _ _ _ h => h) (by rfl) ?ty99 ?tn99
              case ty99 => (intro w hSw; (try dsimp only at hSw); go_simp <;> with_reducible rfl)
              (try simp only [Act.put, List.setIfInBounds_toArray, List.set_cons_zero, List.set_cons_succ])
              refine Tw_takeL (i := 3) (v := ?tv100) rfl (by kernel_rfl) (by decide) (by kernel_rfl) (by kernel_rfl) (fun _ _ _ h => h) (by rfl) ?ty100 ?tn100
              case ty100 => (intro w hSw; (try dsimp only at hSw); go_simp <;> with_reducible rfl)
              (try simp only [Act.put, List.setIfInBounds_toArray, List.set_cons_zero, List.set_cons_succ])
              refine Tw_takeL (i := 4) (v := ?tv101) rfl (by kernel_rfl) (by decide) (by kernel_rfl) (by kernel_rfl) (fun _ _ _ h => h) (by rfl) ?ty101 ?tn101
              case ty101 => (intro w hSw; (try dsimp only at hSw); go_simp <;> with_reducible rfl)
              (try simp only [Act.put, List.setIfInBounds_toArray, List.set_cons_zero, List.set_cons_succ])
              refine Tw_takeL (i := 5) (v := ?tv102) rfl (by kernel_rfl) (by decide) (by kernel_rfl) (by kernel_rfl) (fun _ _ _ h => h) (by rfl) ?ty102 ?tn102
              case ty102 => (intro w hSw; (try dsimp only at hSw); go_simp <;> with_reducible rfl)
              (try simp only [Act.put, List.setIfInBounds_toArray, List.set_cons_zero, List.set_cons_succ])
              refine Tw_takeL (i := 6) (v := ?tv103) rfl (by kernel_rfl) (by decide) (by kernel_rfl) (by kernel_rfl) (fun _ _ _ h => h) (by rfl) ?ty103 ?tn103
              case ty103 => (intro w hSw; (try dsimp only at hSw); go_simp <;> with_reducible rfl)
              (try simp only [Act.put, List.setIfInBounds_toArray, List.set_cons_zero, List.set_cons_succ])
              refine Tw_takeL (i := 7) (v := ?tv104) rfl (by kernel_rfl) (by decide) (by kernel_rfl) (by kernel_rfl) (fun _ _ _ h => h) (by rfl) ?ty104 ?tn104
              case ty104 => (intro w hSw; (try dsimp only at hSw); go_simp <;> with_reducible rfl)
              (try simp only [Act.put, List.setIfInBounds_toArray, List.set_cons_zero, List.set_cons_succ])
              refine Tw_takeL (i := 8) (v := ?tv105) rfl (by kernel_rfl) (by decide) (by kernel_rfl) (by kernel_rfl) (fun _ _ _ h => h) (by rfl) ?ty105 ?tn105
              case ty105 => (intro w hSw; (try dsimp only at hSw); go_simp <;> with_reducible rfl)
              (try simp only [Act.put, List.setIfInBounds_toArray, List.set_cons_zero, List.set_cons_succ])
              refine Tw_takeL (i := 9) (v := ?tv106) rfl (by kernel_rfl) (by decide) (by kernel_rfl) (by kernel_rfl) (fun _ _ _ h => h) (by rfl) ?ty106 ?tn106
              case ty106 => (intro w hSw; (try dsimp only at hSw); go_simp <;> with_reducible rfl)
              (try simp only [Act.put, List.setIfInBounds_toArray, List.set_cons_zero, List.set_cons_succ])
              refine Tw_skipL (i := 10) rfl (by kernel_rfl) (by decide) (by kernel_rfl) (by kernel_rfl) (fun _ _ _ h => h) (by rfl) ?tn107
              (try simp only [Act.put, List.setIfInBounds_toArray, List.set_cons_zero, List.set_cons_succ])
              refine Tw_skipL (i := 11) rfl (by kernel_rfl) (by decide) (by kernel_rfl) (by kernel_rfl) (fun _ _ _ h => h) (by rfl) ?tn108
              (try simp only [Act.put, List.setIfInBounds_toArray, List.set_cons_zero, List.set_cons_succ])
              refine Tw_skipL (i := 12) rfl (by kernel_rfl) (by decide) (by kernel_rfl) (by kernel_rfl) (fun _ _ _ h => h) (by rfl) ?tn109
              (try simp only [Act.put, List.setIfInBounds_toArray, List.set_cons_zero, List.set_cons_succ])
              refine Tw_skipL (i := 13) rfl (by kernel_rfl) (by decide) (by kernel_rfl) (by kernel_rfl) (fun _ _ _ h => h) (by rfl) ?tn110
              (try simp only [Act.put, List.setIfInBounds_toArray, List.set_cons_zero, List.set_cons_succ])
              refine Tw_skipL (i := 14) rfl (by kernel_rfl) (by decide) (by kernel_rfl) (by kernel_rfl) (fun _ _ _ h => h) (by rfl) ?tn111
              (try simp only [Act.put, List.setIfInBounds_toArray, List.set_cons_zero, List.set_cons_succ])
              refine Tw_skipL (i := 15) rfl (by kernel_rfl) (by decide) (by kernel_rfl) (by kernel_rfl) (fun _ _ _ h => h) (by rfl) ?tn112
              (try simp only [Act.put, List.setIfInBounds_toArray, List.set_cons_zero, List.set_cons_succ])
              refine Tw_skipL (i := 16) rfl (by kernel_rfl) (by decide) (by kernel_rfl) (by kernel_rfl) (fun _ _ _ h => h) (by rfl) ?tn113
              (try simp only [Act.put, List.setIfInBounds_toArray, List.set_cons_zero, List.set_cons_succ])
              refine Tw_skipL (i := 17) rfl (by kernel_rfl) (by decide) (by kernel_rfl) (by kernel_rfl) (fun _ _ _ h => h) (by rfl) ?tn114
              (try simp only [Act.put, List.setIfInBounds_toArray, List.set_cons_zero, List.set_cons_succ])
              refine Tw_skipL (i := 18) rfl (by kernel_rfl) (by decide) (by kernel_rfl) (by kernel_rfl) (fun _ _ _ h => h) (by rfl) ?tn115
              (try simp only [Act.put, List.setIfInBounds_toArray, List.set_cons_zero, List.set_cons_succ])
              refine Tw_skipL (i := 19) rfl (by kernel_rfl) (by decide) (by kernel_rfl) (by kernel_rfl) (fun _ _ _ h => h) (by rfl) ?tn116
              (try simp only [Act.put, List.setIfInBounds_toArray, List.set_cons_zero, List.set_cons_succ])
              refine Tw_skipL (i := 20) rfl (by kernel_rfl) (by decide) (by kernel_rfl) (by kernel_rfl) (fun _ _ _ h => h) (by rfl) ?tn117
              (try simp only [Act.put, List.setIfInBounds_toArray, List.set_cons_zero, List.set_cons_succ])
              refine Tw_takeL (i := 21) (v := ?tv118) rfl (by kernel_rfl) (by decide) (by kernel_rfl) (by kernel_rfl) (fun _ _ _ h => h) (by rfl) ?ty118 ?tn118
              case ty118 => (intro w hSw; (try dsimp only at hSw); go_simp <;> with_reducible rfl)
              (try simp only [Act.put, List.setIfInBounds_toArray, List.set_cons_zero, List.set_cons_succ])
              refine Tw_end (by kernel_rfl) (fun hh => ?_)
              obtain ⟨F11, _⟩ := hh
              clear HALL
              go_wp2_with fail
              go_meet
              exact ⟨rfl, F11⟩
            case rest =>
            obtain ⟨wx8, rfl⟩ : ∃ W, W = wc := ⟨_, rfl⟩
            obtain ⟨rfl, hx8⟩ := hcut
            have FC := Lib.hid (FK.out.call hx8.bl)
            clear hx8 FK
            go_wp2_with fail
            go_roundw
            case rel => exact ⟨k + 1, by omega, by go_num, FC.out⟩
            case measure => simp [intOf] <;> omega
          · obtain ⟨j, hj⟩ : ∃ j : Nat, j = k - 1 := ⟨_, rfl⟩
            rw [decide_eq_true (by omega : 0 < k), Bool.true_and, ← hj] at HB0
            have hkn : (0 : Int) < (k : Int) := by omega
            have hkN : 0 < k := by omega
            have hjn : j < ps.length := by omega
            have hji : (j : Int) < (N : Int) := by have := HNN.out; omega
            have hwj := (IntWalk.i64_in ((k : Int) - 1) (by omega)).trans (show (k : Int) - 1 = (j : Int) by omega)
            have hY := sqAt_in HQ.out j
            have HCC := Lib.hid (fun W hW => canChange_any s ps a c b HB.out h12 HOK.out.each j hjn (sqAt l j) x hY W hW)
            obtain ⟨y, hy⟩ : ∃ y, sqAt l j = y := ⟨_, rfl⟩
            have HY := Lib.hid hy
            obtain ⟨u, hu⟩ : ∃ u, inB x (sqAt l j - lossV (gp ps j) b.brk) (sqAt l j + drvG (gp ps j) b.drv) = u := ⟨_, rfl⟩
            have hu2 : u = true := by have := HB0.out; rw [hu] at this; simpa using this
            rw [hu, hu2, hy] at HCC
            clear hx hlm hy hu hu2 hY hj HB0 hk0
            go_upto_region 8 with fail
            go_cut [58] from 36 to 58 (fun r W => r = .bool false ∧ Fr wr W [])
            case first =>
              have HA8 : Hid (Lies wr wr.heap.size (some a) (ps.flatMap pc)) := Lib.hid (Fr.lies HA.out FK.out)
              have HALL : Hid (∀ W, Fr wr W [] → Fr wr W [] ∧ W.cell? ⟨g, 0, none⟩ = some (.string s) ∧ W.cell? ⟨g, 1, none⟩ = some (.slice (some a) ps.length c) ∧ W.cell? ⟨g, 2, none⟩ = some (.int .i64 b.brk) ∧ W.cell? ⟨g, 3, none⟩ = some (.int .i64 b.drag) ∧ W.cell? ⟨g, 4, none⟩ = some (.int .i64 b.drv) ∧ W.cell? ⟨g2, k, none⟩ = some (.int .i64 lm) ∧ W.cell? (a2.add j) = some (.int .i64 y)) := Lib.hid (fun W hW => ⟨hW, ((FK.out.get 1 rfl).call hW.bl).cell 0, ((FK.out.get 1 rfl).call hW.bl).cell 1, ((FK.out.get 1 rfl).call hW.bl).cell 2, ((FK.out.get 1 rfl).call hW.bl).cell 3, ((FK.out.get 1 rfl).call hW.bl).cell 4, by rw [(FK.out.top.call hW.bl).rowF_at (by omega), HLM.out], by rw [← HY.out]; exact HLC.out j (by omega) _ ((FK.out.tail.tail.tail.tail).call hW.bl)⟩)
              have F10 : Fr wr wr [] := Fr.nil wr
              refine Tw_start 22 (fun W => Fr wr W [] ∧ W.cell? ⟨g, 0, none⟩ = some (.string s) ∧ W.cell? ⟨g, 1, none⟩ = some (.slice (some a) ps.length c) ∧ W.cell? ⟨g, 2, none⟩ = some (.int .i64 b.brk) ∧ W.cell? ⟨g, 3, none⟩ = some (.int .i64 b.drag) ∧ W.cell? ⟨g, 4, none⟩ = some (.int .i64 b.drv) ∧ W.cell? ⟨g2, k, none⟩ = some (.int .i64 lm) ∧ W.cell? (a2.add j) = some (.int .i64 y)) (by kernel_rfl) (by kernel_rfl) rfl ?_ ?_
              · (try dsimp only)
                ((go_split_ands; refine HALL.out _ ?_; (first | assumption | (repeat (first | assumption | refine Fr.new ?_ _ | refine Fr.drew ?_ | (refine Fr.set ?_ (by first | exact Nat.le_refl _ | omega | (simp; done) | (simp; omega)) (by first | (simp; done) | (simp; omega)) _))); done)))
              refine Tw_takeL (i := 0) (v := ?tv119) rfl (by kernel_rfl) (by decide) (by kernel_rfl) (by kernel_rfl) (fun _ _ _ h => h) (by rfl) ?ty119 ?tn119
              case ty119 => (intro w hSw; (try dsimp only at hSw); go_simp <;> with_reducible rfl)
              (try simp only [Act.put, List.setIfInBounds_toArray, List.set_cons_zero, List.set_cons_succ])
              refine Tw_takeL (i := 1) (v := ?tv120) rfl (by kernel_rfl) (by decide) (by kernel_rfl) (by kernel_rfl) (fun _ _ _ h => h) (by rfl) ?ty120 ?tn120
              case ty120 => (intro w hSw; (try dsimp only at hSw); go_simp <;> with_reducible rfl)
              (try simp only [Act.put, List.setIfInBounds_toArray, List.set_cons_zero, List.set_cons_succ])
              refine Tw_takeL (i := 2) (v := ?tv121) rfl (by kernel_rfl) (by decide) (by kernel_rfl) (by kernel_rfl) (fun _ _ _ h => h) (by rfl) ?ty121 ?tn121
              case ty121 => (intro w hSw; (try dsimp only at hSw); go_simp <;> with_reducible rfl)
              (try simp only [Act.put, List.setIfInBounds_toArray, List.set_cons_zero, List.set_cons_succ])
              refine Tw_takeL (i := 3) (v := ?tv122) rfl (by kernel_rfl) (by decide) (by kernel_rfl) (by kernel_rfl) (fun _ _ _ h => h) (by rfl) ?ty122 ?tn122
              case ty122 => (intro w hSw; (try dsimp only at hSw); go_simp <;> with_reducible rfl)
              (try simp only [Act.put, List.setIfInBounds_toArray, List.set_cons_zero, List.set_cons_succ])
              refine Tw_takeL (i := 4) (v := ?tv123) rfl (by kernel_rfl) (by decide) (by kernel_rfl) (by kernel_rfl) (fun _ _ _ h => h) (by rfl) ?ty123 ?tn123
              case ty123 => (intro w hSw; (try dsimp only at hSw); go_simp <;> with_reducible rfl)
              (try simp only [Act.put, List.setIfInBounds_toArray, List.set_cons_zero, List.set_cons_succ])
              refine Tw_takeL (i := 5) (v := ?tv124) rfl (by kernel_rfl) (by decide) (by kernel_rfl) (by kernel_rfl) (fun _ _ _ h => h) (by rfl) ?ty124 ?tn124
              case ty124 => (intro w hSw; (try dsimp only at hSw); go_simp <;> with_reducible rfl)
              (try simp only [Act.put, List.setIfInBounds_toArray, List.set_cons_zero, List.set_cons_succ])
              refine Tw_takeL (i := 6) (v := ?tv125) rfl (by kernel_rfl) (by decide) (by kernel_rfl) (by kernel_rfl) (fun _ _ _ h => h) (by rfl) ?ty125 ?tn125
              case ty125 => (intro w hSw; (try dsimp only at hSw); go_simp <;> with_reducible rfl)
              (try simp only [Act.put, List.setIfInBounds_toArray, List.set_cons_zero, List.set_cons_succ])
              refine Tw_takeL (i := 7) (v := ?tv126) rfl (by kernel_rfl) (by decide) (by kernel_rfl) (by kernel_rfl) (fun _ _ _ h => h) (by rfl) ?ty126 ?tn126
              case ty126 => (intro w hSw; (try dsimp only at hSw); go_simp <;> with_reducible rfl)
              (try simp only [Act.put, List.setIfInBounds_toArray, List.set_cons_zero, List.set_cons_succ])
              refine Tw_takeL (i := 8) (v := ?tv127) rfl (by kernel_rfl) (by decide) (by kernel_rfl) (by kernel_rfl) (fun _ _ _ h => h) (by rfl) ?ty127 ?tn127
              case ty127 => (intro w hSw; (try dsimp only at hSw); go_simp <;> with_reducible rfl)
              (try simp only [Act.put, List.setIfInBounds_toArray, List.set_cons_zero, List.set_cons_succ])
              refine Tw_takeL (i := 9) (v := ?tv128) rfl (by kernel_rfl) (by decide) (by kernel_rfl) (by kernel_rfl) (fun _ _ _ h => h) (by rfl) ?ty128 ?tn128
              case ty128 => (intro w hSw; (try dsimp only at hSw); go_simp <;> with_reducible rfl)
              (try simp only [Act.put, List.setIfInBounds_toArray, List.set_cons_zero, List.set_cons_succ])
              refine Tw_takeL (i := 10) (v := ?tv129) rfl (by kernel_rfl) (by decide) (by kernel_rfl) (by kernel_rfl) (fun _ _ _ h => h) (by rfl) ?ty129 ?tn129
              case ty129 => (intro w hSw; (try dsimp only at hSw); go_simp <;> with_reducible rfl)
              (try simp only [Act.put, List.setIfInBounds_toArray, List.set_cons_zero, List.set_cons_succ])
              refine Tw_takeL (i := 11) (v := ?tv130) rfl (by kernel_rfl) (by decide) (by kernel_rfl) (by kernel_rfl) (fun _ _ _ h => h) (by rfl) ?ty130 ?tn130
              case ty130 => (intro w hSw; (try dsimp only at hSw); go_simp <;> with_reducible rfl)
              (try simp only [Act.put, List.setIfInBounds_toArray, List.set_cons_zero, List.set_cons_succ])
              refine Tw_takeL (i := 12) (v := ?tv131) rfl (by kernel_rfl) (by decide) (by kernel_rfl) (by kernel_rfl) (fun _ _ _ h => h) (by rfl) ?ty131 ?tn131
              case ty131 => (intro w hSw; (try dsimp only at hSw); go_simp <;> with_reducible rfl)
              (try simp only [Act.put, List.setIfInBounds_toArray, List.set_cons_zero, List.set_cons_succ])
              refine Tw_takeL (i := 13) (v := ?tv132) rfl (by kernel_rfl) (by decide) (by kernel_rfl) (by kernel_rfl) (fun _ _ _ h => h) (by rfl) ?ty132 ?tn132
              case ty132 => (intro w hSw; (try dsimp only at hSw); go_simp <;> with_reducible rfl)
              (try simp only [Act.put, List.setIfInBounds_toArray, List.set_cons_zero, List.set_cons_succ])
              refine Tw_takeL (i := 14) (v := ?tv133) rfl (by kernel_rfl) (by decide) (by kernel_rfl) (by kernel_rfl) (fun _ _ _ h => h) (by rfl) ?ty133 ?tn133
              case ty133 => (intro w hSw; (try dsimp only at hSw); go_simp <;> with_reducible rfl)
              (try simp only [Act.put, List.setIfInBounds_toArray, List.set_cons_zero, List.set_cons_succ])
              refine Tw_takeL (i := 15) (v := ?tv134) rfl (by kernel_rfl) (by decide) (by kernel_rfl) (by kernel_rfl) (fun _ _ _ h => h) (by rfl) ?ty134 ?tn134
              case ty134 => (intro w hSw; (try dsimp only at hSw); go_simp <;> with_reducible rfl)
              (try simp only [Act.put, List.setIfInBounds_toArray, List.set_cons_zero, List.set_cons_succ])
              refine Tw_takeL (i := 16) (v := ?tv135) rfl (by kernel_rfl) (by decide) (by kernel_rfl) (by kernel_rfl) (fun _ _ _ h => h) (by rfl) ?ty135 ?tn135
              case ty135 => (intro w hSw; (try dsimp only at hSw); go_simp <;> with_reducible rfl)
              (try simp only [Act.put, List.setIfInBounds_toArray, List.set_cons_zero, List.set_cons_succ])
              refine Tw_takeL (i := 17) (v := ?tv136) rfl (by kernel_rfl) (by decide) (by kernel_rfl) (by kernel_rfl) (fun _ _ _ h => h) (by rfl) ?ty136 ?tn136
              case ty136 => (intro w hSw; (try dsimp only at hSw); go_simp <;> with_reducible rfl)
              (try simp only [Act.put, List.setIfInBounds_toArray, List.set_cons_zero, List.set_cons_succ])
              refine Tw_takeL (i := 18) (v := ?tv137) rfl (by kernel_rfl) (by decide) (by kernel_rfl) (by kernel_rfl) (fun _ _ _ h => h) (by rfl) ?ty137 ?tn137
              case ty137 => (intro w hSw; (try dsimp only at hSw); go_simp <;> with_reducible rfl)
              (try simp only [Act.put, List.setIfInBounds_toArray, List.set_cons_zero, List.set_cons_succ])
              refine Tw_all (rs := [19]) (by kernel_rfl) (by simp) (by decide) (fun hHeld => ?_)
              refine AllT.consL rfl (fun K hK => ?_) AllT.nil
              go_simp
              (go_at_call 50; go_split_ands; (with_reducible refine (HCC.out _ (Fr.lies HA8.out (by assumption))).mono ?_); rintro e w7 ⟨rfl, hb7⟩; have F4 := Fr.call (by assumption) hb7; clear hb7)
              refine hK.out _ _ ?_ ?_
              · (try dsimp only)
                ((go_split_ands; refine HALL.out _ ?_; (first | assumption | (repeat (first | assumption | refine Fr.new ?_ _ | refine Fr.drew ?_ | (refine Fr.set ?_ (by first | exact Nat.le_refl _ | omega | (simp; done) | (simp; omega)) (by first | (simp; done) | (simp; omega)) _))); done)))
              clear hK K
              (try simp only [Act.put, List.setIfInBounds_toArray, List.set_cons_zero, List.set_cons_succ])
              refine Tw_takeL (i := 20) (v := ?tv138) rfl (by kernel_rfl) (by decide) (by kernel_rfl) (by kernel_rfl) (fun _ _ _ h => h) (by rfl) ?ty138 ?tn138
              case ty138 => (intro w hSw; (try dsimp only at hSw); go_simp <;> with_reducible rfl)
              (try simp only [Act.put, List.setIfInBounds_toArray, List.set_cons_zero, List.set_cons_succ])
              refine Tw_takeL (i := 21) (v := ?tv139) rfl (by kernel_rfl) (by decide) (by kernel_rfl) (by kernel_rfl) (fun _ _ _ h => h) (by rfl) ?ty139 ?tn139
              case ty139 => (intro w hSw; (try dsimp only at hSw); go_simp <;> with_reducible rfl)
              (try simp only [Act.put, List.setIfInBounds_toArray, List.set_cons_zero, List.set_cons_succ])
              refine Tw_end (by kernel_rfl) (fun hh => ?_)
              obtain ⟨F11, _⟩ := hh
              clear HALL
              go_wp2_with fail
              go_meet
              exact ⟨rfl, F11⟩
            case rest =>
            obtain ⟨wx8, rfl⟩ : ∃ W, W = wc := ⟨_, rfl⟩
            obtain ⟨rfl, hx8⟩ := hcut
            have FC := Lib.hid (FK.out.call hx8.bl)
            clear hx8 FK
            go_wp2_with fail
            go_roundw
            case rel => exact ⟨k + 1, by omega, by go_num, FC.out⟩
            case measure => simp [intOf] <;> omega
      · obtain rfl : k = n := by omega
        have hki : (k : Int) < (N : Int) := by have := HNN.out; omega
        have hki2 : (k : Int) < (ps.length : Int) + 1 := by omega
        have hwk := IntWalk.i64_in ((k : Int) + 1) (by omega)
        obtain ⟨x, hx⟩ : ∃ x, sqAt l k = x := ⟨_, rfl⟩
        obtain ⟨lm, hlm⟩ : ∃ lm, limV ps k = lm := ⟨_, rfl⟩
        have HLM := Lib.hid hlm
        have cx := HLC.out k (by omega) wr FK.out.tail.tail.tail.tail
        rw [hx] at cx
        have HB0 : Hid (badS ps b l k = true) := Lib.hid HHIT.out
        unfold badS at HB0
        rw [hx, hlm] at HB0
        by_cases hxl : lm < x
        · skip
          have hxd : decide (lm < x) = true := decide_eq_true hxl
          clear hx hlm
          go_upto_region 8 with fail
          go_cut [58] from 36 to 58 (fun r W => r = .bool true ∧ Fr wr W [])
          case first =>
            have HA8 : Hid (Lies wr wr.heap.size (some a) (ps.flatMap pc)) := Lib.hid (Fr.lies HA.out FK.out)
            have HALL : Hid (∀ W, Fr wr W [] → Fr wr W [] ∧ W.cell? ⟨g, 0, none⟩ = some (.string s) ∧ W.cell? ⟨g, 1, none⟩ = some (.slice (some a) ps.length c) ∧ W.cell? ⟨g, 2, none⟩ = some (.int .i64 b.brk) ∧ W.cell? ⟨g, 3, none⟩ = some (.int .i64 b.drag) ∧ W.cell? ⟨g, 4, none⟩ = some (.int .i64 b.drv) ∧ W.cell? ⟨g2, k, none⟩ = some (.int .i64 lm)) := Lib.hid (fun W hW => ⟨hW, ((FK.out.get 1 rfl).call hW.bl).cell 0, ((FK.out.get 1 rfl).call hW.bl).cell 1, ((FK.out.get 1 rfl).call hW.bl).cell 2, ((FK.out.get 1 rfl).call hW.bl).cell 3, ((FK.out.get 1 rfl).call hW.bl).cell 4, by rw [(FK.out.top.call hW.bl).rowF_at (by omega), HLM.out]⟩)
            have F10 : Fr wr wr [] := Fr.nil wr
            refine Tw_start 22 (fun W => Fr wr W [] ∧ W.cell? ⟨g, 0, none⟩ = some (.string s) ∧ W.cell? ⟨g, 1, none⟩ = some (.slice (some a) ps.length c) ∧ W.cell? ⟨g, 2, none⟩ = some (.int .i64 b.brk) ∧ W.cell? ⟨g, 3, none⟩ = some (.int .i64 b.drag) ∧ W.cell? ⟨g, 4, none⟩ = some (.int .i64 b.drv) ∧ W.cell? ⟨g2, k, none⟩ = some (.int .i64 lm)) (by kernel_rfl) (by kernel_rfl) rfl ?_ ?_
            · (try dsimp only)
              ((go_split_ands; refine HALL.out _ ?_; (first | assumption | (repeat (first | assumption | refine Fr.new ?_ _ | refine Fr.drew ?_ | (refine Fr.set ?_ (by first | exact Nat.le_refl _ | omega | (simp; done) | (simp; omega)) (by first | (simp; done) | (simp; omega)) _))); done)))
            refine Tw_takeL (i := 0) (v := ?tv140) rfl (by kernel_rfl) (by decide) (by kernel_rfl) (by kernel_rfl) (fun _ _ _ h => h) (by rfl) ?ty140 ?tn140
            case ty140 => (intro w hSw; (try dsimp only at hSw); go_simp <;> with_reducible rfl)
            (try simp only [Act.put, List.setIfInBounds_toArray, List.set_cons_zero, List.set_cons_succ])
            refine Tw_takeL (i := 1) (v := ?tv141) rfl (by kernel_rfl) (by decide) (by kernel_rfl) (by kernel_rfl) (fun _ _ _ h => h) (by rfl) ?ty141 ?tn141
            case ty141 => (intro w hSw; (try dsimp only at hSw); go_simp <;> with_reducible rfl)
            (try simp only [Act.put, List.setIfInBounds_toArray, List.set_cons_zero, List.set_cons_succ])
            refine Tw_takeL (i := 2) (v := ?tv142) rfl (by kernel_rfl) (by decide) (by kernel_rfl) (by kernel_rfl) (fun _ _ _ h => h) (by rfl) ?ty142 ?tn142
            case ty142 => (intro w hSw; (try dsimp only at hSw); go_simp <;> with_reducible rfl)
            (try simp only [Act.put, List.setIfInBounds_toArray, List.set_cons_zero, List.set_cons_succ])
            refine Tw_takeL (i := 3) (v := ?tv143) rfl (by kernel_rfl) (by decide) (by kernel_rfl) (by kernel_rfl) (fun _ _ _ h => h) (by rfl) ?ty143 ?tn143
            case ty143 => (intro w hSw; (try dsimp only at hSw); go_simp <;> with_reducible rfl)
            (try simp only [Act.put, List.setIfInBounds_toArray, List.set_cons_zero, List.set_cons_succ])
            refine Tw_takeL (i := 4) (v := ?tv144) rfl (by kernel_rfl) (by decide) (by kernel_rfl) (by kernel_rfl) (fun _ _ _ h => h) (by rfl) ?ty144 ?tn144
            case ty144 => (intro w hSw; (try dsimp only at hSw); go_simp <;> with_reducible rfl)
            (try simp only [Act.put, List.setIfInBounds_toArray, List.set_cons_zero, List.set_cons_succ])
            refine Tw_takeL (i := 5) (v := ?tv145) rfl (by kernel_rfl) (by decide) (by kernel_rfl) (by kernel_rfl) (fun _ _ _ h => h) (by rfl) ?ty145 ?tn145
            case ty145 => (intro w hSw; (try dsimp only at hSw); go_simp <;> with_reducible rfl)
            (try simp only [Act.put, List.setIfInBounds_toArray, List.set_cons_zero, List.set_cons_succ])
            refine Tw_takeL (i := 6) (v := ?tv146) rfl (by kernel_rfl) (by decide) (by kernel_rfl) (by kernel_rfl) (fun _ _ _ h => h) (by rfl) ?ty146 ?tn146
            case ty146 => (intro w hSw; (try dsimp only at hSw); go_simp <;> with_reducible rfl)
            (try simp only [Act.put, List.setIfInBounds_toArray, List.set_cons_zero, List.set_cons_succ])
            refine Tw_skipL (i := 7) rfl (by kernel_rfl) (by decide) (by kernel_rfl) (by kernel_rfl) (fun _ _ _ h => h) (by rfl) ?tn147
            (try simp only [Act.put, List.setIfInBounds_toArray, List.set_cons_zero, List.set_cons_succ])
            refine Tw_skipL (i := 8) rfl (by kernel_rfl) (by decide) (by kernel_rfl) (by kernel_rfl) (fun _ _ _ h => h) (by rfl) ?tn148
            (try simp only [Act.put, List.setIfInBounds_toArray, List.set_cons_zero, List.set_cons_succ])
            refine Tw_skipL (i := 9) rfl (by kernel_rfl) (by decide) (by kernel_rfl) (by kernel_rfl) (fun _ _ _ h => h) (by rfl) ?tn149
            (try simp only [Act.put, List.setIfInBounds_toArray, List.set_cons_zero, List.set_cons_succ])
            refine Tw_skipL (i := 10) rfl (by kernel_rfl) (by decide) (by kernel_rfl) (by kernel_rfl) (fun _ _ _ h => h) (by rfl) ?tn150
            (try simp only [Act.put, List.setIfInBounds_toArray, List.set_cons_zero, List.set_cons_succ])
            refine Tw_skipL (i := 11) rfl (by kernel_rfl) (by decide) (by kernel_rfl) (by kernel_rfl) (fun _ _ _ h => h) (by rfl) ?tn151
            (try simp only [Act.put, List.setIfInBounds_toArray, List.set_cons_zero, List.set_cons_succ])
            refine Tw_skipL (i := 12) rfl (by kernel_rfl) (by decide) (by kernel_rfl) (by kernel_rfl) (fun _ _ _ h => h) (by rfl) ?tn152
            (try simp only [Act.put, List.setIfInBounds_toArray, List.set_cons_zero, List.set_cons_succ])
            refine Tw_skipL (i := 13) rfl (by kernel_rfl) (by decide) (by kernel_rfl) (by kernel_rfl) (fun _ _ _ h => h) (by rfl) ?tn153
            (try simp only [Act.put, List.setIfInBounds_toArray, List.set_cons_zero, List.set_cons_succ])
            refine Tw_skipL (i := 14) rfl (by kernel_rfl) (by decide) (by kernel_rfl) (by kernel_rfl) (fun _ _ _ h => h) (by rfl) ?tn154
            (try simp only [Act.put, List.setIfInBounds_toArray, List.set_cons_zero, List.set_cons_succ])
            refine Tw_skipL (i := 15) rfl (by kernel_rfl) (by decide) (by kernel_rfl) (by kernel_rfl) (fun _ _ _ h => h) (by rfl) ?tn155
            (try simp only [Act.put, List.setIfInBounds_toArray, List.set_cons_zero, List.set_cons_succ])
            refine Tw_skipL (i := 16) rfl (by kernel_rfl) (by decide) (by kernel_rfl) (by kernel_rfl) (fun _ _ _ h => h) (by rfl) ?tn156
            (try simp only [Act.put, List.setIfInBounds_toArray, List.set_cons_zero, List.set_cons_succ])
            refine Tw_skipL (i := 17) rfl (by kernel_rfl) (by decide) (by kernel_rfl) (by kernel_rfl) (fun _ _ _ h => h) (by rfl) ?tn157
            (try simp only [Act.put, List.setIfInBounds_toArray, List.set_cons_zero, List.set_cons_succ])
            refine Tw_skipL (i := 18) rfl (by kernel_rfl) (by decide) (by kernel_rfl) (by kernel_rfl) (fun _ _ _ h => h) (by rfl) ?tn158
            (try simp only [Act.put, List.setIfInBounds_toArray, List.set_cons_zero, List.set_cons_succ])
            refine Tw_skipL (i := 19) rfl (by kernel_rfl) (by decide) (by kernel_rfl) (by kernel_rfl) (fun _ _ _ h => h) (by rfl) ?tn159
            (try simp only [Act.put, List.setIfInBounds_toArray, List.set_cons_zero, List.set_cons_succ])
            refine Tw_skipL (i := 20) rfl (by kernel_rfl) (by decide) (by kernel_rfl) (by kernel_rfl) (fun _ _ _ h => h) (by rfl) ?tn160
            (try simp only [Act.put, List.setIfInBounds_toArray, List.set_cons_zero, List.set_cons_succ])
            refine Tw_skipL (i := 21) rfl (by kernel_rfl) (by decide) (by kernel_rfl) (by kernel_rfl) (fun _ _ _ h => h) (by rfl) ?tn161
            (try simp only [Act.put, List.setIfInBounds_toArray, List.set_cons_zero, List.set_cons_succ])
            refine Tw_end (by kernel_rfl) (fun hh => ?_)
            obtain ⟨F11, _⟩ := hh
            clear HALL
            go_wp2_with fail
            go_meet
            exact ⟨rfl, F11⟩
          case rest =>
          obtain ⟨wx8, rfl⟩ : ∃ W, W = wc := ⟨_, rfl⟩
          obtain ⟨rfl, hx8⟩ := hcut
          have FC := Lib.hid (FK.out.call hx8.bl)
          clear hx8 FK
          go_wp2_with fail
          go_ret2
          exact ⟨rfl, FC.out.bl⟩
        · have hxd : decide (lm < x) = false := decide_eq_false hxl
          rw [hxd] at HB0
          simp only [Bool.false_or] at HB0
          by_cases hk0 : k = 0
          · exfalso
            have := HB0.out
            subst hk0
            simp at this
          · obtain ⟨j, hj⟩ : ∃ j : Nat, j = k - 1 := ⟨_, rfl⟩
            rw [decide_eq_true (by omega : 0 < k), Bool.true_and, ← hj] at HB0
            have hkn : (0 : Int) < (k : Int) := by omega
            have hkN : 0 < k := by omega
            have hjn : j < ps.length := by omega
            have hji : (j : Int) < (N : Int) := by have := HNN.out; omega
            have hwj := (IntWalk.i64_in ((k : Int) - 1) (by omega)).trans (show (k : Int) - 1 = (j : Int) by omega)
            have hY := sqAt_in HQ.out j
            have HCC := Lib.hid (fun W hW => canChange_any s ps a c b HB.out h12 HOK.out.each j hjn (sqAt l j) x hY W hW)
            obtain ⟨y, hy⟩ : ∃ y, sqAt l j = y := ⟨_, rfl⟩
            have HY := Lib.hid hy
            obtain ⟨u, hu⟩ : ∃ u, inB x (sqAt l j - lossV (gp ps j) b.brk) (sqAt l j + drvG (gp ps j) b.drv) = u := ⟨_, rfl⟩
            have hu2 : u = false := by have := HB0.out; rw [hu] at this; simpa using this
            rw [hu, hu2, hy] at HCC
            clear hx hlm hy hu hu2 hY hj HB0 hk0
            go_upto_region 8 with fail
            go_cut [58] from 36 to 58 (fun r W => r = .bool true ∧ Fr wr W [])
            case first =>
              have HA8 : Hid (Lies wr wr.heap.size (some a) (ps.flatMap pc)) := Lib.hid (Fr.lies HA.out FK.out)
              have HALL : Hid (∀ W, Fr wr W [] → Fr wr W [] ∧ W.cell? ⟨g, 0, none⟩ = some (.string s) ∧ W.cell? ⟨g, 1, none⟩ = some (.slice (some a) ps.length c) ∧ W.cell? ⟨g, 2, none⟩ = some (.int .i64 b.brk) ∧ W.cell? ⟨g, 3, none⟩ = some (.int .i64 b.drag) ∧ W.cell? ⟨g, 4, none⟩ = some (.int .i64 b.drv) ∧ W.cell? ⟨g2, k, none⟩ = some (.int .i64 lm) ∧ W.cell? (a2.add j) = some (.int .i64 y)) := Lib.hid (fun W hW => ⟨hW, ((FK.out.get 1 rfl).call hW.bl).cell 0, ((FK.out.get 1 rfl).call hW.bl).cell 1, ((FK.out.get 1 rfl).call hW.bl).cell 2, ((FK.out.get 1 rfl).call hW.bl).cell 3, ((FK.out.get 1 rfl).call hW.bl).cell 4, by rw [(FK.out.top.call hW.bl).rowF_at (by omega), HLM.out], by rw [← HY.out]; exact HLC.out j (by omega) _ ((FK.out.tail.tail.tail.tail).call hW.bl)⟩)
              have F10 : Fr wr wr [] := Fr.nil wr
              refine Tw_start 22 (fun W => Fr wr W [] ∧ W.cell? ⟨g, 0, none⟩ = some (.string s) ∧ W.cell? ⟨g, 1, none⟩ = some (.slice (some a) ps.length c) ∧ W.cell? ⟨g, 2, none⟩ = some (.int .i64 b.brk) ∧ W.cell? ⟨g, 3, none⟩ = some (.int .i64 b.drag) ∧ W.cell? ⟨g, 4, none⟩ = some (.int .i64 b.drv) ∧ W.cell? ⟨g2, k, none⟩ = some (.int .i64 lm) ∧ W.cell? (a2.add j) = some (.int .i64 y)) (by kernel_rfl) (by kernel_rfl) rfl ?_ ?_
              · (try dsimp only)
                ((go_split_ands; refine HALL.out _ ?_; (first | assumption | (repeat (first | assumption | refine Fr.new ?_ _ | refine Fr.drew ?_ | (refine Fr.set ?_ (by first | exact Nat.le_refl _ | omega | (simp; done) | (simp; omega)) (by first | (simp; done) | (simp; omega)) _))); done)))
              refine Tw_takeL (i := 0) (v := ?tv162) rfl (by kernel_rfl) (by decide) (by kernel_rfl) (by kernel_rfl) (fun _ _ _ h => h) (by rfl) ?ty162 ?tn162
              case ty162 => (intro w hSw; (try dsimp only at hSw); go_simp <;> with_reducible rfl)
              (try simp only [Act.put, List.setIfInBounds_toArray, List.set_cons_zero, List.set_cons_succ])
              refine Tw_takeL (i := 1) (v := ?tv163) rfl (by kernel_rfl) (by decide) (by kernel_rfl) (by kernel_rfl) (fun _ _ _ h => h) (by rfl) ?ty163 ?tn163
              case ty163 => (intro w hSw; (try dsimp only at hSw); go_simp <;> with_reducible rfl)
              (try simp only [Act.put, List.setIfInBounds_toArray, List.set_cons_zero, List.set_cons_succ])
              refine Tw_takeL (i := 2) (v := ?tv164) rfl (by kernel_rfl) (by decide) (by kernel_rfl) (by kernel_rfl) (fun _ _ _ h => h) (by rfl) ?ty164 ?tn164
              case ty164 => (intro w hSw; (try dsimp only at hSw); go_simp <;> with_reducible rfl)
              (try simp only [Act.put, List.setIfInBounds_toArray, List.set_cons_zero, List.set_cons_succ])
              refine Tw_takeL (i := 3) (v := ?tv165) rfl (by kernel_rfl) (by decide) (by kernel_rfl) (by kernel_rfl) (fun _ _ _ h => h) (by rfl) ?ty165 ?tn165
              case ty165 => (intro w hSw; (try dsimp only at hSw); go_simp <;> with_reducible rfl)
              (try simp only [Act.put, List.setIfInBounds_toArray, List.set_cons_zero, List.set_cons_succ])
              refine Tw_takeL (i := 4) (v := ?tv166) rfl (by kernel_rfl) (by decide) (by kernel_rfl) (by kernel_rfl) (fun _ _ _ h => h) (by rfl) ?ty166 ?tn166
              case ty166 => (intro w hSw; (try dsimp only at hSw); go_simp <;> with_reducible rfl)
              (try simp only [Act.put, List.setIfInBounds_toArray, List.set_cons_zero, List.set_cons_succ])
              refine Tw_takeL (i := 5) (v := ?tv167) rfl (by kernel_rfl) (by decide) (by kernel_rfl) (by kernel_rfl) (fun _ _ _ h => h) (by rfl) ?ty167 ?tn167
              case ty167 => (intro w hSw; (try dsimp only at hSw); go_simp <;> with_reducible rfl)
              (try simp only [Act.put, List.setIfInBounds_toArray, List.set_cons_zero, List.set_cons_succ])
              refine Tw_takeL (i := 6) (v := ?tv168) rfl (by kernel_rfl) (by decide) (by kernel_rfl) (by kernel_rfl) (fun _ _ _ h => h) (by rfl) ?ty168 ?tn168
              case ty168 => (intro w hSw; (try dsimp only at hSw); go_simp <;> with_reducible rfl)
              (try simp only [Act.put, List.setIfInBounds_toArray, List.set_cons_zero, List.set_cons_succ])
              refine Tw_takeL (i := 7) (v := ?tv169) rfl (by kernel_rfl) (by decide) (by kernel_rfl) (by kernel_rfl) (fun _ _ _ h => h) (by rfl) ?ty169 ?tn169
              case ty169 => (intro w hSw; (try dsimp only at hSw); go_simp <;> with_reducible rfl)
              (try simp only [Act.put, List.setIfInBounds_toArray, List.set_cons_zero, List.set_cons_succ])
              refine Tw_takeL (i := 8) (v := ?tv170) rfl (by kernel_rfl) (by decide) (by kernel_rfl) (by kernel_rfl) (fun _ _ _ h => h) (by rfl) ?ty170 ?tn170
              case ty170 => (intro w hSw; (try dsimp only at hSw); go_simp <;> with_reducible rfl)
              (try simp only [Act.put, List.setIfInBounds_toArray, List.set_cons_zero, List.set_cons_succ])
              refine Tw_takeL (i := 9) (v := ?tv171) rfl (by kernel_rfl) (by decide) (by kernel_rfl) (by kernel_rfl) (fun _ _ _ h => h) (by rfl) ?ty171 ?tn171
              case ty171 => (intro w hSw; (try dsimp only at hSw); go_simp <;> with_reducible rfl)
              (try simp only [Act.put, List.setIfInBounds_toArray, List.set_cons_zero, List.set_cons_succ])
              refine Tw_takeL (i := 10) (v := ?tv172) rfl (by kernel_rfl) (by decide) (by kernel_rfl) (by kernel_rfl) (fun _ _ _ h => h) (by rfl) ?ty172 ?tn172
              case ty172 => (intro w hSw; (try dsimp only at hSw); go_simp <;> with_reducible rfl)
              (try simp only [Act.put, List.setIfInBounds_toArray, List.set_cons_zero, List.set_cons_succ])
              refine Tw_takeL (i := 11) (v := ?tv173) rfl (by kernel_rfl) (by decide) (by kernel_rfl) (by kernel_rfl) (fun _ _ _ h => h) (by rfl) ?ty173 ?tn173
              case ty173 => (intro w hSw; (try dsimp only at hSw); go_simp <;> with_reducible rfl)
              (try simp only [Act.put, List.setIfInBounds_toArray, List.set_cons_zero, List.set_cons_succ])
              refine Tw_takeL (i := 12) (v := ?tv174) rfl (by kernel_rfl) (by decide) (by kernel_rfl) (by kernel_rfl) (fun _ _ _ h => h) (by rfl) ?ty174 ?tn174
              case ty174 => (intro w hSw; (try dsimp only at hSw); go_simp <;> with_reducible rfl)
              (try simp only [Act.put, List.setIfInBounds_toArray, List.set_cons_zero, List.set_cons_succ])
              refine Tw_takeL (i := 13) (v := ?tv175) rfl (by kernel_rfl) (by decide) (by kernel_rfl) (by kernel_rfl) (fun _ _ _ h => h) (by rfl) ?ty175 ?tn175
              case ty175 => (intro w hSw; (try dsimp only at hSw); go_simp <;> with_reducible rfl)
              (try simp only [Act.put, List.setIfInBounds_toArray, List.set_cons_zero, List.set_cons_succ])
              refine Tw_takeL (i := 14) (v := ?tv176) rfl (by kernel_rfl) (by decide) (by kernel_rfl) (by kernel_rfl) (fun _ _ _ h => h) (by rfl) ?ty176 ?tn176
              case ty176 => (intro w hSw; (try dsimp only at hSw); go_simp <;> with_reducible rfl)
              (try simp only [Act.put, List.setIfInBounds_toArray, List.set_cons_zero, List.set_cons_succ])
              refine Tw_takeL (i := 15) (v := ?tv177) rfl (by kernel_rfl) (by decide) (by kernel_rfl) (by kernel_rfl) (fun _ _ _ h => h) (by rfl) ?ty177 ?tn177
              case ty177 => (intro w hSw; (try dsimp only at hSw); go_simp <;> with_reducible rfl)
              (try simp only [Act.put, List.setIfInBounds_toArray, List.set_cons_zero, List.set_cons_succ])
              refine Tw_takeL (i := 16) (v := ?tv178) rfl (by kernel_rfl) (by decide) (by kernel_rfl) (by kernel_rfl) (fun _ _ _ h => h) (by rfl) ?ty178 ?tn178
              case ty178 => (intro w hSw; (try dsimp only at hSw); go_simp <;> with_reducible rfl)
              (try simp only [Act.put, List.setIfInBounds_toArray, List.set_cons_zero, List.set_cons_succ])
              refine Tw_takeL (i := 17) (v := ?tv179) rfl (by kernel_rfl) (by decide) (by kernel_rfl) (by kernel_rfl) (fun _ _ _ h => h) (by rfl) ?ty179 ?tn179
              case ty179 => (intro w hSw; (try dsimp only at hSw); go_simp <;> with_reducible rfl)
              (try simp only [Act.put, List.setIfInBounds_toArray, List.set_cons_zero, List.set_cons_succ])
              refine Tw_takeL (i := 18) (v := ?tv180) rfl (by kernel_rfl) (by decide) (by kernel_rfl) (by kernel_rfl) (fun _ _ _ h => h) (by rfl) ?ty180 ?tn180
              case ty180 => (intro w hSw; (try dsimp only at hSw); go_simp <;> with_reducible rfl)
              (try simp only [Act.put, List.setIfInBounds_toArray, List.set_cons_zero, List.set_cons_succ])
              refine Tw_all (rs := [19]) (by kernel_rfl) (by simp) (by decide) (fun hHeld => ?_)
              refine AllT.consL rfl (fun K hK => ?_) AllT.nil
              go_simp
              (go_at_call 50; go_split_ands; (with_reducible refine (HCC.out _ (Fr.lies HA8.out (by assumption))).mono ?_); rintro e w7 ⟨rfl, hb7⟩; have F4 := Fr.call (by assumption) hb7; clear hb7)
              refine hK.out _ _ ?_ ?_
              · (try dsimp only)
                ((go_split_ands; refine HALL.out _ ?_; (first | assumption | (repeat (first | assumption | refine Fr.new ?_ _ | refine Fr.drew ?_ | (refine Fr.set ?_ (by first | exact Nat.le_refl _ | omega | (simp; done) | (simp; omega)) (by first | (simp; done) | (simp; omega)) _))); done)))
              clear hK K
              (try simp only [Act.put, List.setIfInBounds_toArray, List.set_cons_zero, List.set_cons_succ])
              refine Tw_takeL (i := 20) (v := ?tv181) rfl (by kernel_rfl) (by decide) (by kernel_rfl) (by kernel_rfl) (fun _ _ _ h => h) (by rfl) ?ty181 ?tn181
              case ty181 => (intro w hSw; (try dsimp only at hSw); go_simp <;> with_reducible rfl)
              (try simp only [Act.put, List.setIfInBounds_toArray, List.set_cons_zero, List.set_cons_succ])
              refine Tw_takeL (i := 21) (v := ?tv182) rfl (by kernel_rfl) (by decide) (by kernel_rfl) (by kernel_rfl) (fun _ _ _ h => h) (by rfl) ?ty182 ?tn182
              case ty182 => (intro w hSw; (try dsimp only at hSw); go_simp <;> with_reducible rfl)
              (try simp only [Act.put, List.setIfInBounds_toArray, List.set_cons_zero, List.set_cons_succ])
              refine Tw_end (by kernel_rfl) (fun hh => ?_)
              obtain ⟨F11, _⟩ := hh
              clear HALL
              go_wp2_with fail
              go_meet
              exact ⟨rfl, F11⟩
            case rest =>
            obtain ⟨wx8, rfl⟩ : ∃ W, W = wc := ⟨_, rfl⟩
            obtain ⟨rfl, hx8⟩ := hcut
            have FC := Lib.hid (FK.out.call hx8.bl)
            clear hx8 FK
            go_wp2_with fail
            go_ret2
            exact ⟨rfl, FC.out.bl⟩

set_option maxHeartbeats 8000000 in
set_option maxRecDepth 100000 in
theorem CheckSquares_ok (s : ByteArray) (hs : s.size ≤ maxLen) (ps : List Bp) (a : Addr) (c : Nat) (hl : ps.length ≤ 1000) (b : Bs) (l : List Int) (B : Option Addr) (d : Nat) (hl2 : l.length ≤ maxLen) (hok : OkT s ps) (hb : OkS b) (hsb : sE b = 0) (h2 : sqsE ps l = 0) (hmiss : ∀ j, j ≤ ps.length → badS ps b l j = false) (w : World) (hA : Lies w w.heap.size (some a) (ps.flatMap pc)) (hL : Lies w w.heap.size B (ic l)) :
    Calls Try.prog 18 #[.agg #[.string s, .slice (some a) ps.length c], .agg #[.int .i64 b.brk, .int .i64 b.drag, .int .i64 b.drv], .slice B l.length d] w fun e w' => e = .returned (.tuple #[.int .i64 0, .int .i64 0]) ∧ Below w.heap.size w w' := by
  have HMISS := Lib.hid hmiss
  clear hmiss
  have hlm : ps.length ≤ maxLen := by unfold maxLen; omega
  have F0 := Lib.hid (Fr.b2 w 24 #[.string s, .slice (some a) ps.length c] 26 #[.int .i64 b.brk, .int .i64 b.drag, .int .i64 b.drv])
  have HA := Lib.hid hA
  have HL := Lib.hid hL
  obtain ⟨se, hse⟩ : ∃ se, sqsE ps l = se := ⟨_, rfl⟩
  have HSE : Hid (∀ W, Lies W W.heap.size B (ic l) → Calls Try.prog 48 #[.agg #[.string s, .slice (some a) ps.length c], .slice B l.length d] W fun e w' => e = .returned (.int .i64 (sqsE ps l)) ∧ Below W.heap.size W w') := Lib.hid (fun W h => errorOfSquares_any s ps (some a) c hl l B d hl2 W h)
  have HS1 := Lib.hid hse
  have HN : nz ((trE s ps).2 :: sE b :: [se]) = 0 := by rw [trE_ok hok, hsb, ← hse, h2]; rfl
  have HCR : Hid (∀ (fa : Addr) (W : World), Lies W W.heap.size (some a) (ps.flatMap pc) → Lies W W.heap.size (some fa) (ic [se]) → Calls Try.prog 39 #[.agg #[.string s, .slice (some a) ps.length c], .agg #[.int .i64 b.brk, .int .i64 b.drag, .int .i64 b.drv], .slice (some fa) 1 1] W fun e w' => e = .returned (.tuple #[.agg #[.string s, .slice (some a) ps.length c, .int .i64 b.brk, .int .i64 b.drag, .int .i64 b.drv], .int .i64 0]) ∧ Below W.heap.size W w') := Lib.hid (fun fa W h1 h2 => checkRide_ok s hs ps (some a) c hlm b [se] fa 1 (by simp) (by simp) HN W h1 h2)
  have HOK := Lib.hid hok
  have HB := Lib.hid hb
  have hln : l.length = ps.length + 1 := Decidable.by_contra fun h => by unfold sqsE at h2; rw [if_pos h] at h2; cases h2
  have HQ : Hid (sqE l = 0) := Lib.hid (by unfold sqsE at h2; rw [if_neg (by simpa using hln)] at h2; exact h2)
  have h12 := hok.n12
  have hl12 : (ps.length : Int) ≤ 12 := by omega
  have HLE : Hid (∀ k, k ≤ ps.length → ∀ W, Fr w W [] → ∃ a2, B = some a2 ∧ a2.block < w.heap.size ∧ W.cell? (a2.add k) = some (.int .i64 (sqAt l k))) := Lib.hid (fun k hk W hW => by
    obtain ⟨a2, e, h1, _⟩ := hL.num (sqAt_get (k := k) (by omega))
    obtain ⟨a3, e3, _, h3⟩ := (Fr.lies hL hW).num (sqAt_get (k := k) (by omega))
    rw [e] at e3
    injection e3 with e3
    subst e3
    exact ⟨a2, e, h1, h3⟩)
  obtain ⟨a2, ea2, _, _⟩ := HLE.out 0 (Nat.zero_le _) w (Fr.nil w)
  subst ea2
  have HLC : Hid (∀ k, k ≤ ps.length → ∀ W, Fr w W [] → W.cell? (a2.add k) = some (.int .i64 (sqAt l k))) := Lib.hid (fun k hk W hW => by
    obtain ⟨a3, e3, _, h3⟩ := HLE.out k hk W hW
    injection e3 with e3
    subst e3
    exact h3)
  rw [hln] at HSE ⊢
  obtain ⟨N, hN⟩ : ∃ N, N = ps.length + 1 := ⟨_, rfl⟩
  rw [← hN] at HSE ⊢
  have HNN := Lib.hid hN
  clear hN hA hL hse hok hb hsb h2 hln hl2 HLE HN
  go_enter Try.func18, Try.ntmps18
  go_upto_region 1 with fail
  go_cut [8, 9] from 8 to 22 (fun pv rv W => ∃ g : Nat, pv = .pointer (some ⟨g, 0, none⟩) ∧ rv = .int .i64 0 ∧ Fr w W ((g, 77, #[.string s, .slice (some a) ps.length c, .int .i64 b.brk, .int .i64 b.drag, .int .i64 b.drv]) :: [(w.heap.size + 1, 26, #[.int .i64 b.brk, .int .i64 b.drag, .int .i64 b.drv]), (w.heap.size, 24, #[.string s, .slice (some a) ps.length c])]))
  case first =>
    refine wp_abs ?_
    intro w5 h5
    have HALL : Hid (∀ W, Fr w W [(w.heap.size + 1, 26, #[.int .i64 b.brk, .int .i64 b.drag, .int .i64 b.drv]), (w.heap.size, 24, #[.string s, .slice (some a) ps.length c])] → Fr w W [(w.heap.size + 1, 26, #[.int .i64 b.brk, .int .i64 b.drag, .int .i64 b.drv]), (w.heap.size, 24, #[.string s, .slice (some a) ps.length c])] ∧ W.cell? ⟨w.heap.size, 0, none⟩ = some (.string s) ∧ W.cell? ⟨w.heap.size, 1, none⟩ = some (.slice (some a) ps.length c) ∧ W.cell? ⟨w.heap.size + 1, 0, none⟩ = some (.int .i64 b.brk) ∧ W.cell? ⟨w.heap.size + 1, 1, none⟩ = some (.int .i64 b.drag) ∧ W.cell? ⟨w.heap.size + 1, 2, none⟩ = some (.int .i64 b.drv)) := Lib.hid (fun W hW => ⟨hW, hW.at1.cell 0, hW.at1.cell 1, hW.top.cell 0, hW.top.cell 1, hW.top.cell 2⟩)
    have F10 : Fr w w5 [(w.heap.size + 1, 26, #[.int .i64 b.brk, .int .i64 b.drag, .int .i64 b.drv]), (w.heap.size, 24, #[.string s, .slice (some a) ps.length c])] := by subst h5; exact F0.out
    clear F0 h5
    refine Tw_start 12 (fun W => Fr w W [(w.heap.size + 1, 26, #[.int .i64 b.brk, .int .i64 b.drag, .int .i64 b.drv]), (w.heap.size, 24, #[.string s, .slice (some a) ps.length c])] ∧ W.cell? ⟨w.heap.size, 0, none⟩ = some (.string s) ∧ W.cell? ⟨w.heap.size, 1, none⟩ = some (.slice (some a) ps.length c) ∧ W.cell? ⟨w.heap.size + 1, 0, none⟩ = some (.int .i64 b.brk) ∧ W.cell? ⟨w.heap.size + 1, 1, none⟩ = some (.int .i64 b.drag) ∧ W.cell? ⟨w.heap.size + 1, 2, none⟩ = some (.int .i64 b.drv)) (by kernel_rfl) (by kernel_rfl) rfl ?_ ?_
    · (try dsimp only)
      ((go_split_ands; refine HALL.out _ ?_; (first | assumption | (repeat (first | assumption | refine Fr.new ?_ _ | refine Fr.drew ?_ | (refine Fr.set ?_ (by first | exact Nat.le_refl _ | omega | (simp; done) | (simp; omega)) (by first | (simp; done) | (simp; omega)) _))); done)))
    refine Tw_takeL (i := 0) (v := ?tv183) rfl (by kernel_rfl) (by decide) (by kernel_rfl) (by kernel_rfl) (fun _ _ _ h => h) (by rfl) ?ty183 ?tn183
    case ty183 => (intro w hSw; (try dsimp only at hSw); go_simp <;> with_reducible rfl)
    (try simp only [Act.put, List.setIfInBounds_toArray, List.set_cons_zero, List.set_cons_succ])
    refine Tw_takeL (i := 1) (v := ?tv184) rfl (by kernel_rfl) (by decide) (by kernel_rfl) (by kernel_rfl) (fun _ _ _ h => h) (by rfl) ?ty184 ?tn184
    case ty184 => (intro w hSw; (try dsimp only at hSw); go_simp <;> with_reducible rfl)
    (try simp only [Act.put, List.setIfInBounds_toArray, List.set_cons_zero, List.set_cons_succ])
    refine Tw_takeL (i := 2) (v := ?tv185) rfl (by kernel_rfl) (by decide) (by kernel_rfl) (by kernel_rfl) (fun _ _ _ h => h) (by rfl) ?ty185 ?tn185
    case ty185 => (intro w hSw; (try dsimp only at hSw); go_simp <;> with_reducible rfl)
    (try simp only [Act.put, List.setIfInBounds_toArray, List.set_cons_zero, List.set_cons_succ])
    refine Tw_takeL (i := 3) (v := ?tv186) rfl (by kernel_rfl) (by decide) (by kernel_rfl) (by kernel_rfl) (fun _ _ _ h => h) (by rfl) ?ty186 ?tn186
    case ty186 => (intro w hSw; (try dsimp only at hSw); go_simp <;> with_reducible rfl)
    (try simp only [Act.put, List.setIfInBounds_toArray, List.set_cons_zero, List.set_cons_succ])
    refine Tw_all (rs := [4, 10]) (by kernel_rfl) (by simp) (by decide) (fun hHeld => ?_)
    refine AllT.consL rfl (fun K hK => ?_) (AllT.consL rfl (fun K hK => ?_) (AllT.nil))
    · go_simp
      (go_at_call 48; go_split_ands; (with_reducible refine (HSE.out _ (Fr.lies HL.out (by assumption))).mono ?_); rintro e w7 ⟨rfl, hb7⟩; rw [HS1.out]; have F4 := Fr.call (by assumption) hb7; (first | (have N1 := Lib.hid (Bk.call N1.out hb7)) | skip); (first | (have L1 := Lib.hid (Lies.call L1.out hb7)) | skip); clear hb7)
      refine hK.out _ _ ?_ ?_
      · (try dsimp only)
        ((go_split_ands; refine HALL.out _ ?_; (first | assumption | (repeat (first | assumption | refine Fr.new ?_ _ | refine Fr.drew ?_ | (refine Fr.set ?_ (by first | exact Nat.le_refl _ | omega | (simp; done) | (simp; omega)) (by first | (simp; done) | (simp; omega)) _))); done)))
      clear hK K
      (try simp only [Act.put, List.setIfInBounds_toArray, List.set_cons_zero, List.set_cons_succ])
      refine Tw_all (rs := [5, 10]) (by kernel_rfl) (by simp) (by decide) (fun hHeld => ?_)
      refine AllT.consL rfl (fun K hK => ?_) (AllT.consL rfl (fun K hK => ?_) (AllT.nil))
      · go_simp
        refine hK.out _ _ ?_ ?_
        · (try dsimp only)
          ((go_split_ands; refine HALL.out _ ?_; (first | assumption | (repeat (first | assumption | refine Fr.new ?_ _ | refine Fr.drew ?_ | (refine Fr.set ?_ (by first | exact Nat.le_refl _ | omega | (simp; done) | (simp; omega)) (by first | (simp; done) | (simp; omega)) _))); done)))
        clear hK K
        (try simp only [Act.put, List.setIfInBounds_toArray, List.set_cons_zero, List.set_cons_succ])
        refine Tw_abs ?_
        intro wA104 hA104
        (first | (have N1 := Lib.hid (Bk.over_alloc hA104 N1.out)) | (have N1 := Lib.hid (Bk.over_alloc_drew hA104 N1.out)) | skip)
        (first | (have L1 := Lib.hid (fs_alloc (l := [se]) hA104 (by simp [maxLen]))) | (have L1 := Lib.hid (fs_drew (l := [se]) hA104 (by simp [maxLen]))))
        clear hA104
        refine Tw_all (rs := [6, 10]) (by kernel_rfl) (by simp) (by decide) (fun hHeld => ?_)
        refine AllT.consL rfl (fun K hK => ?_) (AllT.consL rfl (fun K hK => ?_) (AllT.nil))
        · go_simp
          (go_at_call 39; go_split_ands; (refine (HCR.out _ _ (Fr.lies HA.out (by assumption)) L1.out).mono ?_); rintro e w7 ⟨rfl, hb7⟩; have F6 := Fr.call (by assumption) hb7; (first | (have N1 := Lib.hid (Bk.call N1.out hb7)) | skip); (first | (have L1 := Lib.hid (Lies.call L1.out hb7)) | skip); clear hb7)
          refine hK.out _ _ ?_ ?_
          · (try dsimp only)
            ((go_split_ands; refine HALL.out _ ?_; (first | assumption | (repeat (first | assumption | refine Fr.new ?_ _ | refine Fr.drew ?_ | (refine Fr.set ?_ (by first | exact Nat.le_refl _ | omega | (simp; done) | (simp; omega)) (by first | (simp; done) | (simp; omega)) _))); done)))
          clear hK K
          (try simp only [Act.put, List.setIfInBounds_toArray, List.set_cons_zero, List.set_cons_succ])
          refine Tw_takeL (i := 7) (v := ?tv187) rfl (by kernel_rfl) (by decide) (by kernel_rfl) (by kernel_rfl) (fun _ _ _ h => h) (by rfl) ?ty187 ?tn187
          case ty187 => (intro w hSw; (try dsimp only at hSw); go_simp <;> with_reducible rfl)
          (try simp only [Act.put, List.setIfInBounds_toArray, List.set_cons_zero, List.set_cons_succ])
          refine Tw_takeL (i := 8) (v := ?tv188) rfl (by kernel_rfl) (by decide) (by kernel_rfl) (by kernel_rfl) (fun _ _ _ h => h) (by rfl) ?ty188 ?tn188
          case ty188 => (intro w hSw; (try dsimp only at hSw); go_simp <;> with_reducible rfl)
          (try simp only [Act.put, List.setIfInBounds_toArray, List.set_cons_zero, List.set_cons_succ])
          refine Tw_takeL (i := 9) (v := ?tv189) rfl (by kernel_rfl) (by decide) (by kernel_rfl) (by kernel_rfl) (fun _ _ _ h => h) (by rfl) ?ty189 ?tn189
          case ty189 => (intro w hSw; (try dsimp only at hSw); go_simp <;> with_reducible rfl)
          (try simp only [Act.put, List.setIfInBounds_toArray, List.set_cons_zero, List.set_cons_succ])
          refine Tw_all (rs := [10]) (by kernel_rfl) (by simp) (by decide) (fun hHeld => ?_)
          refine AllT.consL rfl (fun K hK => ?_) (AllT.nil)
          · go_simp
            refine hK.out _ _ ?_ ?_
            · (try dsimp only)
              ((go_split_ands; refine HALL.out _ ?_; (first | assumption | (repeat (first | assumption | refine Fr.new ?_ _ | refine Fr.drew ?_ | (refine Fr.set ?_ (by first | exact Nat.le_refl _ | omega | (simp; done) | (simp; omega)) (by first | (simp; done) | (simp; omega)) _))); done)))
            clear hK K
            (try simp only [Act.put, List.setIfInBounds_toArray, List.set_cons_zero, List.set_cons_succ])
            refine Tw_abs ?_
            intro wA106 hA106
            (first | (have N1 := Lib.hid (Bk.of_alloc hA106)) | (have N1 := Lib.hid (Bk.of_alloc_drew hA106)))
            have zg := Lib.hid (show w.heap.size + 2 ≤ _ from hHeld.1.top.lt)
            (first | (have L1 := Lib.hid (Lies.alloc hA106 L1.out)) | (have L1 := Lib.hid (Lies.alloc_drew hA106 L1.out)) | skip)
            clear hA106
            refine Tw_all (rs := [11]) (by kernel_rfl) (by simp) (by decide) (fun hHeld => ?_)
            refine AllT.consL rfl (fun K hK => ?_) (AllT.nil)
            · have c0 := N1.out.cell 0
              have c1 := N1.out.cell 1
              have c2 := N1.out.cell 2
              have c3 := N1.out.cell 3
              have c4 := N1.out.cell 4
              have f0 := N1.out.frozen 0
              have f1 := N1.out.frozen 1
              have f2 := N1.out.frozen 2
              have f3 := N1.out.frozen 3
              have f4 := N1.out.frozen 4
              have zN := N1.out.lt
              go_simp
              refine hK.out _ _ ?_ ?_
              · exact HALL.out _ (Fr.off5 (n := 2) hHeld.1 zg.out (by intro b hb; simp only [List.mem_cons, List.not_mem_nil, or_false] at hb; rcases hb with rfl | rfl <;> (dsimp only; omega)) _ _ _ _ _)
              clear hK K c0 f0 c1 f1 c2 f2 c3 f3 c4 f4 zN
              have N1 := Lib.hid (Bk.set5 N1.out (.string s) (.slice (some a) ps.length c) (.int .i64 b.brk) (.int .i64 b.drag) (.int .i64 b.drv))
              (try simp only [Act.put, List.setIfInBounds_toArray, List.set_cons_zero, List.set_cons_succ])
              refine Tw_end (by kernel_rfl) (fun hh => ?_)
              obtain ⟨F11, _⟩ := hh
              clear HALL
              go_wp2_with fail
              go_meet
              exact ⟨_, rfl, rfl, F11.more N1.out⟩
        · go_simp
          refine hK.out _ _ ?_ ?_
          · (try dsimp only)
            ((go_split_ands; refine HALL.out _ ?_; (first | assumption | (repeat (first | assumption | refine Fr.new ?_ _ | refine Fr.drew ?_ | (refine Fr.set ?_ (by first | exact Nat.le_refl _ | omega | (simp; done) | (simp; omega)) (by first | (simp; done) | (simp; omega)) _))); done)))
          clear hK K
          (try simp only [Act.put, List.setIfInBounds_toArray, List.set_cons_zero, List.set_cons_succ])
          refine Tw_abs ?_
          intro wA108 hA108
          (first | (have N1 := Lib.hid (Bk.of_alloc hA108)) | (have N1 := Lib.hid (Bk.of_alloc_drew hA108)))
          have zg := Lib.hid (show w.heap.size + 2 ≤ _ from hHeld.1.top.lt)
          (first | (have L1 := Lib.hid (Lies.alloc hA108 L1.out)) | (have L1 := Lib.hid (Lies.alloc_drew hA108 L1.out)) | skip)
          clear hA108
          refine Tw_all (rs := [6]) (by kernel_rfl) (by simp) (by decide) (fun hHeld => ?_)
          refine AllT.consL rfl (fun K hK => ?_) (AllT.nil)
          · go_simp
            (go_at_call 39; go_split_ands; (refine (HCR.out _ _ (Fr.lies HA.out (by assumption)) L1.out).mono ?_); rintro e w7 ⟨rfl, hb7⟩; have F6 := Fr.call (by assumption) hb7; (first | (have N1 := Lib.hid (Bk.call N1.out hb7)) | skip); (first | (have L1 := Lib.hid (Lies.call L1.out hb7)) | skip); clear hb7)
            refine hK.out _ _ ?_ ?_
            · (try dsimp only)
              ((go_split_ands; refine HALL.out _ ?_; (first | assumption | (repeat (first | assumption | refine Fr.new ?_ _ | refine Fr.drew ?_ | (refine Fr.set ?_ (by first | exact Nat.le_refl _ | omega | (simp; done) | (simp; omega)) (by first | (simp; done) | (simp; omega)) _))); done)))
            clear hK K
            (try simp only [Act.put, List.setIfInBounds_toArray, List.set_cons_zero, List.set_cons_succ])
            refine Tw_takeL (i := 7) (v := ?tv190) rfl (by kernel_rfl) (by decide) (by kernel_rfl) (by kernel_rfl) (fun _ _ _ h => h) (by rfl) ?ty190 ?tn190
            case ty190 => (intro w hSw; (try dsimp only at hSw); go_simp <;> with_reducible rfl)
            (try simp only [Act.put, List.setIfInBounds_toArray, List.set_cons_zero, List.set_cons_succ])
            refine Tw_takeL (i := 8) (v := ?tv191) rfl (by kernel_rfl) (by decide) (by kernel_rfl) (by kernel_rfl) (fun _ _ _ h => h) (by rfl) ?ty191 ?tn191
            case ty191 => (intro w hSw; (try dsimp only at hSw); go_simp <;> with_reducible rfl)
            (try simp only [Act.put, List.setIfInBounds_toArray, List.set_cons_zero, List.set_cons_succ])
            refine Tw_takeL (i := 9) (v := ?tv192) rfl (by kernel_rfl) (by decide) (by kernel_rfl) (by kernel_rfl) (fun _ _ _ h => h) (by rfl) ?ty192 ?tn192
            case ty192 => (intro w hSw; (try dsimp only at hSw); go_simp <;> with_reducible rfl)
            (try simp only [Act.put, List.setIfInBounds_toArray, List.set_cons_zero, List.set_cons_succ])
            refine Tw_all (rs := [11]) (by kernel_rfl) (by simp) (by decide) (fun hHeld => ?_)
            refine AllT.consL rfl (fun K hK => ?_) (AllT.nil)
            · have c0 := N1.out.cell 0
              have c1 := N1.out.cell 1
              have c2 := N1.out.cell 2
              have c3 := N1.out.cell 3
              have c4 := N1.out.cell 4
              have f0 := N1.out.frozen 0
              have f1 := N1.out.frozen 1
              have f2 := N1.out.frozen 2
              have f3 := N1.out.frozen 3
              have f4 := N1.out.frozen 4
              have zN := N1.out.lt
              go_simp
              refine hK.out _ _ ?_ ?_
              · exact HALL.out _ (Fr.off5 (n := 2) hHeld.1 zg.out (by intro b hb; simp only [List.mem_cons, List.not_mem_nil, or_false] at hb; rcases hb with rfl | rfl <;> (dsimp only; omega)) _ _ _ _ _)
              clear hK K c0 f0 c1 f1 c2 f2 c3 f3 c4 f4 zN
              have N1 := Lib.hid (Bk.set5 N1.out (.string s) (.slice (some a) ps.length c) (.int .i64 b.brk) (.int .i64 b.drag) (.int .i64 b.drv))
              (try simp only [Act.put, List.setIfInBounds_toArray, List.set_cons_zero, List.set_cons_succ])
              refine Tw_end (by kernel_rfl) (fun hh => ?_)
              obtain ⟨F11, _⟩ := hh
              clear HALL
              go_wp2_with fail
              go_meet
              exact ⟨_, rfl, rfl, F11.more N1.out⟩
      · go_simp
        refine hK.out _ _ ?_ ?_
        · (try dsimp only)
          ((go_split_ands; refine HALL.out _ ?_; (first | assumption | (repeat (first | assumption | refine Fr.new ?_ _ | refine Fr.drew ?_ | (refine Fr.set ?_ (by first | exact Nat.le_refl _ | omega | (simp; done) | (simp; omega)) (by first | (simp; done) | (simp; omega)) _))); done)))
        clear hK K
        (try simp only [Act.put, List.setIfInBounds_toArray, List.set_cons_zero, List.set_cons_succ])
        refine Tw_abs ?_
        intro wA111 hA111
        (first | (have N1 := Lib.hid (Bk.of_alloc hA111)) | (have N1 := Lib.hid (Bk.of_alloc_drew hA111)))
        have zg := Lib.hid (show w.heap.size + 2 ≤ _ from hHeld.1.top.lt)
        (first | (have L1 := Lib.hid (Lies.alloc hA111 L1.out)) | (have L1 := Lib.hid (Lies.alloc_drew hA111 L1.out)) | skip)
        clear hA111
        refine Tw_all (rs := [5]) (by kernel_rfl) (by simp) (by decide) (fun hHeld => ?_)
        refine AllT.consL rfl (fun K hK => ?_) (AllT.nil)
        · go_simp
          refine hK.out _ _ ?_ ?_
          · (try dsimp only)
            ((go_split_ands; refine HALL.out _ ?_; (first | assumption | (repeat (first | assumption | refine Fr.new ?_ _ | refine Fr.drew ?_ | (refine Fr.set ?_ (by first | exact Nat.le_refl _ | omega | (simp; done) | (simp; omega)) (by first | (simp; done) | (simp; omega)) _))); done)))
          clear hK K
          (try simp only [Act.put, List.setIfInBounds_toArray, List.set_cons_zero, List.set_cons_succ])
          refine Tw_abs ?_
          intro wA112 hA112
          (first | (have N1 := Lib.hid (Bk.over_alloc hA112 N1.out)) | (have N1 := Lib.hid (Bk.over_alloc_drew hA112 N1.out)) | skip)
          (first | (have L1 := Lib.hid (fs_alloc (l := [se]) hA112 (by simp [maxLen]))) | (have L1 := Lib.hid (fs_drew (l := [se]) hA112 (by simp [maxLen]))))
          clear hA112
          refine Tw_all (rs := [6]) (by kernel_rfl) (by simp) (by decide) (fun hHeld => ?_)
          refine AllT.consL rfl (fun K hK => ?_) (AllT.nil)
          · go_simp
            (go_at_call 39; go_split_ands; (refine (HCR.out _ _ (Fr.lies HA.out (by assumption)) L1.out).mono ?_); rintro e w7 ⟨rfl, hb7⟩; have F6 := Fr.call (by assumption) hb7; (first | (have N1 := Lib.hid (Bk.call N1.out hb7)) | skip); (first | (have L1 := Lib.hid (Lies.call L1.out hb7)) | skip); clear hb7)
            refine hK.out _ _ ?_ ?_
            · (try dsimp only)
              ((go_split_ands; refine HALL.out _ ?_; (first | assumption | (repeat (first | assumption | refine Fr.new ?_ _ | refine Fr.drew ?_ | (refine Fr.set ?_ (by first | exact Nat.le_refl _ | omega | (simp; done) | (simp; omega)) (by first | (simp; done) | (simp; omega)) _))); done)))
            clear hK K
            (try simp only [Act.put, List.setIfInBounds_toArray, List.set_cons_zero, List.set_cons_succ])
            refine Tw_takeL (i := 7) (v := ?tv193) rfl (by kernel_rfl) (by decide) (by kernel_rfl) (by kernel_rfl) (fun _ _ _ h => h) (by rfl) ?ty193 ?tn193
            case ty193 => (intro w hSw; (try dsimp only at hSw); go_simp <;> with_reducible rfl)
            (try simp only [Act.put, List.setIfInBounds_toArray, List.set_cons_zero, List.set_cons_succ])
            refine Tw_takeL (i := 8) (v := ?tv194) rfl (by kernel_rfl) (by decide) (by kernel_rfl) (by kernel_rfl) (fun _ _ _ h => h) (by rfl) ?ty194 ?tn194
            case ty194 => (intro w hSw; (try dsimp only at hSw); go_simp <;> with_reducible rfl)
            (try simp only [Act.put, List.setIfInBounds_toArray, List.set_cons_zero, List.set_cons_succ])
            refine Tw_takeL (i := 9) (v := ?tv195) rfl (by kernel_rfl) (by decide) (by kernel_rfl) (by kernel_rfl) (fun _ _ _ h => h) (by rfl) ?ty195 ?tn195
            case ty195 => (intro w hSw; (try dsimp only at hSw); go_simp <;> with_reducible rfl)
            (try simp only [Act.put, List.setIfInBounds_toArray, List.set_cons_zero, List.set_cons_succ])
            refine Tw_all (rs := [11]) (by kernel_rfl) (by simp) (by decide) (fun hHeld => ?_)
            refine AllT.consL rfl (fun K hK => ?_) (AllT.nil)
            · have c0 := N1.out.cell 0
              have c1 := N1.out.cell 1
              have c2 := N1.out.cell 2
              have c3 := N1.out.cell 3
              have c4 := N1.out.cell 4
              have f0 := N1.out.frozen 0
              have f1 := N1.out.frozen 1
              have f2 := N1.out.frozen 2
              have f3 := N1.out.frozen 3
              have f4 := N1.out.frozen 4
              have zN := N1.out.lt
              go_simp
              refine hK.out _ _ ?_ ?_
              · exact HALL.out _ (Fr.off5 (n := 2) hHeld.1 zg.out (by intro b hb; simp only [List.mem_cons, List.not_mem_nil, or_false] at hb; rcases hb with rfl | rfl <;> (dsimp only; omega)) _ _ _ _ _)
              clear hK K c0 f0 c1 f1 c2 f2 c3 f3 c4 f4 zN
              have N1 := Lib.hid (Bk.set5 N1.out (.string s) (.slice (some a) ps.length c) (.int .i64 b.brk) (.int .i64 b.drag) (.int .i64 b.drv))
              (try simp only [Act.put, List.setIfInBounds_toArray, List.set_cons_zero, List.set_cons_succ])
              refine Tw_end (by kernel_rfl) (fun hh => ?_)
              obtain ⟨F11, _⟩ := hh
              clear HALL
              go_wp2_with fail
              go_meet
              exact ⟨_, rfl, rfl, F11.more N1.out⟩
    · go_simp
      refine hK.out _ _ ?_ ?_
      · (try dsimp only)
        ((go_split_ands; refine HALL.out _ ?_; (first | assumption | (repeat (first | assumption | refine Fr.new ?_ _ | refine Fr.drew ?_ | (refine Fr.set ?_ (by first | exact Nat.le_refl _ | omega | (simp; done) | (simp; omega)) (by first | (simp; done) | (simp; omega)) _))); done)))
      clear hK K
      (try simp only [Act.put, List.setIfInBounds_toArray, List.set_cons_zero, List.set_cons_succ])
      refine Tw_abs ?_
      intro wA115 hA115
      (first | (have N1 := Lib.hid (Bk.of_alloc hA115)) | (have N1 := Lib.hid (Bk.of_alloc_drew hA115)))
      have zg := Lib.hid (show w.heap.size + 2 ≤ _ from hHeld.1.top.lt)
      (first | (have L1 := Lib.hid (Lies.alloc hA115 L1.out)) | (have L1 := Lib.hid (Lies.alloc_drew hA115 L1.out)) | skip)
      clear hA115
      refine Tw_all (rs := [4]) (by kernel_rfl) (by simp) (by decide) (fun hHeld => ?_)
      refine AllT.consL rfl (fun K hK => ?_) (AllT.nil)
      · go_simp
        (go_at_call 48; go_split_ands; (with_reducible refine (HSE.out _ (Fr.lies HL.out (by assumption))).mono ?_); rintro e w7 ⟨rfl, hb7⟩; rw [HS1.out]; have F4 := Fr.call (by assumption) hb7; (first | (have N1 := Lib.hid (Bk.call N1.out hb7)) | skip); (first | (have L1 := Lib.hid (Lies.call L1.out hb7)) | skip); clear hb7)
        refine hK.out _ _ ?_ ?_
        · (try dsimp only)
          ((go_split_ands; refine HALL.out _ ?_; (first | assumption | (repeat (first | assumption | refine Fr.new ?_ _ | refine Fr.drew ?_ | (refine Fr.set ?_ (by first | exact Nat.le_refl _ | omega | (simp; done) | (simp; omega)) (by first | (simp; done) | (simp; omega)) _))); done)))
        clear hK K
        (try simp only [Act.put, List.setIfInBounds_toArray, List.set_cons_zero, List.set_cons_succ])
        refine Tw_all (rs := [5]) (by kernel_rfl) (by simp) (by decide) (fun hHeld => ?_)
        refine AllT.consL rfl (fun K hK => ?_) (AllT.nil)
        · go_simp
          refine hK.out _ _ ?_ ?_
          · (try dsimp only)
            ((go_split_ands; refine HALL.out _ ?_; (first | assumption | (repeat (first | assumption | refine Fr.new ?_ _ | refine Fr.drew ?_ | (refine Fr.set ?_ (by first | exact Nat.le_refl _ | omega | (simp; done) | (simp; omega)) (by first | (simp; done) | (simp; omega)) _))); done)))
          clear hK K
          (try simp only [Act.put, List.setIfInBounds_toArray, List.set_cons_zero, List.set_cons_succ])
          refine Tw_abs ?_
          intro wA117 hA117
          (first | (have N1 := Lib.hid (Bk.over_alloc hA117 N1.out)) | (have N1 := Lib.hid (Bk.over_alloc_drew hA117 N1.out)) | skip)
          (first | (have L1 := Lib.hid (fs_alloc (l := [se]) hA117 (by simp [maxLen]))) | (have L1 := Lib.hid (fs_drew (l := [se]) hA117 (by simp [maxLen]))))
          clear hA117
          refine Tw_all (rs := [6]) (by kernel_rfl) (by simp) (by decide) (fun hHeld => ?_)
          refine AllT.consL rfl (fun K hK => ?_) (AllT.nil)
          · go_simp
            (go_at_call 39; go_split_ands; (refine (HCR.out _ _ (Fr.lies HA.out (by assumption)) L1.out).mono ?_); rintro e w7 ⟨rfl, hb7⟩; have F6 := Fr.call (by assumption) hb7; (first | (have N1 := Lib.hid (Bk.call N1.out hb7)) | skip); (first | (have L1 := Lib.hid (Lies.call L1.out hb7)) | skip); clear hb7)
            refine hK.out _ _ ?_ ?_
            · (try dsimp only)
              ((go_split_ands; refine HALL.out _ ?_; (first | assumption | (repeat (first | assumption | refine Fr.new ?_ _ | refine Fr.drew ?_ | (refine Fr.set ?_ (by first | exact Nat.le_refl _ | omega | (simp; done) | (simp; omega)) (by first | (simp; done) | (simp; omega)) _))); done)))
            clear hK K
            (try simp only [Act.put, List.setIfInBounds_toArray, List.set_cons_zero, List.set_cons_succ])
            refine Tw_takeL (i := 7) (v := ?tv196) rfl (by kernel_rfl) (by decide) (by kernel_rfl) (by kernel_rfl) (fun _ _ _ h => h) (by rfl) ?ty196 ?tn196
            case ty196 => (intro w hSw; (try dsimp only at hSw); go_simp <;> with_reducible rfl)
            (try simp only [Act.put, List.setIfInBounds_toArray, List.set_cons_zero, List.set_cons_succ])
            refine Tw_takeL (i := 8) (v := ?tv197) rfl (by kernel_rfl) (by decide) (by kernel_rfl) (by kernel_rfl) (fun _ _ _ h => h) (by rfl) ?ty197 ?tn197
            case ty197 => (intro w hSw; (try dsimp only at hSw); go_simp <;> with_reducible rfl)
            (try simp only [Act.put, List.setIfInBounds_toArray, List.set_cons_zero, List.set_cons_succ])
            refine Tw_takeL (i := 9) (v := ?tv198) rfl (by kernel_rfl) (by decide) (by kernel_rfl) (by kernel_rfl) (fun _ _ _ h => h) (by rfl) ?ty198 ?tn198
            case ty198 => (intro w hSw; (try dsimp only at hSw); go_simp <;> with_reducible rfl)
            (try simp only [Act.put, List.setIfInBounds_toArray, List.set_cons_zero, List.set_cons_succ])
            refine Tw_all (rs := [11]) (by kernel_rfl) (by simp) (by decide) (fun hHeld => ?_)
            refine AllT.consL rfl (fun K hK => ?_) (AllT.nil)
            · have c0 := N1.out.cell 0
              have c1 := N1.out.cell 1
              have c2 := N1.out.cell 2
              have c3 := N1.out.cell 3
              have c4 := N1.out.cell 4
              have f0 := N1.out.frozen 0
              have f1 := N1.out.frozen 1
              have f2 := N1.out.frozen 2
              have f3 := N1.out.frozen 3
              have f4 := N1.out.frozen 4
              have zN := N1.out.lt
              go_simp
              refine hK.out _ _ ?_ ?_
              · exact HALL.out _ (Fr.off5 (n := 2) hHeld.1 zg.out (by intro b hb; simp only [List.mem_cons, List.not_mem_nil, or_false] at hb; rcases hb with rfl | rfl <;> (dsimp only; omega)) _ _ _ _ _)
              clear hK K c0 f0 c1 f1 c2 f2 c3 f3 c4 f4 zN
              have N1 := Lib.hid (Bk.set5 N1.out (.string s) (.slice (some a) ps.length c) (.int .i64 b.brk) (.int .i64 b.drag) (.int .i64 b.drv))
              (try simp only [Act.put, List.setIfInBounds_toArray, List.set_cons_zero, List.set_cons_succ])
              refine Tw_end (by kernel_rfl) (fun hh => ?_)
              obtain ⟨F11, _⟩ := hh
              clear HALL
              go_wp2_with fail
              go_meet
              exact ⟨_, rfl, rfl, F11.more N1.out⟩
  case rest =>
    obtain ⟨wx, rfl⟩ : ∃ W, W = wc := ⟨_, rfl⟩
    obtain ⟨g, rfl, rfl, hx⟩ := hcut
    have FC := Lib.hid hx
    clear hx F0
    have q0 := FC.out.top.cell 0
    have q1 := FC.out.top.cell 1
    go_wp2_with fail
    refine (limits_any s ps a c HOK.out.n0 HOK.out.n12 HOK.out.each _ (Fr.lies HA.out FC.out)).mono ?_
    rintro e w2 ⟨g2, rfl, n2, hg2, hb2⟩
    have F2 := Lib.hid ((FC.out.call hb2).more n2)
    clear hb2 n2 FC q0 q1 hg2
    go_wp2_with fail
    go_loopw [31] (fun i wr => ∃ k : Nat, k ≤ ps.length + 1 ∧ i = .int .i64 k ∧ Fr w wr ((g2, 3, rowF (ps.length + 1) (limV ps)) :: (g, 77, #[.string s, .slice (some a) ps.length c, .int .i64 b.brk, .int .i64 b.drag, .int .i64 b.drv]) :: [(w.heap.size + 1, 26, #[.int .i64 b.brk, .int .i64 b.drag, .int .i64 b.drv]), (w.heap.size, 24, #[.string s, .slice (some a) ps.length c])])) (fun i _ => ps.length + 1 - (intOf i).toNat)
    case atStart => exact ⟨0, Nat.zero_le _, rfl, F2.out⟩
    case round =>
      obtain ⟨k, hk, rfl, hf⟩ := hrel
      have FK := Lib.hid hf
      clear hf F2
      by_cases hkn2 : k < ps.length + 1
      · skip
        have hki : (k : Int) < (N : Int) := by have := HNN.out; omega
        have hki2 : (k : Int) < (ps.length : Int) + 1 := by omega
        have hwk := IntWalk.i64_in ((k : Int) + 1) (by omega)
        obtain ⟨x, hx⟩ : ∃ x, sqAt l k = x := ⟨_, rfl⟩
        obtain ⟨lm, hlm⟩ : ∃ lm, limV ps k = lm := ⟨_, rfl⟩
        have HLM := Lib.hid hlm
        have cx := HLC.out k (by omega) wr FK.out.tail.tail.tail.tail
        rw [hx] at cx
        have HB0 : Hid (badS ps b l k = false) := Lib.hid (HMISS.out k (by omega))
        unfold badS at HB0
        rw [hx, hlm] at HB0
        by_cases hxl : lm < x
        · exfalso
          have := HB0.out
          rw [decide_eq_true hxl] at this
          simp at this
        · have hxd : decide (lm < x) = false := decide_eq_false hxl
          rw [hxd] at HB0
          simp only [Bool.false_or] at HB0
          by_cases hk0 : k = 0
          · have hkn : ¬ (0 : Int) < (k : Int) := by omega
            have hkN : ¬ (0 < k) := by omega
            clear hx hlm hk0 HB0
            go_upto_region 8 with fail
            go_cut [58] from 36 to 58 (fun r W => r = .bool false ∧ Fr wr W [])
            case first =>
              have HA8 : Hid (Lies wr wr.heap.size (some a) (ps.flatMap pc)) := Lib.hid (Fr.lies HA.out FK.out)
              have HALL : Hid (∀ W, Fr wr W [] → Fr wr W [] ∧ W.cell? ⟨g, 0, none⟩ = some (.string s) ∧ W.cell? ⟨g, 1, none⟩ = some (.slice (some a) ps.length c) ∧ W.cell? ⟨g, 2, none⟩ = some (.int .i64 b.brk) ∧ W.cell? ⟨g, 3, none⟩ = some (.int .i64 b.drag) ∧ W.cell? ⟨g, 4, none⟩ = some (.int .i64 b.drv) ∧ W.cell? ⟨g2, k, none⟩ = some (.int .i64 lm)) := Lib.hid (fun W hW => ⟨hW, ((FK.out.get 1 rfl).call hW.bl).cell 0, ((FK.out.get 1 rfl).call hW.bl).cell 1, ((FK.out.get 1 rfl).call hW.bl).cell 2, ((FK.out.get 1 rfl).call hW.bl).cell 3, ((FK.out.get 1 rfl).call hW.bl).cell 4, by rw [(FK.out.top.call hW.bl).rowF_at (by omega), HLM.out]⟩)
              have F10 : Fr wr wr [] := Fr.nil wr
              refine Tw_start 22 (fun W => Fr wr W [] ∧ W.cell? ⟨g, 0, none⟩ = some (.string s) ∧ W.cell? ⟨g, 1, none⟩ = some (.slice (some a) ps.length c) ∧ W.cell? ⟨g, 2, none⟩ = some (.int .i64 b.brk) ∧ W.cell? ⟨g, 3, none⟩ = some (.int .i64 b.drag) ∧ W.cell? ⟨g, 4, none⟩ = some (.int .i64 b.drv) ∧ W.cell? ⟨g2, k, none⟩ = some (.int .i64 lm)) (by kernel_rfl) (by kernel_rfl) rfl ?_ ?_
              · (try dsimp only)
                ((go_split_ands; refine HALL.out _ ?_; (first | assumption | (repeat (first | assumption | refine Fr.new ?_ _ | refine Fr.drew ?_ | (refine Fr.set ?_ (by first | exact Nat.le_refl _ | omega | (simp; done) | (simp; omega)) (by first | (simp; done) | (simp; omega)) _))); done)))
              refine Tw_takeL (i := 0) (v := ?tv199) rfl (by kernel_rfl) (by decide) (by kernel_rfl) (by kernel_rfl) (fun _ _ _ h => h) (by rfl) ?ty199 ?tn199
              case ty199 => (intro w hSw; (try dsimp only at hSw); go_simp <;> with_reducible rfl)
              (try simp only [Act.put, List.setIfInBounds_toArray, List.set_cons_zero, List.set_cons_succ])
              refine Tw_takeL (i := 1) (v := ?tv200) rfl (by kernel_rfl) (by decide) (by kernel_rfl) (by kernel_rfl) (fun _ _ _ h => h) (by rfl) ?ty200 ?tn200
              case ty200 => (intro w hSw; (try dsimp only at hSw); go_simp <;> with_reducible rfl)
              (try simp only [Act.put, List.setIfInBounds_toArray, List.set_cons_zero, List.set_cons_succ])
              refine Tw_takeL (i := 2) (v := ?tv201) rfl (by kernel_rfl) (by decide) (by kernel_rfl) (by kernel_rfl) (fun _ _ _ h => h) (by rfl) ?ty201 ?tn201
              case ty201 => (intro w hSw; (try dsimp only at hSw); go_simp <;> with_reducible rfl)
              (try simp only [Act.put, List.setIfInBounds_toArray, List.set_cons_zero, List.set_cons_succ])
              refine Tw_takeL (i := 3) (v := ?tv202) rfl (by kernel_rfl) (by decide) (by kernel_rfl) (by kernel_rfl) (fun _ _ _ h => h) (by rfl) ?ty202 ?tn202
              case ty202 => (intro w hSw; (try dsimp only at hSw); go_simp <;> with_reducible rfl)
              (try simp only [Act.put, List.setIfInBounds_toArray, List.set_cons_zero, List.set_cons_succ])
              refine Tw_takeL (i := 4) (v := ?tv203) rfl (by kernel_rfl) (by decide) (by kernel_rfl) (by kernel_rfl) (fun _ _ _ h => h) (by rfl) ?ty203 ?tn203
              case ty203 => (intro w hSw; (try dsimp only at hSw); go_simp <;> with_reducible rfl)
              (try simp only [Act.put, List.setIfInBounds_toArray, List.set_cons_zero, List.set_cons_succ])
              refine Tw_takeL (i := 5) (v := ?tv204) rfl (by kernel_rfl) (by decide) (by kernel_rfl) (by kernel_rfl) (fun _ _ _ h => h) (by rfl) ?ty204 ?tn204
              case ty204 => (intro w hSw; (try dsimp only at hSw); go_simp <;> with_reducible rfl)
              (try simp only [Act.put, List.setIfInBounds_toArray, List.set_cons_zero, List.set_cons_succ])
              refine Tw_takeL (i := 6) (v := ?tv205) rfl (by kernel_rfl) (by decide) (by kernel_rfl) (by kernel_rfl) (fun _ _ _ h => h) (by rfl) ?ty205 ?tn205
              case ty205 => (intro w hSw; (try dsimp only at hSw); go_simp <;> with_reducible rfl)
              (try simp only [Act.put, List.setIfInBounds_toArray, List.set_cons_zero, List.set_cons_succ])
              refine Tw_takeL (i := 7) (v := ?tv206) rfl (by kernel_rfl) (by decide) (by kernel_rfl) (by kernel_rfl) (fun _ _ _ h => h) (by rfl) ?ty206 ?tn206
              case ty206 => (intro w hSw; (try dsimp only at hSw); go_simp <;> with_reducible rfl)
              (try simp only [Act.put, List.setIfInBounds_toArray, List.set_cons_zero, List.set_cons_succ])
              refine Tw_takeL (i := 8) (v := ?tv207) rfl (by kernel_rfl) (by decide) (by kernel_rfl) (by kernel_rfl) (fun _ _ _ h => h) (by rfl) ?ty207 ?tn207
              case ty207 => (intro w hSw; (try dsimp only at hSw); go_simp <;> with_reducible rfl)
              (try simp only [Act.put, List.setIfInBounds_toArray, List.set_cons_zero, List.set_cons_succ])
              refine Tw_takeL (i := 9) (v := ?tv208) rfl (by kernel_rfl) (by decide) (by kernel_rfl) (by kernel_rfl) (fun _ _ _ h => h) (by rfl) ?ty208 ?tn208
              case ty208 => (intro w hSw; (try dsimp only at hSw); go_simp <;> with_reducible rfl)
              (try simp only [Act.put, List.setIfInBounds_toArray, List.set_cons_zero, List.set_cons_succ])
              refine Tw_skipL (i := 10) rfl (by kernel_rfl) (by decide) (by kernel_rfl) (by kernel_rfl) (fun _ _ _ h => h) (by rfl) ?tn209
              (try simp only [Act.put, List.setIfInBounds_toArray, List.set_cons_zero, List.set_cons_succ])
              refine Tw_skipL (i := 11) rfl (by kernel_rfl) (by decide) (by kernel_rfl) (by kernel_rfl) (fun _ _ _ h => h) (by rfl) ?tn210
              (try simp only [Act.put, List.setIfInBounds_toArray, List.set_cons_zero, List.set_cons_succ])
              refine Tw_skipL (i := 12) rfl (by kernel_rfl) (by decide) (by kernel_rfl) (by kernel_rfl) (fun _ _ _ h => h) (by rfl) ?tn211
              (try simp only [Act.put, List.setIfInBounds_toArray, List.set_cons_zero, List.set_cons_succ])
              refine Tw_skipL (i := 13) rfl (by kernel_rfl) (by decide) (by kernel_rfl) (by kernel_rfl) (fun _ _ _ h => h) (by rfl) ?tn212
              (try simp only [Act.put, List.setIfInBounds_toArray, List.set_cons_zero, List.set_cons_succ])
              refine Tw_skipL (i := 14) rfl (by kernel_rfl) (by decide) (by kernel_rfl) (by kernel_rfl) (fun _ _ _ h => h) (by rfl) ?tn213
              (try simp only [Act.put, List.setIfInBounds_toArray, List.set_cons_zero, List.set_cons_succ])
              refine Tw_skipL (i := 15) rfl (by kernel_rfl) (by decide) (by kernel_rfl) (by kernel_rfl) (fun _ _ _ h => h) (by rfl) ?tn214
              (try simp only [Act.put, List.setIfInBounds_toArray, List.set_cons_zero, List.set_cons_succ])
              refine Tw_skipL (i := 16) rfl (by kernel_rfl) (by decide) (by kernel_rfl) (by kernel_rfl) (fun _ _ _ h => h) (by rfl) ?tn215
              (try simp only [Act.put, List.setIfInBounds_toArray, List.set_cons_zero, List.set_cons_succ])
              refine Tw_skipL (i := 17) rfl (by kernel_rfl) (by decide) (by kernel_rfl) (by kernel_rfl) (fun _ _ _ h => h) (by rfl) ?tn216
              (try simp only [Act.put, List.setIfInBounds_toArray, List.set_cons_zero, List.set_cons_succ])
              refine Tw_skipL (i := 18) rfl (by kernel_rfl) (by decide) (by kernel_rfl) (by kernel_rfl) (fun _ _ _ h => h) (by rfl) ?tn217
              (try simp only [Act.put, List.setIfInBounds_toArray, List.set_cons_zero, List.set_cons_succ])
              refine Tw_skipL (i := 19) rfl (by kernel_rfl) (by decide) (by kernel_rfl) (by kernel_rfl) (fun _ _ _ h => h) (by rfl) ?tn218
              (try simp only [Act.put, List.setIfInBounds_toArray, List.set_cons_zero, List.set_cons_succ])
              refine Tw_skipL (i := 20) rfl (by kernel_rfl) (by decide) (by kernel_rfl) (by kernel_rfl) (fun _ _ _ h => h) (by rfl) ?tn219
              (try simp only [Act.put, List.setIfInBounds_toArray, List.set_cons_zero, List.set_cons_succ])
              refine Tw_takeL (i := 21) (v := ?tv220) rfl (by kernel_rfl) (by decide) (by kernel_rfl) (by kernel_rfl) (fun _ _ _ h => h) (by rfl) ?ty220 ?tn220
              case ty220 => (intro w hSw; (try dsimp only at hSw); go_simp <;> with_reducible rfl)
              (try simp only [Act.put, List.setIfInBounds_toArray, List.set_cons_zero, List.set_cons_succ])
              refine Tw_end (by kernel_rfl) (fun hh => ?_)
              obtain ⟨F11, _⟩ := hh
              clear HALL
              go_wp2_with fail
              go_meet
              exact ⟨rfl, F11⟩
            case rest =>
            obtain ⟨wx8, rfl⟩ : ∃ W, W = wc := ⟨_, rfl⟩
            obtain ⟨rfl, hx8⟩ := hcut
            have FC := Lib.hid (FK.out.call hx8.bl)
            clear hx8 FK
            go_wp2_with fail
            go_roundw
            case rel => exact ⟨k + 1, by omega, by go_num, FC.out⟩
            case measure => simp [intOf] <;> omega
          · obtain ⟨j, hj⟩ : ∃ j : Nat, j = k - 1 := ⟨_, rfl⟩
            rw [decide_eq_true (by omega : 0 < k), Bool.true_and, ← hj] at HB0
            have hkn : (0 : Int) < (k : Int) := by omega
            have hkN : 0 < k := by omega
            have hjn : j < ps.length := by omega
            have hji : (j : Int) < (N : Int) := by have := HNN.out; omega
            have hwj := (IntWalk.i64_in ((k : Int) - 1) (by omega)).trans (show (k : Int) - 1 = (j : Int) by omega)
            have hY := sqAt_in HQ.out j
            have HCC := Lib.hid (fun W hW => canChange_any s ps a c b HB.out h12 HOK.out.each j hjn (sqAt l j) x hY W hW)
            obtain ⟨y, hy⟩ : ∃ y, sqAt l j = y := ⟨_, rfl⟩
            have HY := Lib.hid hy
            obtain ⟨u, hu⟩ : ∃ u, inB x (sqAt l j - lossV (gp ps j) b.brk) (sqAt l j + drvG (gp ps j) b.drv) = u := ⟨_, rfl⟩
            have hu2 : u = true := by have := HB0.out; rw [hu] at this; simpa using this
            rw [hu, hu2, hy] at HCC
            clear hx hlm hy hu hu2 hY hj HB0 hk0
            go_upto_region 8 with fail
            go_cut [58] from 36 to 58 (fun r W => r = .bool false ∧ Fr wr W [])
            case first =>
              have HA8 : Hid (Lies wr wr.heap.size (some a) (ps.flatMap pc)) := Lib.hid (Fr.lies HA.out FK.out)
              have HALL : Hid (∀ W, Fr wr W [] → Fr wr W [] ∧ W.cell? ⟨g, 0, none⟩ = some (.string s) ∧ W.cell? ⟨g, 1, none⟩ = some (.slice (some a) ps.length c) ∧ W.cell? ⟨g, 2, none⟩ = some (.int .i64 b.brk) ∧ W.cell? ⟨g, 3, none⟩ = some (.int .i64 b.drag) ∧ W.cell? ⟨g, 4, none⟩ = some (.int .i64 b.drv) ∧ W.cell? ⟨g2, k, none⟩ = some (.int .i64 lm) ∧ W.cell? (a2.add j) = some (.int .i64 y)) := Lib.hid (fun W hW => ⟨hW, ((FK.out.get 1 rfl).call hW.bl).cell 0, ((FK.out.get 1 rfl).call hW.bl).cell 1, ((FK.out.get 1 rfl).call hW.bl).cell 2, ((FK.out.get 1 rfl).call hW.bl).cell 3, ((FK.out.get 1 rfl).call hW.bl).cell 4, by rw [(FK.out.top.call hW.bl).rowF_at (by omega), HLM.out], by rw [← HY.out]; exact HLC.out j (by omega) _ ((FK.out.tail.tail.tail.tail).call hW.bl)⟩)
              have F10 : Fr wr wr [] := Fr.nil wr
              refine Tw_start 22 (fun W => Fr wr W [] ∧ W.cell? ⟨g, 0, none⟩ = some (.string s) ∧ W.cell? ⟨g, 1, none⟩ = some (.slice (some a) ps.length c) ∧ W.cell? ⟨g, 2, none⟩ = some (.int .i64 b.brk) ∧ W.cell? ⟨g, 3, none⟩ = some (.int .i64 b.drag) ∧ W.cell? ⟨g, 4, none⟩ = some (.int .i64 b.drv) ∧ W.cell? ⟨g2, k, none⟩ = some (.int .i64 lm) ∧ W.cell? (a2.add j) = some (.int .i64 y)) (by kernel_rfl) (by kernel_rfl) rfl ?_ ?_
              · (try dsimp only)
                ((go_split_ands; refine HALL.out _ ?_; (first | assumption | (repeat (first | assumption | refine Fr.new ?_ _ | refine Fr.drew ?_ | (refine Fr.set ?_ (by first | exact Nat.le_refl _ | omega | (simp; done) | (simp; omega)) (by first | (simp; done) | (simp; omega)) _))); done)))
              refine Tw_takeL (i := 0) (v := ?tv221) rfl (by kernel_rfl) (by decide) (by kernel_rfl) (by kernel_rfl) (fun _ _ _ h => h) (by rfl) ?ty221 ?tn221
              case ty221 => (intro w hSw; (try dsimp only at hSw); go_simp <;> with_reducible rfl)
              (try simp only [Act.put, List.setIfInBounds_toArray, List.set_cons_zero, List.set_cons_succ])
              refine Tw_takeL (i := 1) (v := ?tv222) rfl (by kernel_rfl) (by decide) (by kernel_rfl) (by kernel_rfl) (fun _ _ _ h => h) (by rfl) ?ty222 ?tn222
              case ty222 => (intro w hSw; (try dsimp only at hSw); go_simp <;> with_reducible rfl)
              (try simp only [Act.put, List.setIfInBounds_toArray, List.set_cons_zero, List.set_cons_succ])
              refine Tw_takeL (i := 2) (v := ?tv223) rfl (by kernel_rfl) (by decide) (by kernel_rfl) (by kernel_rfl) (fun _ _ _ h => h) (by rfl) ?ty223 ?tn223
              case ty223 => (intro w hSw; (try dsimp only at hSw); go_simp <;> with_reducible rfl)
              (try simp only [Act.put, List.setIfInBounds_toArray, List.set_cons_zero, List.set_cons_succ])
              refine Tw_takeL (i := 3) (v := ?tv224) rfl (by kernel_rfl) (by decide) (by kernel_rfl) (by kernel_rfl) (fun _ _ _ h => h) (by rfl) ?ty224 ?tn224
              case ty224 => (intro w hSw; (try dsimp only at hSw); go_simp <;> with_reducible rfl)
              (try simp only [Act.put, List.setIfInBounds_toArray, List.set_cons_zero, List.set_cons_succ])
              refine Tw_takeL (i := 4) (v := ?tv225) rfl (by kernel_rfl) (by decide) (by kernel_rfl) (by kernel_rfl) (fun _ _ _ h => h) (by rfl) ?ty225 ?tn225
              case ty225 => (intro w hSw; (try dsimp only at hSw); go_simp <;> with_reducible rfl)
              (try simp only [Act.put, List.setIfInBounds_toArray, List.set_cons_zero, List.set_cons_succ])
              refine Tw_takeL (i := 5) (v := ?tv226) rfl (by kernel_rfl) (by decide) (by kernel_rfl) (by kernel_rfl) (fun _ _ _ h => h) (by rfl) ?ty226 ?tn226
              case ty226 => (intro w hSw; (try dsimp only at hSw); go_simp <;> with_reducible rfl)
              (try simp only [Act.put, List.setIfInBounds_toArray, List.set_cons_zero, List.set_cons_succ])
              refine Tw_takeL (i := 6) (v := ?tv227) rfl (by kernel_rfl) (by decide) (by kernel_rfl) (by kernel_rfl) (fun _ _ _ h => h) (by rfl) ?ty227 ?tn227
              case ty227 => (intro w hSw; (try dsimp only at hSw); go_simp <;> with_reducible rfl)
              (try simp only [Act.put, List.setIfInBounds_toArray, List.set_cons_zero, List.set_cons_succ])
              refine Tw_takeL (i := 7) (v := ?tv228) rfl (by kernel_rfl) (by decide) (by kernel_rfl) (by kernel_rfl) (fun _ _ _ h => h) (by rfl) ?ty228 ?tn228
              case ty228 => (intro w hSw; (try dsimp only at hSw); go_simp <;> with_reducible rfl)
              (try simp only [Act.put, List.setIfInBounds_toArray, List.set_cons_zero, List.set_cons_succ])
              refine Tw_takeL (i := 8) (v := ?tv229) rfl (by kernel_rfl) (by decide) (by kernel_rfl) (by kernel_rfl) (fun _ _ _ h => h) (by rfl) ?ty229 ?tn229
              case ty229 => (intro w hSw; (try dsimp only at hSw); go_simp <;> with_reducible rfl)
              (try simp only [Act.put, List.setIfInBounds_toArray, List.set_cons_zero, List.set_cons_succ])
              refine Tw_takeL (i := 9) (v := ?tv230) rfl (by kernel_rfl) (by decide) (by kernel_rfl) (by kernel_rfl) (fun _ _ _ h => h) (by rfl) ?ty230 ?tn230
              case ty230 => (intro w hSw; (try dsimp only at hSw); go_simp <;> with_reducible rfl)
              (try simp only [Act.put, List.setIfInBounds_toArray, List.set_cons_zero, List.set_cons_succ])
              refine Tw_takeL (i := 10) (v := ?tv231) rfl (by kernel_rfl) (by decide) (by kernel_rfl) (by kernel_rfl) (fun _ _ _ h => h) (by rfl) ?ty231 ?tn231
              case ty231 => (intro w hSw; (try dsimp only at hSw); go_simp <;> with_reducible rfl)
              (try simp only [Act.put, List.setIfInBounds_toArray, List.set_cons_zero, List.set_cons_succ])
              refine Tw_takeL (i := 11) (v := ?tv232) rfl (by kernel_rfl) (by decide) (by kernel_rfl) (by kernel_rfl) (fun _ _ _ h => h) (by rfl) ?ty232 ?tn232
              case ty232 => (intro w hSw; (try dsimp only at hSw); go_simp <;> with_reducible rfl)
              (try simp only [Act.put, List.setIfInBounds_toArray, List.set_cons_zero, List.set_cons_succ])
              refine Tw_takeL (i := 12) (v := ?tv233) rfl (by kernel_rfl) (by decide) (by kernel_rfl) (by kernel_rfl) (fun _ _ _ h => h) (by rfl) ?ty233 ?tn233
              case ty233 => (intro w hSw; (try dsimp only at hSw); go_simp <;> with_reducible rfl)
              (try simp only [Act.put, List.setIfInBounds_toArray, List.set_cons_zero, List.set_cons_succ])
              refine Tw_takeL (i := 13) (v := ?tv234) rfl (by kernel_rfl) (by decide) (by kernel_rfl) (by kernel_rfl) (fun _ _ _ h => h) (by rfl) ?ty234 ?tn234
              case ty234 => (intro w hSw; (try dsimp only at hSw); go_simp <;> with_reducible rfl)
              (try simp only [Act.put, List.setIfInBounds_toArray, List.set_cons_zero, List.set_cons_succ])
              refine Tw_takeL (i := 14) (v := ?tv235) rfl (by kernel_rfl) (by decide) (by kernel_rfl) (by kernel_rfl) (fun _ _ _ h => h) (by rfl) ?ty235 ?tn235
              case ty235 => (intro w hSw; (try dsimp only at hSw); go_simp <;> with_reducible rfl)
              (try simp only [Act.put, List.setIfInBounds_toArray, List.set_cons_zero, List.set_cons_succ])
              refine Tw_takeL (i := 15) (v := ?tv236) rfl (by kernel_rfl) (by decide) (by kernel_rfl) (by kernel_rfl) (fun _ _ _ h => h) (by rfl) ?ty236 ?tn236
              case ty236 => (intro w hSw; (try dsimp only at hSw); go_simp <;> with_reducible rfl)
              (try simp only [Act.put, List.setIfInBounds_toArray, List.set_cons_zero, List.set_cons_succ])
              refine Tw_takeL (i := 16) (v := ?tv237) rfl (by kernel_rfl) (by decide) (by kernel_rfl) (by kernel_rfl) (fun _ _ _ h => h) (by rfl) ?ty237 ?tn237
              case ty237 => (intro w hSw; (try dsimp only at hSw); go_simp <;> with_reducible rfl)
              (try simp only [Act.put, List.setIfInBounds_toArray, List.set_cons_zero, List.set_cons_succ])
              refine Tw_takeL (i := 17) (v := ?tv238) rfl (by kernel_rfl) (by decide) (by kernel_rfl) (by kernel_rfl) (fun _ _ _ h => h) (by rfl) ?ty238 ?tn238
              case ty238 => (intro w hSw; (try dsimp only at hSw); go_simp <;> with_reducible rfl)
              (try simp only [Act.put, List.setIfInBounds_toArray, List.set_cons_zero, List.set_cons_succ])
              refine Tw_takeL (i := 18) (v := ?tv239) rfl (by kernel_rfl) (by decide) (by kernel_rfl) (by kernel_rfl) (fun _ _ _ h => h) (by rfl) ?ty239 ?tn239
              case ty239 => (intro w hSw; (try dsimp only at hSw); go_simp <;> with_reducible rfl)
              (try simp only [Act.put, List.setIfInBounds_toArray, List.set_cons_zero, List.set_cons_succ])
              refine Tw_all (rs := [19]) (by kernel_rfl) (by simp) (by decide) (fun hHeld => ?_)
              refine AllT.consL rfl (fun K hK => ?_) AllT.nil
              go_simp
              (go_at_call 50; go_split_ands; (with_reducible refine (HCC.out _ (Fr.lies HA8.out (by assumption))).mono ?_); rintro e w7 ⟨rfl, hb7⟩; have F4 := Fr.call (by assumption) hb7; clear hb7)
              refine hK.out _ _ ?_ ?_
              · (try dsimp only)
                ((go_split_ands; refine HALL.out _ ?_; (first | assumption | (repeat (first | assumption | refine Fr.new ?_ _ | refine Fr.drew ?_ | (refine Fr.set ?_ (by first | exact Nat.le_refl _ | omega | (simp; done) | (simp; omega)) (by first | (simp; done) | (simp; omega)) _))); done)))
              clear hK K
              (try simp only [Act.put, List.setIfInBounds_toArray, List.set_cons_zero, List.set_cons_succ])
              refine Tw_takeL (i := 20) (v := ?tv240) rfl (by kernel_rfl) (by decide) (by kernel_rfl) (by kernel_rfl) (fun _ _ _ h => h) (by rfl) ?ty240 ?tn240
              case ty240 => (intro w hSw; (try dsimp only at hSw); go_simp <;> with_reducible rfl)
              (try simp only [Act.put, List.setIfInBounds_toArray, List.set_cons_zero, List.set_cons_succ])
              refine Tw_takeL (i := 21) (v := ?tv241) rfl (by kernel_rfl) (by decide) (by kernel_rfl) (by kernel_rfl) (fun _ _ _ h => h) (by rfl) ?ty241 ?tn241
              case ty241 => (intro w hSw; (try dsimp only at hSw); go_simp <;> with_reducible rfl)
              (try simp only [Act.put, List.setIfInBounds_toArray, List.set_cons_zero, List.set_cons_succ])
              refine Tw_end (by kernel_rfl) (fun hh => ?_)
              obtain ⟨F11, _⟩ := hh
              clear HALL
              go_wp2_with fail
              go_meet
              exact ⟨rfl, F11⟩
            case rest =>
            obtain ⟨wx8, rfl⟩ : ∃ W, W = wc := ⟨_, rfl⟩
            obtain ⟨rfl, hx8⟩ := hcut
            have FC := Lib.hid (FK.out.call hx8.bl)
            clear hx8 FK
            go_wp2_with fail
            go_roundw
            case rel => exact ⟨k + 1, by omega, by go_num, FC.out⟩
            case measure => simp [intOf] <;> omega
      · have hge : ¬ ((k : Int) < (N : Int)) := by have := HNN.out; omega
        have FC := Lib.hid FK.out
        go_wp2_with fail
        go_ret2
        exact ⟨rfl, FC.out.bl⟩
end Go.Proofs.Ytmjooiocgeoaiaa
