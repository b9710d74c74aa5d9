
/-
  The walk of TimeOf of the program.
-/
import Derived.Test.YtaghpemdcmjchaaBRt
import Derived.Test.YtaghpemdcmjchaaBSq
import Derived.Test.YtaghpemdcmjchaaTFrx
namespace Go.Proofs.Ytaghpemdcmjchaa
open Go.RowKit

theorem Fr.off2n {w W : World} {g n : Nat} {bs : List (Nat × TypeId × Array Value)} (h : Fr w W bs) (hg : w.heap.size + n ≤ g) (hn : ∀ b ∈ bs, b.1 < w.heap.size + n) (x0 x1 : Value) :
    Fr w ((W.setCell ⟨g, 0, none⟩ x0).setCell ⟨g, 1, none⟩ x1) bs := by
  have hw : w.heap.size ≤ g := by omega
  have hf : ∀ b ∈ bs, b.1 ≠ g := fun b hb => by have := hn b hb; omega
  exact (h.set (p := ⟨g, 0, none⟩) hw hf x0).set (p := ⟨g, 1, none⟩) hw hf x1
/-- Whether a train stands at both ends of piece k. -/
def zeroS (l : List Int) (k : Nat) : Bool := decide (sqAt l k = 0) && decide (sqAt l (k + 1) = 0)
/-- The time of k pieces, at the least and at the most. -/
noncomputable def tloV (ps : List Bp) (l : List Int) : Nat → Int
  | 0 => 0
  | k + 1 => tloV ps l k + (2000 * (gp ps k).len).tdiv ((rtU (sqAt l k) : Int) + rtU (sqAt l (k + 1)))
noncomputable def thiV (ps : List Bp) (l : List Int) : Nat → Int
  | 0 => 0
  | k + 1 => thiV ps l k + (2000 * (gp ps k).len + (rtL (sqAt l k) + rtL (sqAt l (k + 1))) - 1).tdiv (rtL (sqAt l k) + rtL (sqAt l (k + 1)))
set_option maxHeartbeats 400000 in
theorem floor2_any (a b : Int) (ha : 0 ≤ a) (ha' : a ≤ 20000000000) (hb : 1 ≤ b) (hb' : b ≤ 1000000) (w : World) :
    Calls Try.prog 30 #[.int .i64 a, .int .i64 b] w fun e w' => e = .returned (.int .i64 (a.tdiv b)) ∧ w = w' := by
  have hz : (b == 0) = false := by simp; omega
  have hq : (a.tdiv b).natAbs ≤ a.natAbs := Int.natAbs_tdiv_le_natAbs a b
  have hq1 : -9223372036854775807 ≤ a.tdiv b := by omega
  have hq2 : a.tdiv b ≤ 9223372036854775807 := by omega
  clear hq
  go_enter Try.func30, Try.ntmps30
  go_wp2
  go_ret
  exact ⟨rfl, rfl⟩
set_option maxHeartbeats 400000 in
theorem ceiling2_any (a b : Int) (ha : 0 ≤ a) (ha' : a ≤ 20000000000) (hb : 1 ≤ b) (hb' : b ≤ 1000000) (w : World) :
    Calls Try.prog 31 #[.int .i64 a, .int .i64 b] w fun e w' => e = .returned (.int .i64 ((a + b - 1).tdiv b)) ∧ w = w' := by
  have hz : (b == 0) = false := by simp; omega
  have hw1 := IntWalk.i64_in (a + b) (by omega)
  have hw2 := IntWalk.i64_in (a + b - 1) (by omega)
  have hq : ((a + b - 1).tdiv b).natAbs ≤ (a + b - 1).natAbs := Int.natAbs_tdiv_le_natAbs (a + b - 1) b
  have hq1 : -9223372036854775807 ≤ (a + b - 1).tdiv b := by omega
  have hq2 : (a + b - 1).tdiv b ≤ 9223372036854775807 := by omega
  clear hq
  go_enter Try.func31, Try.ntmps31
  go_wp2
  go_ret
  exact ⟨rfl, rfl⟩
theorem div_le {a b : Int} (ha : 0 ≤ a) (hb : 1 ≤ b) : 0 ≤ a.tdiv b ∧ a.tdiv b ≤ a := by
  rw [Int.tdiv_eq_ediv_of_nonneg ha]
  exact ⟨Int.ediv_nonneg ha (by omega), Int.ediv_le_self _ ha⟩
theorem tim_step {ps : List Bp} (hx : ∀ p ∈ ps, okP p = true) {l : List Int} (hl : ∀ k, 0 ≤ sqAt l k ∧ sqAt l k ≤ 20000000000) {k : Nat} (hz : zeroS l k = false) :
    (1 ≤ (rtU (sqAt l k) : Int) + rtU (sqAt l (k + 1)) ∧ (rtU (sqAt l k) : Int) + rtU (sqAt l (k + 1)) ≤ 282844) ∧ (1 ≤ rtL (sqAt l k) + rtL (sqAt l (k + 1)) ∧ rtL (sqAt l k) + rtL (sqAt l (k + 1)) ≤ 282844) := by
  have h1 := rt_bound (hl k)
  have h2 := rt_bound (hl (k + 1))
  have h3 : 1 ≤ sqAt l k ∨ 1 ≤ sqAt l (k + 1) := by
    unfold zeroS at hz
    have a := hl k
    have b := hl (k + 1)
    by_cases e : sqAt l k = 0
    · right
      rw [decide_eq_true e, Bool.true_and] at hz
      have := of_decide_eq_false hz
      omega
    · left; omega
  rcases h3 with h | h
  · have := rt_pos h; omega
  · have := rt_pos h; omega
theorem tim_bound {ps : List Bp} (hx : ∀ p ∈ ps, okP p = true) {l : List Int} (hl : ∀ k, 0 ≤ sqAt l k ∧ sqAt l k ≤ 20000000000) : ∀ k : Nat, (∀ j, j < k → zeroS l j = false) → (0 ≤ tloV ps l k ∧ tloV ps l k ≤ (k : Int) * 30000000000) ∧ (0 ≤ thiV ps l k ∧ thiV ps l k ≤ (k : Int) * 30000000000)
  | 0, _ => by simp [tloV, thiV]
  | k + 1, h => by
    have h1 := tim_bound hx hl k (fun j hj => h j (by omega))
    have h2 := tim_step hx hl (h k (by omega))
    have h3 := okP_iff.1 (gp_ok hx k)
    have h4 := div_le (a := 2000 * (gp ps k).len) (b := (rtU (sqAt l k) : Int) + rtU (sqAt l (k + 1))) (by omega) (by omega)
    have h5 := div_le (a := 2000 * (gp ps k).len + (rtL (sqAt l k) + rtL (sqAt l (k + 1))) - 1) (b := rtL (sqAt l k) + rtL (sqAt l (k + 1))) (by omega) (by omega)
    have e : ((k + 1 : Nat) : Int) * 30000000000 = (k : Int) * 30000000000 + 30000000000 := by push_cast; omega
    rw [tloV, thiV, e]
    omega

set_option maxHeartbeats 3200000 in
set_option maxRecDepth 100000 in
theorem TimeOf_bad (s : ByteArray) (hs : s.size ≤ maxLen) (ps : List Bp) (A : Option Addr) (c : Nat) (hl : ps.length ≤ 1000) (l : List Int) (B : Option Addr) (d : Nat) (hl2 : l.length ≤ maxLen) (er : Int) (he : nz ((trE s ps).2 :: [sqsE ps l]) = er) (hr : er ≠ 0) (w : World) (hA : Lies w w.heap.size A (ps.flatMap pc)) (hL : Lies w w.heap.size B (ic l)) :
    Calls Try.prog 16 #[.agg #[.string s, .slice A ps.length c], .slice B l.length d] w fun e w' => e = .returned (.tuple #[.agg #[.int .i64 0, .int .i64 0], .int .i64 er]) ∧ Below w.heap.size w w' := by
  have hlm : ps.length ≤ maxLen := by unfold maxLen; omega
  have F0 := Lib.hid (Fr.b2 w 24 #[.string s, .slice A ps.length c] 48 #[.int .i64 0, .int .i64 0])
  have HA := Lib.hid hA
  have HL := Lib.hid hL
  obtain ⟨se, hse⟩ : ∃ se, sqsE ps l = se := ⟨_, rfl⟩
  have HSE : Hid (∀ W, Lies W W.heap.size B (ic l) → Calls Try.prog 28 #[.agg #[.string s, .slice A ps.length c], .slice B l.length d] W fun e w' => e = .returned (.int .i64 (sqsE ps l)) ∧ Below W.heap.size W w') := Lib.hid (fun W h => errorOfSquares_any s ps A c hl l B d hl2 W h)
  have HS1 := Lib.hid hse
  rw [hse] at he
  have ge : (er != 0) = true := by simp [hr]
  have HCR : Hid (∀ (fa : Addr) (W : World), Lies W W.heap.size A (ps.flatMap pc) → Lies W W.heap.size (some fa) (ic [se]) → Calls Try.prog 19 #[.agg #[.string s, .slice A ps.length c], .slice (some fa) 1 1] W fun e w' => e = .returned (.tuple #[.agg #[.string ⟨#[]⟩, .slice none 0 0], .int .i64 er]) ∧ Below W.heap.size W w') := Lib.hid (fun fa W h1 h2 => check_bad s hs ps A c hlm [se] (some fa) 1 (by simp [maxLen]) er he hr W h1 h2)
  obtain ⟨LL, hLL⟩ : ∃ n, l.length = n := ⟨_, rfl⟩
  rw [hLL] at HSE ⊢
  clear hA hL hse he hr hLL hl2
  go_enter Try.func16, Try.ntmps16
  go_upto_region 1 with fail
  go_cut [6, 7] from 13 to 21 (fun pv rv W => ∃ g : Nat, pv = .pointer (some ⟨g, 0, none⟩) ∧ rv = .int .i64 er ∧ Fr w W ((g, 57, #[.string ⟨#[]⟩, .slice none 0 0]) :: [(w.heap.size + 1, 48, #[.int .i64 0, .int .i64 0]), (w.heap.size, 24, #[.string s, .slice A ps.length c])]))
  case first =>
    refine wp_abs ?_
    intro w5 h5
    have HALL : Hid (∀ W, Fr w W [(w.heap.size + 1, 48, #[.int .i64 0, .int .i64 0]), (w.heap.size, 24, #[.string s, .slice A ps.length c])] → Fr w W [(w.heap.size + 1, 48, #[.int .i64 0, .int .i64 0]), (w.heap.size, 24, #[.string s, .slice A ps.length c])] ∧ W.cell? ⟨w.heap.size, 0, none⟩ = some (.string s) ∧ W.cell? ⟨w.heap.size, 1, none⟩ = some (.slice A ps.length c)) := Lib.hid (fun W hW => ⟨hW, hW.at1.cell 0, hW.at1.cell 1⟩)
    have F10 : Fr w w5 [(w.heap.size + 1, 48, #[.int .i64 0, .int .i64 0]), (w.heap.size, 24, #[.string s, .slice A ps.length c])] := by subst h5; exact F0.out
    clear F0 h5
    refine Tw_start 11 (fun W => Fr w W [(w.heap.size + 1, 48, #[.int .i64 0, .int .i64 0]), (w.heap.size, 24, #[.string s, .slice A ps.length c])] ∧ W.cell? ⟨w.heap.size, 0, none⟩ = some (.string s) ∧ W.cell? ⟨w.heap.size, 1, none⟩ = some (.slice A ps.length c)) (by kernel_rfl) (by kernel_rfl) rfl ?_ ?_
    · (try dsimp only)
      ((go_split_ands; refine HALL.out _ ?_; (first | assumption | (repeat (first | assumption | refine Fr.new ?_ _ | refine Fr.drew ?_ | (refine Fr.set ?_ (by first | exact Nat.le_refl _ | omega | (simp; done) | (simp; omega)) (by first | (simp; done) | (simp; omega)) _))); done)))
    refine Tw_takeL (i := 0) (v := ?tv65) rfl (by kernel_rfl) (by decide) (by kernel_rfl) (by kernel_rfl) (fun _ _ _ h => h) (by rfl) ?ty65 ?tn65
    case ty65 => (intro w hSw; (try dsimp only at hSw); go_simp <;> with_reducible rfl)
    (try simp only [Act.put, List.setIfInBounds_toArray, List.set_cons_zero, List.set_cons_succ])
    refine Tw_takeL (i := 1) (v := ?tv66) rfl (by kernel_rfl) (by decide) (by kernel_rfl) (by kernel_rfl) (fun _ _ _ h => h) (by rfl) ?ty66 ?tn66
    case ty66 => (intro w hSw; (try dsimp only at hSw); go_simp <;> with_reducible rfl)
    (try simp only [Act.put, List.setIfInBounds_toArray, List.set_cons_zero, List.set_cons_succ])
    refine Tw_takeL (i := 2) (v := ?tv67) rfl (by kernel_rfl) (by decide) (by kernel_rfl) (by kernel_rfl) (fun _ _ _ h => h) (by rfl) ?ty67 ?tn67
    case ty67 => (intro w hSw; (try dsimp only at hSw); go_simp <;> with_reducible rfl)
    (try simp only [Act.put, List.setIfInBounds_toArray, List.set_cons_zero, List.set_cons_succ])
    refine Tw_all (rs := [3, 9]) (by kernel_rfl) (by simp) (by decide) (fun hHeld => ?_)
    refine AllT.consL rfl (fun K hK => ?_) (AllT.consL rfl (fun K hK => ?_) (AllT.nil))
    · go_simp
      (go_at_call 28; go_split_ands; (with_reducible refine (HSE.out _ (Fr.lies HL.out (by assumption))).mono ?_); rintro e w7 ⟨rfl, hb7⟩; rw [HS1.out]; have F4 := Fr.call (by assumption) hb7; (first | (have N1 := Lib.hid (Bk.call N1.out hb7)) | skip); (first | (have L1 := Lib.hid (Lies.call L1.out hb7)) | skip); clear hb7)
      refine hK.out _ _ ?_ ?_
      · (try dsimp only)
        ((go_split_ands; refine HALL.out _ ?_; (first | assumption | (repeat (first | assumption | refine Fr.new ?_ _ | refine Fr.drew ?_ | (refine Fr.set ?_ (by first | exact Nat.le_refl _ | omega | (simp; done) | (simp; omega)) (by first | (simp; done) | (simp; omega)) _))); done)))
      clear hK K
      (try simp only [Act.put, List.setIfInBounds_toArray, List.set_cons_zero, List.set_cons_succ])
      refine Tw_all (rs := [4, 9]) (by kernel_rfl) (by simp) (by decide) (fun hHeld => ?_)
      refine AllT.consL rfl (fun K hK => ?_) (AllT.consL rfl (fun K hK => ?_) (AllT.nil))
      · go_simp
        refine hK.out _ _ ?_ ?_
        · (try dsimp only)
          ((go_split_ands; refine HALL.out _ ?_; (first | assumption | (repeat (first | assumption | refine Fr.new ?_ _ | refine Fr.drew ?_ | (refine Fr.set ?_ (by first | exact Nat.le_refl _ | omega | (simp; done) | (simp; omega)) (by first | (simp; done) | (simp; omega)) _))); done)))
        clear hK K
        (try simp only [Act.put, List.setIfInBounds_toArray, List.set_cons_zero, List.set_cons_succ])
        refine Tw_abs ?_
        intro wA70 hA70
        (first | (have N1 := Lib.hid (Bk.over_alloc hA70 N1.out)) | (have N1 := Lib.hid (Bk.over_alloc_drew hA70 N1.out)) | skip)
        (first | (have L1 := Lib.hid (fs_alloc (l := [se]) hA70 (by simp [maxLen]))) | (have L1 := Lib.hid (fs_drew (l := [se]) hA70 (by simp [maxLen]))))
        clear hA70
        refine Tw_all (rs := [5, 9]) (by kernel_rfl) (by simp) (by decide) (fun hHeld => ?_)
        refine AllT.consL rfl (fun K hK => ?_) (AllT.consL rfl (fun K hK => ?_) (AllT.nil))
        · go_simp
          (go_at_call 19; go_split_ands; (refine (HCR.out _ _ (Fr.lies HA.out (by assumption)) L1.out).mono ?_); rintro e w7 ⟨rfl, hb7⟩; have F6 := Fr.call (by assumption) hb7; (first | (have N1 := Lib.hid (Bk.call N1.out hb7)) | skip); (first | (have L1 := Lib.hid (Lies.call L1.out hb7)) | skip); clear hb7)
          refine hK.out _ _ ?_ ?_
          · (try dsimp only)
            ((go_split_ands; refine HALL.out _ ?_; (first | assumption | (repeat (first | assumption | refine Fr.new ?_ _ | refine Fr.drew ?_ | (refine Fr.set ?_ (by first | exact Nat.le_refl _ | omega | (simp; done) | (simp; omega)) (by first | (simp; done) | (simp; omega)) _))); done)))
          clear hK K
          (try simp only [Act.put, List.setIfInBounds_toArray, List.set_cons_zero, List.set_cons_succ])
          refine Tw_takeL (i := 6) (v := ?tv68) rfl (by kernel_rfl) (by decide) (by kernel_rfl) (by kernel_rfl) (fun _ _ _ h => h) (by rfl) ?ty68 ?tn68
          case ty68 => (intro w hSw; (try dsimp only at hSw); go_simp <;> with_reducible rfl)
          (try simp only [Act.put, List.setIfInBounds_toArray, List.set_cons_zero, List.set_cons_succ])
          refine Tw_takeL (i := 7) (v := ?tv69) rfl (by kernel_rfl) (by decide) (by kernel_rfl) (by kernel_rfl) (fun _ _ _ h => h) (by rfl) ?ty69 ?tn69
          case ty69 => (intro w hSw; (try dsimp only at hSw); go_simp <;> with_reducible rfl)
          (try simp only [Act.put, List.setIfInBounds_toArray, List.set_cons_zero, List.set_cons_succ])
          refine Tw_takeL (i := 8) (v := ?tv70) rfl (by kernel_rfl) (by decide) (by kernel_rfl) (by kernel_rfl) (fun _ _ _ h => h) (by rfl) ?ty70 ?tn70
          case ty70 => (intro w hSw; (try dsimp only at hSw); go_simp <;> with_reducible rfl)
          (try simp only [Act.put, List.setIfInBounds_toArray, List.set_cons_zero, List.set_cons_succ])
          refine Tw_all (rs := [9]) (by kernel_rfl) (by simp) (by decide) (fun hHeld => ?_)
          refine AllT.consL rfl (fun K hK => ?_) (AllT.nil)
          · go_simp
            refine hK.out _ _ ?_ ?_
            · (try dsimp only)
              ((go_split_ands; refine HALL.out _ ?_; (first | assumption | (repeat (first | assumption | refine Fr.new ?_ _ | refine Fr.drew ?_ | (refine Fr.set ?_ (by first | exact Nat.le_refl _ | omega | (simp; done) | (simp; omega)) (by first | (simp; done) | (simp; omega)) _))); done)))
            clear hK K
            (try simp only [Act.put, List.setIfInBounds_toArray, List.set_cons_zero, List.set_cons_succ])
            refine Tw_abs ?_
            intro wA72 hA72
            (first | (have N1 := Lib.hid (Bk.of_alloc hA72)) | (have N1 := Lib.hid (Bk.of_alloc_drew hA72)))
            have zg := Lib.hid (show w.heap.size + 2 ≤ _ from hHeld.1.top.lt)
            (first | (have L1 := Lib.hid (Lies.alloc hA72 L1.out)) | (have L1 := Lib.hid (Lies.alloc_drew hA72 L1.out)) | skip)
            clear hA72
            refine Tw_all (rs := [10]) (by kernel_rfl) (by simp) (by decide) (fun hHeld => ?_)
            refine AllT.consL rfl (fun K hK => ?_) (AllT.nil)
            · have c0 := N1.out.cell 0
              have c1 := N1.out.cell 1
              have f0 := N1.out.frozen 0
              have f1 := N1.out.frozen 1
              have zN := N1.out.lt
              go_simp
              refine hK.out _ _ ?_ ?_
              · exact HALL.out _ (Fr.off2n (n := 2) hHeld.1 zg.out (by intro b hb; simp only [List.mem_cons, List.not_mem_nil, or_false] at hb; rcases hb with rfl | rfl <;> (dsimp only; omega)) _ _)
              clear hK K c0 c1 f0 f1 zN
              have N1 := Lib.hid (Bk.set2 N1.out (.string ⟨#[]⟩) (.slice none 0 0))
              (try simp only [Act.put, List.setIfInBounds_toArray, List.set_cons_zero, List.set_cons_succ])
              refine Tw_end (by kernel_rfl) (fun hh => ?_)
              obtain ⟨F11, _⟩ := hh
              clear HALL
              go_wp2_with fail
              go_meet
              exact ⟨_, rfl, rfl, F11.more N1.out⟩
        · go_simp
          refine hK.out _ _ ?_ ?_
          · (try dsimp only)
            ((go_split_ands; refine HALL.out _ ?_; (first | assumption | (repeat (first | assumption | refine Fr.new ?_ _ | refine Fr.drew ?_ | (refine Fr.set ?_ (by first | exact Nat.le_refl _ | omega | (simp; done) | (simp; omega)) (by first | (simp; done) | (simp; omega)) _))); done)))
          clear hK K
          (try simp only [Act.put, List.setIfInBounds_toArray, List.set_cons_zero, List.set_cons_succ])
          refine Tw_abs ?_
          intro wA74 hA74
          (first | (have N1 := Lib.hid (Bk.of_alloc hA74)) | (have N1 := Lib.hid (Bk.of_alloc_drew hA74)))
          have zg := Lib.hid (show w.heap.size + 2 ≤ _ from hHeld.1.top.lt)
          (first | (have L1 := Lib.hid (Lies.alloc hA74 L1.out)) | (have L1 := Lib.hid (Lies.alloc_drew hA74 L1.out)) | skip)
          clear hA74
          refine Tw_all (rs := [5]) (by kernel_rfl) (by simp) (by decide) (fun hHeld => ?_)
          refine AllT.consL rfl (fun K hK => ?_) (AllT.nil)
          · go_simp
            (go_at_call 19; go_split_ands; (refine (HCR.out _ _ (Fr.lies HA.out (by assumption)) L1.out).mono ?_); rintro e w7 ⟨rfl, hb7⟩; have F6 := Fr.call (by assumption) hb7; (first | (have N1 := Lib.hid (Bk.call N1.out hb7)) | skip); (first | (have L1 := Lib.hid (Lies.call L1.out hb7)) | skip); clear hb7)
            refine hK.out _ _ ?_ ?_
            · (try dsimp only)
              ((go_split_ands; refine HALL.out _ ?_; (first | assumption | (repeat (first | assumption | refine Fr.new ?_ _ | refine Fr.drew ?_ | (refine Fr.set ?_ (by first | exact Nat.le_refl _ | omega | (simp; done) | (simp; omega)) (by first | (simp; done) | (simp; omega)) _))); done)))
            clear hK K
            (try simp only [Act.put, List.setIfInBounds_toArray, List.set_cons_zero, List.set_cons_succ])
            refine Tw_takeL (i := 6) (v := ?tv71) rfl (by kernel_rfl) (by decide) (by kernel_rfl) (by kernel_rfl) (fun _ _ _ h => h) (by rfl) ?ty71 ?tn71
            case ty71 => (intro w hSw; (try dsimp only at hSw); go_simp <;> with_reducible rfl)
            (try simp only [Act.put, List.setIfInBounds_toArray, List.set_cons_zero, List.set_cons_succ])
            refine Tw_takeL (i := 7) (v := ?tv72) rfl (by kernel_rfl) (by decide) (by kernel_rfl) (by kernel_rfl) (fun _ _ _ h => h) (by rfl) ?ty72 ?tn72
            case ty72 => (intro w hSw; (try dsimp only at hSw); go_simp <;> with_reducible rfl)
            (try simp only [Act.put, List.setIfInBounds_toArray, List.set_cons_zero, List.set_cons_succ])
            refine Tw_takeL (i := 8) (v := ?tv73) rfl (by kernel_rfl) (by decide) (by kernel_rfl) (by kernel_rfl) (fun _ _ _ h => h) (by rfl) ?ty73 ?tn73
            case ty73 => (intro w hSw; (try dsimp only at hSw); go_simp <;> with_reducible rfl)
            (try simp only [Act.put, List.setIfInBounds_toArray, List.set_cons_zero, List.set_cons_succ])
            refine Tw_all (rs := [10]) (by kernel_rfl) (by simp) (by decide) (fun hHeld => ?_)
            refine AllT.consL rfl (fun K hK => ?_) (AllT.nil)
            · have c0 := N1.out.cell 0
              have c1 := N1.out.cell 1
              have f0 := N1.out.frozen 0
              have f1 := N1.out.frozen 1
              have zN := N1.out.lt
              go_simp
              refine hK.out _ _ ?_ ?_
              · exact HALL.out _ (Fr.off2n (n := 2) hHeld.1 zg.out (by intro b hb; simp only [List.mem_cons, List.not_mem_nil, or_false] at hb; rcases hb with rfl | rfl <;> (dsimp only; omega)) _ _)
              clear hK K c0 c1 f0 f1 zN
              have N1 := Lib.hid (Bk.set2 N1.out (.string ⟨#[]⟩) (.slice none 0 0))
              (try simp only [Act.put, List.setIfInBounds_toArray, List.set_cons_zero, List.set_cons_succ])
              refine Tw_end (by kernel_rfl) (fun hh => ?_)
              obtain ⟨F11, _⟩ := hh
              clear HALL
              go_wp2_with fail
              go_meet
              exact ⟨_, rfl, rfl, F11.more N1.out⟩
      · go_simp
        refine hK.out _ _ ?_ ?_
        · (try dsimp only)
          ((go_split_ands; refine HALL.out _ ?_; (first | assumption | (repeat (first | assumption | refine Fr.new ?_ _ | refine Fr.drew ?_ | (refine Fr.set ?_ (by first | exact Nat.le_refl _ | omega | (simp; done) | (simp; omega)) (by first | (simp; done) | (simp; omega)) _))); done)))
        clear hK K
        (try simp only [Act.put, List.setIfInBounds_toArray, List.set_cons_zero, List.set_cons_succ])
        refine Tw_abs ?_
        intro wA77 hA77
        (first | (have N1 := Lib.hid (Bk.of_alloc hA77)) | (have N1 := Lib.hid (Bk.of_alloc_drew hA77)))
        have zg := Lib.hid (show w.heap.size + 2 ≤ _ from hHeld.1.top.lt)
        (first | (have L1 := Lib.hid (Lies.alloc hA77 L1.out)) | (have L1 := Lib.hid (Lies.alloc_drew hA77 L1.out)) | skip)
        clear hA77
        refine Tw_all (rs := [4]) (by kernel_rfl) (by simp) (by decide) (fun hHeld => ?_)
        refine AllT.consL rfl (fun K hK => ?_) (AllT.nil)
        · go_simp
          refine hK.out _ _ ?_ ?_
          · (try dsimp only)
            ((go_split_ands; refine HALL.out _ ?_; (first | assumption | (repeat (first | assumption | refine Fr.new ?_ _ | refine Fr.drew ?_ | (refine Fr.set ?_ (by first | exact Nat.le_refl _ | omega | (simp; done) | (simp; omega)) (by first | (simp; done) | (simp; omega)) _))); done)))
          clear hK K
          (try simp only [Act.put, List.setIfInBounds_toArray, List.set_cons_zero, List.set_cons_succ])
          refine Tw_abs ?_
          intro wA78 hA78
          (first | (have N1 := Lib.hid (Bk.over_alloc hA78 N1.out)) | (have N1 := Lib.hid (Bk.over_alloc_drew hA78 N1.out)) | skip)
          (first | (have L1 := Lib.hid (fs_alloc (l := [se]) hA78 (by simp [maxLen]))) | (have L1 := Lib.hid (fs_drew (l := [se]) hA78 (by simp [maxLen]))))
          clear hA78
          refine Tw_all (rs := [5]) (by kernel_rfl) (by simp) (by decide) (fun hHeld => ?_)
          refine AllT.consL rfl (fun K hK => ?_) (AllT.nil)
          · go_simp
            (go_at_call 19; go_split_ands; (refine (HCR.out _ _ (Fr.lies HA.out (by assumption)) L1.out).mono ?_); rintro e w7 ⟨rfl, hb7⟩; have F6 := Fr.call (by assumption) hb7; (first | (have N1 := Lib.hid (Bk.call N1.out hb7)) | skip); (first | (have L1 := Lib.hid (Lies.call L1.out hb7)) | skip); clear hb7)
            refine hK.out _ _ ?_ ?_
            · (try dsimp only)
              ((go_split_ands; refine HALL.out _ ?_; (first | assumption | (repeat (first | assumption | refine Fr.new ?_ _ | refine Fr.drew ?_ | (refine Fr.set ?_ (by first | exact Nat.le_refl _ | omega | (simp; done) | (simp; omega)) (by first | (simp; done) | (simp; omega)) _))); done)))
            clear hK K
            (try simp only [Act.put, List.setIfInBounds_toArray, List.set_cons_zero, List.set_cons_succ])
            refine Tw_takeL (i := 6) (v := ?tv74) rfl (by kernel_rfl) (by decide) (by kernel_rfl) (by kernel_rfl) (fun _ _ _ h => h) (by rfl) ?ty74 ?tn74
            case ty74 => (intro w hSw; (try dsimp only at hSw); go_simp <;> with_reducible rfl)
            (try simp only [Act.put, List.setIfInBounds_toArray, List.set_cons_zero, List.set_cons_succ])
            refine Tw_takeL (i := 7) (v := ?tv75) rfl (by kernel_rfl) (by decide) (by kernel_rfl) (by kernel_rfl) (fun _ _ _ h => h) (by rfl) ?ty75 ?tn75
            case ty75 => (intro w hSw; (try dsimp only at hSw); go_simp <;> with_reducible rfl)
            (try simp only [Act.put, List.setIfInBounds_toArray, List.set_cons_zero, List.set_cons_succ])
            refine Tw_takeL (i := 8) (v := ?tv76) rfl (by kernel_rfl) (by decide) (by kernel_rfl) (by kernel_rfl) (fun _ _ _ h => h) (by rfl) ?ty76 ?tn76
            case ty76 => (intro w hSw; (try dsimp only at hSw); go_simp <;> with_reducible rfl)
            (try simp only [Act.put, List.setIfInBounds_toArray, List.set_cons_zero, List.set_cons_succ])
            refine Tw_all (rs := [10]) (by kernel_rfl) (by simp) (by decide) (fun hHeld => ?_)
            refine AllT.consL rfl (fun K hK => ?_) (AllT.nil)
            · have c0 := N1.out.cell 0
              have c1 := N1.out.cell 1
              have f0 := N1.out.frozen 0
              have f1 := N1.out.frozen 1
              have zN := N1.out.lt
              go_simp
              refine hK.out _ _ ?_ ?_
              · exact HALL.out _ (Fr.off2n (n := 2) hHeld.1 zg.out (by intro b hb; simp only [List.mem_cons, List.not_mem_nil, or_false] at hb; rcases hb with rfl | rfl <;> (dsimp only; omega)) _ _)
              clear hK K c0 c1 f0 f1 zN
              have N1 := Lib.hid (Bk.set2 N1.out (.string ⟨#[]⟩) (.slice none 0 0))
              (try simp only [Act.put, List.setIfInBounds_toArray, List.set_cons_zero, List.set_cons_succ])
              refine Tw_end (by kernel_rfl) (fun hh => ?_)
              obtain ⟨F11, _⟩ := hh
              clear HALL
              go_wp2_with fail
              go_meet
              exact ⟨_, rfl, rfl, F11.more N1.out⟩
    · go_simp
      refine hK.out _ _ ?_ ?_
      · (try dsimp only)
        ((go_split_ands; refine HALL.out _ ?_; (first | assumption | (repeat (first | assumption | refine Fr.new ?_ _ | refine Fr.drew ?_ | (refine Fr.set ?_ (by first | exact Nat.le_refl _ | omega | (simp; done) | (simp; omega)) (by first | (simp; done) | (simp; omega)) _))); done)))
      clear hK K
      (try simp only [Act.put, List.setIfInBounds_toArray, List.set_cons_zero, List.set_cons_succ])
      refine Tw_abs ?_
      intro wA81 hA81
      (first | (have N1 := Lib.hid (Bk.of_alloc hA81)) | (have N1 := Lib.hid (Bk.of_alloc_drew hA81)))
      have zg := Lib.hid (show w.heap.size + 2 ≤ _ from hHeld.1.top.lt)
      (first | (have L1 := Lib.hid (Lies.alloc hA81 L1.out)) | (have L1 := Lib.hid (Lies.alloc_drew hA81 L1.out)) | skip)
      clear hA81
      refine Tw_all (rs := [3]) (by kernel_rfl) (by simp) (by decide) (fun hHeld => ?_)
      refine AllT.consL rfl (fun K hK => ?_) (AllT.nil)
      · go_simp
        (go_at_call 28; go_split_ands; (with_reducible refine (HSE.out _ (Fr.lies HL.out (by assumption))).mono ?_); rintro e w7 ⟨rfl, hb7⟩; rw [HS1.out]; have F4 := Fr.call (by assumption) hb7; (first | (have N1 := Lib.hid (Bk.call N1.out hb7)) | skip); (first | (have L1 := Lib.hid (Lies.call L1.out hb7)) | skip); clear hb7)
        refine hK.out _ _ ?_ ?_
        · (try dsimp only)
          ((go_split_ands; refine HALL.out _ ?_; (first | assumption | (repeat (first | assumption | refine Fr.new ?_ _ | refine Fr.drew ?_ | (refine Fr.set ?_ (by first | exact Nat.le_refl _ | omega | (simp; done) | (simp; omega)) (by first | (simp; done) | (simp; omega)) _))); done)))
        clear hK K
        (try simp only [Act.put, List.setIfInBounds_toArray, List.set_cons_zero, List.set_cons_succ])
        refine Tw_all (rs := [4]) (by kernel_rfl) (by simp) (by decide) (fun hHeld => ?_)
        refine AllT.consL rfl (fun K hK => ?_) (AllT.nil)
        · go_simp
          refine hK.out _ _ ?_ ?_
          · (try dsimp only)
            ((go_split_ands; refine HALL.out _ ?_; (first | assumption | (repeat (first | assumption | refine Fr.new ?_ _ | refine Fr.drew ?_ | (refine Fr.set ?_ (by first | exact Nat.le_refl _ | omega | (simp; done) | (simp; omega)) (by first | (simp; done) | (simp; omega)) _))); done)))
          clear hK K
          (try simp only [Act.put, List.setIfInBounds_toArray, List.set_cons_zero, List.set_cons_succ])
          refine Tw_abs ?_
          intro wA83 hA83
          (first | (have N1 := Lib.hid (Bk.over_alloc hA83 N1.out)) | (have N1 := Lib.hid (Bk.over_alloc_drew hA83 N1.out)) | skip)
          (first | (have L1 := Lib.hid (fs_alloc (l := [se]) hA83 (by simp [maxLen]))) | (have L1 := Lib.hid (fs_drew (l := [se]) hA83 (by simp [maxLen]))))
          clear hA83
          refine Tw_all (rs := [5]) (by kernel_rfl) (by simp) (by decide) (fun hHeld => ?_)
          refine AllT.consL rfl (fun K hK => ?_) (AllT.nil)
          · go_simp
            (go_at_call 19; go_split_ands; (refine (HCR.out _ _ (Fr.lies HA.out (by assumption)) L1.out).mono ?_); rintro e w7 ⟨rfl, hb7⟩; have F6 := Fr.call (by assumption) hb7; (first | (have N1 := Lib.hid (Bk.call N1.out hb7)) | skip); (first | (have L1 := Lib.hid (Lies.call L1.out hb7)) | skip); clear hb7)
            refine hK.out _ _ ?_ ?_
            · (try dsimp only)
              ((go_split_ands; refine HALL.out _ ?_; (first | assumption | (repeat (first | assumption | refine Fr.new ?_ _ | refine Fr.drew ?_ | (refine Fr.set ?_ (by first | exact Nat.le_refl _ | omega | (simp; done) | (simp; omega)) (by first | (simp; done) | (simp; omega)) _))); done)))
            clear hK K
            (try simp only [Act.put, List.setIfInBounds_toArray, List.set_cons_zero, List.set_cons_succ])
            refine Tw_takeL (i := 6) (v := ?tv77) rfl (by kernel_rfl) (by decide) (by kernel_rfl) (by kernel_rfl) (fun _ _ _ h => h) (by rfl) ?ty77 ?tn77
            case ty77 => (intro w hSw; (try dsimp only at hSw); go_simp <;> with_reducible rfl)
            (try simp only [Act.put, List.setIfInBounds_toArray, List.set_cons_zero, List.set_cons_succ])
            refine Tw_takeL (i := 7) (v := ?tv78) rfl (by kernel_rfl) (by decide) (by kernel_rfl) (by kernel_rfl) (fun _ _ _ h => h) (by rfl) ?ty78 ?tn78
            case ty78 => (intro w hSw; (try dsimp only at hSw); go_simp <;> with_reducible rfl)
            (try simp only [Act.put, List.setIfInBounds_toArray, List.set_cons_zero, List.set_cons_succ])
            refine Tw_takeL (i := 8) (v := ?tv79) rfl (by kernel_rfl) (by decide) (by kernel_rfl) (by kernel_rfl) (fun _ _ _ h => h) (by rfl) ?ty79 ?tn79
            case ty79 => (intro w hSw; (try dsimp only at hSw); go_simp <;> with_reducible rfl)
            (try simp only [Act.put, List.setIfInBounds_toArray, List.set_cons_zero, List.set_cons_succ])
            refine Tw_all (rs := [10]) (by kernel_rfl) (by simp) (by decide) (fun hHeld => ?_)
            refine AllT.consL rfl (fun K hK => ?_) (AllT.nil)
            · have c0 := N1.out.cell 0
              have c1 := N1.out.cell 1
              have f0 := N1.out.frozen 0
              have f1 := N1.out.frozen 1
              have zN := N1.out.lt
              go_simp
              refine hK.out _ _ ?_ ?_
              · exact HALL.out _ (Fr.off2n (n := 2) hHeld.1 zg.out (by intro b hb; simp only [List.mem_cons, List.not_mem_nil, or_false] at hb; rcases hb with rfl | rfl <;> (dsimp only; omega)) _ _)
              clear hK K c0 c1 f0 f1 zN
              have N1 := Lib.hid (Bk.set2 N1.out (.string ⟨#[]⟩) (.slice none 0 0))
              (try simp only [Act.put, List.setIfInBounds_toArray, List.set_cons_zero, List.set_cons_succ])
              refine Tw_end (by kernel_rfl) (fun hh => ?_)
              obtain ⟨F11, _⟩ := hh
              clear HALL
              go_wp2_with fail
              go_meet
              exact ⟨_, rfl, rfl, F11.more N1.out⟩
  case rest =>
    obtain ⟨wx, rfl⟩ : ∃ W, W = wc := ⟨_, rfl⟩
    obtain ⟨g, rfl, rfl, hx⟩ := hcut
    have FC := Lib.hid hx
    clear hx F0
    have d0 := (FC.out.get 1 rfl).cell 0
    have d1 := (FC.out.get 1 rfl).cell 1
    have f0 := (FC.out.get 1 rfl).frozen 0
    have f1 := (FC.out.get 1 rfl).frozen 1
    have zN := (FC.out.get 1 rfl).lt
    go_wp2_with fail
    exact bodyPost_ret (v := .tuple #[.agg #[.int .i64 0, .int .i64 0], .int .i64 er]) (by simp [results, Try.results16, go_sem, d0, d1]) rfl ⟨rfl, ((FC.out.bl.setCell (p := ⟨w.heap.size + 1, 0, none⟩) (by show w.heap.size ≤ w.heap.size + 1; omega) _).setCell (p := ⟨w.heap.size + 1, 1, none⟩) (by show w.heap.size ≤ w.heap.size + 1; omega) _)⟩

theorem two_boxes {w W : World} {gA gB : Nat} {t : TypeId} {x y u v : Value} (h : Fr w W []) (hA : Bk W gA t #[x, y]) (hB : Bk W gB t #[u, v]) (zA : w.heap.size ≤ gA) (zB : w.heap.size ≤ gB) (hne : gA ≠ gB) (x0 x1 y0 y1 : Value) :
    Fr w ((((W.setCell ⟨gA, 0, none⟩ x0).setCell ⟨gA, 1, none⟩ x1).setCell ⟨gB, 0, none⟩ y0).setCell ⟨gB, 1, none⟩ y1) [(gB, t, #[y0, y1]), (gA, t, #[x0, x1])] := by
  have h1 : Fr w ((W.setCell ⟨gA, 0, none⟩ x0).setCell ⟨gA, 1, none⟩ x1) [(gA, t, #[x0, x1]), (gB, t, #[u, v])] :=
    ((h.more hB).more hA).put2a zA (by simp only [List.mem_cons, List.not_mem_nil, or_false]; rintro b rfl; exact fun e => hne e.symm) x0 x1
  exact h1.swap.put2a zB (by simp only [List.mem_cons, List.not_mem_nil, or_false]; rintro b rfl; exact hne) y0 y1
theorem Fr.drop3 {w W : World} {b0 b1 b2 b3 : Nat × TypeId × Array Value} {bs : List (Nat × TypeId × Array Value)} (h : Fr w W (b0 :: b1 :: b2 :: b3 :: bs)) : Fr w W (b0 :: bs) := h.tail.tail.tail.tail.more h.top
theorem zero_iff {l : List Int} {k : Nat} : zeroS l k = true ↔ sqAt l k = 0 ∧ sqAt l (k + 1) = 0 := by unfold zeroS; simp

set_option maxHeartbeats 3200000 in
set_option maxRecDepth 100000 in
theorem TimeOf_ok (s : ByteArray) (hs : s.size ≤ maxLen) (ps : List Bp) (a : Addr) (c : Nat) (hl : ps.length ≤ 1000) (l : List Int) (B : Option Addr) (d : Nat) (hl2 : l.length ≤ maxLen) (hok : OkT s ps) (h2 : sqsE ps l = 0) (hmiss : ∀ j, j < ps.length → zeroS l j = false) (w : World) (hA : Lies w w.heap.size (some a) (ps.flatMap pc)) (hL : Lies w w.heap.size B (ic l)) :
    Calls Try.prog 16 #[.agg #[.string s, .slice (some a) ps.length c], .slice B l.length d] w fun e w' => e = .returned (.tuple #[.agg #[.int .i64 (tloV ps l ps.length), .int .i64 (thiV ps l ps.length)], .int .i64 0]) ∧ Below w.heap.size w w' := by
  have HMISS := Lib.hid hmiss
  clear hmiss
  have hlm : ps.length ≤ maxLen := by unfold maxLen; omega
  have F0 := Lib.hid (Fr.b2 w 24 #[.string s, .slice (some a) ps.length c] 48 #[.int .i64 0, .int .i64 0])
  have HA := Lib.hid hA
  have HL := Lib.hid hL
  obtain ⟨se, hse⟩ : ∃ se, sqsE ps l = se := ⟨_, rfl⟩
  have HSE : Hid (∀ W, Lies W W.heap.size B (ic l) → Calls Try.prog 28 #[.agg #[.string s, .slice (some a) ps.length c], .slice B l.length d] W fun e w' => e = .returned (.int .i64 (sqsE ps l)) ∧ Below W.heap.size W w') := Lib.hid (fun W h => errorOfSquares_any s ps (some a) c hl l B d hl2 W h)
  have HS1 := Lib.hid hse
  have HN : nz ((trE s ps).2 :: [se]) = 0 := by rw [trE_ok hok, ← hse, h2]; rfl
  have HCR : Hid (∀ (fa : Addr) (W : World), Lies W W.heap.size (some a) (ps.flatMap pc) → Lies W W.heap.size (some fa) (ic [se]) → Calls Try.prog 19 #[.agg #[.string s, .slice (some a) ps.length c], .slice (some fa) 1 1] W fun e w' => e = .returned (.tuple #[.agg #[.string s, .slice (some a) ps.length c], .int .i64 0]) ∧ Below W.heap.size W w') := Lib.hid (fun fa W h1 h2 => check_ok s hs ps (some a) c hlm [se] (some fa) 1 (by simp [maxLen]) HN W h1 h2)
  have HOK := Lib.hid hok
  have hln : l.length = ps.length + 1 := Decidable.by_contra fun h => by unfold sqsE at h2; rw [if_pos h] at h2; cases h2
  have HQ : Hid (∀ k, 0 ≤ sqAt l k ∧ sqAt l k ≤ 20000000000) := Lib.hid (by unfold sqsE at h2; rw [if_neg (by simpa using hln)] at h2; exact sqAt_in h2)
  have h12 := hok.n12
  have hl12 : (ps.length : Int) ≤ 12 := by omega
  have HLE : Hid (∀ k, k ≤ ps.length → ∀ W, Fr w W [] → ∃ a2, B = some a2 ∧ a2.block < w.heap.size ∧ W.cell? (a2.add k) = some (.int .i64 (sqAt l k))) := Lib.hid (fun k hk W hW => by
    obtain ⟨a2, e, h1, _⟩ := hL.num (sqAt_get (k := k) (by omega))
    obtain ⟨a3, e3, _, h3⟩ := (Fr.lies hL hW).num (sqAt_get (k := k) (by omega))
    rw [e] at e3
    injection e3 with e3
    subst e3
    exact ⟨a2, e, h1, h3⟩)
  obtain ⟨a2, ea2, _, _⟩ := HLE.out 0 (Nat.zero_le _) w (Fr.nil w)
  subst ea2
  have HLC : Hid (∀ k, k ≤ ps.length → ∀ W, Fr w W [] → W.cell? (a2.add k) = some (.int .i64 (sqAt l k))) := Lib.hid (fun k hk W hW => by
    obtain ⟨a3, e3, _, h3⟩ := HLE.out k hk W hW
    injection e3 with e3
    subst e3
    exact h3)
  rw [hln] at HSE ⊢
  obtain ⟨N, hN⟩ : ∃ N, N = ps.length + 1 := ⟨_, rfl⟩
  rw [← hN] at HSE ⊢
  have HNN := Lib.hid hN
  clear hN hA hL hse hok h2 hln hl2 HLE HN
  go_enter Try.func16, Try.ntmps16
  go_upto_region 1 with fail
  go_cut [6, 7] from 13 to 21 (fun pv rv W => ∃ g : Nat, pv = .pointer (some ⟨g, 0, none⟩) ∧ rv = .int .i64 0 ∧ Fr w W ((g, 57, #[.string s, .slice (some a) ps.length c]) :: [(w.heap.size + 1, 48, #[.int .i64 0, .int .i64 0]), (w.heap.size, 24, #[.string s, .slice (some a) ps.length c])]))
  case first =>
    refine wp_abs ?_
    intro w5 h5
    have HALL : Hid (∀ W, Fr w W [(w.heap.size + 1, 48, #[.int .i64 0, .int .i64 0]), (w.heap.size, 24, #[.string s, .slice (some a) ps.length c])] → Fr w W [(w.heap.size + 1, 48, #[.int .i64 0, .int .i64 0]), (w.heap.size, 24, #[.string s, .slice (some a) ps.length c])] ∧ W.cell? ⟨w.heap.size, 0, none⟩ = some (.string s) ∧ W.cell? ⟨w.heap.size, 1, none⟩ = some (.slice (some a) ps.length c)) := Lib.hid (fun W hW => ⟨hW, hW.at1.cell 0, hW.at1.cell 1⟩)
    have F10 : Fr w w5 [(w.heap.size + 1, 48, #[.int .i64 0, .int .i64 0]), (w.heap.size, 24, #[.string s, .slice (some a) ps.length c])] := by subst h5; exact F0.out
    clear F0 h5
    refine Tw_start 11 (fun W => Fr w W [(w.heap.size + 1, 48, #[.int .i64 0, .int .i64 0]), (w.heap.size, 24, #[.string s, .slice (some a) ps.length c])] ∧ W.cell? ⟨w.heap.size, 0, none⟩ = some (.string s) ∧ W.cell? ⟨w.heap.size, 1, none⟩ = some (.slice (some a) ps.length c)) (by kernel_rfl) (by kernel_rfl) rfl ?_ ?_
    · (try dsimp only)
      ((go_split_ands; refine HALL.out _ ?_; (first | assumption | (repeat (first | assumption | refine Fr.new ?_ _ | refine Fr.drew ?_ | (refine Fr.set ?_ (by first | exact Nat.le_refl _ | omega | (simp; done) | (simp; omega)) (by first | (simp; done) | (simp; omega)) _))); done)))
    refine Tw_takeL (i := 0) (v := ?tv80) rfl (by kernel_rfl) (by decide) (by kernel_rfl) (by kernel_rfl) (fun _ _ _ h => h) (by rfl) ?ty80 ?tn80
    case ty80 => (intro w hSw; (try dsimp only at hSw); go_simp <;> with_reducible rfl)
    (try simp only [Act.put, List.setIfInBounds_toArray, List.set_cons_zero, List.set_cons_succ])
    refine Tw_takeL (i := 1) (v := ?tv81) rfl (by kernel_rfl) (by decide) (by kernel_rfl) (by kernel_rfl) (fun _ _ _ h => h) (by rfl) ?ty81 ?tn81
    case ty81 => (intro w hSw; (try dsimp only at hSw); go_simp <;> with_reducible rfl)
    (try simp only [Act.put, List.setIfInBounds_toArray, List.set_cons_zero, List.set_cons_succ])
    refine Tw_takeL (i := 2) (v := ?tv82) rfl (by kernel_rfl) (by decide) (by kernel_rfl) (by kernel_rfl) (fun _ _ _ h => h) (by rfl) ?ty82 ?tn82
    case ty82 => (intro w hSw; (try dsimp only at hSw); go_simp <;> with_reducible rfl)
    (try simp only [Act.put, List.setIfInBounds_toArray, List.set_cons_zero, List.set_cons_succ])
    refine Tw_all (rs := [3, 9]) (by kernel_rfl) (by simp) (by decide) (fun hHeld => ?_)
    refine AllT.consL rfl (fun K hK => ?_) (AllT.consL rfl (fun K hK => ?_) (AllT.nil))
    · go_simp
      (go_at_call 28; go_split_ands; (with_reducible refine (HSE.out _ (Fr.lies HL.out (by assumption))).mono ?_); rintro e w7 ⟨rfl, hb7⟩; rw [HS1.out]; have F4 := Fr.call (by assumption) hb7; (first | (have N1 := Lib.hid (Bk.call N1.out hb7)) | skip); (first | (have L1 := Lib.hid (Lies.call L1.out hb7)) | skip); clear hb7)
      refine hK.out _ _ ?_ ?_
      · (try dsimp only)
        ((go_split_ands; refine HALL.out _ ?_; (first | assumption | (repeat (first | assumption | refine Fr.new ?_ _ | refine Fr.drew ?_ | (refine Fr.set ?_ (by first | exact Nat.le_refl _ | omega | (simp; done) | (simp; omega)) (by first | (simp; done) | (simp; omega)) _))); done)))
      clear hK K
      (try simp only [Act.put, List.setIfInBounds_toArray, List.set_cons_zero, List.set_cons_succ])
      refine Tw_all (rs := [4, 9]) (by kernel_rfl) (by simp) (by decide) (fun hHeld => ?_)
      refine AllT.consL rfl (fun K hK => ?_) (AllT.consL rfl (fun K hK => ?_) (AllT.nil))
      · go_simp
        refine hK.out _ _ ?_ ?_
        · (try dsimp only)
          ((go_split_ands; refine HALL.out _ ?_; (first | assumption | (repeat (first | assumption | refine Fr.new ?_ _ | refine Fr.drew ?_ | (refine Fr.set ?_ (by first | exact Nat.le_refl _ | omega | (simp; done) | (simp; omega)) (by first | (simp; done) | (simp; omega)) _))); done)))
        clear hK K
        (try simp only [Act.put, List.setIfInBounds_toArray, List.set_cons_zero, List.set_cons_succ])
        refine Tw_abs ?_
        intro wA87 hA87
        (first | (have N1 := Lib.hid (Bk.over_alloc hA87 N1.out)) | (have N1 := Lib.hid (Bk.over_alloc_drew hA87 N1.out)) | skip)
        (first | (have L1 := Lib.hid (fs_alloc (l := [se]) hA87 (by simp [maxLen]))) | (have L1 := Lib.hid (fs_drew (l := [se]) hA87 (by simp [maxLen]))))
        clear hA87
        refine Tw_all (rs := [5, 9]) (by kernel_rfl) (by simp) (by decide) (fun hHeld => ?_)
        refine AllT.consL rfl (fun K hK => ?_) (AllT.consL rfl (fun K hK => ?_) (AllT.nil))
        · go_simp
          (go_at_call 19; go_split_ands; (refine (HCR.out _ _ (Fr.lies HA.out (by assumption)) L1.out).mono ?_); rintro e w7 ⟨rfl, hb7⟩; have F6 := Fr.call (by assumption) hb7; (first | (have N1 := Lib.hid (Bk.call N1.out hb7)) | skip); (first | (have L1 := Lib.hid (Lies.call L1.out hb7)) | skip); clear hb7)
          refine hK.out _ _ ?_ ?_
          · (try dsimp only)
            ((go_split_ands; refine HALL.out _ ?_; (first | assumption | (repeat (first | assumption | refine Fr.new ?_ _ | refine Fr.drew ?_ | (refine Fr.set ?_ (by first | exact Nat.le_refl _ | omega | (simp; done) | (simp; omega)) (by first | (simp; done) | (simp; omega)) _))); done)))
          clear hK K
          (try simp only [Act.put, List.setIfInBounds_toArray, List.set_cons_zero, List.set_cons_succ])
          refine Tw_takeL (i := 6) (v := ?tv83) rfl (by kernel_rfl) (by decide) (by kernel_rfl) (by kernel_rfl) (fun _ _ _ h => h) (by rfl) ?ty83 ?tn83
          case ty83 => (intro w hSw; (try dsimp only at hSw); go_simp <;> with_reducible rfl)
          (try simp only [Act.put, List.setIfInBounds_toArray, List.set_cons_zero, List.set_cons_succ])
          refine Tw_takeL (i := 7) (v := ?tv84) rfl (by kernel_rfl) (by decide) (by kernel_rfl) (by kernel_rfl) (fun _ _ _ h => h) (by rfl) ?ty84 ?tn84
          case ty84 => (intro w hSw; (try dsimp only at hSw); go_simp <;> with_reducible rfl)
          (try simp only [Act.put, List.setIfInBounds_toArray, List.set_cons_zero, List.set_cons_succ])
          refine Tw_takeL (i := 8) (v := ?tv85) rfl (by kernel_rfl) (by decide) (by kernel_rfl) (by kernel_rfl) (fun _ _ _ h => h) (by rfl) ?ty85 ?tn85
          case ty85 => (intro w hSw; (try dsimp only at hSw); go_simp <;> with_reducible rfl)
          (try simp only [Act.put, List.setIfInBounds_toArray, List.set_cons_zero, List.set_cons_succ])
          refine Tw_all (rs := [9]) (by kernel_rfl) (by simp) (by decide) (fun hHeld => ?_)
          refine AllT.consL rfl (fun K hK => ?_) (AllT.nil)
          · go_simp
            refine hK.out _ _ ?_ ?_
            · (try dsimp only)
              ((go_split_ands; refine HALL.out _ ?_; (first | assumption | (repeat (first | assumption | refine Fr.new ?_ _ | refine Fr.drew ?_ | (refine Fr.set ?_ (by first | exact Nat.le_refl _ | omega | (simp; done) | (simp; omega)) (by first | (simp; done) | (simp; omega)) _))); done)))
            clear hK K
            (try simp only [Act.put, List.setIfInBounds_toArray, List.set_cons_zero, List.set_cons_succ])
            refine Tw_abs ?_
            intro wA89 hA89
            (first | (have N1 := Lib.hid (Bk.of_alloc hA89)) | (have N1 := Lib.hid (Bk.of_alloc_drew hA89)))
            have zg := Lib.hid (show w.heap.size + 2 ≤ _ from hHeld.1.top.lt)
            (first | (have L1 := Lib.hid (Lies.alloc hA89 L1.out)) | (have L1 := Lib.hid (Lies.alloc_drew hA89 L1.out)) | skip)
            clear hA89
            refine Tw_all (rs := [10]) (by kernel_rfl) (by simp) (by decide) (fun hHeld => ?_)
            refine AllT.consL rfl (fun K hK => ?_) (AllT.nil)
            · have c0 := N1.out.cell 0
              have c1 := N1.out.cell 1
              have f0 := N1.out.frozen 0
              have f1 := N1.out.frozen 1
              have zN := N1.out.lt
              go_simp
              refine hK.out _ _ ?_ ?_
              · exact HALL.out _ (Fr.off2n (n := 2) hHeld.1 zg.out (by intro b hb; simp only [List.mem_cons, List.not_mem_nil, or_false] at hb; rcases hb with rfl | rfl <;> (dsimp only; omega)) _ _)
              clear hK K c0 c1 f0 f1 zN
              have N1 := Lib.hid (Bk.set2 N1.out (.string s) (.slice (some a) ps.length c))
              (try simp only [Act.put, List.setIfInBounds_toArray, List.set_cons_zero, List.set_cons_succ])
              refine Tw_end (by kernel_rfl) (fun hh => ?_)
              obtain ⟨F11, _⟩ := hh
              clear HALL
              go_wp2_with fail
              go_meet
              exact ⟨_, rfl, rfl, F11.more N1.out⟩
        · go_simp
          refine hK.out _ _ ?_ ?_
          · (try dsimp only)
            ((go_split_ands; refine HALL.out _ ?_; (first | assumption | (repeat (first | assumption | refine Fr.new ?_ _ | refine Fr.drew ?_ | (refine Fr.set ?_ (by first | exact Nat.le_refl _ | omega | (simp; done) | (simp; omega)) (by first | (simp; done) | (simp; omega)) _))); done)))
          clear hK K
          (try simp only [Act.put, List.setIfInBounds_toArray, List.set_cons_zero, List.set_cons_succ])
          refine Tw_abs ?_
          intro wA91 hA91
          (first | (have N1 := Lib.hid (Bk.of_alloc hA91)) | (have N1 := Lib.hid (Bk.of_alloc_drew hA91)))
          have zg := Lib.hid (show w.heap.size + 2 ≤ _ from hHeld.1.top.lt)
          (first | (have L1 := Lib.hid (Lies.alloc hA91 L1.out)) | (have L1 := Lib.hid (Lies.alloc_drew hA91 L1.out)) | skip)
          clear hA91
          refine Tw_all (rs := [5]) (by kernel_rfl) (by simp) (by decide) (fun hHeld => ?_)
          refine AllT.consL rfl (fun K hK => ?_) (AllT.nil)
          · go_simp
            (go_at_call 19; go_split_ands; (refine (HCR.out _ _ (Fr.lies HA.out (by assumption)) L1.out).mono ?_); rintro e w7 ⟨rfl, hb7⟩; have F6 := Fr.call (by assumption) hb7; (first | (have N1 := Lib.hid (Bk.call N1.out hb7)) | skip); (first | (have L1 := Lib.hid (Lies.call L1.out hb7)) | skip); clear hb7)
            refine hK.out _ _ ?_ ?_
            · (try dsimp only)
              ((go_split_ands; refine HALL.out _ ?_; (first | assumption | (repeat (first | assumption | refine Fr.new ?_ _ | refine Fr.drew ?_ | (refine Fr.set ?_ (by first | exact Nat.le_refl _ | omega | (simp; done) | (simp; omega)) (by first | (simp; done) | (simp; omega)) _))); done)))
            clear hK K
            (try simp only [Act.put, List.setIfInBounds_toArray, List.set_cons_zero, List.set_cons_succ])
            refine Tw_takeL (i := 6) (v := ?tv86) rfl (by kernel_rfl) (by decide) (by kernel_rfl) (by kernel_rfl) (fun _ _ _ h => h) (by rfl) ?ty86 ?tn86
            case ty86 => (intro w hSw; (try dsimp only at hSw); go_simp <;> with_reducible rfl)
            (try simp only [Act.put, List.setIfInBounds_toArray, List.set_cons_zero, List.set_cons_succ])
            refine Tw_takeL (i := 7) (v := ?tv87) rfl (by kernel_rfl) (by decide) (by kernel_rfl) (by kernel_rfl) (fun _ _ _ h => h) (by rfl) ?ty87 ?tn87
            case ty87 => (intro w hSw; (try dsimp only at hSw); go_simp <;> with_reducible rfl)
            (try simp only [Act.put, List.setIfInBounds_toArray, List.set_cons_zero, List.set_cons_succ])
            refine Tw_takeL (i := 8) (v := ?tv88) rfl (by kernel_rfl) (by decide) (by kernel_rfl) (by kernel_rfl) (fun _ _ _ h => h) (by rfl) ?ty88 ?tn88
            case ty88 => (intro w hSw; (try dsimp only at hSw); go_simp <;> with_reducible rfl)
            (try simp only [Act.put, List.setIfInBounds_toArray, List.set_cons_zero, List.set_cons_succ])
            refine Tw_all (rs := [10]) (by kernel_rfl) (by simp) (by decide) (fun hHeld => ?_)
            refine AllT.consL rfl (fun K hK => ?_) (AllT.nil)
            · have c0 := N1.out.cell 0
              have c1 := N1.out.cell 1
              have f0 := N1.out.frozen 0
              have f1 := N1.out.frozen 1
              have zN := N1.out.lt
              go_simp
              refine hK.out _ _ ?_ ?_
              · exact HALL.out _ (Fr.off2n (n := 2) hHeld.1 zg.out (by intro b hb; simp only [List.mem_cons, List.not_mem_nil, or_false] at hb; rcases hb with rfl | rfl <;> (dsimp only; omega)) _ _)
              clear hK K c0 c1 f0 f1 zN
              have N1 := Lib.hid (Bk.set2 N1.out (.string s) (.slice (some a) ps.length c))
              (try simp only [Act.put, List.setIfInBounds_toArray, List.set_cons_zero, List.set_cons_succ])
              refine Tw_end (by kernel_rfl) (fun hh => ?_)
              obtain ⟨F11, _⟩ := hh
              clear HALL
              go_wp2_with fail
              go_meet
              exact ⟨_, rfl, rfl, F11.more N1.out⟩
      · go_simp
        refine hK.out _ _ ?_ ?_
        · (try dsimp only)
          ((go_split_ands; refine HALL.out _ ?_; (first | assumption | (repeat (first | assumption | refine Fr.new ?_ _ | refine Fr.drew ?_ | (refine Fr.set ?_ (by first | exact Nat.le_refl _ | omega | (simp; done) | (simp; omega)) (by first | (simp; done) | (simp; omega)) _))); done)))
        clear hK K
        (try simp only [Act.put, List.setIfInBounds_toArray, List.set_cons_zero, List.set_cons_succ])
        refine Tw_abs ?_
        intro wA94 hA94
        (first | (have N1 := Lib.hid (Bk.of_alloc hA94)) | (have N1 := Lib.hid (Bk.of_alloc_drew hA94)))
        have zg := Lib.hid (show w.heap.size + 2 ≤ _ from hHeld.1.top.lt)
        (first | (have L1 := Lib.hid (Lies.alloc hA94 L1.out)) | (have L1 := Lib.hid (Lies.alloc_drew hA94 L1.out)) | skip)
        clear hA94
        refine Tw_all (rs := [4]) (by kernel_rfl) (by simp) (by decide) (fun hHeld => ?_)
        refine AllT.consL rfl (fun K hK => ?_) (AllT.nil)
        · go_simp
          refine hK.out _ _ ?_ ?_
          · (try dsimp only)
            ((go_split_ands; refine HALL.out _ ?_; (first | assumption | (repeat (first | assumption | refine Fr.new ?_ _ | refine Fr.drew ?_ | (refine Fr.set ?_ (by first | exact Nat.le_refl _ | omega | (simp; done) | (simp; omega)) (by first | (simp; done) | (simp; omega)) _))); done)))
          clear hK K
          (try simp only [Act.put, List.setIfInBounds_toArray, List.set_cons_zero, List.set_cons_succ])
          refine Tw_abs ?_
          intro wA95 hA95
          (first | (have N1 := Lib.hid (Bk.over_alloc hA95 N1.out)) | (have N1 := Lib.hid (Bk.over_alloc_drew hA95 N1.out)) | skip)
          (first | (have L1 := Lib.hid (fs_alloc (l := [se]) hA95 (by simp [maxLen]))) | (have L1 := Lib.hid (fs_drew (l := [se]) hA95 (by simp [maxLen]))))
          clear hA95
          refine Tw_all (rs := [5]) (by kernel_rfl) (by simp) (by decide) (fun hHeld => ?_)
          refine AllT.consL rfl (fun K hK => ?_) (AllT.nil)
          · go_simp
            (go_at_call 19; go_split_ands; (refine (HCR.out _ _ (Fr.lies HA.out (by assumption)) L1.out).mono ?_); rintro e w7 ⟨rfl, hb7⟩; have F6 := Fr.call (by assumption) hb7; (first | (have N1 := Lib.hid (Bk.call N1.out hb7)) | skip); (first | (have L1 := Lib.hid (Lies.call L1.out hb7)) | skip); clear hb7)
            refine hK.out _ _ ?_ ?_
            · (try dsimp only)
              ((go_split_ands; refine HALL.out _ ?_; (first | assumption | (repeat (first | assumption | refine Fr.new ?_ _ | refine Fr.drew ?_ | (refine Fr.set ?_ (by first | exact Nat.le_refl _ | omega | (simp; done) | (simp; omega)) (by first | (simp; done) | (simp; omega)) _))); done)))
            clear hK K
            (try simp only [Act.put, List.setIfInBounds_toArray, List.set_cons_zero, List.set_cons_succ])
            refine Tw_takeL (i := 6) (v := ?tv89) rfl (by kernel_rfl) (by decide) (by kernel_rfl) (by kernel_rfl) (fun _ _ _ h => h) (by rfl) ?ty89 ?tn89
            case ty89 => (intro w hSw; (try dsimp only at hSw); go_simp <;> with_reducible rfl)
            (try simp only [Act.put, List.setIfInBounds_toArray, List.set_cons_zero, List.set_cons_succ])
            refine Tw_takeL (i := 7) (v := ?tv90) rfl (by kernel_rfl) (by decide) (by kernel_rfl) (by kernel_rfl) (fun _ _ _ h => h) (by rfl) ?ty90 ?tn90
            case ty90 => (intro w hSw; (try dsimp only at hSw); go_simp <;> with_reducible rfl)
            (try simp only [Act.put, List.setIfInBounds_toArray, List.set_cons_zero, List.set_cons_succ])
            refine Tw_takeL (i := 8) (v := ?tv91) rfl (by kernel_rfl) (by decide) (by kernel_rfl) (by kernel_rfl) (fun _ _ _ h => h) (by rfl) ?ty91 ?tn91
            case ty91 => (intro w hSw; (try dsimp only at hSw); go_simp <;> with_reducible rfl)
            (try simp only [Act.put, List.setIfInBounds_toArray, List.set_cons_zero, List.set_cons_succ])
            refine Tw_all (rs := [10]) (by kernel_rfl) (by simp) (by decide) (fun hHeld => ?_)
            refine AllT.consL rfl (fun K hK => ?_) (AllT.nil)
            · have c0 := N1.out.cell 0
              have c1 := N1.out.cell 1
              have f0 := N1.out.frozen 0
              have f1 := N1.out.frozen 1
              have zN := N1.out.lt
              go_simp
              refine hK.out _ _ ?_ ?_
              · exact HALL.out _ (Fr.off2n (n := 2) hHeld.1 zg.out (by intro b hb; simp only [List.mem_cons, List.not_mem_nil, or_false] at hb; rcases hb with rfl | rfl <;> (dsimp only; omega)) _ _)
              clear hK K c0 c1 f0 f1 zN
              have N1 := Lib.hid (Bk.set2 N1.out (.string s) (.slice (some a) ps.length c))
              (try simp only [Act.put, List.setIfInBounds_toArray, List.set_cons_zero, List.set_cons_succ])
              refine Tw_end (by kernel_rfl) (fun hh => ?_)
              obtain ⟨F11, _⟩ := hh
              clear HALL
              go_wp2_with fail
              go_meet
              exact ⟨_, rfl, rfl, F11.more N1.out⟩
    · go_simp
      refine hK.out _ _ ?_ ?_
      · (try dsimp only)
        ((go_split_ands; refine HALL.out _ ?_; (first | assumption | (repeat (first | assumption | refine Fr.new ?_ _ | refine Fr.drew ?_ | (refine Fr.set ?_ (by first | exact Nat.le_refl _ | omega | (simp; done) | (simp; omega)) (by first | (simp; done) | (simp; omega)) _))); done)))
      clear hK K
      (try simp only [Act.put, List.setIfInBounds_toArray, List.set_cons_zero, List.set_cons_succ])
      refine Tw_abs ?_
      intro wA98 hA98
      (first | (have N1 := Lib.hid (Bk.of_alloc hA98)) | (have N1 := Lib.hid (Bk.of_alloc_drew hA98)))
      have zg := Lib.hid (show w.heap.size + 2 ≤ _ from hHeld.1.top.lt)
      (first | (have L1 := Lib.hid (Lies.alloc hA98 L1.out)) | (have L1 := Lib.hid (Lies.alloc_drew hA98 L1.out)) | skip)
      clear hA98
      refine Tw_all (rs := [3]) (by kernel_rfl) (by simp) (by decide) (fun hHeld => ?_)
      refine AllT.consL rfl (fun K hK => ?_) (AllT.nil)
      · go_simp
        (go_at_call 28; go_split_ands; (with_reducible refine (HSE.out _ (Fr.lies HL.out (by assumption))).mono ?_); rintro e w7 ⟨rfl, hb7⟩; rw [HS1.out]; have F4 := Fr.call (by assumption) hb7; (first | (have N1 := Lib.hid (Bk.call N1.out hb7)) | skip); (first | (have L1 := Lib.hid (Lies.call L1.out hb7)) | skip); clear hb7)
        refine hK.out _ _ ?_ ?_
        · (try dsimp only)
          ((go_split_ands; refine HALL.out _ ?_; (first | assumption | (repeat (first | assumption | refine Fr.new ?_ _ | refine Fr.drew ?_ | (refine Fr.set ?_ (by first | exact Nat.le_refl _ | omega | (simp; done) | (simp; omega)) (by first | (simp; done) | (simp; omega)) _))); done)))
        clear hK K
        (try simp only [Act.put, List.setIfInBounds_toArray, List.set_cons_zero, List.set_cons_succ])
        refine Tw_all (rs := [4]) (by kernel_rfl) (by simp) (by decide) (fun hHeld => ?_)
        refine AllT.consL rfl (fun K hK => ?_) (AllT.nil)
        · go_simp
          refine hK.out _ _ ?_ ?_
          · (try dsimp only)
            ((go_split_ands; refine HALL.out _ ?_; (first | assumption | (repeat (first | assumption | refine Fr.new ?_ _ | refine Fr.drew ?_ | (refine Fr.set ?_ (by first | exact Nat.le_refl _ | omega | (simp; done) | (simp; omega)) (by first | (simp; done) | (simp; omega)) _))); done)))
          clear hK K
          (try simp only [Act.put, List.setIfInBounds_toArray, List.set_cons_zero, List.set_cons_succ])
          refine Tw_abs ?_
          intro wA100 hA100
          (first | (have N1 := Lib.hid (Bk.over_alloc hA100 N1.out)) | (have N1 := Lib.hid (Bk.over_alloc_drew hA100 N1.out)) | skip)
          (first | (have L1 := Lib.hid (fs_alloc (l := [se]) hA100 (by simp [maxLen]))) | (have L1 := Lib.hid (fs_drew (l := [se]) hA100 (by simp [maxLen]))))
          clear hA100
          refine Tw_all (rs := [5]) (by kernel_rfl) (by simp) (by decide) (fun hHeld => ?_)
          refine AllT.consL rfl (fun K hK => ?_) (AllT.nil)
          · go_simp
            (go_at_call 19; go_split_ands; (refine (HCR.out _ _ (Fr.lies HA.out (by assumption)) L1.out).mono ?_); rintro e w7 ⟨rfl, hb7⟩; have F6 := Fr.call (by assumption) hb7; (first | (have N1 := Lib.hid (Bk.call N1.out hb7)) | skip); (first | (have L1 := Lib.hid (Lies.call L1.out hb7)) | skip); clear hb7)
            refine hK.out _ _ ?_ ?_
            · (try dsimp only)
              ((go_split_ands; refine HALL.out _ ?_; (first | assumption | (repeat (first | assumption | refine Fr.new ?_ _ | refine Fr.drew ?_ | (refine Fr.set ?_ (by first | exact Nat.le_refl _ | omega | (simp; done) | (simp; omega)) (by first | (simp; done) | (simp; omega)) _))); done)))
            clear hK K
            (try simp only [Act.put, List.setIfInBounds_toArray, List.set_cons_zero, List.set_cons_succ])
            refine Tw_takeL (i := 6) (v := ?tv92) rfl (by kernel_rfl) (by decide) (by kernel_rfl) (by kernel_rfl) (fun _ _ _ h => h) (by rfl) ?ty92 ?tn92
            case ty92 => (intro w hSw; (try dsimp only at hSw); go_simp <;> with_reducible rfl)
            (try simp only [Act.put, List.setIfInBounds_toArray, List.set_cons_zero, List.set_cons_succ])
            refine Tw_takeL (i := 7) (v := ?tv93) rfl (by kernel_rfl) (by decide) (by kernel_rfl) (by kernel_rfl) (fun _ _ _ h => h) (by rfl) ?ty93 ?tn93
            case ty93 => (intro w hSw; (try dsimp only at hSw); go_simp <;> with_reducible rfl)
            (try simp only [Act.put, List.setIfInBounds_toArray, List.set_cons_zero, List.set_cons_succ])
            refine Tw_takeL (i := 8) (v := ?tv94) rfl (by kernel_rfl) (by decide) (by kernel_rfl) (by kernel_rfl) (fun _ _ _ h => h) (by rfl) ?ty94 ?tn94
            case ty94 => (intro w hSw; (try dsimp only at hSw); go_simp <;> with_reducible rfl)
            (try simp only [Act.put, List.setIfInBounds_toArray, List.set_cons_zero, List.set_cons_succ])
            refine Tw_all (rs := [10]) (by kernel_rfl) (by simp) (by decide) (fun hHeld => ?_)
            refine AllT.consL rfl (fun K hK => ?_) (AllT.nil)
            · have c0 := N1.out.cell 0
              have c1 := N1.out.cell 1
              have f0 := N1.out.frozen 0
              have f1 := N1.out.frozen 1
              have zN := N1.out.lt
              go_simp
              refine hK.out _ _ ?_ ?_
              · exact HALL.out _ (Fr.off2n (n := 2) hHeld.1 zg.out (by intro b hb; simp only [List.mem_cons, List.not_mem_nil, or_false] at hb; rcases hb with rfl | rfl <;> (dsimp only; omega)) _ _)
              clear hK K c0 c1 f0 f1 zN
              have N1 := Lib.hid (Bk.set2 N1.out (.string s) (.slice (some a) ps.length c))
              (try simp only [Act.put, List.setIfInBounds_toArray, List.set_cons_zero, List.set_cons_succ])
              refine Tw_end (by kernel_rfl) (fun hh => ?_)
              obtain ⟨F11, _⟩ := hh
              clear HALL
              go_wp2_with fail
              go_meet
              exact ⟨_, rfl, rfl, F11.more N1.out⟩
  case rest =>
    obtain ⟨wx, rfl⟩ : ∃ W, W = wc := ⟨_, rfl⟩
    obtain ⟨g, rfl, rfl, hx⟩ := hcut
    have FC := Lib.hid hx
    clear hx F0
    have q0 := FC.out.top.cell 0
    have q1 := FC.out.top.cell 1
    have q2 := FC.out.top.lt
    have HOLD : Hid (∀ b' ∈ ([(g, 57, #[.string s, .slice (some a) ps.length c]), (w.heap.size + 1, 48, #[.int .i64 0, .int .i64 0]), (w.heap.size, 24, #[.string s, .slice (some a) ps.length c])] : List (Nat × TypeId × Array Value)), b'.1 < wx.heap.size) := Lib.hid (fun b' hb' => (FC.out.bk b' hb').lt)
    have HGT : Hid (w.heap.size ≤ wx.heap.size) := Lib.hid FC.out.bl.size
    have FT : Hid (Fr w _ ((wx.heap.size, 48, #[.int .i64 0, .int .i64 0]) :: [(g, 57, #[.string s, .slice (some a) ps.length c]), (w.heap.size + 1, 48, #[.int .i64 0, .int .i64 0]), (w.heap.size, 24, #[.string s, .slice (some a) ps.length c])])) := Lib.hid (FC.out.box 48 #[.int .i64 0, .int .i64 0])
    go_wp2_with fail
    go_loopw [30] (fun i wr => ∃ k : Nat, k ≤ ps.length ∧ i = .int .i64 k ∧ Fr w wr ((wx.heap.size, 48, #[.int .i64 (tloV ps l k), .int .i64 (thiV ps l k)]) :: [(g, 57, #[.string s, .slice (some a) ps.length c]), (w.heap.size + 1, 48, #[.int .i64 0, .int .i64 0]), (w.heap.size, 24, #[.string s, .slice (some a) ps.length c])])) (fun i _ => ps.length - (intOf i).toNat)
    case atStart => exact ⟨0, Nat.zero_le _, rfl, FT.out⟩
    case round =>
      obtain ⟨k, hk, rfl, hf⟩ := hrel
      have FK := Lib.hid hf
      clear hf FC FT q0 q1 q2
      by_cases hk2 : k < ps.length
      · skip
        have hkn : k < ps.length := by omega
        have hki : (k : Int) < (ps.length : Int) := by omega
        have hkN : (k : Int) < (N : Int) := by have := HNN.out; omega
        obtain ⟨k1, hk1⟩ : ∃ k1 : Nat, k1 = k + 1 := ⟨_, rfl⟩
        have HK1 := Lib.hid hk1
        have hwk := (IntWalk.i64_in ((k : Int) + 1) (by omega)).trans (show (k : Int) + 1 = (k1 : Int) by omega)
        have hk1N : (k1 : Int) < (N : Int) := by have := HNN.out; omega
        have hk1n : k1 ≤ ps.length := by omega
        obtain ⟨a3, ea, _, c0, c1, c2, c3⟩ := (Fr.lies HA.out FK.out).piece (gp_at (i := k) hkn)
        simp only [Option.some.injEq] at ea
        subst ea
        have hpo := okP_iff.1 (gp_ok HOK.out.each k)
        have hwr := FK.out.top.lt
        obtain ⟨⟨pl, pg, pm, pv0⟩, hP⟩ : ∃ P, gp ps k = P := ⟨_, rfl⟩
        have HP := Lib.hid hP
        rw [hP] at c0 c1 c2 c3 hpo
        simp only at c0 c1 c2 c3 hpo
        obtain ⟨⟨pl0, pl1⟩, _, _⟩ := hpo
        clear hP hk1
        go_upto_region 7 with fail
        go_cut [9, 10] from 32 to 34 (fun iv pv W => iv = .int .i64 k ∧ ∃ gz : Nat, pv = .pointer (some ⟨gz, 0, none⟩) ∧ wr.heap.size ≤ gz ∧ Fr wr W [(gz, 54, #[.int .i64 pl, .int .i64 pg, .int .i64 pm, .bool pv0])])
        case first =>
          go_wp2_with fail
          go_meet
          exact ⟨rfl, _, rfl, Nat.le_refl _, (Fr.nil wr).box _ _⟩
        case rest =>
        obtain ⟨wz, rfl⟩ : ∃ W, W = wc := ⟨_, rfl⟩
        obtain ⟨rfl, gz, rfl, hgz, hx⟩ := hcut
        have HZ := Lib.hid hx
        have FZ := Lib.hid (FK.out.call hx.bl)
        clear hx FK c0 c1 c2 c3
        have hwz := HZ.out.bl.size
        obtain ⟨x, hx⟩ : ∃ x, sqAt l k = x := ⟨_, rfl⟩
        obtain ⟨y, hy⟩ : ∃ y, sqAt l k1 = y := ⟨_, rfl⟩
        have HXX := Lib.hid hx
        have HYY := Lib.hid hy
        have cx := HLC.out k (by omega) wz FZ.out.tail.tail.tail.tail
        have cy := HLC.out k1 hk1n wz FZ.out.tail.tail.tail.tail
        rw [hx] at cx
        rw [hy] at cy
        clear hx hy
        have HMK : Hid (zeroS l k = false) := Lib.hid (HMISS.out k (by omega))
        have HNZ : Hid (¬ (x = 0 ∧ y = 0)) := Lib.hid (fun h => by have := zero_iff.2 (show sqAt l k = 0 ∧ sqAt l (k + 1) = 0 by rw [HXX.out, ← HK1.out, HYY.out]; exact h); rw [HMK.out] at this; cases this)
        go_upto_region 8 with fail
        go_cut [47] from 35 to 47 (fun r W => r = .bool false ∧ Fr wz W [])
        case first =>
          by_cases e1 : x = 0
          · have e2 : ¬ y = 0 := fun e => HNZ.out ⟨e1, e⟩
            have e3 : (y == 0) = false := by simp [e2]
            go_wp2_with fail
            go_meet
            exact ⟨rfl, Fr.nil wz⟩
          · have e3 : (x == 0) = false := by simp [e1]
            go_wp2_with fail
            go_meet
            exact ⟨rfl, Fr.nil wz⟩
        case rest =>
        obtain ⟨wz2, rfl⟩ : ∃ W, W = wc := ⟨_, rfl⟩
        obtain ⟨rfl, hx8⟩ := hcut
        have FZ2 := Lib.hid (FZ.out.call hx8.bl)
        have HZ2 := Lib.hid (HZ.out.call hx8.bl)
        have hwz2 := hx8.bl.size
        have HST := tim_step HOK.out.each HQ.out HMK.out
        have HTB := tim_bound HOK.out.each HQ.out k (fun j hj => HMISS.out j (by omega))
        rw [HXX.out, ← HK1.out, HYY.out] at HST
        have hqx := HQ.out k
        have hqy := HQ.out k1
        rw [HXX.out] at hqx
        rw [HYY.out] at hqy
        have HR1 := Lib.hid (fun W => root_any x hqx W)
        have HR2 := Lib.hid (fun W => root_any y hqy W)
        have HSL : Hid (tloV ps l k1 = tloV ps l k + (2000 * pl).tdiv ((rtU x : Int) + rtU y)) := Lib.hid (by rw [HK1.out, tloV, ← HK1.out, HXX.out, HYY.out, HP.out])
        have HSH : Hid (thiV ps l k1 = thiV ps l k + (2000 * pl + (rtL x + rtL y) - 1).tdiv (rtL x + rtL y)) := Lib.hid (by rw [HK1.out, thiV, ← HK1.out, HXX.out, HYY.out, HP.out])
        obtain ⟨L1, hL1⟩ : ∃ L1, rtL x = L1 := ⟨_, rfl⟩
        obtain ⟨U1, hU1⟩ : ∃ U1 : Int, (rtU x : Int) = U1 := ⟨_, rfl⟩
        obtain ⟨L2, hL2⟩ : ∃ L2, rtL y = L2 := ⟨_, rfl⟩
        obtain ⟨U2, hU2⟩ : ∃ U2 : Int, (rtU y : Int) = U2 := ⟨_, rfl⟩
        rw [hL1, hU1] at HR1
        rw [hL2, hU2] at HR2
        rw [hU1, hU2] at HSL
        rw [hL1, hL2] at HSH
        rw [hL1, hL2, hU1, hU2] at HST
        obtain ⟨lo, hlo⟩ : ∃ lo, tloV ps l k = lo := ⟨_, rfl⟩
        obtain ⟨hi, hhi⟩ : ∃ hi, thiV ps l k = hi := ⟨_, rfl⟩
        rw [hlo] at HSL
        rw [hhi] at HSH
        rw [hlo, hhi] at HTB FZ2
        have hd1 := div_le (a := 2000 * pl) (b := U1 + U2) (by omega) (by omega)
        have hd2 := div_le (a := 2000 * pl + (L1 + L2) - 1) (b := L1 + L2) (by omega) (by omega)
        have HFL := Lib.hid (fun w => floor2_any (2000 * pl) (U1 + U2) (by omega) (by omega) (by omega) (by omega) w)
        have HCL := Lib.hid (fun w => ceiling2_any (2000 * pl) (L1 + L2) (by omega) (by omega) (by omega) (by omega) w)
        obtain ⟨d1, hdd1⟩ : ∃ d1, (2000 * pl).tdiv (U1 + U2) = d1 := ⟨_, rfl⟩
        obtain ⟨d2, hdd2⟩ : ∃ d2, (2000 * pl + (L1 + L2) - 1).tdiv (L1 + L2) = d2 := ⟨_, rfl⟩
        rw [hdd1] at HFL HSL hd1
        rw [hdd2] at HCL HSH hd2
        have hw1 := IntWalk.i64_in (U1 + U2) (by omega)
        have hw2 := IntWalk.i64_in (L1 + L2) (by omega)
        have hw3 := IntWalk.i64_in (2000 * pl) (by omega)
        have hw4 := IntWalk.i64_in (lo + d1) (by omega)
        have hw5 := IntWalk.i64_in (hi + d2) (by omega)
        obtain ⟨wz, hwzz⟩ : ∃ W, W = wz2 := ⟨_, rfl⟩
        subst hwzz
        have cx := HLC.out k (by omega) wz FZ2.out.tail.tail.tail.tail
        have cy := HLC.out k1 hk1n wz FZ2.out.tail.tail.tail.tail
        rw [HXX.out] at cx
        rw [HYY.out] at cy
        clear HST HTB hqx hqy hL1 hU1 hL2 hU2 hlo hhi hd1 hd2 hdd1 hdd2 FZ HZ hx8
        go_upto_region 10 with fail
        go_cut [11, 12] from 49 to 59 (fun pv qv W => ∃ gA gB : Nat, pv = .pointer (some ⟨gA, 0, none⟩) ∧ qv = .pointer (some ⟨gB, 0, none⟩) ∧ gA ≠ gB ∧ wz.heap.size ≤ gA ∧ wz.heap.size ≤ gB ∧ Fr wz W [(gB, 48, #[.int .i64 L2, .int .i64 U2]), (gA, 48, #[.int .i64 L1, .int .i64 U1])])
        case first =>
          have HALL : Hid (∀ W, Fr wz W [] → Fr wz W [] ∧ W.cell? (a2.add k) = some (.int .i64 x) ∧ W.cell? (a2.add k1) = some (.int .i64 y)) := Lib.hid (fun W hW => ⟨hW, by rw [← HXX.out]; exact HLC.out k (by omega) _ (FZ2.out.tail.tail.tail.tail.call hW.bl), by rw [← HYY.out]; exact HLC.out k1 hk1n _ (FZ2.out.tail.tail.tail.tail.call hW.bl)⟩)
          have F10 : Fr wz wz [] := Fr.nil wz
          refine Tw_start 13 (fun W => Fr wz W [] ∧ W.cell? (a2.add k) = some (.int .i64 x) ∧ W.cell? (a2.add k1) = some (.int .i64 y)) (by kernel_rfl) (by kernel_rfl) rfl ?_ ?_
          · (try dsimp only)
            ((go_split_ands; refine HALL.out _ ?_; (first | assumption | (repeat (first | assumption | refine Fr.new ?_ _ | refine Fr.drew ?_ | (refine Fr.set ?_ (by first | exact Nat.le_refl _ | omega | (simp; done) | (simp; omega)) (by first | (simp; done) | (simp; omega)) _))); done)))
          refine Tw_takeL (i := 0) (v := ?tv95) rfl (by kernel_rfl) (by decide) (by kernel_rfl) (by kernel_rfl) (fun _ _ _ h => h) (by rfl) ?ty95 ?tn95
          case ty95 => (intro w hSw; (try dsimp only at hSw); go_simp <;> with_reducible rfl)
          (try simp only [Act.put, List.setIfInBounds_toArray, List.set_cons_zero, List.set_cons_succ])
          refine Tw_takeL (i := 1) (v := ?tv96) rfl (by kernel_rfl) (by decide) (by kernel_rfl) (by kernel_rfl) (fun _ _ _ h => h) (by rfl) ?ty96 ?tn96
          case ty96 => (intro w hSw; (try dsimp only at hSw); go_simp <;> with_reducible rfl)
          (try simp only [Act.put, List.setIfInBounds_toArray, List.set_cons_zero, List.set_cons_succ])
          refine Tw_takeL (i := 5) (v := ?tv97) rfl (by kernel_rfl) (by decide) (by kernel_rfl) (by kernel_rfl) (fun _ _ _ h => h) (by rfl) ?ty97 ?tn97
          case ty97 => (intro w hSw; (try dsimp only at hSw); go_simp <;> with_reducible rfl)
          (try simp only [Act.put, List.setIfInBounds_toArray, List.set_cons_zero, List.set_cons_succ])
          refine Tw_takeL (i := 6) (v := ?tv98) rfl (by kernel_rfl) (by decide) (by kernel_rfl) (by kernel_rfl) (fun _ _ _ h => h) (by rfl) ?ty98 ?tn98
          case ty98 => (intro w hSw; (try dsimp only at hSw); go_simp <;> with_reducible rfl)
          (try simp only [Act.put, List.setIfInBounds_toArray, List.set_cons_zero, List.set_cons_succ])
          refine Tw_takeL (i := 2) (v := ?tv99) rfl (by kernel_rfl) (by decide) (by kernel_rfl) (by kernel_rfl) (fun _ _ _ h => h) (by rfl) ?ty99 ?tn99
          case ty99 => (intro w hSw; (try dsimp only at hSw); go_simp <;> with_reducible rfl)
          (try simp only [Act.put, List.setIfInBounds_toArray, List.set_cons_zero, List.set_cons_succ])
          refine Tw_takeL (i := 7) (v := ?tv100) rfl (by kernel_rfl) (by decide) (by kernel_rfl) (by kernel_rfl) (fun _ _ _ h => h) (by rfl) ?ty100 ?tn100
          case ty100 => (intro w hSw; (try dsimp only at hSw); go_simp <;> with_reducible rfl)
          (try simp only [Act.put, List.setIfInBounds_toArray, List.set_cons_zero, List.set_cons_succ])
          refine Tw_takeL (i := 3) (v := ?tv101) rfl (by kernel_rfl) (by decide) (by kernel_rfl) (by kernel_rfl) (fun _ _ _ h => h) (by rfl) ?ty101 ?tn101
          case ty101 => (intro w hSw; (try dsimp only at hSw); go_simp <;> with_reducible rfl)
          (try simp only [Act.put, List.setIfInBounds_toArray, List.set_cons_zero, List.set_cons_succ])
          refine Tw_takeL (i := 8) (v := ?tv102) rfl (by kernel_rfl) (by decide) (by kernel_rfl) (by kernel_rfl) (fun _ _ _ h => h) (by rfl) ?ty102 ?tn102
          case ty102 => (intro w hSw; (try dsimp only at hSw); go_simp <;> with_reducible rfl)
          (try simp only [Act.put, List.setIfInBounds_toArray, List.set_cons_zero, List.set_cons_succ])
          refine Tw_takeL (i := 9) (v := ?tv103) rfl (by kernel_rfl) (by decide) (by kernel_rfl) (by kernel_rfl) (fun _ _ _ h => h) (by rfl) ?ty103 ?tn103
          case ty103 => (intro w hSw; (try dsimp only at hSw); go_simp <;> with_reducible rfl)
          (try simp only [Act.put, List.setIfInBounds_toArray, List.set_cons_zero, List.set_cons_succ])
          refine Tw_all (rs := [4, 11, 12]) (by kernel_rfl) (by simp) (by decide) (fun hHeld => ?_)
          refine AllT.consL rfl (fun K hK => ?_) (AllT.consL rfl (fun K hK => ?_) (AllT.consL rfl (fun K hK => ?_) (AllT.nil)))
          · go_simp
            (go_at_call 29; go_split_ands; (with_reducible refine (HR1.out _).mono ?_); rintro e w7 ⟨rfl, hb7⟩; have F4 := Fr.call (by assumption) hb7; (first | (have NA := Lib.hid (Bk.call NA.out hb7)) | skip); (first | (have NB := Lib.hid (Bk.call NB.out hb7)) | skip); clear hb7)
            refine hK.out _ _ ?_ ?_
            · (try dsimp only)
              ((go_split_ands; refine HALL.out _ ?_; (first | assumption | (repeat (first | assumption | refine Fr.new ?_ _ | refine Fr.drew ?_ | (refine Fr.set ?_ (by first | exact Nat.le_refl _ | omega | (simp; done) | (simp; omega)) (by first | (simp; done) | (simp; omega)) _))); done)))
            clear hK K
            (try simp only [Act.put, List.setIfInBounds_toArray, List.set_cons_zero, List.set_cons_succ])
            refine Tw_all (rs := [10, 11, 12]) (by kernel_rfl) (by simp) (by decide) (fun hHeld => ?_)
            refine AllT.consL rfl (fun K hK => ?_) (AllT.consL rfl (fun K hK => ?_) (AllT.consL rfl (fun K hK => ?_) (AllT.nil)))
            · go_simp
              (go_at_call 29; go_split_ands; (with_reducible refine (HR2.out _).mono ?_); rintro e w7 ⟨rfl, hb7⟩; have F4 := Fr.call (by assumption) hb7; (first | (have NA := Lib.hid (Bk.call NA.out hb7)) | skip); (first | (have NB := Lib.hid (Bk.call NB.out hb7)) | skip); clear hb7)
              refine hK.out _ _ ?_ ?_
              · (try dsimp only)
                ((go_split_ands; refine HALL.out _ ?_; (first | assumption | (repeat (first | assumption | refine Fr.new ?_ _ | refine Fr.drew ?_ | (refine Fr.set ?_ (by first | exact Nat.le_refl _ | omega | (simp; done) | (simp; omega)) (by first | (simp; done) | (simp; omega)) _))); done)))
              clear hK K
              (try simp only [Act.put, List.setIfInBounds_toArray, List.set_cons_zero, List.set_cons_succ])
              refine Tw_all (rs := [11, 12]) (by kernel_rfl) (by simp) (by decide) (fun hHeld => ?_)
              refine AllT.consL rfl (fun K hK => ?_) (AllT.consL rfl (fun K hK => ?_) (AllT.nil))
              · go_simp
                refine hK.out _ _ ?_ ?_
                · (try dsimp only)
                  ((go_split_ands; refine HALL.out _ ?_; (first | assumption | (repeat (first | assumption | refine Fr.new ?_ _ | refine Fr.drew ?_ | (refine Fr.set ?_ (by first | exact Nat.le_refl _ | omega | (simp; done) | (simp; omega)) (by first | (simp; done) | (simp; omega)) _))); done)))
                clear hK K
                (try simp only [Act.put, List.setIfInBounds_toArray, List.set_cons_zero, List.set_cons_succ])
                refine Tw_abs ?_
                intro wA105 hA105
                (first | (have hAB := Lib.hid (Nat.ne_of_lt NB.out.lt).symm) | skip)
                (first | (have NB := Lib.hid (Bk.over_alloc hA105 NB.out)) | (have NB := Lib.hid (Bk.over_alloc_drew hA105 NB.out)) | skip)
                (first | (have NA := Lib.hid (Bk.of_alloc hA105)) | (have NA := Lib.hid (Bk.of_alloc_drew hA105)))
                have zA := Lib.hid (show wz.heap.size ≤ _ from hHeld.1.size)
                clear hA105
                refine Tw_all (rs := [12]) (by kernel_rfl) (by simp) (by decide) (fun hHeld => ?_)
                refine AllT.consL rfl (fun K hK => ?_) (AllT.nil)
                · go_simp
                  refine hK.out _ _ ?_ ?_
                  · (try dsimp only)
                    ((go_split_ands; refine HALL.out _ ?_; (first | assumption | (repeat (first | assumption | refine Fr.new ?_ _ | refine Fr.drew ?_ | (refine Fr.set ?_ (by first | exact Nat.le_refl _ | omega | (simp; done) | (simp; omega)) (by first | (simp; done) | (simp; omega)) _))); done)))
                  clear hK K
                  (try simp only [Act.put, List.setIfInBounds_toArray, List.set_cons_zero, List.set_cons_succ])
                  refine Tw_abs ?_
                  intro wA106 hA106
                  (first | (have hAB := Lib.hid (Nat.ne_of_lt NA.out.lt)) | skip)
                  (first | (have NA := Lib.hid (Bk.over_alloc hA106 NA.out)) | (have NA := Lib.hid (Bk.over_alloc_drew hA106 NA.out)) | skip)
                  (first | (have NB := Lib.hid (Bk.of_alloc hA106)) | (have NB := Lib.hid (Bk.of_alloc_drew hA106)))
                  have zB := Lib.hid (show wz.heap.size ≤ _ from hHeld.1.size)
                  clear hA106
                  refine Tw_end (by kernel_rfl) (fun hh => ?_)
                  obtain ⟨F11, _⟩ := hh
                  clear HALL
                  have n0 := NA.out.cell 0
                  have n1 := NA.out.cell 1
                  have m0 := NB.out.cell 0
                  have m1 := NB.out.cell 1
                  have g0 := NA.out.frozen 0
                  have g1 := NA.out.frozen 1
                  have h0 := NB.out.frozen 0
                  have h1 := NB.out.frozen 1
                  have za := NA.out.lt
                  have zb := NB.out.lt
                  have hab := hAB.out
                  have hab2 := hAB.out.symm
                  go_wp2_with fail
                  go_meet
                  first | exact ⟨_, _, rfl, rfl, hAB.out, zA.out, zB.out, two_boxes F11 NA.out NB.out zA.out zB.out hAB.out _ _ _ _⟩ | exact ⟨_, _, rfl, rfl, hAB.out, zA.out, zB.out, (two_boxes F11 NA.out NB.out zA.out zB.out hAB.out _ _ _ _).drew⟩
              · go_simp
                refine hK.out _ _ ?_ ?_
                · (try dsimp only)
                  ((go_split_ands; refine HALL.out _ ?_; (first | assumption | (repeat (first | assumption | refine Fr.new ?_ _ | refine Fr.drew ?_ | (refine Fr.set ?_ (by first | exact Nat.le_refl _ | omega | (simp; done) | (simp; omega)) (by first | (simp; done) | (simp; omega)) _))); done)))
                clear hK K
                (try simp only [Act.put, List.setIfInBounds_toArray, List.set_cons_zero, List.set_cons_succ])
                refine Tw_abs ?_
                intro wA107 hA107
                (first | (have hAB := Lib.hid (Nat.ne_of_lt NA.out.lt)) | skip)
                (first | (have NA := Lib.hid (Bk.over_alloc hA107 NA.out)) | (have NA := Lib.hid (Bk.over_alloc_drew hA107 NA.out)) | skip)
                (first | (have NB := Lib.hid (Bk.of_alloc hA107)) | (have NB := Lib.hid (Bk.of_alloc_drew hA107)))
                have zB := Lib.hid (show wz.heap.size ≤ _ from hHeld.1.size)
                clear hA107
                refine Tw_all (rs := [11]) (by kernel_rfl) (by simp) (by decide) (fun hHeld => ?_)
                refine AllT.consL rfl (fun K hK => ?_) (AllT.nil)
                · go_simp
                  refine hK.out _ _ ?_ ?_
                  · (try dsimp only)
                    ((go_split_ands; refine HALL.out _ ?_; (first | assumption | (repeat (first | assumption | refine Fr.new ?_ _ | refine Fr.drew ?_ | (refine Fr.set ?_ (by first | exact Nat.le_refl _ | omega | (simp; done) | (simp; omega)) (by first | (simp; done) | (simp; omega)) _))); done)))
                  clear hK K
                  (try simp only [Act.put, List.setIfInBounds_toArray, List.set_cons_zero, List.set_cons_succ])
                  refine Tw_abs ?_
                  intro wA108 hA108
                  (first | (have hAB := Lib.hid (Nat.ne_of_lt NB.out.lt).symm) | skip)
                  (first | (have NB := Lib.hid (Bk.over_alloc hA108 NB.out)) | (have NB := Lib.hid (Bk.over_alloc_drew hA108 NB.out)) | skip)
                  (first | (have NA := Lib.hid (Bk.of_alloc hA108)) | (have NA := Lib.hid (Bk.of_alloc_drew hA108)))
                  have zA := Lib.hid (show wz.heap.size ≤ _ from hHeld.1.size)
                  clear hA108
                  refine Tw_end (by kernel_rfl) (fun hh => ?_)
                  obtain ⟨F11, _⟩ := hh
                  clear HALL
                  have n0 := NA.out.cell 0
                  have n1 := NA.out.cell 1
                  have m0 := NB.out.cell 0
                  have m1 := NB.out.cell 1
                  have g0 := NA.out.frozen 0
                  have g1 := NA.out.frozen 1
                  have h0 := NB.out.frozen 0
                  have h1 := NB.out.frozen 1
                  have za := NA.out.lt
                  have zb := NB.out.lt
                  have hab := hAB.out
                  have hab2 := hAB.out.symm
                  go_wp2_with fail
                  go_meet
                  first | exact ⟨_, _, rfl, rfl, hAB.out, zA.out, zB.out, two_boxes F11 NA.out NB.out zA.out zB.out hAB.out _ _ _ _⟩ | exact ⟨_, _, rfl, rfl, hAB.out, zA.out, zB.out, (two_boxes F11 NA.out NB.out zA.out zB.out hAB.out _ _ _ _).drew⟩
            · go_simp
              refine hK.out _ _ ?_ ?_
              · (try dsimp only)
                ((go_split_ands; refine HALL.out _ ?_; (first | assumption | (repeat (first | assumption | refine Fr.new ?_ _ | refine Fr.drew ?_ | (refine Fr.set ?_ (by first | exact Nat.le_refl _ | omega | (simp; done) | (simp; omega)) (by first | (simp; done) | (simp; omega)) _))); done)))
              clear hK K
              (try simp only [Act.put, List.setIfInBounds_toArray, List.set_cons_zero, List.set_cons_succ])
              refine Tw_abs ?_
              intro wA109 hA109
              (first | (have hAB := Lib.hid (Nat.ne_of_lt NB.out.lt).symm) | skip)
              (first | (have NB := Lib.hid (Bk.over_alloc hA109 NB.out)) | (have NB := Lib.hid (Bk.over_alloc_drew hA109 NB.out)) | skip)
              (first | (have NA := Lib.hid (Bk.of_alloc hA109)) | (have NA := Lib.hid (Bk.of_alloc_drew hA109)))
              have zA := Lib.hid (show wz.heap.size ≤ _ from hHeld.1.size)
              clear hA109
              refine Tw_all (rs := [10, 12]) (by kernel_rfl) (by simp) (by decide) (fun hHeld => ?_)
              refine AllT.consL rfl (fun K hK => ?_) (AllT.consL rfl (fun K hK => ?_) (AllT.nil))
              · go_simp
                (go_at_call 29; go_split_ands; (with_reducible refine (HR2.out _).mono ?_); rintro e w7 ⟨rfl, hb7⟩; have F4 := Fr.call (by assumption) hb7; (first | (have NA := Lib.hid (Bk.call NA.out hb7)) | skip); (first | (have NB := Lib.hid (Bk.call NB.out hb7)) | skip); clear hb7)
                refine hK.out _ _ ?_ ?_
                · (try dsimp only)
                  ((go_split_ands; refine HALL.out _ ?_; (first | assumption | (repeat (first | assumption | refine Fr.new ?_ _ | refine Fr.drew ?_ | (refine Fr.set ?_ (by first | exact Nat.le_refl _ | omega | (simp; done) | (simp; omega)) (by first | (simp; done) | (simp; omega)) _))); done)))
                clear hK K
                (try simp only [Act.put, List.setIfInBounds_toArray, List.set_cons_zero, List.set_cons_succ])
                refine Tw_all (rs := [12]) (by kernel_rfl) (by simp) (by decide) (fun hHeld => ?_)
                refine AllT.consL rfl (fun K hK => ?_) (AllT.nil)
                · go_simp
                  refine hK.out _ _ ?_ ?_
                  · (try dsimp only)
                    ((go_split_ands; refine HALL.out _ ?_; (first | assumption | (repeat (first | assumption | refine Fr.new ?_ _ | refine Fr.drew ?_ | (refine Fr.set ?_ (by first | exact Nat.le_refl _ | omega | (simp; done) | (simp; omega)) (by first | (simp; done) | (simp; omega)) _))); done)))
                  clear hK K
                  (try simp only [Act.put, List.setIfInBounds_toArray, List.set_cons_zero, List.set_cons_succ])
                  refine Tw_abs ?_
                  intro wA111 hA111
                  (first | (have hAB := Lib.hid (Nat.ne_of_lt NA.out.lt)) | skip)
                  (first | (have NA := Lib.hid (Bk.over_alloc hA111 NA.out)) | (have NA := Lib.hid (Bk.over_alloc_drew hA111 NA.out)) | skip)
                  (first | (have NB := Lib.hid (Bk.of_alloc hA111)) | (have NB := Lib.hid (Bk.of_alloc_drew hA111)))
                  have zB := Lib.hid (show wz.heap.size ≤ _ from hHeld.1.size)
                  clear hA111
                  refine Tw_end (by kernel_rfl) (fun hh => ?_)
                  obtain ⟨F11, _⟩ := hh
                  clear HALL
                  have n0 := NA.out.cell 0
                  have n1 := NA.out.cell 1
                  have m0 := NB.out.cell 0
                  have m1 := NB.out.cell 1
                  have g0 := NA.out.frozen 0
                  have g1 := NA.out.frozen 1
                  have h0 := NB.out.frozen 0
                  have h1 := NB.out.frozen 1
                  have za := NA.out.lt
                  have zb := NB.out.lt
                  have hab := hAB.out
                  have hab2 := hAB.out.symm
                  go_wp2_with fail
                  go_meet
                  first | exact ⟨_, _, rfl, rfl, hAB.out, zA.out, zB.out, two_boxes F11 NA.out NB.out zA.out zB.out hAB.out _ _ _ _⟩ | exact ⟨_, _, rfl, rfl, hAB.out, zA.out, zB.out, (two_boxes F11 NA.out NB.out zA.out zB.out hAB.out _ _ _ _).drew⟩
              · go_simp
                refine hK.out _ _ ?_ ?_
                · (try dsimp only)
                  ((go_split_ands; refine HALL.out _ ?_; (first | assumption | (repeat (first | assumption | refine Fr.new ?_ _ | refine Fr.drew ?_ | (refine Fr.set ?_ (by first | exact Nat.le_refl _ | omega | (simp; done) | (simp; omega)) (by first | (simp; done) | (simp; omega)) _))); done)))
                clear hK K
                (try simp only [Act.put, List.setIfInBounds_toArray, List.set_cons_zero, List.set_cons_succ])
                refine Tw_abs ?_
                intro wA112 hA112
                (first | (have hAB := Lib.hid (Nat.ne_of_lt NA.out.lt)) | skip)
                (first | (have NA := Lib.hid (Bk.over_alloc hA112 NA.out)) | (have NA := Lib.hid (Bk.over_alloc_drew hA112 NA.out)) | skip)
                (first | (have NB := Lib.hid (Bk.of_alloc hA112)) | (have NB := Lib.hid (Bk.of_alloc_drew hA112)))
                have zB := Lib.hid (show wz.heap.size ≤ _ from hHeld.1.size)
                clear hA112
                refine Tw_all (rs := [10]) (by kernel_rfl) (by simp) (by decide) (fun hHeld => ?_)
                refine AllT.consL rfl (fun K hK => ?_) (AllT.nil)
                · go_simp
                  (go_at_call 29; go_split_ands; (with_reducible refine (HR2.out _).mono ?_); rintro e w7 ⟨rfl, hb7⟩; have F4 := Fr.call (by assumption) hb7; (first | (have NA := Lib.hid (Bk.call NA.out hb7)) | skip); (first | (have NB := Lib.hid (Bk.call NB.out hb7)) | skip); clear hb7)
                  refine hK.out _ _ ?_ ?_
                  · (try dsimp only)
                    ((go_split_ands; refine HALL.out _ ?_; (first | assumption | (repeat (first | assumption | refine Fr.new ?_ _ | refine Fr.drew ?_ | (refine Fr.set ?_ (by first | exact Nat.le_refl _ | omega | (simp; done) | (simp; omega)) (by first | (simp; done) | (simp; omega)) _))); done)))
                  clear hK K
                  (try simp only [Act.put, List.setIfInBounds_toArray, List.set_cons_zero, List.set_cons_succ])
                  refine Tw_end (by kernel_rfl) (fun hh => ?_)
                  obtain ⟨F11, _⟩ := hh
                  clear HALL
                  have n0 := NA.out.cell 0
                  have n1 := NA.out.cell 1
                  have m0 := NB.out.cell 0
                  have m1 := NB.out.cell 1
                  have g0 := NA.out.frozen 0
                  have g1 := NA.out.frozen 1
                  have h0 := NB.out.frozen 0
                  have h1 := NB.out.frozen 1
                  have za := NA.out.lt
                  have zb := NB.out.lt
                  have hab := hAB.out
                  have hab2 := hAB.out.symm
                  go_wp2_with fail
                  go_meet
                  first | exact ⟨_, _, rfl, rfl, hAB.out, zA.out, zB.out, two_boxes F11 NA.out NB.out zA.out zB.out hAB.out _ _ _ _⟩ | exact ⟨_, _, rfl, rfl, hAB.out, zA.out, zB.out, (two_boxes F11 NA.out NB.out zA.out zB.out hAB.out _ _ _ _).drew⟩
            · go_simp
              refine hK.out _ _ ?_ ?_
              · (try dsimp only)
                ((go_split_ands; refine HALL.out _ ?_; (first | assumption | (repeat (first | assumption | refine Fr.new ?_ _ | refine Fr.drew ?_ | (refine Fr.set ?_ (by first | exact Nat.le_refl _ | omega | (simp; done) | (simp; omega)) (by first | (simp; done) | (simp; omega)) _))); done)))
              clear hK K
              (try simp only [Act.put, List.setIfInBounds_toArray, List.set_cons_zero, List.set_cons_succ])
              refine Tw_abs ?_
              intro wA114 hA114
              (first | (have hAB := Lib.hid (Nat.ne_of_lt NA.out.lt)) | skip)
              (first | (have NA := Lib.hid (Bk.over_alloc hA114 NA.out)) | (have NA := Lib.hid (Bk.over_alloc_drew hA114 NA.out)) | skip)
              (first | (have NB := Lib.hid (Bk.of_alloc hA114)) | (have NB := Lib.hid (Bk.of_alloc_drew hA114)))
              have zB := Lib.hid (show wz.heap.size ≤ _ from hHeld.1.size)
              clear hA114
              refine Tw_all (rs := [10, 11]) (by kernel_rfl) (by simp) (by decide) (fun hHeld => ?_)
              refine AllT.consL rfl (fun K hK => ?_) (AllT.consL rfl (fun K hK => ?_) (AllT.nil))
              · go_simp
                (go_at_call 29; go_split_ands; (with_reducible refine (HR2.out _).mono ?_); rintro e w7 ⟨rfl, hb7⟩; have F4 := Fr.call (by assumption) hb7; (first | (have NA := Lib.hid (Bk.call NA.out hb7)) | skip); (first | (have NB := Lib.hid (Bk.call NB.out hb7)) | skip); clear hb7)
                refine hK.out _ _ ?_ ?_
                · (try dsimp only)
                  ((go_split_ands; refine HALL.out _ ?_; (first | assumption | (repeat (first | assumption | refine Fr.new ?_ _ | refine Fr.drew ?_ | (refine Fr.set ?_ (by first | exact Nat.le_refl _ | omega | (simp; done) | (simp; omega)) (by first | (simp; done) | (simp; omega)) _))); done)))
                clear hK K
                (try simp only [Act.put, List.setIfInBounds_toArray, List.set_cons_zero, List.set_cons_succ])
                refine Tw_all (rs := [11]) (by kernel_rfl) (by simp) (by decide) (fun hHeld => ?_)
                refine AllT.consL rfl (fun K hK => ?_) (AllT.nil)
                · go_simp
                  refine hK.out _ _ ?_ ?_
                  · (try dsimp only)
                    ((go_split_ands; refine HALL.out _ ?_; (first | assumption | (repeat (first | assumption | refine Fr.new ?_ _ | refine Fr.drew ?_ | (refine Fr.set ?_ (by first | exact Nat.le_refl _ | omega | (simp; done) | (simp; omega)) (by first | (simp; done) | (simp; omega)) _))); done)))
                  clear hK K
                  (try simp only [Act.put, List.setIfInBounds_toArray, List.set_cons_zero, List.set_cons_succ])
                  refine Tw_abs ?_
                  intro wA116 hA116
                  (first | (have hAB := Lib.hid (Nat.ne_of_lt NB.out.lt).symm) | skip)
                  (first | (have NB := Lib.hid (Bk.over_alloc hA116 NB.out)) | (have NB := Lib.hid (Bk.over_alloc_drew hA116 NB.out)) | skip)
                  (first | (have NA := Lib.hid (Bk.of_alloc hA116)) | (have NA := Lib.hid (Bk.of_alloc_drew hA116)))
                  have zA := Lib.hid (show wz.heap.size ≤ _ from hHeld.1.size)
                  clear hA116
                  refine Tw_end (by kernel_rfl) (fun hh => ?_)
                  obtain ⟨F11, _⟩ := hh
                  clear HALL
                  have n0 := NA.out.cell 0
                  have n1 := NA.out.cell 1
                  have m0 := NB.out.cell 0
                  have m1 := NB.out.cell 1
                  have g0 := NA.out.frozen 0
                  have g1 := NA.out.frozen 1
                  have h0 := NB.out.frozen 0
                  have h1 := NB.out.frozen 1
                  have za := NA.out.lt
                  have zb := NB.out.lt
                  have hab := hAB.out
                  have hab2 := hAB.out.symm
                  go_wp2_with fail
                  go_meet
                  first | exact ⟨_, _, rfl, rfl, hAB.out, zA.out, zB.out, two_boxes F11 NA.out NB.out zA.out zB.out hAB.out _ _ _ _⟩ | exact ⟨_, _, rfl, rfl, hAB.out, zA.out, zB.out, (two_boxes F11 NA.out NB.out zA.out zB.out hAB.out _ _ _ _).drew⟩
              · go_simp
                refine hK.out _ _ ?_ ?_
                · (try dsimp only)
                  ((go_split_ands; refine HALL.out _ ?_; (first | assumption | (repeat (first | assumption | refine Fr.new ?_ _ | refine Fr.drew ?_ | (refine Fr.set ?_ (by first | exact Nat.le_refl _ | omega | (simp; done) | (simp; omega)) (by first | (simp; done) | (simp; omega)) _))); done)))
                clear hK K
                (try simp only [Act.put, List.setIfInBounds_toArray, List.set_cons_zero, List.set_cons_succ])
                refine Tw_abs ?_
                intro wA117 hA117
                (first | (have hAB := Lib.hid (Nat.ne_of_lt NB.out.lt).symm) | skip)
                (first | (have NB := Lib.hid (Bk.over_alloc hA117 NB.out)) | (have NB := Lib.hid (Bk.over_alloc_drew hA117 NB.out)) | skip)
                (first | (have NA := Lib.hid (Bk.of_alloc hA117)) | (have NA := Lib.hid (Bk.of_alloc_drew hA117)))
                have zA := Lib.hid (show wz.heap.size ≤ _ from hHeld.1.size)
                clear hA117
                refine Tw_all (rs := [10]) (by kernel_rfl) (by simp) (by decide) (fun hHeld => ?_)
                refine AllT.consL rfl (fun K hK => ?_) (AllT.nil)
                · go_simp
                  (go_at_call 29; go_split_ands; (with_reducible refine (HR2.out _).mono ?_); rintro e w7 ⟨rfl, hb7⟩; have F4 := Fr.call (by assumption) hb7; (first | (have NA := Lib.hid (Bk.call NA.out hb7)) | skip); (first | (have NB := Lib.hid (Bk.call NB.out hb7)) | skip); clear hb7)
                  refine hK.out _ _ ?_ ?_
                  · (try dsimp only)
                    ((go_split_ands; refine HALL.out _ ?_; (first | assumption | (repeat (first | assumption | refine Fr.new ?_ _ | refine Fr.drew ?_ | (refine Fr.set ?_ (by first | exact Nat.le_refl _ | omega | (simp; done) | (simp; omega)) (by first | (simp; done) | (simp; omega)) _))); done)))
                  clear hK K
                  (try simp only [Act.put, List.setIfInBounds_toArray, List.set_cons_zero, List.set_cons_succ])
                  refine Tw_end (by kernel_rfl) (fun hh => ?_)
                  obtain ⟨F11, _⟩ := hh
                  clear HALL
                  have n0 := NA.out.cell 0
                  have n1 := NA.out.cell 1
                  have m0 := NB.out.cell 0
                  have m1 := NB.out.cell 1
                  have g0 := NA.out.frozen 0
                  have g1 := NA.out.frozen 1
                  have h0 := NB.out.frozen 0
                  have h1 := NB.out.frozen 1
                  have za := NA.out.lt
                  have zb := NB.out.lt
                  have hab := hAB.out
                  have hab2 := hAB.out.symm
                  go_wp2_with fail
                  go_meet
                  first | exact ⟨_, _, rfl, rfl, hAB.out, zA.out, zB.out, two_boxes F11 NA.out NB.out zA.out zB.out hAB.out _ _ _ _⟩ | exact ⟨_, _, rfl, rfl, hAB.out, zA.out, zB.out, (two_boxes F11 NA.out NB.out zA.out zB.out hAB.out _ _ _ _).drew⟩
          · go_simp
            refine hK.out _ _ ?_ ?_
            · (try dsimp only)
              ((go_split_ands; refine HALL.out _ ?_; (first | assumption | (repeat (first | assumption | refine Fr.new ?_ _ | refine Fr.drew ?_ | (refine Fr.set ?_ (by first | exact Nat.le_refl _ | omega | (simp; done) | (simp; omega)) (by first | (simp; done) | (simp; omega)) _))); done)))
            clear hK K
            (try simp only [Act.put, List.setIfInBounds_toArray, List.set_cons_zero, List.set_cons_succ])
            refine Tw_abs ?_
            intro wA119 hA119
            (first | (have hAB := Lib.hid (Nat.ne_of_lt NB.out.lt).symm) | skip)
            (first | (have NB := Lib.hid (Bk.over_alloc hA119 NB.out)) | (have NB := Lib.hid (Bk.over_alloc_drew hA119 NB.out)) | skip)
            (first | (have NA := Lib.hid (Bk.of_alloc hA119)) | (have NA := Lib.hid (Bk.of_alloc_drew hA119)))
            have zA := Lib.hid (show wz.heap.size ≤ _ from hHeld.1.size)
            clear hA119
            refine Tw_all (rs := [4, 12]) (by kernel_rfl) (by simp) (by decide) (fun hHeld => ?_)
            refine AllT.consL rfl (fun K hK => ?_) (AllT.consL rfl (fun K hK => ?_) (AllT.nil))
            · go_simp
              (go_at_call 29; go_split_ands; (with_reducible refine (HR1.out _).mono ?_); rintro e w7 ⟨rfl, hb7⟩; have F4 := Fr.call (by assumption) hb7; (first | (have NA := Lib.hid (Bk.call NA.out hb7)) | skip); (first | (have NB := Lib.hid (Bk.call NB.out hb7)) | skip); clear hb7)
              refine hK.out _ _ ?_ ?_
              · (try dsimp only)
                ((go_split_ands; refine HALL.out _ ?_; (first | assumption | (repeat (first | assumption | refine Fr.new ?_ _ | refine Fr.drew ?_ | (refine Fr.set ?_ (by first | exact Nat.le_refl _ | omega | (simp; done) | (simp; omega)) (by first | (simp; done) | (simp; omega)) _))); done)))
              clear hK K
              (try simp only [Act.put, List.setIfInBounds_toArray, List.set_cons_zero, List.set_cons_succ])
              refine Tw_all (rs := [10, 12]) (by kernel_rfl) (by simp) (by decide) (fun hHeld => ?_)
              refine AllT.consL rfl (fun K hK => ?_) (AllT.consL rfl (fun K hK => ?_) (AllT.nil))
              · go_simp
                (go_at_call 29; go_split_ands; (with_reducible refine (HR2.out _).mono ?_); rintro e w7 ⟨rfl, hb7⟩; have F4 := Fr.call (by assumption) hb7; (first | (have NA := Lib.hid (Bk.call NA.out hb7)) | skip); (first | (have NB := Lib.hid (Bk.call NB.out hb7)) | skip); clear hb7)
                refine hK.out _ _ ?_ ?_
                · (try dsimp only)
                  ((go_split_ands; refine HALL.out _ ?_; (first | assumption | (repeat (first | assumption | refine Fr.new ?_ _ | refine Fr.drew ?_ | (refine Fr.set ?_ (by first | exact Nat.le_refl _ | omega | (simp; done) | (simp; omega)) (by first | (simp; done) | (simp; omega)) _))); done)))
                clear hK K
                (try simp only [Act.put, List.setIfInBounds_toArray, List.set_cons_zero, List.set_cons_succ])
                refine Tw_all (rs := [12]) (by kernel_rfl) (by simp) (by decide) (fun hHeld => ?_)
                refine AllT.consL rfl (fun K hK => ?_) (AllT.nil)
                · go_simp
                  refine hK.out _ _ ?_ ?_
                  · (try dsimp only)
                    ((go_split_ands; refine HALL.out _ ?_; (first | assumption | (repeat (first | assumption | refine Fr.new ?_ _ | refine Fr.drew ?_ | (refine Fr.set ?_ (by first | exact Nat.le_refl _ | omega | (simp; done) | (simp; omega)) (by first | (simp; done) | (simp; omega)) _))); done)))
                  clear hK K
                  (try simp only [Act.put, List.setIfInBounds_toArray, List.set_cons_zero, List.set_cons_succ])
                  refine Tw_abs ?_
                  intro wA122 hA122
                  (first | (have hAB := Lib.hid (Nat.ne_of_lt NA.out.lt)) | skip)
                  (first | (have NA := Lib.hid (Bk.over_alloc hA122 NA.out)) | (have NA := Lib.hid (Bk.over_alloc_drew hA122 NA.out)) | skip)
                  (first | (have NB := Lib.hid (Bk.of_alloc hA122)) | (have NB := Lib.hid (Bk.of_alloc_drew hA122)))
                  have zB := Lib.hid (show wz.heap.size ≤ _ from hHeld.1.size)
                  clear hA122
                  refine Tw_end (by kernel_rfl) (fun hh => ?_)
                  obtain ⟨F11, _⟩ := hh
                  clear HALL
                  have n0 := NA.out.cell 0
                  have n1 := NA.out.cell 1
                  have m0 := NB.out.cell 0
                  have m1 := NB.out.cell 1
                  have g0 := NA.out.frozen 0
                  have g1 := NA.out.frozen 1
                  have h0 := NB.out.frozen 0
                  have h1 := NB.out.frozen 1
                  have za := NA.out.lt
                  have zb := NB.out.lt
                  have hab := hAB.out
                  have hab2 := hAB.out.symm
                  go_wp2_with fail
                  go_meet
                  first | exact ⟨_, _, rfl, rfl, hAB.out, zA.out, zB.out, two_boxes F11 NA.out NB.out zA.out zB.out hAB.out _ _ _ _⟩ | exact ⟨_, _, rfl, rfl, hAB.out, zA.out, zB.out, (two_boxes F11 NA.out NB.out zA.out zB.out hAB.out _ _ _ _).drew⟩
              · go_simp
                refine hK.out _ _ ?_ ?_
                · (try dsimp only)
                  ((go_split_ands; refine HALL.out _ ?_; (first | assumption | (repeat (first | assumption | refine Fr.new ?_ _ | refine Fr.drew ?_ | (refine Fr.set ?_ (by first | exact Nat.le_refl _ | omega | (simp; done) | (simp; omega)) (by first | (simp; done) | (simp; omega)) _))); done)))
                clear hK K
                (try simp only [Act.put, List.setIfInBounds_toArray, List.set_cons_zero, List.set_cons_succ])
                refine Tw_abs ?_
                intro wA123 hA123
                (first | (have hAB := Lib.hid (Nat.ne_of_lt NA.out.lt)) | skip)
                (first | (have NA := Lib.hid (Bk.over_alloc hA123 NA.out)) | (have NA := Lib.hid (Bk.over_alloc_drew hA123 NA.out)) | skip)
                (first | (have NB := Lib.hid (Bk.of_alloc hA123)) | (have NB := Lib.hid (Bk.of_alloc_drew hA123)))
                have zB := Lib.hid (show wz.heap.size ≤ _ from hHeld.1.size)
                clear hA123
                refine Tw_all (rs := [10]) (by kernel_rfl) (by simp) (by decide) (fun hHeld => ?_)
                refine AllT.consL rfl (fun K hK => ?_) (AllT.nil)
                · go_simp
                  (go_at_call 29; go_split_ands; (with_reducible refine (HR2.out _).mono ?_); rintro e w7 ⟨rfl, hb7⟩; have F4 := Fr.call (by assumption) hb7; (first | (have NA := Lib.hid (Bk.call NA.out hb7)) | skip); (first | (have NB := Lib.hid (Bk.call NB.out hb7)) | skip); clear hb7)
                  refine hK.out _ _ ?_ ?_
                  · (try dsimp only)
                    ((go_split_ands; refine HALL.out _ ?_; (first | assumption | (repeat (first | assumption | refine Fr.new ?_ _ | refine Fr.drew ?_ | (refine Fr.set ?_ (by first | exact Nat.le_refl _ | omega | (simp; done) | (simp; omega)) (by first | (simp; done) | (simp; omega)) _))); done)))
                  clear hK K
                  (try simp only [Act.put, List.setIfInBounds_toArray, List.set_cons_zero, List.set_cons_succ])
                  refine Tw_end (by kernel_rfl) (fun hh => ?_)
                  obtain ⟨F11, _⟩ := hh
                  clear HALL
                  have n0 := NA.out.cell 0
                  have n1 := NA.out.cell 1
                  have m0 := NB.out.cell 0
                  have m1 := NB.out.cell 1
                  have g0 := NA.out.frozen 0
                  have g1 := NA.out.frozen 1
                  have h0 := NB.out.frozen 0
                  have h1 := NB.out.frozen 1
                  have za := NA.out.lt
                  have zb := NB.out.lt
                  have hab := hAB.out
                  have hab2 := hAB.out.symm
                  go_wp2_with fail
                  go_meet
                  first | exact ⟨_, _, rfl, rfl, hAB.out, zA.out, zB.out, two_boxes F11 NA.out NB.out zA.out zB.out hAB.out _ _ _ _⟩ | exact ⟨_, _, rfl, rfl, hAB.out, zA.out, zB.out, (two_boxes F11 NA.out NB.out zA.out zB.out hAB.out _ _ _ _).drew⟩
            · go_simp
              refine hK.out _ _ ?_ ?_
              · (try dsimp only)
                ((go_split_ands; refine HALL.out _ ?_; (first | assumption | (repeat (first | assumption | refine Fr.new ?_ _ | refine Fr.drew ?_ | (refine Fr.set ?_ (by first | exact Nat.le_refl _ | omega | (simp; done) | (simp; omega)) (by first | (simp; done) | (simp; omega)) _))); done)))
              clear hK K
              (try simp only [Act.put, List.setIfInBounds_toArray, List.set_cons_zero, List.set_cons_succ])
              refine Tw_abs ?_
              intro wA125 hA125
              (first | (have hAB := Lib.hid (Nat.ne_of_lt NA.out.lt)) | skip)
              (first | (have NA := Lib.hid (Bk.over_alloc hA125 NA.out)) | (have NA := Lib.hid (Bk.over_alloc_drew hA125 NA.out)) | skip)
              (first | (have NB := Lib.hid (Bk.of_alloc hA125)) | (have NB := Lib.hid (Bk.of_alloc_drew hA125)))
              have zB := Lib.hid (show wz.heap.size ≤ _ from hHeld.1.size)
              clear hA125
              refine Tw_all (rs := [4]) (by kernel_rfl) (by simp) (by decide) (fun hHeld => ?_)
              refine AllT.consL rfl (fun K hK => ?_) (AllT.nil)
              · go_simp
                (go_at_call 29; go_split_ands; (with_reducible refine (HR1.out _).mono ?_); rintro e w7 ⟨rfl, hb7⟩; have F4 := Fr.call (by assumption) hb7; (first | (have NA := Lib.hid (Bk.call NA.out hb7)) | skip); (first | (have NB := Lib.hid (Bk.call NB.out hb7)) | skip); clear hb7)
                refine hK.out _ _ ?_ ?_
                · (try dsimp only)
                  ((go_split_ands; refine HALL.out _ ?_; (first | assumption | (repeat (first | assumption | refine Fr.new ?_ _ | refine Fr.drew ?_ | (refine Fr.set ?_ (by first | exact Nat.le_refl _ | omega | (simp; done) | (simp; omega)) (by first | (simp; done) | (simp; omega)) _))); done)))
                clear hK K
                (try simp only [Act.put, List.setIfInBounds_toArray, List.set_cons_zero, List.set_cons_succ])
                refine Tw_all (rs := [10]) (by kernel_rfl) (by simp) (by decide) (fun hHeld => ?_)
                refine AllT.consL rfl (fun K hK => ?_) (AllT.nil)
                · go_simp
                  (go_at_call 29; go_split_ands; (with_reducible refine (HR2.out _).mono ?_); rintro e w7 ⟨rfl, hb7⟩; have F4 := Fr.call (by assumption) hb7; (first | (have NA := Lib.hid (Bk.call NA.out hb7)) | skip); (first | (have NB := Lib.hid (Bk.call NB.out hb7)) | skip); clear hb7)
                  refine hK.out _ _ ?_ ?_
                  · (try dsimp only)
                    ((go_split_ands; refine HALL.out _ ?_; (first | assumption | (repeat (first | assumption | refine Fr.new ?_ _ | refine Fr.drew ?_ | (refine Fr.set ?_ (by first | exact Nat.le_refl _ | omega | (simp; done) | (simp; omega)) (by first | (simp; done) | (simp; omega)) _))); done)))
                  clear hK K
                  (try simp only [Act.put, List.setIfInBounds_toArray, List.set_cons_zero, List.set_cons_succ])
                  refine Tw_end (by kernel_rfl) (fun hh => ?_)
                  obtain ⟨F11, _⟩ := hh
                  clear HALL
                  have n0 := NA.out.cell 0
                  have n1 := NA.out.cell 1
                  have m0 := NB.out.cell 0
                  have m1 := NB.out.cell 1
                  have g0 := NA.out.frozen 0
                  have g1 := NA.out.frozen 1
                  have h0 := NB.out.frozen 0
                  have h1 := NB.out.frozen 1
                  have za := NA.out.lt
                  have zb := NB.out.lt
                  have hab := hAB.out
                  have hab2 := hAB.out.symm
                  go_wp2_with fail
                  go_meet
                  first | exact ⟨_, _, rfl, rfl, hAB.out, zA.out, zB.out, two_boxes F11 NA.out NB.out zA.out zB.out hAB.out _ _ _ _⟩ | exact ⟨_, _, rfl, rfl, hAB.out, zA.out, zB.out, (two_boxes F11 NA.out NB.out zA.out zB.out hAB.out _ _ _ _).drew⟩
          · go_simp
            refine hK.out _ _ ?_ ?_
            · (try dsimp only)
              ((go_split_ands; refine HALL.out _ ?_; (first | assumption | (repeat (first | assumption | refine Fr.new ?_ _ | refine Fr.drew ?_ | (refine Fr.set ?_ (by first | exact Nat.le_refl _ | omega | (simp; done) | (simp; omega)) (by first | (simp; done) | (simp; omega)) _))); done)))
            clear hK K
            (try simp only [Act.put, List.setIfInBounds_toArray, List.set_cons_zero, List.set_cons_succ])
            refine Tw_abs ?_
            intro wA128 hA128
            (first | (have hAB := Lib.hid (Nat.ne_of_lt NA.out.lt)) | skip)
            (first | (have NA := Lib.hid (Bk.over_alloc hA128 NA.out)) | (have NA := Lib.hid (Bk.over_alloc_drew hA128 NA.out)) | skip)
            (first | (have NB := Lib.hid (Bk.of_alloc hA128)) | (have NB := Lib.hid (Bk.of_alloc_drew hA128)))
            have zB := Lib.hid (show wz.heap.size ≤ _ from hHeld.1.size)
            clear hA128
            refine Tw_all (rs := [4, 11]) (by kernel_rfl) (by simp) (by decide) (fun hHeld => ?_)
            refine AllT.consL rfl (fun K hK => ?_) (AllT.consL rfl (fun K hK => ?_) (AllT.nil))
            · go_simp
              (go_at_call 29; go_split_ands; (with_reducible refine (HR1.out _).mono ?_); rintro e w7 ⟨rfl, hb7⟩; have F4 := Fr.call (by assumption) hb7; (first | (have NA := Lib.hid (Bk.call NA.out hb7)) | skip); (first | (have NB := Lib.hid (Bk.call NB.out hb7)) | skip); clear hb7)
              refine hK.out _ _ ?_ ?_
              · (try dsimp only)
                ((go_split_ands; refine HALL.out _ ?_; (first | assumption | (repeat (first | assumption | refine Fr.new ?_ _ | refine Fr.drew ?_ | (refine Fr.set ?_ (by first | exact Nat.le_refl _ | omega | (simp; done) | (simp; omega)) (by first | (simp; done) | (simp; omega)) _))); done)))
              clear hK K
              (try simp only [Act.put, List.setIfInBounds_toArray, List.set_cons_zero, List.set_cons_succ])
              refine Tw_all (rs := [10, 11]) (by kernel_rfl) (by simp) (by decide) (fun hHeld => ?_)
              refine AllT.consL rfl (fun K hK => ?_) (AllT.consL rfl (fun K hK => ?_) (AllT.nil))
              · go_simp
                (go_at_call 29; go_split_ands; (with_reducible refine (HR2.out _).mono ?_); rintro e w7 ⟨rfl, hb7⟩; have F4 := Fr.call (by assumption) hb7; (first | (have NA := Lib.hid (Bk.call NA.out hb7)) | skip); (first | (have NB := Lib.hid (Bk.call NB.out hb7)) | skip); clear hb7)
                refine hK.out _ _ ?_ ?_
                · (try dsimp only)
                  ((go_split_ands; refine HALL.out _ ?_; (first | assumption | (repeat (first | assumption | refine Fr.new ?_ _ | refine Fr.drew ?_ | (refine Fr.set ?_ (by first | exact Nat.le_refl _ | omega | (simp; done) | (simp; omega)) (by first | (simp; done) | (simp; omega)) _))); done)))
                clear hK K
                (try simp only [Act.put, List.setIfInBounds_toArray, List.set_cons_zero, List.set_cons_succ])
                refine Tw_all (rs := [11]) (by kernel_rfl) (by simp) (by decide) (fun hHeld => ?_)
                refine AllT.consL rfl (fun K hK => ?_) (AllT.nil)
                · go_simp
                  refine hK.out _ _ ?_ ?_
                  · (try dsimp only)
                    ((go_split_ands; refine HALL.out _ ?_; (first | assumption | (repeat (first | assumption | refine Fr.new ?_ _ | refine Fr.drew ?_ | (refine Fr.set ?_ (by first | exact Nat.le_refl _ | omega | (simp; done) | (simp; omega)) (by first | (simp; done) | (simp; omega)) _))); done)))
                  clear hK K
                  (try simp only [Act.put, List.setIfInBounds_toArray, List.set_cons_zero, List.set_cons_succ])
                  refine Tw_abs ?_
                  intro wA131 hA131
                  (first | (have hAB := Lib.hid (Nat.ne_of_lt NB.out.lt).symm) | skip)
                  (first | (have NB := Lib.hid (Bk.over_alloc hA131 NB.out)) | (have NB := Lib.hid (Bk.over_alloc_drew hA131 NB.out)) | skip)
                  (first | (have NA := Lib.hid (Bk.of_alloc hA131)) | (have NA := Lib.hid (Bk.of_alloc_drew hA131)))
                  have zA := Lib.hid (show wz.heap.size ≤ _ from hHeld.1.size)
                  clear hA131
                  refine Tw_end (by kernel_rfl) (fun hh => ?_)
                  obtain ⟨F11, _⟩ := hh
                  clear HALL
                  have n0 := NA.out.cell 0
                  have n1 := NA.out.cell 1
                  have m0 := NB.out.cell 0
                  have m1 := NB.out.cell 1
                  have g0 := NA.out.frozen 0
                  have g1 := NA.out.frozen 1
                  have h0 := NB.out.frozen 0
                  have h1 := NB.out.frozen 1
                  have za := NA.out.lt
                  have zb := NB.out.lt
                  have hab := hAB.out
                  have hab2 := hAB.out.symm
                  go_wp2_with fail
                  go_meet
                  first | exact ⟨_, _, rfl, rfl, hAB.out, zA.out, zB.out, two_boxes F11 NA.out NB.out zA.out zB.out hAB.out _ _ _ _⟩ | exact ⟨_, _, rfl, rfl, hAB.out, zA.out, zB.out, (two_boxes F11 NA.out NB.out zA.out zB.out hAB.out _ _ _ _).drew⟩
              · go_simp
                refine hK.out _ _ ?_ ?_
                · (try dsimp only)
                  ((go_split_ands; refine HALL.out _ ?_; (first | assumption | (repeat (first | assumption | refine Fr.new ?_ _ | refine Fr.drew ?_ | (refine Fr.set ?_ (by first | exact Nat.le_refl _ | omega | (simp; done) | (simp; omega)) (by first | (simp; done) | (simp; omega)) _))); done)))
                clear hK K
                (try simp only [Act.put, List.setIfInBounds_toArray, List.set_cons_zero, List.set_cons_succ])
                refine Tw_abs ?_
                intro wA132 hA132
                (first | (have hAB := Lib.hid (Nat.ne_of_lt NB.out.lt).symm) | skip)
                (first | (have NB := Lib.hid (Bk.over_alloc hA132 NB.out)) | (have NB := Lib.hid (Bk.over_alloc_drew hA132 NB.out)) | skip)
                (first | (have NA := Lib.hid (Bk.of_alloc hA132)) | (have NA := Lib.hid (Bk.of_alloc_drew hA132)))
                have zA := Lib.hid (show wz.heap.size ≤ _ from hHeld.1.size)
                clear hA132
                refine Tw_all (rs := [10]) (by kernel_rfl) (by simp) (by decide) (fun hHeld => ?_)
                refine AllT.consL rfl (fun K hK => ?_) (AllT.nil)
                · go_simp
                  (go_at_call 29; go_split_ands; (with_reducible refine (HR2.out _).mono ?_); rintro e w7 ⟨rfl, hb7⟩; have F4 := Fr.call (by assumption) hb7; (first | (have NA := Lib.hid (Bk.call NA.out hb7)) | skip); (first | (have NB := Lib.hid (Bk.call NB.out hb7)) | skip); clear hb7)
                  refine hK.out _ _ ?_ ?_
                  · (try dsimp only)
                    ((go_split_ands; refine HALL.out _ ?_; (first | assumption | (repeat (first | assumption | refine Fr.new ?_ _ | refine Fr.drew ?_ | (refine Fr.set ?_ (by first | exact Nat.le_refl _ | omega | (simp; done) | (simp; omega)) (by first | (simp; done) | (simp; omega)) _))); done)))
                  clear hK K
                  (try simp only [Act.put, List.setIfInBounds_toArray, List.set_cons_zero, List.set_cons_succ])
                  refine Tw_end (by kernel_rfl) (fun hh => ?_)
                  obtain ⟨F11, _⟩ := hh
                  clear HALL
                  have n0 := NA.out.cell 0
                  have n1 := NA.out.cell 1
                  have m0 := NB.out.cell 0
                  have m1 := NB.out.cell 1
                  have g0 := NA.out.frozen 0
                  have g1 := NA.out.frozen 1
                  have h0 := NB.out.frozen 0
                  have h1 := NB.out.frozen 1
                  have za := NA.out.lt
                  have zb := NB.out.lt
                  have hab := hAB.out
                  have hab2 := hAB.out.symm
                  go_wp2_with fail
                  go_meet
                  first | exact ⟨_, _, rfl, rfl, hAB.out, zA.out, zB.out, two_boxes F11 NA.out NB.out zA.out zB.out hAB.out _ _ _ _⟩ | exact ⟨_, _, rfl, rfl, hAB.out, zA.out, zB.out, (two_boxes F11 NA.out NB.out zA.out zB.out hAB.out _ _ _ _).drew⟩
            · go_simp
              refine hK.out _ _ ?_ ?_
              · (try dsimp only)
                ((go_split_ands; refine HALL.out _ ?_; (first | assumption | (repeat (first | assumption | refine Fr.new ?_ _ | refine Fr.drew ?_ | (refine Fr.set ?_ (by first | exact Nat.le_refl _ | omega | (simp; done) | (simp; omega)) (by first | (simp; done) | (simp; omega)) _))); done)))
              clear hK K
              (try simp only [Act.put, List.setIfInBounds_toArray, List.set_cons_zero, List.set_cons_succ])
              refine Tw_abs ?_
              intro wA134 hA134
              (first | (have hAB := Lib.hid (Nat.ne_of_lt NB.out.lt).symm) | skip)
              (first | (have NB := Lib.hid (Bk.over_alloc hA134 NB.out)) | (have NB := Lib.hid (Bk.over_alloc_drew hA134 NB.out)) | skip)
              (first | (have NA := Lib.hid (Bk.of_alloc hA134)) | (have NA := Lib.hid (Bk.of_alloc_drew hA134)))
              have zA := Lib.hid (show wz.heap.size ≤ _ from hHeld.1.size)
              clear hA134
              refine Tw_all (rs := [4]) (by kernel_rfl) (by simp) (by decide) (fun hHeld => ?_)
              refine AllT.consL rfl (fun K hK => ?_) (AllT.nil)
              · go_simp
                (go_at_call 29; go_split_ands; (with_reducible refine (HR1.out _).mono ?_); rintro e w7 ⟨rfl, hb7⟩; have F4 := Fr.call (by assumption) hb7; (first | (have NA := Lib.hid (Bk.call NA.out hb7)) | skip); (first | (have NB := Lib.hid (Bk.call NB.out hb7)) | skip); clear hb7)
                refine hK.out _ _ ?_ ?_
                · (try dsimp only)
                  ((go_split_ands; refine HALL.out _ ?_; (first | assumption | (repeat (first | assumption | refine Fr.new ?_ _ | refine Fr.drew ?_ | (refine Fr.set ?_ (by first | exact Nat.le_refl _ | omega | (simp; done) | (simp; omega)) (by first | (simp; done) | (simp; omega)) _))); done)))
                clear hK K
                (try simp only [Act.put, List.setIfInBounds_toArray, List.set_cons_zero, List.set_cons_succ])
                refine Tw_all (rs := [10]) (by kernel_rfl) (by simp) (by decide) (fun hHeld => ?_)
                refine AllT.consL rfl (fun K hK => ?_) (AllT.nil)
                · go_simp
                  (go_at_call 29; go_split_ands; (with_reducible refine (HR2.out _).mono ?_); rintro e w7 ⟨rfl, hb7⟩; have F4 := Fr.call (by assumption) hb7; (first | (have NA := Lib.hid (Bk.call NA.out hb7)) | skip); (first | (have NB := Lib.hid (Bk.call NB.out hb7)) | skip); clear hb7)
                  refine hK.out _ _ ?_ ?_
                  · (try dsimp only)
                    ((go_split_ands; refine HALL.out _ ?_; (first | assumption | (repeat (first | assumption | refine Fr.new ?_ _ | refine Fr.drew ?_ | (refine Fr.set ?_ (by first | exact Nat.le_refl _ | omega | (simp; done) | (simp; omega)) (by first | (simp; done) | (simp; omega)) _))); done)))
                  clear hK K
                  (try simp only [Act.put, List.setIfInBounds_toArray, List.set_cons_zero, List.set_cons_succ])
                  refine Tw_end (by kernel_rfl) (fun hh => ?_)
                  obtain ⟨F11, _⟩ := hh
                  clear HALL
                  have n0 := NA.out.cell 0
                  have n1 := NA.out.cell 1
                  have m0 := NB.out.cell 0
                  have m1 := NB.out.cell 1
                  have g0 := NA.out.frozen 0
                  have g1 := NA.out.frozen 1
                  have h0 := NB.out.frozen 0
                  have h1 := NB.out.frozen 1
                  have za := NA.out.lt
                  have zb := NB.out.lt
                  have hab := hAB.out
                  have hab2 := hAB.out.symm
                  go_wp2_with fail
                  go_meet
                  first | exact ⟨_, _, rfl, rfl, hAB.out, zA.out, zB.out, two_boxes F11 NA.out NB.out zA.out zB.out hAB.out _ _ _ _⟩ | exact ⟨_, _, rfl, rfl, hAB.out, zA.out, zB.out, (two_boxes F11 NA.out NB.out zA.out zB.out hAB.out _ _ _ _).drew⟩
        case rest =>
        obtain ⟨wv, rfl⟩ : ∃ W, W = wc := ⟨_, rfl⟩
        obtain ⟨gA, gB, rfl, rfl, hAB, zA, zB, hx⟩ := hcut
        have HNE : Hid (∀ b' ∈ ([(gB, 48, #[.int .i64 L2, .int .i64 U2]), (gA, 48, #[.int .i64 L1, .int .i64 U1]), (gz, 54, #[.int .i64 pl, .int .i64 pg, .int .i64 pm, .bool pv0]), (g, 57, #[.string s, .slice (some a) ps.length c]), (w.heap.size + 1, 48, #[.int .i64 0, .int .i64 0]), (w.heap.size, 24, #[.string s, .slice (some a) ps.length c])] : List (Nat × TypeId × Array Value)), b'.1 ≠ wx.heap.size) := Lib.hid (fun b' hb' => by
          rcases List.mem_cons.1 hb' with rfl | hb'
          · show gB ≠ _; omega
          · rcases List.mem_cons.1 hb' with rfl | hb'
            · show gA ≠ _; omega
            · rcases List.mem_cons.1 hb' with rfl | hb'
              · show gz ≠ _; omega
              · have := HOLD.out b' hb'; omega)
        have FZ3 := FZ2.out.call hx.bl
        have F7 : Hid (Fr w wv ((wx.heap.size, 48, #[.int .i64 lo, .int .i64 hi]) :: [(gB, 48, #[.int .i64 L2, .int .i64 U2]), (gA, 48, #[.int .i64 L1, .int .i64 U1]), (gz, 54, #[.int .i64 pl, .int .i64 pg, .int .i64 pm, .bool pv0]), (g, 57, #[.string s, .slice (some a) ps.length c]), (w.heap.size + 1, 48, #[.int .i64 0, .int .i64 0]), (w.heap.size, 24, #[.string s, .slice (some a) ps.length c])])) := Lib.hid ((((FZ3.tail.more (HZ2.out.call hx.bl).top).more hx.tail.top).more hx.top).more FZ3.top)
        clear hx FZ3 FZ2 HZ2 cx cy
        go_upto_region 11 with fail
        go_cut [] from 60 to 72 (fun W => Fr w W ((wx.heap.size, 48, #[.int .i64 (lo + d1), .int .i64 hi]) :: [(gB, 48, #[.int .i64 L2, .int .i64 U2]), (gA, 48, #[.int .i64 L1, .int .i64 U1]), (gz, 54, #[.int .i64 pl, .int .i64 pg, .int .i64 pm, .bool pv0]), (g, 57, #[.string s, .slice (some a) ps.length c]), (w.heap.size + 1, 48, #[.int .i64 0, .int .i64 0]), (w.heap.size, 24, #[.string s, .slice (some a) ps.length c])]))
        case first =>
          have HALL : Hid (∀ W, Fr w W ((wx.heap.size, 48, #[.int .i64 lo, .int .i64 hi]) :: [(gB, 48, #[.int .i64 L2, .int .i64 U2]), (gA, 48, #[.int .i64 L1, .int .i64 U1]), (gz, 54, #[.int .i64 pl, .int .i64 pg, .int .i64 pm, .bool pv0]), (g, 57, #[.string s, .slice (some a) ps.length c]), (w.heap.size + 1, 48, #[.int .i64 0, .int .i64 0]), (w.heap.size, 24, #[.string s, .slice (some a) ps.length c])]) → Fr w W ((wx.heap.size, 48, #[.int .i64 lo, .int .i64 hi]) :: [(gB, 48, #[.int .i64 L2, .int .i64 U2]), (gA, 48, #[.int .i64 L1, .int .i64 U1]), (gz, 54, #[.int .i64 pl, .int .i64 pg, .int .i64 pm, .bool pv0]), (g, 57, #[.string s, .slice (some a) ps.length c]), (w.heap.size + 1, 48, #[.int .i64 0, .int .i64 0]), (w.heap.size, 24, #[.string s, .slice (some a) ps.length c])]) ∧ W.cell? ⟨wx.heap.size, 0, none⟩ = some (.int .i64 lo) ∧ W.cell? ⟨gz, 0, none⟩ = some (.int .i64 pl) ∧ W.cell? ⟨gA, 1, none⟩ = some (.int .i64 U1) ∧ W.cell? ⟨gB, 1, none⟩ = some (.int .i64 U2)) := Lib.hid (fun W hW => ⟨hW, hW.top.cell 0, (hW.get 3 rfl).cell 0, (hW.get 2 rfl).cell 1, (hW.get 1 rfl).cell 1⟩)
          have F10 : Fr w _ ((wx.heap.size, 48, #[.int .i64 lo, .int .i64 hi]) :: [(gB, 48, #[.int .i64 L2, .int .i64 U2]), (gA, 48, #[.int .i64 L1, .int .i64 U1]), (gz, 54, #[.int .i64 pl, .int .i64 pg, .int .i64 pm, .bool pv0]), (g, 57, #[.string s, .slice (some a) ps.length c]), (w.heap.size + 1, 48, #[.int .i64 0, .int .i64 0]), (w.heap.size, 24, #[.string s, .slice (some a) ps.length c])]) := F7.out
          refine Tw_start 13 (fun W => Fr w W ((wx.heap.size, 48, #[.int .i64 lo, .int .i64 hi]) :: [(gB, 48, #[.int .i64 L2, .int .i64 U2]), (gA, 48, #[.int .i64 L1, .int .i64 U1]), (gz, 54, #[.int .i64 pl, .int .i64 pg, .int .i64 pm, .bool pv0]), (g, 57, #[.string s, .slice (some a) ps.length c]), (w.heap.size + 1, 48, #[.int .i64 0, .int .i64 0]), (w.heap.size, 24, #[.string s, .slice (some a) ps.length c])]) ∧ W.cell? ⟨wx.heap.size, 0, none⟩ = some (.int .i64 lo) ∧ W.cell? ⟨gz, 0, none⟩ = some (.int .i64 pl) ∧ W.cell? ⟨gA, 1, none⟩ = some (.int .i64 U1) ∧ W.cell? ⟨gB, 1, none⟩ = some (.int .i64 U2)) (by kernel_rfl) (by kernel_rfl) rfl ?_ ?_
          · (try dsimp only)
            ((go_split_ands; refine HALL.out _ ?_; (first | assumption | (repeat (first | assumption | refine Fr.new ?_ _ | refine Fr.drew ?_ | (refine Fr.set ?_ (by first | exact Nat.le_refl _ | omega | (simp; done) | (simp; omega)) (by first | (simp; done) | (simp; omega)) _))); done)))
          refine Tw_abs ?_
          intro wD hD
          clear hD
          refine Tw_takeL (i := 0) (v := ?tv104) rfl (by kernel_rfl) (by decide) (by kernel_rfl) (by kernel_rfl) (fun _ _ _ h => h) (by rfl) ?ty104 ?tn104
          case ty104 => (intro w hSw; (try dsimp only at hSw); go_simp <;> with_reducible rfl)
          (try simp only [Act.put, List.setIfInBounds_toArray, List.set_cons_zero, List.set_cons_succ])
          refine Tw_takeL (i := 1) (v := ?tv105) rfl (by kernel_rfl) (by decide) (by kernel_rfl) (by kernel_rfl) (fun _ _ _ h => h) (by rfl) ?ty105 ?tn105
          case ty105 => (intro w hSw; (try dsimp only at hSw); go_simp <;> with_reducible rfl)
          (try simp only [Act.put, List.setIfInBounds_toArray, List.set_cons_zero, List.set_cons_succ])
          refine Tw_takeL (i := 2) (v := ?tv106) rfl (by kernel_rfl) (by decide) (by kernel_rfl) (by kernel_rfl) (fun _ _ _ h => h) (by rfl) ?ty106 ?tn106
          case ty106 => (intro w hSw; (try dsimp only at hSw); go_simp <;> with_reducible rfl)
          (try simp only [Act.put, List.setIfInBounds_toArray, List.set_cons_zero, List.set_cons_succ])
          refine Tw_takeL (i := 3) (v := ?tv107) rfl (by kernel_rfl) (by decide) (by kernel_rfl) (by kernel_rfl) (fun _ _ _ h => h) (by rfl) ?ty107 ?tn107
          case ty107 => (intro w hSw; (try dsimp only at hSw); go_simp <;> with_reducible rfl)
          (try simp only [Act.put, List.setIfInBounds_toArray, List.set_cons_zero, List.set_cons_succ])
          refine Tw_takeL (i := 4) (v := ?tv108) rfl (by kernel_rfl) (by decide) (by kernel_rfl) (by kernel_rfl) (fun _ _ _ h => h) (by rfl) ?ty108 ?tn108
          case ty108 => (intro w hSw; (try dsimp only at hSw); go_simp <;> with_reducible rfl)
          (try simp only [Act.put, List.setIfInBounds_toArray, List.set_cons_zero, List.set_cons_succ])
          refine Tw_takeL (i := 5) (v := ?tv109) rfl (by kernel_rfl) (by decide) (by kernel_rfl) (by kernel_rfl) (fun _ _ _ h => h) (by rfl) ?ty109 ?tn109
          case ty109 => (intro w hSw; (try dsimp only at hSw); go_simp <;> with_reducible rfl)
          (try simp only [Act.put, List.setIfInBounds_toArray, List.set_cons_zero, List.set_cons_succ])
          refine Tw_takeL (i := 6) (v := ?tv110) rfl (by kernel_rfl) (by decide) (by kernel_rfl) (by kernel_rfl) (fun _ _ _ h => h) (by rfl) ?ty110 ?tn110
          case ty110 => (intro w hSw; (try dsimp only at hSw); go_simp <;> with_reducible rfl)
          (try simp only [Act.put, List.setIfInBounds_toArray, List.set_cons_zero, List.set_cons_succ])
          refine Tw_takeL (i := 7) (v := ?tv111) rfl (by kernel_rfl) (by decide) (by kernel_rfl) (by kernel_rfl) (fun _ _ _ h => h) (by rfl) ?ty111 ?tn111
          case ty111 => (intro w hSw; (try dsimp only at hSw); go_simp <;> with_reducible rfl)
          (try simp only [Act.put, List.setIfInBounds_toArray, List.set_cons_zero, List.set_cons_succ])
          refine Tw_takeL (i := 8) (v := ?tv112) rfl (by kernel_rfl) (by decide) (by kernel_rfl) (by kernel_rfl) (fun _ _ _ h => h) (by rfl) ?ty112 ?tn112
          case ty112 => (intro w hSw; (try dsimp only at hSw); go_simp <;> with_reducible rfl)
          (try simp only [Act.put, List.setIfInBounds_toArray, List.set_cons_zero, List.set_cons_succ])
          refine Tw_takeL (i := 9) (v := ?tv113) rfl (by kernel_rfl) (by decide) (by kernel_rfl) (by kernel_rfl) (fun _ _ _ h => h) (by rfl) ?ty113 ?tn113
          case ty113 => (intro w hSw; (try dsimp only at hSw); go_simp <;> with_reducible rfl)
          (try simp only [Act.put, List.setIfInBounds_toArray, List.set_cons_zero, List.set_cons_succ])
          refine Tw_all (rs := [10]) (by kernel_rfl) (by simp) (by decide) (fun hHeld => ?_)
          refine AllT.consL rfl (fun K hK => ?_) AllT.nil
          go_simp
          (go_at_call 30; go_split_ands; (with_reducible refine (HFL.out _).mono ?_); rintro e w7 ⟨rfl, rfl⟩)
          refine hK.out _ _ ?_ ?_
          · (try dsimp only)
            ((go_split_ands; refine HALL.out _ ?_; (first | assumption | (repeat (first | assumption | refine Fr.new ?_ _ | refine Fr.drew ?_ | (refine Fr.set ?_ (by first | exact Nat.le_refl _ | omega | (simp; done) | (simp; omega)) (by first | (simp; done) | (simp; omega)) _))); done)))
          clear hK K
          (try simp only [Act.put, List.setIfInBounds_toArray, List.set_cons_zero, List.set_cons_succ])
          refine Tw_takeL (i := 11) (v := ?tv114) rfl (by kernel_rfl) (by decide) (by kernel_rfl) (by kernel_rfl) (fun _ _ _ h => h) (by rfl) ?ty114 ?tn114
          case ty114 => (intro w hSw; (try dsimp only at hSw); go_simp <;> with_reducible rfl)
          (try simp only [Act.put, List.setIfInBounds_toArray, List.set_cons_zero, List.set_cons_succ])
          refine Tw_takeL (i := 12) (v := ?tv115) rfl (by kernel_rfl) (by decide) (by kernel_rfl) (by kernel_rfl) (fun _ _ _ h => h) (by rfl) ?ty115 ?tn115
          case ty115 => (intro w hSw; (try dsimp only at hSw); go_simp <;> with_reducible rfl)
          (try simp only [Act.put, List.setIfInBounds_toArray, List.set_cons_zero, List.set_cons_succ])
          refine Tw_end (by kernel_rfl) (fun hh => ?_)
          obtain ⟨F11, _⟩ := hh
          clear HALL
          have n0 := F11.top.cell 0
          have g0 := F11.top.frozen 0
          have za := F11.top.lt
          go_wp2_with fail
          go_meet
          exact F11.put 0 _ HGT.out HNE.out
        case rest =>
        obtain ⟨wv2, rfl⟩ : ∃ W, W = wc := ⟨_, rfl⟩
        have F8 := Lib.hid hcut
        clear hcut F7
        go_upto_region 12 with fail
        have HALL : Hid (∀ W, Fr w W ((wx.heap.size, 48, #[.int .i64 (lo + d1), .int .i64 hi]) :: [(gB, 48, #[.int .i64 L2, .int .i64 U2]), (gA, 48, #[.int .i64 L1, .int .i64 U1]), (gz, 54, #[.int .i64 pl, .int .i64 pg, .int .i64 pm, .bool pv0]), (g, 57, #[.string s, .slice (some a) ps.length c]), (w.heap.size + 1, 48, #[.int .i64 0, .int .i64 0]), (w.heap.size, 24, #[.string s, .slice (some a) ps.length c])]) → Fr w W ((wx.heap.size, 48, #[.int .i64 (lo + d1), .int .i64 hi]) :: [(gB, 48, #[.int .i64 L2, .int .i64 U2]), (gA, 48, #[.int .i64 L1, .int .i64 U1]), (gz, 54, #[.int .i64 pl, .int .i64 pg, .int .i64 pm, .bool pv0]), (g, 57, #[.string s, .slice (some a) ps.length c]), (w.heap.size + 1, 48, #[.int .i64 0, .int .i64 0]), (w.heap.size, 24, #[.string s, .slice (some a) ps.length c])]) ∧ W.cell? ⟨wx.heap.size, 1, none⟩ = some (.int .i64 hi) ∧ W.cell? ⟨gz, 0, none⟩ = some (.int .i64 pl) ∧ W.cell? ⟨gA, 0, none⟩ = some (.int .i64 L1) ∧ W.cell? ⟨gB, 0, none⟩ = some (.int .i64 L2)) := Lib.hid (fun W hW => ⟨hW, hW.top.cell 1, (hW.get 3 rfl).cell 0, (hW.get 2 rfl).cell 0, (hW.get 1 rfl).cell 0⟩)
        have F10 : Fr w _ ((wx.heap.size, 48, #[.int .i64 (lo + d1), .int .i64 hi]) :: [(gB, 48, #[.int .i64 L2, .int .i64 U2]), (gA, 48, #[.int .i64 L1, .int .i64 U1]), (gz, 54, #[.int .i64 pl, .int .i64 pg, .int .i64 pm, .bool pv0]), (g, 57, #[.string s, .slice (some a) ps.length c]), (w.heap.size + 1, 48, #[.int .i64 0, .int .i64 0]), (w.heap.size, 24, #[.string s, .slice (some a) ps.length c])]) := F8.out
        clear F8
        refine Tw_start 13 (fun W => Fr w W ((wx.heap.size, 48, #[.int .i64 (lo + d1), .int .i64 hi]) :: [(gB, 48, #[.int .i64 L2, .int .i64 U2]), (gA, 48, #[.int .i64 L1, .int .i64 U1]), (gz, 54, #[.int .i64 pl, .int .i64 pg, .int .i64 pm, .bool pv0]), (g, 57, #[.string s, .slice (some a) ps.length c]), (w.heap.size + 1, 48, #[.int .i64 0, .int .i64 0]), (w.heap.size, 24, #[.string s, .slice (some a) ps.length c])]) ∧ W.cell? ⟨wx.heap.size, 1, none⟩ = some (.int .i64 hi) ∧ W.cell? ⟨gz, 0, none⟩ = some (.int .i64 pl) ∧ W.cell? ⟨gA, 0, none⟩ = some (.int .i64 L1) ∧ W.cell? ⟨gB, 0, none⟩ = some (.int .i64 L2)) (by kernel_rfl) (by kernel_rfl) rfl ?_ ?_
        · (try dsimp only)
          ((go_split_ands; refine HALL.out _ ?_; (first | assumption | (repeat (first | assumption | refine Fr.new ?_ _ | refine Fr.drew ?_ | (refine Fr.set ?_ (by first | exact Nat.le_refl _ | omega | (simp; done) | (simp; omega)) (by first | (simp; done) | (simp; omega)) _))); done)))
        refine Tw_abs ?_
        intro wD hD
        clear hD
        refine Tw_takeL (i := 0) (v := ?tv116) rfl (by kernel_rfl) (by decide) (by kernel_rfl) (by kernel_rfl) (fun _ _ _ h => h) (by rfl) ?ty116 ?tn116
        case ty116 => (intro w hSw; (try dsimp only at hSw); go_simp <;> with_reducible rfl)
        (try simp only [Act.put, List.setIfInBounds_toArray, List.set_cons_zero, List.set_cons_succ])
        refine Tw_takeL (i := 1) (v := ?tv117) rfl (by kernel_rfl) (by decide) (by kernel_rfl) (by kernel_rfl) (fun _ _ _ h => h) (by rfl) ?ty117 ?tn117
        case ty117 => (intro w hSw; (try dsimp only at hSw); go_simp <;> with_reducible rfl)
        (try simp only [Act.put, List.setIfInBounds_toArray, List.set_cons_zero, List.set_cons_succ])
        refine Tw_takeL (i := 2) (v := ?tv118) rfl (by kernel_rfl) (by decide) (by kernel_rfl) (by kernel_rfl) (fun _ _ _ h => h) (by rfl) ?ty118 ?tn118
        case ty118 => (intro w hSw; (try dsimp only at hSw); go_simp <;> with_reducible rfl)
        (try simp only [Act.put, List.setIfInBounds_toArray, List.set_cons_zero, List.set_cons_succ])
        refine Tw_takeL (i := 3) (v := ?tv119) rfl (by kernel_rfl) (by decide) (by kernel_rfl) (by kernel_rfl) (fun _ _ _ h => h) (by rfl) ?ty119 ?tn119
        case ty119 => (intro w hSw; (try dsimp only at hSw); go_simp <;> with_reducible rfl)
        (try simp only [Act.put, List.setIfInBounds_toArray, List.set_cons_zero, List.set_cons_succ])
        refine Tw_takeL (i := 4) (v := ?tv120) rfl (by kernel_rfl) (by decide) (by kernel_rfl) (by kernel_rfl) (fun _ _ _ h => h) (by rfl) ?ty120 ?tn120
        case ty120 => (intro w hSw; (try dsimp only at hSw); go_simp <;> with_reducible rfl)
        (try simp only [Act.put, List.setIfInBounds_toArray, List.set_cons_zero, List.set_cons_succ])
        refine Tw_takeL (i := 5) (v := ?tv121) rfl (by kernel_rfl) (by decide) (by kernel_rfl) (by kernel_rfl) (fun _ _ _ h => h) (by rfl) ?ty121 ?tn121
        case ty121 => (intro w hSw; (try dsimp only at hSw); go_simp <;> with_reducible rfl)
        (try simp only [Act.put, List.setIfInBounds_toArray, List.set_cons_zero, List.set_cons_succ])
        refine Tw_takeL (i := 6) (v := ?tv122) rfl (by kernel_rfl) (by decide) (by kernel_rfl) (by kernel_rfl) (fun _ _ _ h => h) (by rfl) ?ty122 ?tn122
        case ty122 => (intro w hSw; (try dsimp only at hSw); go_simp <;> with_reducible rfl)
        (try simp only [Act.put, List.setIfInBounds_toArray, List.set_cons_zero, List.set_cons_succ])
        refine Tw_takeL (i := 7) (v := ?tv123) rfl (by kernel_rfl) (by decide) (by kernel_rfl) (by kernel_rfl) (fun _ _ _ h => h) (by rfl) ?ty123 ?tn123
        case ty123 => (intro w hSw; (try dsimp only at hSw); go_simp <;> with_reducible rfl)
        (try simp only [Act.put, List.setIfInBounds_toArray, List.set_cons_zero, List.set_cons_succ])
        refine Tw_takeL (i := 8) (v := ?tv124) rfl (by kernel_rfl) (by decide) (by kernel_rfl) (by kernel_rfl) (fun _ _ _ h => h) (by rfl) ?ty124 ?tn124
        case ty124 => (intro w hSw; (try dsimp only at hSw); go_simp <;> with_reducible rfl)
        (try simp only [Act.put, List.setIfInBounds_toArray, List.set_cons_zero, List.set_cons_succ])
        refine Tw_takeL (i := 9) (v := ?tv125) rfl (by kernel_rfl) (by decide) (by kernel_rfl) (by kernel_rfl) (fun _ _ _ h => h) (by rfl) ?ty125 ?tn125
        case ty125 => (intro w hSw; (try dsimp only at hSw); go_simp <;> with_reducible rfl)
        (try simp only [Act.put, List.setIfInBounds_toArray, List.set_cons_zero, List.set_cons_succ])
        refine Tw_all (rs := [10]) (by kernel_rfl) (by simp) (by decide) (fun hHeld => ?_)
        refine AllT.consL rfl (fun K hK => ?_) AllT.nil
        go_simp
        (go_at_call 31; go_split_ands; (with_reducible refine (HCL.out _).mono ?_); rintro e w7 ⟨rfl, rfl⟩)
        refine hK.out _ _ ?_ ?_
        · (try dsimp only)
          ((go_split_ands; refine HALL.out _ ?_; (first | assumption | (repeat (first | assumption | refine Fr.new ?_ _ | refine Fr.drew ?_ | (refine Fr.set ?_ (by first | exact Nat.le_refl _ | omega | (simp; done) | (simp; omega)) (by first | (simp; done) | (simp; omega)) _))); done)))
        clear hK K
        (try simp only [Act.put, List.setIfInBounds_toArray, List.set_cons_zero, List.set_cons_succ])
        refine Tw_takeL (i := 11) (v := ?tv126) rfl (by kernel_rfl) (by decide) (by kernel_rfl) (by kernel_rfl) (fun _ _ _ h => h) (by rfl) ?ty126 ?tn126
        case ty126 => (intro w hSw; (try dsimp only at hSw); go_simp <;> with_reducible rfl)
        (try simp only [Act.put, List.setIfInBounds_toArray, List.set_cons_zero, List.set_cons_succ])
        refine Tw_takeL (i := 12) (v := ?tv127) rfl (by kernel_rfl) (by decide) (by kernel_rfl) (by kernel_rfl) (fun _ _ _ h => h) (by rfl) ?ty127 ?tn127
        case ty127 => (intro w hSw; (try dsimp only at hSw); go_simp <;> with_reducible rfl)
        (try simp only [Act.put, List.setIfInBounds_toArray, List.set_cons_zero, List.set_cons_succ])
        refine Tw_end (by kernel_rfl) (fun hh => ?_)
        obtain ⟨F11, _⟩ := hh
        clear HALL
        have HF := Lib.hid F11
        have n0 := F11.top.cell 1
        have g0 := F11.top.frozen 1
        have za := F11.top.lt
        clear F11
        go_wp2_with fail
        go_roundw
        case rel => exact ⟨k1, by have := HK1.out; omega, rfl, by
          have h : Fr w _ ((wx.heap.size, 48, #[.int .i64 (lo + d1), .int .i64 (hi + d2)]) :: [(gB, 48, #[.int .i64 L2, .int .i64 U2]), (gA, 48, #[.int .i64 L1, .int .i64 U1]), (gz, 54, #[.int .i64 pl, .int .i64 pg, .int .i64 pm, .bool pv0]), (g, 57, #[.string s, .slice (some a) ps.length c]), (w.heap.size + 1, 48, #[.int .i64 0, .int .i64 0]), (w.heap.size, 24, #[.string s, .slice (some a) ps.length c])]) := HF.out.put 1 (.int .i64 (hi + d2)) HGT.out HNE.out
          rw [HSL.out, HSH.out]
          exact h.drop3⟩
        case measure => have := HK1.out; simp [intOf] <;> omega
      · obtain rfl : k = ps.length := by omega
        have d0 := (FK.out.get 2 rfl).cell 0
        have d1 := (FK.out.get 2 rfl).cell 1
        have f0 := (FK.out.get 2 rfl).frozen 0
        have f1 := (FK.out.get 2 rfl).frozen 1
        have zN := (FK.out.get 2 rfl).lt
        have r0 := FK.out.top.cell 0
        have r1 := FK.out.top.cell 1
        go_wp2_with fail
        exact bodyPost_ret (v := .tuple #[.agg #[.int .i64 (tloV ps l ps.length), .int .i64 (thiV ps l ps.length)], .int .i64 0]) (by simp [results, Try.results16, go_sem, d0, d1]) rfl ⟨rfl, ((FK.out.bl.setCell (p := ⟨w.heap.size + 1, 0, none⟩) (by show w.heap.size ≤ w.heap.size + 1; omega) _).setCell (p := ⟨w.heap.size + 1, 1, none⟩) (by show w.heap.size ≤ w.heap.size + 1; omega) _)⟩

set_option maxHeartbeats 3200000 in
set_option maxRecDepth 100000 in
theorem TimeOf_zero (s : ByteArray) (hs : s.size ≤ maxLen) (ps : List Bp) (a : Addr) (c : Nat) (hl : ps.length ≤ 1000) (l : List Int) (B : Option Addr) (d : Nat) (hl2 : l.length ≤ maxLen) (hok : OkT s ps) (h2 : sqsE ps l = 0) (n : Nat) (hn : n < ps.length) (hmiss : ∀ j, j < n → zeroS l j = false) (hhit : zeroS l n = true) (w : World) (hA : Lies w w.heap.size (some a) (ps.flatMap pc)) (hL : Lies w w.heap.size B (ic l)) :
    Calls Try.prog 16 #[.agg #[.string s, .slice (some a) ps.length c], .slice B l.length d] w fun e w' => e = .returned (.tuple #[.agg #[.int .i64 0, .int .i64 0], .int .i64 11]) ∧ Below w.heap.size w w' := by
  have HMISS := Lib.hid hmiss
  have HHIT := Lib.hid hhit
  clear hmiss hhit
  have hlm : ps.length ≤ maxLen := by unfold maxLen; omega
  have F0 := Lib.hid (Fr.b2 w 24 #[.string s, .slice (some a) ps.length c] 48 #[.int .i64 0, .int .i64 0])
  have HA := Lib.hid hA
  have HL := Lib.hid hL
  obtain ⟨se, hse⟩ : ∃ se, sqsE ps l = se := ⟨_, rfl⟩
  have HSE : Hid (∀ W, Lies W W.heap.size B (ic l) → Calls Try.prog 28 #[.agg #[.string s, .slice (some a) ps.length c], .slice B l.length d] W fun e w' => e = .returned (.int .i64 (sqsE ps l)) ∧ Below W.heap.size W w') := Lib.hid (fun W h => errorOfSquares_any s ps (some a) c hl l B d hl2 W h)
  have HS1 := Lib.hid hse
  have HN : nz ((trE s ps).2 :: [se]) = 0 := by rw [trE_ok hok, ← hse, h2]; rfl
  have HCR : Hid (∀ (fa : Addr) (W : World), Lies W W.heap.size (some a) (ps.flatMap pc) → Lies W W.heap.size (some fa) (ic [se]) → Calls Try.prog 19 #[.agg #[.string s, .slice (some a) ps.length c], .slice (some fa) 1 1] W fun e w' => e = .returned (.tuple #[.agg #[.string s, .slice (some a) ps.length c], .int .i64 0]) ∧ Below W.heap.size W w') := Lib.hid (fun fa W h1 h2 => check_ok s hs ps (some a) c hlm [se] (some fa) 1 (by simp [maxLen]) HN W h1 h2)
  have HOK := Lib.hid hok
  have hln : l.length = ps.length + 1 := Decidable.by_contra fun h => by unfold sqsE at h2; rw [if_pos h] at h2; cases h2
  have HQ : Hid (∀ k, 0 ≤ sqAt l k ∧ sqAt l k ≤ 20000000000) := Lib.hid (by unfold sqsE at h2; rw [if_neg (by simpa using hln)] at h2; exact sqAt_in h2)
  have h12 := hok.n12
  have hl12 : (ps.length : Int) ≤ 12 := by omega
  have HLE : Hid (∀ k, k ≤ ps.length → ∀ W, Fr w W [] → ∃ a2, B = some a2 ∧ a2.block < w.heap.size ∧ W.cell? (a2.add k) = some (.int .i64 (sqAt l k))) := Lib.hid (fun k hk W hW => by
    obtain ⟨a2, e, h1, _⟩ := hL.num (sqAt_get (k := k) (by omega))
    obtain ⟨a3, e3, _, h3⟩ := (Fr.lies hL hW).num (sqAt_get (k := k) (by omega))
    rw [e] at e3
    injection e3 with e3
    subst e3
    exact ⟨a2, e, h1, h3⟩)
  obtain ⟨a2, ea2, _, _⟩ := HLE.out 0 (Nat.zero_le _) w (Fr.nil w)
  subst ea2
  have HLC : Hid (∀ k, k ≤ ps.length → ∀ W, Fr w W [] → W.cell? (a2.add k) = some (.int .i64 (sqAt l k))) := Lib.hid (fun k hk W hW => by
    obtain ⟨a3, e3, _, h3⟩ := HLE.out k hk W hW
    injection e3 with e3
    subst e3
    exact h3)
  rw [hln] at HSE ⊢
  obtain ⟨N, hN⟩ : ∃ N, N = ps.length + 1 := ⟨_, rfl⟩
  rw [← hN] at HSE ⊢
  have HNN := Lib.hid hN
  clear hN hA hL hse hok h2 hln hl2 HLE HN
  go_enter Try.func16, Try.ntmps16
  go_upto_region 1 with fail
  go_cut [6, 7] from 13 to 21 (fun pv rv W => ∃ g : Nat, pv = .pointer (some ⟨g, 0, none⟩) ∧ rv = .int .i64 0 ∧ Fr w W ((g, 57, #[.string s, .slice (some a) ps.length c]) :: [(w.heap.size + 1, 48, #[.int .i64 0, .int .i64 0]), (w.heap.size, 24, #[.string s, .slice (some a) ps.length c])]))
  case first =>
    refine wp_abs ?_
    intro w5 h5
    have HALL : Hid (∀ W, Fr w W [(w.heap.size + 1, 48, #[.int .i64 0, .int .i64 0]), (w.heap.size, 24, #[.string s, .slice (some a) ps.length c])] → Fr w W [(w.heap.size + 1, 48, #[.int .i64 0, .int .i64 0]), (w.heap.size, 24, #[.string s, .slice (some a) ps.length c])] ∧ W.cell? ⟨w.heap.size, 0, none⟩ = some (.string s) ∧ W.cell? ⟨w.heap.size, 1, none⟩ = some (.slice (some a) ps.length c)) := Lib.hid (fun W hW => ⟨hW, hW.at1.cell 0, hW.at1.cell 1⟩)
    have F10 : Fr w w5 [(w.heap.size + 1, 48, #[.int .i64 0, .int .i64 0]), (w.heap.size, 24, #[.string s, .slice (some a) ps.length c])] := by subst h5; exact F0.out
    clear F0 h5
    refine Tw_start 11 (fun W => Fr w W [(w.heap.size + 1, 48, #[.int .i64 0, .int .i64 0]), (w.heap.size, 24, #[.string s, .slice (some a) ps.length c])] ∧ W.cell? ⟨w.heap.size, 0, none⟩ = some (.string s) ∧ W.cell? ⟨w.heap.size, 1, none⟩ = some (.slice (some a) ps.length c)) (by kernel_rfl) (by kernel_rfl) rfl ?_ ?_
    · (try dsimp only)
      ((go_split_ands; refine HALL.out _ ?_; (first | assumption | (repeat (first | assumption | refine Fr.new ?_ _ | refine Fr.drew ?_ | (refine Fr.set ?_ (by first | exact Nat.le_refl _ | omega | (simp; done) | (simp; omega)) (by first | (simp; done) | (simp; omega)) _))); done)))
    refine Tw_takeL (i := 0) (v := ?tv128) rfl (by kernel_rfl) (by decide) (by kernel_rfl) (by kernel_rfl) (fun _ _ _ h => h) (by rfl) ?ty128 ?tn128
    case ty128 => (intro w hSw; (try dsimp only at hSw); go_simp <;> with_reducible rfl)
    (try simp only [Act.put, List.setIfInBounds_toArray, List.set_cons_zero, List.set_cons_succ])
    refine Tw_takeL (i := 1) (v := ?tv129) rfl (by kernel_rfl) (by decide) (by kernel_rfl) (by kernel_rfl) (fun _ _ _ h => h) (by rfl) ?ty129 ?tn129
    case ty129 => (intro w hSw; (try dsimp only at hSw); go_simp <;> with_reducible rfl)
    (try simp only [Act.put, List.setIfInBounds_toArray, List.set_cons_zero, List.set_cons_succ])
    refine Tw_takeL (i := 2) (v := ?tv130) rfl (by kernel_rfl) (by decide) (by kernel_rfl) (by kernel_rfl) (fun _ _ _ h => h) (by rfl) ?ty130 ?tn130
    case ty130 => (intro w hSw; (try dsimp only at hSw); go_simp <;> with_reducible rfl)
    (try simp only [Act.put, List.setIfInBounds_toArray, List.set_cons_zero, List.set_cons_succ])
    refine Tw_all (rs := [3, 9]) (by kernel_rfl) (by simp) (by decide) (fun hHeld => ?_)
    refine AllT.consL rfl (fun K hK => ?_) (AllT.consL rfl (fun K hK => ?_) (AllT.nil))
    · go_simp
      (go_at_call 28; go_split_ands; (with_reducible refine (HSE.out _ (Fr.lies HL.out (by assumption))).mono ?_); rintro e w7 ⟨rfl, hb7⟩; rw [HS1.out]; have F4 := Fr.call (by assumption) hb7; (first | (have N1 := Lib.hid (Bk.call N1.out hb7)) | skip); (first | (have L1 := Lib.hid (Lies.call L1.out hb7)) | skip); clear hb7)
      refine hK.out _ _ ?_ ?_
      · (try dsimp only)
        ((go_split_ands; refine HALL.out _ ?_; (first | assumption | (repeat (first | assumption | refine Fr.new ?_ _ | refine Fr.drew ?_ | (refine Fr.set ?_ (by first | exact Nat.le_refl _ | omega | (simp; done) | (simp; omega)) (by first | (simp; done) | (simp; omega)) _))); done)))
      clear hK K
      (try simp only [Act.put, List.setIfInBounds_toArray, List.set_cons_zero, List.set_cons_succ])
      refine Tw_all (rs := [4, 9]) (by kernel_rfl) (by simp) (by decide) (fun hHeld => ?_)
      refine AllT.consL rfl (fun K hK => ?_) (AllT.consL rfl (fun K hK => ?_) (AllT.nil))
      · go_simp
        refine hK.out _ _ ?_ ?_
        · (try dsimp only)
          ((go_split_ands; refine HALL.out _ ?_; (first | assumption | (repeat (first | assumption | refine Fr.new ?_ _ | refine Fr.drew ?_ | (refine Fr.set ?_ (by first | exact Nat.le_refl _ | omega | (simp; done) | (simp; omega)) (by first | (simp; done) | (simp; omega)) _))); done)))
        clear hK K
        (try simp only [Act.put, List.setIfInBounds_toArray, List.set_cons_zero, List.set_cons_succ])
        refine Tw_abs ?_
        intro wA138 hA138
        (first | (have N1 := Lib.hid (Bk.over_alloc hA138 N1.out)) | (have N1 := Lib.hid (Bk.over_alloc_drew hA138 N1.out)) | skip)
        (first | (have L1 := Lib.hid (fs_alloc (l := [se]) hA138 (by simp [maxLen]))) | (have L1 := Lib.hid (fs_drew (l := [se]) hA138 (by simp [maxLen]))))
        clear hA138
        refine Tw_all (rs := [5, 9]) (by kernel_rfl) (by simp) (by decide) (fun hHeld => ?_)
        refine AllT.consL rfl (fun K hK => ?_) (AllT.consL rfl (fun K hK => ?_) (AllT.nil))
        · go_simp
          (go_at_call 19; go_split_ands; (refine (HCR.out _ _ (Fr.lies HA.out (by assumption)) L1.out).mono ?_); rintro e w7 ⟨rfl, hb7⟩; have F6 := Fr.call (by assumption) hb7; (first | (have N1 := Lib.hid (Bk.call N1.out hb7)) | skip); (first | (have L1 := Lib.hid (Lies.call L1.out hb7)) | skip); clear hb7)
          refine hK.out _ _ ?_ ?_
          · (try dsimp only)
            ((go_split_ands; refine HALL.out _ ?_; (first | assumption | (repeat (first | assumption | refine Fr.new ?_ _ | refine Fr.drew ?_ | (refine Fr.set ?_ (by first | exact Nat.le_refl _ | omega | (simp; done) | (simp; omega)) (by first | (simp; done) | (simp; omega)) _))); done)))
          clear hK K
          (try simp only [Act.put, List.setIfInBounds_toArray, List.set_cons_zero, List.set_cons_succ])
          refine Tw_takeL (i := 6) (v := ?tv131) rfl (by kernel_rfl) (by decide) (by kernel_rfl) (by kernel_rfl) (fun _ _ _ h => h) (by rfl) ?ty131 ?tn131
          case ty131 => (intro w hSw; (try dsimp only at hSw); go_simp <;> with_reducible rfl)
          (try simp only [Act.put, List.setIfInBounds_toArray, List.set_cons_zero, List.set_cons_succ])
          refine Tw_takeL (i := 7) (v := ?tv132) rfl (by kernel_rfl) (by decide) (by kernel_rfl) (by kernel_rfl) (fun _ _ _ h => h) (by rfl) ?ty132 ?tn132
          case ty132 => (intro w hSw; (try dsimp only at hSw); go_simp <;> with_reducible rfl)
          (try simp only [Act.put, List.setIfInBounds_toArray, List.set_cons_zero, List.set_cons_succ])
          refine Tw_takeL (i := 8) (v := ?tv133) rfl (by kernel_rfl) (by decide) (by kernel_rfl) (by kernel_rfl) (fun _ _ _ h => h) (by rfl) ?ty133 ?tn133
          case ty133 => (intro w hSw; (try dsimp only at hSw); go_simp <;> with_reducible rfl)
          (try simp only [Act.put, List.setIfInBounds_toArray, List.set_cons_zero, List.set_cons_succ])
          refine Tw_all (rs := [9]) (by kernel_rfl) (by simp) (by decide) (fun hHeld => ?_)
          refine AllT.consL rfl (fun K hK => ?_) (AllT.nil)
          · go_simp
            refine hK.out _ _ ?_ ?_
            · (try dsimp only)
              ((go_split_ands; refine HALL.out _ ?_; (first | assumption | (repeat (first | assumption | refine Fr.new ?_ _ | refine Fr.drew ?_ | (refine Fr.set ?_ (by first | exact Nat.le_refl _ | omega | (simp; done) | (simp; omega)) (by first | (simp; done) | (simp; omega)) _))); done)))
            clear hK K
            (try simp only [Act.put, List.setIfInBounds_toArray, List.set_cons_zero, List.set_cons_succ])
            refine Tw_abs ?_
            intro wA140 hA140
            (first | (have N1 := Lib.hid (Bk.of_alloc hA140)) | (have N1 := Lib.hid (Bk.of_alloc_drew hA140)))
            have zg := Lib.hid (show w.heap.size + 2 ≤ _ from hHeld.1.top.lt)
            (first | (have L1 := Lib.hid (Lies.alloc hA140 L1.out)) | (have L1 := Lib.hid (Lies.alloc_drew hA140 L1.out)) | skip)
            clear hA140
            refine Tw_all (rs := [10]) (by kernel_rfl) (by simp) (by decide) (fun hHeld => ?_)
            refine AllT.consL rfl (fun K hK => ?_) (AllT.nil)
            · have c0 := N1.out.cell 0
              have c1 := N1.out.cell 1
              have f0 := N1.out.frozen 0
              have f1 := N1.out.frozen 1
              have zN := N1.out.lt
              go_simp
              refine hK.out _ _ ?_ ?_
              · exact HALL.out _ (Fr.off2n (n := 2) hHeld.1 zg.out (by intro b hb; simp only [List.mem_cons, List.not_mem_nil, or_false] at hb; rcases hb with rfl | rfl <;> (dsimp only; omega)) _ _)
              clear hK K c0 c1 f0 f1 zN
              have N1 := Lib.hid (Bk.set2 N1.out (.string s) (.slice (some a) ps.length c))
              (try simp only [Act.put, List.setIfInBounds_toArray, List.set_cons_zero, List.set_cons_succ])
              refine Tw_end (by kernel_rfl) (fun hh => ?_)
              obtain ⟨F11, _⟩ := hh
              clear HALL
              go_wp2_with fail
              go_meet
              exact ⟨_, rfl, rfl, F11.more N1.out⟩
        · go_simp
          refine hK.out _ _ ?_ ?_
          · (try dsimp only)
            ((go_split_ands; refine HALL.out _ ?_; (first | assumption | (repeat (first | assumption | refine Fr.new ?_ _ | refine Fr.drew ?_ | (refine Fr.set ?_ (by first | exact Nat.le_refl _ | omega | (simp; done) | (simp; omega)) (by first | (simp; done) | (simp; omega)) _))); done)))
          clear hK K
          (try simp only [Act.put, List.setIfInBounds_toArray, List.set_cons_zero, List.set_cons_succ])
          refine Tw_abs ?_
          intro wA142 hA142
          (first | (have N1 := Lib.hid (Bk.of_alloc hA142)) | (have N1 := Lib.hid (Bk.of_alloc_drew hA142)))
          have zg := Lib.hid (show w.heap.size + 2 ≤ _ from hHeld.1.top.lt)
          (first | (have L1 := Lib.hid (Lies.alloc hA142 L1.out)) | (have L1 := Lib.hid (Lies.alloc_drew hA142 L1.out)) | skip)
          clear hA142
          refine Tw_all (rs := [5]) (by kernel_rfl) (by simp) (by decide) (fun hHeld => ?_)
          refine AllT.consL rfl (fun K hK => ?_) (AllT.nil)
          · go_simp
            (go_at_call 19; go_split_ands; (refine (HCR.out _ _ (Fr.lies HA.out (by assumption)) L1.out).mono ?_); rintro e w7 ⟨rfl, hb7⟩; have F6 := Fr.call (by assumption) hb7; (first | (have N1 := Lib.hid (Bk.call N1.out hb7)) | skip); (first | (have L1 := Lib.hid (Lies.call L1.out hb7)) | skip); clear hb7)
            refine hK.out _ _ ?_ ?_
            · (try dsimp only)
              ((go_split_ands; refine HALL.out _ ?_; (first | assumption | (repeat (first | assumption | refine Fr.new ?_ _ | refine Fr.drew ?_ | (refine Fr.set ?_ (by first | exact Nat.le_refl _ | omega | (simp; done) | (simp; omega)) (by first | (simp; done) | (simp; omega)) _))); done)))
            clear hK K
            (try simp only [Act.put, List.setIfInBounds_toArray, List.set_cons_zero, List.set_cons_succ])
            refine Tw_takeL (i := 6) (v := ?tv134) rfl (by kernel_rfl) (by decide) (by kernel_rfl) (by kernel_rfl) (fun _ _ _ h => h) (by rfl) ?ty134 ?tn134
            case ty134 => (intro w hSw; (try dsimp only at hSw); go_simp <;> with_reducible rfl)
            (try simp only [Act.put, List.setIfInBounds_toArray, List.set_cons_zero, List.set_cons_succ])
            refine Tw_takeL (i := 7) (v := ?tv135) rfl (by kernel_rfl) (by decide) (by kernel_rfl) (by kernel_rfl) (fun _ _ _ h => h) (by rfl) ?ty135 ?tn135
            case ty135 => (intro w hSw; (try dsimp only at hSw); go_simp <;> with_reducible rfl)
            (try simp only [Act.put, List.setIfInBounds_toArray, List.set_cons_zero, List.set_cons_succ])
            refine Tw_takeL (i := 8) (v := ?tv136) rfl (by kernel_rfl) (by decide) (by kernel_rfl) (by kernel_rfl) (fun _ _ _ h => h) (by rfl) ?ty136 ?tn136
            case ty136 => (intro w hSw; (try dsimp only at hSw); go_simp <;> with_reducible rfl)
            (try simp only [Act.put, List.setIfInBounds_toArray, List.set_cons_zero, List.set_cons_succ])
            refine Tw_all (rs := [10]) (by kernel_rfl) (by simp) (by decide) (fun hHeld => ?_)
            refine AllT.consL rfl (fun K hK => ?_) (AllT.nil)
            · have c0 := N1.out.cell 0
              have c1 := N1.out.cell 1
              have f0 := N1.out.frozen 0
              have f1 := N1.out.frozen 1
              have zN := N1.out.lt
              go_simp
              refine hK.out _ _ ?_ ?_
              · exact HALL.out _ (Fr.off2n (n := 2) hHeld.1 zg.out (by intro b hb; simp only [List.mem_cons, List.not_mem_nil, or_false] at hb; rcases hb with rfl | rfl <;> (dsimp only; omega)) _ _)
              clear hK K c0 c1 f0 f1 zN
              have N1 := Lib.hid (Bk.set2 N1.out (.string s) (.slice (some a) ps.length c))
              (try simp only [Act.put, List.setIfInBounds_toArray, List.set_cons_zero, List.set_cons_succ])
              refine Tw_end (by kernel_rfl) (fun hh => ?_)
              obtain ⟨F11, _⟩ := hh
              clear HALL
              go_wp2_with fail
              go_meet
              exact ⟨_, rfl, rfl, F11.more N1.out⟩
      · go_simp
        refine hK.out _ _ ?_ ?_
        · (try dsimp only)
          ((go_split_ands; refine HALL.out _ ?_; (first | assumption | (repeat (first | assumption | refine Fr.new ?_ _ | refine Fr.drew ?_ | (refine Fr.set ?_ (by first | exact Nat.le_refl _ | omega | (simp; done) | (simp; omega)) (by first | (simp; done) | (simp; omega)) _))); done)))
        clear hK K
        (try simp only [Act.put, List.setIfInBounds_toArray, List.set_cons_zero, List.set_cons_succ])
        refine Tw_abs ?_
        intro wA145 hA145
        (first | (have N1 := Lib.hid (Bk.of_alloc hA145)) | (have N1 := Lib.hid (Bk.of_alloc_drew hA145)))
        have zg := Lib.hid (show w.heap.size + 2 ≤ _ from hHeld.1.top.lt)
        (first | (have L1 := Lib.hid (Lies.alloc hA145 L1.out)) | (have L1 := Lib.hid (Lies.alloc_drew hA145 L1.out)) | skip)
        clear hA145
        refine Tw_all (rs := [4]) (by kernel_rfl) (by simp) (by decide) (fun hHeld => ?_)
        refine AllT.consL rfl (fun K hK => ?_) (AllT.nil)
        · go_simp
          refine hK.out _ _ ?_ ?_
          · (try dsimp only)
            ((go_split_ands; refine HALL.out _ ?_; (first | assumption | (repeat (first | assumption | refine Fr.new ?_ _ | refine Fr.drew ?_ | (refine Fr.set ?_ (by first | exact Nat.le_refl _ | omega | (simp; done) | (simp; omega)) (by first | (simp; done) | (simp; omega)) _))); done)))
          clear hK K
          (try simp only [Act.put, List.setIfInBounds_toArray, List.set_cons_zero, List.set_cons_succ])
          refine Tw_abs ?_
          intro wA146 hA146
          (first | (have N1 := Lib.hid (Bk.over_alloc hA146 N1.out)) | (have N1 := Lib.hid (Bk.over_alloc_drew hA146 N1.out)) | skip)
          (first | (have L1 := Lib.hid (fs_alloc (l := [se]) hA146 (by simp [maxLen]))) | (have L1 := Lib.hid (fs_drew (l := [se]) hA146 (by simp [maxLen]))))
          clear hA146
          refine Tw_all (rs := [5]) (by kernel_rfl) (by simp) (by decide) (fun hHeld => ?_)
          refine AllT.consL rfl (fun K hK => ?_) (AllT.nil)
          · go_simp
            (go_at_call 19; go_split_ands; (refine (HCR.out _ _ (Fr.lies HA.out (by assumption)) L1.out).mono ?_); rintro e w7 ⟨rfl, hb7⟩; have F6 := Fr.call (by assumption) hb7; (first | (have N1 := Lib.hid (Bk.call N1.out hb7)) | skip); (first | (have L1 := Lib.hid (Lies.call L1.out hb7)) | skip); clear hb7)
            refine hK.out _ _ ?_ ?_
            · (try dsimp only)
              ((go_split_ands; refine HALL.out _ ?_; (first | assumption | (repeat (first | assumption | refine Fr.new ?_ _ | refine Fr.drew ?_ | (refine Fr.set ?_ (by first | exact Nat.le_refl _ | omega | (simp; done) | (simp; omega)) (by first | (simp; done) | (simp; omega)) _))); done)))
            clear hK K
            (try simp only [Act.put, List.setIfInBounds_toArray, List.set_cons_zero, List.set_cons_succ])
            refine Tw_takeL (i := 6) (v := ?tv137) rfl (by kernel_rfl) (by decide) (by kernel_rfl) (by kernel_rfl) (fun _ _ _ h => h) (by rfl) ?ty137 ?tn137
            case ty137 => (intro w hSw; (try dsimp only at hSw); go_simp <;> with_reducible rfl)
            (try simp only [Act.put, List.setIfInBounds_toArray, List.set_cons_zero, List.set_cons_succ])
            refine Tw_takeL (i := 7) (v := ?tv138) rfl (by kernel_rfl) (by decide) (by kernel_rfl) (by kernel_rfl) (fun _ _ _ h => h) (by rfl) ?ty138 ?tn138
            case ty138 => (intro w hSw; (try dsimp only at hSw); go_simp <;> with_reducible rfl)
            (try simp only [Act.put, List.setIfInBounds_toArray, List.set_cons_zero, List.set_cons_succ])
            refine Tw_takeL (i := 8) (v := ?tv139) rfl (by kernel_rfl) (by decide) (by kernel_rfl) (by kernel_rfl) (fun _ _ _ h => h) (by rfl) ?ty139 ?tn139
            case ty139 => (intro w hSw; (try dsimp only at hSw); go_simp <;> with_reducible rfl)
            (try simp only [Act.put, List.setIfInBounds_toArray, List.set_cons_zero, List.set_cons_succ])
            refine Tw_all (rs := [10]) (by kernel_rfl) (by simp) (by decide) (fun hHeld => ?_)
            refine AllT.consL rfl (fun K hK => ?_) (AllT.nil)
            · have c0 := N1.out.cell 0
              have c1 := N1.out.cell 1
              have f0 := N1.out.frozen 0
              have f1 := N1.out.frozen 1
              have zN := N1.out.lt
              go_simp
              refine hK.out _ _ ?_ ?_
              · exact HALL.out _ (Fr.off2n (n := 2) hHeld.1 zg.out (by intro b hb; simp only [List.mem_cons, List.not_mem_nil, or_false] at hb; rcases hb with rfl | rfl <;> (dsimp only; omega)) _ _)
              clear hK K c0 c1 f0 f1 zN
              have N1 := Lib.hid (Bk.set2 N1.out (.string s) (.slice (some a) ps.length c))
              (try simp only [Act.put, List.setIfInBounds_toArray, List.set_cons_zero, List.set_cons_succ])
              refine Tw_end (by kernel_rfl) (fun hh => ?_)
              obtain ⟨F11, _⟩ := hh
              clear HALL
              go_wp2_with fail
              go_meet
              exact ⟨_, rfl, rfl, F11.more N1.out⟩
    · go_simp
      refine hK.out _ _ ?_ ?_
      · (try dsimp only)
        ((go_split_ands; refine HALL.out _ ?_; (first | assumption | (repeat (first | assumption | refine Fr.new ?_ _ | refine Fr.drew ?_ | (refine Fr.set ?_ (by first | exact Nat.le_refl _ | omega | (simp; done) | (simp; omega)) (by first | (simp; done) | (simp; omega)) _))); done)))
      clear hK K
      (try simp only [Act.put, List.setIfInBounds_toArray, List.set_cons_zero, List.set_cons_succ])
      refine Tw_abs ?_
      intro wA149 hA149
      (first | (have N1 := Lib.hid (Bk.of_alloc hA149)) | (have N1 := Lib.hid (Bk.of_alloc_drew hA149)))
      have zg := Lib.hid (show w.heap.size + 2 ≤ _ from hHeld.1.top.lt)
      (first | (have L1 := Lib.hid (Lies.alloc hA149 L1.out)) | (have L1 := Lib.hid (Lies.alloc_drew hA149 L1.out)) | skip)
      clear hA149
      refine Tw_all (rs := [3]) (by kernel_rfl) (by simp) (by decide) (fun hHeld => ?_)
      refine AllT.consL rfl (fun K hK => ?_) (AllT.nil)
      · go_simp
        (go_at_call 28; go_split_ands; (with_reducible refine (HSE.out _ (Fr.lies HL.out (by assumption))).mono ?_); rintro e w7 ⟨rfl, hb7⟩; rw [HS1.out]; have F4 := Fr.call (by assumption) hb7; (first | (have N1 := Lib.hid (Bk.call N1.out hb7)) | skip); (first | (have L1 := Lib.hid (Lies.call L1.out hb7)) | skip); clear hb7)
        refine hK.out _ _ ?_ ?_
        · (try dsimp only)
          ((go_split_ands; refine HALL.out _ ?_; (first | assumption | (repeat (first | assumption | refine Fr.new ?_ _ | refine Fr.drew ?_ | (refine Fr.set ?_ (by first | exact Nat.le_refl _ | omega | (simp; done) | (simp; omega)) (by first | (simp; done) | (simp; omega)) _))); done)))
        clear hK K
        (try simp only [Act.put, List.setIfInBounds_toArray, List.set_cons_zero, List.set_cons_succ])
        refine Tw_all (rs := [4]) (by kernel_rfl) (by simp) (by decide) (fun hHeld => ?_)
        refine AllT.consL rfl (fun K hK => ?_) (AllT.nil)
        · go_simp
          refine hK.out _ _ ?_ ?_
          · (try dsimp only)
            ((go_split_ands; refine HALL.out _ ?_; (first | assumption | (repeat (first | assumption | refine Fr.new ?_ _ | refine Fr.drew ?_ | (refine Fr.set ?_ (by first | exact Nat.le_refl _ | omega | (simp; done) | (simp; omega)) (by first | (simp; done) | (simp; omega)) _))); done)))
          clear hK K
          (try simp only [Act.put, List.setIfInBounds_toArray, List.set_cons_zero, List.set_cons_succ])
          refine Tw_abs ?_
          intro wA151 hA151
          (first | (have N1 := Lib.hid (Bk.over_alloc hA151 N1.out)) | (have N1 := Lib.hid (Bk.over_alloc_drew hA151 N1.out)) | skip)
          (first | (have L1 := Lib.hid (fs_alloc (l := [se]) hA151 (by simp [maxLen]))) | (have L1 := Lib.hid (fs_drew (l := [se]) hA151 (by simp [maxLen]))))
          clear hA151
          refine Tw_all (rs := [5]) (by kernel_rfl) (by simp) (by decide) (fun hHeld => ?_)
          refine AllT.consL rfl (fun K hK => ?_) (AllT.nil)
          · go_simp
            (go_at_call 19; go_split_ands; (refine (HCR.out _ _ (Fr.lies HA.out (by assumption)) L1.out).mono ?_); rintro e w7 ⟨rfl, hb7⟩; have F6 := Fr.call (by assumption) hb7; (first | (have N1 := Lib.hid (Bk.call N1.out hb7)) | skip); (first | (have L1 := Lib.hid (Lies.call L1.out hb7)) | skip); clear hb7)
            refine hK.out _ _ ?_ ?_
            · (try dsimp only)
              ((go_split_ands; refine HALL.out _ ?_; (first | assumption | (repeat (first | assumption | refine Fr.new ?_ _ | refine Fr.drew ?_ | (refine Fr.set ?_ (by first | exact Nat.le_refl _ | omega | (simp; done) | (simp; omega)) (by first | (simp; done) | (simp; omega)) _))); done)))
            clear hK K
            (try simp only [Act.put, List.setIfInBounds_toArray, List.set_cons_zero, List.set_cons_succ])
            refine Tw_takeL (i := 6) (v := ?tv140) rfl (by kernel_rfl) (by decide) (by kernel_rfl) (by kernel_rfl) (fun _ _ _ h => h) (by rfl) ?ty140 ?tn140
            case ty140 => (intro w hSw; (try dsimp only at hSw); go_simp <;> with_reducible rfl)
            (try simp only [Act.put, List.setIfInBounds_toArray, List.set_cons_zero, List.set_cons_succ])
            refine Tw_takeL (i := 7) (v := ?tv141) rfl (by kernel_rfl) (by decide) (by kernel_rfl) (by kernel_rfl) (fun _ _ _ h => h) (by rfl) ?ty141 ?tn141
            case ty141 => (intro w hSw; (try dsimp only at hSw); go_simp <;> with_reducible rfl)
            (try simp only [Act.put, List.setIfInBounds_toArray, List.set_cons_zero, List.set_cons_succ])
            refine Tw_takeL (i := 8) (v := ?tv142) rfl (by kernel_rfl) (by decide) (by kernel_rfl) (by kernel_rfl) (fun _ _ _ h => h) (by rfl) ?ty142 ?tn142
            case ty142 => (intro w hSw; (try dsimp only at hSw); go_simp <;> with_reducible rfl)
            (try simp only [Act.put, List.setIfInBounds_toArray, List.set_cons_zero, List.set_cons_succ])
            refine Tw_all (rs := [10]) (by kernel_rfl) (by simp) (by decide) (fun hHeld => ?_)
            refine AllT.consL rfl (fun K hK => ?_) (AllT.nil)
            · have c0 := N1.out.cell 0
              have c1 := N1.out.cell 1
              have f0 := N1.out.frozen 0
              have f1 := N1.out.frozen 1
              have zN := N1.out.lt
              go_simp
              refine hK.out _ _ ?_ ?_
              · exact HALL.out _ (Fr.off2n (n := 2) hHeld.1 zg.out (by intro b hb; simp only [List.mem_cons, List.not_mem_nil, or_false] at hb; rcases hb with rfl | rfl <;> (dsimp only; omega)) _ _)
              clear hK K c0 c1 f0 f1 zN
              have N1 := Lib.hid (Bk.set2 N1.out (.string s) (.slice (some a) ps.length c))
              (try simp only [Act.put, List.setIfInBounds_toArray, List.set_cons_zero, List.set_cons_succ])
              refine Tw_end (by kernel_rfl) (fun hh => ?_)
              obtain ⟨F11, _⟩ := hh
              clear HALL
              go_wp2_with fail
              go_meet
              exact ⟨_, rfl, rfl, F11.more N1.out⟩
  case rest =>
    obtain ⟨wx, rfl⟩ : ∃ W, W = wc := ⟨_, rfl⟩
    obtain ⟨g, rfl, rfl, hx⟩ := hcut
    have FC := Lib.hid hx
    clear hx F0
    have q0 := FC.out.top.cell 0
    have q1 := FC.out.top.cell 1
    have q2 := FC.out.top.lt
    have HOLD : Hid (∀ b' ∈ ([(g, 57, #[.string s, .slice (some a) ps.length c]), (w.heap.size + 1, 48, #[.int .i64 0, .int .i64 0]), (w.heap.size, 24, #[.string s, .slice (some a) ps.length c])] : List (Nat × TypeId × Array Value)), b'.1 < wx.heap.size) := Lib.hid (fun b' hb' => (FC.out.bk b' hb').lt)
    have HGT : Hid (w.heap.size ≤ wx.heap.size) := Lib.hid FC.out.bl.size
    have FT : Hid (Fr w _ ((wx.heap.size, 48, #[.int .i64 0, .int .i64 0]) :: [(g, 57, #[.string s, .slice (some a) ps.length c]), (w.heap.size + 1, 48, #[.int .i64 0, .int .i64 0]), (w.heap.size, 24, #[.string s, .slice (some a) ps.length c])])) := Lib.hid (FC.out.box 48 #[.int .i64 0, .int .i64 0])
    go_wp2_with fail
    go_loopw [30] (fun i wr => ∃ k : Nat, k ≤ n ∧ i = .int .i64 k ∧ Fr w wr ((wx.heap.size, 48, #[.int .i64 (tloV ps l k), .int .i64 (thiV ps l k)]) :: [(g, 57, #[.string s, .slice (some a) ps.length c]), (w.heap.size + 1, 48, #[.int .i64 0, .int .i64 0]), (w.heap.size, 24, #[.string s, .slice (some a) ps.length c])])) (fun i _ => ps.length - (intOf i).toNat)
    case atStart => exact ⟨0, Nat.zero_le _, rfl, FT.out⟩
    case round =>
      obtain ⟨k, hk, rfl, hf⟩ := hrel
      have FK := Lib.hid hf
      clear hf FC FT q0 q1 q2
      by_cases hk2 : k < n
      · skip
        have hkn : k < ps.length := by omega
        have hki : (k : Int) < (ps.length : Int) := by omega
        have hkN : (k : Int) < (N : Int) := by have := HNN.out; omega
        obtain ⟨k1, hk1⟩ : ∃ k1 : Nat, k1 = k + 1 := ⟨_, rfl⟩
        have HK1 := Lib.hid hk1
        have hwk := (IntWalk.i64_in ((k : Int) + 1) (by omega)).trans (show (k : Int) + 1 = (k1 : Int) by omega)
        have hk1N : (k1 : Int) < (N : Int) := by have := HNN.out; omega
        have hk1n : k1 ≤ ps.length := by omega
        obtain ⟨a3, ea, _, c0, c1, c2, c3⟩ := (Fr.lies HA.out FK.out).piece (gp_at (i := k) hkn)
        simp only [Option.some.injEq] at ea
        subst ea
        have hpo := okP_iff.1 (gp_ok HOK.out.each k)
        have hwr := FK.out.top.lt
        obtain ⟨⟨pl, pg, pm, pv0⟩, hP⟩ : ∃ P, gp ps k = P := ⟨_, rfl⟩
        have HP := Lib.hid hP
        rw [hP] at c0 c1 c2 c3 hpo
        simp only at c0 c1 c2 c3 hpo
        obtain ⟨⟨pl0, pl1⟩, _, _⟩ := hpo
        clear hP hk1
        go_upto_region 7 with fail
        go_cut [9, 10] from 32 to 34 (fun iv pv W => iv = .int .i64 k ∧ ∃ gz : Nat, pv = .pointer (some ⟨gz, 0, none⟩) ∧ wr.heap.size ≤ gz ∧ Fr wr W [(gz, 54, #[.int .i64 pl, .int .i64 pg, .int .i64 pm, .bool pv0])])
        case first =>
          go_wp2_with fail
          go_meet
          exact ⟨rfl, _, rfl, Nat.le_refl _, (Fr.nil wr).box _ _⟩
        case rest =>
        obtain ⟨wz, rfl⟩ : ∃ W, W = wc := ⟨_, rfl⟩
        obtain ⟨rfl, gz, rfl, hgz, hx⟩ := hcut
        have HZ := Lib.hid hx
        have FZ := Lib.hid (FK.out.call hx.bl)
        clear hx FK c0 c1 c2 c3
        have hwz := HZ.out.bl.size
        obtain ⟨x, hx⟩ : ∃ x, sqAt l k = x := ⟨_, rfl⟩
        obtain ⟨y, hy⟩ : ∃ y, sqAt l k1 = y := ⟨_, rfl⟩
        have HXX := Lib.hid hx
        have HYY := Lib.hid hy
        have cx := HLC.out k (by omega) wz FZ.out.tail.tail.tail.tail
        have cy := HLC.out k1 hk1n wz FZ.out.tail.tail.tail.tail
        rw [hx] at cx
        rw [hy] at cy
        clear hx hy
        have HMK : Hid (zeroS l k = false) := Lib.hid (HMISS.out k (by omega))
        have HNZ : Hid (¬ (x = 0 ∧ y = 0)) := Lib.hid (fun h => by have := zero_iff.2 (show sqAt l k = 0 ∧ sqAt l (k + 1) = 0 by rw [HXX.out, ← HK1.out, HYY.out]; exact h); rw [HMK.out] at this; cases this)
        go_upto_region 8 with fail
        go_cut [47] from 35 to 47 (fun r W => r = .bool false ∧ Fr wz W [])
        case first =>
          by_cases e1 : x = 0
          · have e2 : ¬ y = 0 := fun e => HNZ.out ⟨e1, e⟩
            have e3 : (y == 0) = false := by simp [e2]
            go_wp2_with fail
            go_meet
            exact ⟨rfl, Fr.nil wz⟩
          · have e3 : (x == 0) = false := by simp [e1]
            go_wp2_with fail
            go_meet
            exact ⟨rfl, Fr.nil wz⟩
        case rest =>
        obtain ⟨wz2, rfl⟩ : ∃ W, W = wc := ⟨_, rfl⟩
        obtain ⟨rfl, hx8⟩ := hcut
        have FZ2 := Lib.hid (FZ.out.call hx8.bl)
        have HZ2 := Lib.hid (HZ.out.call hx8.bl)
        have hwz2 := hx8.bl.size
        have HST := tim_step HOK.out.each HQ.out HMK.out
        have HTB := tim_bound HOK.out.each HQ.out k (fun j hj => HMISS.out j (by omega))
        rw [HXX.out, ← HK1.out, HYY.out] at HST
        have hqx := HQ.out k
        have hqy := HQ.out k1
        rw [HXX.out] at hqx
        rw [HYY.out] at hqy
        have HR1 := Lib.hid (fun W => root_any x hqx W)
        have HR2 := Lib.hid (fun W => root_any y hqy W)
        have HSL : Hid (tloV ps l k1 = tloV ps l k + (2000 * pl).tdiv ((rtU x : Int) + rtU y)) := Lib.hid (by rw [HK1.out, tloV, ← HK1.out, HXX.out, HYY.out, HP.out])
        have HSH : Hid (thiV ps l k1 = thiV ps l k + (2000 * pl + (rtL x + rtL y) - 1).tdiv (rtL x + rtL y)) := Lib.hid (by rw [HK1.out, thiV, ← HK1.out, HXX.out, HYY.out, HP.out])
        obtain ⟨L1, hL1⟩ : ∃ L1, rtL x = L1 := ⟨_, rfl⟩
        obtain ⟨U1, hU1⟩ : ∃ U1 : Int, (rtU x : Int) = U1 := ⟨_, rfl⟩
        obtain ⟨L2, hL2⟩ : ∃ L2, rtL y = L2 := ⟨_, rfl⟩
        obtain ⟨U2, hU2⟩ : ∃ U2 : Int, (rtU y : Int) = U2 := ⟨_, rfl⟩
        rw [hL1, hU1] at HR1
        rw [hL2, hU2] at HR2
        rw [hU1, hU2] at HSL
        rw [hL1, hL2] at HSH
        rw [hL1, hL2, hU1, hU2] at HST
        obtain ⟨lo, hlo⟩ : ∃ lo, tloV ps l k = lo := ⟨_, rfl⟩
        obtain ⟨hi, hhi⟩ : ∃ hi, thiV ps l k = hi := ⟨_, rfl⟩
        rw [hlo] at HSL
        rw [hhi] at HSH
        rw [hlo, hhi] at HTB FZ2
        have hd1 := div_le (a := 2000 * pl) (b := U1 + U2) (by omega) (by omega)
        have hd2 := div_le (a := 2000 * pl + (L1 + L2) - 1) (b := L1 + L2) (by omega) (by omega)
        have HFL := Lib.hid (fun w => floor2_any (2000 * pl) (U1 + U2) (by omega) (by omega) (by omega) (by omega) w)
        have HCL := Lib.hid (fun w => ceiling2_any (2000 * pl) (L1 + L2) (by omega) (by omega) (by omega) (by omega) w)
        obtain ⟨d1, hdd1⟩ : ∃ d1, (2000 * pl).tdiv (U1 + U2) = d1 := ⟨_, rfl⟩
        obtain ⟨d2, hdd2⟩ : ∃ d2, (2000 * pl + (L1 + L2) - 1).tdiv (L1 + L2) = d2 := ⟨_, rfl⟩
        rw [hdd1] at HFL HSL hd1
        rw [hdd2] at HCL HSH hd2
        have hw1 := IntWalk.i64_in (U1 + U2) (by omega)
        have hw2 := IntWalk.i64_in (L1 + L2) (by omega)
        have hw3 := IntWalk.i64_in (2000 * pl) (by omega)
        have hw4 := IntWalk.i64_in (lo + d1) (by omega)
        have hw5 := IntWalk.i64_in (hi + d2) (by omega)
        obtain ⟨wz, hwzz⟩ : ∃ W, W = wz2 := ⟨_, rfl⟩
        subst hwzz
        have cx := HLC.out k (by omega) wz FZ2.out.tail.tail.tail.tail
        have cy := HLC.out k1 hk1n wz FZ2.out.tail.tail.tail.tail
        rw [HXX.out] at cx
        rw [HYY.out] at cy
        clear HST HTB hqx hqy hL1 hU1 hL2 hU2 hlo hhi hd1 hd2 hdd1 hdd2 FZ HZ hx8
        go_upto_region 10 with fail
        go_cut [11, 12] from 49 to 59 (fun pv qv W => ∃ gA gB : Nat, pv = .pointer (some ⟨gA, 0, none⟩) ∧ qv = .pointer (some ⟨gB, 0, none⟩) ∧ gA ≠ gB ∧ wz.heap.size ≤ gA ∧ wz.heap.size ≤ gB ∧ Fr wz W [(gB, 48, #[.int .i64 L2, .int .i64 U2]), (gA, 48, #[.int .i64 L1, .int .i64 U1])])
        case first =>
          have HALL : Hid (∀ W, Fr wz W [] → Fr wz W [] ∧ W.cell? (a2.add k) = some (.int .i64 x) ∧ W.cell? (a2.add k1) = some (.int .i64 y)) := Lib.hid (fun W hW => ⟨hW, by rw [← HXX.out]; exact HLC.out k (by omega) _ (FZ2.out.tail.tail.tail.tail.call hW.bl), by rw [← HYY.out]; exact HLC.out k1 hk1n _ (FZ2.out.tail.tail.tail.tail.call hW.bl)⟩)
          have F10 : Fr wz wz [] := Fr.nil wz
          refine Tw_start 13 (fun W => Fr wz W [] ∧ W.cell? (a2.add k) = some (.int .i64 x) ∧ W.cell? (a2.add k1) = some (.int .i64 y)) (by kernel_rfl) (by kernel_rfl) rfl ?_ ?_
          · (try dsimp only)
            ((go_split_ands; refine HALL.out _ ?_; (first | assumption | (repeat (first | assumption | refine Fr.new ?_ _ | refine Fr.drew ?_ | (refine Fr.set ?_ (by first | exact Nat.le_refl _ | omega | (simp; done) | (simp; omega)) (by first | (simp; done) | (simp; omega)) _))); done)))
          refine Tw_takeL (i := 0) (v := ?tv143) rfl (by kernel_rfl) (by decide) (by kernel_rfl) (by kernel_rfl) (fun _ _ _ h => h) (by rfl) ?ty143 ?tn143
          case ty143 => (intro w hSw; (try dsimp only at hSw); go_simp <;> with_reducible rfl)
          (try simp only [Act.put, List.setIfInBounds_toArray, List.set_cons_zero, List.set_cons_succ])
          refine Tw_takeL (i := 1) (v := ?tv144) rfl (by kernel_rfl) (by decide) (by kernel_rfl) (by kernel_rfl) (fun _ _ _ h => h) (by rfl) ?ty144 ?tn144
          case ty144 => (intro w hSw; (try dsimp only at hSw); go_simp <;> with_reducible rfl)
          (try simp only [Act.put, List.setIfInBounds_toArray, List.set_cons_zero, List.set_cons_succ])
          refine Tw_takeL (i := 5) (v := ?tv145) rfl (by kernel_rfl) (by decide) (by kernel_rfl) (by kernel_rfl) (fun _ _ _ h => h) (by rfl) ?ty145 ?tn145
          case ty145 => (intro w hSw; (try dsimp only at hSw); go_simp <;> with_reducible rfl)
          (try simp only [Act.put, List.setIfInBounds_toArray, List.set_cons_zero, List.set_cons_succ])
          refine Tw_takeL (i := 6) (v := ?tv146) rfl (by kernel_rfl) (by decide) (by kernel_rfl) (by kernel_rfl) (fun _ _ _ h => h) (by rfl) ?ty146 ?tn146
          case ty146 => (intro w hSw; (try dsimp only at hSw); go_simp <;> with_reducible rfl)
          (try simp only [Act.put, List.setIfInBounds_toArray, List.set_cons_zero, List.set_cons_succ])
          refine Tw_takeL (i := 2) (v := ?tv147) rfl (by kernel_rfl) (by decide) (by kernel_rfl) (by kernel_rfl) (fun _ _ _ h => h) (by rfl) ?ty147 ?tn147
          case ty147 => (intro w hSw; (try dsimp only at hSw); go_simp <;> with_reducible rfl)
          (try simp only [Act.put, List.setIfInBounds_toArray, List.set_cons_zero, List.set_cons_succ])
          refine Tw_takeL (i := 7) (v := ?tv148) rfl (by kernel_rfl) (by decide) (by kernel_rfl) (by kernel_rfl) (fun _ _ _ h => h) (by rfl) ?ty148 ?tn148
          case ty148 => (intro w hSw; (try dsimp only at hSw); go_simp <;> with_reducible rfl)
          (try simp only [Act.put, List.setIfInBounds_toArray, List.set_cons_zero, List.set_cons_succ])
          refine Tw_takeL (i := 3) (v := ?tv149) rfl (by kernel_rfl) (by decide) (by kernel_rfl) (by kernel_rfl) (fun _ _ _ h => h) (by rfl) ?ty149 ?tn149
          case ty149 => (intro w hSw; (try dsimp only at hSw); go_simp <;> with_reducible rfl)
          (try simp only [Act.put, List.setIfInBounds_toArray, List.set_cons_zero, List.set_cons_succ])
          refine Tw_takeL (i := 8) (v := ?tv150) rfl (by kernel_rfl) (by decide) (by kernel_rfl) (by kernel_rfl) (fun _ _ _ h => h) (by rfl) ?ty150 ?tn150
          case ty150 => (intro w hSw; (try dsimp only at hSw); go_simp <;> with_reducible rfl)
          (try simp only [Act.put, List.setIfInBounds_toArray, List.set_cons_zero, List.set_cons_succ])
          refine Tw_takeL (i := 9) (v := ?tv151) rfl (by kernel_rfl) (by decide) (by kernel_rfl) (by kernel_rfl) (fun _ _ _ h => h) (by rfl) ?ty151 ?tn151
          case ty151 => (intro w hSw; (try dsimp only at hSw); go_simp <;> with_reducible rfl)
          (try simp only [Act.put, List.setIfInBounds_toArray, List.set_cons_zero, List.set_cons_succ])
          refine Tw_all (rs := [4, 11, 12]) (by kernel_rfl) (by simp) (by decide) (fun hHeld => ?_)
          refine AllT.consL rfl (fun K hK => ?_) (AllT.consL rfl (fun K hK => ?_) (AllT.consL rfl (fun K hK => ?_) (AllT.nil)))
          · go_simp
            (go_at_call 29; go_split_ands; (with_reducible refine (HR1.out _).mono ?_); rintro e w7 ⟨rfl, hb7⟩; have F4 := Fr.call (by assumption) hb7; (first | (have NA := Lib.hid (Bk.call NA.out hb7)) | skip); (first | (have NB := Lib.hid (Bk.call NB.out hb7)) | skip); clear hb7)
            refine hK.out _ _ ?_ ?_
            · (try dsimp only)
              ((go_split_ands; refine HALL.out _ ?_; (first | assumption | (repeat (first | assumption | refine Fr.new ?_ _ | refine Fr.drew ?_ | (refine Fr.set ?_ (by first | exact Nat.le_refl _ | omega | (simp; done) | (simp; omega)) (by first | (simp; done) | (simp; omega)) _))); done)))
            clear hK K
            (try simp only [Act.put, List.setIfInBounds_toArray, List.set_cons_zero, List.set_cons_succ])
            refine Tw_all (rs := [10, 11, 12]) (by kernel_rfl) (by simp) (by decide) (fun hHeld => ?_)
            refine AllT.consL rfl (fun K hK => ?_) (AllT.consL rfl (fun K hK => ?_) (AllT.consL rfl (fun K hK => ?_) (AllT.nil)))
            · go_simp
              (go_at_call 29; go_split_ands; (with_reducible refine (HR2.out _).mono ?_); rintro e w7 ⟨rfl, hb7⟩; have F4 := Fr.call (by assumption) hb7; (first | (have NA := Lib.hid (Bk.call NA.out hb7)) | skip); (first | (have NB := Lib.hid (Bk.call NB.out hb7)) | skip); clear hb7)
              refine hK.out _ _ ?_ ?_
              · (try dsimp only)
                ((go_split_ands; refine HALL.out _ ?_; (first | assumption | (repeat (first | assumption | refine Fr.new ?_ _ | refine Fr.drew ?_ | (refine Fr.set ?_ (by first | exact Nat.le_refl _ | omega | (simp; done) | (simp; omega)) (by first | (simp; done) | (simp; omega)) _))); done)))
              clear hK K
              (try simp only [Act.put, List.setIfInBounds_toArray, List.set_cons_zero, List.set_cons_succ])
              refine Tw_all (rs := [11, 12]) (by kernel_rfl) (by simp) (by decide) (fun hHeld => ?_)
              refine AllT.consL rfl (fun K hK => ?_) (AllT.consL rfl (fun K hK => ?_) (AllT.nil))
              · go_simp
                refine hK.out _ _ ?_ ?_
                · (try dsimp only)
                  ((go_split_ands; refine HALL.out _ ?_; (first | assumption | (repeat (first | assumption | refine Fr.new ?_ _ | refine Fr.drew ?_ | (refine Fr.set ?_ (by first | exact Nat.le_refl _ | omega | (simp; done) | (simp; omega)) (by first | (simp; done) | (simp; omega)) _))); done)))
                clear hK K
                (try simp only [Act.put, List.setIfInBounds_toArray, List.set_cons_zero, List.set_cons_succ])
                refine Tw_abs ?_
                intro wA156 hA156
                (first | (have hAB := Lib.hid (Nat.ne_of_lt NB.out.lt).symm) | skip)
                (first | (have NB := Lib.hid (Bk.over_alloc hA156 NB.out)) | (have NB := Lib.hid (Bk.over_alloc_drew hA156 NB.out)) | skip)
                (first | (have NA := Lib.hid (Bk.of_alloc hA156)) | (have NA := Lib.hid (Bk.of_alloc_drew hA156)))
                have zA := Lib.hid (show wz.heap.size ≤ _ from hHeld.1.size)
                clear hA156
                refine Tw_all (rs := [12]) (by kernel_rfl) (by simp) (by decide) (fun hHeld => ?_)
                refine AllT.consL rfl (fun K hK => ?_) (AllT.nil)
                · go_simp
                  refine hK.out _ _ ?_ ?_
                  · (try dsimp only)
                    ((go_split_ands; refine HALL.out _ ?_; (first | assumption | (repeat (first | assumption | refine Fr.new ?_ _ | refine Fr.drew ?_ | (refine Fr.set ?_ (by first | exact Nat.le_refl _ | omega | (simp; done) | (simp; omega)) (by first | (simp; done) | (simp; omega)) _))); done)))
                  clear hK K
                  (try simp only [Act.put, List.setIfInBounds_toArray, List.set_cons_zero, List.set_cons_succ])
                  refine Tw_abs ?_
                  intro wA157 hA157
                  (first | (have hAB := Lib.hid (Nat.ne_of_lt NA.out.lt)) | skip)
                  (first | (have NA := Lib.hid (Bk.over_alloc hA157 NA.out)) | (have NA := Lib.hid (Bk.over_alloc_drew hA157 NA.out)) | skip)
                  (first | (have NB := Lib.hid (Bk.of_alloc hA157)) | (have NB := Lib.hid (Bk.of_alloc_drew hA157)))
                  have zB := Lib.hid (show wz.heap.size ≤ _ from hHeld.1.size)
                  clear hA157
                  refine Tw_end (by kernel_rfl) (fun hh => ?_)
                  obtain ⟨F11, _⟩ := hh
                  clear HALL
                  have n0 := NA.out.cell 0
                  have n1 := NA.out.cell 1
                  have m0 := NB.out.cell 0
                  have m1 := NB.out.cell 1
                  have g0 := NA.out.frozen 0
                  have g1 := NA.out.frozen 1
                  have h0 := NB.out.frozen 0
                  have h1 := NB.out.frozen 1
                  have za := NA.out.lt
                  have zb := NB.out.lt
                  have hab := hAB.out
                  have hab2 := hAB.out.symm
                  go_wp2_with fail
                  go_meet
                  first | exact ⟨_, _, rfl, rfl, hAB.out, zA.out, zB.out, two_boxes F11 NA.out NB.out zA.out zB.out hAB.out _ _ _ _⟩ | exact ⟨_, _, rfl, rfl, hAB.out, zA.out, zB.out, (two_boxes F11 NA.out NB.out zA.out zB.out hAB.out _ _ _ _).drew⟩
              · go_simp
                refine hK.out _ _ ?_ ?_
                · (try dsimp only)
                  ((go_split_ands; refine HALL.out _ ?_; (first | assumption | (repeat (first | assumption | refine Fr.new ?_ _ | refine Fr.drew ?_ | (refine Fr.set ?_ (by first | exact Nat.le_refl _ | omega | (simp; done) | (simp; omega)) (by first | (simp; done) | (simp; omega)) _))); done)))
                clear hK K
                (try simp only [Act.put, List.setIfInBounds_toArray, List.set_cons_zero, List.set_cons_succ])
                refine Tw_abs ?_
                intro wA158 hA158
                (first | (have hAB := Lib.hid (Nat.ne_of_lt NA.out.lt)) | skip)
                (first | (have NA := Lib.hid (Bk.over_alloc hA158 NA.out)) | (have NA := Lib.hid (Bk.over_alloc_drew hA158 NA.out)) | skip)
                (first | (have NB := Lib.hid (Bk.of_alloc hA158)) | (have NB := Lib.hid (Bk.of_alloc_drew hA158)))
                have zB := Lib.hid (show wz.heap.size ≤ _ from hHeld.1.size)
                clear hA158
                refine Tw_all (rs := [11]) (by kernel_rfl) (by simp) (by decide) (fun hHeld => ?_)
                refine AllT.consL rfl (fun K hK => ?_) (AllT.nil)
                · go_simp
                  refine hK.out _ _ ?_ ?_
                  · (try dsimp only)
                    ((go_split_ands; refine HALL.out _ ?_; (first | assumption | (repeat (first | assumption | refine Fr.new ?_ _ | refine Fr.drew ?_ | (refine Fr.set ?_ (by first | exact Nat.le_refl _ | omega | (simp; done) | (simp; omega)) (by first | (simp; done) | (simp; omega)) _))); done)))
                  clear hK K
                  (try simp only [Act.put, List.setIfInBounds_toArray, List.set_cons_zero, List.set_cons_succ])
                  refine Tw_abs ?_
                  intro wA159 hA159
                  (first | (have hAB := Lib.hid (Nat.ne_of_lt NB.out.lt).symm) | skip)
                  (first | (have NB := Lib.hid (Bk.over_alloc hA159 NB.out)) | (have NB := Lib.hid (Bk.over_alloc_drew hA159 NB.out)) | skip)
                  (first | (have NA := Lib.hid (Bk.of_alloc hA159)) | (have NA := Lib.hid (Bk.of_alloc_drew hA159)))
                  have zA := Lib.hid (show wz.heap.size ≤ _ from hHeld.1.size)
                  clear hA159
                  refine Tw_end (by kernel_rfl) (fun hh => ?_)
                  obtain ⟨F11, _⟩ := hh
                  clear HALL
                  have n0 := NA.out.cell 0
                  have n1 := NA.out.cell 1
                  have m0 := NB.out.cell 0
                  have m1 := NB.out.cell 1
                  have g0 := NA.out.frozen 0
                  have g1 := NA.out.frozen 1
                  have h0 := NB.out.frozen 0
                  have h1 := NB.out.frozen 1
                  have za := NA.out.lt
                  have zb := NB.out.lt
                  have hab := hAB.out
                  have hab2 := hAB.out.symm
                  go_wp2_with fail
                  go_meet
                  first | exact ⟨_, _, rfl, rfl, hAB.out, zA.out, zB.out, two_boxes F11 NA.out NB.out zA.out zB.out hAB.out _ _ _ _⟩ | exact ⟨_, _, rfl, rfl, hAB.out, zA.out, zB.out, (two_boxes F11 NA.out NB.out zA.out zB.out hAB.out _ _ _ _).drew⟩
            · go_simp
              refine hK.out _ _ ?_ ?_
              · (try dsimp only)
                ((go_split_ands; refine HALL.out _ ?_; (first | assumption | (repeat (first | assumption | refine Fr.new ?_ _ | refine Fr.drew ?_ | (refine Fr.set ?_ (by first | exact Nat.le_refl _ | omega | (simp; done) | (simp; omega)) (by first | (simp; done) | (simp; omega)) _))); done)))
              clear hK K
              (try simp only [Act.put, List.setIfInBounds_toArray, List.set_cons_zero, List.set_cons_succ])
              refine Tw_abs ?_
              intro wA160 hA160
              (first | (have hAB := Lib.hid (Nat.ne_of_lt NB.out.lt).symm) | skip)
              (first | (have NB := Lib.hid (Bk.over_alloc hA160 NB.out)) | (have NB := Lib.hid (Bk.over_alloc_drew hA160 NB.out)) | skip)
              (first | (have NA := Lib.hid (Bk.of_alloc hA160)) | (have NA := Lib.hid (Bk.of_alloc_drew hA160)))
              have zA := Lib.hid (show wz.heap.size ≤ _ from hHeld.1.size)
              clear hA160
              refine Tw_all (rs := [10, 12]) (by kernel_rfl) (by simp) (by decide) (fun hHeld => ?_)
              refine AllT.consL rfl (fun K hK => ?_) (AllT.consL rfl (fun K hK => ?_) (AllT.nil))
              · go_simp
                (go_at_call 29; go_split_ands; (with_reducible refine (HR2.out _).mono ?_); rintro e w7 ⟨rfl, hb7⟩; have F4 := Fr.call (by assumption) hb7; (first | (have NA := Lib.hid (Bk.call NA.out hb7)) | skip); (first | (have NB := Lib.hid (Bk.call NB.out hb7)) | skip); clear hb7)
                refine hK.out _ _ ?_ ?_
                · (try dsimp only)
                  ((go_split_ands; refine HALL.out _ ?_; (first | assumption | (repeat (first | assumption | refine Fr.new ?_ _ | refine Fr.drew ?_ | (refine Fr.set ?_ (by first | exact Nat.le_refl _ | omega | (simp; done) | (simp; omega)) (by first | (simp; done) | (simp; omega)) _))); done)))
                clear hK K
                (try simp only [Act.put, List.setIfInBounds_toArray, List.set_cons_zero, List.set_cons_succ])
                refine Tw_all (rs := [12]) (by kernel_rfl) (by simp) (by decide) (fun hHeld => ?_)
                refine AllT.consL rfl (fun K hK => ?_) (AllT.nil)
                · go_simp
                  refine hK.out _ _ ?_ ?_
                  · (try dsimp only)
                    ((go_split_ands; refine HALL.out _ ?_; (first | assumption | (repeat (first | assumption | refine Fr.new ?_ _ | refine Fr.drew ?_ | (refine Fr.set ?_ (by first | exact Nat.le_refl _ | omega | (simp; done) | (simp; omega)) (by first | (simp; done) | (simp; omega)) _))); done)))
                  clear hK K
                  (try simp only [Act.put, List.setIfInBounds_toArray, List.set_cons_zero, List.set_cons_succ])
                  refine Tw_abs ?_
                  intro wA162 hA162
                  (first | (have hAB := Lib.hid (Nat.ne_of_lt NA.out.lt)) | skip)
                  (first | (have NA := Lib.hid (Bk.over_alloc hA162 NA.out)) | (have NA := Lib.hid (Bk.over_alloc_drew hA162 NA.out)) | skip)
                  (first | (have NB := Lib.hid (Bk.of_alloc hA162)) | (have NB := Lib.hid (Bk.of_alloc_drew hA162)))
                  have zB := Lib.hid (show wz.heap.size ≤ _ from hHeld.1.size)
                  clear hA162
                  refine Tw_end (by kernel_rfl) (fun hh => ?_)
                  obtain ⟨F11, _⟩ := hh
                  clear HALL
                  have n0 := NA.out.cell 0
                  have n1 := NA.out.cell 1
                  have m0 := NB.out.cell 0
                  have m1 := NB.out.cell 1
                  have g0 := NA.out.frozen 0
                  have g1 := NA.out.frozen 1
                  have h0 := NB.out.frozen 0
                  have h1 := NB.out.frozen 1
                  have za := NA.out.lt
                  have zb := NB.out.lt
                  have hab := hAB.out
                  have hab2 := hAB.out.symm
                  go_wp2_with fail
                  go_meet
                  first | exact ⟨_, _, rfl, rfl, hAB.out, zA.out, zB.out, two_boxes F11 NA.out NB.out zA.out zB.out hAB.out _ _ _ _⟩ | exact ⟨_, _, rfl, rfl, hAB.out, zA.out, zB.out, (two_boxes F11 NA.out NB.out zA.out zB.out hAB.out _ _ _ _).drew⟩
              · go_simp
                refine hK.out _ _ ?_ ?_
                · (try dsimp only)
                  ((go_split_ands; refine HALL.out _ ?_; (first | assumption | (repeat (first | assumption | refine Fr.new ?_ _ | refine Fr.drew ?_ | (refine Fr.set ?_ (by first | exact Nat.le_refl _ | omega | (simp; done) | (simp; omega)) (by first | (simp; done) | (simp; omega)) _))); done)))
                clear hK K
                (try simp only [Act.put, List.setIfInBounds_toArray, List.set_cons_zero, List.set_cons_succ])
                refine Tw_abs ?_
                intro wA163 hA163
                (first | (have hAB := Lib.hid (Nat.ne_of_lt NA.out.lt)) | skip)
                (first | (have NA := Lib.hid (Bk.over_alloc hA163 NA.out)) | (have NA := Lib.hid (Bk.over_alloc_drew hA163 NA.out)) | skip)
                (first | (have NB := Lib.hid (Bk.of_alloc hA163)) | (have NB := Lib.hid (Bk.of_alloc_drew hA163)))
                have zB := Lib.hid (show wz.heap.size ≤ _ from hHeld.1.size)
                clear hA163
                refine Tw_all (rs := [10]) (by kernel_rfl) (by simp) (by decide) (fun hHeld => ?_)
                refine AllT.consL rfl (fun K hK => ?_) (AllT.nil)
                · go_simp
                  (go_at_call 29; go_split_ands; (with_reducible refine (HR2.out _).mono ?_); rintro e w7 ⟨rfl, hb7⟩; have F4 := Fr.call (by assumption) hb7; (first | (have NA := Lib.hid (Bk.call NA.out hb7)) | skip); (first | (have NB := Lib.hid (Bk.call NB.out hb7)) | skip); clear hb7)
                  refine hK.out _ _ ?_ ?_
                  · (try dsimp only)
                    ((go_split_ands; refine HALL.out _ ?_; (first | assumption | (repeat (first | assumption | refine Fr.new ?_ _ | refine Fr.drew ?_ | (refine Fr.set ?_ (by first | exact Nat.le_refl _ | omega | (simp; done) | (simp; omega)) (by first | (simp; done) | (simp; omega)) _))); done)))
                  clear hK K
                  (try simp only [Act.put, List.setIfInBounds_toArray, List.set_cons_zero, List.set_cons_succ])
                  refine Tw_end (by kernel_rfl) (fun hh => ?_)
                  obtain ⟨F11, _⟩ := hh
                  clear HALL
                  have n0 := NA.out.cell 0
                  have n1 := NA.out.cell 1
                  have m0 := NB.out.cell 0
                  have m1 := NB.out.cell 1
                  have g0 := NA.out.frozen 0
                  have g1 := NA.out.frozen 1
                  have h0 := NB.out.frozen 0
                  have h1 := NB.out.frozen 1
                  have za := NA.out.lt
                  have zb := NB.out.lt
                  have hab := hAB.out
                  have hab2 := hAB.out.symm
                  go_wp2_with fail
                  go_meet
                  first | exact ⟨_, _, rfl, rfl, hAB.out, zA.out, zB.out, two_boxes F11 NA.out NB.out zA.out zB.out hAB.out _ _ _ _⟩ | exact ⟨_, _, rfl, rfl, hAB.out, zA.out, zB.out, (two_boxes F11 NA.out NB.out zA.out zB.out hAB.out _ _ _ _).drew⟩
            · go_simp
              refine hK.out _ _ ?_ ?_
              · (try dsimp only)
                ((go_split_ands; refine HALL.out _ ?_; (first | assumption | (repeat (first | assumption | refine Fr.new ?_ _ | refine Fr.drew ?_ | (refine Fr.set ?_ (by first | exact Nat.le_refl _ | omega | (simp; done) | (simp; omega)) (by first | (simp; done) | (simp; omega)) _))); done)))
              clear hK K
              (try simp only [Act.put, List.setIfInBounds_toArray, List.set_cons_zero, List.set_cons_succ])
              refine Tw_abs ?_
              intro wA165 hA165
              (first | (have hAB := Lib.hid (Nat.ne_of_lt NA.out.lt)) | skip)
              (first | (have NA := Lib.hid (Bk.over_alloc hA165 NA.out)) | (have NA := Lib.hid (Bk.over_alloc_drew hA165 NA.out)) | skip)
              (first | (have NB := Lib.hid (Bk.of_alloc hA165)) | (have NB := Lib.hid (Bk.of_alloc_drew hA165)))
              have zB := Lib.hid (show wz.heap.size ≤ _ from hHeld.1.size)
              clear hA165
              refine Tw_all (rs := [10, 11]) (by kernel_rfl) (by simp) (by decide) (fun hHeld => ?_)
              refine AllT.consL rfl (fun K hK => ?_) (AllT.consL rfl (fun K hK => ?_) (AllT.nil))
              · go_simp
                (go_at_call 29; go_split_ands; (with_reducible refine (HR2.out _).mono ?_); rintro e w7 ⟨rfl, hb7⟩; have F4 := Fr.call (by assumption) hb7; (first | (have NA := Lib.hid (Bk.call NA.out hb7)) | skip); (first | (have NB := Lib.hid (Bk.call NB.out hb7)) | skip); clear hb7)
                refine hK.out _ _ ?_ ?_
                · (try dsimp only)
                  ((go_split_ands; refine HALL.out _ ?_; (first | assumption | (repeat (first | assumption | refine Fr.new ?_ _ | refine Fr.drew ?_ | (refine Fr.set ?_ (by first | exact Nat.le_refl _ | omega | (simp; done) | (simp; omega)) (by first | (simp; done) | (simp; omega)) _))); done)))
                clear hK K
                (try simp only [Act.put, List.setIfInBounds_toArray, List.set_cons_zero, List.set_cons_succ])
                refine Tw_all (rs := [11]) (by kernel_rfl) (by simp) (by decide) (fun hHeld => ?_)
                refine AllT.consL rfl (fun K hK => ?_) (AllT.nil)
                · go_simp
                  refine hK.out _ _ ?_ ?_
                  · (try dsimp only)
                    ((go_split_ands; refine HALL.out _ ?_; (first | assumption | (repeat (first | assumption | refine Fr.new ?_ _ | refine Fr.drew ?_ | (refine Fr.set ?_ (by first | exact Nat.le_refl _ | omega | (simp; done) | (simp; omega)) (by first | (simp; done) | (simp; omega)) _))); done)))
                  clear hK K
                  (try simp only [Act.put, List.setIfInBounds_toArray, List.set_cons_zero, List.set_cons_succ])
                  refine Tw_abs ?_
                  intro wA167 hA167
                  (first | (have hAB := Lib.hid (Nat.ne_of_lt NB.out.lt).symm) | skip)
                  (first | (have NB := Lib.hid (Bk.over_alloc hA167 NB.out)) | (have NB := Lib.hid (Bk.over_alloc_drew hA167 NB.out)) | skip)
                  (first | (have NA := Lib.hid (Bk.of_alloc hA167)) | (have NA := Lib.hid (Bk.of_alloc_drew hA167)))
                  have zA := Lib.hid (show wz.heap.size ≤ _ from hHeld.1.size)
                  clear hA167
                  refine Tw_end (by kernel_rfl) (fun hh => ?_)
                  obtain ⟨F11, _⟩ := hh
                  clear HALL
                  have n0 := NA.out.cell 0
                  have n1 := NA.out.cell 1
                  have m0 := NB.out.cell 0
                  have m1 := NB.out.cell 1
                  have g0 := NA.out.frozen 0
                  have g1 := NA.out.frozen 1
                  have h0 := NB.out.frozen 0
                  have h1 := NB.out.frozen 1
                  have za := NA.out.lt
                  have zb := NB.out.lt
                  have hab := hAB.out
                  have hab2 := hAB.out.symm
                  go_wp2_with fail
                  go_meet
                  first | exact ⟨_, _, rfl, rfl, hAB.out, zA.out, zB.out, two_boxes F11 NA.out NB.out zA.out zB.out hAB.out _ _ _ _⟩ | exact ⟨_, _, rfl, rfl, hAB.out, zA.out, zB.out, (two_boxes F11 NA.out NB.out zA.out zB.out hAB.out _ _ _ _).drew⟩
              · go_simp
                refine hK.out _ _ ?_ ?_
                · (try dsimp only)
                  ((go_split_ands; refine HALL.out _ ?_; (first | assumption | (repeat (first | assumption | refine Fr.new ?_ _ | refine Fr.drew ?_ | (refine Fr.set ?_ (by first | exact Nat.le_refl _ | omega | (simp; done) | (simp; omega)) (by first | (simp; done) | (simp; omega)) _))); done)))
                clear hK K
                (try simp only [Act.put, List.setIfInBounds_toArray, List.set_cons_zero, List.set_cons_succ])
                refine Tw_abs ?_
                intro wA168 hA168
                (first | (have hAB := Lib.hid (Nat.ne_of_lt NB.out.lt).symm) | skip)
                (first | (have NB := Lib.hid (Bk.over_alloc hA168 NB.out)) | (have NB := Lib.hid (Bk.over_alloc_drew hA168 NB.out)) | skip)
                (first | (have NA := Lib.hid (Bk.of_alloc hA168)) | (have NA := Lib.hid (Bk.of_alloc_drew hA168)))
                have zA := Lib.hid (show wz.heap.size ≤ _ from hHeld.1.size)
                clear hA168
                refine Tw_all (rs := [10]) (by kernel_rfl) (by simp) (by decide) (fun hHeld => ?_)
                refine AllT.consL rfl (fun K hK => ?_) (AllT.nil)
                · go_simp
                  (go_at_call 29; go_split_ands; (with_reducible refine (HR2.out _).mono ?_); rintro e w7 ⟨rfl, hb7⟩; have F4 := Fr.call (by assumption) hb7; (first | (have NA := Lib.hid (Bk.call NA.out hb7)) | skip); (first | (have NB := Lib.hid (Bk.call NB.out hb7)) | skip); clear hb7)
                  refine hK.out _ _ ?_ ?_
                  · (try dsimp only)
                    ((go_split_ands; refine HALL.out _ ?_; (first | assumption | (repeat (first | assumption | refine Fr.new ?_ _ | refine Fr.drew ?_ | (refine Fr.set ?_ (by first | exact Nat.le_refl _ | omega | (simp; done) | (simp; omega)) (by first | (simp; done) | (simp; omega)) _))); done)))
                  clear hK K
                  (try simp only [Act.put, List.setIfInBounds_toArray, List.set_cons_zero, List.set_cons_succ])
                  refine Tw_end (by kernel_rfl) (fun hh => ?_)
                  obtain ⟨F11, _⟩ := hh
                  clear HALL
                  have n0 := NA.out.cell 0
                  have n1 := NA.out.cell 1
                  have m0 := NB.out.cell 0
                  have m1 := NB.out.cell 1
                  have g0 := NA.out.frozen 0
                  have g1 := NA.out.frozen 1
                  have h0 := NB.out.frozen 0
                  have h1 := NB.out.frozen 1
                  have za := NA.out.lt
                  have zb := NB.out.lt
                  have hab := hAB.out
                  have hab2 := hAB.out.symm
                  go_wp2_with fail
                  go_meet
                  first | exact ⟨_, _, rfl, rfl, hAB.out, zA.out, zB.out, two_boxes F11 NA.out NB.out zA.out zB.out hAB.out _ _ _ _⟩ | exact ⟨_, _, rfl, rfl, hAB.out, zA.out, zB.out, (two_boxes F11 NA.out NB.out zA.out zB.out hAB.out _ _ _ _).drew⟩
          · go_simp
            refine hK.out _ _ ?_ ?_
            · (try dsimp only)
              ((go_split_ands; refine HALL.out _ ?_; (first | assumption | (repeat (first | assumption | refine Fr.new ?_ _ | refine Fr.drew ?_ | (refine Fr.set ?_ (by first | exact Nat.le_refl _ | omega | (simp; done) | (simp; omega)) (by first | (simp; done) | (simp; omega)) _))); done)))
            clear hK K
            (try simp only [Act.put, List.setIfInBounds_toArray, List.set_cons_zero, List.set_cons_succ])
            refine Tw_abs ?_
            intro wA170 hA170
            (first | (have hAB := Lib.hid (Nat.ne_of_lt NB.out.lt).symm) | skip)
            (first | (have NB := Lib.hid (Bk.over_alloc hA170 NB.out)) | (have NB := Lib.hid (Bk.over_alloc_drew hA170 NB.out)) | skip)
            (first | (have NA := Lib.hid (Bk.of_alloc hA170)) | (have NA := Lib.hid (Bk.of_alloc_drew hA170)))
            have zA := Lib.hid (show wz.heap.size ≤ _ from hHeld.1.size)
            clear hA170
            refine Tw_all (rs := [4, 12]) (by kernel_rfl) (by simp) (by decide) (fun hHeld => ?_)
            refine AllT.consL rfl (fun K hK => ?_) (AllT.consL rfl (fun K hK => ?_) (AllT.nil))
            · go_simp
              (go_at_call 29; go_split_ands; (with_reducible refine (HR1.out _).mono ?_); rintro e w7 ⟨rfl, hb7⟩; have F4 := Fr.call (by assumption) hb7; (first | (have NA := Lib.hid (Bk.call NA.out hb7)) | skip); (first | (have NB := Lib.hid (Bk.call NB.out hb7)) | skip); clear hb7)
              refine hK.out _ _ ?_ ?_
              · (try dsimp only)
                ((go_split_ands; refine HALL.out _ ?_; (first | assumption | (repeat (first | assumption | refine Fr.new ?_ _ | refine Fr.drew ?_ | (refine Fr.set ?_ (by first | exact Nat.le_refl _ | omega | (simp; done) | (simp; omega)) (by first | (simp; done) | (simp; omega)) _))); done)))
              clear hK K
              (try simp only [Act.put, List.setIfInBounds_toArray, List.set_cons_zero, List.set_cons_succ])
              refine Tw_all (rs := [10, 12]) (by kernel_rfl) (by simp) (by decide) (fun hHeld => ?_)
              refine AllT.consL rfl (fun K hK => ?_) (AllT.consL rfl (fun K hK => ?_) (AllT.nil))
              · go_simp
                (go_at_call 29; go_split_ands; (with_reducible refine (HR2.out _).mono ?_); rintro e w7 ⟨rfl, hb7⟩; have F4 := Fr.call (by assumption) hb7; (first | (have NA := Lib.hid (Bk.call NA.out hb7)) | skip); (first | (have NB := Lib.hid (Bk.call NB.out hb7)) | skip); clear hb7)
                refine hK.out _ _ ?_ ?_
                · (try dsimp only)
                  ((go_split_ands; refine HALL.out _ ?_; (first | assumption | (repeat (first | assumption | refine Fr.new ?_ _ | refine Fr.drew ?_ | (refine Fr.set ?_ (by first | exact Nat.le_refl _ | omega | (simp; done) | (simp; omega)) (by first | (simp; done) | (simp; omega)) _))); done)))
                clear hK K
                (try simp only [Act.put, List.setIfInBounds_toArray, List.set_cons_zero, List.set_cons_succ])
                refine Tw_all (rs := [12]) (by kernel_rfl) (by simp) (by decide) (fun hHeld => ?_)
                refine AllT.consL rfl (fun K hK => ?_) (AllT.nil)
                · go_simp
                  refine hK.out _ _ ?_ ?_
                  · (try dsimp only)
                    ((go_split_ands; refine HALL.out _ ?_; (first | assumption | (repeat (first | assumption | refine Fr.new ?_ _ | refine Fr.drew ?_ | (refine Fr.set ?_ (by first | exact Nat.le_refl _ | omega | (simp; done) | (simp; omega)) (by first | (simp; done) | (simp; omega)) _))); done)))
                  clear hK K
                  (try simp only [Act.put, List.setIfInBounds_toArray, List.set_cons_zero, List.set_cons_succ])
                  refine Tw_abs ?_
                  intro wA173 hA173
                  (first | (have hAB := Lib.hid (Nat.ne_of_lt NA.out.lt)) | skip)
                  (first | (have NA := Lib.hid (Bk.over_alloc hA173 NA.out)) | (have NA := Lib.hid (Bk.over_alloc_drew hA173 NA.out)) | skip)
                  (first | (have NB := Lib.hid (Bk.of_alloc hA173)) | (have NB := Lib.hid (Bk.of_alloc_drew hA173)))
                  have zB := Lib.hid (show wz.heap.size ≤ _ from hHeld.1.size)
                  clear hA173
                  refine Tw_end (by kernel_rfl) (fun hh => ?_)
                  obtain ⟨F11, _⟩ := hh
                  clear HALL
                  have n0 := NA.out.cell 0
                  have n1 := NA.out.cell 1
                  have m0 := NB.out.cell 0
                  have m1 := NB.out.cell 1
                  have g0 := NA.out.frozen 0
                  have g1 := NA.out.frozen 1
                  have h0 := NB.out.frozen 0
                  have h1 := NB.out.frozen 1
                  have za := NA.out.lt
                  have zb := NB.out.lt
                  have hab := hAB.out
                  have hab2 := hAB.out.symm
                  go_wp2_with fail
                  go_meet
                  first | exact ⟨_, _, rfl, rfl, hAB.out, zA.out, zB.out, two_boxes F11 NA.out NB.out zA.out zB.out hAB.out _ _ _ _⟩ | exact ⟨_, _, rfl, rfl, hAB.out, zA.out, zB.out, (two_boxes F11 NA.out NB.out zA.out zB.out hAB.out _ _ _ _).drew⟩
              · go_simp
                refine hK.out _ _ ?_ ?_
                · (try dsimp only)
                  ((go_split_ands; refine HALL.out _ ?_; (first | assumption | (repeat (first | assumption | refine Fr.new ?_ _ | refine Fr.drew ?_ | (refine Fr.set ?_ (by first | exact Nat.le_refl _ | omega | (simp; done) | (simp; omega)) (by first | (simp; done) | (simp; omega)) _))); done)))
                clear hK K
                (try simp only [Act.put, List.setIfInBounds_toArray, List.set_cons_zero, List.set_cons_succ])
                refine Tw_abs ?_
                intro wA174 hA174
                (first | (have hAB := Lib.hid (Nat.ne_of_lt NA.out.lt)) | skip)
                (first | (have NA := Lib.hid (Bk.over_alloc hA174 NA.out)) | (have NA := Lib.hid (Bk.over_alloc_drew hA174 NA.out)) | skip)
                (first | (have NB := Lib.hid (Bk.of_alloc hA174)) | (have NB := Lib.hid (Bk.of_alloc_drew hA174)))
                have zB := Lib.hid (show wz.heap.size ≤ _ from hHeld.1.size)
                clear hA174
                refine Tw_all (rs := [10]) (by kernel_rfl) (by simp) (by decide) (fun hHeld => ?_)
                refine AllT.consL rfl (fun K hK => ?_) (AllT.nil)
                · go_simp
                  (go_at_call 29; go_split_ands; (with_reducible refine (HR2.out _).mono ?_); rintro e w7 ⟨rfl, hb7⟩; have F4 := Fr.call (by assumption) hb7; (first | (have NA := Lib.hid (Bk.call NA.out hb7)) | skip); (first | (have NB := Lib.hid (Bk.call NB.out hb7)) | skip); clear hb7)
                  refine hK.out _ _ ?_ ?_
                  · (try dsimp only)
                    ((go_split_ands; refine HALL.out _ ?_; (first | assumption | (repeat (first | assumption | refine Fr.new ?_ _ | refine Fr.drew ?_ | (refine Fr.set ?_ (by first | exact Nat.le_refl _ | omega | (simp; done) | (simp; omega)) (by first | (simp; done) | (simp; omega)) _))); done)))
                  clear hK K
                  (try simp only [Act.put, List.setIfInBounds_toArray, List.set_cons_zero, List.set_cons_succ])
                  refine Tw_end (by kernel_rfl) (fun hh => ?_)
                  obtain ⟨F11, _⟩ := hh
                  clear HALL
                  have n0 := NA.out.cell 0
                  have n1 := NA.out.cell 1
                  have m0 := NB.out.cell 0
                  have m1 := NB.out.cell 1
                  have g0 := NA.out.frozen 0
                  have g1 := NA.out.frozen 1
                  have h0 := NB.out.frozen 0
                  have h1 := NB.out.frozen 1
                  have za := NA.out.lt
                  have zb := NB.out.lt
                  have hab := hAB.out
                  have hab2 := hAB.out.symm
                  go_wp2_with fail
                  go_meet
                  first | exact ⟨_, _, rfl, rfl, hAB.out, zA.out, zB.out, two_boxes F11 NA.out NB.out zA.out zB.out hAB.out _ _ _ _⟩ | exact ⟨_, _, rfl, rfl, hAB.out, zA.out, zB.out, (two_boxes F11 NA.out NB.out zA.out zB.out hAB.out _ _ _ _).drew⟩
            · go_simp
              refine hK.out _ _ ?_ ?_
              · (try dsimp only)
                ((go_split_ands; refine HALL.out _ ?_; (first | assumption | (repeat (first | assumption | refine Fr.new ?_ _ | refine Fr.drew ?_ | (refine Fr.set ?_ (by first | exact Nat.le_refl _ | omega | (simp; done) | (simp; omega)) (by first | (simp; done) | (simp; omega)) _))); done)))
              clear hK K
              (try simp only [Act.put, List.setIfInBounds_toArray, List.set_cons_zero, List.set_cons_succ])
              refine Tw_abs ?_
              intro wA176 hA176
              (first | (have hAB := Lib.hid (Nat.ne_of_lt NA.out.lt)) | skip)
              (first | (have NA := Lib.hid (Bk.over_alloc hA176 NA.out)) | (have NA := Lib.hid (Bk.over_alloc_drew hA176 NA.out)) | skip)
              (first | (have NB := Lib.hid (Bk.of_alloc hA176)) | (have NB := Lib.hid (Bk.of_alloc_drew hA176)))
              have zB := Lib.hid (show wz.heap.size ≤ _ from hHeld.1.size)
              clear hA176
              refine Tw_all (rs := [4]) (by kernel_rfl) (by simp) (by decide) (fun hHeld => ?_)
              refine AllT.consL rfl (fun K hK => ?_) (AllT.nil)
              · go_simp
                (go_at_call 29; go_split_ands; (with_reducible refine (HR1.out _).mono ?_); rintro e w7 ⟨rfl, hb7⟩; have F4 := Fr.call (by assumption) hb7; (first | (have NA := Lib.hid (Bk.call NA.out hb7)) | skip); (first | (have NB := Lib.hid (Bk.call NB.out hb7)) | skip); clear hb7)
                refine hK.out _ _ ?_ ?_
                · (try dsimp only)
                  ((go_split_ands; refine HALL.out _ ?_; (first | assumption | (repeat (first | assumption | refine Fr.new ?_ _ | refine Fr.drew ?_ | (refine Fr.set ?_ (by first | exact Nat.le_refl _ | omega | (simp; done) | (simp; omega)) (by first | (simp; done) | (simp; omega)) _))); done)))
                clear hK K
                (try simp only [Act.put, List.setIfInBounds_toArray, List.set_cons_zero, List.set_cons_succ])
                refine Tw_all (rs := [10]) (by kernel_rfl) (by simp) (by decide) (fun hHeld => ?_)
                refine AllT.consL rfl (fun K hK => ?_) (AllT.nil)
                · go_simp
                  (go_at_call 29; go_split_ands; (with_reducible refine (HR2.out _).mono ?_); rintro e w7 ⟨rfl, hb7⟩; have F4 := Fr.call (by assumption) hb7; (first | (have NA := Lib.hid (Bk.call NA.out hb7)) | skip); (first | (have NB := Lib.hid (Bk.call NB.out hb7)) | skip); clear hb7)
                  refine hK.out _ _ ?_ ?_
                  · (try dsimp only)
                    ((go_split_ands; refine HALL.out _ ?_; (first | assumption | (repeat (first | assumption | refine Fr.new ?_ _ | refine Fr.drew ?_ | (refine Fr.set ?_ (by first | exact Nat.le_refl _ | omega | (simp; done) | (simp; omega)) (by first | (simp; done) | (simp; omega)) _))); done)))
                  clear hK K
                  (try simp only [Act.put, List.setIfInBounds_toArray, List.set_cons_zero, List.set_cons_succ])
                  refine Tw_end (by kernel_rfl) (fun hh => ?_)
                  obtain ⟨F11, _⟩ := hh
                  clear HALL
                  have n0 := NA.out.cell 0
                  have n1 := NA.out.cell 1
                  have m0 := NB.out.cell 0
                  have m1 := NB.out.cell 1
                  have g0 := NA.out.frozen 0
                  have g1 := NA.out.frozen 1
                  have h0 := NB.out.frozen 0
                  have h1 := NB.out.frozen 1
                  have za := NA.out.lt
                  have zb := NB.out.lt
                  have hab := hAB.out
                  have hab2 := hAB.out.symm
                  go_wp2_with fail
                  go_meet
                  first | exact ⟨_, _, rfl, rfl, hAB.out, zA.out, zB.out, two_boxes F11 NA.out NB.out zA.out zB.out hAB.out _ _ _ _⟩ | exact ⟨_, _, rfl, rfl, hAB.out, zA.out, zB.out, (two_boxes F11 NA.out NB.out zA.out zB.out hAB.out _ _ _ _).drew⟩
          · go_simp
            refine hK.out _ _ ?_ ?_
            · (try dsimp only)
              ((go_split_ands; refine HALL.out _ ?_; (first | assumption | (repeat (first | assumption | refine Fr.new ?_ _ | refine Fr.drew ?_ | (refine Fr.set ?_ (by first | exact Nat.le_refl _ | omega | (simp; done) | (simp; omega)) (by first | (simp; done) | (simp; omega)) _))); done)))
            clear hK K
            (try simp only [Act.put, List.setIfInBounds_toArray, List.set_cons_zero, List.set_cons_succ])
            refine Tw_abs ?_
            intro wA179 hA179
            (first | (have hAB := Lib.hid (Nat.ne_of_lt NA.out.lt)) | skip)
            (first | (have NA := Lib.hid (Bk.over_alloc hA179 NA.out)) | (have NA := Lib.hid (Bk.over_alloc_drew hA179 NA.out)) | skip)
            (first | (have NB := Lib.hid (Bk.of_alloc hA179)) | (have NB := Lib.hid (Bk.of_alloc_drew hA179)))
            have zB := Lib.hid (show wz.heap.size ≤ _ from hHeld.1.size)
            clear hA179
            refine Tw_all (rs := [4, 11]) (by kernel_rfl) (by simp) (by decide) (fun hHeld => ?_)
            refine AllT.consL rfl (fun K hK => ?_) (AllT.consL rfl (fun K hK => ?_) (AllT.nil))
            · go_simp
              (go_at_call 29; go_split_ands; (with_reducible refine (HR1.out _).mono ?_); rintro e w7 ⟨rfl, hb7⟩; have F4 := Fr.call (by assumption) hb7; (first | (have NA := Lib.hid (Bk.call NA.out hb7)) | skip); (first | (have NB := Lib.hid (Bk.call NB.out hb7)) | skip); clear hb7)
              refine hK.out _ _ ?_ ?_
              · (try dsimp only)
                ((go_split_ands; refine HALL.out _ ?_; (first | assumption | (repeat (first | assumption | refine Fr.new ?_ _ | refine Fr.drew ?_ | (refine Fr.set ?_ (by first | exact Nat.le_refl _ | omega | (simp; done) | (simp; omega)) (by first | (simp; done) | (simp; omega)) _))); done)))
              clear hK K
              (try simp only [Act.put, List.setIfInBounds_toArray, List.set_cons_zero, List.set_cons_succ])
              refine Tw_all (rs := [10, 11]) (by kernel_rfl) (by simp) (by decide) (fun hHeld => ?_)
              refine AllT.consL rfl (fun K hK => ?_) (AllT.consL rfl (fun K hK => ?_) (AllT.nil))
              · go_simp
                (go_at_call 29; go_split_ands; (with_reducible refine (HR2.out _).mono ?_); rintro e w7 ⟨rfl, hb7⟩; have F4 := Fr.call (by assumption) hb7; (first | (have NA := Lib.hid (Bk.call NA.out hb7)) | skip); (first | (have NB := Lib.hid (Bk.call NB.out hb7)) | skip); clear hb7)
                refine hK.out _ _ ?_ ?_
                · (try dsimp only)
                  ((go_split_ands; refine HALL.out _ ?_; (first | assumption | (repeat (first | assumption | refine Fr.new ?_ _ | refine Fr.drew ?_ | (refine Fr.set ?_ (by first | exact Nat.le_refl _ | omega | (simp; done) | (simp; omega)) (by first | (simp; done) | (simp; omega)) _))); done)))
                clear hK K
                (try simp only [Act.put, List.setIfInBounds_toArray, List.set_cons_zero, List.set_cons_succ])
                refine Tw_all (rs := [11]) (by kernel_rfl) (by simp) (by decide) (fun hHeld => ?_)
                refine AllT.consL rfl (fun K hK => ?_) (AllT.nil)
                · go_simp
                  refine hK.out _ _ ?_ ?_
                  · (try dsimp only)
                    ((go_split_ands; refine HALL.out _ ?_; (first | assumption | (repeat (first | assumption | refine Fr.new ?_ _ | refine Fr.drew ?_ | (refine Fr.set ?_ (by first | exact Nat.le_refl _ | omega | (simp; done) | (simp; omega)) (by first | (simp; done) | (simp; omega)) _))); done)))
                  clear hK K
                  (try simp only [Act.put, List.setIfInBounds_toArray, List.set_cons_zero, List.set_cons_succ])
                  refine Tw_abs ?_
                  intro wA182 hA182
                  (first | (have hAB := Lib.hid (Nat.ne_of_lt NB.out.lt).symm) | skip)
                  (first | (have NB := Lib.hid (Bk.over_alloc hA182 NB.out)) | (have NB := Lib.hid (Bk.over_alloc_drew hA182 NB.out)) | skip)
                  (first | (have NA := Lib.hid (Bk.of_alloc hA182)) | (have NA := Lib.hid (Bk.of_alloc_drew hA182)))
                  have zA := Lib.hid (show wz.heap.size ≤ _ from hHeld.1.size)
                  clear hA182
                  refine Tw_end (by kernel_rfl) (fun hh => ?_)
                  obtain ⟨F11, _⟩ := hh
                  clear HALL
                  have n0 := NA.out.cell 0
                  have n1 := NA.out.cell 1
                  have m0 := NB.out.cell 0
                  have m1 := NB.out.cell 1
                  have g0 := NA.out.frozen 0
                  have g1 := NA.out.frozen 1
                  have h0 := NB.out.frozen 0
                  have h1 := NB.out.frozen 1
                  have za := NA.out.lt
                  have zb := NB.out.lt
                  have hab := hAB.out
                  have hab2 := hAB.out.symm
                  go_wp2_with fail
                  go_meet
                  first | exact ⟨_, _, rfl, rfl, hAB.out, zA.out, zB.out, two_boxes F11 NA.out NB.out zA.out zB.out hAB.out _ _ _ _⟩ | exact ⟨_, _, rfl, rfl, hAB.out, zA.out, zB.out, (two_boxes F11 NA.out NB.out zA.out zB.out hAB.out _ _ _ _).drew⟩
              · go_simp
                refine hK.out _ _ ?_ ?_
                · (try dsimp only)
                  ((go_split_ands; refine HALL.out _ ?_; (first | assumption | (repeat (first | assumption | refine Fr.new ?_ _ | refine Fr.drew ?_ | (refine Fr.set ?_ (by first | exact Nat.le_refl _ | omega | (simp; done) | (simp; omega)) (by first | (simp; done) | (simp; omega)) _))); done)))
                clear hK K
                (try simp only [Act.put, List.setIfInBounds_toArray, List.set_cons_zero, List.set_cons_succ])
                refine Tw_abs ?_
                intro wA183 hA183
                (first | (have hAB := Lib.hid (Nat.ne_of_lt NB.out.lt).symm) | skip)
                (first | (have NB := Lib.hid (Bk.over_alloc hA183 NB.out)) | (have NB := Lib.hid (Bk.over_alloc_drew hA183 NB.out)) | skip)
                (first | (have NA := Lib.hid (Bk.of_alloc hA183)) | (have NA := Lib.hid (Bk.of_alloc_drew hA183)))
                have zA := Lib.hid (show wz.heap.size ≤ _ from hHeld.1.size)
                clear hA183
                refine Tw_all (rs := [10]) (by kernel_rfl) (by simp) (by decide) (fun hHeld => ?_)
                refine AllT.consL rfl (fun K hK => ?_) (AllT.nil)
                · go_simp
                  (go_at_call 29; go_split_ands; (with_reducible refine (HR2.out _).mono ?_); rintro e w7 ⟨rfl, hb7⟩; have F4 := Fr.call (by assumption) hb7; (first | (have NA := Lib.hid (Bk.call NA.out hb7)) | skip); (first | (have NB := Lib.hid (Bk.call NB.out hb7)) | skip); clear hb7)
                  refine hK.out _ _ ?_ ?_
                  · (try dsimp only)
                    ((go_split_ands; refine HALL.out _ ?_; (first | assumption | (repeat (first | assumption | refine Fr.new ?_ _ | refine Fr.drew ?_ | (refine Fr.set ?_ (by first | exact Nat.le_refl _ | omega | (simp; done) | (simp; omega)) (by first | (simp; done) | (simp; omega)) _))); done)))
                  clear hK K
                  (try simp only [Act.put, List.setIfInBounds_toArray, List.set_cons_zero, List.set_cons_succ])
                  refine Tw_end (by kernel_rfl) (fun hh => ?_)
                  obtain ⟨F11, _⟩ := hh
                  clear HALL
                  have n0 := NA.out.cell 0
                  have n1 := NA.out.cell 1
                  have m0 := NB.out.cell 0
                  have m1 := NB.out.cell 1
                  have g0 := NA.out.frozen 0
                  have g1 := NA.out.frozen 1
                  have h0 := NB.out.frozen 0
                  have h1 := NB.out.frozen 1
                  have za := NA.out.lt
                  have zb := NB.out.lt
                  have hab := hAB.out
                  have hab2 := hAB.out.symm
                  go_wp2_with fail
                  go_meet
                  first | exact ⟨_, _, rfl, rfl, hAB.out, zA.out, zB.out, two_boxes F11 NA.out NB.out zA.out zB.out hAB.out _ _ _ _⟩ | exact ⟨_, _, rfl, rfl, hAB.out, zA.out, zB.out, (two_boxes F11 NA.out NB.out zA.out zB.out hAB.out _ _ _ _).drew⟩
            · go_simp
              refine hK.out _ _ ?_ ?_
              · (try dsimp only)
                ((go_split_ands; refine HALL.out _ ?_; (first | assumption | (repeat (first | assumption | refine Fr.new ?_ _ | refine Fr.drew ?_ | (refine Fr.set ?_ (by first | exact Nat.le_refl _ | omega | (simp; done) | (simp; omega)) (by first | (simp; done) | (simp; omega)) _))); done)))
              clear hK K
              (try simp only [Act.put, List.setIfInBounds_toArray, List.set_cons_zero, List.set_cons_succ])
              refine Tw_abs ?_
              intro wA185 hA185
              (first | (have hAB := Lib.hid (Nat.ne_of_lt NB.out.lt).symm) | skip)
              (first | (have NB := Lib.hid (Bk.over_alloc hA185 NB.out)) | (have NB := Lib.hid (Bk.over_alloc_drew hA185 NB.out)) | skip)
              (first | (have NA := Lib.hid (Bk.of_alloc hA185)) | (have NA := Lib.hid (Bk.of_alloc_drew hA185)))
              have zA := Lib.hid (show wz.heap.size ≤ _ from hHeld.1.size)
              clear hA185
              refine Tw_all (rs := [4]) (by kernel_rfl) (by simp) (by decide) (fun hHeld => ?_)
              refine AllT.consL rfl (fun K hK => ?_) (AllT.nil)
              · go_simp
                (go_at_call 29; go_split_ands; (with_reducible refine (HR1.out _).mono ?_); rintro e w7 ⟨rfl, hb7⟩; have F4 := Fr.call (by assumption) hb7; (first | (have NA := Lib.hid (Bk.call NA.out hb7)) | skip); (first | (have NB := Lib.hid (Bk.call NB.out hb7)) | skip); clear hb7)
                refine hK.out _ _ ?_ ?_
                · (try dsimp only)
                  ((go_split_ands; refine HALL.out _ ?_; (first | assumption | (repeat (first | assumption | refine Fr.new ?_ _ | refine Fr.drew ?_ | (refine Fr.set ?_ (by first | exact Nat.le_refl _ | omega | (simp; done) | (simp; omega)) (by first | (simp; done) | (simp; omega)) _))); done)))
                clear hK K
                (try simp only [Act.put, List.setIfInBounds_toArray, List.set_cons_zero, List.set_cons_succ])
                refine Tw_all (rs := [10]) (by kernel_rfl) (by simp) (by decide) (fun hHeld => ?_)
                refine AllT.consL rfl (fun K hK => ?_) (AllT.nil)
                · go_simp
                  (go_at_call 29; go_split_ands; (with_reducible refine (HR2.out _).mono ?_); rintro e w7 ⟨rfl, hb7⟩; have F4 := Fr.call (by assumption) hb7; (first | (have NA := Lib.hid (Bk.call NA.out hb7)) | skip); (first | (have NB := Lib.hid (Bk.call NB.out hb7)) | skip); clear hb7)
                  refine hK.out _ _ ?_ ?_
                  · (try dsimp only)
                    ((go_split_ands; refine HALL.out _ ?_; (first | assumption | (repeat (first | assumption | refine Fr.new ?_ _ | refine Fr.drew ?_ | (refine Fr.set ?_ (by first | exact Nat.le_refl _ | omega | (simp; done) | (simp; omega)) (by first | (simp; done) | (simp; omega)) _))); done)))
                  clear hK K
                  (try simp only [Act.put, List.setIfInBounds_toArray, List.set_cons_zero, List.set_cons_succ])
                  refine Tw_end (by kernel_rfl) (fun hh => ?_)
                  obtain ⟨F11, _⟩ := hh
                  clear HALL
                  have n0 := NA.out.cell 0
                  have n1 := NA.out.cell 1
                  have m0 := NB.out.cell 0
                  have m1 := NB.out.cell 1
                  have g0 := NA.out.frozen 0
                  have g1 := NA.out.frozen 1
                  have h0 := NB.out.frozen 0
                  have h1 := NB.out.frozen 1
                  have za := NA.out.lt
                  have zb := NB.out.lt
                  have hab := hAB.out
                  have hab2 := hAB.out.symm
                  go_wp2_with fail
                  go_meet
                  first | exact ⟨_, _, rfl, rfl, hAB.out, zA.out, zB.out, two_boxes F11 NA.out NB.out zA.out zB.out hAB.out _ _ _ _⟩ | exact ⟨_, _, rfl, rfl, hAB.out, zA.out, zB.out, (two_boxes F11 NA.out NB.out zA.out zB.out hAB.out _ _ _ _).drew⟩
        case rest =>
        obtain ⟨wv, rfl⟩ : ∃ W, W = wc := ⟨_, rfl⟩
        obtain ⟨gA, gB, rfl, rfl, hAB, zA, zB, hx⟩ := hcut
        have HNE : Hid (∀ b' ∈ ([(gB, 48, #[.int .i64 L2, .int .i64 U2]), (gA, 48, #[.int .i64 L1, .int .i64 U1]), (gz, 54, #[.int .i64 pl, .int .i64 pg, .int .i64 pm, .bool pv0]), (g, 57, #[.string s, .slice (some a) ps.length c]), (w.heap.size + 1, 48, #[.int .i64 0, .int .i64 0]), (w.heap.size, 24, #[.string s, .slice (some a) ps.length c])] : List (Nat × TypeId × Array Value)), b'.1 ≠ wx.heap.size) := Lib.hid (fun b' hb' => by
          rcases List.mem_cons.1 hb' with rfl | hb'
          · show gB ≠ _; omega
          · rcases List.mem_cons.1 hb' with rfl | hb'
            · show gA ≠ _; omega
            · rcases List.mem_cons.1 hb' with rfl | hb'
              · show gz ≠ _; omega
              · have := HOLD.out b' hb'; omega)
        have FZ3 := FZ2.out.call hx.bl
        have F7 : Hid (Fr w wv ((wx.heap.size, 48, #[.int .i64 lo, .int .i64 hi]) :: [(gB, 48, #[.int .i64 L2, .int .i64 U2]), (gA, 48, #[.int .i64 L1, .int .i64 U1]), (gz, 54, #[.int .i64 pl, .int .i64 pg, .int .i64 pm, .bool pv0]), (g, 57, #[.string s, .slice (some a) ps.length c]), (w.heap.size + 1, 48, #[.int .i64 0, .int .i64 0]), (w.heap.size, 24, #[.string s, .slice (some a) ps.length c])])) := Lib.hid ((((FZ3.tail.more (HZ2.out.call hx.bl).top).more hx.tail.top).more hx.top).more FZ3.top)
        clear hx FZ3 FZ2 HZ2 cx cy
        go_upto_region 11 with fail
        go_cut [] from 60 to 72 (fun W => Fr w W ((wx.heap.size, 48, #[.int .i64 (lo + d1), .int .i64 hi]) :: [(gB, 48, #[.int .i64 L2, .int .i64 U2]), (gA, 48, #[.int .i64 L1, .int .i64 U1]), (gz, 54, #[.int .i64 pl, .int .i64 pg, .int .i64 pm, .bool pv0]), (g, 57, #[.string s, .slice (some a) ps.length c]), (w.heap.size + 1, 48, #[.int .i64 0, .int .i64 0]), (w.heap.size, 24, #[.string s, .slice (some a) ps.length c])]))
        case first =>
          have HALL : Hid (∀ W, Fr w W ((wx.heap.size, 48, #[.int .i64 lo, .int .i64 hi]) :: [(gB, 48, #[.int .i64 L2, .int .i64 U2]), (gA, 48, #[.int .i64 L1, .int .i64 U1]), (gz, 54, #[.int .i64 pl, .int .i64 pg, .int .i64 pm, .bool pv0]), (g, 57, #[.string s, .slice (some a) ps.length c]), (w.heap.size + 1, 48, #[.int .i64 0, .int .i64 0]), (w.heap.size, 24, #[.string s, .slice (some a) ps.length c])]) → Fr w W ((wx.heap.size, 48, #[.int .i64 lo, .int .i64 hi]) :: [(gB, 48, #[.int .i64 L2, .int .i64 U2]), (gA, 48, #[.int .i64 L1, .int .i64 U1]), (gz, 54, #[.int .i64 pl, .int .i64 pg, .int .i64 pm, .bool pv0]), (g, 57, #[.string s, .slice (some a) ps.length c]), (w.heap.size + 1, 48, #[.int .i64 0, .int .i64 0]), (w.heap.size, 24, #[.string s, .slice (some a) ps.length c])]) ∧ W.cell? ⟨wx.heap.size, 0, none⟩ = some (.int .i64 lo) ∧ W.cell? ⟨gz, 0, none⟩ = some (.int .i64 pl) ∧ W.cell? ⟨gA, 1, none⟩ = some (.int .i64 U1) ∧ W.cell? ⟨gB, 1, none⟩ = some (.int .i64 U2)) := Lib.hid (fun W hW => ⟨hW, hW.top.cell 0, (hW.get 3 rfl).cell 0, (hW.get 2 rfl).cell 1, (hW.get 1 rfl).cell 1⟩)
          have F10 : Fr w _ ((wx.heap.size, 48, #[.int .i64 lo, .int .i64 hi]) :: [(gB, 48, #[.int .i64 L2, .int .i64 U2]), (gA, 48, #[.int .i64 L1, .int .i64 U1]), (gz, 54, #[.int .i64 pl, .int .i64 pg, .int .i64 pm, .bool pv0]), (g, 57, #[.string s, .slice (some a) ps.length c]), (w.heap.size + 1, 48, #[.int .i64 0, .int .i64 0]), (w.heap.size, 24, #[.string s, .slice (some a) ps.length c])]) := F7.out
          refine Tw_start 13 (fun W => Fr w W ((wx.heap.size, 48, #[.int .i64 lo, .int .i64 hi]) :: [(gB, 48, #[.int .i64 L2, .int .i64 U2]), (gA, 48, #[.int .i64 L1, .int .i64 U1]), (gz, 54, #[.int .i64 pl, .int .i64 pg, .int .i64 pm, .bool pv0]), (g, 57, #[.string s, .slice (some a) ps.length c]), (w.heap.size + 1, 48, #[.int .i64 0, .int .i64 0]), (w.heap.size, 24, #[.string s, .slice (some a) ps.length c])]) ∧ W.cell? ⟨wx.heap.size, 0, none⟩ = some (.int .i64 lo) ∧ W.cell? ⟨gz, 0, none⟩ = some (.int .i64 pl) ∧ W.cell? ⟨gA, 1, none⟩ = some (.int .i64 U1) ∧ W.cell? ⟨gB, 1, none⟩ = some (.int .i64 U2)) (by kernel_rfl) (by kernel_rfl) rfl ?_ ?_
          · (try dsimp only)
            ((go_split_ands; refine HALL.out _ ?_; (first | assumption | (repeat (first | assumption | refine Fr.new ?_ _ | refine Fr.drew ?_ | (refine Fr.set ?_ (by first | exact Nat.le_refl _ | omega | (simp; done) | (simp; omega)) (by first | (simp; done) | (simp; omega)) _))); done)))
          refine Tw_abs ?_
          intro wD hD
          clear hD
          refine Tw_takeL (i := 0) (v := ?tv152) rfl (by kernel_rfl) (by decide) (by kernel_rfl) (by kernel_rfl) (fun _ _ _ h => h) (by rfl) ?ty152 ?tn152
          case ty152 => (intro w hSw; (try dsimp only at hSw); go_simp <;> with_reducible rfl)
          (try simp only [Act.put, List.setIfInBounds_toArray, List.set_cons_zero, List.set_cons_succ])
          refine Tw_takeL (i := 1) (v := ?tv153) rfl (by kernel_rfl) (by decide) (by kernel_rfl) (by kernel_rfl) (fun _ _ _ h => h) (by rfl) ?ty153 ?tn153
          case ty153 => (intro w hSw; (try dsimp only at hSw); go_simp <;> with_reducible rfl)
          (try simp only [Act.put, List.setIfInBounds_toArray, List.set_cons_zero, List.set_cons_succ])
          refine Tw_takeL (i := 2) (v := ?tv154) rfl (by kernel_rfl) (by decide) (by kernel_rfl) (by kernel_rfl) (fun _ _ _ h => h) (by rfl) ?ty154 ?tn154
          case ty154 => (intro w hSw; (try dsimp only at hSw); go_simp <;> with_reducible rfl)
          (try simp only [Act.put, List.setIfInBounds_toArray, List.set_cons_zero, List.set_cons_succ])
          refine Tw_takeL (i := 3) (v := ?tv155) rfl (by kernel_rfl) (by decide) (by kernel_rfl) (by kernel_rfl) (fun _ _ _ h => h) (by rfl) ?ty155 ?tn155
          case ty155 => (intro w hSw; (try dsimp only at hSw); go_simp <;> with_reducible rfl)
          (try simp only [Act.put, List.setIfInBounds_toArray, List.set_cons_zero, List.set_cons_succ])
          refine Tw_takeL (i := 4) (v := ?tv156) rfl (by kernel_rfl) (by decide) (by kernel_rfl) (by kernel_rfl) (fun _ _ _ h => h) (by rfl) ?ty156 ?tn156
          case ty156 => (intro w hSw; (try dsimp only at hSw); go_simp <;> with_reducible rfl)
          (try simp only [Act.put, List.setIfInBounds_toArray, List.set_cons_zero, List.set_cons_succ])
          refine Tw_takeL (i := 5) (v := ?tv157) rfl (by kernel_rfl) (by decide) (by kernel_rfl) (by kernel_rfl) (fun _ _ _ h => h) (by rfl) ?ty157 ?tn157
          case ty157 => (intro w hSw; (try dsimp only at hSw); go_simp <;> with_reducible rfl)
          (try simp only [Act.put, List.setIfInBounds_toArray, List.set_cons_zero, List.set_cons_succ])
          refine Tw_takeL (i := 6) (v := ?tv158) rfl (by kernel_rfl) (by decide) (by kernel_rfl) (by kernel_rfl) (fun _ _ _ h => h) (by rfl) ?ty158 ?tn158
          case ty158 => (intro w hSw; (try dsimp only at hSw); go_simp <;> with_reducible rfl)
          (try simp only [Act.put, List.setIfInBounds_toArray, List.set_cons_zero, List.set_cons_succ])
          refine Tw_takeL (i := 7) (v := ?tv159) rfl (by kernel_rfl) (by decide) (by kernel_rfl) (by kernel_rfl) (fun _ _ _ h => h) (by rfl) ?ty159 ?tn159
          case ty159 => (intro w hSw; (try dsimp only at hSw); go_simp <;> with_reducible rfl)
          (try simp only [Act.put, List.setIfInBounds_toArray, List.set_cons_zero, List.set_cons_succ])
          refine Tw_takeL (i := 8) (v := ?tv160) rfl (by kernel_rfl) (by decide) (by kernel_rfl) (by kernel_rfl) (fun _ _ _ h => h) (by rfl) ?ty160 ?tn160
          case ty160 => (intro w hSw; (try dsimp only at hSw); go_simp <;> with_reducible rfl)
          (try simp only [Act.put, List.setIfInBounds_toArray, List.set_cons_zero, List.set_cons_succ])
          refine Tw_takeL (i := 9) (v := ?tv161) rfl (by kernel_rfl) (by decide) (by kernel_rfl) (by kernel_rfl) (fun _ _ _ h => h) (by rfl) ?ty161 ?tn161
          case ty161 => (intro w hSw; (try dsimp only at hSw); go_simp <;> with_reducible rfl)
          (try simp only [Act.put, List.setIfInBounds_toArray, List.set_cons_zero, List.set_cons_succ])
          refine Tw_all (rs := [10]) (by kernel_rfl) (by simp) (by decide) (fun hHeld => ?_)
          refine AllT.consL rfl (fun K hK => ?_) AllT.nil
          go_simp
          (go_at_call 30; go_split_ands; (with_reducible refine (HFL.out _).mono ?_); rintro e w7 ⟨rfl, rfl⟩)
          refine hK.out _ _ ?_ ?_
          · (try dsimp only)
            ((go_split_ands; refine HALL.out _ ?_; (first | assumption | (repeat (first | assumption | refine Fr.new ?_ _ | refine Fr.drew ?_ | (refine Fr.set ?_ (by first | exact Nat.le_refl _ | omega | (simp; done) | (simp; omega)) (by first | (simp; done) | (simp; omega)) _))); done)))
          clear hK K
          (try simp only [Act.put, List.setIfInBounds_toArray, List.set_cons_zero, List.set_cons_succ])
          refine Tw_takeL (i := 11) (v := ?tv162) rfl (by kernel_rfl) (by decide) (by kernel_rfl) (by kernel_rfl) (fun _ _ _ h => h) (by rfl) ?ty162 ?tn162
          case ty162 => (intro w hSw; (try dsimp only at hSw); go_simp <;> with_reducible rfl)
          (try simp only [Act.put, List.setIfInBounds_toArray, List.set_cons_zero, List.set_cons_succ])
          refine Tw_takeL (i := 12) (v := ?tv163) rfl (by kernel_rfl) (by decide) (by kernel_rfl) (by kernel_rfl) (fun _ _ _ h => h) (by rfl) ?ty163 ?tn163
          case ty163 => (intro w hSw; (try dsimp only at hSw); go_simp <;> with_reducible rfl)
          (try simp only [Act.put, List.setIfInBounds_toArray, List.set_cons_zero, List.set_cons_succ])
          refine Tw_end (by kernel_rfl) (fun hh => ?_)
          obtain ⟨F11, _⟩ := hh
          clear HALL
          have n0 := F11.top.cell 0
          have g0 := F11.top.frozen 0
          have za := F11.top.lt
          go_wp2_with fail
          go_meet
          exact F11.put 0 _ HGT.out HNE.out
        case rest =>
        obtain ⟨wv2, rfl⟩ : ∃ W, W = wc := ⟨_, rfl⟩
        have F8 := Lib.hid hcut
        clear hcut F7
        go_upto_region 12 with fail
        have HALL : Hid (∀ W, Fr w W ((wx.heap.size, 48, #[.int .i64 (lo + d1), .int .i64 hi]) :: [(gB, 48, #[.int .i64 L2, .int .i64 U2]), (gA, 48, #[.int .i64 L1, .int .i64 U1]), (gz, 54, #[.int .i64 pl, .int .i64 pg, .int .i64 pm, .bool pv0]), (g, 57, #[.string s, .slice (some a) ps.length c]), (w.heap.size + 1, 48, #[.int .i64 0, .int .i64 0]), (w.heap.size, 24, #[.string s, .slice (some a) ps.length c])]) → Fr w W ((wx.heap.size, 48, #[.int .i64 (lo + d1), .int .i64 hi]) :: [(gB, 48, #[.int .i64 L2, .int .i64 U2]), (gA, 48, #[.int .i64 L1, .int .i64 U1]), (gz, 54, #[.int .i64 pl, .int .i64 pg, .int .i64 pm, .bool pv0]), (g, 57, #[.string s, .slice (some a) ps.length c]), (w.heap.size + 1, 48, #[.int .i64 0, .int .i64 0]), (w.heap.size, 24, #[.string s, .slice (some a) ps.length c])]) ∧ W.cell? ⟨wx.heap.size, 1, none⟩ = some (.int .i64 hi) ∧ W.cell? ⟨gz, 0, none⟩ = some (.int .i64 pl) ∧ W.cell? ⟨gA, 0, none⟩ = some (.int .i64 L1) ∧ W.cell? ⟨gB, 0, none⟩ = some (.int .i64 L2)) := Lib.hid (fun W hW => ⟨hW, hW.top.cell 1, (hW.get 3 rfl).cell 0, (hW.get 2 rfl).cell 0, (hW.get 1 rfl).cell 0⟩)
        have F10 : Fr w _ ((wx.heap.size, 48, #[.int .i64 (lo + d1), .int .i64 hi]) :: [(gB, 48, #[.int .i64 L2, .int .i64 U2]), (gA, 48, #[.int .i64 L1, .int .i64 U1]), (gz, 54, #[.int .i64 pl, .int .i64 pg, .int .i64 pm, .bool pv0]), (g, 57, #[.string s, .slice (some a) ps.length c]), (w.heap.size + 1, 48, #[.int .i64 0, .int .i64 0]), (w.heap.size, 24, #[.string s, .slice (some a) ps.length c])]) := F8.out
        clear F8
        refine Tw_start 13 (fun W => Fr w W ((wx.heap.size, 48, #[.int .i64 (lo + d1), .int .i64 hi]) :: [(gB, 48, #[.int .i64 L2, .int .i64 U2]), (gA, 48, #[.int .i64 L1, .int .i64 U1]), (gz, 54, #[.int .i64 pl, .int .i64 pg, .int .i64 pm, .bool pv0]), (g, 57, #[.string s, .slice (some a) ps.length c]), (w.heap.size + 1, 48, #[.int .i64 0, .int .i64 0]), (w.heap.size, 24, #[.string s, .slice (some a) ps.length c])]) ∧ W.cell? ⟨wx.heap.size, 1, none⟩ = some (.int .i64 hi) ∧ W.cell? ⟨gz, 0, none⟩ = some (.int .i64 pl) ∧ W.cell? ⟨gA, 0, none⟩ = some (.int .i64 L1) ∧ W.cell? ⟨gB, 0, none⟩ = some (.int .i64 L2)) (by kernel_rfl) (by kernel_rfl) rfl ?_ ?_
        · (try dsimp only)
          ((go_split_ands; refine HALL.out _ ?_; (first | assumption | (repeat (first | assumption | refine Fr.new ?_ _ | refine Fr.drew ?_ | (refine Fr.set ?_ (by first | exact Nat.le_refl _ | omega | (simp; done) | (simp; omega)) (by first | (simp; done) | (simp; omega)) _))); done)))
        refine Tw_abs ?_
        intro wD hD
        clear hD
        refine Tw_takeL (i := 0) (v := ?tv164) rfl (by kernel_rfl) (by decide) (by kernel_rfl) (by kernel_rfl) (fun _ _ _ h => h) (by rfl) ?ty164 ?tn164
        case ty164 => (intro w hSw; (try dsimp only at hSw); go_simp <;> with_reducible rfl)
        (try simp only [Act.put, List.setIfInBounds_toArray, List.set_cons_zero, List.set_cons_succ])
        refine Tw_takeL (i := 1) (v := ?tv165) rfl (by kernel_rfl) (by decide) (by kernel_rfl) (by kernel_rfl) (fun _ _ _ h => h) (by rfl) ?ty165 ?tn165
        case ty165 => (intro w hSw; (try dsimp only at hSw); go_simp <;> with_reducible rfl)
        (try simp only [Act.put, List.setIfInBounds_toArray, List.set_cons_zero, List.set_cons_succ])
        refine Tw_takeL (i := 2) (v := ?tv166) rfl (by kernel_rfl) (by decide) (by kernel_rfl) (by kernel_rfl) (fun _ _ _ h => h) (by rfl) ?ty166 ?tn166
        case ty166 => (intro w hSw; (try dsimp only at hSw); go_simp <;> with_reducible rfl)
        (try simp only [Act.put, List.setIfInBounds_toArray, List.set_cons_zero, List.set_cons_succ])
        refine Tw_takeL (i := 3) (v := ?tv167) rfl (by kernel_rfl) (by decide) (by kernel_rfl) (by kernel_rfl) (fun _ _ _ h => h) (by rfl) ?ty167 ?tn167
        case ty167 => (intro w hSw; (try dsimp only at hSw); go_simp <;> with_reducible rfl)
        (try simp only [Act.put, List.setIfInBounds_toArray, List.set_cons_zero, List.set_cons_succ])
        refine Tw_takeL (i := 4) (v := ?tv168) rfl (by kernel_rfl) (by decide) (by kernel_rfl) (by kernel_rfl) (fun _ _ _ h => h) (by rfl) ?ty168 ?tn168
        case ty168 => (intro w hSw; (try dsimp only at hSw); go_simp <;> with_reducible rfl)
        (try simp only [Act.put, List.setIfInBounds_toArray, List.set_cons_zero, List.set_cons_succ])
        refine Tw_takeL (i := 5) (v := ?tv169) rfl (by kernel_rfl) (by decide) (by kernel_rfl) (by kernel_rfl) (fun _ _ _ h => h) (by rfl) ?ty169 ?tn169
        case ty169 => (intro w hSw; (try dsimp only at hSw); go_simp <;> with_reducible rfl)
        (try simp only [Act.put, List.setIfInBounds_toArray, List.set_cons_zero, List.set_cons_succ])
        refine Tw_takeL (i := 6) (v := ?tv170) rfl (by kernel_rfl) (by decide) (by kernel_rfl) (by kernel_rfl) (fun _ _ _ h => h) (by rfl) ?ty170 ?tn170
        case ty170 => (intro w hSw; (try dsimp only at hSw); go_simp <;> with_reducible rfl)
        (try simp only [Act.put, List.setIfInBounds_toArray, List.set_cons_zero, List.set_cons_succ])
        refine Tw_takeL (i := 7) (v := ?tv171) rfl (by kernel_rfl) (by decide) (by kernel_rfl) (by kernel_rfl) (fun _ _ _ h => h) (by rfl) ?ty171 ?tn171
        case ty171 => (intro w hSw; (try dsimp only at hSw); go_simp <;> with_reducible rfl)
        (try simp only [Act.put, List.setIfInBounds_toArray, List.set_cons_zero, List.set_cons_succ])
        refine Tw_takeL (i := 8) (v := ?tv172) rfl (by kernel_rfl) (by decide) (by kernel_rfl) (by kernel_rfl) (fun _ _ _ h => h) (by rfl) ?ty172 ?tn172
        case ty172 => (intro w hSw; (try dsimp only at hSw); go_simp <;> with_reducible rfl)
        (try simp only [Act.put, List.setIfInBounds_toArray, List.set_cons_zero, List.set_cons_succ])
        refine Tw_takeL (i := 9) (v := ?tv173) rfl (by kernel_rfl) (by decide) (by kernel_rfl) (by kernel_rfl) (fun _ _ _ h => h) (by rfl) ?ty173 ?tn173
        case ty173 => (intro w hSw; (try dsimp only at hSw); go_simp <;> with_reducible rfl)
        (try simp only [Act.put, List.setIfInBounds_toArray, List.set_cons_zero, List.set_cons_succ])
        refine Tw_all (rs := [10]) (by kernel_rfl) (by simp) (by decide) (fun hHeld => ?_)
        refine AllT.consL rfl (fun K hK => ?_) AllT.nil
        go_simp
        (go_at_call 31; go_split_ands; (with_reducible refine (HCL.out _).mono ?_); rintro e w7 ⟨rfl, rfl⟩)
        refine hK.out _ _ ?_ ?_
        · (try dsimp only)
          ((go_split_ands; refine HALL.out _ ?_; (first | assumption | (repeat (first | assumption | refine Fr.new ?_ _ | refine Fr.drew ?_ | (refine Fr.set ?_ (by first | exact Nat.le_refl _ | omega | (simp; done) | (simp; omega)) (by first | (simp; done) | (simp; omega)) _))); done)))
        clear hK K
        (try simp only [Act.put, List.setIfInBounds_toArray, List.set_cons_zero, List.set_cons_succ])
        refine Tw_takeL (i := 11) (v := ?tv174) rfl (by kernel_rfl) (by decide) (by kernel_rfl) (by kernel_rfl) (fun _ _ _ h => h) (by rfl) ?ty174 ?tn174
        case ty174 => (intro w hSw; (try dsimp only at hSw); go_simp <;> with_reducible rfl)
        (try simp only [Act.put, List.setIfInBounds_toArray, List.set_cons_zero, List.set_cons_succ])
        refine Tw_takeL (i := 12) (v := ?tv175) rfl (by kernel_rfl) (by decide) (by kernel_rfl) (by kernel_rfl) (fun _ _ _ h => h) (by rfl) ?ty175 ?tn175
        case ty175 => (intro w hSw; (try dsimp only at hSw); go_simp <;> with_reducible rfl)
        (try simp only [Act.put, List.setIfInBounds_toArray, List.set_cons_zero, List.set_cons_succ])
        refine Tw_end (by kernel_rfl) (fun hh => ?_)
        obtain ⟨F11, _⟩ := hh
        clear HALL
        have HF := Lib.hid F11
        have n0 := F11.top.cell 1
        have g0 := F11.top.frozen 1
        have za := F11.top.lt
        clear F11
        go_wp2_with fail
        go_roundw
        case rel => exact ⟨k1, by have := HK1.out; omega, rfl, by
          have h : Fr w _ ((wx.heap.size, 48, #[.int .i64 (lo + d1), .int .i64 (hi + d2)]) :: [(gB, 48, #[.int .i64 L2, .int .i64 U2]), (gA, 48, #[.int .i64 L1, .int .i64 U1]), (gz, 54, #[.int .i64 pl, .int .i64 pg, .int .i64 pm, .bool pv0]), (g, 57, #[.string s, .slice (some a) ps.length c]), (w.heap.size + 1, 48, #[.int .i64 0, .int .i64 0]), (w.heap.size, 24, #[.string s, .slice (some a) ps.length c])]) := HF.out.put 1 (.int .i64 (hi + d2)) HGT.out HNE.out
          rw [HSL.out, HSH.out]
          exact h.drop3⟩
        case measure => have := HK1.out; simp [intOf] <;> omega
      · obtain rfl : k = n := by omega
        have hkn : k < ps.length := by omega
        have hki : (k : Int) < (ps.length : Int) := by omega
        have hkN : (k : Int) < (N : Int) := by have := HNN.out; omega
        obtain ⟨k1, hk1⟩ : ∃ k1 : Nat, k1 = k + 1 := ⟨_, rfl⟩
        have HK1 := Lib.hid hk1
        have hwk := (IntWalk.i64_in ((k : Int) + 1) (by omega)).trans (show (k : Int) + 1 = (k1 : Int) by omega)
        have hk1N : (k1 : Int) < (N : Int) := by have := HNN.out; omega
        have hk1n : k1 ≤ ps.length := by omega
        obtain ⟨a3, ea, _, c0, c1, c2, c3⟩ := (Fr.lies HA.out FK.out).piece (gp_at (i := k) hkn)
        simp only [Option.some.injEq] at ea
        subst ea
        have hpo := okP_iff.1 (gp_ok HOK.out.each k)
        have hwr := FK.out.top.lt
        obtain ⟨⟨pl, pg, pm, pv0⟩, hP⟩ : ∃ P, gp ps k = P := ⟨_, rfl⟩
        have HP := Lib.hid hP
        rw [hP] at c0 c1 c2 c3 hpo
        simp only at c0 c1 c2 c3 hpo
        obtain ⟨⟨pl0, pl1⟩, _, _⟩ := hpo
        clear hP hk1
        go_upto_region 7 with fail
        go_cut [9, 10] from 32 to 34 (fun iv pv W => iv = .int .i64 k ∧ ∃ gz : Nat, pv = .pointer (some ⟨gz, 0, none⟩) ∧ wr.heap.size ≤ gz ∧ Fr wr W [(gz, 54, #[.int .i64 pl, .int .i64 pg, .int .i64 pm, .bool pv0])])
        case first =>
          go_wp2_with fail
          go_meet
          exact ⟨rfl, _, rfl, Nat.le_refl _, (Fr.nil wr).box _ _⟩
        case rest =>
        obtain ⟨wz, rfl⟩ : ∃ W, W = wc := ⟨_, rfl⟩
        obtain ⟨rfl, gz, rfl, hgz, hx⟩ := hcut
        have HZ := Lib.hid hx
        have FZ := Lib.hid (FK.out.call hx.bl)
        clear hx FK c0 c1 c2 c3
        have hwz := HZ.out.bl.size
        obtain ⟨x, hx⟩ : ∃ x, sqAt l k = x := ⟨_, rfl⟩
        obtain ⟨y, hy⟩ : ∃ y, sqAt l k1 = y := ⟨_, rfl⟩
        have HXX := Lib.hid hx
        have HYY := Lib.hid hy
        have cx := HLC.out k (by omega) wz FZ.out.tail.tail.tail.tail
        have cy := HLC.out k1 hk1n wz FZ.out.tail.tail.tail.tail
        rw [hx] at cx
        rw [hy] at cy
        clear hx hy
        have HZZ : Hid (x = 0 ∧ y = 0) := Lib.hid (by have := zero_iff.1 HHIT.out; rw [HXX.out, ← HK1.out, HYY.out] at this; exact this)
        obtain ⟨e1, e2⟩ := HZZ.out
        have d0 := (FZ.out.get 2 rfl).cell 0
        have d1 := (FZ.out.get 2 rfl).cell 1
        have f0 := (FZ.out.get 2 rfl).frozen 0
        have f1 := (FZ.out.get 2 rfl).frozen 1
        have zN := (FZ.out.get 2 rfl).lt
        go_wp2_with fail
        exact bodyPost_ret (v := .tuple #[.agg #[.int .i64 0, .int .i64 0], .int .i64 11]) (by simp [results, Try.results16, go_sem, d0, d1]) rfl ⟨rfl, ((FZ.out.bl.setCell (p := ⟨w.heap.size + 1, 0, none⟩) (by show w.heap.size ≤ w.heap.size + 1; omega) _).setCell (p := ⟨w.heap.size + 1, 1, none⟩) (by show w.heap.size ≤ w.heap.size + 1; omega) _)⟩
end Go.Proofs.Ytaghpemdcmjchaa
