
/-
  The walks of the books of steps: the reference's, and the copy of steps.
-/
import Derived.Test.YtohldmmfnjfgmaaDoorTBkB
namespace Go.Proofs.YtohldmmfnjfgmaaDoor
open Go.RowKit

theorem info_step : (Tryd.prog.info? 75).map (fun i => (i.zero, i.size, i.bytes)) = some (some (.agg #[.int .i64 0, .int .i64 0, .int .i64 0, .int .i64 0, .int .i64 0, .int .i64 0, .int .i64 0]), 7, 56) := by kernel_rfl
theorem stc_one (l : List Stp) : ∀ u ∈ l.flatMap stc, u.oneCell' = true := by
  intro u hu
  obtain ⟨x, _, hx⟩ := List.mem_flatMap.1 hu
  simp [stc] at hx
  rcases hx with rfl | rfl | rfl | rfl | rfl | rfl | rfl <;> rfl
/-- A copy of steps. -/
def CopiedS (w : World) (l : List Stp) (e : Ending) (w' : World) : Prop := ∃ g : Hd, e = .returned (.slice g.A l.length g.c) ∧ Lies w' w'.heap.size g.A (l.flatMap stc) ∧ Below w.heap.size w w'
set_option maxHeartbeats 800000 in
theorem CopySteps_any (l : List Stp) (h : Hd) (hl : l.length ≤ 1000) (hk : HdOk h) (w : World) (hA : Lies w w.heap.size h.A (l.flatMap stc)) :
    Calls Tryd.prog 36 #[.slice h.A l.length h.c] w (CopiedS w l) := by
  obtain ⟨A, c⟩ := h
  obtain ⟨i0, hi, hz0, hz1, hz2⟩ := info_parts info_step
  have b0 := (Below.refl w.heap.size w).alloc (Nat.le_refl _) (.cells #[] 75)
  have ho := World.ownsRow_made (base := w.heap.size) (e := 75) (size := 7) w #[] 0 (Nat.le_refl _) (by unfold maxLen; omega) rfl
  have HO := Lib.hid ho
  have HB := Lib.hid b0
  have HA := Lib.hid (hA.below b0)
  clear ho b0 hA
  cases A with
  | none =>
    obtain rfl : c = 0 := hk rfl
    have hl0 : l = [] := by
      cases l with
      | nil => rfl
      | cons x l => obtain ⟨a, h, _⟩ := HA.out 0 (.int .i64 x.v.x) rfl; cases h
    subst hl0
    go_enter Tryd.func36, Tryd.ntmps36
    go_wp2_with (at_builtin; refine wpList_append_own_none rfl _ _ 65 rfl w.heap.size 75 i0 7 Tryd.underlying65 hi _ 0 [] rfl HO.out rfl ?_)
    go_ret
    obtain ⟨g, hg, hL1, hk1, _⟩ := own_slice HO.out
    simp only [Value.slice.injEq] at hg
    exact ⟨⟨_, _⟩, rfl, Lies.nil, HB.out⟩
  | some a =>
    have k1 : Hid ((l.flatMap stc).length = l.length * 7) := Lib.hid (flat_len stc 7 (fun _ => rfl) l)
    have k2 : Hid (∀ j u, (l.flatMap stc)[j]? = some u → (w.alloc (.cells #[] 75)).cell? (a.add j) = some u) := Lib.hid (fun j u hu => by obtain ⟨a', e, _, h⟩ := HA.out j u hu; cases e; exact h)
    go_enter Tryd.func36, Tryd.ntmps36
    go_wp2_with (at_builtin; refine wpList_append_own _ rfl _ _ 65 rfl w.heap.size 75 i0 (.agg #[.int .i64 0, .int .i64 0, .int .i64 0, .int .i64 0, .int .i64 0, .int .i64 0, .int .i64 0]) 7 56 Tryd.underlying65 hi hz0 hz1 hz2 rfl (by decide) _ 0 [] rfl HO.out a l.length c (l.flatMap stc) rfl k1.out k2.out (stc_one l) (by unfold maxLen; omega) (by omega) (by simp) ?_; intro v' w1 ho1 hg1 _; obtain ⟨g, rfl, hL1, hk1, hg2⟩ := own_slice ho1)
    go_ret
    have hg3 : (w.alloc (.cells #[] 75)).grownBy w1 (some w.heap.size) := hg1
    rw [Nat.zero_add, List.nil_append] at ho1
    rw [List.nil_append] at hL1
    exact ⟨g, rfl, hL1, HB.out.grown hg3 HB.out.size (fun k e => by cases e; exact Nat.le_refl _)⟩

/-- The error of a book's steps. -/
def bkE (l : List Stp) : Int := if 60 < l.length then 8 else if l.all Stp.ok = true then 0 else 2
theorem bkE_long {l : List Stp} (h : 60 < l.length) : bkE l = 8 := by unfold bkE; rw [if_pos h]
theorem bkE_ok {l : List Stp} (h : ¬ 60 < l.length) (ha : l.all Stp.ok = true) : bkE l = 0 := by unfold bkE; rw [if_neg h, if_pos ha]
theorem bkE_bad {l : List Stp} (h : ¬ 60 < l.length) (ha : l.all Stp.ok = false) : bkE l = 2 := by unfold bkE; rw [if_neg h, if_neg (by rw [ha]; simp)]
theorem ph_three (p : Ph) : szE 100000 [p.x, p.y, p.z] = if p.ok = true then 0 else 2 := szE_three
set_option maxHeartbeats 4000000 in
set_option maxRecDepth 100000 in
theorem BookErr_any (l : List Stp) (A : Option Addr) (c : Nat) (hl : l.length ≤ 1000) (w : World) (hA : Lies w w.heap.size A (l.flatMap stc)) : Calls Tryd.prog 37 #[.slice A l.length c] w fun e w' => e = .returned (.int .i64 (bkE l)) ∧ Below w.heap.size w w' := by
  have HA := Lib.hid hA
  clear hA
  by_cases h60 : 60 < l.length
  · have gl : (60 : Int) < (l.length : Int) := by omega
    have HE := Lib.hid (bkE_long h60)
    go_enter Tryd.func37, Tryd.ntmps37
    go_wp2_with fail
    go_ret
    exact ⟨ret_i64 HE.out.symm, Below.refl _ _⟩
  · have gl : ¬ (60 : Int) < (l.length : Int) := by omega
    have gl2 : (l.length : Int) ≤ 60 := by omega
    have H6 := Lib.hid h60
    clear h60
    go_enter Tryd.func37, Tryd.ntmps37
    go_wp2_with fail
    go_loopw [3] (fun i wr => ∃ k : Nat, k ≤ l.length ∧ i = .int .i64 k ∧ (∀ j s, j < k → l[j]? = some s → s.ok = true) ∧ Fr w wr []) (fun i _ => l.length - (intOf i).toNat)
    case atStart => exact ⟨0, Nat.zero_le _, rfl, fun j s h => by omega, Fr.nil w⟩
    case round =>
      obtain ⟨k, hk, rfl, hpre, hfr⟩ := hrel
      have FK := Lib.hid hfr
      have HPRE := Lib.hid hpre
      clear hfr hpre
      by_cases hlt : k < l.length
      · obtain ⟨s, hs⟩ : ∃ s, l[k]? = some s := ⟨_, List.getElem?_eq_getElem hlt⟩
        have HSK := Lib.hid hs
        obtain ⟨a, rfl, hab, c0, c1, c2, c3, c4, c5, c6⟩ := ((HA.out.below FK.out.bl).more FK.out.size).step hs
        have hlt' : (k : Int) < (l.length : Int) := by omega
        have HC := Lib.hid (fun (W : World) (hW : Fr w W []) => ((HA.out.below hW.bl).more hW.size).step hs)
        have HAF : Hid (s.ok = false → bkE l = 2) := Lib.hid (fun h => bkE_bad H6.out (all_false HSK.out h))
        cases hv : s.v.ok with
        | false =>
          have HV : Hid (szE 100000 [s.v.x, s.v.y, s.v.z] = 2) := Lib.hid (by rw [ph_three, if_neg (by rw [hv]; simp)])
          have HF := Lib.hid (HAF.out (by simp only [Stp.ok, hv, Bool.false_and]))
          clear hs hv
          go_wp2_with fail
          refine (PhasesErr_any s.v.x s.v.y s.v.z _).mono ?_
          rintro e w1 ⟨rfl, hb1⟩
          rw [HV.out]
          have F1 := Lib.hid (FK.out.call hb1)
          clear hb1 FK c0 c1 c2 c3 c4 c5 c6
          go_wp2_with fail
          go_ret
          exact ⟨ret_i64 HF.out.symm, F1.out.bl⟩
        | true =>
          have HV : Hid (szE 100000 [s.v.x, s.v.y, s.v.z] = 0) := Lib.hid (by rw [ph_three, if_pos hv])
          cases hc : s.c.ok with
          | false =>
            have HV2 : Hid (szE 100000 [s.c.x, s.c.y, s.c.z] = 2) := Lib.hid (by rw [ph_three, if_neg (by rw [hc]; simp)])
            have HF := Lib.hid (HAF.out (by simp only [Stp.ok, hc, Bool.and_false, Bool.false_and]))
            clear hs hv hc
            go_wp2_with fail
            refine (PhasesErr_any s.v.x s.v.y s.v.z _).mono ?_
            rintro e w1 ⟨rfl, hb1⟩
            rw [HV.out]
            have F1 := Lib.hid (FK.out.call hb1)
            clear hb1 FK c0 c1 c2 c3 c4 c5 c6
            obtain ⟨a', ea', _, c0, c1, c2, c3, c4, c5, c6⟩ := HC.out _ F1.out
            cases ea'
            go_wp2_with fail
            refine (PhasesErr_any s.c.x s.c.y s.c.z _).mono ?_
            rintro e w2 ⟨rfl, hb2⟩
            rw [HV2.out]
            have F2 := Lib.hid (F1.out.call hb2)
            clear hb2 F1 c0 c1 c2 c3 c4 c5 c6
            go_wp2_with fail
            go_ret
            exact ⟨ret_i64 HF.out.symm, F2.out.bl⟩
          | true =>
            have HV2 : Hid (szE 100000 [s.c.x, s.c.y, s.c.z] = 0) := Lib.hid (by rw [ph_three, if_pos hc])
            obtain ⟨ob, hob⟩ : ∃ b, inB s.ohm 0 1000 = b := ⟨_, rfl⟩
            have HOB := Lib.hid hob
            have HOK : Hid (s.ok = ob) := Lib.hid (by simp only [Stp.ok, hv, hc, hob, Bool.true_and])
            clear hs hv hc hob
            go_wp2_with fail
            refine (PhasesErr_any s.v.x s.v.y s.v.z _).mono ?_
            rintro e w1 ⟨rfl, hb1⟩
            rw [HV.out]
            have F1 := Lib.hid (FK.out.call hb1)
            clear hb1 FK c0 c1 c2 c3 c4 c5 c6
            obtain ⟨a', ea', _, c0, c1, c2, c3, c4, c5, c6⟩ := HC.out _ F1.out
            cases ea'
            go_wp2_with fail
            refine (PhasesErr_any s.c.x s.c.y s.c.z _).mono ?_
            rintro e w2 ⟨rfl, hb2⟩
            rw [HV2.out]
            have F2 := Lib.hid (F1.out.call hb2)
            clear hb2 F1 c0 c1 c2 c3 c4 c5 c6
            obtain ⟨a', ea', _, c0, c1, c2, c3, c4, c5, c6⟩ := HC.out _ F2.out
            cases ea'
            cases ob with
            | false =>
              go_wp2_with (go_at_call 18; refine (Within_any _ _ _ _).mono ?_; rintro e w' ⟨rfl, rfl⟩; rw [HOB.out])
              go_ret
              exact ⟨ret_i64 (HAF.out HOK.out).symm, F2.out.bl⟩
            | true =>
              go_wp2_with (go_at_call 18; refine (Within_any _ _ _ _).mono ?_; rintro e w' ⟨rfl, rfl⟩; rw [HOB.out])
              go_roundw
              case rel => exact ⟨k + 1, by omega, by go_num, fun j t hj ht => by
                by_cases e : j = k
                · subst e; rw [HSK.out] at ht; cases ht; exact HOK.out
                · exact HPRE.out j t (by omega) ht, F2.out⟩
              case measure => simp [intOf]; omega
      · obtain rfl : k = l.length := by omega
        have HF : Hid (bkE l = 0) := Lib.hid (bkE_ok H6.out (by
          rw [List.all_eq_true]
          intro t ht
          obtain ⟨j, hj, rfl⟩ := List.mem_iff_getElem.1 ht
          exact HPRE.out j _ hj (List.getElem?_eq_getElem hj)))
        go_wp2_with fail
        go_ret
        exact ⟨ret_i64 HF.out.symm, FK.out.bl⟩

set_option maxHeartbeats 8000000 in
set_option maxRecDepth 100000 in
theorem refBookOf_any (l : List Stp) (A : Option Addr) (c : Nat) (hl : l.length ≤ 60) (hx : ∀ s ∈ l, s.ok = true) (w : World) (hA : Lies w w.heap.size A (l.flatMap stc)) : Calls Tryd.prog 38 #[.slice A l.length c] w fun e w' => e = .returned (.agg #[.int .i64 (fedV l), .int .i64 (lostV l), .int .i64 (fedV l - lostV l)]) ∧ Below w.heap.size w w' := by
  have gl2 : (l.length : Int) ≤ 60 := by omega
  have HA := Lib.hid hA
  have HX := Lib.hid hx
  have F0 := Fr.b2 w 67 #[.int .i64 0, .int .i64 0, .int .i64 0] 67 #[.int .i64 0, .int .i64 0, .int .i64 0]
  clear hA hx
  go_enter Tryd.func38, Tryd.ntmps38
  go_wp2_with fail
  go_loopw [4] (fun i wr => ∃ k : Nat, k ≤ l.length ∧ i = .int .i64 k ∧ Fr w wr [(w.heap.size + 1, 67, #[.int .i64 (fedV (l.take k)), .int .i64 (lostV (l.take k)), .int .i64 0]), (w.heap.size, 67, #[.int .i64 0, .int .i64 0, .int .i64 0])]) (fun i _ => l.length - (intOf i).toNat)
  case atStart => exact ⟨0, Nat.zero_le _, rfl, F0⟩
  case round =>
    obtain ⟨k, hk, rfl, hfr⟩ := hrel
    have FK := Lib.hid hfr
    clear hfr F0
    by_cases hlt : k < l.length
    · obtain ⟨s, hs⟩ : ∃ s, l[k]? = some s := ⟨_, List.getElem?_eq_getElem hlt⟩
      have hlt' : (k : Int) < (l.length : Int) := by omega
      obtain ⟨a, rfl, hab, c0, c1, c2, c3, c4, c5, c6⟩ := HA.out.step hs
      have HCX : Hid (∀ W, Below w.heap.size w W → W.cell? (a.add (k * 7)) = some (.int .i64 s.v.x) ∧ W.cell? ⟨(a.add (k * 7)).block, (a.add (k * 7)).off + 1, none⟩ = some (.int .i64 s.v.y) ∧ W.cell? ⟨(a.add (k * 7)).block, (a.add (k * 7)).off + 2, none⟩ = some (.int .i64 s.v.z) ∧ W.cell? ⟨(a.add (k * 7)).block, (a.add (k * 7)).off + 3, none⟩ = some (.int .i64 s.c.x) ∧ W.cell? ⟨(a.add (k * 7)).block, (a.add (k * 7)).off + 4, none⟩ = some (.int .i64 s.c.y) ∧ W.cell? ⟨(a.add (k * 7)).block, (a.add (k * 7)).off + 5, none⟩ = some (.int .i64 s.c.z) ∧ W.cell? ⟨(a.add (k * 7)).block, (a.add (k * 7)).off + 6, none⟩ = some (.int .i64 s.ohm)) := Lib.hid (fun W hb => by
        obtain ⟨a', ea', _, c0, c1, c2, c3, c4, c5, c6⟩ := (HA.out.below hb).step hs
        cases ea'
        exact ⟨c0, c1, c2, c3, c4, c5, c6⟩)
      have hsk := HX.out s (List.mem_of_getElem? hs)
      have hve := hsk
      simp only [Stp.ok, Bool.and_eq_true] at hve
      have HS1 := Lib.hid (refPowerOf_any s.v s.c hve.1.1 hve.1.2)
      have HS2 := Lib.hid (refPowerOf_any s.c s.c hve.1.2 hve.1.2)
      have p1 := pw_in hve.1.1 hve.1.2
      have p3 := ohm_in hsk
      obtain ⟨n1, n2⟩ := fed_next hs
      have b1 := book_take HX.out (by omega) k
      have N1 := Lib.hid n1
      have N2 := Lib.hid n2
      generalize fedV (l.take k) = fk at *
      generalize lostV (l.take k) = lk at *
      generalize pwV s.v s.c = pa at *
      generalize pwV s.c s.c = pb at *
      have W1 : Hid (IntKind.i64.wrap (fk + pa) = fk + pa) := Lib.hid (IntWalk.i64_in _ ⟨by omega, by omega⟩)
      have W2 : Hid (IntKind.i64.wrap (s.ohm * pb) = s.ohm * pb) := Lib.hid (IntWalk.i64_in _ ⟨by omega, by omega⟩)
      have W3 : Hid (IntKind.i64.wrap (lk + s.ohm * pb) = lk + s.ohm * pb) := Lib.hid (IntWalk.i64_in _ ⟨by omega, by omega⟩)
      clear hs hve hsk p1 p3 n1 n2 b1 c0 c1 c2 c3 c4 c5 c6
      go_upto_region 5 with fail
      go_cut [25] from 11 to 25 (fun r W => r = .pointer (some ⟨w.heap.size + 1, 0, none⟩) ∧ Fr w W [(w.heap.size + 1, 67, #[.int .i64 (fk + pa), .int .i64 lk, .int .i64 0]), (w.heap.size, 67, #[.int .i64 0, .int .i64 0, .int .i64 0])])
      case first =>
        have hw1 := W1.out
        have HALL : Hid (∀ W, Fr w W [(w.heap.size + 1, 67, #[.int .i64 fk, .int .i64 lk, .int .i64 0]), (w.heap.size, 67, #[.int .i64 0, .int .i64 0, .int .i64 0])] → Fr w W [(w.heap.size + 1, 67, #[.int .i64 fk, .int .i64 lk, .int .i64 0]), (w.heap.size, 67, #[.int .i64 0, .int .i64 0, .int .i64 0])] ∧ W.cell? ⟨w.heap.size + 1, 0, none⟩ = some (.int .i64 fk) ∧ W.cell? (a.add (k * 7)) = some (.int .i64 s.v.x) ∧ W.cell? ⟨(a.add (k * 7)).block, (a.add (k * 7)).off + 1, none⟩ = some (.int .i64 s.v.y) ∧ W.cell? ⟨(a.add (k * 7)).block, (a.add (k * 7)).off + 2, none⟩ = some (.int .i64 s.v.z) ∧ W.cell? ⟨(a.add (k * 7)).block, (a.add (k * 7)).off + 3, none⟩ = some (.int .i64 s.c.x) ∧ W.cell? ⟨(a.add (k * 7)).block, (a.add (k * 7)).off + 4, none⟩ = some (.int .i64 s.c.y) ∧ W.cell? ⟨(a.add (k * 7)).block, (a.add (k * 7)).off + 5, none⟩ = some (.int .i64 s.c.z) ∧ W.cell? ⟨(a.add (k * 7)).block, (a.add (k * 7)).off + 6, none⟩ = some (.int .i64 s.ohm)) := Lib.hid (fun W hW => ⟨hW, hW.top.cell 0, HCX.out W hW.bl⟩)
        have F10 : Fr w _ [(w.heap.size + 1, 67, #[.int .i64 fk, .int .i64 lk, .int .i64 0]), (w.heap.size, 67, #[.int .i64 0, .int .i64 0, .int .i64 0])] := FK.out
        clear FK
        refine Tw_start 14 (fun W => Fr w W [(w.heap.size + 1, 67, #[.int .i64 fk, .int .i64 lk, .int .i64 0]), (w.heap.size, 67, #[.int .i64 0, .int .i64 0, .int .i64 0])] ∧ W.cell? ⟨w.heap.size + 1, 0, none⟩ = some (.int .i64 fk) ∧ W.cell? (a.add (k * 7)) = some (.int .i64 s.v.x) ∧ W.cell? ⟨(a.add (k * 7)).block, (a.add (k * 7)).off + 1, none⟩ = some (.int .i64 s.v.y) ∧ W.cell? ⟨(a.add (k * 7)).block, (a.add (k * 7)).off + 2, none⟩ = some (.int .i64 s.v.z) ∧ W.cell? ⟨(a.add (k * 7)).block, (a.add (k * 7)).off + 3, none⟩ = some (.int .i64 s.c.x) ∧ W.cell? ⟨(a.add (k * 7)).block, (a.add (k * 7)).off + 4, none⟩ = some (.int .i64 s.c.y) ∧ W.cell? ⟨(a.add (k * 7)).block, (a.add (k * 7)).off + 5, none⟩ = some (.int .i64 s.c.z) ∧ W.cell? ⟨(a.add (k * 7)).block, (a.add (k * 7)).off + 6, none⟩ = some (.int .i64 s.ohm)) (by kernel_rfl) (by kernel_rfl) rfl ?_ ?_
        · (try dsimp only)
          ((go_split_ands; refine HALL.out _ ?_; (first | assumption | (repeat (first | assumption | refine Fr.new ?_ _ | refine Fr.drew ?_ | (refine Fr.set ?_ (by first | exact Nat.le_refl _ | omega | (simp; done) | (simp; omega)) (by first | (simp; done) | (simp; omega)) _))); done)))
        refine Tw_takeL (i := 0) (v := ?tv1) rfl (by kernel_rfl) (by decide) (by kernel_rfl) (by kernel_rfl) (fun _ _ _ h => h) (by rfl) ?ty1 ?tn1
        case ty1 => (intro w hSw; (try dsimp only at hSw); go_simp <;> with_reducible rfl)
        (try simp only [Act.put, List.setIfInBounds_toArray, List.set_cons_zero, List.set_cons_succ])
        refine Tw_takeL (i := 1) (v := ?tv2) rfl (by kernel_rfl) (by decide) (by kernel_rfl) (by kernel_rfl) (fun _ _ _ h => h) (by rfl) ?ty2 ?tn2
        case ty2 => (intro w hSw; (try dsimp only at hSw); go_simp <;> with_reducible rfl)
        (try simp only [Act.put, List.setIfInBounds_toArray, List.set_cons_zero, List.set_cons_succ])
        refine Tw_takeL (i := 2) (v := ?tv3) rfl (by kernel_rfl) (by decide) (by kernel_rfl) (by kernel_rfl) (fun _ _ _ h => h) (by rfl) ?ty3 ?tn3
        case ty3 => (intro w hSw; (try dsimp only at hSw); go_simp <;> with_reducible rfl)
        (try simp only [Act.put, List.setIfInBounds_toArray, List.set_cons_zero, List.set_cons_succ])
        refine Tw_takeL (i := 3) (v := ?tv4) rfl (by kernel_rfl) (by decide) (by kernel_rfl) (by kernel_rfl) (fun _ _ _ h => h) (by rfl) ?ty4 ?tn4
        case ty4 => (intro w hSw; (try dsimp only at hSw); go_simp <;> with_reducible rfl)
        (try simp only [Act.put, List.setIfInBounds_toArray, List.set_cons_zero, List.set_cons_succ])
        refine Tw_takeL (i := 4) (v := ?tv5) rfl (by kernel_rfl) (by decide) (by kernel_rfl) (by kernel_rfl) (fun _ _ _ h => h) (by rfl) ?ty5 ?tn5
        case ty5 => (intro w hSw; (try dsimp only at hSw); go_simp <;> with_reducible rfl)
        (try simp only [Act.put, List.setIfInBounds_toArray, List.set_cons_zero, List.set_cons_succ])
        refine Tw_takeL (i := 5) (v := ?tv6) rfl (by kernel_rfl) (by decide) (by kernel_rfl) (by kernel_rfl) (fun _ _ _ h => h) (by rfl) ?ty6 ?tn6
        case ty6 => (intro w hSw; (try dsimp only at hSw); go_simp <;> with_reducible rfl)
        (try simp only [Act.put, List.setIfInBounds_toArray, List.set_cons_zero, List.set_cons_succ])
        refine Tw_takeL (i := 6) (v := ?tv7) rfl (by kernel_rfl) (by decide) (by kernel_rfl) (by kernel_rfl) (fun _ _ _ h => h) (by rfl) ?ty7 ?tn7
        case ty7 => (intro w hSw; (try dsimp only at hSw); go_simp <;> with_reducible rfl)
        (try simp only [Act.put, List.setIfInBounds_toArray, List.set_cons_zero, List.set_cons_succ])
        refine Tw_takeL (i := 7) (v := ?tv8) rfl (by kernel_rfl) (by decide) (by kernel_rfl) (by kernel_rfl) (fun _ _ _ h => h) (by rfl) ?ty8 ?tn8
        case ty8 => (intro w hSw; (try dsimp only at hSw); go_simp <;> with_reducible rfl)
        (try simp only [Act.put, List.setIfInBounds_toArray, List.set_cons_zero, List.set_cons_succ])
        refine Tw_takeL (i := 8) (v := ?tv9) rfl (by kernel_rfl) (by decide) (by kernel_rfl) (by kernel_rfl) (fun _ _ _ h => h) (by rfl) ?ty9 ?tn9
        case ty9 => (intro w hSw; (try dsimp only at hSw); go_simp <;> with_reducible rfl)
        (try simp only [Act.put, List.setIfInBounds_toArray, List.set_cons_zero, List.set_cons_succ])
        refine Tw_takeL (i := 9) (v := ?tv10) rfl (by kernel_rfl) (by decide) (by kernel_rfl) (by kernel_rfl) (fun _ _ _ h => h) (by rfl) ?ty10 ?tn10
        case ty10 => (intro w hSw; (try dsimp only at hSw); go_simp <;> with_reducible rfl)
        (try simp only [Act.put, List.setIfInBounds_toArray, List.set_cons_zero, List.set_cons_succ])
        refine Tw_takeL (i := 10) (v := ?tv11) rfl (by kernel_rfl) (by decide) (by kernel_rfl) (by kernel_rfl) (fun _ _ _ h => h) (by rfl) ?ty11 ?tn11
        case ty11 => (intro w hSw; (try dsimp only at hSw); go_simp <;> with_reducible rfl)
        (try simp only [Act.put, List.setIfInBounds_toArray, List.set_cons_zero, List.set_cons_succ])
        refine Tw_takeL (i := 11) (v := ?tv12) rfl (by kernel_rfl) (by decide) (by kernel_rfl) (by kernel_rfl) (fun _ _ _ h => h) (by rfl) ?ty12 ?tn12
        case ty12 => (intro w hSw; (try dsimp only at hSw); go_simp <;> with_reducible rfl)
        (try simp only [Act.put, List.setIfInBounds_toArray, List.set_cons_zero, List.set_cons_succ])
        refine Tw_all (rs := [12]) (by kernel_rfl) (by simp) (by decide) (fun hHeld => ?_)
        refine AllT.consL rfl (fun K hK => ?_) AllT.nil
        go_simp
        (go_at_call 41; go_split_ands; (with_reducible refine (HS1.out _).mono ?_); rintro e w7 ⟨rfl, hb7⟩; have F4 := Fr.call (by assumption) hb7; clear hb7)
        refine hK.out _ _ ?_ ?_
        · (try dsimp only)
          ((go_split_ands; refine HALL.out _ ?_; (first | assumption | (repeat (first | assumption | refine Fr.new ?_ _ | refine Fr.drew ?_ | (refine Fr.set ?_ (by first | exact Nat.le_refl _ | omega | (simp; done) | (simp; omega)) (by first | (simp; done) | (simp; omega)) _))); done)))
        clear hK K
        (try simp only [Act.put, List.setIfInBounds_toArray, List.set_cons_zero, List.set_cons_succ])
        refine Tw_takeL (i := 13) (v := ?tv13) rfl (by kernel_rfl) (by decide) (by kernel_rfl) (by kernel_rfl) (fun _ _ _ h => h) (by rfl) ?ty13 ?tn13
        case ty13 => (intro w hSw; (try dsimp only at hSw); go_simp <;> with_reducible rfl)
        (try simp only [Act.put, List.setIfInBounds_toArray, List.set_cons_zero, List.set_cons_succ])
        refine Tw_end (by kernel_rfl) (fun hh => ?_)
        obtain ⟨F11, _⟩ := hh
        clear HALL
        have d0 := F11.top.cell 0
        have f0 := F11.top.frozen 0
        go_wp2_with fail
        go_meet
        exact ⟨rfl, by have := F11.put 0 (.int .i64 (fk + pa)) (by omega) (by simp); simpa using this⟩
      case rest =>
        obtain ⟨wx, rfl⟩ : ∃ W, W = wc := ⟨_, rfl⟩
        obtain ⟨rfl, hx⟩ := hcut
        have F2 := Lib.hid hx
        clear hx FK
        go_upto_region 6 with fail
        have hw2 := W2.out
        have hw3 := W3.out
        have HALL : Hid (∀ W, Fr w W [(w.heap.size + 1, 67, #[.int .i64 (fk + pa), .int .i64 lk, .int .i64 0]), (w.heap.size, 67, #[.int .i64 0, .int .i64 0, .int .i64 0])] → Fr w W [(w.heap.size + 1, 67, #[.int .i64 (fk + pa), .int .i64 lk, .int .i64 0]), (w.heap.size, 67, #[.int .i64 0, .int .i64 0, .int .i64 0])] ∧ W.cell? ⟨w.heap.size + 1, 1, none⟩ = some (.int .i64 lk) ∧ W.cell? (a.add (k * 7)) = some (.int .i64 s.v.x) ∧ W.cell? ⟨(a.add (k * 7)).block, (a.add (k * 7)).off + 1, none⟩ = some (.int .i64 s.v.y) ∧ W.cell? ⟨(a.add (k * 7)).block, (a.add (k * 7)).off + 2, none⟩ = some (.int .i64 s.v.z) ∧ W.cell? ⟨(a.add (k * 7)).block, (a.add (k * 7)).off + 3, none⟩ = some (.int .i64 s.c.x) ∧ W.cell? ⟨(a.add (k * 7)).block, (a.add (k * 7)).off + 4, none⟩ = some (.int .i64 s.c.y) ∧ W.cell? ⟨(a.add (k * 7)).block, (a.add (k * 7)).off + 5, none⟩ = some (.int .i64 s.c.z) ∧ W.cell? ⟨(a.add (k * 7)).block, (a.add (k * 7)).off + 6, none⟩ = some (.int .i64 s.ohm)) := Lib.hid (fun W hW => ⟨hW, hW.top.cell 1, HCX.out W hW.bl⟩)
        have F10 : Fr w _ [(w.heap.size + 1, 67, #[.int .i64 (fk + pa), .int .i64 lk, .int .i64 0]), (w.heap.size, 67, #[.int .i64 0, .int .i64 0, .int .i64 0])] := F2.out
        clear F2
        refine Tw_start 20 (fun W => Fr w W [(w.heap.size + 1, 67, #[.int .i64 (fk + pa), .int .i64 lk, .int .i64 0]), (w.heap.size, 67, #[.int .i64 0, .int .i64 0, .int .i64 0])] ∧ W.cell? ⟨w.heap.size + 1, 1, none⟩ = some (.int .i64 lk) ∧ W.cell? (a.add (k * 7)) = some (.int .i64 s.v.x) ∧ W.cell? ⟨(a.add (k * 7)).block, (a.add (k * 7)).off + 1, none⟩ = some (.int .i64 s.v.y) ∧ W.cell? ⟨(a.add (k * 7)).block, (a.add (k * 7)).off + 2, none⟩ = some (.int .i64 s.v.z) ∧ W.cell? ⟨(a.add (k * 7)).block, (a.add (k * 7)).off + 3, none⟩ = some (.int .i64 s.c.x) ∧ W.cell? ⟨(a.add (k * 7)).block, (a.add (k * 7)).off + 4, none⟩ = some (.int .i64 s.c.y) ∧ W.cell? ⟨(a.add (k * 7)).block, (a.add (k * 7)).off + 5, none⟩ = some (.int .i64 s.c.z) ∧ W.cell? ⟨(a.add (k * 7)).block, (a.add (k * 7)).off + 6, none⟩ = some (.int .i64 s.ohm)) (by kernel_rfl) (by kernel_rfl) rfl ?_ ?_
        · (try dsimp only)
          ((go_split_ands; refine HALL.out _ ?_; (first | assumption | (repeat (first | assumption | refine Fr.new ?_ _ | refine Fr.drew ?_ | (refine Fr.set ?_ (by first | exact Nat.le_refl _ | omega | (simp; done) | (simp; omega)) (by first | (simp; done) | (simp; omega)) _))); done)))
        refine Tw_takeL (i := 0) (v := ?tv14) rfl (by kernel_rfl) (by decide) (by kernel_rfl) (by kernel_rfl) (fun _ _ _ h => h) (by rfl) ?ty14 ?tn14
        case ty14 => (intro w hSw; (try dsimp only at hSw); go_simp <;> with_reducible rfl)
        (try simp only [Act.put, List.setIfInBounds_toArray, List.set_cons_zero, List.set_cons_succ])
        refine Tw_takeL (i := 1) (v := ?tv15) rfl (by kernel_rfl) (by decide) (by kernel_rfl) (by kernel_rfl) (fun _ _ _ h => h) (by rfl) ?ty15 ?tn15
        case ty15 => (intro w hSw; (try dsimp only at hSw); go_simp <;> with_reducible rfl)
        (try simp only [Act.put, List.setIfInBounds_toArray, List.set_cons_zero, List.set_cons_succ])
        refine Tw_takeL (i := 2) (v := ?tv16) rfl (by kernel_rfl) (by decide) (by kernel_rfl) (by kernel_rfl) (fun _ _ _ h => h) (by rfl) ?ty16 ?tn16
        case ty16 => (intro w hSw; (try dsimp only at hSw); go_simp <;> with_reducible rfl)
        (try simp only [Act.put, List.setIfInBounds_toArray, List.set_cons_zero, List.set_cons_succ])
        refine Tw_takeL (i := 3) (v := ?tv17) rfl (by kernel_rfl) (by decide) (by kernel_rfl) (by kernel_rfl) (fun _ _ _ h => h) (by rfl) ?ty17 ?tn17
        case ty17 => (intro w hSw; (try dsimp only at hSw); go_simp <;> with_reducible rfl)
        (try simp only [Act.put, List.setIfInBounds_toArray, List.set_cons_zero, List.set_cons_succ])
        refine Tw_takeL (i := 4) (v := ?tv18) rfl (by kernel_rfl) (by decide) (by kernel_rfl) (by kernel_rfl) (fun _ _ _ h => h) (by rfl) ?ty18 ?tn18
        case ty18 => (intro w hSw; (try dsimp only at hSw); go_simp <;> with_reducible rfl)
        (try simp only [Act.put, List.setIfInBounds_toArray, List.set_cons_zero, List.set_cons_succ])
        refine Tw_takeL (i := 5) (v := ?tv19) rfl (by kernel_rfl) (by decide) (by kernel_rfl) (by kernel_rfl) (fun _ _ _ h => h) (by rfl) ?ty19 ?tn19
        case ty19 => (intro w hSw; (try dsimp only at hSw); go_simp <;> with_reducible rfl)
        (try simp only [Act.put, List.setIfInBounds_toArray, List.set_cons_zero, List.set_cons_succ])
        refine Tw_takeL (i := 6) (v := ?tv20) rfl (by kernel_rfl) (by decide) (by kernel_rfl) (by kernel_rfl) (fun _ _ _ h => h) (by rfl) ?ty20 ?tn20
        case ty20 => (intro w hSw; (try dsimp only at hSw); go_simp <;> with_reducible rfl)
        (try simp only [Act.put, List.setIfInBounds_toArray, List.set_cons_zero, List.set_cons_succ])
        refine Tw_takeL (i := 7) (v := ?tv21) rfl (by kernel_rfl) (by decide) (by kernel_rfl) (by kernel_rfl) (fun _ _ _ h => h) (by rfl) ?ty21 ?tn21
        case ty21 => (intro w hSw; (try dsimp only at hSw); go_simp <;> with_reducible rfl)
        (try simp only [Act.put, List.setIfInBounds_toArray, List.set_cons_zero, List.set_cons_succ])
        refine Tw_takeL (i := 8) (v := ?tv22) rfl (by kernel_rfl) (by decide) (by kernel_rfl) (by kernel_rfl) (fun _ _ _ h => h) (by rfl) ?ty22 ?tn22
        case ty22 => (intro w hSw; (try dsimp only at hSw); go_simp <;> with_reducible rfl)
        (try simp only [Act.put, List.setIfInBounds_toArray, List.set_cons_zero, List.set_cons_succ])
        refine Tw_takeL (i := 9) (v := ?tv23) rfl (by kernel_rfl) (by decide) (by kernel_rfl) (by kernel_rfl) (fun _ _ _ h => h) (by rfl) ?ty23 ?tn23
        case ty23 => (intro w hSw; (try dsimp only at hSw); go_simp <;> with_reducible rfl)
        (try simp only [Act.put, List.setIfInBounds_toArray, List.set_cons_zero, List.set_cons_succ])
        refine Tw_takeL (i := 10) (v := ?tv24) rfl (by kernel_rfl) (by decide) (by kernel_rfl) (by kernel_rfl) (fun _ _ _ h => h) (by rfl) ?ty24 ?tn24
        case ty24 => (intro w hSw; (try dsimp only at hSw); go_simp <;> with_reducible rfl)
        (try simp only [Act.put, List.setIfInBounds_toArray, List.set_cons_zero, List.set_cons_succ])
        refine Tw_takeL (i := 11) (v := ?tv25) rfl (by kernel_rfl) (by decide) (by kernel_rfl) (by kernel_rfl) (fun _ _ _ h => h) (by rfl) ?ty25 ?tn25
        case ty25 => (intro w hSw; (try dsimp only at hSw); go_simp <;> with_reducible rfl)
        (try simp only [Act.put, List.setIfInBounds_toArray, List.set_cons_zero, List.set_cons_succ])
        refine Tw_takeL (i := 12) (v := ?tv26) rfl (by kernel_rfl) (by decide) (by kernel_rfl) (by kernel_rfl) (fun _ _ _ h => h) (by rfl) ?ty26 ?tn26
        case ty26 => (intro w hSw; (try dsimp only at hSw); go_simp <;> with_reducible rfl)
        (try simp only [Act.put, List.setIfInBounds_toArray, List.set_cons_zero, List.set_cons_succ])
        refine Tw_takeL (i := 13) (v := ?tv27) rfl (by kernel_rfl) (by decide) (by kernel_rfl) (by kernel_rfl) (fun _ _ _ h => h) (by rfl) ?ty27 ?tn27
        case ty27 => (intro w hSw; (try dsimp only at hSw); go_simp <;> with_reducible rfl)
        (try simp only [Act.put, List.setIfInBounds_toArray, List.set_cons_zero, List.set_cons_succ])
        refine Tw_takeL (i := 14) (v := ?tv28) rfl (by kernel_rfl) (by decide) (by kernel_rfl) (by kernel_rfl) (fun _ _ _ h => h) (by rfl) ?ty28 ?tn28
        case ty28 => (intro w hSw; (try dsimp only at hSw); go_simp <;> with_reducible rfl)
        (try simp only [Act.put, List.setIfInBounds_toArray, List.set_cons_zero, List.set_cons_succ])
        refine Tw_takeL (i := 15) (v := ?tv29) rfl (by kernel_rfl) (by decide) (by kernel_rfl) (by kernel_rfl) (fun _ _ _ h => h) (by rfl) ?ty29 ?tn29
        case ty29 => (intro w hSw; (try dsimp only at hSw); go_simp <;> with_reducible rfl)
        (try simp only [Act.put, List.setIfInBounds_toArray, List.set_cons_zero, List.set_cons_succ])
        refine Tw_takeL (i := 16) (v := ?tv30) rfl (by kernel_rfl) (by decide) (by kernel_rfl) (by kernel_rfl) (fun _ _ _ h => h) (by rfl) ?ty30 ?tn30
        case ty30 => (intro w hSw; (try dsimp only at hSw); go_simp <;> with_reducible rfl)
        (try simp only [Act.put, List.setIfInBounds_toArray, List.set_cons_zero, List.set_cons_succ])
        refine Tw_all (rs := [17]) (by kernel_rfl) (by simp) (by decide) (fun hHeld => ?_)
        refine AllT.consL rfl (fun K hK => ?_) AllT.nil
        go_simp
        (go_at_call 41; go_split_ands; (with_reducible refine (HS2.out _).mono ?_); rintro e w7 ⟨rfl, hb7⟩; have F4 := Fr.call (by assumption) hb7; clear hb7)
        refine hK.out _ _ ?_ ?_
        · (try dsimp only)
          ((go_split_ands; refine HALL.out _ ?_; (first | assumption | (repeat (first | assumption | refine Fr.new ?_ _ | refine Fr.drew ?_ | (refine Fr.set ?_ (by first | exact Nat.le_refl _ | omega | (simp; done) | (simp; omega)) (by first | (simp; done) | (simp; omega)) _))); done)))
        clear hK K
        (try simp only [Act.put, List.setIfInBounds_toArray, List.set_cons_zero, List.set_cons_succ])
        refine Tw_takeL (i := 18) (v := ?tv31) rfl (by kernel_rfl) (by decide) (by kernel_rfl) (by kernel_rfl) (fun _ _ _ h => h) (by rfl) ?ty31 ?tn31
        case ty31 => (intro w hSw; (try dsimp only at hSw); go_simp <;> with_reducible rfl)
        (try simp only [Act.put, List.setIfInBounds_toArray, List.set_cons_zero, List.set_cons_succ])
        refine Tw_takeL (i := 19) (v := ?tv32) rfl (by kernel_rfl) (by decide) (by kernel_rfl) (by kernel_rfl) (fun _ _ _ h => h) (by rfl) ?ty32 ?tn32
        case ty32 => (intro w hSw; (try dsimp only at hSw); go_simp <;> with_reducible rfl)
        (try simp only [Act.put, List.setIfInBounds_toArray, List.set_cons_zero, List.set_cons_succ])
        refine Tw_end (by kernel_rfl) (fun hh => ?_)
        obtain ⟨F11, _⟩ := hh
        clear HALL hw2 hw3
        have F3 := Lib.hid F11
        clear F11
        have d1 := F3.out.top.cell 1
        have f1 := F3.out.top.frozen 1
        go_wp2_with fail
        go_roundw
        case rel => exact ⟨k + 1, by omega, by go_num, by have h := F3.out.put 1 (.int .i64 (lk + s.ohm * pb)) (by omega) (by simp); rw [N1.out, N2.out]; exact (by simpa using h)⟩
        case measure => simp [intOf]; omega
    · obtain rfl : k = l.length := by omega
      rw [List.take_length] at FK
      have hb := book_in l HX.out
      have F1 := FK
      generalize hfv : fedV l = fk at *
      generalize hlv : lostV l = lk at *
      have HF := Lib.hid hfv
      have HL := Lib.hid hlv
      have b1 : -9000000000000000 ≤ fk ∧ fk ≤ 9000000000000000 := by omega
      have b2 : -9000000000000000 ≤ lk ∧ lk ≤ 9000000000000000 := by omega
      have c0 := F1.out.top.cell 0
      have c1 := F1.out.top.cell 1
      have c2 := F1.out.top.cell 2
      have f2 := F1.out.top.frozen 2
      have d0 := F1.out.at1.cell 0
      have d1 := F1.out.at1.cell 1
      have d2 := F1.out.at1.cell 2
      have g0 := F1.out.at1.frozen 0
      have g1 := F1.out.at1.frozen 1
      have g2 := F1.out.at1.frozen 2
      obtain ⟨b3, b4⟩ := b1
      obtain ⟨b5, b6⟩ := b2
      clear hb hfv hlv FK
      go_wp2_with fail
      exact bodyPost_ret (v := .agg #[.int .i64 fk, .int .i64 lk, .int .i64 (fk - lk)]) (by simp [results, Tryd.results38, go_sem, c0, c1, c2, d0, d1, d2]) rfl ⟨by rw [HF.out, HL.out], (by repeat (first | exact F1.out.bl | refine Below.drew ?_ | refine Below.setCell ?_ (by first | (simp; done) | (simp; omega) | omega) _ | refine Below.alloc ?_ (by first | (simp; done) | (simp; omega) | omega) _ | exact Below.refl _ _))⟩
end Go.Proofs.YtohldmmfnjfgmaaDoor
