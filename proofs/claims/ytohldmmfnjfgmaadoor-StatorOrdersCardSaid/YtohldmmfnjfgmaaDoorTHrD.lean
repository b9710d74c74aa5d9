
/-
  The walk of SamplesOf.
-/
import Derived.Test.YtohldmmfnjfgmaaDoorTHrC
namespace Go.Proofs.YtohldmmfnjfgmaaDoor
open Go.RowKit

def okh (v : T3) : Bool := inB v.a (-600000) 600000 && inB v.b (-600000) 600000
def okH (h : Nat → T3) : Bool := okh (h 0) && okh (h 1) && okh (h 2) && okh (h 3) && okh (h 4) && okh (h 5)
theorem szh (v : T3) : szE 600000 [v.a, v.b] = if okh v = true then 0 else 2 := by unfold szE okh; simp
/-- Is a sum six times a sample? -/
def frm (v : T3) : Bool := decide (v.a.tmod 6 = 0) && decide (v.b = 0)
def allF (h : Nat → T3) : Bool := frm (backV h 0) && frm (backV h 1) && frm (backV h 2) && frm (backV h 3) && frm (backV h 4) && frm (backV h 5)
def quo (h : Nat → T3) (j : Nat) : Int := (backV h j).a.tdiv 6
def quoK (h : Nat → T3) (k j : Nat) : Int := if j < k then quo h j else 0
theorem quo_next (h : Nat → T3) (k : Nat) : updI (quoK h k) k (quo h k) = quoK h (k + 1) := by
  funext j
  unfold updI quoK
  by_cases e : j = k
  · subst e; simp
  · by_cases h2 : j < k
    · rw [if_neg e, if_pos h2, if_pos (by omega)]
    · rw [if_neg e, if_neg h2, if_neg (by omega)]
theorem quo_zero (h : Nat → T3) : (#[.int .i64 (quoK h 0 0), .int .i64 (quoK h 0 1), .int .i64 (quoK h 0 2), .int .i64 (quoK h 0 3), .int .i64 (quoK h 0 4), .int .i64 (quoK h 0 5)] : Array Value) = #[.int .i64 0, .int .i64 0, .int .i64 0, .int .i64 0, .int .i64 0, .int .i64 0] := by simp [quoK]
theorem quo_all (h : Nat → T3) : (#[.int .i64 (quoK h 6 0), .int .i64 (quoK h 6 1), .int .i64 (quoK h 6 2), .int .i64 (quoK h 6 3), .int .i64 (quoK h 6 4), .int .i64 (quoK h 6 5)] : Array Value) = #[.int .i64 (quo h 0), .int .i64 (quo h 1), .int .i64 (quo h 2), .int .i64 (quo h 3), .int .i64 (quo h 4), .int .i64 (quo h 5)] := by simp [quoK]
/-- What SamplesOf answers. -/
def smpA (h : Nat → T3) : (Nat → Int) × Int := if okH h = false then (fun _ => 0, 2) else if allF h = false then (fun _ => 0, 3) else if ok6 (quo h) = false then (fun _ => 0, 2) else (quo h, 0)
theorem okH_bad {h : Nat → T3} {k : Nat} (hk : k < 6) (he : okh (h k) = false) : okH h = false := by
  unfold okH
  rcases six_cases hk with rfl | rfl | rfl | rfl | rfl | rfl <;> simp [he]
theorem okH_all {h : Nat → T3} (hp : ∀ j, j < 6 → okh (h j) = true) : okH h = true := by
  unfold okH
  rw [hp 0 (by omega), hp 1 (by omega), hp 2 (by omega), hp 3 (by omega), hp 4 (by omega), hp 5 (by omega)]; rfl
theorem allF_bad {h : Nat → T3} {k : Nat} (hk : k < 6) (he : frm (backV h k) = false) : allF h = false := by
  unfold allF
  rcases six_cases hk with rfl | rfl | rfl | rfl | rfl | rfl <;> simp [he]
theorem allF_all {h : Nat → T3} (hp : ∀ j, j < 6 → frm (backV h j) = true) : allF h = true := by
  unfold allF
  rw [hp 0 (by omega), hp 1 (by omega), hp 2 (by omega), hp 3 (by omega), hp 4 (by omega), hp 5 (by omega)]; rfl
theorem okh_in {h : Nat → T3} (hp : ∀ j, j < 6 → okh (h j) = true) (hz : ∀ i, 6 ≤ i → h i = T3.zero) (i : Nat) : (h i).In 2000000 := by
  by_cases hi : i < 6
  · have := hp i hi
    simp only [okh, Bool.and_eq_true, inB_iff] at this
    exact ⟨by omega, by omega, by omega, by omega, by omega, by omega⟩
  · rw [hz i (by omega)]
    exact ⟨by simp [T3.zero], by simp [T3.zero], by simp [T3.zero], by simp [T3.zero], by simp [T3.zero], by simp [T3.zero]⟩
def SmpPost (w : World) (h : Nat → T3) (e : Ending) (w' : World) : Prop := e = .returned (.tuple #[.agg #[.int .i64 ((smpA h).1 0), .int .i64 ((smpA h).1 1), .int .i64 ((smpA h).1 2), .int .i64 ((smpA h).1 3), .int .i64 ((smpA h).1 4), .int .i64 ((smpA h).1 5)], .int .i64 (smpA h).2]) ∧ Below w.heap.size w w'
theorem tdiv_in {a : Int} (h : -12000000 ≤ a ∧ a ≤ 12000000) : -12000000 ≤ a.tdiv 6 ∧ a.tdiv 6 ≤ 12000000 := by
  rcases Int.le_total 0 a with g | g
  · rw [Int.tdiv_eq_ediv_of_nonneg g]; omega
  · have e : a.tdiv 6 = -((-a).tdiv 6) := by rw [Int.neg_tdiv, Int.neg_neg]
    rw [e, Int.tdiv_eq_ediv_of_nonneg (by omega)]; omega

set_option maxHeartbeats 8000000 in
set_option maxRecDepth 100000 in
theorem SamplesOf_any (h : Nat → T3) (hz : ∀ i, 6 ≤ i → h i = T3.zero) (w : World) : Calls Tryd.prog 12 #[.agg #[.int .i64 (h 0).a, .int .i64 (h 0).b, .int .i64 (h 1).a, .int .i64 (h 1).b, .int .i64 (h 2).a, .int .i64 (h 2).b, .int .i64 (h 3).a, .int .i64 (h 3).b, .int .i64 (h 4).a, .int .i64 (h 4).b, .int .i64 (h 5).a, .int .i64 (h 5).b]] w (SmpPost w h) := by
  have HZ := Lib.hid hz
  have F0 := Lib.hid (Fr.b2 w 25 #[.int .i64 (h 0).a, .int .i64 (h 0).b, .int .i64 (h 1).a, .int .i64 (h 1).b, .int .i64 (h 2).a, .int .i64 (h 2).b, .int .i64 (h 3).a, .int .i64 (h 3).b, .int .i64 (h 4).a, .int .i64 (h 4).b, .int .i64 (h 5).a, .int .i64 (h 5).b] 22 #[.int .i64 0, .int .i64 0, .int .i64 0, .int .i64 0, .int .i64 0, .int .i64 0])
  clear hz
  go_enter Tryd.func12, Tryd.ntmps12
  go_wp2_with fail
  go_loopw [12] (fun i wr => ∃ k : Nat, k ≤ 6 ∧ i = .int .i64 k ∧ (∀ j, j < k → okh (h j) = true) ∧ Fr w wr [(w.heap.size + 1, 22, #[.int .i64 0, .int .i64 0, .int .i64 0, .int .i64 0, .int .i64 0, .int .i64 0]), (w.heap.size, 25, #[.int .i64 (h 0).a, .int .i64 (h 0).b, .int .i64 (h 1).a, .int .i64 (h 1).b, .int .i64 (h 2).a, .int .i64 (h 2).b, .int .i64 (h 3).a, .int .i64 (h 3).b, .int .i64 (h 4).a, .int .i64 (h 4).b, .int .i64 (h 5).a, .int .i64 (h 5).b])]) (fun i _ => 6 - (intOf i).toNat)
  case atStart => exact ⟨0, by omega, rfl, fun j hj => by omega, F0.out⟩
  case round =>
    obtain ⟨k, hk, rfl, hp, hfr⟩ := hrel
    have FK := Lib.hid hfr
    have HP := Lib.hid hp
    clear hfr hp F0
    by_cases hlt : k < 6
    · have hlt' : (k : Int) < 6 := by omega
      have i0 := idxT h hlt
      have L1 := Lib.hid (Lies.bk2 (Bk.new1 wr (.cells #[.int .i64 (h k).a, .int .i64 (h k).b] 24) 3 #[.int .i64 (h k).a, .int .i64 (h k).b]))
      have F1 := Lib.hid ((FK.out.new (.cells #[.int .i64 (h k).a, .int .i64 (h k).b] 24)).new (.cells #[.int .i64 (h k).a, .int .i64 (h k).b] 3))
      clear FK
      go_wp2_with fail
      refine (checkSizes_any 600000 (by omega) [(h k).a, (h k).b] _ _ (by simp [maxLen]) _ L1.out).mono ?_
      rintro e w1 ⟨rfl, hw1⟩
      rw [szh]
      have F2 : Hid (Fr w w1 [(w.heap.size + 1, 22, #[.int .i64 0, .int .i64 0, .int .i64 0, .int .i64 0, .int .i64 0, .int .i64 0]), (w.heap.size, 25, #[.int .i64 (h 0).a, .int .i64 (h 0).b, .int .i64 (h 1).a, .int .i64 (h 1).b, .int .i64 (h 2).a, .int .i64 (h 2).b, .int .i64 (h 3).a, .int .i64 (h 3).b, .int .i64 (h 4).a, .int .i64 (h 4).b, .int .i64 (h 5).a, .int .i64 (h 5).b])]) := Lib.hid (by rw [← hw1]; exact F1.out)
      clear hw1 F1 L1 i0
      cases hb : okh (h k) with
      | false =>
        have HA : Hid (smpA h = (fun _ => 0, 2)) := Lib.hid (by unfold smpA; rw [if_pos (okH_bad hlt hb)])
        clear hb
        simp only [Bool.false_eq_true, if_false]
        have r0 := F2.out.top.cell 0
        have r1 := F2.out.top.cell 1
        have r2 := F2.out.top.cell 2
        have r3 := F2.out.top.cell 3
        have r4 := F2.out.top.cell 4
        have r5 := F2.out.top.cell 5
        have g0 := F2.out.top.frozen 0
        have g1 := F2.out.top.frozen 1
        have g2 := F2.out.top.frozen 2
        have g3 := F2.out.top.frozen 3
        have g4 := F2.out.top.frozen 4
        have g5 := F2.out.top.frozen 5
        go_wp2_with fail
        refine wpQ_abs (Q := bodyPost _ _ _) ?_
        intro W' hW'
        have B2 : Bk W' (w.heap.size + 1) 22 #[.int .i64 0, .int .i64 0, .int .i64 0, .int .i64 0, .int .i64 0, .int .i64 0] := by rw [← hW']; exact Bk.put6 F2.out.top
        have BL := Lib.hid (show Below w.heap.size w W' by rw [← hW']; exact ((((((F2.out.bl.setCell (by simp) _).setCell (by simp) _).setCell (by simp) _).setCell (by simp) _).setCell (by simp) _).setCell (by simp) _))
        clear hW'
        have q0 := B2.cell 0
        have q1 := B2.cell 1
        have q2 := B2.cell 2
        have q3 := B2.cell 3
        have q4 := B2.cell 4
        have q5 := B2.cell 5
        refine bodyPost_ret (v := .tuple #[.agg #[.int .i64 0, .int .i64 0, .int .i64 0, .int .i64 0, .int .i64 0, .int .i64 0], .int .i64 2]) (by simp [results, Tryd.results12, go_sem, q0, q1, q2, q3, q4, q5]) rfl ⟨?_, BL.out⟩
        rw [HA.out]
      | true =>
        have HB := Lib.hid hb
        clear hb
        simp only [if_true]
        go_wp2_with fail
        go_roundw
        case rel => exact ⟨k + 1, by omega, by go_num, fun j hj => by
          by_cases e : j = k
          · rw [e]; exact HB.out
          · exact HP.out j (by omega), F2.out⟩
        case measure => simp [intOf]; omega
    · obtain rfl : k = 6 := by omega
      have HT := Lib.hid (turnedSums_any h 1 (.inl rfl) (okh_in HP.out HZ.out))
      have HOK := Lib.hid (okH_all HP.out)
      have HIN := Lib.hid (okh_in HP.out HZ.out)
      have v0 := FK.out.at1.cell 0
      have v1 := FK.out.at1.cell 1
      have v2 := FK.out.at1.cell 2
      have v3 := FK.out.at1.cell 3
      have v4 := FK.out.at1.cell 4
      have v5 := FK.out.at1.cell 5
      have v6 := FK.out.at1.cell 6
      have v7 := FK.out.at1.cell 7
      have v8 := FK.out.at1.cell 8
      have v9 := FK.out.at1.cell 9
      have v10 := FK.out.at1.cell 10
      have v11 := FK.out.at1.cell 11
      obtain ⟨w0, rfl⟩ : ∃ W, W = wr := ⟨_, rfl⟩
      have F1 : Hid (Fr w _ [(w0.heap.size, 22, #[.int .i64 (quoK h 0 0), .int .i64 (quoK h 0 1), .int .i64 (quoK h 0 2), .int .i64 (quoK h 0 3), .int .i64 (quoK h 0 4), .int .i64 (quoK h 0 5)]), (w.heap.size + 1, 22, #[.int .i64 0, .int .i64 0, .int .i64 0, .int .i64 0, .int .i64 0, .int .i64 0]), (w.heap.size, 25, #[.int .i64 (h 0).a, .int .i64 (h 0).b, .int .i64 (h 1).a, .int .i64 (h 1).b, .int .i64 (h 2).a, .int .i64 (h 2).b, .int .i64 (h 3).a, .int .i64 (h 3).b, .int .i64 (h 4).a, .int .i64 (h 4).b, .int .i64 (h 5).a, .int .i64 (h 5).b])]) := Lib.hid (by rw [quo_zero]; exact FK.out.box 22 #[.int .i64 0, .int .i64 0, .int .i64 0, .int .i64 0, .int .i64 0, .int .i64 0])
      have zz := FK.out.top.lt
      have zs := FK.out.size
      have zz1 := FK.out.at1.lt
      go_wp2_with fail
      refine (HT.out _).mono ?_
      rintro e w1 ⟨rfl, hb1⟩
      have F2 := Lib.hid (F1.out.call hb1)
      clear hb1 FK F1 v0 v1 v2 v3 v4 v5 v6 v7 v8 v9 v10 v11
      go_wp2_with fail
      go_loopw [28] (fun i wr => ∃ k : Nat, k ≤ 6 ∧ i = .int .i64 k ∧ (∀ j, j < k → frm (backV h j) = true) ∧ Fr w wr [(w0.heap.size, 22, #[.int .i64 (quoK h k 0), .int .i64 (quoK h k 1), .int .i64 (quoK h k 2), .int .i64 (quoK h k 3), .int .i64 (quoK h k 4), .int .i64 (quoK h k 5)]), (w.heap.size + 1, 22, #[.int .i64 0, .int .i64 0, .int .i64 0, .int .i64 0, .int .i64 0, .int .i64 0]), (w.heap.size, 25, #[.int .i64 (h 0).a, .int .i64 (h 0).b, .int .i64 (h 1).a, .int .i64 (h 1).b, .int .i64 (h 2).a, .int .i64 (h 2).b, .int .i64 (h 3).a, .int .i64 (h 3).b, .int .i64 (h 4).a, .int .i64 (h 4).b, .int .i64 (h 5).a, .int .i64 (h 5).b])]) (fun i _ => 6 - (intOf i).toNat)
      case atStart => exact ⟨0, by omega, rfl, fun j hj => by omega, F2.out⟩
      case round =>
        obtain ⟨k, hk, rfl, hp, hfr⟩ := hrel
        have FN := Lib.hid hfr
        have HQ := Lib.hid hp
        clear hfr hp F2
        by_cases hnt : k < 6
        · have hnt' : (k : Int) < 6 := by omega
          have i0 := idxT (sumsV h 1 6 0) hnt
          have hsb : sumsV h 1 6 0 k = backV h k := sums_all _ _ _ hnt
          rw [hsb] at i0
          have hbd := (tsum_bd (way := 1) HIN.out k 6 (by omega)).bd
          have HBD := Lib.hid (show (backV h k).Bd 12000000 from hbd)
          obtain ⟨r, hr⟩ : ∃ r, (backV h k).a.tmod 6 = r := ⟨_, rfl⟩
          obtain ⟨qq, hqq⟩ : ∃ r, (backV h k).a.tdiv 6 = r := ⟨_, rfl⟩
          have HQQ : Hid (quo h k = qq) := Lib.hid hqq
          have HFR : Hid (frm (backV h k) = (decide (r = 0) && decide ((backV h k).b = 0))) := Lib.hid (by unfold frm; rw [hr])
          have hqi := tdiv_in ⟨HBD.out.a0, HBD.out.a1⟩
          rw [hqq] at hqi
          clear hsb hbd
          obtain ⟨vb, hvb⟩ : ∃ r, (backV h k).b = r := ⟨_, rfl⟩
          obtain ⟨va, hva⟩ : ∃ r, (backV h k).a = r := ⟨_, rfl⟩
          rw [hva] at hr hqq i0
          rw [hvb] at HFR i0
          have HR := Lib.hid hr
          have HQT := Lib.hid hqq
          have hvin : -12000000 ≤ va ∧ va ≤ 12000000 := by rw [← hva]; exact ⟨HBD.out.a0, HBD.out.a1⟩
          clear hr hqq hva hvb HBD
          have zn := FN.out.top.lt
          have FB := Lib.hid ((FN.out.box 24 #[.int .i64 va, .int .i64 vb]).swap)
          clear FN
          go_upto_region 12 with fail
          clear i0
          refine wp_abs ?_
          intro w2 hw2
          have F3 : Hid (Fr w w2 ((w0.heap.size, 22, #[.int .i64 (quoK h k 0), .int .i64 (quoK h k 1), .int .i64 (quoK h k 2), .int .i64 (quoK h k 3), .int .i64 (quoK h k 4), .int .i64 (quoK h k 5)]) :: (wr.heap.size, 24, #[.int .i64 va, .int .i64 vb]) :: [(w.heap.size + 1, 22, #[.int .i64 0, .int .i64 0, .int .i64 0, .int .i64 0, .int .i64 0, .int .i64 0]), (w.heap.size, 25, #[.int .i64 (h 0).a, .int .i64 (h 0).b, .int .i64 (h 1).a, .int .i64 (h 1).b, .int .i64 (h 2).a, .int .i64 (h 2).b, .int .i64 (h 3).a, .int .i64 (h 3).b, .int .i64 (h 4).a, .int .i64 (h 4).b, .int .i64 (h 5).a, .int .i64 (h 5).b])])) := Lib.hid (by rw [← hw2]; exact FB.out)
          clear hw2 FB
          have hr := HR.out
          have hqq := HQT.out
          obtain ⟨u0, u1, _, _⟩ := F3.out.at1.two
          have F4 := Lib.hid (F3.out.tail.tail)
          by_cases hr0 : r = 0
          · by_cases hb0 : vb = 0
            · have HFT := Lib.hid (show frm (backV h k) = true by rw [HFR.out]; simp [hr0, hb0])
              have e1 : (r != 0) = false := by simp [hr0]
              have e2 : (vb != 0) = false := by simp [hb0]
              have xk := (F3.out.top.cell k).trans (ic_get _ hnt)
              have gk := F3.out.top.frozen k
              have z7 := F3.out.at1.lt
              clear hr0 hb0
              go_wp2_with fail
              clear hr hqq e1 e2
              go_roundw
              case rel => exact ⟨k + 1, by omega, by go_num, fun j hj => by
                by_cases e : j = k
                · rw [e]; exact HFT.out
                · exact HQ.out j (by omega), by
                have h1 := F3.out.putI hnt qq (by omega) (by simp; omega)
                rw [← HQQ.out, quo_next] at h1
                rw [← HQQ.out]
                exact h1.swap.tail⟩
              case measure => simp [intOf]; omega
            · have HA : Hid (smpA h = (fun _ => 0, 3)) := Lib.hid (by unfold smpA; rw [if_neg (by rw [HOK.out]; simp), if_pos (allF_bad hnt (by rw [HFR.out]; simp [hb0]))])
              have e1 : (r != 0) = false := by simp [hr0]
              have e2 : (vb != 0) = true := by simp [hb0]
              clear hr0 hb0
              have r0 := F4.out.top.cell 0
              have r1 := F4.out.top.cell 1
              have r2 := F4.out.top.cell 2
              have r3 := F4.out.top.cell 3
              have r4 := F4.out.top.cell 4
              have r5 := F4.out.top.cell 5
              have g0 := F4.out.top.frozen 0
              have g1 := F4.out.top.frozen 1
              have g2 := F4.out.top.frozen 2
              have g3 := F4.out.top.frozen 3
              have g4 := F4.out.top.frozen 4
              have g5 := F4.out.top.frozen 5
              go_wp2_with fail
              refine wpQ_abs (Q := bodyPost _ _ _) ?_
              intro W' hW'
              have B2 : Bk W' (w.heap.size + 1) 22 #[.int .i64 0, .int .i64 0, .int .i64 0, .int .i64 0, .int .i64 0, .int .i64 0] := by rw [← hW']; exact Bk.put6 F4.out.top
              have BL := Lib.hid (show Below w.heap.size w W' by rw [← hW']; exact ((((((F4.out.bl.setCell (by simp) _).setCell (by simp) _).setCell (by simp) _).setCell (by simp) _).setCell (by simp) _).setCell (by simp) _))
              clear hW'
              have q0 := B2.cell 0
              have q1 := B2.cell 1
              have q2 := B2.cell 2
              have q3 := B2.cell 3
              have q4 := B2.cell 4
              have q5 := B2.cell 5
              refine bodyPost_ret (v := .tuple #[.agg #[.int .i64 0, .int .i64 0, .int .i64 0, .int .i64 0, .int .i64 0, .int .i64 0], .int .i64 3]) (by simp [results, Tryd.results12, go_sem, q0, q1, q2, q3, q4, q5]) rfl ⟨?_, BL.out⟩
              rw [HA.out]
          · have HA : Hid (smpA h = (fun _ => 0, 3)) := Lib.hid (by unfold smpA; rw [if_neg (by rw [HOK.out]; simp), if_pos (allF_bad hnt (by rw [HFR.out]; simp [hr0]))])
            have e1 : (r != 0) = true := by simp [hr0]
            clear hr0
            have r0 := F4.out.top.cell 0
            have r1 := F4.out.top.cell 1
            have r2 := F4.out.top.cell 2
            have r3 := F4.out.top.cell 3
            have r4 := F4.out.top.cell 4
            have r5 := F4.out.top.cell 5
            have g0 := F4.out.top.frozen 0
            have g1 := F4.out.top.frozen 1
            have g2 := F4.out.top.frozen 2
            have g3 := F4.out.top.frozen 3
            have g4 := F4.out.top.frozen 4
            have g5 := F4.out.top.frozen 5
            go_wp2_with fail
            refine wpQ_abs (Q := bodyPost _ _ _) ?_
            intro W' hW'
            have B2 : Bk W' (w.heap.size + 1) 22 #[.int .i64 0, .int .i64 0, .int .i64 0, .int .i64 0, .int .i64 0, .int .i64 0] := by rw [← hW']; exact Bk.put6 F4.out.top
            have BL := Lib.hid (show Below w.heap.size w W' by rw [← hW']; exact ((((((F4.out.bl.setCell (by simp) _).setCell (by simp) _).setCell (by simp) _).setCell (by simp) _).setCell (by simp) _).setCell (by simp) _))
            clear hW'
            have q0 := B2.cell 0
            have q1 := B2.cell 1
            have q2 := B2.cell 2
            have q3 := B2.cell 3
            have q4 := B2.cell 4
            have q5 := B2.cell 5
            refine bodyPost_ret (v := .tuple #[.agg #[.int .i64 0, .int .i64 0, .int .i64 0, .int .i64 0, .int .i64 0, .int .i64 0], .int .i64 3]) (by simp [results, Tryd.results12, go_sem, q0, q1, q2, q3, q4, q5]) rfl ⟨?_, BL.out⟩
            rw [HA.out]
        · obtain rfl : k = 6 := by omega
          have HAF := Lib.hid (allF_all HQ.out)
          have hq := FN.out
          rw [quo_all] at hq
          have F3 := Lib.hid hq
          clear hq FN
          have L1 := Lib.hid (Lies.bk6' F3.out.top)
          go_wp2_with fail
          refine (checkSizes_any 100000 (by omega) [quo h 0, quo h 1, quo h 2, quo h 3, quo h 4, quo h 5] _ _ (by simp [maxLen]) _ L1.out).mono ?_
          rintro e w' ⟨rfl, rfl⟩
          rw [sz6]
          cases hb : ok6 (quo h) with
          | false =>
            have HA : Hid (smpA h = (fun _ => 0, 2)) := Lib.hid (by unfold smpA; rw [if_neg (by rw [HOK.out]; simp), if_neg (by rw [HAF.out]; simp), if_pos hb])
            clear hb
            simp only [Bool.false_eq_true, if_false]
            have r0 := F3.out.at1.cell 0
            have r1 := F3.out.at1.cell 1
            have r2 := F3.out.at1.cell 2
            have r3 := F3.out.at1.cell 3
            have r4 := F3.out.at1.cell 4
            have r5 := F3.out.at1.cell 5
            have g0 := F3.out.at1.frozen 0
            have g1 := F3.out.at1.frozen 1
            have g2 := F3.out.at1.frozen 2
            have g3 := F3.out.at1.frozen 3
            have g4 := F3.out.at1.frozen 4
            have g5 := F3.out.at1.frozen 5
            go_wp2_with fail
            refine wpQ_abs (Q := bodyPost _ _ _) ?_
            intro W' hW'
            have B2 : Bk W' (w.heap.size + 1) 22 #[.int .i64 0, .int .i64 0, .int .i64 0, .int .i64 0, .int .i64 0, .int .i64 0] := by rw [← hW']; exact Bk.put6 F3.out.at1
            have BL := Lib.hid (show Below w.heap.size w W' by rw [← hW']; exact ((((((F3.out.bl.setCell (by simp) _).setCell (by simp) _).setCell (by simp) _).setCell (by simp) _).setCell (by simp) _).setCell (by simp) _))
            clear hW'
            have q0 := B2.cell 0
            have q1 := B2.cell 1
            have q2 := B2.cell 2
            have q3 := B2.cell 3
            have q4 := B2.cell 4
            have q5 := B2.cell 5
            refine bodyPost_ret (v := .tuple #[.agg #[.int .i64 0, .int .i64 0, .int .i64 0, .int .i64 0, .int .i64 0, .int .i64 0], .int .i64 2]) (by simp [results, Tryd.results12, go_sem, q0, q1, q2, q3, q4, q5]) rfl ⟨?_, BL.out⟩
            rw [HA.out]
          | true =>
            have HA : Hid (smpA h = (quo h, 0)) := Lib.hid (by unfold smpA; rw [if_neg (by rw [HOK.out]; simp), if_neg (by rw [HAF.out]; simp), if_neg (by rw [hb]; simp)])
            clear hb
            simp only [if_true]
            have v0 := F3.out.top.cell 0
            have v1 := F3.out.top.cell 1
            have v2 := F3.out.top.cell 2
            have v3 := F3.out.top.cell 3
            have v4 := F3.out.top.cell 4
            have v5 := F3.out.top.cell 5
            have r0 := F3.out.at1.cell 0
            have r1 := F3.out.at1.cell 1
            have r2 := F3.out.at1.cell 2
            have r3 := F3.out.at1.cell 3
            have r4 := F3.out.at1.cell 4
            have r5 := F3.out.at1.cell 5
            have g0 := F3.out.at1.frozen 0
            have g1 := F3.out.at1.frozen 1
            have g2 := F3.out.at1.frozen 2
            have g3 := F3.out.at1.frozen 3
            have g4 := F3.out.at1.frozen 4
            have g5 := F3.out.at1.frozen 5
            go_wp2_with fail
            refine wpQ_abs (Q := bodyPost _ _ _) ?_
            intro W' hW'
            have B2 : Bk W' (w.heap.size + 1) 22 #[.int .i64 (quo h 0), .int .i64 (quo h 1), .int .i64 (quo h 2), .int .i64 (quo h 3), .int .i64 (quo h 4), .int .i64 (quo h 5)] := by rw [← hW']; exact Bk.put6 F3.out.at1
            have BL := Lib.hid (show Below w.heap.size w W' by rw [← hW']; exact ((((((F3.out.bl.setCell (by simp) _).setCell (by simp) _).setCell (by simp) _).setCell (by simp) _).setCell (by simp) _).setCell (by simp) _))
            clear hW'
            have q0 := B2.cell 0
            have q1 := B2.cell 1
            have q2 := B2.cell 2
            have q3 := B2.cell 3
            have q4 := B2.cell 4
            have q5 := B2.cell 5
            refine bodyPost_ret (v := .tuple #[.agg #[.int .i64 (quo h 0), .int .i64 (quo h 1), .int .i64 (quo h 2), .int .i64 (quo h 3), .int .i64 (quo h 4), .int .i64 (quo h 5)], .int .i64 0]) (by simp [results, Tryd.results12, go_sem, q0, q1, q2, q3, q4, q5]) rfl ⟨?_, BL.out⟩
            rw [HA.out]
end Go.Proofs.YtohldmmfnjfgmaaDoor
