
/-
  The walk of the reference's RunTo.
-/
import Derived.Test.YtmjooiocgeoaiaaBRef
namespace Go.Proofs.Ytmjooiocgeoaiaa
open Go.RowKit

set_option maxHeartbeats 8000000 in
set_option maxRecDepth 100000 in
theorem refRunTo_any (s : ByteArray) (ps : List Bp) (a : Addr) (c : Nat) (b : Bs) (hb : OkS b) (h0 : ps.length ≠ 0) (h12 : ps.length ≤ 12) (hx : ∀ p ∈ ps, okP p = true) (stop p : Nat) (hst : stop < ps.length) (hp : p ≤ stop) (sq : Int) (hq : 0 ≤ sq ∧ sq ≤ 20000000000) (w : World) (hA : Lies w w.heap.size (some a) (ps.flatMap pc)) :
    Calls Try.prog 78 #[.agg #[.string s, .slice (some a) ps.length c], .agg #[.int .i64 b.brk, .int .i64 b.drag, .int .i64 b.drv], .agg #[.int .i64 (p : Int), .int .i64 sq], .int .i64 stop] w (RowE w (listF (stop - p + 1) (runV ps b stop p sq)) (runE ps b stop p sq)) := by
  have F0 := Lib.hid (Fr.b3 w 24 #[.string s, .slice (some a) ps.length c] 26 #[.int .i64 b.brk, .int .i64 b.drag, .int .i64 b.drv] 28 #[.int .i64 (p : Int), .int .i64 sq])
  have HA := Lib.hid hA
  have HX := Lib.hid hx
  have HB := Lib.hid hb
  have HQ := Lib.hid hq
  obtain ⟨i1, hi, hz0, hz1, hz2⟩ := info_parts info_int
  have hl : (ps.length : Int) ≤ 12 := by omega
  have hst' : (stop : Int) < (ps.length : Int) := by omega
  have hp' : (p : Int) < (stop : Int) + 2 := by omega
  have hzb := crvV_bound hx b.brk stop p
  obtain ⟨q0, q1⟩ := hq
  obtain ⟨zp, hzp⟩ : ∃ zp, crvV ps b.brk stop p = zp := ⟨_, rfl⟩
  have HZP := Lib.hid hzp
  rw [hzp] at hzb
  obtain ⟨zb0, zb1⟩ := hzb
  clear hA hx hb hzp
  go_enter Try.func78, Try.ntmps78
  go_wp2_with fail
  refine (refCurveOf_any s ps a c b HB.out h0 h12 HX.out stop hst _ (Fr.lies HA.out F0.out)).mono ?_
  rintro e w1 ⟨g1, rfl, n1, hg1, hb1⟩
  have F1 := Lib.hid ((F0.out.call hb1).more n1)
  have z1 := Lib.hid n1.lt
  have HG1 : Hid (w.heap.size + 1 + 1 < g1) := Lib.hid (by simp at hg1; omega)
  clear hb1 F0 hg1 n1
  have y0 := F1.out.at1.cell 0
  have y1 := F1.out.at1.cell 1
  have n0 := F1.out.top.rowF_at (k := p) (by omega)
  rw [HZP.out] at n0
  go_upto_region 2 with fail
  go_cut [25] from 18 to 25 (fun r W => r = .bool (decide (zp < sq)) ∧ Fr w W [(g1, 3, rowF (stop + 2) (crvV ps b.brk stop)), (w.heap.size + 1 + 1, 28, #[.int .i64 (p : Int), .int .i64 sq]), (w.heap.size + 1, 26, #[.int .i64 b.brk, .int .i64 b.drag, .int .i64 b.drv]), (w.heap.size, 24, #[.string s, .slice (some a) ps.length c])])
  case first =>
    go_quiet (fail)
    go_wp2_with fail
    go_meet
    exact ⟨rfl, F1.out.call (below_drewN (Below.refl _ _) _)⟩
  case rest =>
  obtain ⟨w3, rfl⟩ : ∃ W, W = wc := ⟨_, rfl⟩
  obtain ⟨rfl, hx⟩ := hcut
  have F3 := Lib.hid hx
  clear hx z1 F1 y0 y1 n0
  have z1 := Lib.hid F3.out.top.lt
  have y0 := F3.out.at1.cell 0
  have y1 := F3.out.at1.cell 1
  have zz := F3.out.at1.lt
  by_cases hbr : zp < sq
  · have HE : Hid (runE ps b stop p sq = 24) := Lib.hid (runE_break (by rw [HZP.out]; exact Or.inr hbr))
    have hd : decide (zp < sq) = true := decide_eq_true hbr
    rw [hd]
    clear hbr hd
    go_wp2_with fail
    go_ret2
    exact rowBad2 HE.out (by decide) F3.out
  · have HNB : Hid (¬ (crvV ps b.brk stop p = -1 ∨ crvV ps b.brk stop p < sq)) := Lib.hid (by rw [HZP.out]; omega)
    have hd : decide (zp < sq) = false := decide_eq_false hbr
    rw [hd]
    clear hbr hd
    go_wp2_with fail
    go_loopw [11, 12] (fun v i wr => ∃ k : Nat, k ≤ stop - p ∧ i = .int .i64 ((p : Int) + k) ∧ (∀ j, j ≤ k → 0 ≤ runV ps b stop p sq j) ∧ wr.ownsRow (g1 + 1) 3 1 v (k + 1) (ic (listF (k + 1) (runV ps b stop p sq))) ∧ Fr w wr [(g1, 3, rowF (stop + 2) (crvV ps b.brk stop)), (w.heap.size + 1 + 1, 28, #[.int .i64 (p : Int), .int .i64 sq]), (w.heap.size + 1, 26, #[.int .i64 b.brk, .int .i64 b.drag, .int .i64 b.drv]), (w.heap.size, 24, #[.string s, .slice (some a) ps.length c])]) (fun _ i _ => stop - (intOf i).toNat)
    case atStart => exact ⟨0, Nat.zero_le _, by first | rfl | exact cong64 (by omega), (fun j hj => by have e : j = 0 := (by omega); subst e; exact q0), own_first (f := runV ps b stop p sq) rfl (own_one z1.out), F3.out.new _⟩
    case round =>
      obtain ⟨k, hk, rfl, hpos, hown, hf⟩ := hrel
      clear F3 y0 y1 zz
      have HPOS := Lib.hid hpos
      have O1 := Lib.hid hown
      have FK := Lib.hid hf
      have hqb := runV_bound HX.out b HB.out stop p sq HQ.out k (fun j hj => HPOS.out j (by omega))
      have hq0 := HPOS.out k (Nat.le_refl _)
      obtain ⟨gs, rfl, hLg, _, _⟩ := own_slice hown
      have HLG := Lib.hid hLg
      have hz := hf.top.lt
      clear hpos hown hf hLg
      obtain ⟨q, hqq⟩ : ∃ q, runV ps b stop p sq k = q := ⟨_, rfl⟩
      have HQK := Lib.hid hqq
      rw [hqq] at hqb hq0
      clear hqq
      obtain ⟨j, hj⟩ : ∃ j : Nat, j = p + k := ⟨_, rfl⟩
      have HJ := Lib.hid hj
      have hji : (p : Int) + (k : Int) = (j : Int) := by omega
      rw [hji]
      have hks : k ≤ stop - p := hk
      by_cases hlt : j < stop
      · have hlt' : (j : Int) < (stop : Int) := by omega
        have hj1 : (j : Int) + 1 < (stop : Int) + 2 := by omega
        have hj0 : (0 : Int) ≤ (j : Int) + 1 := by omega
        have hwj := IntWalk.i64_in ((j : Int) + 1) (by omega)
        have hk12 : (k : Int) ≤ 12 := by omega
        have hwk := IntWalk.i64_in (k : Int) (by omega)
        have hwk1 := IntWalk.i64_in ((k : Int) + 1 - 1) (by omega)
        have hks2 : (k : Int) < (k : Int) + 1 := by omega
        have hk00 : (0 : Int) ≤ (k : Int) := by omega
        have hZB := crvV_bound HX.out b.brk stop (j + 1)
        have hEB := lossV_bound (gp_ok HX.out j) (d := b.drag) (by have := HB.out.d0; have := HB.out.d1; omega)
        have hjn : j < ps.length := by omega
        have HBR : Hid (∀ W, Lies W W.heap.size (some a) (ps.flatMap pc) → Calls Try.prog 57 #[.agg #[.string s, .slice (some a) ps.length c], .int .i64 j, .int .i64 b.drag] W fun e w' => e = .returned (.int .i64 (lossV (gp ps j) b.drag)) ∧ Below W.heap.size W w') := Lib.hid (fun W hW => loses_any s ps a c h12 HX.out j hjn b.drag (by have := HB.out.d0; have := HB.out.d1; omega) W hW)
        have HSTEP : Hid (runV ps b stop p sq (k + 1) = min (crvV ps b.brk stop (j + 1)) (q - lossV (gp ps j) b.drag)) := Lib.hid (by rw [runV, HQK.out, HJ.out])
        obtain ⟨al, hal, _, _⟩ := HLG.out.num (listF_at (n := k + 1) (f := runV ps b stop p sq) (k := k) (by omega))
        obtain ⟨z, hz3⟩ : ∃ z, crvV ps b.brk stop (j + 1) = z := ⟨_, rfl⟩
        obtain ⟨l, hl2⟩ : ∃ l, lossV (gp ps j) b.drag = l := ⟨_, rfl⟩
        rw [hz3, hl2] at HSTEP
        obtain ⟨m, hm⟩ : ∃ m, min z (q - l) = m := ⟨_, rfl⟩
        rw [hm] at HSTEP
        have HZ := Lib.hid hz3
        have HM : Hid ((q - l < z → m = q - l) ∧ (z ≤ q - l → m = z)) := Lib.hid ⟨fun h => by omega, fun h => by omega⟩
        rw [hz3] at hZB
        rw [hl2] at hEB HBR
        have hwz := IntWalk.i64_in (q - l) (by omega)
        obtain ⟨zb2, zb3⟩ := hZB
        obtain ⟨eb0, eb1⟩ := hEB
        obtain ⟨qb0, qb1⟩ := hqb
        obtain ⟨A4, c4⟩ := gs
        simp only at hal
        subst hal
        clear hz3 hl2 hm hj hji
        go_upto_region 8 with fail
        go_cut [13] from 36 to 53 (fun r W => r = .int .i64 m ∧ Fr wr W [])
        case first =>
          have HA8 : Hid (Lies wr wr.heap.size (some a) (ps.flatMap pc)) := Lib.hid (Fr.lies HA.out FK.out)
          have HALL : Hid (∀ W, Fr wr W [] → Fr wr W [] ∧ W.cell? ⟨w.heap.size, 0, none⟩ = some (.string s) ∧ W.cell? ⟨w.heap.size, 1, none⟩ = some (.slice (some a) ps.length c) ∧ W.cell? ⟨w.heap.size + 1, 0, none⟩ = some (.int .i64 b.brk) ∧ W.cell? ⟨w.heap.size + 1, 1, none⟩ = some (.int .i64 b.drag) ∧ W.cell? ⟨w.heap.size + 1, 2, none⟩ = some (.int .i64 b.drv) ∧ W.cell? ⟨g1, j + 1, none⟩ = some (.int .i64 z) ∧ W.cell? (al.add k) = some (.int .i64 q)) := Lib.hid (fun W hW => ⟨hW, ((FK.out.get 3 rfl).call hW.bl).cell 0, ((FK.out.get 3 rfl).call hW.bl).cell 1, ((FK.out.get 2 rfl).call hW.bl).cell 0, ((FK.out.get 2 rfl).call hW.bl).cell 1, ((FK.out.get 2 rfl).call hW.bl).cell 2, by rw [(FK.out.top.call hW.bl).rowF_at (by omega), HZ.out], by obtain ⟨a5, e5, _, y5⟩ := (HLG.out.below hW.bl).num (listF_at (n := k + 1) (f := runV ps b stop p sq) (k := k) (by omega)); cases e5; rw [← HQK.out]; exact y5⟩)
          have F10 : Fr wr wr [] := Fr.nil wr
          go_region_held3 (fun W => Fr wr W [] ∧ W.cell? ⟨w.heap.size, 0, none⟩ = some (.string s) ∧ W.cell? ⟨w.heap.size, 1, none⟩ = some (.slice (some a) ps.length c) ∧ W.cell? ⟨w.heap.size + 1, 0, none⟩ = some (.int .i64 b.brk) ∧ W.cell? ⟨w.heap.size + 1, 1, none⟩ = some (.int .i64 b.drag) ∧ W.cell? ⟨w.heap.size + 1, 2, none⟩ = some (.int .i64 b.drv) ∧ W.cell? ⟨g1, j + 1, none⟩ = some (.int .i64 z) ∧ W.cell? (al.add k) = some (.int .i64 q))
            ((go_split_ands; refine HALL.out _ ?_; (first | assumption | (repeat (first | assumption | refine Fr.new ?_ _ | refine Fr.drew ?_ | (refine Fr.set ?_ (by first | exact Nat.le_refl _ | omega | (simp; done) | (simp; omega)) (by first | (simp; done) | (simp; omega)) _))); done)))
            ((first
              | (go_at_call 57; go_split_ands; (with_reducible refine (HBR.out _ (Fr.lies HA8.out (by assumption))).mono ?_); rintro e w7 ⟨rfl, hb7⟩; have F4 := Fr.call (by assumption) hb7; clear hb7)
              | fail "arm"))
          all_goals
            go_split_ands
            go_wp2_with fail
            all_goals
              go_meet
              exact ⟨cong64 (by have h1 := HM.out; first | omega | (simp at h1; omega)), by assumption⟩
        case rest =>
          obtain ⟨wx, rfl⟩ : ∃ W, W = wc := ⟨_, rfl⟩
          obtain ⟨rfl, hx8⟩ := hcut
          have FC := Lib.hid (FK.out.call hx8.bl)
          have O2 := Lib.hid (own_below O1.out hx8.bl)
          clear O1 FK hx8 HLG
          have hjp : (j : Int) + 1 = (p : Int) + ((k + 1 : Nat) : Int) := by have := HJ.out; omega
          by_cases hm0 : m < 0
          · have HE : Hid (runE ps b stop p sq = 12) := Lib.hid (runE_none HNB.out (k + 1) (by have := HJ.out; omega) (by rw [HSTEP.out]; exact hm0))
            clear hjp
            go_wp2_with fail
            go_ret2
            exact rowBad2 HE.out (by decide) FC.out
          · have hk1 : k + 1 ≤ stop - p := by have := HJ.out; omega
            have HP2 : Hid (∀ i, i ≤ k + 1 → 0 ≤ runV ps b stop p sq i) := Lib.hid (fun i hi => by
              by_cases e : i = k + 1
              · subst e; rw [HSTEP.out]; omega
              · exact HPOS.out i (by omega))
            have HJP := Lib.hid hjp
            clear hjp
            go_wp2_with (at_builtin; refine wpList_append_own _ rfl _ _ 31 rfl (g1 + 1) 3 i1 (.int .i64 0) 1 8 Try.underlying31 hi hz0 hz1 hz2 rfl (by decide) _ _ _ rfl (own_below O2.out ((Below.refl _ _).alloc (Nat.le_refl _) _)) _ _ _ [.int .i64 _] rfl rfl (Bk.new _ _ _).adds (fun u hu => by simp at hu; subst hu; rfl) (by unfold maxLen; omega) (by omega) (by have h5 := FC.out.top.lt; simp; omega) ?_)
            all_goals
              intro v' w7 o7 g7 _
              have q7 := Lib.hid (Fr.grown2 (FC.out.new _) g7 (fun q e => (O2.out.lt q e).1) (by have := HG1.out; omega) (by have := HG1.out; intro b hb; simp only [List.mem_cons, List.not_mem_nil, or_false] at hb; rcases hb with rfl | rfl | rfl | rfl <;> (dsimp only; omega)))
              have o8 := Lib.hid (own_snoc o7 HSTEP.out.symm)
              clear o7 g7
              go_wp2_with fail
              go_roundw
              case rel => exact ⟨k + 1, hk1, cong64 HJP.out, HP2.out, o8.out, q7.out⟩
              case measure => simp [intOf] <;> omega
      · obtain rfl : k = stop - p := by omega
        have hge : ¬ ((j : Int) < (stop : Int)) := by omega
        have HE : Hid (runE ps b stop p sq = 0) := Lib.hid (runE_ok HNB.out HPOS.out)
        clear hj hji
        go_wp2_with fail
        go_ret2
        rw [HE.out]
        exact rowOwn (er := 0) O1.out FK.out
end Go.Proofs.Ytmjooiocgeoaiaa
