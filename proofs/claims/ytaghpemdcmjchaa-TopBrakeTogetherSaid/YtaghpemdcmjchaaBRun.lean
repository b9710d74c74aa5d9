
/-
  The walks of runTo, reaches, RunTo and Reaches of the program.
-/
import Derived.Test.YtaghpemdcmjchaaBApi
namespace Go.Proofs.Ytaghpemdcmjchaa
open Go.RowKit

/-- Is one of the squares of a run below 0? -/
def runNeg (ps : List Bp) (b : Bs) (stop p : Nat) (sq : Int) (n : Nat) : Bool := (List.range (n + 1)).any fun k => decide (runV ps b stop p sq k < 0)
/-- The error of a run. -/
def runE (ps : List Bp) (b : Bs) (stop p : Nat) (sq : Int) : Int := if crvV ps b.brk stop p = -1 ∨ crvV ps b.brk stop p < sq then 24 else if runNeg ps b stop p sq (stop - p) = true then 12 else 0
theorem runE_break {ps : List Bp} {b : Bs} {stop p : Nat} {sq : Int} (h : crvV ps b.brk stop p = -1 ∨ crvV ps b.brk stop p < sq) : runE ps b stop p sq = 24 := by unfold runE; rw [if_pos h]
theorem runE_none {ps : List Bp} {b : Bs} {stop p : Nat} {sq : Int} (h1 : ¬ (crvV ps b.brk stop p = -1 ∨ crvV ps b.brk stop p < sq)) (k : Nat) (hk : k ≤ stop - p) (h : runV ps b stop p sq k < 0) : runE ps b stop p sq = 12 := by
  unfold runE; rw [if_neg h1, if_pos]
  exact List.any_eq_true.2 ⟨k, List.mem_range.2 (by omega), by simpa using h⟩
theorem runE_ok {ps : List Bp} {b : Bs} {stop p : Nat} {sq : Int} (h1 : ¬ (crvV ps b.brk stop p = -1 ∨ crvV ps b.brk stop p < sq)) (h : ∀ k, k ≤ stop - p → 0 ≤ runV ps b stop p sq k) : runE ps b stop p sq = 0 := by
  unfold runE; rw [if_neg h1, if_neg]
  intro ha
  obtain ⟨k, hk, hn⟩ := List.any_eq_true.1 ha
  have := h k (by have := List.mem_range.1 hk; omega)
  simp at hn
  omega
theorem rowBad2 {w0 w : World} {l : List Int} {er e2 : Int} {bs : List (Nat × TypeId × Array Value)} (h : er = e2) (he : e2 ≠ 0) (hf : Fr w0 w bs) : RowE w0 l er (.returned (.tuple #[.slice none 0 0, .int .i64 e2])) w := by subst h; exact rowBad he hf
theorem rowOwn {w0 w : World} {v : Value} {n base er : Nat} {f : Nat → Int} {e : TypeId} {bs : List (Nat × TypeId × Array Value)} (h : w.ownsRow base e 1 v n (ic (listF n f))) (hf : Fr w0 w bs) : RowE w0 (listF n f) 0 (.returned (.tuple #[v, .int .i64 0])) w := by
  obtain ⟨g, rfl, hL, _, _⟩ := own_slice h
  exact ⟨g, by rw [if_pos rfl, listF_len], fun _ => hL, hf.bl⟩
theorem own_firstN {w : World} {b g : Nat} {e : TypeId} {f : Nat → Int} {x : Int} (hx : x = f 0) (h : w.ownsRow b e 1 (.slice (some ⟨g, 0, none⟩) 1 1) 1 [.int .i64 x]) : w.ownsRow b e 1 (.slice (some ⟨g, 0, none⟩) 1 1) (0 + 1) (ic (listF (0 + 1) f)) := own_first hx h
theorem own_drew {W : World} {base n size : Nat} {e : TypeId} {v : Value} {xs : List Value} (h : W.ownsRow base e size v n xs) : W.drew.ownsRow base e size v n xs := own_below h (Below.refl _ W).drew

set_option maxHeartbeats 8000000 in
set_option maxRecDepth 100000 in
theorem runTo_any (s : ByteArray) (ps : List Bp) (a : Addr) (c : Nat) (b : Bs) (hb : OkS b) (h0 : ps.length ≠ 0) (h12 : ps.length ≤ 12) (hx : ∀ p ∈ ps, okP p = true) (stop p : Nat) (hst : stop < ps.length) (hp : p ≤ stop) (sq : Int) (hq : 0 ≤ sq ∧ sq ≤ 20000000000) (w : World) (hA : Lies w w.heap.size (some a) (ps.flatMap pc)) :
    Calls Try.prog 27 #[.agg #[.string s, .slice (some a) ps.length c, .int .i64 b.brk, .int .i64 b.drag, .int .i64 b.drv], .agg #[.int .i64 (p : Int), .int .i64 sq], .int .i64 stop] w (RowE w (listF (stop - p + 1) (runV ps b stop p sq)) (runE ps b stop p sq)) := by
  have F0 := Lib.hid (Fr.b2 w 64 #[.string s, .slice (some a) ps.length c, .int .i64 b.brk, .int .i64 b.drag, .int .i64 b.drv] 28 #[.int .i64 (p : Int), .int .i64 sq])
  have HA := Lib.hid hA
  have HX := Lib.hid hx
  have HB := Lib.hid hb
  have HQ := Lib.hid hq
  obtain ⟨i1, hi, hz0, hz1, hz2⟩ := info_parts info_int
  have hl : (ps.length : Int) ≤ 12 := by omega
  have hst' : (stop : Int) < (ps.length : Int) := by omega
  have hp' : (p : Int) < (stop : Int) + 2 := by omega
  have hzb := crvV_bound hx b.brk stop p
  obtain ⟨q0, q1⟩ := hq
  obtain ⟨zp, hzp⟩ : ∃ zp, crvV ps b.brk stop p = zp := ⟨_, rfl⟩
  have HZP := Lib.hid hzp
  rw [hzp] at hzb
  obtain ⟨zb0, zb1⟩ := hzb
  clear hA hx hb hzp
  go_enter Try.func27, Try.ntmps27
  go_wp2_with fail
  refine (curve_any s ps a c b HB.out h0 h12 HX.out stop hst _ (Fr.lies HA.out F0.out)).mono ?_
  rintro e w1 ⟨g1, rfl, n1, hg1, hb1⟩
  have F1 := Lib.hid ((F0.out.call hb1).more n1)
  have z1 := Lib.hid n1.lt
  have HG1 : Hid (w.heap.size + 1 < g1) := Lib.hid (by simp at hg1; omega)
  clear hb1 F0 hg1 n1
  have y0 := F1.out.at1.cell 0
  have y1 := F1.out.at1.cell 1
  have n0 := F1.out.top.rowF_at (k := p) (by omega)
  rw [HZP.out] at n0
  go_upto_region 2 with fail
  go_cut [30] from 15 to 30 (fun r W => r = .bool (decide (zp = -1 ∨ zp < sq)) ∧ Fr w W [(g1, 3, rowF (stop + 2) (crvV ps b.brk stop)), (w.heap.size + 1, 28, #[.int .i64 (p : Int), .int .i64 sq]), (w.heap.size, 64, #[.string s, .slice (some a) ps.length c, .int .i64 b.brk, .int .i64 b.drag, .int .i64 b.drv])])
  case first =>
    by_cases hz1 : zp = -1
    · have ge : (zp == -1) = true := by simp [hz1]
      have hd : Hid (true = decide (zp = -1 ∨ zp < sq)) := Lib.hid (decide_eq_true (Or.inl hz1)).symm
      clear hz1
      go_quiet (fail)
      go_wp2_with fail
      go_meet
      exact ⟨congrArg Value.bool hd.out, F1.out.call (below_drewN (Below.refl _ _) _)⟩
    · have ge : (zp == -1) = false := by simp [hz1]
      by_cases hlt : zp < sq
      · have gd : decide (zp < sq) = true := decide_eq_true hlt
        have hd : Hid (true = decide (zp = -1 ∨ zp < sq)) := Lib.hid (decide_eq_true (Or.inr hlt)).symm
        clear hz1
        go_quiet (fail)
        go_wp2_with fail
        go_meet
        exact ⟨congrArg Value.bool hd.out, F1.out.call (below_drewN (Below.refl _ _) _)⟩
      · have gd : decide (zp < sq) = false := decide_eq_false hlt
        have hd : Hid (false = decide (zp = -1 ∨ zp < sq)) := Lib.hid (decide_eq_false (by omega)).symm
        have hle : sq ≤ zp := by omega
        clear hz1
        go_quiet (fail)
        go_wp2_with fail
        go_meet
        exact ⟨congrArg Value.bool hd.out, F1.out.call (below_drewN (Below.refl _ _) _)⟩
  case rest =>
  obtain ⟨w3, rfl⟩ : ∃ W, W = wc := ⟨_, rfl⟩
  obtain ⟨rfl, hx⟩ := hcut
  have F3 := Lib.hid hx
  clear hx z1 F1 y0 y1 n0
  have z1 := Lib.hid F3.out.top.lt
  have y0 := F3.out.at1.cell 0
  have y1 := F3.out.at1.cell 1
  have zz := F3.out.at1.lt
  by_cases hbr : zp = -1 ∨ zp < sq
  · have HE : Hid (runE ps b stop p sq = 24) := Lib.hid (runE_break (by rw [HZP.out]; exact hbr))
    have hd : decide (zp = -1 ∨ zp < sq) = true := decide_eq_true hbr
    rw [hd]
    clear hbr hd
    go_wp2_with fail
    go_ret2
    exact rowBad2 HE.out (by decide) F3.out
  · have HNB : Hid (¬ (crvV ps b.brk stop p = -1 ∨ crvV ps b.brk stop p < sq)) := Lib.hid (by rw [HZP.out]; exact hbr)
    have hd : decide (zp = -1 ∨ zp < sq) = false := decide_eq_false hbr
    rw [hd]
    clear hbr hd
    go_wp2_with fail
    go_loopw [9, 10, 11] (fun q v i wr => ∃ k : Nat, k ≤ stop - p ∧ i = .int .i64 ((p : Int) + k) ∧ q = .int .i64 (runV ps b stop p sq k) ∧ (∀ j, j ≤ k → 0 ≤ runV ps b stop p sq j) ∧ wr.ownsRow (g1 + 1) 3 1 v (k + 1) (ic (listF (k + 1) (runV ps b stop p sq))) ∧ Fr w wr [(g1, 3, rowF (stop + 2) (crvV ps b.brk stop)), (w.heap.size + 1, 28, #[.int .i64 (p : Int), .int .i64 sq]), (w.heap.size, 64, #[.string s, .slice (some a) ps.length c, .int .i64 b.brk, .int .i64 b.drag, .int .i64 b.drv])]) (fun _ _ i _ => stop - (intOf i).toNat)
    case atStart => exact ⟨0, Nat.zero_le _, by first | rfl | exact cong64 (by omega), rfl, (fun j hj => by have e : j = 0 := (by omega); subst e; exact q0), own_first (f := runV ps b stop p sq) rfl (own_one z1.out), F3.out.new _⟩
    case round =>
      obtain ⟨k, hk, rfl, rfl, hpos, hown, hf⟩ := hrel
      clear F3 y0 y1 zz
      have HPOS := Lib.hid hpos
      have O1 := Lib.hid hown
      have FK := Lib.hid hf
      have hqb := runV_bound HX.out b HB.out stop p sq HQ.out k (fun j hj => HPOS.out j (by omega))
      have hq0 := HPOS.out k (Nat.le_refl _)
      obtain ⟨gs, rfl, _, _, _⟩ := own_slice hown
      have hz := hf.top.lt
      clear hpos hown hf
      obtain ⟨q, hqq⟩ : ∃ q, runV ps b stop p sq k = q := ⟨_, rfl⟩
      have HQK := Lib.hid hqq
      rw [hqq] at hqb hq0
      rw [hqq]
      clear hqq
      obtain ⟨j, hj⟩ : ∃ j : Nat, j = p + k := ⟨_, rfl⟩
      have HJ := Lib.hid hj
      have hji : (p : Int) + (k : Int) = (j : Int) := by omega
      rw [hji]
      have hks : k ≤ stop - p := hk
      by_cases hlt : j < stop
      · have hlt' : (j : Int) < (stop : Int) := by omega
        have hj1 : (j : Int) + 1 < (stop : Int) + 2 := by omega
        have hj0 : (0 : Int) ≤ (j : Int) + 1 := by omega
        have hwj := IntWalk.i64_in ((j : Int) + 1) (by omega)
        have hZB := crvV_bound HX.out b.brk stop (j + 1)
        have hEB := lossV_bound (gp_ok HX.out j) (d := b.drag) (by have := HB.out.d0; have := HB.out.d1; omega)
        have HBR : Hid (∀ W, Lies W W.heap.size (some a) (ps.flatMap pc) → Calls Try.prog 41 #[.agg #[.string s, .slice (some a) ps.length c, .int .i64 b.brk, .int .i64 b.drag, .int .i64 b.drv], .int .i64 j] W fun e w' => e = .returned (.int .i64 (lossV (gp ps j) b.drag)) ∧ Below W.heap.size W w') := Lib.hid (fun W hW => coasted_any s ps a c b HB.out h12 HX.out j (by omega) W hW)
        have HSTEP : Hid (runV ps b stop p sq (k + 1) = min (crvV ps b.brk stop (j + 1)) (q - lossV (gp ps j) b.drag)) := Lib.hid (by rw [runV, HQK.out, HJ.out])
        obtain ⟨z, hz2⟩ : ∃ z, crvV ps b.brk stop (j + 1) = z := ⟨_, rfl⟩
        obtain ⟨l, hl2⟩ : ∃ l, lossV (gp ps j) b.drag = l := ⟨_, rfl⟩
        rw [hz2, hl2] at HSTEP
        obtain ⟨m, hm⟩ : ∃ m, min z (q - l) = m := ⟨_, rfl⟩
        rw [hm] at HSTEP
        have HZ := Lib.hid hz2
        have HM : Hid ((q - l < z → m = q - l) ∧ (z ≤ q - l → m = z)) := Lib.hid ⟨fun h => by omega, fun h => by omega⟩
        rw [hz2] at hZB
        rw [hl2] at hEB HBR
        have hwz := IntWalk.i64_in (q - l) (by omega)
        obtain ⟨zb2, zb3⟩ := hZB
        obtain ⟨eb0, eb1⟩ := hEB
        obtain ⟨qb0, qb1⟩ := hqb
        clear hz2 hl2 hm hj hji
        go_upto_region 9 with fail
        go_cut [9] from 42 to 52 (fun r W => r = .int .i64 m ∧ W.ownsRow (g1 + 1) 3 1 (.slice gs.A (k + 1) gs.c) (k + 1) (ic (listF (k + 1) (runV ps b stop p sq))) ∧ Fr w W [(g1, 3, rowF (stop + 2) (crvV ps b.brk stop)), (w.heap.size + 1, 28, #[.int .i64 (p : Int), .int .i64 sq]), (w.heap.size, 64, #[.string s, .slice (some a) ps.length c, .int .i64 b.brk, .int .i64 b.drag, .int .i64 b.drv])])
        case first =>
          have HALL : Hid (∀ W, Fr w W [(g1, 3, rowF (stop + 2) (crvV ps b.brk stop)), (w.heap.size + 1, 28, #[.int .i64 (p : Int), .int .i64 sq]), (w.heap.size, 64, #[.string s, .slice (some a) ps.length c, .int .i64 b.brk, .int .i64 b.drag, .int .i64 b.drv])] → Fr w W [(g1, 3, rowF (stop + 2) (crvV ps b.brk stop)), (w.heap.size + 1, 28, #[.int .i64 (p : Int), .int .i64 sq]), (w.heap.size, 64, #[.string s, .slice (some a) ps.length c, .int .i64 b.brk, .int .i64 b.drag, .int .i64 b.drv])] ∧ W.cell? ⟨w.heap.size, 0, none⟩ = some (.string s) ∧ W.cell? ⟨w.heap.size, 1, none⟩ = some (.slice (some a) ps.length c) ∧ W.cell? ⟨w.heap.size, 2, none⟩ = some (.int .i64 b.brk) ∧ W.cell? ⟨w.heap.size, 3, none⟩ = some (.int .i64 b.drag) ∧ W.cell? ⟨w.heap.size, 4, none⟩ = some (.int .i64 b.drv) ∧ W.cell? ⟨g1, j + 1, none⟩ = some (.int .i64 z)) := Lib.hid (fun W hW => ⟨hW, hW.at2.cell 0, hW.at2.cell 1, hW.at2.cell 2, hW.at2.cell 3, hW.at2.cell 4, by rw [hW.top.rowF_at (by omega), HZ.out]⟩)
          have F10 : Fr w _ [(g1, 3, rowF (stop + 2) (crvV ps b.brk stop)), (w.heap.size + 1, 28, #[.int .i64 (p : Int), .int .i64 sq]), (w.heap.size, 64, #[.string s, .slice (some a) ps.length c, .int .i64 b.brk, .int .i64 b.drag, .int .i64 b.drv])] := FK.out
          clear FK
          refine Tw_start 11 (fun W => Fr w W [(g1, 3, rowF (stop + 2) (crvV ps b.brk stop)), (w.heap.size + 1, 28, #[.int .i64 (p : Int), .int .i64 sq]), (w.heap.size, 64, #[.string s, .slice (some a) ps.length c, .int .i64 b.brk, .int .i64 b.drag, .int .i64 b.drv])] ∧ W.cell? ⟨w.heap.size, 0, none⟩ = some (.string s) ∧ W.cell? ⟨w.heap.size, 1, none⟩ = some (.slice (some a) ps.length c) ∧ W.cell? ⟨w.heap.size, 2, none⟩ = some (.int .i64 b.brk) ∧ W.cell? ⟨w.heap.size, 3, none⟩ = some (.int .i64 b.drag) ∧ W.cell? ⟨w.heap.size, 4, none⟩ = some (.int .i64 b.drv) ∧ W.cell? ⟨g1, j + 1, none⟩ = some (.int .i64 z)) (by kernel_rfl) (by kernel_rfl) rfl ?_ ?_
          · (try dsimp only)
            ((go_split_ands; refine HALL.out _ ?_; (first | assumption | (repeat (first | assumption | refine Fr.new ?_ _ | refine Fr.drew ?_ | (refine Fr.set ?_ (by first | exact Nat.le_refl _ | omega | (simp; done) | (simp; omega)) (by first | (simp; done) | (simp; omega)) _))); done)))
          refine Tw_takeL (i := 0) (v := ?tv65) rfl (by kernel_rfl) (by decide) (by kernel_rfl) (by kernel_rfl) (fun _ _ _ h => h) (by rfl) ?ty65 ?tn65
          case ty65 => (intro w hSw; (try dsimp only at hSw); go_simp <;> with_reducible rfl)
          (try simp only [Act.put, List.setIfInBounds_toArray, List.set_cons_zero, List.set_cons_succ])
          refine Tw_takeL (i := 1) (v := ?tv66) rfl (by kernel_rfl) (by decide) (by kernel_rfl) (by kernel_rfl) (fun _ _ _ h => h) (by rfl) ?ty66 ?tn66
          case ty66 => (intro w hSw; (try dsimp only at hSw); go_simp <;> with_reducible rfl)
          (try simp only [Act.put, List.setIfInBounds_toArray, List.set_cons_zero, List.set_cons_succ])
          refine Tw_takeL (i := 2) (v := ?tv67) rfl (by kernel_rfl) (by decide) (by kernel_rfl) (by kernel_rfl) (fun _ _ _ h => h) (by rfl) ?ty67 ?tn67
          case ty67 => (intro w hSw; (try dsimp only at hSw); go_simp <;> with_reducible rfl)
          (try simp only [Act.put, List.setIfInBounds_toArray, List.set_cons_zero, List.set_cons_succ])
          refine Tw_takeL (i := 3) (v := ?tv68) rfl (by kernel_rfl) (by decide) (by kernel_rfl) (by kernel_rfl) (fun _ _ _ h => h) (by rfl) ?ty68 ?tn68
          case ty68 => (intro w hSw; (try dsimp only at hSw); go_simp <;> with_reducible rfl)
          (try simp only [Act.put, List.setIfInBounds_toArray, List.set_cons_zero, List.set_cons_succ])
          refine Tw_takeL (i := 4) (v := ?tv69) rfl (by kernel_rfl) (by decide) (by kernel_rfl) (by kernel_rfl) (fun _ _ _ h => h) (by rfl) ?ty69 ?tn69
          case ty69 => (intro w hSw; (try dsimp only at hSw); go_simp <;> with_reducible rfl)
          (try simp only [Act.put, List.setIfInBounds_toArray, List.set_cons_zero, List.set_cons_succ])
          refine Tw_takeL (i := 5) (v := ?tv70) rfl (by kernel_rfl) (by decide) (by kernel_rfl) (by kernel_rfl) (fun _ _ _ h => h) (by rfl) ?ty70 ?tn70
          case ty70 => (intro w hSw; (try dsimp only at hSw); go_simp <;> with_reducible rfl)
          (try simp only [Act.put, List.setIfInBounds_toArray, List.set_cons_zero, List.set_cons_succ])
          refine Tw_takeL (i := 6) (v := ?tv71) rfl (by kernel_rfl) (by decide) (by kernel_rfl) (by kernel_rfl) (fun _ _ _ h => h) (by rfl) ?ty71 ?tn71
          case ty71 => (intro w hSw; (try dsimp only at hSw); go_simp <;> with_reducible rfl)
          (try simp only [Act.put, List.setIfInBounds_toArray, List.set_cons_zero, List.set_cons_succ])
          refine Tw_takeL (i := 7) (v := ?tv72) rfl (by kernel_rfl) (by decide) (by kernel_rfl) (by kernel_rfl) (fun _ _ _ h => h) (by rfl) ?ty72 ?tn72
          case ty72 => (intro w hSw; (try dsimp only at hSw); go_simp <;> with_reducible rfl)
          (try simp only [Act.put, List.setIfInBounds_toArray, List.set_cons_zero, List.set_cons_succ])
          refine Tw_all (rs := [8]) (by kernel_rfl) (by simp) (by decide) (fun hHeld => ?_)
          refine AllT.consL rfl (fun K hK => ?_) AllT.nil
          go_simp
          (go_at_call 41; go_split_ands; (with_reducible refine (HBR.out _ (Fr.lies HA.out (by assumption))).mono ?_); rintro e w7 ⟨rfl, hb7⟩; have F4 := Fr.call (by assumption) hb7; (first | (have O1 := Lib.hid (own_below (own_drew O1.out) hb7)) | (have O1 := Lib.hid (own_below O1.out hb7))); clear hb7)
          refine hK.out _ _ ?_ ?_
          · (try dsimp only)
            ((go_split_ands; refine HALL.out _ ?_; (first | assumption | (repeat (first | assumption | refine Fr.new ?_ _ | refine Fr.drew ?_ | (refine Fr.set ?_ (by first | exact Nat.le_refl _ | omega | (simp; done) | (simp; omega)) (by first | (simp; done) | (simp; omega)) _))); done)))
          clear hK K
          (try simp only [Act.put, List.setIfInBounds_toArray, List.set_cons_zero, List.set_cons_succ])
          refine Tw_takeL (i := 9) (v := ?tv73) rfl (by kernel_rfl) (by decide) (by kernel_rfl) (by kernel_rfl) (fun _ _ _ h => h) (by rfl) ?ty73 ?tn73
          case ty73 => (intro w hSw; (try dsimp only at hSw); go_simp <;> with_reducible rfl)
          (try simp only [Act.put, List.setIfInBounds_toArray, List.set_cons_zero, List.set_cons_succ])
          refine Tw_takeL (i := 10) (v := ?tv74) rfl (by kernel_rfl) (by decide) (by kernel_rfl) (by kernel_rfl) (fun _ _ _ h => h) (by rfl) ?ty74 ?tn74
          case ty74 => (intro w hSw; (try dsimp only at hSw); go_simp <;> with_reducible rfl)
          (try simp only [Act.put, List.setIfInBounds_toArray, List.set_cons_zero, List.set_cons_succ])
          refine Tw_end (by kernel_rfl) (fun hh => ?_)
          obtain ⟨F11, _⟩ := hh
          clear HALL
          have HF := Lib.hid F11
          clear F11
          go_wp2_with fail
          all_goals
            go_meet
            exact ⟨cong64 (by have h1 := HM.out; first | omega | (simp at h1; omega)), O1.out, HF.out⟩
        case rest =>
          obtain ⟨wx, rfl⟩ : ∃ W, W = wc := ⟨_, rfl⟩
          obtain ⟨rfl, ho1, hx⟩ := hcut
          clear O1 FK
          have O1 := Lib.hid ho1
          have FC := Lib.hid hx
          clear ho1 hx
          have hjp : (j : Int) + 1 = (p : Int) + ((k + 1 : Nat) : Int) := by have := HJ.out; omega
          by_cases hm0 : m < 0
          · have HE : Hid (runE ps b stop p sq = 12) := Lib.hid (runE_none HNB.out (k + 1) (by have := HJ.out; omega) (by rw [HSTEP.out]; exact hm0))
            clear hjp
            go_wp2_with fail
            go_ret2
            exact rowBad2 HE.out (by decide) FC.out
          · have hk1 : k + 1 ≤ stop - p := by have := HJ.out; omega
            have HP2 : Hid (∀ i, i ≤ k + 1 → 0 ≤ runV ps b stop p sq i) := Lib.hid (fun i hi => by
              by_cases e : i = k + 1
              · subst e; rw [HSTEP.out]; omega
              · exact HPOS.out i (by omega))
            have HJP := Lib.hid hjp
            clear hjp
            go_wp2_with (at_builtin; refine wpList_append_own _ rfl _ _ 29 rfl (g1 + 1) 3 i1 (.int .i64 0) 1 8 Try.underlying29 hi hz0 hz1 hz2 rfl (by decide) _ _ _ rfl (own_below O1.out ((Below.refl _ _).alloc (Nat.le_refl _) _)) _ _ _ [.int .i64 _] rfl rfl (Bk.new _ _ _).adds (fun u hu => by simp at hu; subst hu; rfl) (by unfold maxLen; omega) (by omega) (by have h5 := FC.out.top.lt; simp; omega) ?_)
            all_goals
              intro v' w7 o7 g7 _
              have q7 := Lib.hid (Fr.grown2 (FC.out.new _) g7 (fun q e => (O1.out.lt q e).1) (by have := HG1.out; omega) (by have := HG1.out; intro b hb; simp only [List.mem_cons, List.not_mem_nil, or_false] at hb; rcases hb with rfl | rfl | rfl <;> (dsimp only; omega)))
              have o8 := Lib.hid (own_snoc o7 HSTEP.out.symm)
              clear o7 g7
              go_wp2_with fail
              go_roundw
              case rel => exact ⟨k + 1, hk1, cong64 HJP.out, cong64 HSTEP.out.symm, HP2.out, o8.out, q7.out⟩
              case measure => simp [intOf] <;> omega
      · obtain rfl : k = stop - p := by omega
        have hge : ¬ ((j : Int) < (stop : Int)) := by omega
        have HE : Hid (runE ps b stop p sq = 0) := Lib.hid (runE_ok HNB.out HPOS.out)
        clear hj hji
        go_wp2_with fail
        go_ret2
        rw [HE.out]
        exact rowOwn (er := 0) O1.out FK.out


end Go.Proofs.Ytaghpemdcmjchaa
