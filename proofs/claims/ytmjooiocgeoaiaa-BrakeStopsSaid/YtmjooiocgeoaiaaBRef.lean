
/-
  The walks of the reference's CurveOf, LeastOf and RunTo.
-/
import Derived.Test.YtmjooiocgeoaiaaBRun
namespace Go.Proofs.Ytmjooiocgeoaiaa
open Go.RowKit

set_option maxHeartbeats 8000000 in
set_option maxRecDepth 100000 in
theorem refCurveOf_any (s : ByteArray) (ps : List Bp) (a : Addr) (c : Nat) (b : Bs) (hb : OkS b) (h0 : ps.length ≠ 0) (h12 : ps.length ≤ 12) (hx : ∀ p ∈ ps, okP p = true) (stop : Nat) (hst : stop < ps.length) (w : World) (hA : Lies w w.heap.size (some a) (ps.flatMap pc)) :
    Calls Try.prog 46 #[.agg #[.string s, .slice (some a) ps.length c], .agg #[.int .i64 b.brk, .int .i64 b.drag, .int .i64 b.drv], .int .i64 stop] w fun e w' => ∃ g, e = .returned (.slice (some ⟨g, 0, none⟩) (stop + 2 : Nat) (stop + 2 : Nat)) ∧ Bk w' g 3 (rowF (stop + 2) (crvV ps b.brk stop)) ∧ w.heap.size ≤ g ∧ Below w.heap.size w w' := by
  have F1 := Lib.hid (Fr.b2 w 24 #[.string s, .slice (some a) ps.length c] 26 #[.int .i64 b.brk, .int .i64 b.drag, .int .i64 b.drv])
  have HA := Lib.hid hA
  have HX := Lib.hid hx
  have HB := Lib.hid hb
  obtain ⟨i0, hi0, hz0, hs0, hb0⟩ := info_parts info_int
  have hl : (ps.length : Int) ≤ 12 := by omega
  have hst' : (stop : Int) < (ps.length : Int) := by omega
  clear hA hx hb
  go_enter Try.func46, Try.ntmps46
  go_wp2_with (at_make; refine wpList_make_full _ rfl _ _ 31 rfl w.heap.size 3 i0 (.int .i64 0) 1 Try.underlying31 hi0 hz0 hs0 .i64 .i64 ((stop : Int) + 2) ((stop : Int) + 2) (stop + 2) rfl rfl (by omega) (by omega) (by rw [hb0]; omega) (by unfold maxLen; omega) (by first | (simp; done) | (simp; omega)) ?_; intro w2 ho2 hg2; have F2 := Lib.hid ((Fr.call F1.out (below_of_grown hg2)).more (by have := made_bk ho2; simpa using this : Bk w2 (w.heap.size + 1 + 1) 3 (rowF (stop + 2) fun _ => 0))); have x0 := F2.out.at2.cell 0; have x1 := F2.out.at2.cell 1; clear ho2 hg2)
  clear F1
  refine (refLimitsAt_any s ps a c h0 h12 HX.out _ (Fr.lies HA.out F2.out)).mono ?_
  rintro e w3 ⟨gl, rfl, hll, hfr, hb3⟩
  rw [listF_len]
  have F3 := Lib.hid (F2.out.call hb3)
  have HL := Lib.hid hll
  have z2 := F2.out.top.lt
  have HFR : Hid (∀ a, gl.A = some a → w.heap.size + 1 + 1 ≠ a.block) := Lib.hid (fun a ha => by have := hfr a ha; omega)
  clear hb3 hll hfr F2 x0 x1 z2
  go_wp2_with fail
  go_loopw [9] (fun i wr => ∃ k : Nat, k ≤ stop + 1 ∧ i = .int .i64 ((k : Int) - 1) ∧ Lies wr wr.heap.size gl.A (ic (listF (ps.length + 1) (limV ps))) ∧ Fr w wr [(w.heap.size + 1 + 1, 3, rowF (stop + 2) (fun j => if k ≤ j then crvV ps b.brk stop j else 0)), (w.heap.size + 1, 26, #[.int .i64 b.brk, .int .i64 b.drag, .int .i64 b.drv]), (w.heap.size, 24, #[.string s, .slice (some a) ps.length c])]) (fun i _ => (intOf i + 1).toNat)
  case atStart => exact ⟨stop + 1, Nat.le_refl _, cong64 (by omega), HL.out, F3.out.congrR (fun i hi => by
    by_cases e : stop + 1 ≤ i
    · obtain rfl : i = stop + 1 := by omega
      rw [if_pos e, crvV_top]
    · rw [if_neg e])⟩
  case round =>
    obtain ⟨k, hk, rfl, hlr, hf⟩ := hrel
    have FK := Lib.hid hf
    have LK := Lib.hid hlr
    clear hf hlr F3 HL
    obtain ⟨v, hv⟩ : ∃ v : Int, v = (k : Int) - 1 := ⟨_, rfl⟩
    rw [← hv]
    cases k with
    | zero =>
      have hneg : v < 0 := by omega
      clear hv
      go_wp2_with fail
      go_ret
      refine ⟨_, by first | rfl | (simp; done), ?_, (by omega), FK.out.bl⟩
      exact (FK.out.congrR (f' := crvV ps b.brk stop) (fun i _ => by rw [if_pos (Nat.zero_le _)])).top
    | succ j =>
      obtain rfl : v = (j : Int) := by omega
      have hwj := IntWalk.i64_in ((j : Int) + 1) (by omega)
      have hj0 : (0 : Int) ≤ (j : Int) + 1 := by omega
      have hjs : j ≤ stop := by omega
      have hj1 : (j : Int) < (ps.length : Int) := by omega
      have hj2 : (j : Int) ≤ (stop : Int) := by omega
      have hj3 : (j : Int) < (ps.length : Int) + 1 := by omega
      have hj4 : (j : Int) + 1 < (stop : Int) + 2 := by omega
      have hj5 : (j : Int) < (stop : Int) + 2 := by omega
      have hLB := limV_bound HX.out j
      have hZB := crvV_bound HX.out b.brk stop (j + 1)
      have hdb : -3000 ≤ b.brk ∧ b.brk ≤ 3000 := by have := HB.out.b0; have := HB.out.b1; omega
      have hEB := lossV_bound (gp_ok HX.out j) (d := b.brk) hdb
      have HBR : Hid (∀ W, Lies W W.heap.size (some a) (ps.flatMap pc) → Calls Try.prog 57 #[.agg #[.string s, .slice (some a) ps.length c], .int .i64 j, .int .i64 b.brk] W fun e w' => e = .returned (.int .i64 (lossV (gp ps j) b.brk)) ∧ Below W.heap.size W w') := Lib.hid (fun W hW => loses_any s ps a c h12 HX.out j (by omega) b.brk hdb W hW)
      obtain ⟨al, hal, _, _⟩ := LK.out.num (listF_at (n := ps.length + 1) (f := limV ps) (k := j) (by omega))
      have HAL := Lib.hid hal
      obtain ⟨L, hL⟩ : ∃ L, limV ps j = L := ⟨_, rfl⟩
      obtain ⟨z, hz⟩ : ∃ z, crvV ps b.brk stop (j + 1) = z := ⟨_, rfl⟩
      obtain ⟨l, hl2⟩ : ∃ l, lossV (gp ps j) b.brk = l := ⟨_, rfl⟩
      obtain ⟨m, hm⟩ : ∃ m, min L (z + l) = m := ⟨_, rfl⟩
      have HZ := Lib.hid hz
      have HL := Lib.hid hL
      have HMM : Hid (min (limV ps j) (z + lossV (gp ps j) b.brk) = m) := Lib.hid (by rw [hL, hl2]; exact hm)
      have HM : Hid ((z + l < L → m = z + l) ∧ (L ≤ z + l → m = L)) := Lib.hid ⟨fun h => by omega, fun h => by omega⟩
      rw [hL] at hLB
      rw [hz] at hZB
      rw [hl2] at hEB HBR
      have hwz := IntWalk.i64_in (z + l) (by omega)
      obtain ⟨lb0, lb1⟩ := hLB
      obtain ⟨zb0, zb1⟩ := hZB
      obtain ⟨eb0, eb1⟩ := hEB
      have mb0 : -100000000000 ≤ m := by omega
      have mb1 : m ≤ 20000000000 := by omega
      obtain ⟨A4, c4⟩ := gl
      simp only at hal
      subst hal
      clear hL hz hl2 hm hv hdb
      have n0 := FK.out.top.rowF_at (k := j) (by omega)
      have nf := FK.out.top.frozen j
      have nz1 := FK.out.top.lt
      go_upto_region 7 with fail
      refine wp_abs ?_
      intro w8 h8
      have F8 : Hid (Fr w w8 [(w.heap.size + 1 + 1, 3, rowF (stop + 2) (fun i => if i = j then (-1) else if j + 1 ≤ i then crvV ps b.brk stop i else 0)), (w.heap.size + 1, 26, #[.int .i64 b.brk, .int .i64 b.drag, .int .i64 b.drv]), (w.heap.size, 24, #[.string s, .slice (some a) ps.length c])]) := Lib.hid (by subst h8; exact FK.out.putR j (-1) (by omega) (far2 (by omega) (by omega)))
      have L8 : Hid (Lies w8 w8.heap.size (some al) (ic (listF (ps.length + 1) (limV ps)))) := Lib.hid (by subst h8; exact (LK.out.far (fun a ha => HFR.out a ha) _).more (by simp))
      clear h8 FK LK n0 nf nz1
      have q1 := F8.out.top.rowF_at (k := j + 1) (by omega)
      rw [if_neg (by omega), if_pos (Nat.le_refl _), HZ.out] at q1
      by_cases hz0 : z = -1
      · have ge : (z != -1) = false := by simp [hz0]
        have HZ0 := Lib.hid hz0
        clear hz0
        go_wp2_with fail
        go_roundw
        case rel => exact ⟨j, by omega, rfl, L8.out, F8.out.congrR (crv_new hjs HZ.out HMM.out (v := -1) (by rw [if_pos HZ0.out]) _ (fun i hi e => by rw [if_neg e]) (by rw [if_pos rfl]))⟩
        case measure => simp [intOf] <;> omega
      · have ge : (z != -1) = true := by simp [hz0]
        have HZ0 := Lib.hid hz0
        clear hz0
        go_upto_region 8 with fail
        go_cut [10] from 30 to 45 (fun r W => r = .int .i64 m ∧ Fr w8 W [])
        case first =>
          have HA8 : Hid (Lies w8 w8.heap.size (some a) (ps.flatMap pc)) := Lib.hid (Fr.lies HA.out F8.out)
          have HALL : Hid (∀ W, Fr w8 W [] → Fr w8 W [] ∧ W.cell? ⟨w.heap.size, 0, none⟩ = some (.string s) ∧ W.cell? ⟨w.heap.size, 1, none⟩ = some (.slice (some a) ps.length c) ∧ W.cell? ⟨w.heap.size + 1, 0, none⟩ = some (.int .i64 b.brk) ∧ W.cell? ⟨w.heap.size + 1, 1, none⟩ = some (.int .i64 b.drag) ∧ W.cell? ⟨w.heap.size + 1, 2, none⟩ = some (.int .i64 b.drv) ∧ W.cell? ⟨w.heap.size + 1 + 1, j + 1, none⟩ = some (.int .i64 z) ∧ W.cell? (al.add j) = some (.int .i64 L)) := Lib.hid (fun W hW => ⟨hW, (F8.out.at2.call hW.bl).cell 0, (F8.out.at2.call hW.bl).cell 1, (F8.out.at1.call hW.bl).cell 0, (F8.out.at1.call hW.bl).cell 1, (F8.out.at1.call hW.bl).cell 2, by rw [(F8.out.top.call hW.bl).rowF_at (by omega), if_neg (by omega), if_pos (Nat.le_refl _), HZ.out], by obtain ⟨a5, e5, _, y5⟩ := (L8.out.below hW.bl).num (listF_at (n := ps.length + 1) (f := limV ps) (k := j) (by omega)); cases e5; rw [← HL.out]; exact y5⟩)
          have F10 : Fr w8 w8 [] := Fr.nil w8
          go_region_held3 (fun W => Fr w8 W [] ∧ W.cell? ⟨w.heap.size, 0, none⟩ = some (.string s) ∧ W.cell? ⟨w.heap.size, 1, none⟩ = some (.slice (some a) ps.length c) ∧ W.cell? ⟨w.heap.size + 1, 0, none⟩ = some (.int .i64 b.brk) ∧ W.cell? ⟨w.heap.size + 1, 1, none⟩ = some (.int .i64 b.drag) ∧ W.cell? ⟨w.heap.size + 1, 2, none⟩ = some (.int .i64 b.drv) ∧ W.cell? ⟨w.heap.size + 1 + 1, j + 1, none⟩ = some (.int .i64 z) ∧ W.cell? (al.add j) = some (.int .i64 L))
            ((go_split_ands; refine HALL.out _ ?_; (first | assumption | (repeat (first | assumption | refine Fr.new ?_ _ | refine Fr.drew ?_ | (refine Fr.set ?_ (by first | exact Nat.le_refl _ | omega | (simp; done) | (simp; omega)) (by first | (simp; done) | (simp; omega)) _))); done)))
            ((first
              | (go_at_call 57; go_split_ands; (with_reducible refine (HBR.out _ (Fr.lies HA8.out (by assumption))).mono ?_); rintro e w7 ⟨rfl, hb7⟩; have F4 := Fr.call (by assumption) hb7; clear hb7)
              | fail "arm"))
          all_goals
            go_split_ands
            go_wp2_with fail
            all_goals
              go_meet
              exact ⟨cong64 (by have h1 := HM.out; first | omega | (simp at h1; omega)), by assumption⟩
        case rest =>
          obtain ⟨wx, rfl⟩ : ∃ W, W = wc := ⟨_, rfl⟩
          obtain ⟨rfl, hx8⟩ := hcut
          have FC := Lib.hid (F8.out.call hx8.bl)
          have LC := Lib.hid (Fr.lies L8.out hx8)
          clear hx8 F8 L8 q1
          have c0 := FC.out.top.rowF_at (k := j) (by omega)
          have cf := FC.out.top.frozen j
          have cz := FC.out.top.lt
          by_cases hm0 : m < 0
          · go_wp2_with fail
            go_roundw
            case rel => exact ⟨j, by omega, rfl, LC.out, FC.out.congrR (crv_new hjs HZ.out HMM.out (v := -1) (by rw [if_neg HZ0.out, if_pos hm0]) _ (fun i hi e => by rw [if_neg e]) (by rw [if_pos rfl]))⟩
            case measure => simp [intOf] <;> omega
          · have hm1 : 0 ≤ m := by omega
            go_wp2_with fail
            go_roundw
            case rel => exact ⟨j, by omega, rfl, (LC.out.far (fun a ha => HFR.out a ha) _).more (by simp), (FC.out.putR j m (by omega) (far2 (by omega) (by omega))).congrR (crv_new hjs HZ.out HMM.out (v := m) (by rw [if_neg HZ0.out, if_neg hm0]) _ (fun i hi e => by rw [if_neg e, if_neg e]) (by rw [if_pos rfl]))⟩
            case measure => simp [intOf] <;> omega
end Go.Proofs.Ytmjooiocgeoaiaa
