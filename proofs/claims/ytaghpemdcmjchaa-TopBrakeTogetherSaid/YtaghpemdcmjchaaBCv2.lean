
/-
  The walks of curve and least of the program.
-/
import Derived.Test.YtaghpemdcmjchaaBCrv
namespace Go.Proofs.Ytaghpemdcmjchaa
open Go.RowKit

theorem Fr.putR {w W : World} {bs : List (Nat × TypeId × Array Value)} {g : Nat} {t : TypeId} {n : Nat} {f : Nat → Int} (h : Fr w W ((g, t, rowF n f) :: bs)) (k : Nat) (v : Int) (hg : w.heap.size ≤ g) (hn : ∀ b ∈ bs, b.1 ≠ g) :
    Fr w (W.setCell ⟨g, k, none⟩ (.int .i64 v)) ((g, t, rowF n fun i => if i = k then v else f i) :: bs) :=
  (h.tail.set (p := ⟨g, k, none⟩) hg hn _).more (h.top.rowF_set k v)
theorem Fr.congrR {w W : World} {bs : List (Nat × TypeId × Array Value)} {g : Nat} {t : TypeId} {n : Nat} {f f' : Nat → Int} (h : Fr w W ((g, t, rowF n f) :: bs)) (e : ∀ i, i < n → f i = f' i) : Fr w W ((g, t, rowF n f') :: bs) := by rw [rowF_congr e] at h; exact h
theorem Fr.valR {w W : World} {bs : List (Nat × TypeId × Array Value)} {p : Addr} {x y : Int} (h : Fr w (W.setCell p (.int .i64 x)) bs) (e : x = y) : Fr w (W.setCell p (.int .i64 y)) bs := e ▸ h
theorem cong64 {x y : Int} (h : x = y) : Value.int .i64 x = Value.int .i64 y := by rw [h]
theorem out64 {x y : Int} (h : Value.int .i64 x = Value.int .i64 y) : x = y := by injection h
theorem Fr.valR2 {w W : World} {bs : List (Nat × TypeId × Array Value)} {p : Addr} {u v : Value} (h : Fr w (W.setCell p u) bs) (e : u = v) : Fr w (W.setCell p v) bs := e ▸ h
theorem crv_new {ps : List Bp} {d : Int} {stop j : Nat} {z m v : Int} (hj : j ≤ stop) (hz : crvV ps d stop (j + 1) = z) (hm : min (limV ps j) (z + lossV (gp ps j) d) = m) (hv : v = if z = -1 then -1 else if m < 0 then -1 else m) (n : Nat) {f : Nat → Int}
    (hf : ∀ i, i < n → i ≠ j → f i = if j + 1 ≤ i then crvV ps d stop i else 0) (hfj : f j = v) : ∀ i, i < n → f i = if j ≤ i then crvV ps d stop i else 0 := by
  intro i hi
  by_cases e : i = j
  · subst e
    rw [hfj, if_pos (Nat.le_refl _), crvV_step ps d stop i hj, hz, hm, hv]
  · rw [hf i hi e]
    by_cases e2 : j + 1 ≤ i
    · rw [if_pos e2, if_pos (by omega)]
    · rw [if_neg e2, if_neg (by omega)]
theorem lst_new {ps : List Bp} {d : Int} {stop j : Nat} {z v : Int} (hj : j < stop) (hz : lstV ps d stop (j + 1) = z) (hv : v = max 0 (z + lossV (gp ps j) d)) (n : Nat) {f : Nat → Int}
    (hf : ∀ i, i < n → i ≠ j → f i = if j + 1 ≤ i then lstV ps d stop i else 0) (hfj : f j = v) : ∀ i, i < n → f i = if j ≤ i then lstV ps d stop i else 0 := by
  intro i hi
  by_cases e : i = j
  · subst e
    rw [hfj, if_pos (Nat.le_refl _), lstV_step ps d stop i hj, hz, hv]
  · rw [hf i hi e]
    by_cases e2 : j + 1 ≤ i
    · rw [if_pos e2, if_pos (by omega)]
    · rw [if_neg e2, if_neg (by omega)]
theorem far2 {n g h : Nat} {t1 t2 : TypeId} {c1 c2 : Array Value} (h1 : n < h) (h2 : h < g) : ∀ b ∈ [(h, t1, c1), (n, t2, c2)], b.1 ≠ g := by
  intro b hb
  simp only [List.mem_cons, List.not_mem_nil, or_false] at hb
  rcases hb with rfl | rfl <;> (dsimp only; omega)
theorem far1 {n g : Nat} {t2 : TypeId} {c2 : Array Value} (h2 : n < g) : ∀ b ∈ [(n, t2, c2)], b.1 ≠ g := by
  intro b hb
  simp only [List.mem_cons, List.not_mem_nil, or_false] at hb
  rcases hb with rfl; (dsimp only; omega)

set_option maxHeartbeats 8000000 in
set_option maxRecDepth 100000 in
theorem curve_any (s : ByteArray) (ps : List Bp) (a : Addr) (c : Nat) (b : Bs) (hb : OkS b) (h0 : ps.length ≠ 0) (h12 : ps.length ≤ 12) (hx : ∀ p ∈ ps, okP p = true) (stop : Nat) (hst : stop < ps.length) (w : World) (hA : Lies w w.heap.size (some a) (ps.flatMap pc)) :
    Calls Try.prog 24 #[.agg #[.string s, .slice (some a) ps.length c, .int .i64 b.brk, .int .i64 b.drag, .int .i64 b.drv], .int .i64 stop] w fun e w' => ∃ g, e = .returned (.slice (some ⟨g, 0, none⟩) (stop + 2 : Nat) (stop + 2 : Nat)) ∧ Bk w' g 3 (rowF (stop + 2) (crvV ps b.brk stop)) ∧ w.heap.size ≤ g ∧ Below w.heap.size w w' := by
  have F0 := Lib.hid (Fr.b1 w 64 #[.string s, .slice (some a) ps.length c, .int .i64 b.brk, .int .i64 b.drag, .int .i64 b.drv])
  have HA := Lib.hid hA
  have HX := Lib.hid hx
  have HB := Lib.hid hb
  obtain ⟨i0, hi0, hz0, hs0, hb0⟩ := info_parts info_int
  have hl : (ps.length : Int) ≤ 12 := by omega
  have hst' : (stop : Int) < (ps.length : Int) := by omega
  clear hA hx hb
  go_enter Try.func24, Try.ntmps24
  go_wp2_with fail
  refine (limits_any s ps a c h0 h12 HX.out _ (Fr.lies HA.out F0.out)).mono ?_
  rintro e w1 ⟨g1, rfl, n1, hg1, hb1⟩
  have F1 := Lib.hid ((F0.out.call hb1).more n1)
  have HG1 : Hid (w.heap.size < g1) := Lib.hid (by simp at hg1; omega)
  have z1 := Lib.hid n1.lt
  clear hb1 F0 hg1 n1
  go_wp2_with (at_make; refine wpList_make_full _ rfl _ _ 29 rfl w1.heap.size 3 i0 (.int .i64 0) 1 Try.underlying29 hi0 hz0 hs0 .i64 .i64 ((stop : Int) + 2) ((stop : Int) + 2) (stop + 2) rfl rfl (by omega) (by omega) (by rw [hb0]; omega) (by unfold maxLen; omega) (by simp) ?_; intro w2 ho2 hg2; have F2 := Lib.hid ((Fr.call F1.out (below_of_grown hg2)).more (made_bk ho2)); clear ho2 hg2)
  clear F1
  go_loopw [7] (fun i wr => ∃ k : Nat, k ≤ stop + 1 ∧ i = .int .i64 ((k : Int) - 1) ∧ Fr w wr [(w1.heap.size, 3, rowF (stop + 2) (fun j => if k ≤ j then crvV ps b.brk stop j else 0)), (g1, 3, rowF (ps.length + 1) (limV ps)), (w.heap.size, 64, #[.string s, .slice (some a) ps.length c, .int .i64 b.brk, .int .i64 b.drag, .int .i64 b.drv])]) (fun i _ => (intOf i + 1).toNat)
  case atStart => exact ⟨stop + 1, Nat.le_refl _, cong64 (by omega), F2.out.congrR (fun i hi => by
    by_cases e : stop + 1 ≤ i
    · obtain rfl : i = stop + 1 := by omega
      rw [if_pos e, crvV_top]
    · rw [if_neg e])⟩
  case round =>
    obtain ⟨k, hk, rfl, hf⟩ := hrel
    have FK := Lib.hid hf
    clear hf F2
    obtain ⟨v, hv⟩ : ∃ v : Int, v = (k : Int) - 1 := ⟨_, rfl⟩
    rw [← hv]
    cases k with
    | zero =>
      have hneg : v < 0 := by omega
      clear hv
      go_wp2_with fail
      go_ret
      refine ⟨_, by first | rfl | (simp; done), ?_, Nat.le_of_lt (Nat.lt_trans HG1.out z1.out), FK.out.bl⟩
      exact (FK.out.congrR (f' := crvV ps b.brk stop) (fun i _ => by rw [if_pos (Nat.zero_le _)])).top
    | succ j =>
      obtain rfl : v = (j : Int) := by omega
      have hwj := IntWalk.i64_in ((j : Int) + 1) (by omega)
      have hj0 : (0 : Int) ≤ (j : Int) + 1 := by omega
      have hjs : j ≤ stop := by omega
      have hj1 : (j : Int) < (ps.length : Int) := by omega
      have hj2 : (j : Int) ≤ (stop : Int) := by omega
      have hj3 : (j : Int) < (ps.length : Int) + 1 := by omega
      have hj4 : (j : Int) + 1 < (stop : Int) + 2 := by omega
      have hj5 : (j : Int) < (stop : Int) + 2 := by omega
      have hLB := limV_bound HX.out j
      have hZB := crvV_bound HX.out b.brk stop (j + 1)
      have hEB := lossV_bound (gp_ok HX.out j) (d := b.brk) (by have := HB.out.b0; have := HB.out.b1; omega)
      have HBR : Hid (∀ W, Lies W W.heap.size (some a) (ps.flatMap pc) → Calls Try.prog 38 #[.agg #[.string s, .slice (some a) ps.length c, .int .i64 b.brk, .int .i64 b.drag, .int .i64 b.drv], .int .i64 j] W fun e w' => e = .returned (.int .i64 (lossV (gp ps j) b.brk)) ∧ Below W.heap.size W w') := Lib.hid (fun W hW => braked_any s ps a c b HB.out h12 HX.out j (by omega) W hW)
      obtain ⟨L, hL⟩ : ∃ L, limV ps j = L := ⟨_, rfl⟩
      obtain ⟨z, hz⟩ : ∃ z, crvV ps b.brk stop (j + 1) = z := ⟨_, rfl⟩
      obtain ⟨l, hl2⟩ : ∃ l, lossV (gp ps j) b.brk = l := ⟨_, rfl⟩
      obtain ⟨m, hm⟩ : ∃ m, min L (z + l) = m := ⟨_, rfl⟩
      have HZ := Lib.hid hz
      have HL := Lib.hid hL
      have HMM : Hid (min (limV ps j) (z + lossV (gp ps j) b.brk) = m) := Lib.hid (by rw [hL, hl2]; exact hm)
      have HM : Hid ((z + l < L → m = z + l) ∧ (L ≤ z + l → m = L)) := Lib.hid ⟨fun h => by omega, fun h => by omega⟩
      rw [hL] at hLB
      rw [hz] at hZB
      rw [hl2] at hEB HBR
      have hwz := IntWalk.i64_in (z + l) (by omega)
      obtain ⟨lb0, lb1⟩ := hLB
      obtain ⟨zb0, zb1⟩ := hZB
      obtain ⟨eb0, eb1⟩ := hEB
      have mb0 : -100000000000 ≤ m := by omega
      have mb1 : m ≤ 20000000000 := by omega
      clear hL hz hl2 hm hv
      go_upto_region 6 with fail
      go_cut [34] from 19 to 35 (fun r W => r = .int .i64 m ∧ Fr w W [(w1.heap.size, 3, rowF (stop + 2) (fun i => if i = j then m else if j + 1 ≤ i then crvV ps b.brk stop i else 0)), (g1, 3, rowF (ps.length + 1) (limV ps)), (w.heap.size, 64, #[.string s, .slice (some a) ps.length c, .int .i64 b.brk, .int .i64 b.drag, .int .i64 b.drv])])
      case first =>
        have HALL : Hid (∀ W, Fr w W [(w1.heap.size, 3, rowF (stop + 2) (fun i => if j + 1 ≤ i then crvV ps b.brk stop i else 0)), (g1, 3, rowF (ps.length + 1) (limV ps)), (w.heap.size, 64, #[.string s, .slice (some a) ps.length c, .int .i64 b.brk, .int .i64 b.drag, .int .i64 b.drv])] → Fr w W [(w1.heap.size, 3, rowF (stop + 2) (fun i => if j + 1 ≤ i then crvV ps b.brk stop i else 0)), (g1, 3, rowF (ps.length + 1) (limV ps)), (w.heap.size, 64, #[.string s, .slice (some a) ps.length c, .int .i64 b.brk, .int .i64 b.drag, .int .i64 b.drv])] ∧ W.cell? ⟨w.heap.size, 0, none⟩ = some (.string s) ∧ W.cell? ⟨w.heap.size, 1, none⟩ = some (.slice (some a) ps.length c) ∧ W.cell? ⟨w.heap.size, 2, none⟩ = some (.int .i64 b.brk) ∧ W.cell? ⟨w.heap.size, 3, none⟩ = some (.int .i64 b.drag) ∧ W.cell? ⟨w.heap.size, 4, none⟩ = some (.int .i64 b.drv) ∧ W.cell? ⟨g1, j, none⟩ = some (.int .i64 L) ∧ W.cell? ⟨w1.heap.size, j + 1, none⟩ = some (.int .i64 z)) := Lib.hid (fun W hW => ⟨hW, hW.at2.cell 0, hW.at2.cell 1, hW.at2.cell 2, hW.at2.cell 3, hW.at2.cell 4, by rw [hW.at1.rowF_at (by omega), HL.out], by rw [hW.top.rowF_at (by omega), if_pos (Nat.le_refl _), HZ.out]⟩)
        have F10 : Fr w _ [(w1.heap.size, 3, rowF (stop + 2) (fun i => if j + 1 ≤ i then crvV ps b.brk stop i else 0)), (g1, 3, rowF (ps.length + 1) (limV ps)), (w.heap.size, 64, #[.string s, .slice (some a) ps.length c, .int .i64 b.brk, .int .i64 b.drag, .int .i64 b.drv])] := FK.out
        clear FK
        refine Tw_start 17 (fun W => Fr w W [(w1.heap.size, 3, rowF (stop + 2) (fun i => if j + 1 ≤ i then crvV ps b.brk stop i else 0)), (g1, 3, rowF (ps.length + 1) (limV ps)), (w.heap.size, 64, #[.string s, .slice (some a) ps.length c, .int .i64 b.brk, .int .i64 b.drag, .int .i64 b.drv])] ∧ W.cell? ⟨w.heap.size, 0, none⟩ = some (.string s) ∧ W.cell? ⟨w.heap.size, 1, none⟩ = some (.slice (some a) ps.length c) ∧ W.cell? ⟨w.heap.size, 2, none⟩ = some (.int .i64 b.brk) ∧ W.cell? ⟨w.heap.size, 3, none⟩ = some (.int .i64 b.drag) ∧ W.cell? ⟨w.heap.size, 4, none⟩ = some (.int .i64 b.drv) ∧ W.cell? ⟨g1, j, none⟩ = some (.int .i64 L) ∧ W.cell? ⟨w1.heap.size, j + 1, none⟩ = some (.int .i64 z)) (by kernel_rfl) (by kernel_rfl) rfl ?_ ?_
        · (try dsimp only)
          ((go_split_ands; refine HALL.out _ ?_; (first | assumption | (repeat (first | assumption | refine Fr.new ?_ _ | refine Fr.drew ?_ | (refine Fr.set ?_ (by first | exact Nat.le_refl _ | omega | (simp; done) | (simp; omega)) (by first | (simp; done) | (simp; omega)) _))); done)))
        refine Tw_takeL (i := 0) (v := ?tv1) rfl (by kernel_rfl) (by decide) (by kernel_rfl) (by kernel_rfl) (fun _ _ _ h => h) (by rfl) ?ty1 ?tn1
        case ty1 => (intro w hSw; (try dsimp only at hSw); go_simp <;> with_reducible rfl)
        (try simp only [Act.put, List.setIfInBounds_toArray, List.set_cons_zero, List.set_cons_succ])
        refine Tw_takeL (i := 1) (v := ?tv2) rfl (by kernel_rfl) (by decide) (by kernel_rfl) (by kernel_rfl) (fun _ _ _ h => h) (by rfl) ?ty2 ?tn2
        case ty2 => (intro w hSw; (try dsimp only at hSw); go_simp <;> with_reducible rfl)
        (try simp only [Act.put, List.setIfInBounds_toArray, List.set_cons_zero, List.set_cons_succ])
        refine Tw_takeL (i := 2) (v := ?tv3) rfl (by kernel_rfl) (by decide) (by kernel_rfl) (by kernel_rfl) (fun _ _ _ h => h) (by rfl) ?ty3 ?tn3
        case ty3 => (intro w hSw; (try dsimp only at hSw); go_simp <;> with_reducible rfl)
        (try simp only [Act.put, List.setIfInBounds_toArray, List.set_cons_zero, List.set_cons_succ])
        refine Tw_takeL (i := 3) (v := ?tv4) rfl (by kernel_rfl) (by decide) (by kernel_rfl) (by kernel_rfl) (fun _ _ _ h => h) (by rfl) ?ty4 ?tn4
        case ty4 => (intro w hSw; (try dsimp only at hSw); go_simp <;> with_reducible rfl)
        (try simp only [Act.put, List.setIfInBounds_toArray, List.set_cons_zero, List.set_cons_succ])
        refine Tw_takeL (i := 4) (v := ?tv5) rfl (by kernel_rfl) (by decide) (by kernel_rfl) (by kernel_rfl) (fun _ _ _ h => h) (by rfl) ?ty5 ?tn5
        case ty5 => (intro w hSw; (try dsimp only at hSw); go_simp <;> with_reducible rfl)
        (try simp only [Act.put, List.setIfInBounds_toArray, List.set_cons_zero, List.set_cons_succ])
        refine Tw_takeL (i := 5) (v := ?tv6) rfl (by kernel_rfl) (by decide) (by kernel_rfl) (by kernel_rfl) (fun _ _ _ h => h) (by rfl) ?ty6 ?tn6
        case ty6 => (intro w hSw; (try dsimp only at hSw); go_simp <;> with_reducible rfl)
        (try simp only [Act.put, List.setIfInBounds_toArray, List.set_cons_zero, List.set_cons_succ])
        refine Tw_takeL (i := 6) (v := ?tv7) rfl (by kernel_rfl) (by decide) (by kernel_rfl) (by kernel_rfl) (fun _ _ _ h => h) (by rfl) ?ty7 ?tn7
        case ty7 => (intro w hSw; (try dsimp only at hSw); go_simp <;> with_reducible rfl)
        (try simp only [Act.put, List.setIfInBounds_toArray, List.set_cons_zero, List.set_cons_succ])
        refine Tw_takeL (i := 7) (v := ?tv8) rfl (by kernel_rfl) (by decide) (by kernel_rfl) (by kernel_rfl) (fun _ _ _ h => h) (by rfl) ?ty8 ?tn8
        case ty8 => (intro w hSw; (try dsimp only at hSw); go_simp <;> with_reducible rfl)
        (try simp only [Act.put, List.setIfInBounds_toArray, List.set_cons_zero, List.set_cons_succ])
        refine Tw_takeL (i := 8) (v := ?tv9) rfl (by kernel_rfl) (by decide) (by kernel_rfl) (by kernel_rfl) (fun _ _ _ h => h) (by rfl) ?ty9 ?tn9
        case ty9 => (intro w hSw; (try dsimp only at hSw); go_simp <;> with_reducible rfl)
        (try simp only [Act.put, List.setIfInBounds_toArray, List.set_cons_zero, List.set_cons_succ])
        refine Tw_takeL (i := 9) (v := ?tv10) rfl (by kernel_rfl) (by decide) (by kernel_rfl) (by kernel_rfl) (fun _ _ _ h => h) (by rfl) ?ty10 ?tn10
        case ty10 => (intro w hSw; (try dsimp only at hSw); go_simp <;> with_reducible rfl)
        (try simp only [Act.put, List.setIfInBounds_toArray, List.set_cons_zero, List.set_cons_succ])
        refine Tw_takeL (i := 10) (v := ?tv11) rfl (by kernel_rfl) (by decide) (by kernel_rfl) (by kernel_rfl) (fun _ _ _ h => h) (by rfl) ?ty11 ?tn11
        case ty11 => (intro w hSw; (try dsimp only at hSw); go_simp <;> with_reducible rfl)
        (try simp only [Act.put, List.setIfInBounds_toArray, List.set_cons_zero, List.set_cons_succ])
        refine Tw_takeL (i := 11) (v := ?tv12) rfl (by kernel_rfl) (by decide) (by kernel_rfl) (by kernel_rfl) (fun _ _ _ h => h) (by rfl) ?ty12 ?tn12
        case ty12 => (intro w hSw; (try dsimp only at hSw); go_simp <;> with_reducible rfl)
        (try simp only [Act.put, List.setIfInBounds_toArray, List.set_cons_zero, List.set_cons_succ])
        refine Tw_takeL (i := 12) (v := ?tv13) rfl (by kernel_rfl) (by decide) (by kernel_rfl) (by kernel_rfl) (fun _ _ _ h => h) (by rfl) ?ty13 ?tn13
        case ty13 => (intro w hSw; (try dsimp only at hSw); go_simp <;> with_reducible rfl)
        (try simp only [Act.put, List.setIfInBounds_toArray, List.set_cons_zero, List.set_cons_succ])
        refine Tw_all (rs := [13]) (by kernel_rfl) (by simp) (by decide) (fun hHeld => ?_)
        refine AllT.consL rfl (fun K hK => ?_) AllT.nil
        go_simp
        (go_at_call 38; go_split_ands; (with_reducible refine (HBR.out _ (Fr.lies HA.out (by assumption))).mono ?_); rintro e w7 ⟨rfl, hb7⟩; have F4 := Fr.call (by assumption) hb7; clear hb7)
        refine hK.out _ _ ?_ ?_
        · (try dsimp only)
          ((go_split_ands; refine HALL.out _ ?_; (first | assumption | (repeat (first | assumption | refine Fr.new ?_ _ | refine Fr.drew ?_ | (refine Fr.set ?_ (by first | exact Nat.le_refl _ | omega | (simp; done) | (simp; omega)) (by first | (simp; done) | (simp; omega)) _))); done)))
        clear hK K
        (try simp only [Act.put, List.setIfInBounds_toArray, List.set_cons_zero, List.set_cons_succ])
        refine Tw_takeL (i := 14) (v := ?tv14) rfl (by kernel_rfl) (by decide) (by kernel_rfl) (by kernel_rfl) (fun _ _ _ h => h) (by rfl) ?ty14 ?tn14
        case ty14 => (intro w hSw; (try dsimp only at hSw); go_simp <;> with_reducible rfl)
        (try simp only [Act.put, List.setIfInBounds_toArray, List.set_cons_zero, List.set_cons_succ])
        refine Tw_takeL (i := 15) (v := ?tv15) rfl (by kernel_rfl) (by decide) (by kernel_rfl) (by kernel_rfl) (fun _ _ _ h => h) (by rfl) ?ty15 ?tn15
        case ty15 => (intro w hSw; (try dsimp only at hSw); go_simp <;> with_reducible rfl)
        (try simp only [Act.put, List.setIfInBounds_toArray, List.set_cons_zero, List.set_cons_succ])
        refine Tw_takeL (i := 16) (v := ?tv16) rfl (by kernel_rfl) (by decide) (by kernel_rfl) (by kernel_rfl) (fun _ _ _ h => h) (by rfl) ?ty16 ?tn16
        case ty16 => (intro w hSw; (try dsimp only at hSw); go_simp <;> with_reducible rfl)
        (try simp only [Act.put, List.setIfInBounds_toArray, List.set_cons_zero, List.set_cons_succ])
        refine Tw_end (by kernel_rfl) (fun hh => ?_)
        obtain ⟨F11, _⟩ := hh
        clear HALL
        have HF := Lib.hid F11
        have c0 := F11.top.rowF_at (k := j) (by omega)
        have f0 := F11.top.frozen j
        have zN := F11.top.lt
        clear F11
        go_wp2_with fail
        all_goals
          go_meet
          exact ⟨cong64 (by have h1 := HM.out; first | omega | (simp at h1; omega)), Fr.valR2 (HF.out.putR j m (Nat.le_of_lt (Nat.lt_trans HG1.out z1.out)) (far2 HG1.out z1.out)) (cong64 (by have h1 := HM.out; first | omega | (simp at h1; omega)))⟩
      case rest =>
        obtain ⟨wx, rfl⟩ : ∃ W, W = wc := ⟨_, rfl⟩
        obtain ⟨rfl, hx⟩ := hcut
        have FC := Lib.hid hx
        clear hx FK
        have q0 := FC.out.top.rowF_at (k := j) (by omega)
        have q1 := FC.out.top.rowF_at (k := j + 1) (by omega)
        rw [if_pos rfl] at q0
        rw [if_neg (by omega), if_pos (Nat.le_refl _), HZ.out] at q1
        have qf := FC.out.top.frozen j
        have qz := FC.out.top.lt
        by_cases hm0 : m < 0
        · go_wp2_with fail
          go_roundw
          case rel => exact ⟨j, by omega, rfl, (FC.out.putR j (-1) (Nat.le_of_lt (Nat.lt_trans HG1.out z1.out)) (far2 HG1.out z1.out)).congrR (crv_new hjs HZ.out HMM.out (v := -1) (by rw [if_pos hm0]; split <;> rfl) _ (fun i hi e => by rw [if_neg e, if_neg e]) (by rw [if_pos rfl]))⟩
          case measure => simp [intOf] <;> omega
        · by_cases hz0 : z = -1
          · have ge : (z == -1) = true := by simp [hz0]
            have HZ0 := Lib.hid hz0
            clear hz0
            go_wp2_with fail
            go_roundw
            case rel => exact ⟨j, by omega, rfl, (FC.out.putR j (-1) (Nat.le_of_lt (Nat.lt_trans HG1.out z1.out)) (far2 HG1.out z1.out)).congrR (crv_new hjs HZ.out HMM.out (v := -1) (by rw [if_pos HZ0.out]) _ (fun i hi e => by rw [if_neg e, if_neg e]) (by rw [if_pos rfl]))⟩
            case measure => simp [intOf] <;> omega
          · have ge : (z == -1) = false := by simp [hz0]
            have HZ0 := Lib.hid hz0
            clear hz0
            go_wp2_with fail
            go_roundw
            case rel => exact ⟨j, by omega, rfl, FC.out.congrR (crv_new hjs HZ.out HMM.out (v := m) (by rw [if_neg HZ0.out, if_neg hm0]) _ (fun i hi e => by rw [if_neg e]) (by rw [if_pos rfl]))⟩
            case measure => simp [intOf] <;> omega

end Go.Proofs.Ytaghpemdcmjchaa
