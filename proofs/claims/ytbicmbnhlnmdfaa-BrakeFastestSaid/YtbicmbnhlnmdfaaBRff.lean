
/-
  The walk of the reference's Fastest.
-/
import Derived.Test.YtbicmbnhlnmdfaaBFs2
import Derived.Test.YtbicmbnhlnmdfaaBRf2
namespace Go.Proofs.Ytbicmbnhlnmdfaa
open Go.RowKit

/-- A slice and true, or false alone. -/
def RowB (w : World) (l : List Int) (ok : Bool) (e : Ending) (w' : World) : Prop := ∃ g : Hd, e = .returned (.tuple #[.slice g.A (if ok = true then l.length else 0) g.c, .bool ok]) ∧ (ok = true → Lies w' w'.heap.size g.A (ic l)) ∧ Below w.heap.size w w'
theorem rowNo {w0 w1 w : World} {l : List Int} {ok : Bool} {bs : List (Nat × TypeId × Array Value)} (h : ok = false) (hb : Below w0.heap.size w0 w1) (hf : Fr w1 w bs) : RowB w0 l ok (.returned (.tuple #[.slice none 0 0, .bool false])) w := by
  subst h
  refine ⟨⟨none, 0⟩, ?_, ?_, Below.step hb hf.bl⟩
  · rw [if_neg (by simp)]
  · intro h; cases h
theorem rowYes {w0 w1 w : World} {v : Value} {n base : Nat} {f : Nat → Int} {ok : Bool} {e : TypeId} {bs : List (Nat × TypeId × Array Value)} (h : ok = true) (ho : w.ownsRow base e 1 v n (ic (listF n f))) (hb : Below w0.heap.size w0 w1) (hf : Fr w1 w bs) : RowB w0 (listF n f) ok (.returned (.tuple #[v, .bool true])) w := by
  subst h
  obtain ⟨g, rfl, hL, _, _⟩ := own_slice ho
  exact ⟨g, by rw [if_pos rfl, listF_len], fun _ => hL, Below.step hb hf.bl⟩
theorem list_cell2 {w : World} {B : Nat} {a : Addr} {n k : Nat} {f : Nat → Int} (h : Lies w B (some a) (ic (listF n f))) (hk : k < n) : w.cell? (a.add k) = some (.int .i64 (f k)) := by
  obtain ⟨b, e, _, c⟩ := h.num (listF_at hk)
  injection e with e
  subst e
  exact c
theorem Fr.base5 {w W W' : World} {bs : List (Nat × TypeId × Array Value)} (h : Fr w W bs) (hb : Below W.heap.size W W') : Fr W W' bs := ⟨hb, fun b hm => (h.bk b hm).call hb⟩
theorem fas_bw {ps : List Bp} {b : Bs} {e0 e1 : Int} (h0 : 0 ≤ e0) (h : fasB ps b e0 e1 = true) (i : Nat) (hi : i ≤ ps.length) : 0 ≤ bwV ps b.brk e1 i := by
  obtain ⟨g1, g2⟩ := fasB_iff.1 h
  cases i with
  | zero => omega
  | succ i => have := g2 (i + 1) hi; have := fw_le_bw ps b e0 e1 i; omega
theorem fas_no1 {ps : List Bp} {b : Bs} {e0 e1 : Int} (h0 : 0 ≤ e0) (i : Nat) (hi : i ≤ ps.length) (hn : bwV ps b.brk e1 i < 0) : fasB ps b e0 e1 = false := by
  cases h : fasB ps b e0 e1 with
  | false => rfl
  | true => have := fas_bw h0 h i hi; omega
theorem fas_no2 {ps : List Bp} {b : Bs} {e0 e1 : Int} (hn : bwV ps b.brk e1 0 < e0) : fasB ps b e0 e1 = false := by
  cases h : fasB ps b e0 e1 with
  | false => rfl
  | true => have := (fasB_iff.1 h).1; omega
theorem fas_no3 {ps : List Bp} {b : Bs} {e0 e1 : Int} (i : Nat) (hi : i ≤ ps.length) (hn : fwV ps b e0 e1 i < 0) : fasB ps b e0 e1 = false := by
  cases h : fasB ps b e0 e1 with
  | false => rfl
  | true => have := (fasB_iff.1 h).2 i hi; omega
theorem drv_loss (p : Bp) (d : Int) : drvG p d = -(lossV p (-d)) := by
  unfold drvG lossV
  rw [← Int.neg_mul, show 2 * (d - 10 * p.grad) = -(2 * (-d + 10 * p.grad)) by omega]

set_option maxHeartbeats 8000000 in
set_option maxRecDepth 100000 in
theorem refFastest_any (s : ByteArray) (ps : List Bp) (a : Addr) (c : Nat) (b : Bs) (hb : OkS b) (h0 : ps.length ≠ 0) (h12 : ps.length ≤ 12) (hx : ∀ p ∈ ps, okP p = true) (e0 e1 : Int) (he0 : 0 ≤ e0 ∧ e0 ≤ 20000000000) (he1 : 0 ≤ e1 ∧ e1 ≤ 20000000000) (w : World) (hA : Lies w w.heap.size (some a) (ps.flatMap pc)) :
    Calls Try.prog 22 #[.agg #[.string s, .slice (some a) ps.length c], .agg #[.int .i64 b.brk, .int .i64 b.drag, .int .i64 b.drv], .agg #[.int .i64 e0, .int .i64 e1]] w (RowB w (listF (ps.length + 1) (fwV ps b e0 e1)) (fasB ps b e0 e1)) := by
  have F0 := Lib.hid (Fr.b3 w 24 #[.string s, .slice (some a) ps.length c] 26 #[.int .i64 b.brk, .int .i64 b.drag, .int .i64 b.drv] 59 #[.int .i64 e0, .int .i64 e1])
  have HA := Lib.hid hA
  have HX := Lib.hid hx
  have HB := Lib.hid hb
  have HE0 := Lib.hid he0
  have HE1 := Lib.hid he1
  obtain ⟨i0, hi0, hz0, hs0, hb0⟩ := info_parts info_int
  have hl : (ps.length : Int) ≤ 12 := by omega
  have hl1 : 1 ≤ (ps.length : Int) := by omega
  have hdb : Hid (-3000 ≤ b.brk ∧ b.brk ≤ 3000) := Lib.hid (by have := hb.b0; have := hb.b1; omega)
  have HTOP := Lib.hid (bwV_top ps b.brk e1)
  clear hA hx hb he0 he1
  go_enter Try.func22, Try.ntmps22
  go_wp2_with fail
  refine (refLimitsAt_any s ps a c h0 h12 HX.out _ (Fr.lies HA.out F0.out)).mono ?_
  rintro e w1 ⟨gl, rfl, hll, _, hb1⟩
  rw [listF_len]
  have G1 := Fr.call F0.out hb1
  have BW := Lib.hid G1.bl
  have F1 : Hid (Fr w1 w1 [(w.heap.size + 1 + 1, 59, #[.int .i64 e0, .int .i64 e1]), (w.heap.size + 1, 26, #[.int .i64 b.brk, .int .i64 b.drag, .int .i64 b.drv]), (w.heap.size, 24, #[.string s, .slice (some a) ps.length c])]) := Lib.hid (G1.base5 (Below.refl _ _))
  have HL := Lib.hid hll
  have HA1 := Lib.hid (Fr.lies HA.out G1)
  have HW1 : Hid (w.heap.size + 3 ≤ w1.heap.size) := Lib.hid (by have := (G1.get 0 rfl).lt; omega)
  have HFAR : Hid (∀ b' ∈ ([(w.heap.size + 1 + 1, 59, #[.int .i64 e0, .int .i64 e1]), (w.heap.size + 1, 26, #[.int .i64 b.brk, .int .i64 b.drag, .int .i64 b.drv]), (w.heap.size, 24, #[.string s, .slice (some a) ps.length c])] : List (Nat × TypeId × Array Value)), b'.1 ≠ w1.heap.size) := Lib.hid (fun b' hb' => by have h1 := (G1.bk b' hb').lt; omega)
  clear hll hb1 G1 F0 HA
  obtain ⟨al, hal, _, _⟩ := HL.out.num (listF_at (n := ps.length + 1) (f := limV ps) (k := 0) (by omega))
  obtain ⟨A4, c4⟩ := gl
  simp only at hal
  subst hal
  have HLI : Hid (∀ W, Fr w1 W [] → ∀ i, i < ps.length + 1 → W.cell? (al.add i) = some (.int .i64 (limV ps i))) := Lib.hid (fun W h i hi => list_cell2 (Lies.call HL.out h.bl) hi)
  have y2 := (F1.out.get 2 rfl).cell 0
  have y3 := (F1.out.get 2 rfl).cell 1
  go_wp2_with (at_make; refine wpList_make_full _ rfl _ _ 36 rfl w1.heap.size 3 i0 (.int .i64 0) 1 Try.underlying36 hi0 hz0 hs0 .i64 .i64 ((ps.length : Int) + 1) ((ps.length : Int) + 1) (ps.length + 1) rfl rfl (by omega) (by omega) (by rw [hb0]; omega) (by unfold maxLen; omega) (by simp) ?_; intro w2 ho2 hg2; have F2 := Lib.hid ((Fr.call F1.out (below_of_grown hg2)).more (made_bk ho2)); clear ho2 hg2)
  clear F1 y2 y3
  have c0 := F2.out.top.rowF_at (k := ps.length) (by omega)
  have cf := F2.out.top.frozen ps.length
  have cz := F2.out.top.lt
  have y1 := (F2.out.get 1 rfl).cell 1
  have x1 := HLI.out _ (F2.out.tail.tail.tail.tail) ps.length (by omega)
  obtain ⟨LL, hLL⟩ : ∃ LL, limV ps ps.length = LL := ⟨_, rfl⟩
  rw [hLL] at x1
  have HLL := Lib.hid hLL
  clear hLL
  go_upto_region 4 with fail
  go_cut [31] from 23 to 32 (fun r W => r = .int .i64 (min LL e1) ∧ Fr w1 W [(w1.heap.size, 3, rowF (ps.length + 1) (fun i => if ps.length ≤ i then bwV ps b.brk e1 i else 0)), (w.heap.size + 1 + 1, 59, #[.int .i64 e0, .int .i64 e1]), (w.heap.size + 1, 26, #[.int .i64 b.brk, .int .i64 b.drag, .int .i64 b.drv]), (w.heap.size, 24, #[.string s, .slice (some a) ps.length c])])
  case first =>
    have hN := Lib.hid ((F2.out.putR ps.length (min LL e1) (Nat.le_refl _) HFAR.out).congrR (f' := fun i => if ps.length ≤ i then bwV ps b.brk e1 i else 0) (fun i hi => by
      by_cases e : i = ps.length
      · rw [if_pos e, e, if_pos (Nat.le_refl _), HTOP.out, HLL.out]
      · rw [if_neg e, if_neg (by omega)]))
    go_region
    all_goals
      go_wp2_with fail
      all_goals
        go_meet
        exact ⟨cong64 (by first | omega | (split <;> omega)), (Fr.valR2 hN.out (cong64 (by first | omega | (split <;> omega)))).drew⟩
  case rest =>
  obtain ⟨w3, rfl⟩ : ∃ W, W = wc := ⟨_, rfl⟩
  obtain ⟨rfl, hx3⟩ := hcut
  have F3 := Lib.hid hx3
  clear hx3 F2 c0 cf cz y1 x1
  go_wp2_with fail
  go_loopw [11] (fun i wr => ∃ k : Nat, k ≤ ps.length ∧ i = .int .i64 ((k : Int) - 1) ∧ Fr w1 wr [(w1.heap.size, 3, rowF (ps.length + 1) (fun i => if k ≤ i then bwV ps b.brk e1 i else 0)), (w.heap.size + 1 + 1, 59, #[.int .i64 e0, .int .i64 e1]), (w.heap.size + 1, 26, #[.int .i64 b.brk, .int .i64 b.drag, .int .i64 b.drv]), (w.heap.size, 24, #[.string s, .slice (some a) ps.length c])]) (fun i _ => (intOf i + 1).toNat)
  case atStart => exact ⟨ps.length, Nat.le_refl _, by first | rfl | exact cong64 (by omega), F3.out⟩
  case round =>
    obtain ⟨k, hk, rfl, hf⟩ := hrel
    have FK := Lib.hid hf
    clear hf F3
    obtain ⟨v, hv⟩ : ∃ v : Int, v = (k : Int) - 1 := ⟨_, rfl⟩
    rw [← hv]
    cases k with
    | zero =>
      have hneg : v < 0 := by omega
      clear hv
      have F4 : Hid (Fr w1 wr [(w1.heap.size, 3, rowF (ps.length + 1) (bwV ps b.brk e1)), (w.heap.size + 1 + 1, 59, #[.int .i64 e0, .int .i64 e1]), (w.heap.size + 1, 26, #[.int .i64 b.brk, .int .i64 b.drag, .int .i64 b.drv]), (w.heap.size, 24, #[.string s, .slice (some a) ps.length c])]) := Lib.hid (FK.out.congrR (fun i _ => by rw [if_pos (Nat.zero_le _)]))
      clear FK
      have r0 := F4.out.top.rowF_at (k := 0) (by omega)
      have y0 := (F4.out.get 1 rfl).cell 0
      obtain ⟨z0, hz0'⟩ : ∃ z0, bwV ps b.brk e1 0 = z0 := ⟨_, rfl⟩
      rw [hz0'] at r0
      have HZ0 := Lib.hid hz0'
      have hnn : (0 : Int) < (ps.length : Int) + 1 := by omega
      clear hz0'
      go_upto_region 11 with fail
      go_cut [68] from 63 to 68 (fun r W => r = .bool (decide (z0 < e0)) ∧ Fr w1 W [(w1.heap.size, 3, rowF (ps.length + 1) (bwV ps b.brk e1)), (w.heap.size + 1 + 1, 59, #[.int .i64 e0, .int .i64 e1]), (w.heap.size + 1, 26, #[.int .i64 b.brk, .int .i64 b.drag, .int .i64 b.drv]), (w.heap.size, 24, #[.string s, .slice (some a) ps.length c])])
      case first =>
        go_quiet (fail)
        go_wp2_with fail
        go_meet
        exact ⟨rfl, F4.out.call (below_drewN (Below.refl _ _) _)⟩
      case rest =>
      obtain ⟨w5, rfl⟩ : ∃ W, W = wc := ⟨_, rfl⟩
      obtain ⟨rfl, hx5⟩ := hcut
      have F5 := Lib.hid hx5
      clear hx5 F4 r0 y0
      by_cases hbg : z0 < e0
      · have HNO : Hid (fasB ps b e0 e1 = false) := Lib.hid (fas_no2 (by rw [HZ0.out]; exact hbg))
        rw [decide_eq_true hbg]
        clear hbg
        go_wp2_with fail
        go_ret2
        exact rowNo HNO.out BW.out F5.out
      · have HBG : Hid (e0 ≤ bwV ps b.brk e1 0) := Lib.hid (by rw [HZ0.out]; omega)
        rw [decide_eq_false hbg]
        clear hbg
        have y0 := (F5.out.get 1 rfl).cell 0
        have z1 := Lib.hid F5.out.top.lt
        go_wp2_with fail
        go_loopw [12, 13] (fun v i wr => ∃ k : Nat, k ≤ ps.length ∧ i = .int .i64 k ∧ (∀ j, j ≤ k → 0 ≤ fwV ps b e0 e1 j) ∧ wr.ownsRow (w1.heap.size + 1) 3 1 v (k + 1) (ic (listF (k + 1) (fwV ps b e0 e1))) ∧ Fr w1 wr [(w1.heap.size, 3, rowF (ps.length + 1) (bwV ps b.brk e1)), (w.heap.size + 1 + 1, 59, #[.int .i64 e0, .int .i64 e1]), (w.heap.size + 1, 26, #[.int .i64 b.brk, .int .i64 b.drag, .int .i64 b.drv]), (w.heap.size, 24, #[.string s, .slice (some a) ps.length c])]) (fun _ i _ => ps.length - (intOf i).toNat)
        case atStart => exact ⟨0, Nat.zero_le _, rfl, (fun j hj => by have e : j = 0 := (by omega); subst e; exact HE0.out.1), own_first (f := fwV ps b e0 e1) rfl (own_one z1.out), F5.out.new _⟩
        case round =>
          obtain ⟨k, hk, rfl, hpos, hown, hf⟩ := hrel
          clear F5 y0
          have HPOS := Lib.hid hpos
          have O1 := Lib.hid hown
          have FK := Lib.hid hf
          have hqb := fwV_bd HX.out h12 HB.out HE0.out HE1.out.1 k hk
          obtain ⟨gs, rfl, hLg, _, _⟩ := own_slice hown
          have HLG := Lib.hid hLg
          have hz := hf.top.lt
          clear hpos hown hf hLg
          obtain ⟨q, hqq⟩ : ∃ q, fwV ps b e0 e1 k = q := ⟨_, rfl⟩
          have HQK := Lib.hid hqq
          rw [hqq] at hqb
          clear hqq
          by_cases hlt : k < ps.length
          · have hlt' : (k : Int) < (ps.length : Int) := by omega
            have hj1 : (k : Int) + 1 < (ps.length : Int) + 1 := by omega
            have hj0 : (0 : Int) ≤ (k : Int) + 1 := by omega
            have hwj := IntWalk.i64_in ((k : Int) + 1) (by omega)
            have hks2 : (k : Int) < (k : Int) + 1 := by omega
            have hwd := IntWalk.i64_in (-b.drv) (by have := HB.out.v0; have := HB.out.v1; omega)
            have hdd : -3000 ≤ -b.drv ∧ -b.drv ≤ 3000 := by have := HB.out.v0; have := HB.out.v1; omega
            have hZB := bwV_bound HX.out h12 hdb.out HE1.out.1 (k + 1)
            have hEB := lossV_bound (gp_ok HX.out k) (d := -b.drv) hdd
            have HBR : Hid (∀ W, Lies W W.heap.size (some a) (ps.flatMap pc) → Calls Try.prog 48 #[.agg #[.string s, .slice (some a) ps.length c], .int .i64 k, .int .i64 (-b.drv)] W fun e w' => e = .returned (.int .i64 (lossV (gp ps k) (-b.drv))) ∧ Below W.heap.size W w') := Lib.hid (fun W hW => loses_any s ps a c h12 HX.out k hlt (-b.drv) hdd W hW)
            have HSTEP : Hid (fwV ps b e0 e1 (k + 1) = min (bwV ps b.brk e1 (k + 1)) (q - lossV (gp ps k) (-b.drv))) := Lib.hid (by rw [fwV, HQK.out, drv_loss]; rfl)
            obtain ⟨aq, haq, _, _⟩ := HLG.out.num (listF_at (n := k + 1) (f := fwV ps b e0 e1) (k := k) (by omega))
            obtain ⟨z, hz3⟩ : ∃ z, bwV ps b.brk e1 (k + 1) = z := ⟨_, rfl⟩
            obtain ⟨l, hl2⟩ : ∃ l, lossV (gp ps k) (-b.drv) = l := ⟨_, rfl⟩
            rw [hz3, hl2] at HSTEP
            obtain ⟨m, hm⟩ : ∃ m, min z (q - l) = m := ⟨_, rfl⟩
            rw [hm] at HSTEP
            have HZ := Lib.hid hz3
            have HM : Hid ((q - l < z → m = q - l) ∧ (z ≤ q - l → m = z)) := Lib.hid ⟨fun h => by omega, fun h => by omega⟩
            rw [hz3] at hZB
            rw [hl2] at hEB HBR
            have hwz := IntWalk.i64_in (q - l) (by omega)
            obtain ⟨zb2, zb3⟩ := hZB
            obtain ⟨eb0, eb1⟩ := hEB
            obtain ⟨qb0, qb1⟩ := hqb
            obtain ⟨A5, c5⟩ := gs
            simp only at haq
            subst haq
            clear hz3 hl2 hm hdd
            have x3 := (FK.out.get 2 rfl).cell 2
            go_upto_region 17 with fail
            clear x3
            go_cut [14] from 77 to 93 (fun r W => r = .int .i64 m ∧ Fr wr W [])
            case first =>
              have HA8 : Hid (Lies wr wr.heap.size (some a) (ps.flatMap pc)) := Lib.hid (Fr.lies HA1.out FK.out)
              have HALL : Hid (∀ W, Fr wr W [] → Fr wr W [] ∧ W.cell? ⟨w.heap.size, 0, none⟩ = some (.string s) ∧ W.cell? ⟨w.heap.size, 1, none⟩ = some (.slice (some a) ps.length c) ∧ W.cell? ⟨w.heap.size + 1, 0, none⟩ = some (.int .i64 b.brk) ∧ W.cell? ⟨w.heap.size + 1, 1, none⟩ = some (.int .i64 b.drag) ∧ W.cell? ⟨w.heap.size + 1, 2, none⟩ = some (.int .i64 b.drv) ∧ W.cell? ⟨w1.heap.size, k + 1, none⟩ = some (.int .i64 z) ∧ W.cell? (aq.add k) = some (.int .i64 q)) := Lib.hid (fun W hW => ⟨hW, ((FK.out.get 3 rfl).call hW.bl).cell 0, ((FK.out.get 3 rfl).call hW.bl).cell 1, ((FK.out.get 2 rfl).call hW.bl).cell 0, ((FK.out.get 2 rfl).call hW.bl).cell 1, ((FK.out.get 2 rfl).call hW.bl).cell 2, by rw [(FK.out.top.call hW.bl).rowF_at (by omega), HZ.out], by obtain ⟨a5, e5, _, y5⟩ := (HLG.out.below hW.bl).num (listF_at (n := k + 1) (f := fwV ps b e0 e1) (k := k) (by omega)); cases e5; rw [← HQK.out]; exact y5⟩)
              have F10 : Fr wr wr [] := Fr.nil wr
              go_region_held3 (fun W => Fr wr W [] ∧ W.cell? ⟨w.heap.size, 0, none⟩ = some (.string s) ∧ W.cell? ⟨w.heap.size, 1, none⟩ = some (.slice (some a) ps.length c) ∧ W.cell? ⟨w.heap.size + 1, 0, none⟩ = some (.int .i64 b.brk) ∧ W.cell? ⟨w.heap.size + 1, 1, none⟩ = some (.int .i64 b.drag) ∧ W.cell? ⟨w.heap.size + 1, 2, none⟩ = some (.int .i64 b.drv) ∧ W.cell? ⟨w1.heap.size, k + 1, none⟩ = some (.int .i64 z) ∧ W.cell? (aq.add k) = some (.int .i64 q))
                ((go_split_ands; refine HALL.out _ ?_; (first | assumption | (repeat (first | assumption | refine Fr.new ?_ _ | refine Fr.drew ?_ | (refine Fr.set ?_ (by first | exact Nat.le_refl _ | omega | (simp; done) | (simp; omega)) (by first | (simp; done) | (simp; omega)) _))); done)))
                ((first
                  | (go_at_call 48; go_split_ands; (with_reducible refine (HBR.out _ (Fr.lies HA8.out (by assumption))).mono ?_); rintro e w7 ⟨rfl, hb7⟩; have F4 := Fr.call (by assumption) hb7; clear hb7)
                  | fail "arm"))
              all_goals
                go_split_ands
                go_wp2_with fail
                all_goals
                  go_meet
                  exact ⟨cong64 (by have h1 := HM.out; first | omega | (simp at h1; omega)), by assumption⟩
            case rest =>
              obtain ⟨wx, rfl⟩ : ∃ W, W = wc := ⟨_, rfl⟩
              obtain ⟨rfl, hx8⟩ := hcut
              have FC := Lib.hid (FK.out.call hx8.bl)
              have O2 := Lib.hid (own_below O1.out hx8.bl)
              clear O1 FK hx8 HLG
              by_cases hm0 : m < 0
              · have HNO : Hid (fasB ps b e0 e1 = false) := Lib.hid (fas_no3 (k + 1) (by omega) (by rw [HSTEP.out]; exact hm0))
                go_wp2_with fail
                go_ret2
                exact rowNo HNO.out BW.out FC.out
              · have HP2 : Hid (∀ i, i ≤ k + 1 → 0 ≤ fwV ps b e0 e1 i) := Lib.hid (fun i hi => by
                  by_cases e : i = k + 1
                  · subst e; rw [HSTEP.out]; omega
                  · exact HPOS.out i (by omega))
                have hi := hi0
                go_wp2_with (at_builtin; refine wpList_append_own _ rfl _ _ 36 rfl (w1.heap.size + 1) 3 i0 (.int .i64 0) 1 8 Try.underlying36 hi hz0 hs0 hb0 rfl (by decide) _ _ _ rfl (own_below O2.out ((Below.refl _ _).alloc (Nat.le_refl _) _)) _ _ _ [.int .i64 _] rfl rfl (Bk.new _ _ _).adds (fun u hu => by simp at hu; subst hu; rfl) (by unfold maxLen; omega) (by omega) (by have h5 := FC.out.top.lt; simp; omega) ?_)
                all_goals
                  intro v' w7 o7 g7 _
                  have q7 := Lib.hid (Fr.grown2 (FC.out.new _) g7 (fun q e => (O2.out.lt q e).1) (by omega) (by have := HW1.out; intro b hb; simp only [List.mem_cons, List.not_mem_nil, or_false] at hb; rcases hb with rfl | rfl | rfl | rfl <;> (dsimp only; omega)))
                  have o8 := Lib.hid (own_snoc o7 HSTEP.out.symm)
                  clear o7 g7
                  go_wp2_with fail
                  go_roundw
                  case rel => exact ⟨k + 1, by omega, by go_num, HP2.out, o8.out, q7.out⟩
                  case measure => simp [intOf] <;> omega
          · obtain rfl : k = ps.length := by omega
            have HYES : Hid (fasB ps b e0 e1 = true) := Lib.hid (fasB_iff.2 ⟨HBG.out, HPOS.out⟩)
            go_wp2_with fail
            go_ret2
            exact rowYes HYES.out O1.out BW.out FK.out
    | succ j =>
      obtain rfl : v = (j : Int) := by omega
      have hwj := IntWalk.i64_in ((j : Int) + 1) (by omega)
      have hj0 : (0 : Int) ≤ (j : Int) + 1 := by omega
      have hj1 : (j : Int) < (ps.length : Int) := by omega
      have hj3 : (j : Int) < (ps.length : Int) + 1 := by omega
      have hj4 : (j : Int) + 1 < (ps.length : Int) + 1 := by omega
      have hLB := limV_bound HX.out j
      have hZB := bwV_bound HX.out h12 hdb.out HE1.out.1 (j + 1)
      have hEB := lossV_bound (gp_ok HX.out j) (d := b.brk) hdb.out
      have HBR : Hid (∀ W, Lies W W.heap.size (some a) (ps.flatMap pc) → Calls Try.prog 48 #[.agg #[.string s, .slice (some a) ps.length c], .int .i64 j, .int .i64 b.brk] W fun e w' => e = .returned (.int .i64 (lossV (gp ps j) b.brk)) ∧ Below W.heap.size W w') := Lib.hid (fun W hW => loses_any s ps a c h12 HX.out j (by omega) b.brk hdb.out W hW)
      have HSTEP := Lib.hid (bwV_step ps b.brk e1 j (by omega))
      obtain ⟨L, hL⟩ : ∃ L, limV ps j = L := ⟨_, rfl⟩
      obtain ⟨z, hz⟩ : ∃ z, bwV ps b.brk e1 (j + 1) = z := ⟨_, rfl⟩
      obtain ⟨l, hl3⟩ : ∃ l, lossV (gp ps j) b.brk = l := ⟨_, rfl⟩
      rw [hL, hz, hl3] at HSTEP
      obtain ⟨m, hm⟩ : ∃ m, min L (z + l) = m := ⟨_, rfl⟩
      rw [hm] at HSTEP
      have HZ := Lib.hid hz
      have HLJ := Lib.hid hL
      have HM : Hid ((z + l < L → m = z + l) ∧ (L ≤ z + l → m = L)) := Lib.hid ⟨fun h => by omega, fun h => by omega⟩
      rw [hL] at hLB
      rw [hz] at hZB
      rw [hl3] at hEB HBR
      have hwz := IntWalk.i64_in (z + l) (by omega)
      obtain ⟨lb0, lb1⟩ := hLB
      obtain ⟨zb0, zb1⟩ := hZB
      obtain ⟨eb0, eb1⟩ := hEB
      clear hL hz hl3 hm hv
      have HN : Hid (∀ W, Fr w1 W [(w1.heap.size, 3, rowF (ps.length + 1) (fun i => if j + 1 ≤ i then bwV ps b.brk e1 i else 0)), (w.heap.size + 1 + 1, 59, #[.int .i64 e0, .int .i64 e1]), (w.heap.size + 1, 26, #[.int .i64 b.brk, .int .i64 b.drag, .int .i64 b.drv]), (w.heap.size, 24, #[.string s, .slice (some a) ps.length c])] → Fr w1 (W.setCell ⟨w1.heap.size, j, none⟩ (.int .i64 m)) [(w1.heap.size, 3, rowF (ps.length + 1) (fun i => if j ≤ i then bwV ps b.brk e1 i else 0)), (w.heap.size + 1 + 1, 59, #[.int .i64 e0, .int .i64 e1]), (w.heap.size + 1, 26, #[.int .i64 b.brk, .int .i64 b.drag, .int .i64 b.drv]), (w.heap.size, 24, #[.string s, .slice (some a) ps.length c])]) := Lib.hid (fun W hW => (hW.putR j m (Nat.le_refl _) HFAR.out).congrR (fun i hi => by
        by_cases e : i = j
        · subst e; rw [if_pos rfl, if_pos (Nat.le_refl _), HSTEP.out]
        · rw [if_neg e]
          by_cases e2 : j + 1 ≤ i
          · rw [if_pos e2, if_pos (by omega)]
          · rw [if_neg e2, if_neg (by omega)]))
      go_upto_region 8 with fail
      go_cut [] from 39 to 57 (fun W => Fr w1 W [(w1.heap.size, 3, rowF (ps.length + 1) (fun i => if j ≤ i then bwV ps b.brk e1 i else 0)), (w.heap.size + 1 + 1, 59, #[.int .i64 e0, .int .i64 e1]), (w.heap.size + 1, 26, #[.int .i64 b.brk, .int .i64 b.drag, .int .i64 b.drv]), (w.heap.size, 24, #[.string s, .slice (some a) ps.length c])])
      case first =>
        have HA8 : Hid (Lies wr wr.heap.size (some a) (ps.flatMap pc)) := Lib.hid (Fr.lies HA1.out FK.out)
        have HALL : Hid (∀ W, Fr wr W [] → Fr wr W [] ∧ W.cell? ⟨w.heap.size, 0, none⟩ = some (.string s) ∧ W.cell? ⟨w.heap.size, 1, none⟩ = some (.slice (some a) ps.length c) ∧ W.cell? ⟨w.heap.size + 1, 0, none⟩ = some (.int .i64 b.brk) ∧ W.cell? ⟨w.heap.size + 1, 1, none⟩ = some (.int .i64 b.drag) ∧ W.cell? ⟨w.heap.size + 1, 2, none⟩ = some (.int .i64 b.drv) ∧ W.cell? ⟨w1.heap.size, j + 1, none⟩ = some (.int .i64 z) ∧ W.cell? (al.add j) = some (.int .i64 L)) := Lib.hid (fun W hW => ⟨hW, ((FK.out.get 3 rfl).call hW.bl).cell 0, ((FK.out.get 3 rfl).call hW.bl).cell 1, ((FK.out.get 2 rfl).call hW.bl).cell 0, ((FK.out.get 2 rfl).call hW.bl).cell 1, ((FK.out.get 2 rfl).call hW.bl).cell 2, by rw [(FK.out.top.call hW.bl).rowF_at (by omega), if_pos (Nat.le_refl _), HZ.out], by rw [← HLJ.out]; exact HLI.out _ (((FK.out.tail.tail.tail.tail).call hW.bl)) j (by omega)⟩)
        have F10 : Fr wr wr [] := Fr.nil wr
        refine Tw_start 19 (fun W => Fr wr W [] ∧ W.cell? ⟨w.heap.size, 0, none⟩ = some (.string s) ∧ W.cell? ⟨w.heap.size, 1, none⟩ = some (.slice (some a) ps.length c) ∧ W.cell? ⟨w.heap.size + 1, 0, none⟩ = some (.int .i64 b.brk) ∧ W.cell? ⟨w.heap.size + 1, 1, none⟩ = some (.int .i64 b.drag) ∧ W.cell? ⟨w.heap.size + 1, 2, none⟩ = some (.int .i64 b.drv) ∧ W.cell? ⟨w1.heap.size, j + 1, none⟩ = some (.int .i64 z) ∧ W.cell? (al.add j) = some (.int .i64 L)) (by kernel_rfl) (by kernel_rfl) rfl ?_ ?_
        · (try dsimp only)
          ((go_split_ands; refine HALL.out _ ?_; (first | assumption | (repeat (first | assumption | refine Fr.new ?_ _ | refine Fr.drew ?_ | (refine Fr.set ?_ (by first | exact Nat.le_refl _ | omega | (simp; done) | (simp; omega)) (by first | (simp; done) | (simp; omega)) _))); done)))
        refine Tw_takeL (i := 0) (v := ?tv29) rfl (by kernel_rfl) (by decide) (by kernel_rfl) (by kernel_rfl) (fun _ _ _ h => h) (by rfl) ?ty29 ?tn29
        case ty29 => (intro w hSw; (try dsimp only at hSw); go_simp <;> with_reducible rfl)
        (try simp only [Act.put, List.setIfInBounds_toArray, List.set_cons_zero, List.set_cons_succ])
        refine Tw_takeL (i := 1) (v := ?tv30) rfl (by kernel_rfl) (by decide) (by kernel_rfl) (by kernel_rfl) (fun _ _ _ h => h) (by rfl) ?ty30 ?tn30
        case ty30 => (intro w hSw; (try dsimp only at hSw); go_simp <;> with_reducible rfl)
        (try simp only [Act.put, List.setIfInBounds_toArray, List.set_cons_zero, List.set_cons_succ])
        refine Tw_takeL (i := 2) (v := ?tv31) rfl (by kernel_rfl) (by decide) (by kernel_rfl) (by kernel_rfl) (fun _ _ _ h => h) (by rfl) ?ty31 ?tn31
        case ty31 => (intro w hSw; (try dsimp only at hSw); go_simp <;> with_reducible rfl)
        (try simp only [Act.put, List.setIfInBounds_toArray, List.set_cons_zero, List.set_cons_succ])
        refine Tw_takeL (i := 3) (v := ?tv32) rfl (by kernel_rfl) (by decide) (by kernel_rfl) (by kernel_rfl) (fun _ _ _ h => h) (by rfl) ?ty32 ?tn32
        case ty32 => (intro w hSw; (try dsimp only at hSw); go_simp <;> with_reducible rfl)
        (try simp only [Act.put, List.setIfInBounds_toArray, List.set_cons_zero, List.set_cons_succ])
        refine Tw_takeL (i := 4) (v := ?tv33) rfl (by kernel_rfl) (by decide) (by kernel_rfl) (by kernel_rfl) (fun _ _ _ h => h) (by rfl) ?ty33 ?tn33
        case ty33 => (intro w hSw; (try dsimp only at hSw); go_simp <;> with_reducible rfl)
        (try simp only [Act.put, List.setIfInBounds_toArray, List.set_cons_zero, List.set_cons_succ])
        refine Tw_takeL (i := 5) (v := ?tv34) rfl (by kernel_rfl) (by decide) (by kernel_rfl) (by kernel_rfl) (fun _ _ _ h => h) (by rfl) ?ty34 ?tn34
        case ty34 => (intro w hSw; (try dsimp only at hSw); go_simp <;> with_reducible rfl)
        (try simp only [Act.put, List.setIfInBounds_toArray, List.set_cons_zero, List.set_cons_succ])
        refine Tw_takeL (i := 6) (v := ?tv35) rfl (by kernel_rfl) (by decide) (by kernel_rfl) (by kernel_rfl) (fun _ _ _ h => h) (by rfl) ?ty35 ?tn35
        case ty35 => (intro w hSw; (try dsimp only at hSw); go_simp <;> with_reducible rfl)
        (try simp only [Act.put, List.setIfInBounds_toArray, List.set_cons_zero, List.set_cons_succ])
        refine Tw_takeL (i := 7) (v := ?tv36) rfl (by kernel_rfl) (by decide) (by kernel_rfl) (by kernel_rfl) (fun _ _ _ h => h) (by rfl) ?ty36 ?tn36
        case ty36 => (intro w hSw; (try dsimp only at hSw); go_simp <;> with_reducible rfl)
        (try simp only [Act.put, List.setIfInBounds_toArray, List.set_cons_zero, List.set_cons_succ])
        refine Tw_takeL (i := 8) (v := ?tv37) rfl (by kernel_rfl) (by decide) (by kernel_rfl) (by kernel_rfl) (fun _ _ _ h => h) (by rfl) ?ty37 ?tn37
        case ty37 => (intro w hSw; (try dsimp only at hSw); go_simp <;> with_reducible rfl)
        (try simp only [Act.put, List.setIfInBounds_toArray, List.set_cons_zero, List.set_cons_succ])
        refine Tw_takeL (i := 9) (v := ?tv38) rfl (by kernel_rfl) (by decide) (by kernel_rfl) (by kernel_rfl) (fun _ _ _ h => h) (by rfl) ?ty38 ?tn38
        case ty38 => (intro w hSw; (try dsimp only at hSw); go_simp <;> with_reducible rfl)
        (try simp only [Act.put, List.setIfInBounds_toArray, List.set_cons_zero, List.set_cons_succ])
        refine Tw_takeL (i := 10) (v := ?tv39) rfl (by kernel_rfl) (by decide) (by kernel_rfl) (by kernel_rfl) (fun _ _ _ h => h) (by rfl) ?ty39 ?tn39
        case ty39 => (intro w hSw; (try dsimp only at hSw); go_simp <;> with_reducible rfl)
        (try simp only [Act.put, List.setIfInBounds_toArray, List.set_cons_zero, List.set_cons_succ])
        refine Tw_takeL (i := 11) (v := ?tv40) rfl (by kernel_rfl) (by decide) (by kernel_rfl) (by kernel_rfl) (fun _ _ _ h => h) (by rfl) ?ty40 ?tn40
        case ty40 => (intro w hSw; (try dsimp only at hSw); go_simp <;> with_reducible rfl)
        (try simp only [Act.put, List.setIfInBounds_toArray, List.set_cons_zero, List.set_cons_succ])
        refine Tw_takeL (i := 12) (v := ?tv41) rfl (by kernel_rfl) (by decide) (by kernel_rfl) (by kernel_rfl) (fun _ _ _ h => h) (by rfl) ?ty41 ?tn41
        case ty41 => (intro w hSw; (try dsimp only at hSw); go_simp <;> with_reducible rfl)
        (try simp only [Act.put, List.setIfInBounds_toArray, List.set_cons_zero, List.set_cons_succ])
        refine Tw_takeL (i := 13) (v := ?tv42) rfl (by kernel_rfl) (by decide) (by kernel_rfl) (by kernel_rfl) (fun _ _ _ h => h) (by rfl) ?ty42 ?tn42
        case ty42 => (intro w hSw; (try dsimp only at hSw); go_simp <;> with_reducible rfl)
        (try simp only [Act.put, List.setIfInBounds_toArray, List.set_cons_zero, List.set_cons_succ])
        refine Tw_takeL (i := 14) (v := ?tv43) rfl (by kernel_rfl) (by decide) (by kernel_rfl) (by kernel_rfl) (fun _ _ _ h => h) (by rfl) ?ty43 ?tn43
        case ty43 => (intro w hSw; (try dsimp only at hSw); go_simp <;> with_reducible rfl)
        (try simp only [Act.put, List.setIfInBounds_toArray, List.set_cons_zero, List.set_cons_succ])
        refine Tw_all (rs := [15]) (by kernel_rfl) (by simp) (by decide) (fun hHeld => ?_)
        refine AllT.consL rfl (fun K hK => ?_) AllT.nil
        go_simp
        (go_at_call 48; go_split_ands; (with_reducible refine (HBR.out _ (Fr.lies HA8.out (by assumption))).mono ?_); rintro e w7 ⟨rfl, hb7⟩; have F4 := Fr.call (by assumption) hb7; clear hb7)
        refine hK.out _ _ ?_ ?_
        · (try dsimp only)
          ((go_split_ands; refine HALL.out _ ?_; (first | assumption | (repeat (first | assumption | refine Fr.new ?_ _ | refine Fr.drew ?_ | (refine Fr.set ?_ (by first | exact Nat.le_refl _ | omega | (simp; done) | (simp; omega)) (by first | (simp; done) | (simp; omega)) _))); done)))
        clear hK K
        (try simp only [Act.put, List.setIfInBounds_toArray, List.set_cons_zero, List.set_cons_succ])
        refine Tw_takeL (i := 16) (v := ?tv44) rfl (by kernel_rfl) (by decide) (by kernel_rfl) (by kernel_rfl) (fun _ _ _ h => h) (by rfl) ?ty44 ?tn44
        case ty44 => (intro w hSw; (try dsimp only at hSw); go_simp <;> with_reducible rfl)
        (try simp only [Act.put, List.setIfInBounds_toArray, List.set_cons_zero, List.set_cons_succ])
        refine Tw_takeL (i := 17) (v := ?tv45) rfl (by kernel_rfl) (by decide) (by kernel_rfl) (by kernel_rfl) (fun _ _ _ h => h) (by rfl) ?ty45 ?tn45
        case ty45 => (intro w hSw; (try dsimp only at hSw); go_simp <;> with_reducible rfl)
        (try simp only [Act.put, List.setIfInBounds_toArray, List.set_cons_zero, List.set_cons_succ])
        refine Tw_takeL (i := 18) (v := ?tv46) rfl (by kernel_rfl) (by decide) (by kernel_rfl) (by kernel_rfl) (fun _ _ _ h => h) (by rfl) ?ty46 ?tn46
        case ty46 => (intro w hSw; (try dsimp only at hSw); go_simp <;> with_reducible rfl)
        (try simp only [Act.put, List.setIfInBounds_toArray, List.set_cons_zero, List.set_cons_succ])
        refine Tw_end (by kernel_rfl) (fun hh => ?_)
        obtain ⟨F11, _⟩ := hh
        have HF := Lib.hid (FK.out.call F11.bl)
        clear HALL F11
        have c0 := HF.out.top.rowF_at (k := j) (by omega)
        have f0 := HF.out.top.frozen j
        have zN := HF.out.top.lt
        go_wp2_with fail
        all_goals
          go_meet
          exact Fr.valR2 (HN.out _ HF.out) (cong64 (by have h1 := HM.out; first | omega | (simp at h1; omega)))
      case rest =>
      obtain ⟨w8, rfl⟩ : ∃ W, W = wc := ⟨_, rfl⟩
      have F8 := Lib.hid hcut
      clear hcut FK HN
      have c0 := F8.out.top.rowF_at (k := j) (by omega)
      rw [if_pos (Nat.le_refl _), HSTEP.out] at c0
      by_cases hm0 : m < 0
      · have HNO : Hid (fasB ps b e0 e1 = false) := Lib.hid (fas_no1 HE0.out.1 j (by omega) (by rw [HSTEP.out]; exact hm0))
        go_wp2_with fail
        go_ret2
        exact rowNo HNO.out BW.out F8.out
      · go_wp2_with fail
        go_roundw
        case rel => exact ⟨j, by omega, rfl, F8.out⟩
        case measure => simp [intOf] <;> omega
end Go.Proofs.Ytbicmbnhlnmdfaa
