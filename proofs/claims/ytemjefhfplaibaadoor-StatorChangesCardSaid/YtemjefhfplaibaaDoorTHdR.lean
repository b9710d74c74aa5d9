
/-
  The walk of the reference's Handed.
-/
import Derived.Test.YtemjefhfplaibaaDoorTChP
import Derived.Test.YtemjefhfplaibaaDoorTOvR
import Derived.Test.YtemjefhfplaibaaDoorTHdA
import Derived.Deep.RegionLaw
import Derived.Deep.AppendLies
namespace Go.Proofs.YtemjefhfplaibaaDoor
open Go.RowKit

set_option maxHeartbeats 4000000 in
set_option maxRecDepth 100000 in
theorem refHanded_any (f t : T3) (n : Nat) (hf : okT f = true) (ht : okT t = true) (h1 : 1 ≤ n) (h2 : n ≤ 100) (w : World) :
    Calls Tryd.prog 48 #[(.agg #[.int .i64 f.a, .int .i64 f.b]), (.agg #[.int .i64 t.a, .int .i64 t.b]), .int .i64 (n : Int)] w fun e w' => ∃ g : Hd, e = .returned (.slice g.A n g.c) ∧ Lies w' w'.heap.size g.A ((hdL f t n n).flatMap tc) ∧ Below w.heap.size w w' := by
  have F0 := Lib.hid (Fr.b2 w 24 #[.int .i64 f.a, .int .i64 f.b] 24 #[.int .i64 t.a, .int .i64 t.b])
  have hbf := okT_bd hf
  have hbt := okT_bd ht
  have HPA : Hid (∀ k : Nat, k ≤ 101 → (-20200000 ≤ k * (t.a - f.a) ∧ k * (t.a - f.a) ≤ 20200000) ∧ -20200000 ≤ (k * (t.a - f.a)) / (n : Int) ∧ (k * (t.a - f.a)) / (n : Int) ≤ 20200000) := Lib.hid (fun k hk => hdP_bd (s := n) (by omega) ⟨hbf.a0, hbf.a1⟩ ⟨hbt.a0, hbt.a1⟩ k hk)
  have HPB : Hid (∀ k : Nat, k ≤ 101 → (-20200000 ≤ k * (t.b - f.b) ∧ k * (t.b - f.b) ≤ 20200000) ∧ -20200000 ≤ (k * (t.b - f.b)) / (n : Int) ∧ (k * (t.b - f.b)) / (n : Int) ≤ 20200000) := Lib.hid (fun k hk => hdP_bd (s := n) (by omega) ⟨hbf.b0, hbf.b1⟩ ⟨hbt.b0, hbt.b1⟩ k hk)
  obtain ⟨fa0, fa1, fb0, fb1⟩ := hbf
  obtain ⟨ta0, ta1, tb0, tb1⟩ := hbt
  clear hf ht
  go_enter Tryd.func48, Tryd.ntmps48
  go_wp2_with fail
  go_loopw [7, 8] (fun v i wr => ∃ k : Nat, k ≤ n ∧ i = .int .i64 ((k : Int) + 1) ∧ wr.ownsRow (w.heap.size + 1 + 1) 24 2 v k ((hdL f t n k).flatMap tc) ∧ Fr w wr [(w.heap.size + 1, 24, #[.int .i64 t.a, .int .i64 t.b]), (w.heap.size, 24, #[.int .i64 f.a, .int .i64 f.b])]) (fun _ i _ => n + 1 - (intOf i).toNat)
  case atStart => exact ⟨0, Nat.zero_le _, rfl, World.ownsRow_nil _ _ _ _, F0.out⟩
  case round =>
    clear F0
    obtain ⟨k, hk, rfl, hown, hfr⟩ := hrel
    obtain ⟨gs, rfl, _, _, _⟩ := own_slice hown
    have HO := Lib.hid hown
    have FK := Lib.hid hfr
    obtain ⟨x0, x1, _, _⟩ := hfr.top.two
    obtain ⟨y0, y1, _, _⟩ := hfr.at1.two
    have hzz := hfr.top.lt
    clear hown hfr
    by_cases hlt : k < n
    · have hki : (k : Int) + 1 ≤ (n : Int) := by omega
      have hkb : decide ((k : Int) + 1 ≤ (n : Int)) = true := by simp; omega
      obtain ⟨⟨a0, a1⟩, a2, a3⟩ := HPA.out (k + 1) (by omega)
      obtain ⟨⟨b0, b1⟩, b2, b3⟩ := HPB.out (k + 1) (by omega)
      rw [show ((k + 1 : Nat) : Int) = (k : Int) + 1 by omega] at a0 a1 a2 a3 b0 b1 b2 b3
      have wva : IntKind.i64.wrap (t.a - f.a) = t.a - f.a := IntWalk.i64_in _ ⟨by omega, by omega⟩
      have wvb : IntKind.i64.wrap (t.b - f.b) = t.b - f.b := IntWalk.i64_in _ ⟨by omega, by omega⟩
      obtain ⟨ma, hma⟩ : ∃ m, ((k : Int) + 1) * (t.a - f.a) = m := ⟨_, rfl⟩
      obtain ⟨mb, hmb⟩ : ∃ m, ((k : Int) + 1) * (t.b - f.b) = m := ⟨_, rfl⟩
      rw [hma] at a0 a1 a2 a3
      rw [hmb] at b0 b1 b2 b3
      obtain ⟨qa, hqa⟩ : ∃ q, ma / (n : Int) = q := ⟨_, rfl⟩
      obtain ⟨qb, hqb⟩ : ∃ q, mb / (n : Int) = q := ⟨_, rfl⟩
      rw [hqa] at a2 a3
      rw [hqb] at b2 b3
      have HFA : Hid (∀ w, Calls Tryd.prog 92 #[.int .i64 ma, .int .i64 (n : Int)] w fun e w' => e = .returned (.int .i64 qa) ∧ w = w') := Lib.hid (fun w => by have := Floor_any ma n (by omega) (by omega) (by omega) (by omega) w; rw [hqa] at this; exact this)
      have HFB : Hid (∀ w, Calls Tryd.prog 92 #[.int .i64 mb, .int .i64 (n : Int)] w fun e w' => e = .returned (.int .i64 qb) ∧ w = w') := Lib.hid (fun w => by have := Floor_any mb n (by omega) (by omega) (by omega) (by omega) w; rw [hqb] at this; exact this)
      have HEA : Hid (f.a + qa = hdP f.a t.a n (k + 1)) := Lib.hid (by unfold hdP; rw [show ((k + 1 : Nat) : Int) = (k : Int) + 1 by omega, hma, hqa])
      have HEB : Hid (f.b + qb = hdP f.b t.b n (k + 1)) := Lib.hid (by unfold hdP; rw [show ((k + 1 : Nat) : Int) = (k : Int) + 1 by omega, hmb, hqb])
      have wa : IntKind.i64.wrap (((k : Int) + 1) * (t.a - f.a)) = ma := by rw [hma]; exact IntWalk.i64_in _ ⟨by omega, by omega⟩
      have wb : IntKind.i64.wrap (((k : Int) + 1) * (t.b - f.b)) = mb := by rw [hmb]; exact IntWalk.i64_in _ ⟨by omega, by omega⟩
      have wqa : IntKind.i64.wrap (f.a + qa) = f.a + qa := IntWalk.i64_in _ ⟨by omega, by omega⟩
      have wqb : IntKind.i64.wrap (f.b + qb) = f.b + qb := IntWalk.i64_in _ ⟨by omega, by omega⟩
      clear hma hmb hqa hqb
      obtain ⟨i1, hi, hz0, hz1, hzb⟩ := info_parts info_third
      have HALL : Hid (∀ W, Fr w W [(w.heap.size + 1, 24, #[.int .i64 t.a, .int .i64 t.b]), (w.heap.size, 24, #[.int .i64 f.a, .int .i64 f.b])] → Fr w W [(w.heap.size + 1, 24, #[.int .i64 t.a, .int .i64 t.b]), (w.heap.size, 24, #[.int .i64 f.a, .int .i64 f.b])] ∧ W.cell? ⟨w.heap.size + 1, 0, none⟩ = some (.int .i64 t.a) ∧ W.cell? ⟨w.heap.size + 1, 1, none⟩ = some (.int .i64 t.b) ∧ W.cell? ⟨w.heap.size, 0, none⟩ = some (.int .i64 f.a) ∧ W.cell? ⟨w.heap.size, 1, none⟩ = some (.int .i64 f.b)) := Lib.hid (fun W hW => ⟨hW, hW.top.cell 0, hW.top.cell 1, hW.at1.cell 0, hW.at1.cell 1⟩)
      have F10 : Fr w _ [(w.heap.size + 1, 24, #[.int .i64 t.a, .int .i64 t.b]), (w.heap.size, 24, #[.int .i64 f.a, .int .i64 f.b])] := FK.out
      go_wp2_with fail
      go_region_held3 (fun W => Fr w W [(w.heap.size + 1, 24, #[.int .i64 t.a, .int .i64 t.b]), (w.heap.size, 24, #[.int .i64 f.a, .int .i64 f.b])] ∧ W.cell? ⟨w.heap.size + 1, 0, none⟩ = some (.int .i64 t.a) ∧ W.cell? ⟨w.heap.size + 1, 1, none⟩ = some (.int .i64 t.b) ∧ W.cell? ⟨w.heap.size, 0, none⟩ = some (.int .i64 f.a) ∧ W.cell? ⟨w.heap.size, 1, none⟩ = some (.int .i64 f.b))
        ((go_split_ands; refine HALL.out _ ?_; (first | assumption | (repeat (first | assumption | refine Fr.new ?_ _ | refine Fr.drew ?_ | (refine Fr.set ?_ (by first | exact Nat.le_refl _ | omega | (simp; done) | (simp; omega)) (by first | (simp; done) | (simp; omega)) _))); done)))
        ((first
          | (go_split_ands; refine step_append_lies _ rfl _ _ 63 rfl (w.heap.size + 1 + 1) 24 i1 (.agg #[.int .i64 0, .int .i64 0]) 2 16 Tryd.underlying63 hi hz0 hz1 hzb rfl (by decide) _ _ _ rfl (own_below HO.out (by repeat (first | exact Below.refl _ _ | refine Below.drew ?_ | refine Below.alloc ?_ (by first | exact Nat.le_refl _ | (simp; done) | (simp; omega)) _))) ⟨wr.heap.size, 0, none⟩ 1 1 [.int .i64 (f.a + qa), .int .i64 (f.b + qb)] rfl rfl (by first | exact (Bk.new _ _ _).adds | exact (Bk.new _ _ _).drew.adds) (fun u hu => by simp at hu; rcases hu with rfl | rfl <;> rfl) (by decide) (by unfold maxLen; omega) (by omega) (by simp; omega) _ rfl ?_; intro g cap w7 o7 g7 _ _; have F7 := Fr.grown (by repeat (first | exact FK.out | refine Fr.drew ?_ | refine Fr.new ?_ _) : Fr w _ [(w.heap.size + 1, 24, #[.int .i64 t.a, .int .i64 t.b]), (w.heap.size, 24, #[.int .i64 f.a, .int .i64 f.b])]) g7 (fun q e => (HO.out.lt q e).1) (by omega) (fun b hb => by simp at hb; rcases hb with rfl | rfl <;> (dsimp only; omega)))
          | (go_at_call 92; go_split_ands; (with_reducible refine (HFA.out _).mono ?_); rintro e w' ⟨rfl, rfl⟩)
          | (go_at_call 92; go_split_ands; (with_reducible refine (HFB.out _).mono ?_); rintro e w' ⟨rfl, rfl⟩)
          | fail "arm"))
      all_goals
        go_split_ands
        have q7 := Lib.hid F7
        have o8 : Hid (w7.ownsRow (w.heap.size + 1 + 1) 24 2 (.slice (some ⟨g, 0, none⟩) (k + 1) cap) (k + 1) ((hdL f t n (k + 1)).flatMap tc)) := Lib.hid (by rw [hdL_flat]; exact own_thr o7 HEA.out HEB.out)
        clear o7 g7
        go_wp2_with fail
        go_roundw
        case rel => exact ⟨k + 1, by omega, by go_num, o8.out, q7.out⟩
        case measure => simp [intOf]; omega
    · obtain rfl : k = n := by omega
      have HLs := Lib.hid (own_lies HO.out).1
      go_wp2_with fail
      go_ret
      exact ⟨gs, rfl, HLs.out, FK.out.bl⟩
end Go.Proofs.YtemjefhfplaibaaDoor
