
/-
  The walks of Handed and of the reference's.
-/
import Derived.Test.YtohldmmfnjfgmaaDoorTChP
import Derived.Test.YtohldmmfnjfgmaaDoorTHdA
import Derived.Test.YtohldmmfnjfgmaaDoorTOvR
import Derived.Deep.RegionLaw
import Derived.Deep.AppendLies
namespace Go.Proofs.YtohldmmfnjfgmaaDoor
open Go.RowKit

set_option maxHeartbeats 2000000 in
theorem Handed_bad (f t : T3) (s : Int) (h : ¬ (okT f = true ∧ okT t = true) ∨ inB s 1 100 = false) (w : World) :
    Calls Tryd.prog 49 #[(.agg #[.int .i64 f.a, .int .i64 f.b]), (.agg #[.int .i64 t.a, .int .i64 t.b]), .int .i64 s] w fun e w' => e = .returned (.tuple #[.slice none 0 0, .int .i64 2]) ∧ Below w.heap.size w w' := by
  have B0 := Lib.hid (box3 w #[.int .i64 f.a, .int .i64 f.b] #[.int .i64 t.a, .int .i64 t.b] #[.int .i64 f.a, .int .i64 f.b, .int .i64 t.a, .int .i64 t.b] 24 24 24)
  by_cases hc : okT f = true ∧ okT t = true
  · have hs : inB s 1 100 = false := by rcases h with h | h; · exact absurd hc h
                                        · exact h
    have e0 : Hid (vsE [f, t] = 0) := Lib.hid (by rw [vs2, if_pos hc])
    have HS := Lib.hid hs
    clear hc h hs
    go_enter Tryd.func49, Tryd.ntmps49
    go_wp2_with fail
    refine (checkTwo f t w _ _).mono ?_
    rintro e w1 ⟨rfl, hb1⟩
    rw [e0.out]
    have B1 := Lib.hid (Below.step B0.out hb1)
    clear hb1 B0
    go_wp2_with (go_at_call 60; refine (within_any _ _ _ _).mono ?_; rintro e w' ⟨rfl, rfl⟩; rw [HS.out])
    go_ret2
    exact ⟨rfl, B1.out⟩
  · have e0 : Hid (vsE [f, t] = 2) := Lib.hid (by rw [vs2, if_neg hc])
    clear hc h
    go_enter Tryd.func49, Tryd.ntmps49
    go_wp2_with fail
    refine (checkTwo f t w _ _).mono ?_
    rintro e w1 ⟨rfl, hb1⟩
    rw [e0.out]
    have B1 := Lib.hid (Below.step B0.out hb1)
    clear hb1 B0
    go_wp2_with fail
    go_ret2
    exact ⟨rfl, B1.out⟩

set_option maxHeartbeats 4000000 in
set_option maxRecDepth 100000 in
theorem Handed_ok (f t : T3) (n : Nat) (hf : okT f = true) (ht : okT t = true) (h1 : 1 ≤ n) (h2 : n ≤ 100) (w : World) :
    Calls Tryd.prog 49 #[(.agg #[.int .i64 f.a, .int .i64 f.b]), (.agg #[.int .i64 t.a, .int .i64 t.b]), .int .i64 (n : Int)] w fun e w' => ∃ g : Hd, e = .returned (.tuple #[.slice g.A n g.c, .int .i64 0]) ∧ Lies w' w'.heap.size g.A ((hdL f t n n).flatMap tc) ∧ Below w.heap.size w w' := by
  have e0 : Hid (vsE [f, t] = 0) := Lib.hid (by rw [vs2, if_pos ⟨hf, ht⟩])
  have HS : Hid (inB (n : Int) 1 100 = true) := Lib.hid (inB_iff.2 (by omega))
  have F0 := Lib.hid (Fr.b3 w 24 #[.int .i64 f.a, .int .i64 f.b] 24 #[.int .i64 t.a, .int .i64 t.b] 24 #[.int .i64 f.a, .int .i64 f.b, .int .i64 t.a, .int .i64 t.b])
  have hbf := okT_bd hf
  have hbt := okT_bd ht
  have HPA : Hid (∀ k : Nat, k ≤ 101 → (-20200000 ≤ k * (t.a - f.a) ∧ k * (t.a - f.a) ≤ 20200000) ∧ -20200000 ≤ (k * (t.a - f.a)) / (n : Int) ∧ (k * (t.a - f.a)) / (n : Int) ≤ 20200000) := Lib.hid (fun k hk => hdP_bd (s := n) (by omega) ⟨hbf.a0, hbf.a1⟩ ⟨hbt.a0, hbt.a1⟩ k hk)
  have HPB : Hid (∀ k : Nat, k ≤ 101 → (-20200000 ≤ k * (t.b - f.b) ∧ k * (t.b - f.b) ≤ 20200000) ∧ -20200000 ≤ (k * (t.b - f.b)) / (n : Int) ∧ (k * (t.b - f.b)) / (n : Int) ≤ 20200000) := Lib.hid (fun k hk => hdP_bd (s := n) (by omega) ⟨hbf.b0, hbf.b1⟩ ⟨hbt.b0, hbt.b1⟩ k hk)
  have HMI := Lib.hid (minus_any t f (hbt.more (by omega)) (hbf.more (by omega)))
  have HBF := Lib.hid hbf
  clear hf ht hbt hbf
  go_enter Tryd.func49, Tryd.ntmps49
  go_wp2_with fail
  refine (checkTwo f t w _ _).mono ?_
  rintro e w1 ⟨rfl, hb1⟩
  rw [e0.out]
  have F1 := Lib.hid (F0.out.call hb1)
  obtain ⟨c0, c1, _, _⟩ := F1.out.at2.two
  obtain ⟨d0, d1, _, _⟩ := F1.out.at1.two
  clear hb1 F0
  go_wp2_with (go_at_call 60; refine (within_any _ _ _ _).mono ?_; rintro e w' ⟨rfl, rfl⟩; rw [HS.out])
  refine (HMI.out _).mono ?_
  rintro e w2 ⟨rfl, hb2⟩
  obtain ⟨va, hva⟩ : ∃ va, t.a - f.a = va := ⟨_, rfl⟩
  obtain ⟨vb, hvb⟩ : ∃ vb, t.b - f.b = vb := ⟨_, rfl⟩
  have hsub : t.sub f = ⟨va, vb⟩ := by rw [← hva, ← hvb]; rfl
  rw [hsub]
  have F2 : Hid (Fr w _ [(w2.heap.size, 24, #[.int .i64 va, .int .i64 vb]), (w.heap.size, 24, #[.int .i64 f.a, .int .i64 f.b])]) := Lib.hid ⟨(Fr.box (F1.out.call hb2) 24 #[.int .i64 va, .int .i64 vb]).bl, fun b hb => by
    have G := Fr.box (F1.out.call hb2) 24 #[.int .i64 va, .int .i64 vb]
    simp at hb
    rcases hb with rfl | rfl
    · exact G.top
    · exact G.get 3 rfl⟩
  have hz2 : w.heap.size + 1 + 1 < w2.heap.size := (F1.out.call hb2).top.lt
  rw [hva] at HPA
  rw [hvb] at HPB
  have HVA := Lib.hid hva
  have HVB := Lib.hid hvb
  clear hb2 F1 c0 c1 d0 d1 hva hvb hsub
  go_wp2_with fail
  go_loopw [10, 11] (fun v i wr => ∃ k : Nat, k ≤ n ∧ i = .int .i64 ((k : Int) + 1) ∧ wr.ownsRow (w2.heap.size + 1) 24 2 v k ((hdL f t n k).flatMap tc) ∧ Fr w wr [(w2.heap.size, 24, #[.int .i64 va, .int .i64 vb]), (w.heap.size, 24, #[.int .i64 f.a, .int .i64 f.b])]) (fun _ i _ => n + 1 - (intOf i).toNat)
  case atStart => exact ⟨0, Nat.zero_le _, rfl, World.ownsRow_nil _ _ _ _, F2.out⟩
  case round =>
    clear F2
    obtain ⟨k, hk, rfl, hown, hfr⟩ := hrel
    obtain ⟨gs, rfl, _, _, _⟩ := own_slice hown
    have HO := Lib.hid hown
    have FK := Lib.hid hfr
    obtain ⟨x0, x1, _, _⟩ := hfr.top.two
    have hzz := hfr.top.lt
    clear hown hfr
    by_cases hlt : k < n
    · have hki : (k : Int) + 1 ≤ (n : Int) := by omega
      have hkb : decide ((k : Int) + 1 ≤ (n : Int)) = true := by simp; omega
      obtain ⟨⟨a0, a1⟩, a2, a3⟩ := HPA.out (k + 1) (by omega)
      obtain ⟨⟨b0, b1⟩, b2, b3⟩ := HPB.out (k + 1) (by omega)
      rw [show ((k + 1 : Nat) : Int) = (k : Int) + 1 by omega] at a0 a1 a2 a3 b0 b1 b2 b3
      obtain ⟨ma, hma⟩ : ∃ m, ((k : Int) + 1) * va = m := ⟨_, rfl⟩
      obtain ⟨mb, hmb⟩ : ∃ m, ((k : Int) + 1) * vb = m := ⟨_, rfl⟩
      rw [hma] at a0 a1 a2 a3
      rw [hmb] at b0 b1 b2 b3
      obtain ⟨qa, hqa⟩ : ∃ q, ma / (n : Int) = q := ⟨_, rfl⟩
      obtain ⟨qb, hqb⟩ : ∃ q, mb / (n : Int) = q := ⟨_, rfl⟩
      rw [hqa] at a2 a3
      rw [hqb] at b2 b3
      have HFA : Hid (∀ w, Calls Tryd.prog 78 #[.int .i64 ma, .int .i64 (n : Int)] w fun e w' => e = .returned (.int .i64 qa) ∧ w = w') := Lib.hid (fun w => by have := floor_any ma n (by omega) (by omega) (by omega) (by omega) w; rw [hqa] at this; exact this)
      have HFB : Hid (∀ w, Calls Tryd.prog 78 #[.int .i64 mb, .int .i64 (n : Int)] w fun e w' => e = .returned (.int .i64 qb) ∧ w = w') := Lib.hid (fun w => by have := floor_any mb n (by omega) (by omega) (by omega) (by omega) w; rw [hqb] at this; exact this)
      have HEA : Hid (f.a + qa = hdP f.a t.a n (k + 1)) := Lib.hid (by unfold hdP; rw [HVA.out, show ((k + 1 : Nat) : Int) = (k : Int) + 1 by omega, hma, hqa])
      have HEB : Hid (f.b + qb = hdP f.b t.b n (k + 1)) := Lib.hid (by unfold hdP; rw [HVB.out, show ((k + 1 : Nat) : Int) = (k : Int) + 1 by omega, hmb, hqb])
      have wa : IntKind.i64.wrap (((k : Int) + 1) * va) = ma := by rw [hma]; exact IntWalk.i64_in _ ⟨by omega, by omega⟩
      have wb : IntKind.i64.wrap (((k : Int) + 1) * vb) = mb := by rw [hmb]; exact IntWalk.i64_in _ ⟨by omega, by omega⟩
      have HPL := Lib.hid (plus_any f ⟨qa, qb⟩ (HBF.out.more (by omega)) ⟨by simp only; omega, by simp only; omega, by simp only; omega, by simp only; omega⟩)
      clear hma hmb hqa hqb
      go_upto_region 11 with fail
      go_cut [12] from 31 to 43 (fun r W => r = .pointer (some ⟨wr.heap.size, 0, none⟩) ∧ Bk W wr.heap.size 24 #[.int .i64 qa, .int .i64 qb] ∧ Below wr.heap.size wr W)
      case first =>
        have HALL : Hid (∀ W, Fr w W [(w2.heap.size, 24, #[.int .i64 va, .int .i64 vb]), (w.heap.size, 24, #[.int .i64 f.a, .int .i64 f.b])] → Fr w W [(w2.heap.size, 24, #[.int .i64 va, .int .i64 vb]), (w.heap.size, 24, #[.int .i64 f.a, .int .i64 f.b])] ∧ W.cell? ⟨w2.heap.size, 0, none⟩ = some (.int .i64 va) ∧ W.cell? ⟨w2.heap.size, 1, none⟩ = some (.int .i64 vb)) := Lib.hid (fun W hW => ⟨hW, hW.top.cell 0, hW.top.cell 1⟩)
        have F10 : Fr w _ [(w2.heap.size, 24, #[.int .i64 va, .int .i64 vb]), (w.heap.size, 24, #[.int .i64 f.a, .int .i64 f.b])] := FK.out
        go_region_held3 (fun W => Fr w W [(w2.heap.size, 24, #[.int .i64 va, .int .i64 vb]), (w.heap.size, 24, #[.int .i64 f.a, .int .i64 f.b])] ∧ W.cell? ⟨w2.heap.size, 0, none⟩ = some (.int .i64 va) ∧ W.cell? ⟨w2.heap.size, 1, none⟩ = some (.int .i64 vb))
          ((go_split_ands; refine HALL.out _ ?_; (first | assumption | (repeat (first | assumption | refine Fr.new ?_ _ | refine Fr.drew ?_ | (refine Fr.set ?_ (by first | exact Nat.le_refl _ | omega | (simp; done) | (simp; omega)) (by first | (simp; done) | (simp; omega)) _))); done)))
          ((first
            | (go_at_call 78; go_split_ands; (with_reducible refine (HFA.out _).mono ?_); rintro e w' ⟨rfl, rfl⟩)
            | (go_at_call 78; go_split_ands; (with_reducible refine (HFB.out _).mono ?_); rintro e w' ⟨rfl, rfl⟩)
            | fail "arm"))
        all_goals
          go_split_ands
          go_wp2_with fail
          go_meet
          refine ⟨rfl, ?_, ?_⟩
          · first | exact (Bk.new _ _ _).drew | exact Bk.new _ _ _ | exact Bk.set2 (Bk.new _ _ _) _ _ | exact (Bk.set2 (Bk.new _ _ _) _ _).drew
          · exact (by repeat (first | exact Below.refl _ _ | refine Below.drew ?_ | refine Below.setCell ?_ (by first | (simp; done) | (simp; omega) | omega) _ | refine Below.alloc ?_ (by first | (simp; done) | (simp; omega) | omega) _ | exact Below.refl _ _))
      case rest =>
        obtain ⟨wx, rfl⟩ : ∃ W, W = wc := ⟨_, rfl⟩
        obtain ⟨rfl, hbk, hbx⟩ := hcut
        have FC := Lib.hid (FK.out.call hbx)
        have OC := Lib.hid (own_below HO.out hbx)
        have NC := Lib.hid hbk
        obtain ⟨y0, y1, _, _⟩ := hbk.two
        have hy := hbk.lt
        clear hbk hbx x0 x1 hzz
        obtain ⟨x0, x1, _, _⟩ := FC.out.at1.two
        have hzz := FC.out.at1.lt
        go_wp2_with fail
        refine (HPL.out _).mono ?_
        rintro e w5 ⟨rfl, hb5⟩
        have F5 := Lib.hid (FC.out.call hb5)
        have O5 := Lib.hid (own_below OC.out hb5)
        have hsz5 := F5.out.top.lt
        clear hb5 FC OC NC y0 y1 x0 x1 hzz hy
        obtain ⟨i1, hi, hz0, hz1, hzb⟩ := info_parts info_third
        go_wp2_with (at_builtin; refine wpList_append_own _ rfl _ _ 43 rfl (w2.heap.size + 1) 24 i1 (.agg #[.int .i64 0, .int .i64 0]) 2 16 Tryd.underlying43 hi hz0 hz1 hzb rfl (by decide) _ _ _ rfl (own_below O5.out ((Below.refl _ _).alloc (Nat.le_refl _) _)) _ _ _ [.int .i64 (f.a + qa), .int .i64 (f.b + qb)] rfl rfl (Bk.new _ _ _).adds (fun u hu => by simp at hu; rcases hu with rfl | rfl <;> rfl) (by unfold maxLen; omega) (by omega) (by simp; omega) ?_)
        intro v' w7 o7 g7 _
        have q7 := Lib.hid (Fr.grown (F5.out.new _) g7 (fun q e => (O5.out.lt q e).1) (by omega) (fun b hb => by simp at hb; rcases hb with rfl | rfl <;> (dsimp only; omega)))
        have o8 : Hid (w7.ownsRow (w2.heap.size + 1) 24 2 v' (k + 1) ((hdL f t n (k + 1)).flatMap tc)) := Lib.hid (by rw [hdL_flat]; exact own_thr o7 HEA.out HEB.out)
        clear o7 g7
        go_wp2_with fail
        go_roundw
        case rel => exact ⟨k + 1, by omega, by go_num, o8.out, q7.out⟩
        case measure => simp [intOf]; omega
    · obtain rfl : k = n := by omega
      have HLs := Lib.hid (own_lies HO.out).1
      go_wp2_with fail
      go_ret2
      exact ⟨gs, rfl, HLs.out, FK.out.bl⟩
end Go.Proofs.YtohldmmfnjfgmaaDoor
