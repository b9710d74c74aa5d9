
/-
  The walks of the functions of margins.
-/
import Derived.Test.YtemjefhfplaibaaDoorTChk2
namespace Go.Proofs.YtemjefhfplaibaaDoor
open Go.RowKit

theorem prod_bd {c f : T3} (hc : c.Bd 100000) (hf : f.Bd 100000) : (prodV c f).Bd 60000000000 := by
  obtain ⟨a0, a1, b0, b1⟩ := hc
  obtain ⟨c0, c1, d0, d1⟩ := hf
  have e1 : -200000 ≤ f.a - f.b ∧ f.a - f.b ≤ 200000 := by omega
  have e2 : -100000 ≤ -f.b ∧ -f.b ≤ 100000 := by omega
  obtain ⟨m1, m2⟩ := mulB ⟨a0, a1⟩ e1
  obtain ⟨m3, m4⟩ := mulB ⟨b0, b1⟩ e2
  obtain ⟨m5, m6⟩ := mulB ⟨a0, a1⟩ e2
  obtain ⟨m7, m8⟩ := mulB ⟨b0, b1⟩ e1
  exact ⟨by simp only [prodV, T3.mul, T3.conj]; omega, by simp only [prodV, T3.mul, T3.conj]; omega, by simp only [prodV, T3.mul, T3.conj]; omega, by simp only [prodV, T3.mul, T3.conj]; omega⟩
/-- What a margin comes to, of the product alone. -/
def margP (p q : Int) : Int := if q ≤ 0 then 0 else if max (2 * p - q) (-(2 * p - q)) ≤ q then 2 else if max (2 * p - q) (-(2 * p - q)) ≤ 3 * q then 1 else 0
theorem margin_eq (c f : T3) : marginV c f = margP (prodV c f).a (prodV c f).b := rfl
/-- What a region that puts a product in a new box leaves. -/
def ProdAt (w : World) (c f : T3) (g : Nat) (W : World) : Prop := Bk W g 24 #[.int .i64 (prodV c f).a, .int .i64 (prodV c f).b] ∧ Below w.heap.size w W

set_option maxHeartbeats 2000000 in
set_option maxRecDepth 100000 in
theorem MarginOf_any (c f : T3) (w : World) : Calls Tryd.prog 25 #[(.agg #[.int .i64 c.a, .int .i64 c.b]), (.agg #[.int .i64 f.a, .int .i64 f.b])] w fun e w' => e = .returned (.tuple #[.int .i64 (if vsE [c, f] = 0 then marginV c f else 0), .int .i64 (vsE [c, f])]) ∧ Below w.heap.size w w' := by
  have B0 := Lib.hid (box3 w #[.int .i64 c.a, .int .i64 c.b] #[.int .i64 f.a, .int .i64 f.b] #[.int .i64 c.a, .int .i64 c.b, .int .i64 f.a, .int .i64 f.b] 24 24 24)
  have T0 := Lib.hid (Two3.start w c f)
  by_cases hc : okT c = true ∧ okT f = true
  · have e0 : Hid (vsE [c, f] = 0) := Lib.hid (by rw [vs2, if_pos hc])
    have HC := Lib.hid ((okT_bd hc.1).more (K := 1000000000) (by omega))
    have HF := Lib.hid ((okT_bd hc.2).more (K := 1000000000) (by omega))
    have HG := Lib.hid ((conj_bd (okT_bd hc.2)).more (K := 1000000000) (by omega))
    have HP := Lib.hid (prod_bd (okT_bd hc.1) (okT_bd hc.2))
    rw [e0.out, if_pos rfl, margin_eq]
    obtain ⟨p, hp⟩ : ∃ p, (prodV c f).a = p := ⟨_, rfl⟩
    obtain ⟨q, hq⟩ : ∃ q, (prodV c f).b = q := ⟨_, rfl⟩
    rw [hp, hq]
    have HPa := Lib.hid hp
    have HPb := Lib.hid hq
    clear hc hp hq
    go_enter Tryd.func25, Tryd.ntmps25
    go_wp2_with fail
    refine (checkTwo c f w _ _).mono ?_
    rintro e w1 ⟨rfl, hb1⟩
    rw [e0.out]
    have T1 := Lib.hid (Two3.call (Two3.call T0.out (Below.new (Below.refl _ _) _)) hb1)
    have B1 := Lib.hid (Below.step B0.out hb1)
    obtain ⟨c0, c1, f0, f1⟩ := T1.out.all
    clear hb1 T0 B0
    have HALL : Hid (∀ W, Below w1.heap.size w1 W → S2 w1 w.heap.size (w.heap.size + 1) c f W) := Lib.hid (S2.mk T1.out)
    have s3 : w.heap.size ≤ w1.heap.size := B1.out.size
    go_upto_region 4 with fail
    go_cut [7] (fun s W => ∃ g : Nat, s = .pointer (some ⟨g, 0, none⟩) ∧ ProdAt w c f g W)
    case first =>
      go_region_held3 (fun W => Below w1.heap.size w1 W ∧ W.cell? ⟨w.heap.size, 0, none⟩ = some (.int .i64 c.a) ∧ W.cell? ⟨w.heap.size, 1, none⟩ = some (.int .i64 c.b) ∧ W.cell? ⟨w.heap.size + 1, 0, none⟩ = some (.int .i64 f.a) ∧ W.cell? ⟨w.heap.size + 1, 1, none⟩ = some (.int .i64 f.b))
        ((go_split_ands; refine HALL.out _ ?_; (first | assumption | exact Below.refl _ _ | exact (Below.refl _ _).drew | (repeat (first | assumption | exact Below.refl _ _ | refine Below.alloc ?_ (by first | exact Nat.le_refl _ | omega | (simp; done) | (simp; omega)) _ | refine Below.drew ?_ | (refine Below.setCell ?_ (by first | exact Nat.le_refl _ | omega | (simp; done) | (simp; omega)) _))); done)))
        ((first
          | (go_at_call 77; go_split_ands; (with_reducible refine (conjugate_any f HF.out _).mono ?_); rintro e w2 ⟨rfl, hb2⟩; have b2 : Below w1.heap.size w1 w2 := Below.step (by assumption) hb2; have z2 : w1.heap.size ≤ w2.heap.size := b2.size; (first | (have N1 := Bk.call (Bk.new _ 24 #[.int .i64 0, .int .i64 0]) hb2; obtain ⟨n0, n1, n2, n3⟩ := N1.two; have N2 := Lib.hid N1; clear N1) | (have N1 := Bk.call (Bk.drew (Bk.new _ 24 #[.int .i64 0, .int .i64 0])) hb2; obtain ⟨n0, n1, n2, n3⟩ := N1.two; have N2 := Lib.hid N1; clear N1) | (have N1 := Bk.call (Hid.out (by assumption : Hid (Bk _ _ 24 #[.int .i64 0, .int .i64 0]))) hb2; obtain ⟨n0, n1, n2, n3⟩ := N1.two; have N2 := Lib.hid N1; clear N1) | skip); clear hb2)
          | (go_at_call 76; go_split_ands; (with_reducible refine (times_any c f.conj HC.out HG.out _).mono ?_); rintro e w2 ⟨rfl, hb2⟩; have b2 : Below w1.heap.size w1 w2 := Below.step (by assumption) hb2; have z2 : w1.heap.size ≤ w2.heap.size := b2.size; (first | (have N1 := Bk.call (Bk.new _ 24 #[.int .i64 0, .int .i64 0]) hb2; obtain ⟨n0, n1, n2, n3⟩ := N1.two; have N2 := Lib.hid N1; clear N1) | (have N1 := Bk.call (Bk.drew (Bk.new _ 24 #[.int .i64 0, .int .i64 0])) hb2; obtain ⟨n0, n1, n2, n3⟩ := N1.two; have N2 := Lib.hid N1; clear N1) | (have N1 := Bk.call (Hid.out (by assumption : Hid (Bk _ _ 24 #[.int .i64 0, .int .i64 0]))) hb2; obtain ⟨n0, n1, n2, n3⟩ := N1.two; have N2 := Lib.hid N1; clear N1) | skip); clear hb2)
          | fail "arm"))
      all_goals
        go_split_ands
        go_wp2_with fail
        go_meet
        refine ⟨_, rfl, ?_, ?_⟩
        · first | exact Bk.new _ _ _ | exact Bk.drew (Bk.new _ _ _) | exact Bk.set2 (Hid.out (by assumption : Hid (Bk _ _ 24 #[.int .i64 0, .int .i64 0]))) _ _ | fail "box"
        · refine B1.out.trans (Below.mono (B := w1.heap.size) ?_ s3)
          first | assumption | (repeat (first | assumption | exact Below.refl _ _ | refine Below.alloc ?_ (by first | exact Nat.le_refl _ | omega | (simp; done) | (simp; omega)) _ | refine Below.drew ?_ | (refine Below.setCell ?_ (by first | exact Nat.le_refl _ | omega | (simp; done) | (simp; omega)) _)))
    case rest =>
      obtain ⟨wx, rfl⟩ : ∃ W, W = wc := ⟨_, rfl⟩
      obtain ⟨g, rfl, hx, hb⟩ := hcut
      rw [HPa.out, HPb.out] at hx
      obtain ⟨p0, p1, _, _⟩ := hx.two
      have HB := Lib.hid hb
      obtain ⟨q0, q1, q2, q3⟩ := HP.out
      rw [HPa.out] at q0 q1
      rw [HPb.out] at q2 q3
      clear hx hb T1 B1 HALL s3 c0 c1 f0 f1
      by_cases h1 : q ≤ 0
      · go_wp2_with (go_at_call 78; refine (size_any _ (by omega) (by omega) _).mono ?_; rintro e w' ⟨rfl, rfl⟩)
        go_ret2
        exact ⟨by simp [margP, h1], HB.out⟩
      · obtain ⟨s, hs⟩ : ∃ s, max (2 * p - q) (-(2 * p - q)) = s := ⟨_, rfl⟩
        have HS : Hid (margP p q = if s ≤ q then 2 else if s ≤ 3 * q then 1 else 0) := Lib.hid (by unfold margP; rw [if_neg h1, hs])
        by_cases h2 : s ≤ q <;> by_cases h3 : s ≤ 3 * q
        all_goals first | (exfalso; omega) | skip
        all_goals
          go_wp2_with (go_at_call 78; refine (size_any _ (by omega) (by omega) _).mono ?_; rintro e w' ⟨rfl, rfl⟩)
          go_ret2
          exact ⟨by rw [HS.out]; first | (rw [if_pos (by omega)]; rfl) | (rw [if_neg (by omega), if_pos (by omega)]; rfl) | (rw [if_neg (by omega), if_neg (by omega)]; rfl), HB.out⟩
  · have e0 : Hid (vsE [c, f] = 2) := Lib.hid (by rw [vs2, if_neg hc])
    rw [e0.out, if_neg (by decide)]
    clear hc
    go_enter Tryd.func25, Tryd.ntmps25
    go_wp2_with fail
    refine (checkTwo c f w _ _).mono ?_
    rintro e w1 ⟨rfl, hb1⟩
    rw [e0.out]
    have B1 := Lib.hid (Below.step B0.out hb1)
    clear hb1 T0 B0
    go_wp2_with fail
    go_ret2
    exact ⟨rfl, B1.out⟩
end Go.Proofs.YtemjefhfplaibaaDoor
