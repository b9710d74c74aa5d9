/-
  The walk of LineGradients.
-/
import Derived.Test.YthdbjbdfcnepgaaRefSt
namespace Go.Proofs.Ythdbjbdfcnepgaa
open Go.RowKit

theorem GradientOf_at {L : Ll} (hr : Right L) (hck : ckLine L = ((0, 0), 0)) {n : Int} {k : Nat} (hn : (k : Int) = n) (hk : k < L.bs.length) {a b : Int} (hv : lowV (1000 * riseL L k) (lenL L k) = .agg #[.int .i64 a, .int .i64 b]) (H : Hds) (hL : L.ok) (w : World) (hA : LnAt w w.heap.size L H) :
    Calls Try.prog 38 #[(.agg #[.string L.name, .slice H.j.A L.js.length H.j.c, .slice H.b.A L.bs.length H.b.c, .slice H.s.A L.ss.length H.s.c]), .int .i64 n] w fun e w' => e = .returned (.tuple #[.agg #[.int .i64 a, .int .i64 b], .int .i64 0]) ∧ Below w.heap.size w w' := by
  subst hn
  exact GradientOf_good hr hck H hL k hk hv w hA
theorem refGradientOf_int {L : Ll} (hr : Right L) (H : Hds) {n : Int} {k : Nat} (hn : (k : Int) = n) (hk : k < L.bs.length) {a b : Int} (hv : lowV (1000 * riseL L k) (lenL L k) = .agg #[.int .i64 a, .int .i64 b]) (w : World) (hA : LnAt w w.heap.size L H) :
    Calls Try.prog 43 #[(.agg #[.string L.name, .slice H.j.A L.js.length H.j.c, .slice H.b.A L.bs.length H.b.c, .slice H.s.A L.ss.length H.s.c]), .int .i64 n] w fun e w' => e = .returned (.agg #[.int .i64 a, .int .i64 b]) ∧ Below w.heap.size w w' := by
  subst hn
  exact refGradientOf_at hr H k hk hv w hA
theorem refBendAt_int {L : Ll} (hr : Right L) (H : Hds) {n : Int} {k : Nat} (hn : (k : Int) + 1 = n) (hk : k + 1 < L.bs.length) {a b : Int} (hv : lowV (1000 * turnL L (k + 1)) (lenL L k * lenL L (k + 1)) = .agg #[.int .i64 a, .int .i64 b]) (w : World) (hA : LnAt w w.heap.size L H) :
    Calls Try.prog 45 #[(.agg #[.string L.name, .slice H.j.A L.js.length H.j.c, .slice H.b.A L.bs.length H.b.c, .slice H.s.A L.ss.length H.s.c]), .int .i64 n] w fun e w' => e = .returned (.agg #[.int .i64 a, .int .i64 b]) ∧ Below w.heap.size w w' := by
  subst hn
  exact refBendAt_at hr H k hk hv w hA
theorem BendAt_small {L : Ll} (hr : Right L) (hck : ckLine L = ((0, 0), 0)) {n : Int} {k : Nat} (hn : (k : Int) + 1 = n) (hk : k + 1 < L.bs.length) {a b : Int} (hv : lowV (1000 * turnL L (k + 1)) (lenL L k * lenL L (k + 1)) = .agg #[.int .i64 a, .int .i64 b]) (hs : smallB a b = true) (H : Hds) (hL : L.ok) (w : World) (hA : LnAt w w.heap.size L H) :
    Calls Try.prog 40 #[(.agg #[.string L.name, .slice H.j.A L.js.length H.j.c, .slice H.b.A L.bs.length H.b.c, .slice H.s.A L.ss.length H.s.c]), .int .i64 n] w fun e w' => e = .returned (.tuple #[.agg #[.int .i64 a, .int .i64 b], .int .i64 0]) ∧ Below w.heap.size w w' := by
  subst hn
  have h := BendAt_good hr hck H hL k hk hv w hA
  unfold bendA at h
  rw [if_pos hs] at h
  exact h
theorem BendAt_large {L : Ll} (hr : Right L) (hck : ckLine L = ((0, 0), 0)) {n : Int} {k : Nat} (hn : (k : Int) + 1 = n) (hk : k + 1 < L.bs.length) {a b : Int} (hv : lowV (1000 * turnL L (k + 1)) (lenL L k * lenL L (k + 1)) = .agg #[.int .i64 a, .int .i64 b]) (hs : smallB a b = false) (H : Hds) (hL : L.ok) (w : World) (hA : LnAt w w.heap.size L H) :
    Calls Try.prog 40 #[(.agg #[.string L.name, .slice H.j.A L.js.length H.j.c, .slice H.b.A L.bs.length H.b.c, .slice H.s.A L.ss.length H.s.c]), .int .i64 n] w fun e w' => e = .returned (.tuple #[.agg #[.int .i64 0, .int .i64 0], .int .i64 8]) ∧ Below w.heap.size w w' := by
  subst hn
  have h := BendAt_good hr hck H hL k hk hv w hA
  unfold bendA at h
  rw [if_neg (by rw [hs]; simp)] at h
  exact h

set_option maxHeartbeats 4000000 in
set_option maxRecDepth 100000 in
theorem LineGradients_any (L : Ll) (H : Hds) (hH : HdsOk H) (n1 : L.name.size ≤ maxLen) (n2 : L.js.length ≤ maxLen) (n3 : L.bs.length ≤ maxLen) (n4 : L.ss.length ≤ maxLen) (n5 : ∀ s ∈ L.ss, s.across.length ≤ maxLen ∧ s.name.size ≤ maxLen)
    (oj : ∀ j ∈ L.js, j.ok) (ob : ∀ b ∈ L.bs, b.ok) (os : ∀ s ∈ L.ss, s.ok) (p : Int) (w : World) (hA : LnAt w w.heap.size L H) :
    Calls Try.prog 6 #[(.agg #[.string L.name, .slice H.j.A L.js.length H.j.c, .slice H.b.A L.bs.length H.b.c, .slice H.s.A L.ss.length H.s.c]), .int .i64 p] w fun e w' => e = .returned (.bool true) ∧ Below w.heap.size w w' := by
  have S0 := Lib.hid (LawSt.start hA)
  have HF := Lib.hid (fun w hA => Few_any L H n1 n2 n3 n4 n5 w hA)
  have HO : Hid (fewL L = true → L.ok) := Lib.hid (fun h => few_ok h oj ob os)
  have HH := Lib.hid hH
  clear hA n1 n2 n3 n4 n5 oj ob os hH

  cases hf : fewL L with
  | false =>
    rw [hf] at HF
    clear HO hf
    go_enter Try.func6, Try.ntmps6
    go_wp2_with fail
    refine (awake_any _).mono ?_
    rintro e w1 ⟨rfl, hb1⟩
    have S1 := Lib.hid (S0.out.call hb1)
    clear hb1 S0
    obtain ⟨c0, c1, c2, c3⟩ := S1.out.box.four
    go_wp2_with fail
    refine (HF.out _ S1.out.ln).mono ?_
    rintro e w2 ⟨rfl, hb2⟩
    have S2 := Lib.hid (S1.out.call hb2)
    clear hb2 S1 c0 c1 c2 c3
    go_wp2_with fail
    go_ret
    exact ⟨rfl, S2.out.bl⟩
  | true =>
    rw [hf] at HF
    have HL := Lib.hid (HO.out hf)
    clear HO hf
    rcases ck_cases L with ⟨m1, m2, er, hck, he, _⟩ | ⟨hr, hck⟩
    · have HC := Lib.hid hck
      have HE := Lib.hid he
      have ge : (er != 0) = true := by simp [he]
      clear hck he
      go_enter Try.func6, Try.ntmps6
      go_wp2_with fail
      refine (awake_any _).mono ?_
      rintro e w1 ⟨rfl, hb1⟩
      have S1 := Lib.hid (S0.out.call hb1)
      clear hb1 S0
      obtain ⟨c0, c1, c2, c3⟩ := S1.out.box.four
      go_wp2_with fail
      refine (HF.out _ S1.out.ln).mono ?_
      rintro e w2 ⟨rfl, hb2⟩
      have S2 := Lib.hid (S1.out.call hb2)
      clear hb2 S1 c0 c1 c2 c3
      obtain ⟨c0, c1, c2, c3⟩ := S2.out.box.four
      go_wp2_with fail
      refine (Copy_at L H HL.out HH.out _ S2.out.ln).mono ?_
      rintro e w3 ⟨G3, rfl, hG, hb3⟩
      have S3 := Lib.hid (S2.out.call hb3)
      clear hb3 S2 c0 c1 c2 c3
      have A3 := Lib.hid hG
      clear hG
      go_wp2_with fail
      refine (GradientOf_err HC.out HE.out G3 HL.out _ _ A3.out).mono ?_
      rintro e w4 ⟨rfl, hb4⟩
      have S4 := Lib.hid ((S3.out.call hb4).alloc (.cells #[.int .i64 0, .int .i64 0] 46))
      have X4 := Lib.hid (Bk.new w4 46 #[.int .i64 0, .int .i64 0])
      clear hb4 S3
      clear A3
      obtain ⟨c0, c1, c2, c3⟩ := S4.out.box.four
      go_wp2_with fail
      refine (Copy_at L H HL.out HH.out _ S4.out.ln).mono ?_
      rintro e w5 ⟨G5, rfl, hG, hb5⟩
      have S5 := Lib.hid (S4.out.call hb5)
      have X5 := Lib.hid (X4.out.call hb5)
      clear hb5 S4 X4 c0 c1 c2 c3
      have A5 := Lib.hid hG
      clear hG
      go_wp2_with fail
      refine (SteepestOf_err HC.out HE.out G5 HL.out _ A5.out).mono ?_
      rintro e w6 ⟨rfl, hb6⟩
      have S6 := Lib.hid ((S5.out.call hb6).alloc (.cells #[.int .i64 0, .int .i64 0] 46))
      have X6 := Lib.hid ((X5.out.call hb6).alloc (.cells #[.int .i64 0, .int .i64 0] 46))
      have Y6 := Lib.hid (Bk.new w6 46 #[.int .i64 0, .int .i64 0])
      clear hb6 S5 X5
      clear A5
      obtain ⟨c0, c1, c2, c3⟩ := S6.out.box.four
      go_wp2_with fail
      refine (Copy_at L H HL.out HH.out _ S6.out.ln).mono ?_
      rintro e w7 ⟨G7, rfl, hG, hb7⟩
      have S7 := Lib.hid (S6.out.call hb7)
      have X7 := Lib.hid (X6.out.call hb7)
      have Y7 := Lib.hid (Y6.out.call hb7)
      clear hb7 S6 X6 Y6 c0 c1 c2 c3
      have A7 := Lib.hid hG
      clear hG
      go_wp2_with fail
      refine (BendAt_err HC.out HE.out G7 HL.out _ _ A7.out).mono ?_
      rintro e w8 ⟨rfl, hb8⟩
      have S8 := Lib.hid ((S7.out.call hb8).alloc (.cells #[.int .i64 0, .int .i64 0] 46))
      have X8 := Lib.hid ((X7.out.call hb8).alloc (.cells #[.int .i64 0, .int .i64 0] 46))
      have Y8 := Lib.hid ((Y7.out.call hb8).alloc (.cells #[.int .i64 0, .int .i64 0] 46))
      have Z8 := Lib.hid (Bk.new w8 46 #[.int .i64 0, .int .i64 0])
      clear hb8 S7 X7 Y7
      clear A7
      obtain ⟨c0, c1, c2, c3⟩ := S8.out.box.four
      go_wp2_with fail
      refine (LineErr_at HC.out H HL.out _ S8.out.ln).mono ?_
      rintro e w9 ⟨rfl, hb9⟩
      have S9 := Lib.hid (S8.out.call hb9)
      have X9 := Lib.hid (X8.out.call hb9)
      have Y9 := Lib.hid (Y8.out.call hb9)
      have Z9 := Lib.hid (Z8.out.call hb9)
      clear hb9 S8 X8 Y8 Z8 c0 c1 c2 c3
      obtain ⟨x0, x1, _, _⟩ := X9.out.two
      obtain ⟨y0, y1, _, _⟩ := Y9.out.two
      obtain ⟨z0, z1, _, _⟩ := Z9.out.two
      go_wp2_with fail
      go_ret
      exact ⟨rfl, S9.out.bl⟩
    · have HC := Lib.hid hck
      have HR := Lib.hid hr
      have hnj := HL.out.nj
      have hnb := HL.out.nb
      have hst := steepN_le L (L.bs.length - 1)
      have hone := hr.one
      have HJB := Lib.hid hr.jb
      obtain ⟨st, hs⟩ : ∃ s, steepN L (L.bs.length - 1) = s := ⟨_, rfl⟩
      obtain ⟨ya, yb, hy⟩ : ∃ a b, lowV (1000 * riseL L st) (lenL L st) = .agg #[.int .i64 a, .int .i64 b] := ⟨_, _, rfl⟩
      have HS := Lib.hid hs
      have HY := Lib.hid hy
      have hjb := hr.jb
      clear hs hy hst hck hr
      cases hi : inB p 0 ((L.bs.length : Int) - 1) with
      | false =>
        have HBE := Lib.hid (show (if inB p 0 ((L.bs.length : Int) - 1) then (0 : Int) else 6) = 6 by rw [hi]; rfl)
        have hi2 : inB p 1 ((L.js.length : Int) - 2) = false := by
          cases h2 : inB p 1 ((L.js.length : Int) - 2) with
          | false => rfl
          | true => rw [inB_iff.2 ⟨by have := (inB_iff.1 h2).1; omega, by have := (inB_iff.1 h2).2; omega⟩] at hi; cases hi
        have HIE := Lib.hid (show (if inB p 1 ((L.js.length : Int) - 2) then (0 : Int) else 6) = 6 by rw [hi2]; rfl)
        have HI := Lib.hid hi
        have HI2 := Lib.hid hi2
        clear hi hi2 hjb
        go_enter Try.func6, Try.ntmps6
        go_wp2_with fail
        refine (awake_any _).mono ?_
        rintro e w1 ⟨rfl, hb1⟩
        have S1 := Lib.hid (S0.out.call hb1)
        clear hb1 S0
        obtain ⟨c0, c1, c2, c3⟩ := S1.out.box.four
        go_wp2_with fail
        refine (HF.out _ S1.out.ln).mono ?_
        rintro e w2 ⟨rfl, hb2⟩
        have S2 := Lib.hid (S1.out.call hb2)
        clear hb2 S1 c0 c1 c2 c3
        obtain ⟨c0, c1, c2, c3⟩ := S2.out.box.four
        go_wp2_with fail
        refine (Copy_at L H HL.out HH.out _ S2.out.ln).mono ?_
        rintro e w3 ⟨G3, rfl, hG, hb3⟩
        have S3 := Lib.hid (S2.out.call hb3)
        clear hb3 S2 c0 c1 c2 c3
        have A3 := Lib.hid hG
        clear hG
        go_wp2_with fail
        refine (GradientOf_miss HR.out HC.out G3 HL.out p HI.out _ A3.out).mono ?_
        rintro e w4 ⟨rfl, hb4⟩
        have S4 := Lib.hid ((S3.out.call hb4).alloc (.cells #[.int .i64 0, .int .i64 0] 46))
        have X4 := Lib.hid (Bk.new w4 46 #[.int .i64 0, .int .i64 0])
        clear hb4 S3
        clear A3
        obtain ⟨c0, c1, c2, c3⟩ := S4.out.box.four
        go_wp2_with fail
        refine (Copy_at L H HL.out HH.out _ S4.out.ln).mono ?_
        rintro e w5 ⟨G5, rfl, hG, hb5⟩
        have S5 := Lib.hid (S4.out.call hb5)
        have X5 := Lib.hid (X4.out.call hb5)
        clear hb5 S4 X4 c0 c1 c2 c3
        have A5 := Lib.hid hG
        clear hG
        go_wp2_with fail
        refine (SteepestOf_good HR.out HC.out G5 HL.out HS.out HY.out _ A5.out).mono ?_
        rintro e w6 ⟨rfl, hb6⟩
        have S6 := Lib.hid ((S5.out.call hb6).alloc (.cells #[.int .i64 ya, .int .i64 yb] 46))
        have X6 := Lib.hid ((X5.out.call hb6).alloc (.cells #[.int .i64 ya, .int .i64 yb] 46))
        have Y6 := Lib.hid (Bk.new w6 46 #[.int .i64 ya, .int .i64 yb])
        clear hb6 S5 X5
        clear A5
        obtain ⟨c0, c1, c2, c3⟩ := S6.out.box.four
        go_wp2_with fail
        refine (Copy_at L H HL.out HH.out _ S6.out.ln).mono ?_
        rintro e w7 ⟨G7, rfl, hG, hb7⟩
        have S7 := Lib.hid (S6.out.call hb7)
        have X7 := Lib.hid (X6.out.call hb7)
        have Y7 := Lib.hid (Y6.out.call hb7)
        clear hb7 S6 X6 Y6 c0 c1 c2 c3
        have A7 := Lib.hid hG
        clear hG
        go_wp2_with fail
        refine (BendAt_miss HR.out HC.out G7 HL.out p HI2.out _ A7.out).mono ?_
        rintro e w8 ⟨rfl, hb8⟩
        have S8 := Lib.hid ((S7.out.call hb8).alloc (.cells #[.int .i64 0, .int .i64 0] 46))
        have X8 := Lib.hid ((X7.out.call hb8).alloc (.cells #[.int .i64 0, .int .i64 0] 46))
        have Y8 := Lib.hid ((Y7.out.call hb8).alloc (.cells #[.int .i64 0, .int .i64 0] 46))
        have Z8 := Lib.hid (Bk.new w8 46 #[.int .i64 0, .int .i64 0])
        clear hb8 S7 X7 Y7
        clear A7
        obtain ⟨c0, c1, c2, c3⟩ := S8.out.box.four
        go_wp2_with fail
        refine (LineErr_at HC.out H HL.out _ S8.out.ln).mono ?_
        rintro e w9 ⟨rfl, hb9⟩
        have S9 := Lib.hid (S8.out.call hb9)
        have X9 := Lib.hid (X8.out.call hb9)
        have Y9 := Lib.hid (Y8.out.call hb9)
        have Z9 := Lib.hid (Z8.out.call hb9)
        clear hb9 S8 X8 Y8 Z8 c0 c1 c2 c3
        obtain ⟨c0, c1, c2, c3⟩ := S9.out.box.four
        go_wp2_with fail
        refine (refSteepestOf_at HR.out H HL.out HS.out HY.out _ S9.out.ln).mono ?_
        rintro e w10 ⟨rfl, hb10⟩
        have S10 := Lib.hid ((S9.out.call hb10).alloc (.cells #[.int .i64 ya, .int .i64 yb] 46))
        have X10 := Lib.hid ((X9.out.call hb10).alloc (.cells #[.int .i64 ya, .int .i64 yb] 46))
        have Y10 := Lib.hid ((Y9.out.call hb10).alloc (.cells #[.int .i64 ya, .int .i64 yb] 46))
        have Z10 := Lib.hid ((Z9.out.call hb10).alloc (.cells #[.int .i64 ya, .int .i64 yb] 46))
        have V10 := Lib.hid (Bk.new w10 46 #[.int .i64 ya, .int .i64 yb])
        clear hb10 S9 X9 Y9 Z9 c0 c1 c2 c3
        obtain ⟨y0, y1, _, _⟩ := Y10.out.two
        obtain ⟨v0, v1, _, _⟩ := V10.out.two
        obtain ⟨c0, c1, c2, c3⟩ := S10.out.box.four
        go_wp2_with fail
        refine (BeamErr_at hnb H p 6 HBE.out _).mono ?_
        rintro e w11 ⟨rfl, hb11⟩
        have S11 := Lib.hid (S10.out.call hb11)
        have X11 := Lib.hid (X10.out.call hb11)
        have Y11 := Lib.hid (Y10.out.call hb11)
        have Z11 := Lib.hid (Z10.out.call hb11)
        have V11 := Lib.hid (V10.out.call hb11)
        clear hb11 S10 X10 Y10 Z10 V10 y0 y1 v0 v1 c0 c1 c2 c3
        clear Y11
        clear V11
        obtain ⟨x0, x1, _, _⟩ := X11.out.two
        obtain ⟨c0, c1, c2, c3⟩ := S11.out.box.four
        go_wp2_with fail
        refine (InnerErr_at hnj H p 6 HIE.out _).mono ?_
        rintro e w12 ⟨rfl, hb12⟩
        have S12 := Lib.hid (S11.out.call hb12)
        have X12 := Lib.hid (X11.out.call hb12)
        have Z12 := Lib.hid (Z11.out.call hb12)
        clear hb12 S11 X11 Z11 x0 x1 c0 c1 c2 c3
        obtain ⟨z0, z1, _, _⟩ := Z12.out.two
        go_wp2_with fail
        go_ret
        exact ⟨rfl, S12.out.bl⟩
      | true =>
        obtain ⟨p0, p1⟩ := inB_iff.1 hi
        obtain ⟨k, hk⟩ := Int.eq_ofNat_of_zero_le p0
        have HBE := Lib.hid (show (if inB p 0 ((L.bs.length : Int) - 1) then (0 : Int) else 6) = 0 by rw [hi]; rfl)
        have HK := Lib.hid (show k < L.bs.length by omega)
        have HN := Lib.hid hk.symm
        obtain ⟨xa, xb, hx⟩ : ∃ a b, lowV (1000 * riseL L k) (lenL L k) = .agg #[.int .i64 a, .int .i64 b] := ⟨_, _, rfl⟩
        have HX := Lib.hid hx
        clear hx
        cases hi2 : inB p 1 ((L.js.length : Int) - 2) with
        | false =>
          have HIE := Lib.hid (show (if inB p 1 ((L.js.length : Int) - 2) then (0 : Int) else 6) = 6 by rw [hi2]; rfl)
          have HI2 := Lib.hid hi2
          clear hi hi2 hjb hk
          go_enter Try.func6, Try.ntmps6
          go_wp2_with fail
          refine (awake_any _).mono ?_
          rintro e w1 ⟨rfl, hb1⟩
          have S1 := Lib.hid (S0.out.call hb1)
          clear hb1 S0
          obtain ⟨c0, c1, c2, c3⟩ := S1.out.box.four
          go_wp2_with fail
          refine (HF.out _ S1.out.ln).mono ?_
          rintro e w2 ⟨rfl, hb2⟩
          have S2 := Lib.hid (S1.out.call hb2)
          clear hb2 S1 c0 c1 c2 c3
          obtain ⟨c0, c1, c2, c3⟩ := S2.out.box.four
          go_wp2_with fail
          refine (Copy_at L H HL.out HH.out _ S2.out.ln).mono ?_
          rintro e w3 ⟨G3, rfl, hG, hb3⟩
          have S3 := Lib.hid (S2.out.call hb3)
          clear hb3 S2 c0 c1 c2 c3
          have A3 := Lib.hid hG
          clear hG
          go_wp2_with fail
          refine (GradientOf_at HR.out HC.out HN.out HK.out HX.out G3 HL.out _ A3.out).mono ?_
          rintro e w4 ⟨rfl, hb4⟩
          have S4 := Lib.hid ((S3.out.call hb4).alloc (.cells #[.int .i64 xa, .int .i64 xb] 46))
          have X4 := Lib.hid (Bk.new w4 46 #[.int .i64 xa, .int .i64 xb])
          clear hb4 S3
          clear A3
          obtain ⟨c0, c1, c2, c3⟩ := S4.out.box.four
          go_wp2_with fail
          refine (Copy_at L H HL.out HH.out _ S4.out.ln).mono ?_
          rintro e w5 ⟨G5, rfl, hG, hb5⟩
          have S5 := Lib.hid (S4.out.call hb5)
          have X5 := Lib.hid (X4.out.call hb5)
          clear hb5 S4 X4 c0 c1 c2 c3
          have A5 := Lib.hid hG
          clear hG
          go_wp2_with fail
          refine (SteepestOf_good HR.out HC.out G5 HL.out HS.out HY.out _ A5.out).mono ?_
          rintro e w6 ⟨rfl, hb6⟩
          have S6 := Lib.hid ((S5.out.call hb6).alloc (.cells #[.int .i64 ya, .int .i64 yb] 46))
          have X6 := Lib.hid ((X5.out.call hb6).alloc (.cells #[.int .i64 ya, .int .i64 yb] 46))
          have Y6 := Lib.hid (Bk.new w6 46 #[.int .i64 ya, .int .i64 yb])
          clear hb6 S5 X5
          clear A5
          obtain ⟨c0, c1, c2, c3⟩ := S6.out.box.four
          go_wp2_with fail
          refine (Copy_at L H HL.out HH.out _ S6.out.ln).mono ?_
          rintro e w7 ⟨G7, rfl, hG, hb7⟩
          have S7 := Lib.hid (S6.out.call hb7)
          have X7 := Lib.hid (X6.out.call hb7)
          have Y7 := Lib.hid (Y6.out.call hb7)
          clear hb7 S6 X6 Y6 c0 c1 c2 c3
          have A7 := Lib.hid hG
          clear hG
          go_wp2_with fail
          refine (BendAt_miss HR.out HC.out G7 HL.out p HI2.out _ A7.out).mono ?_
          rintro e w8 ⟨rfl, hb8⟩
          have S8 := Lib.hid ((S7.out.call hb8).alloc (.cells #[.int .i64 0, .int .i64 0] 46))
          have X8 := Lib.hid ((X7.out.call hb8).alloc (.cells #[.int .i64 0, .int .i64 0] 46))
          have Y8 := Lib.hid ((Y7.out.call hb8).alloc (.cells #[.int .i64 0, .int .i64 0] 46))
          have Z8 := Lib.hid (Bk.new w8 46 #[.int .i64 0, .int .i64 0])
          clear hb8 S7 X7 Y7
          clear A7
          obtain ⟨c0, c1, c2, c3⟩ := S8.out.box.four
          go_wp2_with fail
          refine (LineErr_at HC.out H HL.out _ S8.out.ln).mono ?_
          rintro e w9 ⟨rfl, hb9⟩
          have S9 := Lib.hid (S8.out.call hb9)
          have X9 := Lib.hid (X8.out.call hb9)
          have Y9 := Lib.hid (Y8.out.call hb9)
          have Z9 := Lib.hid (Z8.out.call hb9)
          clear hb9 S8 X8 Y8 Z8 c0 c1 c2 c3
          obtain ⟨c0, c1, c2, c3⟩ := S9.out.box.four
          go_wp2_with fail
          refine (refSteepestOf_at HR.out H HL.out HS.out HY.out _ S9.out.ln).mono ?_
          rintro e w10 ⟨rfl, hb10⟩
          have S10 := Lib.hid ((S9.out.call hb10).alloc (.cells #[.int .i64 ya, .int .i64 yb] 46))
          have X10 := Lib.hid ((X9.out.call hb10).alloc (.cells #[.int .i64 ya, .int .i64 yb] 46))
          have Y10 := Lib.hid ((Y9.out.call hb10).alloc (.cells #[.int .i64 ya, .int .i64 yb] 46))
          have Z10 := Lib.hid ((Z9.out.call hb10).alloc (.cells #[.int .i64 ya, .int .i64 yb] 46))
          have V10 := Lib.hid (Bk.new w10 46 #[.int .i64 ya, .int .i64 yb])
          clear hb10 S9 X9 Y9 Z9 c0 c1 c2 c3
          obtain ⟨y0, y1, _, _⟩ := Y10.out.two
          obtain ⟨v0, v1, _, _⟩ := V10.out.two
          obtain ⟨c0, c1, c2, c3⟩ := S10.out.box.four
          go_wp2_with fail
          refine (BeamErr_at hnb H p 0 HBE.out _).mono ?_
          rintro e w11 ⟨rfl, hb11⟩
          have S11 := Lib.hid (S10.out.call hb11)
          have X11 := Lib.hid (X10.out.call hb11)
          have Y11 := Lib.hid (Y10.out.call hb11)
          have Z11 := Lib.hid (Z10.out.call hb11)
          have V11 := Lib.hid (V10.out.call hb11)
          clear hb11 S10 X10 Y10 Z10 V10 y0 y1 v0 v1 c0 c1 c2 c3
          clear Y11
          clear V11
          have T0 := Lib.hid (TwoF.mk S11.out X11.out Z11.out)
          clear S11 X11 Z11
          obtain ⟨c0, c1, c2, c3⟩ := T0.out.st.box.four
          go_wp2_with fail
          go_region_held3 (fun w' => TwoF w w' L H w4.heap.size w8.heap.size xa xb 0 0 ∧ w'.cell? ⟨w.heap.size, 0, none⟩ = some (.string L.name) ∧ w'.cell? ⟨w.heap.size, 1, none⟩ = some (.slice H.j.A L.js.length H.j.c) ∧ w'.cell? ⟨w.heap.size, 2, none⟩ = some (.slice H.b.A L.bs.length H.b.c) ∧ w'.cell? ⟨w.heap.size, 3, none⟩ = some (.slice H.s.A L.ss.length H.s.c) ∧ w'.cell? ⟨w4.heap.size, 0, none⟩ = some (.int .i64 xa) ∧ w'.cell? ⟨w4.heap.size, 1, none⟩ = some (.int .i64 xb) ∧ w'.cell? ⟨w8.heap.size, 0, none⟩ = some (.int .i64 0) ∧ w'.cell? ⟨w8.heap.size, 1, none⟩ = some (.int .i64 0)) ((first | exact TwoF.all (TwoF.call (by assumption) (by assumption)) | exact TwoF.all T0.out.drew | fail "keep"))
            ((first | (go_at_call 43; go_split_ands; refine (refGradientOf_int HR.out H HN.out HK.out HX.out _ (TwoF.st (by assumption)).ln).mono ?_; rintro e w' ⟨rfl, hb⟩) | fail "arm"))
          all_goals
            go_split_ands
            go_wp2_with fail
            refine (InnerErr_at hnj H p 6 HIE.out _).mono ?_
            rintro e w91 ⟨rfl, hb91⟩
            have T1 : Hid (TwoF w w91 L H w4.heap.size w8.heap.size xa xb 0 0) := Lib.hid (TwoF.call (by assumption) hb91)
            clear hb91
            obtain ⟨c0, c1, c2, c3⟩ := T1.out.st.box.four
            obtain ⟨z0, z1, _, _⟩ := T1.out.y.two
            go_wp2_with fail
            go_ret
            exact ⟨rfl, T1.out.st.bl⟩
        | true =>
          have HIE := Lib.hid (show (if inB p 1 ((L.js.length : Int) - 2) then (0 : Int) else 6) = 0 by rw [hi2]; rfl)
          obtain ⟨i1, i2⟩ := inB_iff.1 hi2
          obtain ⟨m, hm⟩ := Int.eq_ofNat_of_zero_le (show 0 ≤ p - 1 by omega)
          have HKK := Lib.hid (show m + 1 < L.bs.length by omega)
          have HM := Lib.hid (show (m : Int) + 1 = p by omega)
          obtain ⟨qa, qb, hq⟩ : ∃ a b, lowV (1000 * turnL L (m + 1)) (lenL L m * lenL L (m + 1)) = .agg #[.int .i64 a, .int .i64 b] := ⟨_, _, rfl⟩
          have HZ := Lib.hid hq
          clear hq hi hi2 hjb hk hm
          cases hsm : smallB qa qb with
          | false =>
            have HSM := Lib.hid hsm
            clear hsm
            go_enter Try.func6, Try.ntmps6
            go_wp2_with fail
            refine (awake_any _).mono ?_
            rintro e w1 ⟨rfl, hb1⟩
            have S1 := Lib.hid (S0.out.call hb1)
            clear hb1 S0
            obtain ⟨c0, c1, c2, c3⟩ := S1.out.box.four
            go_wp2_with fail
            refine (HF.out _ S1.out.ln).mono ?_
            rintro e w2 ⟨rfl, hb2⟩
            have S2 := Lib.hid (S1.out.call hb2)
            clear hb2 S1 c0 c1 c2 c3
            obtain ⟨c0, c1, c2, c3⟩ := S2.out.box.four
            go_wp2_with fail
            refine (Copy_at L H HL.out HH.out _ S2.out.ln).mono ?_
            rintro e w3 ⟨G3, rfl, hG, hb3⟩
            have S3 := Lib.hid (S2.out.call hb3)
            clear hb3 S2 c0 c1 c2 c3
            have A3 := Lib.hid hG
            clear hG
            go_wp2_with fail
            refine (GradientOf_at HR.out HC.out HN.out HK.out HX.out G3 HL.out _ A3.out).mono ?_
            rintro e w4 ⟨rfl, hb4⟩
            have S4 := Lib.hid ((S3.out.call hb4).alloc (.cells #[.int .i64 xa, .int .i64 xb] 46))
            have X4 := Lib.hid (Bk.new w4 46 #[.int .i64 xa, .int .i64 xb])
            clear hb4 S3
            clear A3
            obtain ⟨c0, c1, c2, c3⟩ := S4.out.box.four
            go_wp2_with fail
            refine (Copy_at L H HL.out HH.out _ S4.out.ln).mono ?_
            rintro e w5 ⟨G5, rfl, hG, hb5⟩
            have S5 := Lib.hid (S4.out.call hb5)
            have X5 := Lib.hid (X4.out.call hb5)
            clear hb5 S4 X4 c0 c1 c2 c3
            have A5 := Lib.hid hG
            clear hG
            go_wp2_with fail
            refine (SteepestOf_good HR.out HC.out G5 HL.out HS.out HY.out _ A5.out).mono ?_
            rintro e w6 ⟨rfl, hb6⟩
            have S6 := Lib.hid ((S5.out.call hb6).alloc (.cells #[.int .i64 ya, .int .i64 yb] 46))
            have X6 := Lib.hid ((X5.out.call hb6).alloc (.cells #[.int .i64 ya, .int .i64 yb] 46))
            have Y6 := Lib.hid (Bk.new w6 46 #[.int .i64 ya, .int .i64 yb])
            clear hb6 S5 X5
            clear A5
            obtain ⟨c0, c1, c2, c3⟩ := S6.out.box.four
            go_wp2_with fail
            refine (Copy_at L H HL.out HH.out _ S6.out.ln).mono ?_
            rintro e w7 ⟨G7, rfl, hG, hb7⟩
            have S7 := Lib.hid (S6.out.call hb7)
            have X7 := Lib.hid (X6.out.call hb7)
            have Y7 := Lib.hid (Y6.out.call hb7)
            clear hb7 S6 X6 Y6 c0 c1 c2 c3
            have A7 := Lib.hid hG
            clear hG
            go_wp2_with fail
            refine (BendAt_large HR.out HC.out HM.out HKK.out HZ.out HSM.out G7 HL.out _ A7.out).mono ?_
            rintro e w8 ⟨rfl, hb8⟩
            have S8 := Lib.hid ((S7.out.call hb8).alloc (.cells #[.int .i64 0, .int .i64 0] 46))
            have X8 := Lib.hid ((X7.out.call hb8).alloc (.cells #[.int .i64 0, .int .i64 0] 46))
            have Y8 := Lib.hid ((Y7.out.call hb8).alloc (.cells #[.int .i64 0, .int .i64 0] 46))
            have Z8 := Lib.hid (Bk.new w8 46 #[.int .i64 0, .int .i64 0])
            clear hb8 S7 X7 Y7
            clear A7
            obtain ⟨c0, c1, c2, c3⟩ := S8.out.box.four
            go_wp2_with fail
            refine (LineErr_at HC.out H HL.out _ S8.out.ln).mono ?_
            rintro e w9 ⟨rfl, hb9⟩
            have S9 := Lib.hid (S8.out.call hb9)
            have X9 := Lib.hid (X8.out.call hb9)
            have Y9 := Lib.hid (Y8.out.call hb9)
            have Z9 := Lib.hid (Z8.out.call hb9)
            clear hb9 S8 X8 Y8 Z8 c0 c1 c2 c3
            obtain ⟨c0, c1, c2, c3⟩ := S9.out.box.four
            go_wp2_with fail
            refine (refSteepestOf_at HR.out H HL.out HS.out HY.out _ S9.out.ln).mono ?_
            rintro e w10 ⟨rfl, hb10⟩
            have S10 := Lib.hid ((S9.out.call hb10).alloc (.cells #[.int .i64 ya, .int .i64 yb] 46))
            have X10 := Lib.hid ((X9.out.call hb10).alloc (.cells #[.int .i64 ya, .int .i64 yb] 46))
            have Y10 := Lib.hid ((Y9.out.call hb10).alloc (.cells #[.int .i64 ya, .int .i64 yb] 46))
            have Z10 := Lib.hid ((Z9.out.call hb10).alloc (.cells #[.int .i64 ya, .int .i64 yb] 46))
            have V10 := Lib.hid (Bk.new w10 46 #[.int .i64 ya, .int .i64 yb])
            clear hb10 S9 X9 Y9 Z9 c0 c1 c2 c3
            obtain ⟨y0, y1, _, _⟩ := Y10.out.two
            obtain ⟨v0, v1, _, _⟩ := V10.out.two
            obtain ⟨c0, c1, c2, c3⟩ := S10.out.box.four
            go_wp2_with fail
            refine (BeamErr_at hnb H p 0 HBE.out _).mono ?_
            rintro e w11 ⟨rfl, hb11⟩
            have S11 := Lib.hid (S10.out.call hb11)
            have X11 := Lib.hid (X10.out.call hb11)
            have Y11 := Lib.hid (Y10.out.call hb11)
            have Z11 := Lib.hid (Z10.out.call hb11)
            have V11 := Lib.hid (V10.out.call hb11)
            clear hb11 S10 X10 Y10 Z10 V10 y0 y1 v0 v1 c0 c1 c2 c3
            clear Y11
            clear V11
            have T0 := Lib.hid (TwoF.mk S11.out X11.out Z11.out)
            clear S11 X11 Z11
            obtain ⟨c0, c1, c2, c3⟩ := T0.out.st.box.four
            go_wp2_with fail
            go_region_held3 (fun w' => TwoF w w' L H w4.heap.size w8.heap.size xa xb 0 0 ∧ w'.cell? ⟨w.heap.size, 0, none⟩ = some (.string L.name) ∧ w'.cell? ⟨w.heap.size, 1, none⟩ = some (.slice H.j.A L.js.length H.j.c) ∧ w'.cell? ⟨w.heap.size, 2, none⟩ = some (.slice H.b.A L.bs.length H.b.c) ∧ w'.cell? ⟨w.heap.size, 3, none⟩ = some (.slice H.s.A L.ss.length H.s.c) ∧ w'.cell? ⟨w4.heap.size, 0, none⟩ = some (.int .i64 xa) ∧ w'.cell? ⟨w4.heap.size, 1, none⟩ = some (.int .i64 xb) ∧ w'.cell? ⟨w8.heap.size, 0, none⟩ = some (.int .i64 0) ∧ w'.cell? ⟨w8.heap.size, 1, none⟩ = some (.int .i64 0)) ((first | exact TwoF.all (TwoF.call (by assumption) (by assumption)) | exact TwoF.all T0.out.drew | fail "keep"))
              ((first | (go_at_call 43; go_split_ands; refine (refGradientOf_int HR.out H HN.out HK.out HX.out _ (TwoF.st (by assumption)).ln).mono ?_; rintro e w' ⟨rfl, hb⟩) | fail "arm"))
            all_goals
              go_split_ands
              go_wp2_with fail
              refine (InnerErr_at hnj H p 0 HIE.out _).mono ?_
              rintro e w91 ⟨rfl, hb91⟩
              have T1 : Hid (TwoF w w91 L H w4.heap.size w8.heap.size xa xb 0 0) := Lib.hid (TwoF.call (by assumption) hb91)
              clear hb91
              obtain ⟨c0, c1, c2, c3⟩ := T1.out.st.box.four
              obtain ⟨z0, z1, _, _⟩ := T1.out.y.two
              go_wp2_with fail
              refine (refBendAt_int HR.out H HM.out HKK.out HZ.out _ T1.out.st.ln).mono ?_
              rintro e w92 ⟨rfl, hb92⟩
              have T2 := Lib.hid (TwoF.call ((Below.refl _ w92).alloc (Nat.le_refl _) (.cells #[.int .i64 qa, .int .i64 qb] 46) |> fun b => T1.out.call hb92) ((Below.refl _ w92).alloc (Nat.le_refl _) (.cells #[.int .i64 qa, .int .i64 qb] 46)))
              have V2 := Lib.hid (Bk.new w92 46 #[.int .i64 qa, .int .i64 qb])
              clear hb92 T1 c0 c1 c2 c3 z0 z1
              go_wp2_with fail
              refine (IsSmall_any qa qb _).mono ?_
              rintro e w93 ⟨rfl, hb93⟩
              rw [HSM.out]
              have T3 := Lib.hid (T2.out.call hb93)
              have V3 := Lib.hid (V2.out.call hb93)
              obtain ⟨z0, z1, _, _⟩ := T3.out.y.two
              obtain ⟨v0, v1, _, _⟩ := V3.out.two
              clear hb93 T2 V2
              go_wp2_with fail
              go_ret
              exact ⟨rfl, T3.out.st.bl⟩
          | true =>
            have HSM := Lib.hid hsm
            clear hsm
            go_enter Try.func6, Try.ntmps6
            go_wp2_with fail
            refine (awake_any _).mono ?_
            rintro e w1 ⟨rfl, hb1⟩
            have S1 := Lib.hid (S0.out.call hb1)
            clear hb1 S0
            obtain ⟨c0, c1, c2, c3⟩ := S1.out.box.four
            go_wp2_with fail
            refine (HF.out _ S1.out.ln).mono ?_
            rintro e w2 ⟨rfl, hb2⟩
            have S2 := Lib.hid (S1.out.call hb2)
            clear hb2 S1 c0 c1 c2 c3
            obtain ⟨c0, c1, c2, c3⟩ := S2.out.box.four
            go_wp2_with fail
            refine (Copy_at L H HL.out HH.out _ S2.out.ln).mono ?_
            rintro e w3 ⟨G3, rfl, hG, hb3⟩
            have S3 := Lib.hid (S2.out.call hb3)
            clear hb3 S2 c0 c1 c2 c3
            have A3 := Lib.hid hG
            clear hG
            go_wp2_with fail
            refine (GradientOf_at HR.out HC.out HN.out HK.out HX.out G3 HL.out _ A3.out).mono ?_
            rintro e w4 ⟨rfl, hb4⟩
            have S4 := Lib.hid ((S3.out.call hb4).alloc (.cells #[.int .i64 xa, .int .i64 xb] 46))
            have X4 := Lib.hid (Bk.new w4 46 #[.int .i64 xa, .int .i64 xb])
            clear hb4 S3
            clear A3
            obtain ⟨c0, c1, c2, c3⟩ := S4.out.box.four
            go_wp2_with fail
            refine (Copy_at L H HL.out HH.out _ S4.out.ln).mono ?_
            rintro e w5 ⟨G5, rfl, hG, hb5⟩
            have S5 := Lib.hid (S4.out.call hb5)
            have X5 := Lib.hid (X4.out.call hb5)
            clear hb5 S4 X4 c0 c1 c2 c3
            have A5 := Lib.hid hG
            clear hG
            go_wp2_with fail
            refine (SteepestOf_good HR.out HC.out G5 HL.out HS.out HY.out _ A5.out).mono ?_
            rintro e w6 ⟨rfl, hb6⟩
            have S6 := Lib.hid ((S5.out.call hb6).alloc (.cells #[.int .i64 ya, .int .i64 yb] 46))
            have X6 := Lib.hid ((X5.out.call hb6).alloc (.cells #[.int .i64 ya, .int .i64 yb] 46))
            have Y6 := Lib.hid (Bk.new w6 46 #[.int .i64 ya, .int .i64 yb])
            clear hb6 S5 X5
            clear A5
            obtain ⟨c0, c1, c2, c3⟩ := S6.out.box.four
            go_wp2_with fail
            refine (Copy_at L H HL.out HH.out _ S6.out.ln).mono ?_
            rintro e w7 ⟨G7, rfl, hG, hb7⟩
            have S7 := Lib.hid (S6.out.call hb7)
            have X7 := Lib.hid (X6.out.call hb7)
            have Y7 := Lib.hid (Y6.out.call hb7)
            clear hb7 S6 X6 Y6 c0 c1 c2 c3
            have A7 := Lib.hid hG
            clear hG
            go_wp2_with fail
            refine (BendAt_small HR.out HC.out HM.out HKK.out HZ.out HSM.out G7 HL.out _ A7.out).mono ?_
            rintro e w8 ⟨rfl, hb8⟩
            have S8 := Lib.hid ((S7.out.call hb8).alloc (.cells #[.int .i64 qa, .int .i64 qb] 46))
            have X8 := Lib.hid ((X7.out.call hb8).alloc (.cells #[.int .i64 qa, .int .i64 qb] 46))
            have Y8 := Lib.hid ((Y7.out.call hb8).alloc (.cells #[.int .i64 qa, .int .i64 qb] 46))
            have Z8 := Lib.hid (Bk.new w8 46 #[.int .i64 qa, .int .i64 qb])
            clear hb8 S7 X7 Y7
            clear A7
            obtain ⟨c0, c1, c2, c3⟩ := S8.out.box.four
            go_wp2_with fail
            refine (LineErr_at HC.out H HL.out _ S8.out.ln).mono ?_
            rintro e w9 ⟨rfl, hb9⟩
            have S9 := Lib.hid (S8.out.call hb9)
            have X9 := Lib.hid (X8.out.call hb9)
            have Y9 := Lib.hid (Y8.out.call hb9)
            have Z9 := Lib.hid (Z8.out.call hb9)
            clear hb9 S8 X8 Y8 Z8 c0 c1 c2 c3
            obtain ⟨c0, c1, c2, c3⟩ := S9.out.box.four
            go_wp2_with fail
            refine (refSteepestOf_at HR.out H HL.out HS.out HY.out _ S9.out.ln).mono ?_
            rintro e w10 ⟨rfl, hb10⟩
            have S10 := Lib.hid ((S9.out.call hb10).alloc (.cells #[.int .i64 ya, .int .i64 yb] 46))
            have X10 := Lib.hid ((X9.out.call hb10).alloc (.cells #[.int .i64 ya, .int .i64 yb] 46))
            have Y10 := Lib.hid ((Y9.out.call hb10).alloc (.cells #[.int .i64 ya, .int .i64 yb] 46))
            have Z10 := Lib.hid ((Z9.out.call hb10).alloc (.cells #[.int .i64 ya, .int .i64 yb] 46))
            have V10 := Lib.hid (Bk.new w10 46 #[.int .i64 ya, .int .i64 yb])
            clear hb10 S9 X9 Y9 Z9 c0 c1 c2 c3
            obtain ⟨y0, y1, _, _⟩ := Y10.out.two
            obtain ⟨v0, v1, _, _⟩ := V10.out.two
            obtain ⟨c0, c1, c2, c3⟩ := S10.out.box.four
            go_wp2_with fail
            refine (BeamErr_at hnb H p 0 HBE.out _).mono ?_
            rintro e w11 ⟨rfl, hb11⟩
            have S11 := Lib.hid (S10.out.call hb11)
            have X11 := Lib.hid (X10.out.call hb11)
            have Y11 := Lib.hid (Y10.out.call hb11)
            have Z11 := Lib.hid (Z10.out.call hb11)
            have V11 := Lib.hid (V10.out.call hb11)
            clear hb11 S10 X10 Y10 Z10 V10 y0 y1 v0 v1 c0 c1 c2 c3
            clear Y11
            clear V11
            have T0 := Lib.hid (TwoF.mk S11.out X11.out Z11.out)
            clear S11 X11 Z11
            obtain ⟨c0, c1, c2, c3⟩ := T0.out.st.box.four
            go_wp2_with fail
            go_region_held3 (fun w' => TwoF w w' L H w4.heap.size w8.heap.size xa xb qa qb ∧ w'.cell? ⟨w.heap.size, 0, none⟩ = some (.string L.name) ∧ w'.cell? ⟨w.heap.size, 1, none⟩ = some (.slice H.j.A L.js.length H.j.c) ∧ w'.cell? ⟨w.heap.size, 2, none⟩ = some (.slice H.b.A L.bs.length H.b.c) ∧ w'.cell? ⟨w.heap.size, 3, none⟩ = some (.slice H.s.A L.ss.length H.s.c) ∧ w'.cell? ⟨w4.heap.size, 0, none⟩ = some (.int .i64 xa) ∧ w'.cell? ⟨w4.heap.size, 1, none⟩ = some (.int .i64 xb) ∧ w'.cell? ⟨w8.heap.size, 0, none⟩ = some (.int .i64 qa) ∧ w'.cell? ⟨w8.heap.size, 1, none⟩ = some (.int .i64 qb)) ((first | exact TwoF.all (TwoF.call (by assumption) (by assumption)) | exact TwoF.all T0.out.drew | fail "keep"))
              ((first | (go_at_call 43; go_split_ands; refine (refGradientOf_int HR.out H HN.out HK.out HX.out _ (TwoF.st (by assumption)).ln).mono ?_; rintro e w' ⟨rfl, hb⟩) | fail "arm"))
            all_goals
              go_split_ands
              go_wp2_with fail
              refine (InnerErr_at hnj H p 0 HIE.out _).mono ?_
              rintro e w91 ⟨rfl, hb91⟩
              have T1 : Hid (TwoF w w91 L H w4.heap.size w8.heap.size xa xb qa qb) := Lib.hid (TwoF.call (by assumption) hb91)
              clear hb91
              obtain ⟨c0, c1, c2, c3⟩ := T1.out.st.box.four
              obtain ⟨z0, z1, _, _⟩ := T1.out.y.two
              go_wp2_with fail
              refine (refBendAt_int HR.out H HM.out HKK.out HZ.out _ T1.out.st.ln).mono ?_
              rintro e w92 ⟨rfl, hb92⟩
              have T2 := Lib.hid (TwoF.call ((Below.refl _ w92).alloc (Nat.le_refl _) (.cells #[.int .i64 qa, .int .i64 qb] 46) |> fun b => T1.out.call hb92) ((Below.refl _ w92).alloc (Nat.le_refl _) (.cells #[.int .i64 qa, .int .i64 qb] 46)))
              have V2 := Lib.hid (Bk.new w92 46 #[.int .i64 qa, .int .i64 qb])
              clear hb92 T1 c0 c1 c2 c3 z0 z1
              go_wp2_with fail
              refine (IsSmall_any qa qb _).mono ?_
              rintro e w93 ⟨rfl, hb93⟩
              rw [HSM.out]
              have T3 := Lib.hid (T2.out.call hb93)
              have V3 := Lib.hid (V2.out.call hb93)
              obtain ⟨z0, z1, _, _⟩ := T3.out.y.two
              obtain ⟨v0, v1, _, _⟩ := V3.out.two
              clear hb93 T2 V2
              go_wp2_with fail
              go_ret
              exact ⟨rfl, T3.out.st.bl⟩
end Go.Proofs.Ythdbjbdfcnepgaa
