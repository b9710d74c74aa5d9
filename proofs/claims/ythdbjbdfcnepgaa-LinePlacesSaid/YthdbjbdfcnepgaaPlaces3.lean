/-
  The walk of LinePlaces.
-/
import Derived.Test.YthdbjbdfcnepgaaPlAt
namespace Go.Proofs.Ythdbjbdfcnepgaa
open Go.RowKit

set_option maxHeartbeats 2000000 in
set_option maxRecDepth 100000 in
theorem LinePlaces_any (L : Ll) (H : Hds) (hH : HdsOk H) (n1 : L.name.size ≤ maxLen) (n2 : L.js.length ≤ maxLen) (n3 : L.bs.length ≤ maxLen) (n4 : L.ss.length ≤ maxLen) (n5 : ∀ s ∈ L.ss, s.across.length ≤ maxLen ∧ s.name.size ≤ maxLen)
    (oj : ∀ j ∈ L.js, j.ok) (ob : ∀ b ∈ L.bs, b.ok) (os : ∀ s ∈ L.ss, s.ok) (p : Int) (w : World) (hA : LnAt w w.heap.size L H) :
    Calls Try.prog 4 #[(.agg #[.string L.name, .slice H.j.A L.js.length H.j.c, .slice H.b.A L.bs.length H.b.c, .slice H.s.A L.ss.length H.s.c]), .int .i64 p] w fun e w' => e = .returned (.bool true) ∧ Below w.heap.size w w' := by
  have S0 := Lib.hid (LawSt.start hA)
  have HF := Lib.hid (fun w hA => Few_any L H n1 n2 n3 n4 n5 w hA)
  have HO : Hid (fewL L = true → L.ok) := Lib.hid (fun h => few_ok h oj ob os)
  have HH := Lib.hid hH
  clear hA n1 n2 n3 n4 n5 oj ob os hH

  cases hf : fewL L with
  | false =>
    rw [hf] at HF
    clear HO hf
    go_enter Try.func4, Try.ntmps4
    go_wp2_with fail
    refine (awake_any _).mono ?_
    rintro e w1 ⟨rfl, hb1⟩
    have S1 := Lib.hid (S0.out.call hb1)
    clear hb1 S0
    obtain ⟨c0, c1, c2, c3⟩ := S1.out.box.four
    go_wp2_with fail
    refine (HF.out _ S1.out.ln).mono ?_
    rintro e w2 ⟨rfl, hb2⟩
    have S2 := Lib.hid (S1.out.call hb2)
    clear hb2 S1 c0 c1 c2 c3
    go_wp2_with fail
    go_ret
    exact ⟨rfl, S2.out.bl⟩
  | true =>
    rw [hf] at HF
    have HL := Lib.hid (HO.out hf)
    clear HO hf
    by_cases he : plErr L p = 0
    · obtain ⟨hr, hck, p0, p1⟩ := plErr_good he
      have HC := Lib.hid hck
      have HR := Lib.hid hr
      have HP := Lib.hid he
      have HI := Lib.hid (show (if inB p 0 (placeL L.bs L.bs.length) then (0 : Int) else 2) = 0 by rw [if_pos (inB_iff.2 ⟨p0, p1⟩)])
      have HP1 := Lib.hid p1
      have pm : p ≤ 2000000 := by have := (placeL_bound L.bs hr.b L.bs.length (Nat.le_refl _)).2; have := hr.most; omega
      obtain ⟨xa, xb, hx⟩ : ∃ a b, lowV (numAt L Lj.x p) (lenL L (beamOf L p)) = .agg #[.int .i64 a, .int .i64 b] := ⟨_, _, rfl⟩
      obtain ⟨ya, yb, hy⟩ : ∃ a b, lowV (numAt L Lj.u p) (lenL L (beamOf L p)) = .agg #[.int .i64 a, .int .i64 b] := ⟨_, _, rfl⟩
      obtain ⟨k, hk⟩ : ∃ k, (beamOf L p : Int) = k := ⟨_, rfl⟩
      obtain ⟨d, hd⟩ : ∃ d, p - placeL L.bs (beamOf L p) = d := ⟨_, rfl⟩
      have HX := Lib.hid hx
      have HU := Lib.hid hy
      have HK := Lib.hid hk
      have HD := Lib.hid hd
      clear hck hr he p1 hx hy hk hd
      go_enter Try.func4, Try.ntmps4
      go_wp2_with fail
      refine (awake_any _).mono ?_
      rintro e w1 ⟨rfl, hb1⟩
      have S1 := Lib.hid (S0.out.call hb1)
      clear hb1 S0
      obtain ⟨c0, c1, c2, c3⟩ := S1.out.box.four
      go_wp2_with fail
      refine (HF.out _ S1.out.ln).mono ?_
      rintro e w2 ⟨rfl, hb2⟩
      have S2 := Lib.hid (S1.out.call hb2)
      clear hb2 S1 c0 c1 c2 c3
      obtain ⟨c0, c1, c2, c3⟩ := S2.out.box.four
      go_wp2_with fail
      refine (Copy_at L H HL.out HH.out _ S2.out.ln).mono ?_
      rintro e w3 ⟨G3, rfl, hG, hb3⟩
      have S3 := Lib.hid (S2.out.call hb3)
      clear hb3 S2 c0 c1 c2 c3
      have A3 := Lib.hid hG
      clear hG
      go_wp2_with fail
      refine (BeamAt_at HP.out HK.out HD.out G3 HL.out _ A3.out).mono ?_
      rintro e w4 ⟨rfl, hb4⟩
      have S4 := Lib.hid (S3.out.call hb4)
      clear hb4 S3
      clear A3
      obtain ⟨c0, c1, c2, c3⟩ := S4.out.box.four
      go_wp2_with fail
      refine (Copy_at L H HL.out HH.out _ S4.out.ln).mono ?_
      rintro e w5 ⟨G5, rfl, hG, hb5⟩
      have S5 := Lib.hid (S4.out.call hb5)
      clear hb5 S4 c0 c1 c2 c3
      have A5 := Lib.hid hG
      clear hG
      go_wp2_with fail
      refine (AcrossAt_at HP.out HX.out G5 HL.out _ A5.out).mono ?_
      rintro e w6 ⟨rfl, hb6⟩
      have S6 := Lib.hid ((S5.out.call hb6).alloc (.cells #[.int .i64 xa, .int .i64 xb] 46))
      have X6 := Lib.hid (Bk.new w6 46 #[.int .i64 xa, .int .i64 xb])
      clear hb6 S5
      clear A5
      obtain ⟨c0, c1, c2, c3⟩ := S6.out.box.four
      go_wp2_with fail
      refine (Copy_at L H HL.out HH.out _ S6.out.ln).mono ?_
      rintro e w7 ⟨G7, rfl, hG, hb7⟩
      have S7 := Lib.hid (S6.out.call hb7)
      have X7 := Lib.hid (X6.out.call hb7)
      clear hb7 S6 X6 c0 c1 c2 c3
      have A7 := Lib.hid hG
      clear hG
      go_wp2_with fail
      refine (UpAt_at HP.out HU.out G7 HL.out _ A7.out).mono ?_
      rintro e w8 ⟨rfl, hb8⟩
      have S8 := Lib.hid ((S7.out.call hb8).alloc (.cells #[.int .i64 ya, .int .i64 yb] 46))
      have X8 := Lib.hid ((X7.out.call hb8).alloc (.cells #[.int .i64 ya, .int .i64 yb] 46))
      have Y8 := Lib.hid (Bk.new w8 46 #[.int .i64 ya, .int .i64 yb])
      clear hb8 S7 X7
      clear A7
      obtain ⟨c0, c1, c2, c3⟩ := S8.out.box.four
      go_wp2_with fail
      refine (LineErr_at HC.out H HL.out _ S8.out.ln).mono ?_
      rintro e w9 ⟨rfl, hb9⟩
      have S9 := Lib.hid (S8.out.call hb9)
      have X9 := Lib.hid (X8.out.call hb9)
      have Y9 := Lib.hid (Y8.out.call hb9)
      clear hb9 S8 X8 Y8 c0 c1 c2 c3
      obtain ⟨c0, c1, c2, c3⟩ := S9.out.box.four
      go_wp2_with fail
      refine (PlaceErr_at HR.out HI.out H HL.out _ S9.out.ln).mono ?_
      rintro e w10 ⟨rfl, hb10⟩
      have S10 := Lib.hid (S9.out.call hb10)
      have X10 := Lib.hid (X9.out.call hb10)
      have Y10 := Lib.hid (Y9.out.call hb10)
      clear hb10 S9 X9 Y9 c0 c1 c2 c3
      obtain ⟨c0, c1, c2, c3⟩ := S10.out.box.four
      go_wp2_with fail
      refine (refBeamAt_at HR.out p0 pm HK.out HD.out H HL.out _ S10.out.ln).mono ?_
      rintro e w11 ⟨rfl, hb11⟩
      have S11 := Lib.hid (S10.out.call hb11)
      have X11 := Lib.hid (X10.out.call hb11)
      have Y11 := Lib.hid (Y10.out.call hb11)
      clear hb11 S10 X10 Y10 c0 c1 c2 c3
      have T := Lib.hid (TwoF.mk S11.out X11.out Y11.out)
      clear S11 X11 Y11
      go_wp2_with fail
      go_region_held3 (fun w' => TwoF w w' L H w6.heap.size w8.heap.size xa xb ya yb ∧ w'.cell? ⟨w.heap.size, 0, none⟩ = some (.string L.name) ∧ w'.cell? ⟨w.heap.size, 1, none⟩ = some (.slice H.j.A L.js.length H.j.c) ∧ w'.cell? ⟨w.heap.size, 2, none⟩ = some (.slice H.b.A L.bs.length H.b.c) ∧ w'.cell? ⟨w.heap.size, 3, none⟩ = some (.slice H.s.A L.ss.length H.s.c) ∧ w'.cell? ⟨w6.heap.size, 0, none⟩ = some (.int .i64 xa) ∧ w'.cell? ⟨w6.heap.size, 1, none⟩ = some (.int .i64 xb) ∧ w'.cell? ⟨w8.heap.size, 0, none⟩ = some (.int .i64 ya) ∧ w'.cell? ⟨w8.heap.size, 1, none⟩ = some (.int .i64 yb)) ((first | exact TwoF.all (TwoF.call (by assumption) (by assumption)) | exact TwoF.all T.out.drew))
        ((first | (go_at_call 31; go_split_ands; refine (refAcrossAt_at HR.out p0 HP1.out HX.out H HL.out _ (TwoF.st (by assumption)).ln).mono ?_; rintro e w' ⟨rfl, hb⟩) | (go_at_call 32; go_split_ands; refine (refUpAt_at HR.out p0 HP1.out HU.out H HL.out _ (TwoF.st (by assumption)).ln).mono ?_; rintro e w' ⟨rfl, hb⟩)))
      all_goals
        go_split_ands
        go_wp2_with fail
        go_ret
        exact ⟨rfl, (TwoF.st (by assumption)).bl⟩
    · obtain ⟨er, her⟩ : ∃ er, plErr L p = er := ⟨_, rfl⟩
      rw [her] at he
      have HP := Lib.hid her
      have HE := Lib.hid he
      have ge : (er != 0) = true := by simp [he]
      have gf : (er == 0) = false := by simp [he]
      rcases plErr_cases her he with ⟨m1, m2, hck⟩ | ⟨hr, hck, hi, rfl⟩
      · have HC := Lib.hid hck
        clear hck her he
        go_enter Try.func4, Try.ntmps4
        go_wp2_with fail
        refine (awake_any _).mono ?_
        rintro e w1 ⟨rfl, hb1⟩
        have S1 := Lib.hid (S0.out.call hb1)
        clear hb1 S0
        obtain ⟨c0, c1, c2, c3⟩ := S1.out.box.four
        go_wp2_with fail
        refine (HF.out _ S1.out.ln).mono ?_
        rintro e w2 ⟨rfl, hb2⟩
        have S2 := Lib.hid (S1.out.call hb2)
        clear hb2 S1 c0 c1 c2 c3
        obtain ⟨c0, c1, c2, c3⟩ := S2.out.box.four
        go_wp2_with fail
        refine (Copy_at L H HL.out HH.out _ S2.out.ln).mono ?_
        rintro e w3 ⟨G3, rfl, hG, hb3⟩
        have S3 := Lib.hid (S2.out.call hb3)
        clear hb3 S2 c0 c1 c2 c3
        have A3 := Lib.hid hG
        clear hG
        go_wp2_with fail
        refine (BeamAt_err HP.out HE.out G3 HL.out _ A3.out).mono ?_
        rintro e w4 ⟨rfl, hb4⟩
        have S4 := Lib.hid (S3.out.call hb4)
        clear hb4 S3
        clear A3
        obtain ⟨c0, c1, c2, c3⟩ := S4.out.box.four
        go_wp2_with fail
        refine (Copy_at L H HL.out HH.out _ S4.out.ln).mono ?_
        rintro e w5 ⟨G5, rfl, hG, hb5⟩
        have S5 := Lib.hid (S4.out.call hb5)
        clear hb5 S4 c0 c1 c2 c3
        have A5 := Lib.hid hG
        clear hG
        go_wp2_with fail
        refine (AcrossAt_err HP.out HE.out G5 HL.out _ A5.out).mono ?_
        rintro e w6 ⟨rfl, hb6⟩
        have S6 := Lib.hid ((S5.out.call hb6).alloc (.cells #[.int .i64 0, .int .i64 0] 46))
        have X6 := Lib.hid (Bk.new w6 46 #[.int .i64 0, .int .i64 0])
        clear hb6 S5
        clear A5
        obtain ⟨c0, c1, c2, c3⟩ := S6.out.box.four
        go_wp2_with fail
        refine (Copy_at L H HL.out HH.out _ S6.out.ln).mono ?_
        rintro e w7 ⟨G7, rfl, hG, hb7⟩
        have S7 := Lib.hid (S6.out.call hb7)
        have X7 := Lib.hid (X6.out.call hb7)
        clear hb7 S6 X6 c0 c1 c2 c3
        have A7 := Lib.hid hG
        clear hG
        go_wp2_with fail
        refine (UpAt_err HP.out HE.out G7 HL.out _ A7.out).mono ?_
        rintro e w8 ⟨rfl, hb8⟩
        have S8 := Lib.hid ((S7.out.call hb8).alloc (.cells #[.int .i64 0, .int .i64 0] 46))
        have X8 := Lib.hid ((X7.out.call hb8).alloc (.cells #[.int .i64 0, .int .i64 0] 46))
        have Y8 := Lib.hid (Bk.new w8 46 #[.int .i64 0, .int .i64 0])
        clear hb8 S7 X7
        clear A7
        obtain ⟨c0, c1, c2, c3⟩ := S8.out.box.four
        go_wp2_with fail
        refine (LineErr_at HC.out H HL.out _ S8.out.ln).mono ?_
        rintro e w9 ⟨rfl, hb9⟩
        have S9 := Lib.hid (S8.out.call hb9)
        have X9 := Lib.hid (X8.out.call hb9)
        have Y9 := Lib.hid (Y8.out.call hb9)
        clear hb9 S8 X8 Y8 c0 c1 c2 c3
        obtain ⟨z0, z1, _, _⟩ := X9.out.two
        obtain ⟨y0, y1, _, _⟩ := Y9.out.two
        go_wp2_with fail
        go_ret
        exact ⟨rfl, S9.out.bl⟩
      · have HC := Lib.hid hck
        have HR := Lib.hid hr
        have HI := Lib.hid (show (if inB p 0 (placeL L.bs L.bs.length) then (0 : Int) else 2) = 2 by rw [hi]; rfl)
        clear hck hr her hi he ge gf
        go_enter Try.func4, Try.ntmps4
        go_wp2_with fail
        refine (awake_any _).mono ?_
        rintro e w1 ⟨rfl, hb1⟩
        have S1 := Lib.hid (S0.out.call hb1)
        clear hb1 S0
        obtain ⟨c0, c1, c2, c3⟩ := S1.out.box.four
        go_wp2_with fail
        refine (HF.out _ S1.out.ln).mono ?_
        rintro e w2 ⟨rfl, hb2⟩
        have S2 := Lib.hid (S1.out.call hb2)
        clear hb2 S1 c0 c1 c2 c3
        obtain ⟨c0, c1, c2, c3⟩ := S2.out.box.four
        go_wp2_with fail
        refine (Copy_at L H HL.out HH.out _ S2.out.ln).mono ?_
        rintro e w3 ⟨G3, rfl, hG, hb3⟩
        have S3 := Lib.hid (S2.out.call hb3)
        clear hb3 S2 c0 c1 c2 c3
        have A3 := Lib.hid hG
        clear hG
        go_wp2_with fail
        refine (BeamAt_err HP.out HE.out G3 HL.out _ A3.out).mono ?_
        rintro e w4 ⟨rfl, hb4⟩
        have S4 := Lib.hid (S3.out.call hb4)
        clear hb4 S3
        clear A3
        obtain ⟨c0, c1, c2, c3⟩ := S4.out.box.four
        go_wp2_with fail
        refine (Copy_at L H HL.out HH.out _ S4.out.ln).mono ?_
        rintro e w5 ⟨G5, rfl, hG, hb5⟩
        have S5 := Lib.hid (S4.out.call hb5)
        clear hb5 S4 c0 c1 c2 c3
        have A5 := Lib.hid hG
        clear hG
        go_wp2_with fail
        refine (AcrossAt_err HP.out HE.out G5 HL.out _ A5.out).mono ?_
        rintro e w6 ⟨rfl, hb6⟩
        have S6 := Lib.hid ((S5.out.call hb6).alloc (.cells #[.int .i64 0, .int .i64 0] 46))
        have X6 := Lib.hid (Bk.new w6 46 #[.int .i64 0, .int .i64 0])
        clear hb6 S5
        clear A5
        obtain ⟨c0, c1, c2, c3⟩ := S6.out.box.four
        go_wp2_with fail
        refine (Copy_at L H HL.out HH.out _ S6.out.ln).mono ?_
        rintro e w7 ⟨G7, rfl, hG, hb7⟩
        have S7 := Lib.hid (S6.out.call hb7)
        have X7 := Lib.hid (X6.out.call hb7)
        clear hb7 S6 X6 c0 c1 c2 c3
        have A7 := Lib.hid hG
        clear hG
        go_wp2_with fail
        refine (UpAt_err HP.out HE.out G7 HL.out _ A7.out).mono ?_
        rintro e w8 ⟨rfl, hb8⟩
        have S8 := Lib.hid ((S7.out.call hb8).alloc (.cells #[.int .i64 0, .int .i64 0] 46))
        have X8 := Lib.hid ((X7.out.call hb8).alloc (.cells #[.int .i64 0, .int .i64 0] 46))
        have Y8 := Lib.hid (Bk.new w8 46 #[.int .i64 0, .int .i64 0])
        clear hb8 S7 X7
        clear A7
        obtain ⟨c0, c1, c2, c3⟩ := S8.out.box.four
        go_wp2_with fail
        refine (LineErr_at HC.out H HL.out _ S8.out.ln).mono ?_
        rintro e w9 ⟨rfl, hb9⟩
        have S9 := Lib.hid (S8.out.call hb9)
        have X9 := Lib.hid (X8.out.call hb9)
        have Y9 := Lib.hid (Y8.out.call hb9)
        clear hb9 S8 X8 Y8 c0 c1 c2 c3
        obtain ⟨c0, c1, c2, c3⟩ := S9.out.box.four
        go_wp2_with fail
        refine (PlaceErr_at HR.out HI.out H HL.out _ S9.out.ln).mono ?_
        rintro e w10 ⟨rfl, hb10⟩
        have S10 := Lib.hid (S9.out.call hb10)
        have X10 := Lib.hid (X9.out.call hb10)
        have Y10 := Lib.hid (Y9.out.call hb10)
        clear hb10 S9 X9 Y9 c0 c1 c2 c3
        obtain ⟨z0, z1, _, _⟩ := X10.out.two
        obtain ⟨y0, y1, _, _⟩ := Y10.out.two
        go_wp2_with fail
        go_ret
        exact ⟨rfl, S10.out.bl⟩
end Go.Proofs.Ythdbjbdfcnepgaa
