/-
  The walk of LineLines.
-/
import Derived.Test.YthdbjbdfcnepgaaAwake
import Derived.Test.YthdbjbdfcnepgaaPlaceOf
namespace Go.Proofs.Ythdbjbdfcnepgaa
open Go.RowKit

theorem LengthOf_at {L : Ll} {a b : Int} (h : lenErr L = (a, b)) (H : Hds) (hL : L.ok) (w : World) (hA : LnAt w w.heap.size L H) :
    Calls Try.prog 19 #[(.agg #[.string L.name, .slice H.j.A L.js.length H.j.c, .slice H.b.A L.bs.length H.b.c, .slice H.s.A L.ss.length H.s.c])] w fun e w' => e = .returned (.tuple #[.int .i64 a, .int .i64 b]) ∧ Below w.heap.size w w' := by
  have := LengthOf_any H hL w hA
  rw [h] at this
  exact this
theorem PlaceOf_at {L : Ll} {j a b : Int} (h : placeErr L j = (a, b)) (H : Hds) (hL : L.ok) (w : World) (hA : LnAt w w.heap.size L H) :
    Calls Try.prog 20 #[(.agg #[.string L.name, .slice H.j.A L.js.length H.j.c, .slice H.b.A L.bs.length H.b.c, .slice H.s.A L.ss.length H.s.c]), .int .i64 j] w fun e w' => e = .returned (.tuple #[.int .i64 a, .int .i64 b]) ∧ Below w.heap.size w w' := by
  have := PlaceOf_any H hL j w hA
  rw [h] at this
  exact this
theorem Copy_at (L : Ll) (H : Hds) (hL : L.ok) (hH : HdsOk H) (w : World) (hA : LnAt w w.heap.size L H) :
    Calls Try.prog 18 #[(.agg #[.string L.name, .slice H.j.A L.js.length H.j.c, .slice H.b.A L.bs.length H.b.c, .slice H.s.A L.ss.length H.s.c])] w fun e w' => ∃ G : Hds, e = .returned (.agg #[.string L.name, .slice G.j.A L.js.length G.j.c, .slice G.b.A L.bs.length G.b.c, .slice G.s.A L.ss.length G.s.c]) ∧ LnAt w' w'.heap.size L G ∧ Below w.heap.size w w' :=
  (Copy_any L H hL hH w hA).mono fun _ _ ⟨G, he, h1, _, h2⟩ => ⟨G, he, h1, h2⟩
/-- What a law's walk knows of its line: its box, the world below, the line itself. -/
structure LawSt (w W : World) (L : Ll) (H : Hds) : Prop where
  box : Bk W w.heap.size 26 #[.string L.name, .slice H.j.A L.js.length H.j.c, .slice H.b.A L.bs.length H.b.c, .slice H.s.A L.ss.length H.s.c]
  bl : Below w.heap.size w W
  ln : LnAt W W.heap.size L H
theorem LawSt.call {w W W' : World} {L : Ll} {H : Hds} (h : LawSt w W L H) (hb : Below W.heap.size W W') : LawSt w W' L H := ⟨h.box.call hb, Below.step h.bl hb, (h.ln.below hb).more hb.size⟩
theorem LawSt.alloc {w W : World} {L : Ll} {H : Hds} (h : LawSt w W L H) (o : Obj) : LawSt w (W.alloc o) L H := h.call ((Below.refl _ W).alloc (Nat.le_refl _) o)
theorem LawSt.start {w : World} {L : Ll} {H : Hds} (hA : LnAt w w.heap.size L H) : LawSt w (w.alloc (.cells #[.string L.name, .slice H.j.A L.js.length H.j.c, .slice H.b.A L.bs.length H.b.c, .slice H.s.A L.ss.length H.s.c] 26)) L H :=
  have hb := (Below.refl w.heap.size w).alloc (Nat.le_refl _) (.cells #[.string L.name, .slice H.j.A L.js.length H.j.c, .slice H.b.A L.bs.length H.b.c, .slice H.s.A L.ss.length H.s.c] 26)
  ⟨Bk.new w _ _, hb, (hA.below hb).more hb.size⟩

set_option maxHeartbeats 2000000 in
set_option maxRecDepth 100000 in
theorem LineLines_any (L : Ll) (H : Hds) (hH : HdsOk H) (n1 : L.name.size ≤ maxLen) (n2 : L.js.length ≤ maxLen) (n3 : L.bs.length ≤ maxLen) (n4 : L.ss.length ≤ maxLen) (n5 : ∀ s ∈ L.ss, s.across.length ≤ maxLen ∧ s.name.size ≤ maxLen)
    (oj : ∀ j ∈ L.js, j.ok) (ob : ∀ b ∈ L.bs, b.ok) (os : ∀ s ∈ L.ss, s.ok) (j : Int) (w : World) (hA : LnAt w w.heap.size L H) :
    Calls Try.prog 3 #[(.agg #[.string L.name, .slice H.j.A L.js.length H.j.c, .slice H.b.A L.bs.length H.b.c, .slice H.s.A L.ss.length H.s.c]), .int .i64 j] w fun e w' => e = .returned (.bool true) ∧ Below w.heap.size w w' := by
  have S0 := Lib.hid (LawSt.start hA)
  have HF := Lib.hid (fun w hA => Few_any L H n1 n2 n3 n4 n5 w hA)
  have HO : Hid (fewL L = true → L.ok) := Lib.hid (fun h => few_ok h oj ob os)
  have HH := Lib.hid hH
  clear hA n1 n2 n3 n4 n5 oj ob os hH
  cases hf : fewL L with
  | false =>
    rw [hf] at HF
    clear HO hf
    go_enter Try.func3, Try.ntmps3
    go_wp2_with fail
    refine (awake_any _).mono ?_
    rintro e w1 ⟨rfl, hb1⟩
    have S1 := Lib.hid (S0.out.call hb1)
    obtain ⟨c0, c1, c2, c3⟩ := S1.out.box.four
    clear hb1 S0
    go_wp2_with fail
    refine (HF.out _ S1.out.ln).mono ?_
    rintro e w2 ⟨rfl, hb2⟩
    have S2 := Lib.hid (S1.out.call hb2)
    clear hb2 S1 c0 c1 c2 c3
    go_wp2_with fail
    go_ret
    exact ⟨rfl, S2.out.bl⟩
  | true =>
    rw [hf] at HF
    have HL := Lib.hid (HO.out hf)
    clear HO hf
    rcases ck_cases L with ⟨m1, m2, er, hck, he, _⟩ | ⟨hr, hck⟩
    · have HC := Lib.hid hck
      have hl := Lib.hid (show lenErr L = (0, er) by unfold lenErr; rw [hck, if_neg he])
      have hp := Lib.hid (show placeErr L j = (0, er) by unfold placeErr; rw [hck, if_pos he])
      have ge : (er != 0) = true := by simp [he]
      clear hck he
      go_enter Try.func3, Try.ntmps3
      go_wp2_with fail
      refine (awake_any _).mono ?_
      rintro e w1 ⟨rfl, hb1⟩
      have S1 := Lib.hid (S0.out.call hb1)
      obtain ⟨c0, c1, c2, c3⟩ := S1.out.box.four
      clear hb1 S0
      go_wp2_with fail
      refine (HF.out _ S1.out.ln).mono ?_
      rintro e w2 ⟨rfl, hb2⟩
      have S2 := Lib.hid (S1.out.call hb2)
      clear hb2 S1 c0 c1 c2 c3
      obtain ⟨c0, c1, c2, c3⟩ := S2.out.box.four
      go_wp2_with fail
      refine (Copy_at L H HL.out HH.out _ S2.out.ln).mono ?_
      rintro e w3 ⟨G3, rfl, hG, hb3⟩
      have S3 := Lib.hid (S2.out.call hb3)
      have A3 := Lib.hid hG
      clear hb3 hG S2 c0 c1 c2 c3
      go_wp2_with fail
      refine (CheckLine_at HC.out G3 HL.out _ A3.out).mono ?_
      rintro e w4 ⟨rfl, hb4⟩
      have S4 := Lib.hid ((S3.out.call hb4).alloc (.cells #[.int .i64 m1, .int .i64 m2] 30))
      obtain ⟨c0, c1, c2, c3⟩ := S4.out.box.four
      have M4 := Lib.hid (Bk.new w4 30 #[.int .i64 m1, .int .i64 m2])
      clear hb4 S3 A3
      go_wp2_with fail
      refine (Copy_at L H HL.out HH.out _ S4.out.ln).mono ?_
      rintro e w5 ⟨G5, rfl, hG, hb5⟩
      have S5 := Lib.hid (S4.out.call hb5)
      have M5 := Lib.hid (M4.out.call hb5)
      have A5 := Lib.hid hG
      clear hb5 hG S4 M4 c0 c1 c2 c3
      go_wp2_with fail
      refine (LengthOf_at hl.out G5 HL.out _ A5.out).mono ?_
      rintro e w6 ⟨rfl, hb6⟩
      have S6 := Lib.hid (S5.out.call hb6)
      have M6 := Lib.hid (M5.out.call hb6)
      obtain ⟨c0, c1, c2, c3⟩ := S6.out.box.four
      clear hb6 S5 M5 A5
      go_wp2_with fail
      refine (Copy_at L H HL.out HH.out _ S6.out.ln).mono ?_
      rintro e w7 ⟨G7, rfl, hG, hb7⟩
      have S7 := Lib.hid (S6.out.call hb7)
      have M7 := Lib.hid (M6.out.call hb7)
      have A7 := Lib.hid hG
      clear hb7 hG S6 M6 c0 c1 c2 c3
      go_wp2_with fail
      refine (PlaceOf_at hp.out G7 HL.out _ A7.out).mono ?_
      rintro e w8 ⟨rfl, hb8⟩
      have S8 := Lib.hid (S7.out.call hb8)
      have M8 := Lib.hid (M7.out.call hb8)
      obtain ⟨c0, c1, c2, c3⟩ := S8.out.box.four
      clear hb8 S7 M7 A7
      go_wp2_with fail
      refine (refCheckLine_at HC.out H HL.out _ S8.out.ln).mono ?_
      rintro e w9 ⟨rfl, hb9⟩
      have S9 := Lib.hid (S8.out.call hb9)
      obtain ⟨z0, z1, _, _⟩ := ((M8.out.call hb9).alloc (.cells #[.int .i64 m1, .int .i64 m2] 30)).two
      clear hb9 S8 M8 c0 c1 c2 c3
      go_wp2_with fail
      go_ret
      exact ⟨rfl, S9.out.bl.alloc S9.out.bl.size _⟩
    · have HC := Lib.hid hck
      have hl := Lib.hid (show lenErr L = (placeL L.bs L.bs.length, 0) by unfold lenErr; rw [hck, if_pos rfl])
      have HR := Lib.hid hr
      have hnj := HL.out.nj
      cases hi : inB j 0 (L.js.length - 1) with
      | false =>
        have hp := Lib.hid (show placeErr L j = (0, 6) by unfold placeErr; rw [hck, if_neg (by simp), hi]; rfl)
        clear hck hr
        go_enter Try.func3, Try.ntmps3
        go_wp2_with fail
        refine (awake_any _).mono ?_
        rintro e w1 ⟨rfl, hb1⟩
        have S1 := Lib.hid (S0.out.call hb1)
        obtain ⟨c0, c1, c2, c3⟩ := S1.out.box.four
        clear hb1 S0
        go_wp2_with fail
        refine (HF.out _ S1.out.ln).mono ?_
        rintro e w2 ⟨rfl, hb2⟩
        have S2 := Lib.hid (S1.out.call hb2)
        clear hb2 S1 c0 c1 c2 c3
        obtain ⟨c0, c1, c2, c3⟩ := S2.out.box.four
        go_wp2_with fail
        refine (Copy_at L H HL.out HH.out _ S2.out.ln).mono ?_
        rintro e w3 ⟨G3, rfl, hG, hb3⟩
        have S3 := Lib.hid (S2.out.call hb3)
        have A3 := Lib.hid hG
        clear hb3 hG S2 c0 c1 c2 c3
        go_wp2_with fail
        refine (CheckLine_at HC.out G3 HL.out _ A3.out).mono ?_
        rintro e w4 ⟨rfl, hb4⟩
        have S4 := Lib.hid ((S3.out.call hb4).alloc (.cells #[.int .i64 0, .int .i64 0] 30))
        obtain ⟨c0, c1, c2, c3⟩ := S4.out.box.four
        have M4 := Lib.hid (Bk.new w4 30 #[.int .i64 0, .int .i64 0])
        clear hb4 S3 A3
        go_wp2_with fail
        refine (Copy_at L H HL.out HH.out _ S4.out.ln).mono ?_
        rintro e w5 ⟨G5, rfl, hG, hb5⟩
        have S5 := Lib.hid (S4.out.call hb5)
        have M5 := Lib.hid (M4.out.call hb5)
        have A5 := Lib.hid hG
        clear hb5 hG S4 M4 c0 c1 c2 c3
        go_wp2_with fail
        refine (LengthOf_at hl.out G5 HL.out _ A5.out).mono ?_
        rintro e w6 ⟨rfl, hb6⟩
        have S6 := Lib.hid (S5.out.call hb6)
        have M6 := Lib.hid (M5.out.call hb6)
        obtain ⟨c0, c1, c2, c3⟩ := S6.out.box.four
        clear hb6 S5 M5 A5
        go_wp2_with fail
        refine (Copy_at L H HL.out HH.out _ S6.out.ln).mono ?_
        rintro e w7 ⟨G7, rfl, hG, hb7⟩
        have S7 := Lib.hid (S6.out.call hb7)
        have M7 := Lib.hid (M6.out.call hb7)
        have A7 := Lib.hid hG
        clear hb7 hG S6 M6 c0 c1 c2 c3
        go_wp2_with fail
        refine (PlaceOf_at hp.out G7 HL.out _ A7.out).mono ?_
        rintro e w8 ⟨rfl, hb8⟩
        have S8 := Lib.hid (S7.out.call hb8)
        have M8 := Lib.hid (M7.out.call hb8)
        obtain ⟨c0, c1, c2, c3⟩ := S8.out.box.four
        clear hb8 S7 M7 A7
        go_wp2_with fail
        refine (refCheckLine_at HC.out H HL.out _ S8.out.ln).mono ?_
        rintro e w9 ⟨rfl, hb9⟩
        have S9 := Lib.hid (S8.out.call hb9)
        obtain ⟨z0, z1, _, _⟩ := ((M8.out.call hb9).alloc (.cells #[.int .i64 0, .int .i64 0] 30)).two
        clear hb9 S8 M8 c0 c1 c2 c3
        have T9 := S9.out.alloc (.cells #[.int .i64 0, .int .i64 0] 30)
        obtain ⟨c0, c1, c2, c3⟩ := T9.box.four
        have S9a := Lib.hid T9
        clear T9 S9
        go_wp2_with fail
        refine (refLengthOf_any HR.out H HL.out _ S9a.out.ln).mono ?_
        rintro e w10 ⟨rfl, hb10⟩
        have S10 := Lib.hid (S9a.out.call hb10)
        clear hb10 S9a z0 z1 c0 c1 c2 c3
        obtain ⟨c0, c1, c2, c3⟩ := S10.out.box.four
        go_wp2_with fail
        refine (JointErr_any hnj H j _).mono ?_
        rintro e w11 ⟨rfl, hb11⟩
        rw [hi]
        have S11 := Lib.hid (S10.out.call hb11)
        clear hb11 S10 c0 c1 c2 c3
        go_wp2_with fail
        go_ret
        exact ⟨rfl, S11.out.bl⟩
      | true =>
        have hp := Lib.hid (show placeErr L j = (placeL L.bs j.toNat, 0) by unfold placeErr; rw [hck, if_neg (by simp), hi]; rfl)
        obtain ⟨j0, j1⟩ := inB_iff.1 hi
        have hjb : j ≤ (L.bs.length : Int) := by have := hr.jb; omega
        clear hck hr
        go_enter Try.func3, Try.ntmps3
        go_wp2_with fail
        refine (awake_any _).mono ?_
        rintro e w1 ⟨rfl, hb1⟩
        have S1 := Lib.hid (S0.out.call hb1)
        obtain ⟨c0, c1, c2, c3⟩ := S1.out.box.four
        clear hb1 S0
        go_wp2_with fail
        refine (HF.out _ S1.out.ln).mono ?_
        rintro e w2 ⟨rfl, hb2⟩
        have S2 := Lib.hid (S1.out.call hb2)
        clear hb2 S1 c0 c1 c2 c3
        obtain ⟨c0, c1, c2, c3⟩ := S2.out.box.four
        go_wp2_with fail
        refine (Copy_at L H HL.out HH.out _ S2.out.ln).mono ?_
        rintro e w3 ⟨G3, rfl, hG, hb3⟩
        have S3 := Lib.hid (S2.out.call hb3)
        have A3 := Lib.hid hG
        clear hb3 hG S2 c0 c1 c2 c3
        go_wp2_with fail
        refine (CheckLine_at HC.out G3 HL.out _ A3.out).mono ?_
        rintro e w4 ⟨rfl, hb4⟩
        have S4 := Lib.hid ((S3.out.call hb4).alloc (.cells #[.int .i64 0, .int .i64 0] 30))
        obtain ⟨c0, c1, c2, c3⟩ := S4.out.box.four
        have M4 := Lib.hid (Bk.new w4 30 #[.int .i64 0, .int .i64 0])
        clear hb4 S3 A3
        go_wp2_with fail
        refine (Copy_at L H HL.out HH.out _ S4.out.ln).mono ?_
        rintro e w5 ⟨G5, rfl, hG, hb5⟩
        have S5 := Lib.hid (S4.out.call hb5)
        have M5 := Lib.hid (M4.out.call hb5)
        have A5 := Lib.hid hG
        clear hb5 hG S4 M4 c0 c1 c2 c3
        go_wp2_with fail
        refine (LengthOf_at hl.out G5 HL.out _ A5.out).mono ?_
        rintro e w6 ⟨rfl, hb6⟩
        have S6 := Lib.hid (S5.out.call hb6)
        have M6 := Lib.hid (M5.out.call hb6)
        obtain ⟨c0, c1, c2, c3⟩ := S6.out.box.four
        clear hb6 S5 M5 A5
        go_wp2_with fail
        refine (Copy_at L H HL.out HH.out _ S6.out.ln).mono ?_
        rintro e w7 ⟨G7, rfl, hG, hb7⟩
        have S7 := Lib.hid (S6.out.call hb7)
        have M7 := Lib.hid (M6.out.call hb7)
        have A7 := Lib.hid hG
        clear hb7 hG S6 M6 c0 c1 c2 c3
        go_wp2_with fail
        refine (PlaceOf_at hp.out G7 HL.out _ A7.out).mono ?_
        rintro e w8 ⟨rfl, hb8⟩
        have S8 := Lib.hid (S7.out.call hb8)
        have M8 := Lib.hid (M7.out.call hb8)
        obtain ⟨c0, c1, c2, c3⟩ := S8.out.box.four
        clear hb8 S7 M7 A7
        go_wp2_with fail
        refine (refCheckLine_at HC.out H HL.out _ S8.out.ln).mono ?_
        rintro e w9 ⟨rfl, hb9⟩
        have S9 := Lib.hid (S8.out.call hb9)
        obtain ⟨z0, z1, _, _⟩ := ((M8.out.call hb9).alloc (.cells #[.int .i64 0, .int .i64 0] 30)).two
        clear hb9 S8 M8 c0 c1 c2 c3
        have T9 := S9.out.alloc (.cells #[.int .i64 0, .int .i64 0] 30)
        obtain ⟨c0, c1, c2, c3⟩ := T9.box.four
        have S9a := Lib.hid T9
        clear T9 S9
        go_wp2_with fail
        refine (refLengthOf_any HR.out H HL.out _ S9a.out.ln).mono ?_
        rintro e w10 ⟨rfl, hb10⟩
        have S10 := Lib.hid (S9a.out.call hb10)
        clear hb10 S9a z0 z1 c0 c1 c2 c3
        obtain ⟨c0, c1, c2, c3⟩ := S10.out.box.four
        go_wp2_with fail
        refine (JointErr_any hnj H j _).mono ?_
        rintro e w11 ⟨rfl, hb11⟩
        rw [hi]
        have S11 := Lib.hid (S10.out.call hb11)
        clear hb11 S10 c0 c1 c2 c3
        obtain ⟨c0, c1, c2, c3⟩ := S11.out.box.four
        go_wp2_with fail
        refine (refPlaceOf_any HR.out H HL.out j j0 hjb _ S11.out.ln).mono ?_
        rintro e w12 ⟨rfl, hb12⟩
        have S12 := Lib.hid (S11.out.call hb12)
        clear hb12 S11 c0 c1 c2 c3
        go_wp2_with fail
        go_ret
        exact ⟨rfl, S12.out.bl⟩
end Go.Proofs.Ythdbjbdfcnepgaa
