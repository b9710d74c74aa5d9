/-
  The walk of LineBetween.
-/
import Derived.Test.YthdbjbdfcnepgaaBet
import Derived.Test.YthdbjbdfcnepgaaPlaceOf
namespace Go.Proofs.Ythdbjbdfcnepgaa
open Go.RowKit

theorem PlaceOf_at {L : Ll} {j a b : Int} (h : placeErr L j = (a, b)) (H : Hds) (hL : L.ok) (w : World) (hA : LnAt w w.heap.size L H) :
    Calls Try.prog 20 #[(.agg #[.string L.name, .slice H.j.A L.js.length H.j.c, .slice H.b.A L.bs.length H.b.c, .slice H.s.A L.ss.length H.s.c]), .int .i64 j] w fun e w' => e = .returned (.tuple #[.int .i64 a, .int .i64 b]) ∧ Below w.heap.size w w' := by
  have := PlaceOf_any H hL j w hA
  rw [h] at this
  exact this
theorem bcell {W w1 : World} (hb : Below W.heap.size W w1) : (∀ b o, b < W.heap.size → w1.cell? ⟨b, o, none⟩ = W.cell? ⟨b, o, none⟩) ∧ (∀ b o, b < W.heap.size → w1.frozen? ⟨b, o, none⟩ = W.frozen? ⟨b, o, none⟩) :=
  ⟨fun b o h => hb.cell (p := ⟨b, o, none⟩) h, fun b o h => hb.frozen (p := ⟨b, o, none⟩) h⟩
theorem TwoF.joint {w W : World} {L : Ll} {H : Hds} {gx gy : Nat} {a b c d : Int} (h : TwoF w W L H gx gy a b c d) {aj : Addr} (ha : H.j.A = some aj) {k : Nat} {J : Lj} (hJ : L.js[k]? = some J) :
    W.cell? (aj.add (k * 4)) = some (.int .i64 J.x) ∧ W.cell? ⟨(aj.add (k * 4)).block, (aj.add (k * 4)).off + 1, none⟩ = some (.int .i64 J.u) ∧ W.cell? ⟨(aj.add (k * 4)).block, (aj.add (k * 4)).off + 2, none⟩ = some (.int .i64 J.lo) ∧ W.cell? ⟨(aj.add (k * 4)).block, (aj.add (k * 4)).off + 3, none⟩ = some (.int .i64 J.hi) := by
  obtain ⟨a1, e1, _, x1, x2, x3, x4⟩ := h.st.ln.j.joint hJ
  rw [ha] at e1
  cases e1
  exact ⟨x1, x2, x3, x4⟩
theorem TwoF.alloc {w W : World} {L : Ll} {H : Hds} {gx gy : Nat} {a b c d : Int} (h : TwoF w W L H gx gy a b c d) (o : Obj) : TwoF w (W.alloc o) L H gx gy a b c d := h.call ((Below.refl _ W).alloc (Nat.le_refl _) o)
theorem TwoF.allJ {w W : World} {L : Ll} {H : Hds} {gx gy : Nat} {a b c d : Int} (h : TwoF w W L H gx gy a b c d) {aj : Addr} (ha : H.j.A = some aj) {k : Nat} {J : Lj} (hJ : L.js[k]? = some J) :
    TwoF w W L H gx gy a b c d ∧ W.cell? ⟨w.heap.size, 0, none⟩ = some (.string L.name) ∧ W.cell? ⟨w.heap.size, 1, none⟩ = some (.slice H.j.A L.js.length H.j.c) ∧ W.cell? ⟨w.heap.size, 2, none⟩ = some (.slice H.b.A L.bs.length H.b.c) ∧ W.cell? ⟨w.heap.size, 3, none⟩ = some (.slice H.s.A L.ss.length H.s.c) ∧ W.cell? ⟨gx, 0, none⟩ = some (.int .i64 a) ∧ W.cell? ⟨gx, 1, none⟩ = some (.int .i64 b) ∧ W.cell? ⟨gy, 0, none⟩ = some (.int .i64 c) ∧ W.cell? ⟨gy, 1, none⟩ = some (.int .i64 d) ∧ W.cell? (aj.add (k * 4)) = some (.int .i64 J.x) ∧ W.cell? ⟨(aj.add (k * 4)).block, (aj.add (k * 4)).off + 1, none⟩ = some (.int .i64 J.u) := 
  ⟨h, h.st.box.cell 0, h.st.box.cell 1, h.st.box.cell 2, h.st.box.cell 3, h.x.cell 0, h.x.cell 1, h.y.cell 0, h.y.cell 1, (h.joint ha hJ).1, (h.joint ha hJ).2.1⟩
theorem Lies.head {w : World} {B : Nat} {A : Option Addr} {js : List Lj} {k : Nat} (h : Lies w B A (js.flatMap jc)) (hk : k < js.length) : ∃ a, A = some a := by
  obtain ⟨a, h, _⟩ := h.joint (List.getElem?_eq_getElem hk); exact ⟨a, h⟩
theorem Lies.headB {w : World} {B : Nat} {A : Option Addr} {bs : List Lb} {k : Nat} (h : Lies w B A (bs.flatMap bc)) (hk : k < bs.length) : ∃ a, A = some a := by
  obtain ⟨a, h, _⟩ := h.beam (List.getElem?_eq_getElem hk); exact ⟨a, h⟩

/-- How far behind it has come: the loop over all joints, and what follows. -/
def Ends (w : World) (e : Ending) (w' : World) : Prop := e = .returned (.bool true) ∧ Below w.heap.size w w'

set_option maxHeartbeats 4000000 in
set_option maxRecDepth 100000 in
theorem LineBetween_any (L : Ll) (H : Hds) (hH : HdsOk H) (n1 : L.name.size ≤ maxLen) (n2 : L.js.length ≤ maxLen) (n3 : L.bs.length ≤ maxLen) (n4 : L.ss.length ≤ maxLen) (n5 : ∀ s ∈ L.ss, s.across.length ≤ maxLen ∧ s.name.size ≤ maxLen)
    (oj : ∀ j ∈ L.js, j.ok) (ob : ∀ b ∈ L.bs, b.ok) (os : ∀ s ∈ L.ss, s.ok) (p : Int) (w : World) (hA : LnAt w w.heap.size L H) :
    Calls Try.prog 5 #[(.agg #[.string L.name, .slice H.j.A L.js.length H.j.c, .slice H.b.A L.bs.length H.b.c, .slice H.s.A L.ss.length H.s.c]), .int .i64 p] w fun e w' => e = .returned (.bool true) ∧ Below w.heap.size w w' := by
  have S0 := Lib.hid (LawSt.start hA)
  have HF := Lib.hid (fun w hA => Few_any L H n1 n2 n3 n4 n5 w hA)
  have HO : Hid (fewL L = true → L.ok) := Lib.hid (fun h => few_ok h oj ob os)
  have HH := Lib.hid hH
  clear hA n1 n2 n3 n4 n5 oj ob os hH

  cases hf : fewL L with
  | false =>
    rw [hf] at HF
    clear HO hf
    go_enter Try.func5, Try.ntmps5
    go_wp2_with fail
    refine (awake_any _).mono ?_
    rintro e w1 ⟨rfl, hb1⟩
    have S1 := Lib.hid (S0.out.call hb1)
    clear hb1 S0
    obtain ⟨c0, c1, c2, c3⟩ := S1.out.box.four
    go_wp2_with fail
    refine (HF.out _ S1.out.ln).mono ?_
    rintro e w2 ⟨rfl, hb2⟩
    have S2 := Lib.hid (S1.out.call hb2)
    clear hb2 S1 c0 c1 c2 c3
    go_wp2_with fail
    go_ret
    exact ⟨rfl, S2.out.bl⟩
  | true =>
    rw [hf] at HF
    have HL := Lib.hid (HO.out hf)
    clear HO hf
    rcases ck_cases L with ⟨m1, m2, er, hck, he, _⟩ | ⟨hr, hck⟩
    · have HC := Lib.hid hck
      have ge : (er != 0) = true := by simp [he]
      clear hck he
      go_enter Try.func5, Try.ntmps5
      go_wp2_with fail
      refine (awake_any _).mono ?_
      rintro e w1 ⟨rfl, hb1⟩
      have S1 := Lib.hid (S0.out.call hb1)
      clear hb1 S0
      obtain ⟨c0, c1, c2, c3⟩ := S1.out.box.four
      go_wp2_with fail
      refine (HF.out _ S1.out.ln).mono ?_
      rintro e w2 ⟨rfl, hb2⟩
      have S2 := Lib.hid (S1.out.call hb2)
      clear hb2 S1 c0 c1 c2 c3
      obtain ⟨c0, c1, c2, c3⟩ := S2.out.box.four
      go_wp2_with fail
      refine (LineErr_at HC.out H HL.out _ S2.out.ln).mono ?_
      rintro e w3 ⟨rfl, hb3⟩
      have S3 := Lib.hid (S2.out.call hb3)
      clear hb3 S2 c0 c1 c2 c3
      go_wp2_with fail
      go_ret
      exact ⟨rfl, S3.out.bl⟩
    · have HC := Lib.hid hck
      have HR := Lib.hid hr
      have hnj := HL.out.nj
      have hnb := HL.out.nb
      have HJB := Lib.hid hr.jb
      have hone := hr.one
      have hmost := hr.most
      obtain ⟨aj, haj⟩ := S0.out.ln.j.head (k := 0) (by have := hr.jb; omega)
      obtain ⟨ab, hab⟩ := S0.out.ln.b.headB (k := 0) (by have := hr.one; omega)
      obtain ⟨⟨Aj, cj⟩, ⟨Ab, cb⟩, ⟨As, cs⟩, each⟩ := H
      obtain rfl : Aj = some aj := haj
      obtain rfl : Ab = some ab := hab
      clear hck hr
      go_enter Try.func5, Try.ntmps5
      go_wp2_with fail
      refine (awake_any _).mono ?_
      rintro e w1 ⟨rfl, hb1⟩
      have S1 := Lib.hid (S0.out.call hb1)
      clear hb1 S0
      obtain ⟨c0, c1, c2, c3⟩ := S1.out.box.four
      go_wp2_with fail
      refine (HF.out _ S1.out.ln).mono ?_
      rintro e w2 ⟨rfl, hb2⟩
      have S2 := Lib.hid (S1.out.call hb2)
      clear hb2 S1 c0 c1 c2 c3
      obtain ⟨c0, c1, c2, c3⟩ := S2.out.box.four
      go_wp2_with fail
      refine (LineErr_at HC.out ⟨⟨some aj, cj⟩, ⟨some ab, cb⟩, ⟨As, cs⟩, each⟩ HL.out _ S2.out.ln).mono ?_
      rintro e w3 ⟨rfl, hb3⟩
      have S3 := Lib.hid (S2.out.call hb3)
      clear hb3 S2 c0 c1 c2 c3
      obtain ⟨c0, c1, c2, c3⟩ := S3.out.box.four
      go_wp2_with fail
      go_loopw [5] (fun i wr => ∃ k : Nat, k ≤ L.js.length ∧ i = .int .i64 k ∧ LawSt w wr L ⟨⟨some aj, cj⟩, ⟨some ab, cb⟩, ⟨As, cs⟩, each⟩) (fun i _ => L.js.length - (intOf i).toNat)
      case atStart => exact ⟨0, Nat.zero_le _, rfl, S3.out⟩
      case round =>
        clear S3 c0 c1 c2 c3
        obtain ⟨k, hk, rfl, hS⟩ := hrel
        have S0 := Lib.hid hS
        clear hS
        by_cases hlt : k < L.js.length
        · have q0 : placeErr L k = (placeL L.bs k, 0) := placeErr_joint HC.out hlt
          have q1 := plErr_joint HR.out HC.out hlt
          have q2 := numAt_joint HR.out Lj.x hlt
          have q3 := numAt_joint HR.out Lj.u hlt
          have hJ := Lib.hid (List.getElem?_eq_getElem hlt)
          have hlt' : (k : Int) < (L.js.length : Int) := by omega
          generalize placeL L.bs k = P at q0 q1 q2 q3
          generalize L.js[k] = J at *
          have Q0 := Lib.hid q0
          have Q1 := Lib.hid q1
          have Q2 := Lib.hid q2
          have Q3 := Lib.hid q3
          clear q0 q1 q2 q3
          obtain ⟨c0, c1, c2, c3⟩ := S0.out.box.four
          go_wp2_with fail
          refine (Copy_at L ⟨⟨some aj, cj⟩, ⟨some ab, cb⟩, ⟨As, cs⟩, each⟩ HL.out HH.out _ S0.out.ln).mono ?_
          rintro e w4 ⟨G4, rfl, hG, hb4⟩
          have S4 := Lib.hid (S0.out.call hb4)
          clear hb4 S0 c0 c1 c2 c3
          have A4 := Lib.hid hG
          clear hG
          go_wp2_with fail
          refine (PlaceOf_at Q0.out G4 HL.out _ A4.out).mono ?_
          rintro e w5 ⟨rfl, hb5⟩
          have S5 := Lib.hid (S4.out.call hb5)
          clear hb5 S4
          clear A4
          obtain ⟨c0, c1, c2, c3⟩ := S5.out.box.four
          go_wp2_with fail
          refine (Copy_at L ⟨⟨some aj, cj⟩, ⟨some ab, cb⟩, ⟨As, cs⟩, each⟩ HL.out HH.out _ S5.out.ln).mono ?_
          rintro e w6 ⟨G6, rfl, hG, hb6⟩
          have S6 := Lib.hid (S5.out.call hb6)
          clear hb6 S5 c0 c1 c2 c3
          have A6 := Lib.hid hG
          clear hG
          go_wp2_with fail
          refine (AcrossAt_at Q1.out Q2.out G6 HL.out _ A6.out).mono ?_
          rintro e w7 ⟨rfl, hb7⟩
          have S7 := Lib.hid ((S6.out.call hb7).alloc (.cells #[.int .i64 J.x, .int .i64 1] 46))
          have X7 := Lib.hid (Bk.new w7 46 #[.int .i64 J.x, .int .i64 1])
          clear hb7 S6
          clear A6
          obtain ⟨c0, c1, c2, c3⟩ := S7.out.box.four
          go_wp2_with fail
          refine (Copy_at L ⟨⟨some aj, cj⟩, ⟨some ab, cb⟩, ⟨As, cs⟩, each⟩ HL.out HH.out _ S7.out.ln).mono ?_
          rintro e w8 ⟨G8, rfl, hG, hb8⟩
          have S8 := Lib.hid (S7.out.call hb8)
          have X8 := Lib.hid (X7.out.call hb8)
          clear hb8 S7 X7 c0 c1 c2 c3
          have A8 := Lib.hid hG
          clear hG
          go_wp2_with fail
          refine (UpAt_at Q1.out Q3.out G8 HL.out _ A8.out).mono ?_
          rintro e w9 ⟨rfl, hb9⟩
          have S9 := Lib.hid ((S8.out.call hb9).alloc (.cells #[.int .i64 J.u, .int .i64 1] 46))
          have X9 := Lib.hid ((X8.out.call hb9).alloc (.cells #[.int .i64 J.u, .int .i64 1] 46))
          have Y9 := Lib.hid (Bk.new w9 46 #[.int .i64 J.u, .int .i64 1])
          clear hb9 S8 X8
          clear A8
          have T := Lib.hid (TwoF.mk S9.out X9.out Y9.out)
          have NA : ∀ W : World, TwoF w W L ⟨⟨some aj, cj⟩, ⟨some ab, cb⟩, ⟨As, cs⟩, each⟩ w7.heap.size w9.heap.size J.x 1 J.u 1 → _ := fun W h => TwoF.allJ h rfl hJ.out
          have HNA := Lib.hid NA
          clear S9 X9 Y9 NA
          obtain ⟨c0, c1, c2, c3⟩ := T.out.st.box.four
          go_wp2_with fail
          go_region_held3 (fun w' => TwoF w w' L ⟨⟨some aj, cj⟩, ⟨some ab, cb⟩, ⟨As, cs⟩, each⟩ w7.heap.size w9.heap.size J.x 1 J.u 1 ∧ w'.cell? ⟨w.heap.size, 0, none⟩ = some (.string L.name) ∧ w'.cell? ⟨w.heap.size, 1, none⟩ = some (.slice (some aj) L.js.length cj) ∧ w'.cell? ⟨w.heap.size, 2, none⟩ = some (.slice (some ab) L.bs.length cb) ∧ w'.cell? ⟨w.heap.size, 3, none⟩ = some (.slice As L.ss.length cs) ∧ w'.cell? ⟨w7.heap.size, 0, none⟩ = some (.int .i64 J.x) ∧ w'.cell? ⟨w7.heap.size, 1, none⟩ = some (.int .i64 1) ∧ w'.cell? ⟨w9.heap.size, 0, none⟩ = some (.int .i64 J.u) ∧ w'.cell? ⟨w9.heap.size, 1, none⟩ = some (.int .i64 1) ∧ w'.cell? (aj.add (k * 4)) = some (.int .i64 J.x) ∧ w'.cell? ⟨(aj.add (k * 4)).block, (aj.add (k * 4)).off + 1, none⟩ = some (.int .i64 J.u)) ((first | exact HNA.out _ (TwoF.call (by assumption) (by assumption)) | exact HNA.out _ T.out.drew))
            ((go_at_call 33; go_split_ands; refine (Whole_any _ _).mono ?_; rintro e w' ⟨rfl, hb⟩))
          all_goals
            go_split_ands
            have hend := Lib.hid (TwoF.st (by assumption : TwoF w _ L ⟨⟨some aj, cj⟩, ⟨some ab, cb⟩, ⟨As, cs⟩, each⟩ w7.heap.size w9.heap.size J.x 1 J.u 1))
            go_wp2_with fail
            go_roundw
            case rel => exact ⟨k + 1, by omega, by go_num, TwoF.st (by assumption)⟩
            case measure => simp [intOf]; omega
        · obtain rfl : k = L.js.length := by omega
          clear hlt
          by_cases he : plErr L p = 0
          · obtain ⟨_, _, p0, p1⟩ := plErr_good he
            have hm : beamOf L p < L.bs.length := (beamOf_at HR.out p0).1
            have ee := beamOf_end HR.out p0 p1
            rw [lenL_eq hm] at ee
            have hl := beam_len (HR.out.b _ (List.getElem_mem hm))
            have hJBo := HJB.out
            have h1 : beamOf L p < L.js.length := by omega
            have h2 : beamOf L p + 1 < L.js.length := by omega
            clear hJBo
            obtain ⟨xa, xb, hx⟩ : ∃ a b, lowV (numAt L Lj.x p) (lenL L (beamOf L p)) = .agg #[.int .i64 a, .int .i64 b] := ⟨_, _, rfl⟩
            obtain ⟨ya, yb, hy⟩ : ∃ a b, lowV (numAt L Lj.u p) (lenL L (beamOf L p)) = .agg #[.int .i64 a, .int .i64 b] := ⟨_, _, rfl⟩
            have mx := numAt_mid HR.out Lj.x (fun j hj => ⟨(joint_in (HR.out.j j hj)).1, (joint_in (HR.out.j j hj)).2.1⟩) p0 p1 hx rfl h1 h2
            have my := numAt_mid HR.out Lj.u (fun j hj => joint_up (HR.out.j j hj)) p0 p1 hy rfl h1 h2
            have jx1 := joint_in (HR.out.j _ (List.getElem_mem h1))
            have jx2 := joint_in (HR.out.j _ (List.getElem_mem h2))
            have ju1 := joint_up (HR.out.j _ (List.getElem_mem h1))
            have ju2 := joint_up (HR.out.j _ (List.getElem_mem h2))
            have HB := Lib.hid (List.getElem?_eq_getElem hm)
            have HJ1 := Lib.hid (List.getElem?_eq_getElem h1)
            have HJ2 := Lib.hid (List.getElem?_eq_getElem h2)
            have hm' : (beamOf L p : Int) < (L.bs.length : Int) := by omega
            have h1' : (beamOf L p : Int) < (L.js.length : Int) := by omega
            have h2' : (beamOf L p : Int) + 1 < (L.js.length : Int) := by omega
            have b1 := Lib.hid (show inB (beamOf L p) 0 ((L.bs.length : Int) - 1) = true from inB_iff.2 ⟨by omega, by omega⟩)
            obtain ⟨d, hd⟩ : ∃ d, p - placeL L.bs (beamOf L p) = d := ⟨_, rfl⟩
            rw [hd] at ee
            have b2 := Lib.hid (show inB d 0 L.bs[beamOf L p].len = true from inB_iff.2 ⟨ee.1, ee.2⟩)
            generalize L.js[beamOf L p] = J1 at *
            generalize L.js[beamOf L p + 1] = J2 at *
            generalize L.bs[beamOf L p] = B at *
            have HX := Lib.hid hx
            have HU := Lib.hid hy
            have HD := Lib.hid hd
            have HP := Lib.hid he
            have MX := Lib.hid mx
            have MU := Lib.hid my
            have s1 := Lib.hid mx.small
            have s2 := Lib.hid my.small
            have HJA : Hid ((-20000 ≤ J1.x ∧ J1.x ≤ 20000) ∧ (-20000 ≤ J2.x ∧ J2.x ≤ 20000) ∧ (-20000 ≤ J1.u ∧ J1.u ≤ 20000) ∧ (-20000 ≤ J2.u ∧ J2.u ≤ 20000)) := Lib.hid ⟨⟨jx1.1, jx1.2.1⟩, ⟨jx2.1, jx2.2.1⟩, ju1, ju2⟩
            have xd := mx.d1
            have xd2 := mx.d2
            have xn := mx.n1
            have xn2 := mx.n2
            have yd := my.d1
            have yd2 := my.d2
            have yn := my.n1
            have yn2 := my.n2
            clear hx hy hd he mx my jx1 jx2 ju1 ju2 ee hl
            obtain ⟨c0, c1, c2, c3⟩ := S0.out.box.four
            go_wp2_with fail
            refine (Copy_at L ⟨⟨some aj, cj⟩, ⟨some ab, cb⟩, ⟨As, cs⟩, each⟩ HL.out HH.out _ S0.out.ln).mono ?_
            rintro e w4 ⟨G4, rfl, hG, hb4⟩
            have S4 := Lib.hid (S0.out.call hb4)
            clear hb4 S0 c0 c1 c2 c3
            have A4 := Lib.hid hG
            clear hG
            go_wp2_with fail
            refine (BeamAt_at HP.out rfl HD.out G4 HL.out _ A4.out).mono ?_
            rintro e w5 ⟨rfl, hb5⟩
            have S5 := Lib.hid (S4.out.call hb5)
            clear hb5 S4
            clear A4
            obtain ⟨c0, c1, c2, c3⟩ := S5.out.box.four
            go_wp2_with fail
            refine (Copy_at L ⟨⟨some aj, cj⟩, ⟨some ab, cb⟩, ⟨As, cs⟩, each⟩ HL.out HH.out _ S5.out.ln).mono ?_
            rintro e w6 ⟨G6, rfl, hG, hb6⟩
            have S6 := Lib.hid (S5.out.call hb6)
            clear hb6 S5 c0 c1 c2 c3
            have A6 := Lib.hid hG
            clear hG
            go_wp2_with fail
            refine (AcrossAt_at HP.out HX.out G6 HL.out _ A6.out).mono ?_
            rintro e w7 ⟨rfl, hb7⟩
            have S7 := Lib.hid ((S6.out.call hb7).alloc (.cells #[.int .i64 xa, .int .i64 xb] 46))
            have X7 := Lib.hid (Bk.new w7 46 #[.int .i64 xa, .int .i64 xb])
            clear hb7 S6
            clear A6
            obtain ⟨c0, c1, c2, c3⟩ := S7.out.box.four
            go_wp2_with fail
            refine (Copy_at L ⟨⟨some aj, cj⟩, ⟨some ab, cb⟩, ⟨As, cs⟩, each⟩ HL.out HH.out _ S7.out.ln).mono ?_
            rintro e w8 ⟨G8, rfl, hG, hb8⟩
            have S8 := Lib.hid (S7.out.call hb8)
            have X8 := Lib.hid (X7.out.call hb8)
            clear hb8 S7 X7 c0 c1 c2 c3
            have A8 := Lib.hid hG
            clear hG
            go_wp2_with fail
            refine (UpAt_at HP.out HU.out G8 HL.out _ A8.out).mono ?_
            rintro e w9 ⟨rfl, hb9⟩
            have S9 := Lib.hid ((S8.out.call hb9).alloc (.cells #[.int .i64 ya, .int .i64 yb] 46))
            have X9 := Lib.hid ((X8.out.call hb9).alloc (.cells #[.int .i64 ya, .int .i64 yb] 46))
            have Y9 := Lib.hid (Bk.new w9 46 #[.int .i64 ya, .int .i64 yb])
            clear hb9 S8 X8
            clear A8
            have T0 := Lib.hid (TwoF.mk S9.out X9.out Y9.out)
            clear S9 X9 Y9
            obtain ⟨c0, c1, c2, c3⟩ := T0.out.st.box.four
            obtain ⟨x0, x1, _, _⟩ := T0.out.x.two
            obtain ⟨y0, y1, _, _⟩ := T0.out.y.two
            obtain ⟨a0, e0, _, v0, v1⟩ := T0.out.st.ln.b.beam HB.out
            obtain rfl : ab = a0 := Option.some.inj e0
            clear e0
            go_wp2_with fail
            refine (Within_any _ _ _ _).mono ?_
            rintro e w' ⟨rfl, rfl⟩
            rw [b1.out]
            go_wp2_with fail
            refine (Within_any _ _ _ _).mono ?_
            rintro e w' ⟨rfl, rfl⟩
            rw [b2.out]
            go_wp2_with fail
            refine (IsLowest_yes xa xb (by omega) (by omega) (by omega) (by omega) MX.out.low _).mono ?_
            rintro e w10 ⟨rfl, hb10⟩
            have T10 := Lib.hid (T0.out.call hb10)
            clear hb10 T0 c0 c1 c2 c3 x0 x1 y0 y1 v0 v1
            obtain ⟨c0, c1, c2, c3⟩ := T10.out.st.box.four
            obtain ⟨x0, x1, _, _⟩ := T10.out.x.two
            obtain ⟨y0, y1, _, _⟩ := T10.out.y.two
            go_wp2_with fail
            refine (IsSmall_any xa xb _).mono ?_
            rintro e w11 ⟨rfl, hb11⟩
            rw [s1.out]
            have T11 := Lib.hid (T10.out.call hb11)
            clear hb11 T10 c0 c1 c2 c3 x0 x1 y0 y1
            obtain ⟨c0, c1, c2, c3⟩ := T11.out.st.box.four
            obtain ⟨x0, x1, _, _⟩ := T11.out.x.two
            obtain ⟨y0, y1, _, _⟩ := T11.out.y.two
            go_wp2_with fail
            refine (IsLowest_yes ya yb (by omega) (by omega) (by omega) (by omega) MU.out.low _).mono ?_
            rintro e w12 ⟨rfl, hb12⟩
            have T12 := Lib.hid (T11.out.call hb12)
            clear hb12 T11 c0 c1 c2 c3 x0 x1 y0 y1
            obtain ⟨c0, c1, c2, c3⟩ := T12.out.st.box.four
            obtain ⟨x0, x1, _, _⟩ := T12.out.x.two
            obtain ⟨y0, y1, _, _⟩ := T12.out.y.two
            go_wp2_with fail
            refine (IsSmall_any ya yb _).mono ?_
            rintro e w13 ⟨rfl, hb13⟩
            rw [s2.out]
            have T13 := Lib.hid (T12.out.call hb13)
            clear hb13 T12 c0 c1 c2 c3 x0 x1 y0 y1
            obtain ⟨c0, c1, c2, c3⟩ := T13.out.st.box.four
            obtain ⟨x0, x1, _, _⟩ := T13.out.x.two
            obtain ⟨y0, y1, _, _⟩ := T13.out.y.two
            obtain ⟨u1, u2, u3, u4⟩ := T13.out.joint rfl HJ1.out
            obtain ⟨v1, v2, v3, v4⟩ := T13.out.joint rfl HJ2.out
            have t0 := IntWalk.i64_in ((beamOf L p : Int) + 1) (by omega)
            have t4 : (0 : Int) ≤ (beamOf L p : Int) + 1 := by omega
            have t5 : ((beamOf L p : Int) + 1).toNat = beamOf L p + 1 := by omega
            have keep : ∀ (p : Addr) (v : Value), w13.cell? p = some v → ∀ X : Array Value, (w13.alloc (.cells X 56)).cell? p = some v := fun p v h X =>
              (World.cell?_alloc_lt _ _ p (cell_lt h)).trans h
            have keep2 : ∀ (p : Addr) (v : Value), w13.cell? p = some v → ∀ X Y : Array Value, ((w13.alloc (.cells X 56)).alloc (.cells Y 56)).cell? p = some v := fun p v h X Y =>
              (World.cell?_alloc_lt _ _ p (cell_lt (keep p v h X))).trans (keep p v h X)
            have k0 := keep _ _ c1
            have k1 := keep2 _ _ c1
            have k2 := keep _ _ u1
            have k3 := keep2 _ _ u1
            have k4 := keep _ _ u2
            have k5 := keep2 _ _ u2
            have k6 := keep _ _ u3
            have k7 := keep2 _ _ u3
            have k8 := keep _ _ u4
            have k9 := keep2 _ _ u4
            have k10 := keep _ _ v1
            have k11 := keep2 _ _ v1
            have k12 := keep _ _ v2
            have k13 := keep2 _ _ v2
            have k14 := keep _ _ v3
            have k15 := keep2 _ _ v3
            have k16 := keep _ _ v4
            have k17 := keep2 _ _ v4
            have k18 := keep _ _ x0
            have k19 := keep2 _ _ x0
            have k20 := keep _ _ x1
            have k21 := keep2 _ _ x1
            have k22 := keep _ _ y0
            have k23 := keep2 _ _ y0
            have k24 := keep _ _ y1
            have k25 := keep2 _ _ y1
            clear keep keep2
            go_wp2_with fail
            go_region
            all_goals
              go_wp2_with fail
              refine (inside_yes J1.x J2.x xa xb HJA.out.1 HJA.out.2.1 MX.out _).mono ?_
              rintro e w914 ⟨rfl, hb⟩
              clear k0 k1 k2 k3 k4 k5 k6 k7 k8 k9 k10 k11 k12 k13 k14 k15 k16 k17 k18 k19 k20 k21 k22 k23 k24 k25 c0 c1 c2 c3 x0 x1 y0 y1 u1 u2 u3 u4 v1 v2 v3 v4 t0 t4 t5
              have TT := Lib.hid ((((T13.out.alloc _).alloc _).drew).call hb)
              first
                | (have N1 := Lib.hid (Bk.call (((Bk.new w13 56 #[.int .i64 J1.x, .int .i64 J1.u, .int .i64 J1.lo, .int .i64 J1.hi]).alloc (.cells #[.int .i64 J2.x, .int .i64 J2.u, .int .i64 J2.lo, .int .i64 J2.hi] 56)).drew) hb); have N2 := Lib.hid (Bk.call ((Bk.new1 w13 (.cells #[.int .i64 J1.x, .int .i64 J1.u, .int .i64 J1.lo, .int .i64 J1.hi] 56) 56 #[.int .i64 J2.x, .int .i64 J2.u, .int .i64 J2.lo, .int .i64 J2.hi]).drew) hb))
                | (have N1 := Lib.hid (Bk.call (((Bk.new w13 56 #[.int .i64 J2.x, .int .i64 J2.u, .int .i64 J2.lo, .int .i64 J2.hi]).alloc (.cells #[.int .i64 J1.x, .int .i64 J1.u, .int .i64 J1.lo, .int .i64 J1.hi] 56)).drew) hb); have N2 := Lib.hid (Bk.call ((Bk.new1 w13 (.cells #[.int .i64 J2.x, .int .i64 J2.u, .int .i64 J2.lo, .int .i64 J2.hi] 56) 56 #[.int .i64 J1.x, .int .i64 J1.u, .int .i64 J1.lo, .int .i64 J1.hi]).drew) hb))
              obtain ⟨n0, n1, n2, n3⟩ := N1.out.four
              obtain ⟨m0, m1, m2, m3⟩ := N2.out.four
              obtain ⟨y0, y1, _, _⟩ := TT.out.y.two
              clear hb T13
              go_wp2_with fail
              refine (inside_yes J1.u J2.u ya yb HJA.out.2.2.1 HJA.out.2.2.2 MU.out _).mono ?_
              rintro e w915 ⟨rfl, hb⟩
              have T15 := Lib.hid (TT.out.call hb)
              clear hb TT n0 n1 n2 n3 m0 m1 m2 m3 y0 y1
              go_wp2_with fail
              go_ret
              exact ⟨rfl, T15.out.st.bl⟩
          · have h2 : plErr L p = 2 := by
                rcases plErr_cases rfl he with ⟨m1, m2, hck⟩ | ⟨_, _, _, h2⟩
                · rw [HC.out] at hck
                  have := congrArg Prod.snd hck
                  exact absurd this.symm he
                · exact h2
            have HP := Lib.hid h2
            clear he h2
            obtain ⟨c0, c1, c2, c3⟩ := S0.out.box.four
            go_wp2_with fail
            refine (Copy_at L ⟨⟨some aj, cj⟩, ⟨some ab, cb⟩, ⟨As, cs⟩, each⟩ HL.out HH.out _ S0.out.ln).mono ?_
            rintro e w4 ⟨G4, rfl, hG, hb4⟩
            have S4 := Lib.hid (S0.out.call hb4)
            clear hb4 S0 c0 c1 c2 c3
            have A4 := Lib.hid hG
            clear hG
            go_wp2_with fail
            refine (BeamAt_err HP.out (by decide) G4 HL.out _ A4.out).mono ?_
            rintro e w5 ⟨rfl, hb5⟩
            have S5 := Lib.hid (S4.out.call hb5)
            clear hb5 S4
            go_wp2_with fail
            go_ret
            exact ⟨rfl, S5.out.bl⟩
end Go.Proofs.Ythdbjbdfcnepgaa
