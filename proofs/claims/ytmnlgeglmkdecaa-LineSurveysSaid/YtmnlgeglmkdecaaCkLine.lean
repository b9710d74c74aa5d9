/-
  The walk of CheckLine.
-/
import Derived.Test.YtmnlgeglmkdecaaCheck
namespace Go.Proofs.Ytmnlgeglmkdecaa
open Go.RowKit

theorem ck_whole {L : Ll} (h : wholeErr L ≠ 0) : ckLine L = ((0, 0), wholeErr L) := by unfold ckLine; rw [if_pos h]
theorem ck_beam {L : Ll} (h : wholeErr L = 0) (hj : ∀ i (hi : i < L.js.length), jErr L.js[i] = 0) {k : Nat} (hk : k < L.bs.length) (hz : ∀ i (hi : i < k), bErr (L.bs[i]'(by omega)) = 0) (he : bErr L.bs[k] ≠ 0) : ckLine L = ((2, (k : Int)), bErr L.bs[k]) := by
  have f := firstErr_hit bErr L.bs 0 k hk hz he
  have g := firstErr_none jErr L.js 0 (fun a ha => by obtain ⟨i, hi, rfl⟩ := List.getElem_of_mem ha; exact hj i hi)
  rw [Nat.zero_add] at f
  unfold ckLine; rw [if_neg (by omega), g, if_neg (by simp), f, if_pos he]
theorem ck_rest {L : Ll} (h : wholeErr L = 0) (hj : ∀ i (hi : i < L.js.length), jErr L.js[i] = 0) (hb : ∀ i (hi : i < L.bs.length), bErr L.bs[i] = 0) : ckLine L = if 4 < L.ss.length then ((0, 0), 8) else swMark L := by
  have f := firstErr_none bErr L.bs 0 (fun a ha => by obtain ⟨i, hi, rfl⟩ := List.getElem_of_mem ha; exact hb i hi)
  have g := firstErr_none jErr L.js 0 (fun a ha => by obtain ⟨i, hi, rfl⟩ := List.getElem_of_mem ha; exact hj i hi)
  unfold ckLine; rw [if_neg (by omega), g, if_neg (by simp), f, if_neg (by simp)]
theorem ck_joint {L : Ll} (h : wholeErr L = 0) {k : Nat} (hk : k < L.js.length) (hz : ∀ i (hi : i < k), jErr (L.js[i]'(by omega)) = 0) (he : jErr L.js[k] ≠ 0) : ckLine L = ((1, (k : Int)), jErr L.js[k]) := by
  have f := firstErr_hit jErr L.js 0 k hk hz he
  rw [Nat.zero_add] at f
  unfold ckLine; rw [if_neg (by omega), f, if_pos he]

set_option maxHeartbeats 1000000 in
theorem CheckLine_whole (L : Ll) (H : Hds) (hL : L.ok) (w : World) (h0 : wholeErr L ≠ 0) :
    Calls Try.prog 17 #[(.agg #[.string L.name, .slice H.j.A L.js.length H.j.c, .slice H.b.A L.bs.length H.b.c, .slice H.s.A L.ss.length H.s.c])] w fun e w' => e = .returned (.tuple #[.agg #[.int .i64 (ckLine L).1.1, .int .i64 (ckLine L).1.2], .int .i64 (ckLine L).2]) ∧ Below w.heap.size w w' := by
  have hn := small_max hL.name
  have Hnb := Lib.hid hL.nb
  have hnj := hL.nj
  have R0 := Lib.hid (Bk.new1 w (.cells #[.string L.name, .slice H.j.A L.js.length H.j.c, .slice H.b.A L.bs.length H.b.c, .slice H.s.A L.ss.length H.s.c] 26) 30 #[.int .i64 0, .int .i64 0])
  have b0 := ((Below.refl w.heap.size w).alloc (Nat.le_refl _) (.cells #[.string L.name, .slice H.j.A L.js.length H.j.c, .slice H.b.A L.bs.length H.b.c, .slice H.s.A L.ss.length H.s.c] 26)).alloc (by simp) (.cells #[.int .i64 0, .int .i64 0] 30)
  have g0 : (wholeErr L != 0) = true := by simp [h0]
  have hr := Lib.hid (ck_whole h0)
  clear h0
  go_enter Try.func17, Try.ntmps17
  go_wp2_with (go_at_call 75; refine (checkWhole_any L H hn Hnb.out _).mono ?_; rintro e w1 ⟨rfl, hb1⟩; have r1 := R0.out.call hb1; obtain ⟨c0, c1, f0, f1⟩ := r1.two)
  refine bodyPost_ret (v := .tuple #[.agg #[.int .i64 0, .int .i64 0], .int .i64 (wholeErr L)]) (by clear hr; simp [results, Try.results17, go_sem, c0, c1]) rfl ⟨by rw [hr.out], ?_⟩
  exact (b0.trans (hb1.mono (by simp; omega))).setCell (by simp) _ |>.setCell (by simp) _

/-- What is asked of checkSwitches. -/
def SwitchesSaid : Prop := ∀ (L : Ll) (H : Hds) (w : World), L.ok → LnAt w w.heap.size L H → 2 ≤ L.js.length → L.js.length = L.bs.length + 1 → L.ss.length ≤ 4 →
  Calls Try.prog 78 #[(.agg #[.string L.name, .slice H.j.A L.js.length H.j.c, .slice H.b.A L.bs.length H.b.c, .slice H.s.A L.ss.length H.s.c])] w fun e w' => e = .returned (.tuple #[.agg #[.int .i64 (swMark L).1.1, .int .i64 (swMark L).1.2], .int .i64 (swMark L).2]) ∧ Below w.heap.size w w'

set_option maxHeartbeats 2000000 in
theorem CheckLine_on (hS : SwitchesSaid) (L : Ll) (H : Hds) (hL : L.ok) (w : World) (hA : LnAt w w.heap.size L H) (h0 : wholeErr L = 0) :
    Calls Try.prog 17 #[(.agg #[.string L.name, .slice H.j.A L.js.length H.j.c, .slice H.b.A L.bs.length H.b.c, .slice H.s.A L.ss.length H.s.c])] w fun e w' => e = .returned (.tuple #[.agg #[.int .i64 (ckLine L).1.1, .int .i64 (ckLine L).1.2], .int .i64 (ckLine L).2]) ∧ Below w.heap.size w w' := by
  have hn := small_max hL.name
  have Hnb := Lib.hid hL.nb
  have hnj := hL.nj
  have hns := hL.ns
  obtain ⟨_, hb1, hb40, hjb⟩ := whole_ok h0
  have HJ := Lib.hid hjb
  have g0 : (wholeErr L != 0) = false := by simp [h0]
  have H0 := Lib.hid h0
  obtain ⟨⟨Aj, cj⟩, ⟨Ab, cb⟩, ⟨As, cs⟩, each⟩ := H
  obtain ⟨aj, haj⟩ : ∃ a, Aj = some a := by obtain ⟨a, h, _⟩ := hA.j.joint (List.getElem?_eq_getElem (show 0 < L.js.length by omega)); exact ⟨a, h⟩
  subst haj
  obtain ⟨ab, hab⟩ : ∃ a, Ab = some a := by obtain ⟨a, h, _⟩ := hA.b.beam (List.getElem?_eq_getElem (show 0 < L.bs.length by omega)); exact ⟨a, h⟩
  subst hab
  have X0 := Lib.hid ((Bk.new w 26 #[.string L.name, .slice (some aj) L.js.length cj, .slice (some ab) L.bs.length cb, .slice As L.ss.length cs]).alloc (.cells #[.int .i64 0, .int .i64 0] 30))
  have R0 := Lib.hid (Bk.new1 w (.cells #[.string L.name, .slice (some aj) L.js.length cj, .slice (some ab) L.bs.length cb, .slice As L.ss.length cs] 26) 30 #[.int .i64 0, .int .i64 0])
  have B0 := Lib.hid (((Below.refl w.heap.size w).alloc (Nat.le_refl _) (.cells #[.string L.name, .slice (some aj) L.js.length cj, .slice (some ab) L.bs.length cb, .slice As L.ss.length cs] 26)).alloc (by simp) (.cells #[.int .i64 0, .int .i64 0] 30))
  have HA := Lib.hid hA
  clear hjb h0 hA
  go_enter Try.func17, Try.ntmps17
  go_wp2_with (go_at_call 75; refine (checkWhole_any L ⟨⟨some aj, cj⟩, ⟨some ab, cb⟩, ⟨As, cs⟩, each⟩ hn Hnb.out _).mono ?_; rintro e w1 ⟨rfl, hb1⟩; have X1 := Lib.hid (X0.out.call hb1); have R1 := Lib.hid (R0.out.call hb1); have B1 := Lib.hid (B0.out.trans (hb1.mono (by simp; omega))); obtain ⟨c0, c1, c2, c3⟩ := X1.out.four)
  clear X0 R0 B0 hb1 c0 c1 c2 c3
  go_loopw [20] (fun i wr => ∃ k : Nat, k ≤ L.js.length ∧ i = .int .i64 k ∧ (∀ (i : Nat) (hi : i < k) (hl : i < L.js.length), jErr L.js[i] = 0) ∧ Bk wr w.heap.size 26 #[.string L.name, .slice (some aj) L.js.length cj, .slice (some ab) L.bs.length cb, .slice As L.ss.length cs] ∧ Bk wr (w.heap.size + 1) 30 #[.int .i64 0, .int .i64 0] ∧ Below w.heap.size w wr)
    (fun i _ => L.js.length - (intOf i).toNat)
  case atStart => exact ⟨0, Nat.zero_le _, rfl, fun i hi => absurd hi (by omega), X1.out, R1.out, B1.out⟩
  case round =>
    clear X1 R1 B1
    obtain ⟨k, hk, rfl, hz, hx, hr, hB⟩ := hrel
    have HZ := Lib.hid hz
    have HX := Lib.hid hx
    have HR := Lib.hid hr
    have HB := Lib.hid hB
    clear hz hx hr hB
    by_cases hlt : k < L.js.length
    · obtain ⟨a', ha', _, j0, j1, j2, j3⟩ := (HA.out.j.below HB.out).joint (List.getElem?_eq_getElem hlt)
      simp only [Option.some.injEq] at ha'
      subst ha'
      by_cases he : jErr L.js[k] = 0
      · have ge : (jErr L.js[k] != 0) = false := by simp [he]
        have HE := Lib.hid he
        clear he
        go_wp2_with (go_at_call 76; refine (checkJoint_any L.js[k] _).mono ?_; rintro e w2 ⟨rfl, hb2⟩)
        go_roundw
        case rel => exact ⟨k + 1, by omega, by go_num, fun i hi hl => if h : i = k then (by subst h; exact HE.out) else HZ.out i (by omega) hl, (HX.out.alloc _).call hb2, (HR.out.alloc _).call hb2, (HB.out.alloc HB.out.size _).trans (hb2.mono (by have := HB.out.size; simp; omega))⟩
        case measure => simp [intOf]; omega
      · have ge : (jErr L.js[k] != 0) = true := by simp [he]
        have hr := Lib.hid (ck_joint H0.out hlt (fun i hi => HZ.out i hi (by omega)) he)
        clear he
        go_wp2_with (go_at_call 76; refine (checkJoint_any L.js[k] _).mono ?_; rintro e w2 ⟨rfl, hb2⟩; obtain ⟨c0, c1, f0, f1⟩ := ((HR.out.alloc _).call hb2).two)
        refine bodyPost_ret (v := .tuple #[.agg #[.int .i64 1, .int .i64 k], .int .i64 (jErr L.js[k])]) (by clear hr HZ; simp [results, Try.results17, go_sem, c0, c1]) rfl ⟨by rw [hr.out], ?_⟩
        exact ((HB.out.alloc HB.out.size _).trans (hb2.mono (by have := HB.out.size; simp; omega))).setCell (by simp) _ |>.setCell (by simp) _
    · obtain ⟨c0, c1, c2, c3⟩ := HX.out.four
      have HZ' : Hid (∀ i (hi : i < L.js.length), jErr L.js[i] = 0) := Lib.hid (fun i hi => HZ.out i (by omega) hi)
      clear HZ
      go_wp2_with fail
      clear c0 c1 c2 c3
      go_loopw [36] (fun i wr => ∃ k : Nat, k ≤ L.bs.length ∧ i = .int .i64 k ∧ (∀ (i : Nat) (hi : i < k) (hl : i < L.bs.length), bErr L.bs[i] = 0) ∧ Bk wr w.heap.size 26 #[.string L.name, .slice (some aj) L.js.length cj, .slice (some ab) L.bs.length cb, .slice As L.ss.length cs] ∧ Bk wr (w.heap.size + 1) 30 #[.int .i64 0, .int .i64 0] ∧ Below w.heap.size w wr)
        (fun i _ => L.bs.length - (intOf i).toNat)
      case atStart => exact ⟨0, Nat.zero_le _, rfl, fun i hi => absurd hi (by omega), HX.out, HR.out, HB.out⟩
      case round =>
        clear HX HR HB
        obtain ⟨q, hq, rfl, hz, hx, hr, hB⟩ := hrel
        have HZ := Lib.hid hz
        have HX := Lib.hid hx
        have HR := Lib.hid hr
        have HB := Lib.hid hB
        clear hz hx hr hB
        by_cases hlt : q < L.bs.length
        · obtain ⟨a', ha', _, j0, j1⟩ := (HA.out.b.below HB.out).beam (List.getElem?_eq_getElem hlt)
          simp only [Option.some.injEq] at ha'
          subst ha'
          by_cases he : bErr L.bs[q] = 0
          · have ge : (bErr L.bs[q] != 0) = false := by simp [he]
            have HE := Lib.hid he
            clear he
            go_wp2_with (go_at_call 77; refine (checkBeam_any L.bs[q] _).mono ?_; rintro e w2 ⟨rfl, hb2⟩)
            go_roundw
            case rel => exact ⟨q + 1, by omega, by go_num, fun i hi hl => if h : i = q then (by subst h; exact HE.out) else HZ.out i (by omega) hl, (HX.out.alloc _).call hb2, (HR.out.alloc _).call hb2, (HB.out.alloc HB.out.size _).trans (hb2.mono (by have := HB.out.size; simp; omega))⟩
            case measure => simp [intOf]; omega
          · have ge : (bErr L.bs[q] != 0) = true := by simp [he]
            have hr := Lib.hid (ck_beam H0.out HZ'.out hlt (fun i hi => HZ.out i hi (by omega)) he)
            clear he
            go_wp2_with (go_at_call 77; refine (checkBeam_any L.bs[q] _).mono ?_; rintro e w2 ⟨rfl, hb2⟩; obtain ⟨c0, c1, f0, f1⟩ := ((HR.out.alloc _).call hb2).two)
            refine bodyPost_ret (v := .tuple #[.agg #[.int .i64 2, .int .i64 q], .int .i64 (bErr L.bs[q])]) (by clear hr HZ; simp [results, Try.results17, go_sem, c0, c1]) rfl ⟨by rw [hr.out], ?_⟩
            exact ((HB.out.alloc HB.out.size _).trans (hb2.mono (by have := HB.out.size; simp; omega))).setCell (by simp) _ |>.setCell (by simp) _
        · obtain ⟨c0, c1, c2, c3⟩ := HX.out.four
          have hr := Lib.hid (ck_rest H0.out HZ'.out (fun i hi => HZ.out i (by omega) hi))
          clear HZ
          by_cases h4 : 4 < L.ss.length
          · obtain ⟨d0, d1, f0, f1⟩ := HR.out.two
            go_wp2_with fail
            refine bodyPost_ret (v := .tuple #[.agg #[.int .i64 0, .int .i64 0], .int .i64 8]) (by clear hr; simp [results, Try.results17, go_sem, d0, d1]) rfl ⟨by rw [hr.out, if_pos h4], ?_⟩
            exact HB.out.setCell (by simp) _ |>.setCell (by simp) _
          · go_wp2_with (go_at_call 78; refine (hS L ⟨⟨some aj, cj⟩, ⟨some ab, cb⟩, ⟨As, cs⟩, each⟩ _ hL ((HA.out.below HB.out).more HB.out.size) (by have := HJ.out; omega) HJ.out (by omega)).mono ?_; rintro e w2 ⟨rfl, hb2⟩; obtain ⟨d0, d1, f0, f1⟩ := (HR.out.call hb2).two)
            refine bodyPost_ret (v := .tuple #[.agg #[.int .i64 (swMark L).1.1, .int .i64 (swMark L).1.2], .int .i64 (swMark L).2]) (by clear hr; simp [results, Try.results17, go_sem, d0, d1]) rfl ⟨by rw [hr.out, if_neg h4], ?_⟩
            exact (HB.out.trans (hb2.mono HB.out.size)).setCell (by simp) _ |>.setCell (by simp) _
end Go.Proofs.Ytmnlgeglmkdecaa
