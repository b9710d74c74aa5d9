/-
  The walk of the reference's CheckLine and LineErr.
-/
import Derived.Test.YtmnlgeglmkdecaaRefSw
namespace Go.Proofs.Ytmnlgeglmkdecaa
open Go.RowKit

theorem jErr_2 {j : Lj} (h : (inB j.x (-20000) 20000 && inB j.u (-20000) 20000 && inB j.lo (-100) 100 && inB j.hi (-100) 100) = false) : jErr j = 2 := by simp [jErr, h]
theorem jErr_zero {j : Lj} (h : jErr j = 0) : inB j.x (-20000) 20000 = true ∧ inB j.u (-20000) 20000 = true ∧ inB j.lo (-100) 100 = true ∧ inB j.hi (-100) 100 = true ∧ j.lo ≤ j.hi := by
  unfold jErr at h
  split at h
  · rename_i hh
    simp only [Bool.and_eq_true] at hh
    split at h
    · simp at h
    · exact ⟨hh.1.1.1, hh.1.1.2, hh.1.2, hh.2, by omega⟩
  · simp at h
theorem bErr_2 {b : Lb} (h : (inB b.len 1000 30000 && inB b.cant (-300) 300) = false) : bErr b = 2 := by simp [bErr, h]

set_option maxHeartbeats 8000000 in
set_option maxRecDepth 100000 in
theorem refCheckLine_any (L : Ll) (H : Hds) (hL : L.ok) (w : World) (hA : LnAt w w.heap.size L H) :
    Calls Try.prog 21 #[(.agg #[.string L.name, .slice H.j.A L.js.length H.j.c, .slice H.b.A L.bs.length H.b.c, .slice H.s.A L.ss.length H.s.c])] w fun e w' => e = .returned (.tuple #[.agg #[.int .i64 (ckLine L).1.1, .int .i64 (ckLine L).1.2], .int .i64 (ckLine L).2]) ∧ Below w.heap.size w w' := by
  have hn := small_max hL.name
  have hnb := hL.nb
  have hnj := hL.nj
  have hns := hL.ns
  obtain ⟨⟨Aj, cj⟩, ⟨Ab, cb⟩, ⟨As, cs⟩, each⟩ := H
  have X0 := Lib.hid ((Bk.new w 26 #[.string L.name, .slice Aj L.js.length cj, .slice Ab L.bs.length cb, .slice As L.ss.length cs]).alloc (.cells #[.int .i64 0, .int .i64 0] 30))
  have R0 := Lib.hid (Bk.new1 w (.cells #[.string L.name, .slice Aj L.js.length cj, .slice Ab L.bs.length cb, .slice As L.ss.length cs] 26) 30 #[.int .i64 0, .int .i64 0])
  have B0 := Lib.hid (((Below.refl w.heap.size w).alloc (Nat.le_refl _) (.cells #[.string L.name, .slice Aj L.js.length cj, .slice Ab L.bs.length cb, .slice As L.ss.length cs] 26)).alloc (by simp) (.cells #[.int .i64 0, .int .i64 0] 30))
  have HA := Lib.hid hA
  clear hA
  cases h1 : nameB L.name.data.toList with
  | false =>
    have hr := Lib.hid (show ckLine L = ((0, 0), 4) by rw [ck_whole (by simp [wholeErr, h1])]; simp [wholeErr, h1])
    obtain ⟨d0, d1, f0, f1⟩ := R0.out.two
    go_enter Try.func21, Try.ntmps21
    go_wp2_with (go_at_call 83; refine (IsName_any _ hn _).mono ?_; rintro e w' ⟨rfl, rfl⟩)
    refine bodyPost_ret (v := .tuple #[.agg #[.int .i64 0, .int .i64 0], .int .i64 4]) (by clear hr; simp [results, Try.results21, go_sem, d0, d1]) rfl ⟨by rw [hr.out], B0.out⟩
  | true =>
  by_cases h2 : L.bs.length = 0
  · have g2 : ((L.bs.length : Int) == 0) = true := beq_iff_eq.2 (by omega)
    have hr := Lib.hid (show ckLine L = ((0, 0), 10) by rw [ck_whole (by simp [wholeErr, h1, h2])]; simp [wholeErr, h1, h2])
    obtain ⟨d0, d1, f0, f1⟩ := R0.out.two
    clear h2
    go_enter Try.func21, Try.ntmps21
    go_wp2_with (go_at_call 83; refine (IsName_any _ hn _).mono ?_; rintro e w' ⟨rfl, rfl⟩)
    refine bodyPost_ret (v := .tuple #[.agg #[.int .i64 0, .int .i64 0], .int .i64 10]) (by clear hr; simp [results, Try.results21, go_sem, d0, d1]) rfl ⟨by rw [hr.out], B0.out⟩
  have g2 : ((L.bs.length : Int) == 0) = false := beq_eq_false_iff_ne.2 (by omega)
  by_cases h3 : L.js.length = L.bs.length + 1
  case neg =>
    have g3 : (((L.js.length : Nat) : Int) != (L.bs.length : Int) + 1) = true := by rw [bne_iff_ne]; omega
    have hr := Lib.hid (show ckLine L = ((0, 0), 10) by rw [ck_whole (by simp [wholeErr, h1, h2, h3])]; simp [wholeErr, h1, h2, h3])
    obtain ⟨d0, d1, f0, f1⟩ := R0.out.two
    clear h3
    go_enter Try.func21, Try.ntmps21
    go_wp2_with (go_at_call 83; refine (IsName_any _ hn _).mono ?_; rintro e w' ⟨rfl, rfl⟩)
    refine bodyPost_ret (v := .tuple #[.agg #[.int .i64 0, .int .i64 0], .int .i64 10]) (by clear hr; simp [results, Try.results21, go_sem, d0, d1]) rfl ⟨by rw [hr.out], B0.out⟩
  have g3 : (((L.js.length : Nat) : Int) != (L.bs.length : Int) + 1) = false := by rw [bne_eq_false_iff_eq]; omega
  by_cases h4 : 40 < L.bs.length
  · have hr := Lib.hid (show ckLine L = ((0, 0), 8) by rw [ck_whole (by unfold wholeErr; rw [if_neg (by rw [h1]; simp), if_neg (by omega), if_pos h4]; simp)]; unfold wholeErr; rw [if_neg (by rw [h1]; simp), if_neg (by omega), if_pos h4])
    obtain ⟨d0, d1, f0, f1⟩ := R0.out.two
    have H3 := Lib.hid h3
    clear h3
    go_enter Try.func21, Try.ntmps21
    go_wp2_with (go_at_call 83; refine (IsName_any _ hn _).mono ?_; rintro e w' ⟨rfl, rfl⟩)
    refine bodyPost_ret (v := .tuple #[.agg #[.int .i64 0, .int .i64 0], .int .i64 8]) (by clear hr; simp [results, Try.results21, go_sem, d0, d1]) rfl ⟨by rw [hr.out], B0.out⟩
  have H0 : Hid (wholeErr L = 0) := Lib.hid (by unfold wholeErr; rw [if_neg (by rw [h1]; simp), if_neg (by omega), if_neg h4])
  have HJ := Lib.hid h3
  obtain ⟨aj, haj⟩ : ∃ a, Aj = some a := by obtain ⟨a, h, _⟩ := HA.out.j.joint (List.getElem?_eq_getElem (show 0 < L.js.length by omega)); exact ⟨a, h⟩
  subst haj
  obtain ⟨ab, hab⟩ : ∃ a, Ab = some a := by obtain ⟨a, h, _⟩ := HA.out.b.beam (List.getElem?_eq_getElem (show 0 < L.bs.length by omega)); exact ⟨a, h⟩
  subst hab
  clear h3
  obtain ⟨c0, c1, c2, c3⟩ := X0.out.four
  go_enter Try.func21, Try.ntmps21
  go_wp2_with (go_at_call 83; refine (IsName_any _ hn _).mono ?_; rintro e w' ⟨rfl, rfl⟩)
  clear c0 c1 c2 c3
  obtain ⟨W2, hW2⟩ : ∃ W2, (w.alloc (.cells #[.string L.name, .slice (some aj) L.js.length cj, .slice (some ab) L.bs.length cb, .slice As L.ss.length cs] 26)).alloc (.cells #[.int .i64 0, .int .i64 0] 30) = W2 := ⟨_, rfl⟩
  have hsz : Hid (W2.heap.size = w.heap.size + 2) := Lib.hid (by rw [← hW2]; simp)
  rw [hW2] at B0 X0 R0
  simp only [hW2]
  clear hW2
  go_loopw [4] (fun i wr => ∃ q : Nat, q ≤ L.js.length ∧ i = .int .i64 q ∧ (∀ (i : Nat) (hi : i < q) (hl : i < L.js.length), jErr L.js[i] = 0) ∧ Below (w.heap.size + 2) W2 wr) (fun i _ => L.js.length - (intOf i).toNat)
  case atStart => exact ⟨0, Nat.zero_le _, rfl, fun i hi => absurd hi (by omega), Below.refl _ _⟩
  case round =>
    obtain ⟨k, hk, rfl, hz, hwr⟩ := hrel
    have HW := Lib.hid hwr
    have HN := Lib.hid hz
    have X1 := Lib.hid (X0.out.below hwr (by omega))
    have R1 := Lib.hid (R0.out.below hwr (by omega))
    have b2 := Lib.hid (B0.out.trans (hwr.mono (by omega)))
    clear hz hwr
    obtain ⟨c0, c1, c2, c3⟩ := X1.out.four
    by_cases hlt : k < L.js.length
    · obtain ⟨a2, ha2, _, j0, j1, j2, j3⟩ := (HA.out.j.below b2.out).joint (List.getElem?_eq_getElem hlt)
      simp only [Option.some.injEq] at ha2
      subst ha2
      obtain ⟨j, hj⟩ : ∃ j, L.js[k] = j := ⟨_, rfl⟩
      rw [hj] at j0 j1 j2 j3
      have HJK := Lib.hid hj
      clear hj
      obtain ⟨d0, d1, f0, f1⟩ := (R1.out.alloc (.cells #[.int .i64 j.x, .int .i64 j.u, .int .i64 j.lo, .int .i64 j.hi] 56)).two
      have b3 := Lib.hid (b2.out.alloc b2.out.size (.cells #[.int .i64 j.x, .int .i64 j.u, .int .i64 j.lo, .int .i64 j.hi] 56))
      have hw3 := Lib.hid (HW.out.alloc (B := w.heap.size + 2) (by have := HW.out.size; have := hsz.out; omega) (.cells #[.int .i64 j.x, .int .i64 j.u, .int .i64 j.lo, .int .i64 j.hi] 56))
      by_cases he : jErr j = 0
      · have HE := Lib.hid he
        have g1 := jErr_zero he
        obtain ⟨e1, e2, e3, e4, e5⟩ := g1
        clear he
        go_wp2_with (go_at_call 84; refine (refsize_any _ _ (by omega) (by omega) _).mono ?_; rintro e w' ⟨rfl, rfl⟩)
        go_roundw
        case rel => exact ⟨k + 1, by omega, by go_num, fun i hi hl => if h : i = k then (by subst h; rw [HJK.out]; exact HE.out) else HN.out i (by omega) hl, hw3.out⟩
        case measure => simp [intOf]; omega
      · have hr := Lib.hid (ck_joint H0.out hlt (fun i hi => HN.out i hi (by omega)) (by rw [HJK.out]; exact he))
        have HE := Lib.hid he
        clear he
        cases e1 : inB j.x (-20000) 20000 with
        | false =>
          go_wp2_with (go_at_call 84; refine (refsize_any _ _ (by omega) (by omega) _).mono ?_; rintro e w' ⟨rfl, rfl⟩)
          refine bodyPost_ret (v := .tuple #[.agg #[.int .i64 1, .int .i64 k], .int .i64 2]) (by clear hr HN; simp [results, Try.results21, go_sem, d0, d1]) rfl ⟨by rw [hr.out, HJK.out]; simp [jErr, e1], ?_⟩
          exact b3.out.setCell (by simp) _ |>.setCell (by simp) _
        | true =>
        cases e2 : inB j.u (-20000) 20000 with
        | false =>
          go_wp2_with (go_at_call 84; refine (refsize_any _ _ (by omega) (by omega) _).mono ?_; rintro e w' ⟨rfl, rfl⟩)
          refine bodyPost_ret (v := .tuple #[.agg #[.int .i64 1, .int .i64 k], .int .i64 2]) (by clear hr HN; simp [results, Try.results21, go_sem, d0, d1]) rfl ⟨by rw [hr.out, HJK.out]; simp [jErr, e1, e2], ?_⟩
          exact b3.out.setCell (by simp) _ |>.setCell (by simp) _
        | true =>
        cases e3 : inB j.lo (-100) 100 with
        | false =>
          go_wp2_with (go_at_call 84; refine (refsize_any _ _ (by omega) (by omega) _).mono ?_; rintro e w' ⟨rfl, rfl⟩)
          refine bodyPost_ret (v := .tuple #[.agg #[.int .i64 1, .int .i64 k], .int .i64 2]) (by clear hr HN; simp [results, Try.results21, go_sem, d0, d1]) rfl ⟨by rw [hr.out, HJK.out]; simp [jErr, e1, e2, e3], ?_⟩
          exact b3.out.setCell (by simp) _ |>.setCell (by simp) _
        | true =>
        cases e4 : inB j.hi (-100) 100 with
        | false =>
          go_wp2_with (go_at_call 84; refine (refsize_any _ _ (by omega) (by omega) _).mono ?_; rintro e w' ⟨rfl, rfl⟩)
          refine bodyPost_ret (v := .tuple #[.agg #[.int .i64 1, .int .i64 k], .int .i64 2]) (by clear hr HN; simp [results, Try.results21, go_sem, d0, d1]) rfl ⟨by rw [hr.out, HJK.out]; simp [jErr, e1, e2, e3, e4], ?_⟩
          exact b3.out.setCell (by simp) _ |>.setCell (by simp) _
        | true =>
        have e5 : j.hi < j.lo := Classical.byContradiction fun h => HE.out (by simp [jErr, e1, e2, e3, e4]; omega)
        go_wp2_with (go_at_call 84; refine (refsize_any _ _ (by omega) (by omega) _).mono ?_; rintro e w' ⟨rfl, rfl⟩)
        refine bodyPost_ret (v := .tuple #[.agg #[.int .i64 1, .int .i64 k], .int .i64 9]) (by clear hr HN; simp [results, Try.results21, go_sem, d0, d1]) rfl ⟨by rw [hr.out, HJK.out]; simp [jErr, e1, e2, e3, e4, e5], ?_⟩
        exact b3.out.setCell (by simp) _ |>.setCell (by simp) _
    · have HN' : Hid (∀ i (hi : i < L.js.length), jErr L.js[i] = 0) := Lib.hid (fun i hi => HN.out i (by omega) hi)
      clear HN
      go_wp2_with fail
      clear c0 c1 c2 c3
      go_loopw [6] (fun i wq => ∃ q : Nat, q ≤ L.bs.length ∧ i = .int .i64 q ∧ (∀ (i : Nat) (hi : i < q) (hl : i < L.bs.length), bErr L.bs[i] = 0) ∧ Below (w.heap.size + 2) W2 wq) (fun i _ => L.bs.length - (intOf i).toNat)
      case atStart => exact ⟨0, Nat.zero_le _, rfl, fun i hi => absurd hi (by omega), HW.out⟩
      case round =>
        clear HW X1 R1 b2
        obtain ⟨p, hp, rfl, hz, hwr⟩ := hrel
        have HW := Lib.hid hwr
        have HN := Lib.hid hz
        have X1 := Lib.hid (X0.out.below hwr (by omega))
        have R1 := Lib.hid (R0.out.below hwr (by omega))
        have b2 := Lib.hid (B0.out.trans (hwr.mono (by omega)))
        clear hz hwr
        obtain ⟨c0, c1, c2, c3⟩ := X1.out.four
        by_cases hlp : p < L.bs.length
        · obtain ⟨a2, ha2, _, j0, j1⟩ := (HA.out.b.below b2.out).beam (List.getElem?_eq_getElem hlp)
          simp only [Option.some.injEq] at ha2
          subst ha2
          obtain ⟨b, hb⟩ : ∃ b, L.bs[p] = b := ⟨_, rfl⟩
          rw [hb] at j0 j1
          have HBK := Lib.hid hb
          clear hb
          obtain ⟨d0, d1, f0, f1⟩ := R1.out.two
          cases e1 : inB b.len 1000 30000 with
          | false =>
            have hr := Lib.hid (ck_beam H0.out HN'.out hlp (fun i hi => HN.out i hi (by omega)) (by rw [HBK.out]; simp [bErr, e1]))
            go_wp2_with (first | (go_at_call 34; refine (Within_any _ _ _ _).mono ?_; rintro e w' ⟨rfl, rfl⟩) | (go_at_call 84; refine (refsize_any _ _ (by omega) (by omega) _).mono ?_; rintro e w' ⟨rfl, rfl⟩))
            refine bodyPost_ret (v := .tuple #[.agg #[.int .i64 2, .int .i64 p], .int .i64 2]) (by clear hr HN HN'; simp [results, Try.results21, go_sem, d0, d1]) rfl ⟨by rw [hr.out, HBK.out]; simp [bErr, e1], ?_⟩
            exact b2.out.setCell (by simp) _ |>.setCell (by simp) _
          | true =>
          cases e2 : inB b.cant (-300) 300 with
          | false =>
            have hr := Lib.hid (ck_beam H0.out HN'.out hlp (fun i hi => HN.out i hi (by omega)) (by rw [HBK.out]; simp [bErr, e1, e2]))
            go_wp2_with (first | (go_at_call 34; refine (Within_any _ _ _ _).mono ?_; rintro e w' ⟨rfl, rfl⟩) | (go_at_call 84; refine (refsize_any _ _ (by omega) (by omega) _).mono ?_; rintro e w' ⟨rfl, rfl⟩))
            refine bodyPost_ret (v := .tuple #[.agg #[.int .i64 2, .int .i64 p], .int .i64 2]) (by clear hr HN HN'; simp [results, Try.results21, go_sem, d0, d1]) rfl ⟨by rw [hr.out, HBK.out]; simp [bErr, e1, e2], ?_⟩
            exact b2.out.setCell (by simp) _ |>.setCell (by simp) _
          | true =>
            have HE : Hid (bErr b = 0) := Lib.hid (by simp [bErr, e1, e2])
            go_wp2_with (first | (go_at_call 34; refine (Within_any _ _ _ _).mono ?_; rintro e w' ⟨rfl, rfl⟩) | (go_at_call 84; refine (refsize_any _ _ (by omega) (by omega) _).mono ?_; rintro e w' ⟨rfl, rfl⟩))
            go_roundw
            case rel => exact ⟨p + 1, by omega, by go_num, fun i hi hl => if h : i = p then (by subst h; rw [HBK.out]; exact HE.out) else HN.out i (by omega) hl, HW.out⟩
            case measure => simp [intOf]; omega
        · have hr := Lib.hid (ck_rest H0.out HN'.out (fun i hi => HN.out i (by omega) hi))
          clear HN
          obtain ⟨d0, d1, f0, f1⟩ := R1.out.two
          by_cases h5 : 4 < L.ss.length
          · go_wp2_with fail
            refine bodyPost_ret (v := .tuple #[.agg #[.int .i64 0, .int .i64 0], .int .i64 8]) (by clear hr HN'; simp [results, Try.results21, go_sem, d0, d1]) rfl ⟨by rw [hr.out, if_pos h5], ?_⟩
            exact b2.out.setCell (by simp) _ |>.setCell (by simp) _
          · rw [if_neg h5] at hr
            go_wp2_with fail
            clear c0 c1 c2 c3 d0 d1 f0 f1
            go_loopw [7] (fun i wq => ∃ q : Nat, q ≤ L.ss.length ∧ i = .int .i64 q ∧ (∀ (i : Nat) (hi : i < q) (hl : i < L.ss.length), sErr L.bs.length (L.ss.take i) L.ss[i] = 0) ∧ Below (w.heap.size + 2) W2 wq) (fun i _ => L.ss.length - (intOf i).toNat)
            case atStart => exact ⟨0, Nat.zero_le _, rfl, fun i hi => absurd hi (by omega), HW.out⟩
            case round =>
              clear HW X1 R1 b2
              obtain ⟨r, hr1, rfl, hz, hwr⟩ := hrel
              have HW := Lib.hid hwr
              have HN := Lib.hid hz
              have X1 := Lib.hid (X0.out.below hwr (by omega))
              have R1 := Lib.hid (R0.out.below hwr (by omega))
              have b2 := Lib.hid (B0.out.trans (hwr.mono (by omega)))
              have hla := Lib.hid ((HA.out.below b2.out).more b2.out.size)
              have hsz3 := Lib.hid (show w.heap.size + 2 ≤ wr.heap.size by have := hwr.size; have := hsz.out; omega)
              clear hz hwr
              obtain ⟨c0, c1, c2, c3⟩ := X1.out.four
              by_cases hlr : r < L.ss.length
              · obtain ⟨v, hv⟩ : ∃ v, sErr L.bs.length (L.ss.take r) L.ss[r] = v := ⟨_, rfl⟩
                have HV := Lib.hid hv
                clear hv
                by_cases he : v = 0
                · have ge : (v != 0) = false := by simp [he]
                  have HE := Lib.hid he
                  clear he
                  go_wp2_with (go_at_call 85; refine (switchErr_any ⟨⟨some aj, cj⟩, ⟨some ab, cb⟩, ⟨As, cs⟩, each⟩ hL r hlr (fun i hi hl => sErr_zero (HN.out i hi hl)) _ hla.out).mono ?_; rintro e w3 ⟨rfl, hb3⟩; rw [HV.out])
                  go_roundw
                  case rel => exact ⟨r + 1, by omega, by go_num, fun i hi hl => if h : i = r then (by subst h; rw [HV.out]; exact HE.out) else HN.out i (by omega) hl, HW.out.trans (hb3.mono hsz3.out)⟩
                  case measure => simp [intOf]; omega
                · have ge : (v != 0) = true := by simp [he]
                  have hr2 := Lib.hid (sw_hit hlr (fun i hi => HN.out i hi (by omega)) (by rw [HV.out]; exact he))
                  clear he
                  go_wp2_with (go_at_call 85; refine (switchErr_any ⟨⟨some aj, cj⟩, ⟨some ab, cb⟩, ⟨As, cs⟩, each⟩ hL r hlr (fun i hi hl => sErr_zero (HN.out i hi hl)) _ hla.out).mono ?_; rintro e w3 ⟨rfl, hb3⟩; rw [HV.out]; obtain ⟨d0, d1, f0, f1⟩ := (R1.out.call hb3).two)
                  refine bodyPost_ret (v := .tuple #[.agg #[.int .i64 3, .int .i64 r], .int .i64 v]) (by clear hr hr2 HN HN'; simp [results, Try.results21, go_sem, d0, d1]) rfl ⟨by rw [hr.out, hr2.out, HV.out], ?_⟩
                  exact (b2.out.trans (hb3.mono b2.out.size)).setCell (by simp) _ |>.setCell (by simp) _
              · have hr2 := Lib.hid (sw_none (L := L) (fun i hi => HN.out i (by omega) hi))
                obtain ⟨d0, d1, f0, f1⟩ := R1.out.two
                clear HN
                go_wp2_with fail
                refine bodyPost_ret (v := .tuple #[.agg #[.int .i64 0, .int .i64 0], .int .i64 0]) (by clear hr hr2 HN'; simp [results, Try.results21, go_sem, d0, d1]) rfl ⟨by rw [hr.out, hr2.out], ?_⟩
                exact b2.out.setCell (by simp) _ |>.setCell (by simp) _

theorem refCheckLine_at {L : Ll} {m1 m2 er : Int} (hck : ckLine L = ((m1, m2), er)) (H : Hds) (hL : L.ok) (w : World) (hA : LnAt w w.heap.size L H) :
    Calls Try.prog 21 #[(.agg #[.string L.name, .slice H.j.A L.js.length H.j.c, .slice H.b.A L.bs.length H.b.c, .slice H.s.A L.ss.length H.s.c])] w fun e w' => e = .returned (.tuple #[.agg #[.int .i64 m1, .int .i64 m2], .int .i64 er]) ∧ Below w.heap.size w w' := by
  have := refCheckLine_any L H hL w hA
  rw [hck] at this
  exact this

set_option maxHeartbeats 1000000 in
theorem LineErr_any (L : Ll) (H : Hds) (hL : L.ok) (w : World) (hA : LnAt w w.heap.size L H) :
    Calls Try.prog 28 #[(.agg #[.string L.name, .slice H.j.A L.js.length H.j.c, .slice H.b.A L.bs.length H.b.c, .slice H.s.A L.ss.length H.s.c])] w fun e w' => e = .returned (.int .i64 (ckLine L).2) ∧ Below w.heap.size w w' := by
  have b0 := (Below.refl w.heap.size w).alloc (Nat.le_refl _) (.cells #[.string L.name, .slice H.j.A L.js.length H.j.c, .slice H.b.A L.bs.length H.b.c, .slice H.s.A L.ss.length H.s.c] 26)
  have HB := Lib.hid b0
  have HA := Lib.hid ((hA.below b0).more HB.out.size)
  clear b0 hA
  obtain ⟨⟨⟨m1, m2⟩, er⟩, hck⟩ : ∃ r, ckLine L = r := ⟨_, rfl⟩
  have HC := Lib.hid hck
  clear hck
  go_enter Try.func28, Try.ntmps28
  go_wp2_with (go_at_call 21; refine (refCheckLine_at HC.out H hL _ HA.out).mono ?_; rintro e w1 ⟨rfl, hb1⟩)
  go_ret
  refine ⟨by rw [HC.out]; rfl, ?_⟩
  exact (HB.out.trans (hb1.mono HB.out.size)).alloc (by have := HB.out.size; have := hb1.size; omega) _
end Go.Proofs.Ytmnlgeglmkdecaa
