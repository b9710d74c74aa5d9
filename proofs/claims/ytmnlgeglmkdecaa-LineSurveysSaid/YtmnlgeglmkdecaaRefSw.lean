/-
  The walk of the reference's switchErr.
-/
import Derived.Test.YtmnlgeglmkdecaaSwitches
import Derived.Deep.RegionHeld3
namespace Go.Proofs.Ytmnlgeglmkdecaa
open Go.RowKit

theorem any_take {ss : List Ls} {k : Nat} {p : Ls → Bool} {i : Nat} (hi : i < k) (hk : k ≤ ss.length) (h : p (ss[i]'(by omega)) = true) : (ss.take k).any p = true := by
  rw [List.any_eq_true]
  exact ⟨ss[i], by rw [List.mem_take_iff_getElem]; exact ⟨i, by omega, rfl⟩, h⟩
theorem any_take_not {ss : List Ls} {k : Nat} {p : Ls → Bool} (hk : k ≤ ss.length) (h : ∀ (i : Nat) (_hi : i < k) (hl : i < ss.length), p ss[i] = false) : (ss.take k).any p = false := by
  rw [List.any_eq_false]
  intro x hx
  rw [List.mem_take_iff_getElem] at hx
  obtain ⟨i, hi, rfl⟩ := hx
  rw [h i (by omega) (by omega)]; simp

def eqN (s t : Ls) : Bool := s.name.data.toList == t.name.data.toList
def ovl (s t : Ls) : Bool := decide (s.first < t.first + t.across.length) && decide (t.first < s.first + s.across.length)
theorem sErr_eq (n : Int) (b : List Ls) (s : Ls) : sErr n b s =
    if nameB s.name.data.toList = false then 4 else if b.any (eqN s) then 5 else if s.across.length = 0 then 10 else if ¬ (1 ≤ s.first ∧ s.first ≤ n - s.across.length) then 6
    else if s.across.any (fun x => !inB x (-20000) 20000) then 2 else if b.any (ovl s) then 13 else 0 := rfl

theorem toList_eqN (s t : Ls) : (t.name.toList == s.name.toList) = eqN s t := by
  unfold eqN
  rw [ByteArray.toList_eq, ByteArray.toList_eq, Bool.eq_iff_iff, beq_iff_eq, beq_iff_eq]
  exact eq_comm
theorem eqN_names {b : List Ls} {s : Ls} : sNames b (.string s.name.data.toList) = b.any (eqN s) := sNames_at _ _

set_option maxHeartbeats 4000000 in
set_option maxRecDepth 100000 in
theorem switchErr_any {L : Ll} (H : Hds) (hL : L.ok) (k : Nat) (hk : k < L.ss.length) (hz : ∀ (i : Nat) (_hi : i < k) (hl : i < L.ss.length), Fit L.bs.length L.ss[i]) (w : World) (hA : LnAt w w.heap.size L H) :
    Calls Try.prog 85 #[(.agg #[.string L.name, .slice H.j.A L.js.length H.j.c, .slice H.b.A L.bs.length H.b.c, .slice H.s.A L.ss.length H.s.c]), .int .i64 k] w fun e w' => e = .returned (.int .i64 (sErr L.bs.length (L.ss.take k) L.ss[k])) ∧ Below w.heap.size w w' := by
  obtain ⟨⟨Aj, cj⟩, ⟨Ab, cb⟩, ⟨As, cs⟩, each⟩ := H
  have he0 : ∀ (i : Nat) (hi : i < L.ss.length), ∃ hd, (L.ss.zip each)[i]? = some (L.ss[i], hd) ∧ each[i]? = some hd := fun i hi => by
    have hn : each.length = L.ss.length := hA.n
    have hp : i < (L.ss.zip each).length := by rw [List.length_zip, hn]; simpa using hi
    exact ⟨each[i]'(by omega), by rw [List.getElem?_eq_getElem hp, List.getElem_zip], List.getElem?_eq_getElem _⟩
  obtain ⟨hd, hz1, hz2⟩ := he0 k hk
  obtain ⟨a', ha'⟩ : ∃ a, As = some a := by obtain ⟨a, h, _⟩ := hA.s.switch hz1; exact ⟨a, h⟩
  subst ha'
  have hns := hL.ns
  have hnb := hL.nb
  obtain ⟨s, hs⟩ : ∃ s, L.ss[k] = s := ⟨_, rfl⟩
  have HLi0 := hA.a k _ hd (List.getElem?_eq_getElem hk) hz2
  have hsl := (hL.na s (by rw [← hs]; exact List.getElem_mem hk)).1
  have hsn := (hL.na s (by rw [← hs]; exact List.getElem_mem hk)).2
  have hso := (hL.ss s (by rw [← hs]; exact List.getElem_mem hk)).1
  obtain ⟨s1, s2⟩ := hso
  have b0 := (Below.refl w.heap.size w).alloc (Nat.le_refl _) (.cells #[.string L.name, .slice Aj L.js.length cj, .slice Ab L.bs.length cb, .slice (some a') L.ss.length cs] 26)
  obtain ⟨a2, ha2, hab, j0, j1, j2⟩ := (hA.s.below b0).switch hz1
  simp only [Option.some.injEq] at ha2
  subst ha2
  simp only at j0 j1 j2
  rw [hs] at j0 j1 j2 HLi0 ⊢
  have b1 := b0.alloc (by simp) (.cells #[.string s.name, .int .i64 s.first, .slice hd.A s.across.length hd.c] 113)
  have HB := Lib.hid b1
  have HS := Lib.hid (hA.s.below b1)
  have HLi := Lib.hid (HLi0.below b1)
  have HE0 := Lib.hid he0
  have HZ := Lib.hid hz
  have HSS := Lib.hid hs
  have hm := small_max hsn
  have HL := Lib.hid hL
  have X0 := Lib.hid (((Bk.new w 26 #[.string L.name, .slice Aj L.js.length cj, .slice Ab L.bs.length cb, .slice (some a') L.ss.length cs]).alloc (.cells #[.string s.name, .int .i64 s.first, .slice hd.A s.across.length hd.c] 113)))
  have V0 := Lib.hid (Bk.new1 w (.cells #[.string L.name, .slice Aj L.js.length cj, .slice Ab L.bs.length cb, .slice (some a') L.ss.length cs] 26) 113 #[.string s.name, .int .i64 s.first, .slice hd.A s.across.length hd.c])
  clear hz hs he0 hz1 hz2 hA hL b0 b1 HLi0
  cases h1 : nameB s.name.data.toList with
  | false =>
    have hr := Lib.hid (sErr_4 (n := L.bs.length) (b := L.ss.take k) h1)
    go_enter Try.func85, Try.ntmps85
    go_wp2_with (go_at_call 83; refine (IsName_any _ hm _).mono ?_; rintro e w' ⟨rfl, rfl⟩)
    go_ret
    exact ⟨ret_i64 hr.out.symm, HB.out⟩
  | true =>
    go_enter Try.func85, Try.ntmps85
    go_wp2_with (go_at_call 83; refine (IsName_any _ hm _).mono ?_; rintro e w' ⟨rfl, rfl⟩)
    clear j0 j1 j2
    obtain ⟨W2, hW2⟩ : ∃ W2, (w.alloc (.cells #[.string L.name, .slice Aj L.js.length cj, .slice Ab L.bs.length cb, .slice (some a') L.ss.length cs] 26)).alloc (.cells #[.string s.name, .int .i64 s.first, .slice hd.A s.across.length hd.c] 113) = W2 := ⟨_, rfl⟩
    have hsz : Hid (W2.heap.size = w.heap.size + 2) := Lib.hid (by rw [← hW2]; simp)
    rw [hW2] at HB HS HLi X0 V0
    simp only [hW2]
    clear hW2
    go_loopw [6] (fun i wr => ∃ q : Nat, q ≤ k ∧ i = .int .i64 q ∧ (∀ (i : Nat) (hi : i < q) (hl : i < L.ss.length), eqN s L.ss[i] = false) ∧ Below (w.heap.size + 2) W2 wr) (fun i _ => k - (intOf i).toNat)
    case atStart => exact ⟨0, Nat.zero_le _, rfl, fun i hi => absurd hi (by omega), Below.refl _ _⟩
    case round =>
      obtain ⟨q, hq, rfl, hz, hwr⟩ := hrel
      have HW := Lib.hid hwr
      have HN := Lib.hid hz
      have X1 := Lib.hid (X0.out.below hwr (by omega))
      have V1 := Lib.hid (V0.out.below hwr (by omega))
      clear hz hwr
      obtain ⟨c0, c1, c2, c3⟩ := X1.out.four
      obtain ⟨v0, v1, v2⟩ := V1.out.three
      by_cases hlt : q < k
      · obtain ⟨hq1, e1, e2⟩ := HE0.out q (by omega)
        obtain ⟨a2, ha2, _, t0, _, _⟩ := (HS.out.below (HW.out.mono (by omega))).switch e1
        simp only [Option.some.injEq] at ha2
        subst ha2
        simp only at t0
        clear e1 e2
        obtain ⟨t, ht⟩ : ∃ t, L.ss[q] = t := ⟨_, rfl⟩
        rw [ht] at t0
        have HT := Lib.hid ht
        clear ht
        have gq := toList_eqN s t
        cases heq : eqN s t with
        | true =>
          rw [heq] at gq
          have hr := Lib.hid (sErr_5 (n := L.bs.length) (b := L.ss.take k) h1 (by rw [eqN_names]; exact any_take (i := q) hlt (by omega) (by rw [HT.out]; exact heq)))
          clear heq
          go_wp2_with fail
          go_region
          go_wp2_with fail
          go_ret
          exact ⟨ret_i64 hr.out.symm, (HB.out.trans (HW.out.mono (by omega))).drew⟩
        | false =>
          rw [heq] at gq
          have HE := Lib.hid heq
          clear heq
          go_wp2_with fail
          go_region
          go_wp2_with fail
          go_roundw
          case rel => exact ⟨q + 1, by omega, by go_num, fun i hi hl => if h : i = q then (by subst h; rw [HT.out]; exact HE.out) else HN.out i (by omega) hl, HW.out.drew⟩
          case measure => simp [intOf]; omega
      · have h2 : sNames (L.ss.take k) (.string s.name.data.toList) = false := by rw [eqN_names]; exact any_take_not (by omega) (fun i hi hl => HN.out i (by omega) hl)
        have H2 := Lib.hid h2
        clear h2 HN
        have b2 := Lib.hid (HB.out.trans (HW.out.mono (by omega)))
        by_cases h3 : s.across.length = 0
        · have hr := Lib.hid (sErr_10 (n := L.bs.length) h1 H2.out h3)
          have g3 : ((s.across.length : Int) == 0) = true := beq_iff_eq.2 (by omega)
          clear h3
          go_wp2_with fail
          go_ret
          exact ⟨ret_i64 hr.out.symm, b2.out⟩
        have g3 : ((s.across.length : Int) == 0) = false := beq_eq_false_iff_ne.2 (by omega)
        have H3 := Lib.hid h3
        clear h3
        by_cases h4 : 1 ≤ s.first ∧ s.first ≤ (L.bs.length : Int) - s.across.length
        case neg =>
          have hr := Lib.hid (sErr_6 (n := L.bs.length) h1 H2.out H3.out h4)
          have g4 : inB s.first 1 ((L.bs.length : Int) - s.across.length) = false := by rw [← Bool.not_eq_true, inB_iff]; exact h4
          clear h4
          go_wp2_with (go_at_call 34; refine (Within_any _ _ _ _).mono ?_; rintro e w' ⟨rfl, rfl⟩)
          go_ret
          exact ⟨ret_i64 hr.out.symm, b2.out⟩
        have g4 : inB s.first 1 ((L.bs.length : Int) - s.across.length) = true := inB_iff.2 h4
        have H4 := Lib.hid h4
        obtain ⟨h5, h6⟩ := h4
        obtain ⟨ad, hA'⟩ : ∃ a, hd.A = some a := by
          obtain ⟨a, e, _⟩ := HLi.out.num (List.getElem?_eq_getElem (show 0 < s.across.length by have := H3.out; omega)); exact ⟨a, e⟩
        obtain ⟨A, c⟩ := hd
        simp only at hA'
        subst hA'
        go_wp2_with (go_at_call 34; refine (Within_any _ _ _ _).mono ?_; rintro e w' ⟨rfl, rfl⟩)
        go_loop [7] (fun i => ∃ q : Nat, q ≤ s.across.length ∧ i = .int .i64 q ∧ ∀ (i : Nat) (hi : i < q) (hl : i < s.across.length), inB s.across[i] (-20000) 20000 = true) (fun i => s.across.length - (intOf i).toNat)
        case atStart => exact ⟨0, Nat.zero_le _, rfl, fun i hi => absurd hi (by omega)⟩
        case round =>
          obtain ⟨r, hr1, rfl, hz⟩ := hrel
          have HN := Lib.hid hz
          clear hz
          by_cases hlr : r < s.across.length
          · obtain ⟨a3, ha3, _, t0⟩ := (HLi.out.below (HW.out.mono (by omega))).num (List.getElem?_eq_getElem hlr)
            simp only [Option.some.injEq] at ha3
            subst ha3
            cases hx : inB s.across[r] (-20000) 20000 with
            | false =>
              have hr := Lib.hid (sErr_2 (n := L.bs.length) h1 H2.out H3.out H4.out hlr hx)
              go_wp2_with (go_at_call 84; refine (refsize_any _ _ (by omega) (by omega) _).mono ?_; rintro e w' ⟨rfl, rfl⟩)
              go_ret
              exact ⟨ret_i64 hr.out.symm, b2.out⟩
            | true =>
              have HX := Lib.hid hx
              go_wp2_with (go_at_call 84; refine (refsize_any _ _ (by omega) (by omega) _).mono ?_; rintro e w' ⟨rfl, rfl⟩)
              go_round
              case rel => exact ⟨r + 1, by omega, by go_num, fun i hi hl => if h : i = r then (by subst h; exact HX.out) else HN.out i (by omega) hl⟩
              case measure => simp [intOf]; omega
          · have HN' : Hid (∀ (i : Nat) (hi : i < s.across.length), inB s.across[i] (-20000) 20000 = true) := Lib.hid (fun i hi => HN.out i (by omega) hi)
            clear HN
            go_wp2_with fail
            clear c0 c1 c2 c3 v0 v1 v2
            go_loopw [8] (fun i wq => ∃ q : Nat, q ≤ k ∧ i = .int .i64 q ∧ (∀ (i : Nat) (hi : i < q) (hl : i < L.ss.length), ovl s L.ss[i] = false) ∧ Below (w.heap.size + 2) W2 wq) (fun i _ => k - (intOf i).toNat)
            case atStart => exact ⟨0, Nat.zero_le _, rfl, fun i hi => absurd hi (by omega), HW.out⟩
            case round =>
              clear HW X1 V1 b2
              obtain ⟨p, hp, rfl, hz, hwr⟩ := hrel
              have HW := Lib.hid hwr
              have HN := Lib.hid hz
              have X1 := Lib.hid (X0.out.below hwr (by omega))
              have V1 := Lib.hid (V0.out.below hwr (by omega))
              have b2 := Lib.hid (HB.out.trans (hwr.mono (by omega)))
              clear hz hwr
              by_cases hlp : p < k
              · obtain ⟨hp1, e1, e2⟩ := HE0.out p (by omega)
                obtain ⟨a2, ha2, _, t0, t1, t2⟩ := (HS.out.below (HW.out.mono (by omega))).switch e1
                simp only [Option.some.injEq] at ha2
                subst ha2
                simp only at t0 t1 t2
                clear e1 e2
                have hfit := HZ.out p hlp (by omega)
                obtain ⟨t, ht⟩ : ∃ t, L.ss[p] = t := ⟨_, rfl⟩
                rw [ht] at t0 t1 t2 hfit
                have HT := Lib.hid ht
                clear ht
                obtain ⟨f1, f2, f3⟩ := hfit
                obtain ⟨c0, c1, c2, c3⟩ := (X1.out.alloc (.cells #[.string t.name, .int .i64 t.first, .slice hp1.A t.across.length hp1.c] 113)).four
                obtain ⟨d0, d1, d2, d3⟩ := X1.out.four
                obtain ⟨v0, v1, v2⟩ := (V1.out.alloc (.cells #[.string t.name, .int .i64 t.first, .slice hp1.A t.across.length hp1.c] 113)).three
                have b3 := Lib.hid (b2.out.alloc b2.out.size (.cells #[.string t.name, .int .i64 t.first, .slice hp1.A t.across.length hp1.c] 113))
                have hw3 := Lib.hid (HW.out.alloc (B := w.heap.size + 2) (by have := HW.out.size; have := hsz.out; omega) (.cells #[.string t.name, .int .i64 t.first, .slice hp1.A t.across.length hp1.c] 113))
                by_cases o1 : s.first < t.first + t.across.length
                · by_cases o2 : t.first < s.first + s.across.length
                  · have hr := Lib.hid (show sErr L.bs.length (L.ss.take k) s = 13 by
                      rw [sErr_eq, if_neg (by rw [h1]; simp), if_neg (by rw [← eqN_names, H2.out]; simp), if_neg H3.out, if_neg (by have := H4.out; omega), if_neg (by
                        rw [List.any_eq_true]; rintro ⟨x, hx, hh⟩
                        obtain ⟨i, hi, rfl⟩ := List.getElem_of_mem hx
                        simp [HN'.out i hi] at hh), if_pos (any_take (i := p) hlp (by omega) (by rw [HT.out]; simp [ovl, o1, o2]))])
                    go_wp2_with fail
                    go_ret
                    exact ⟨ret_i64 hr.out.symm, b3.out⟩
                  · have ho : Hid (ovl s t = false) := Lib.hid (by simp [ovl, o1, o2])
                    go_wp2_with fail
                    go_roundw
                    case rel => exact ⟨p + 1, by omega, by go_num, fun i hi hl => if h : i = p then (by subst h; rw [HT.out]; exact ho.out) else HN.out i (by omega) hl, hw3.out⟩
                    case measure => simp [intOf]; omega
                · have ho : Hid (ovl s t = false) := Lib.hid (by simp [ovl, o1])
                  go_wp2_with fail
                  go_roundw
                  case rel => exact ⟨p + 1, by omega, by go_num, fun i hi hl => if h : i = p then (by subst h; rw [HT.out]; exact ho.out) else HN.out i (by omega) hl, hw3.out⟩
                  case measure => simp [intOf]; omega
              · have hr := Lib.hid (show sErr L.bs.length (L.ss.take k) s = 0 by
                  rw [sErr_eq, if_neg (by rw [h1]; simp), if_neg (by rw [← eqN_names, H2.out]; simp), if_neg H3.out, if_neg (by have := H4.out; omega), if_neg (by
                    rw [List.any_eq_true]; rintro ⟨x, hx, hh⟩
                    obtain ⟨i, hi, rfl⟩ := List.getElem_of_mem hx
                    simp [HN'.out i hi] at hh), if_neg (by rw [any_take_not (by omega) (fun i hi hl => HN.out i (by omega) hl)]; simp)])
                clear HN
                go_wp2_with fail
                go_ret
                exact ⟨ret_i64 hr.out.symm, b2.out⟩
end Go.Proofs.Ytmnlgeglmkdecaa
