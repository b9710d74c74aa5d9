
/-
  The walks of Even, of CurrentsErr and of the copies of lists.
-/
import Derived.Test.YtohldmmfnjfgmaaDoorTAwk
import Derived.Test.YtohldmmfnjfgmaaDoorTRefF
import Derived.Test.YtohldmmfnjfgmaaDoorOwn
import Derived.Laws.AppendOwnNone
namespace Go.Proofs.YtohldmmfnjfgmaaDoor
open Go.RowKit

theorem tc_one (l : List T3) : ∀ u ∈ l.flatMap tc, u.oneCell' = true := by
  intro u hu
  obtain ⟨x, _, hx⟩ := List.mem_flatMap.1 hu
  simp [tc] at hx
  rcases hx with rfl | rfl <;> rfl
/-- What lay ahead of the call lies there yet. -/
theorem Fr.lies {w W : World} {bs : List (Nat × TypeId × Array Value)} {A : Option Addr} {vs : List Value} (h : Lies w w.heap.size A vs) (hf : Fr w W bs) : Lies W W.heap.size A vs := (h.below hf.bl).more hf.size
theorem Fr.lies_alloc {w W : World} {bs : List (Nat × TypeId × Array Value)} {A : Option Addr} {vs : List Value} (h : Lies w w.heap.size A vs) (hf : Fr w W bs) (o : Obj) : Lies (W.alloc o) (W.alloc o).heap.size A vs := Fr.lies h (hf.new o)

theorem addr_zero (a : Addr) : a.add 0 = a := by first | exact Addr.add_zero a | rfl | (unfold Addr.add; split <;> simp_all)
/-- A copy of vectors. -/
def CopiedV (w : World) (l : List T3) (e : Ending) (w' : World) : Prop := ∃ g : Hd, e = .returned (.slice g.A l.length g.c) ∧ Lies w' w'.heap.size g.A (l.flatMap tc) ∧ HdOk g ∧ (∀ a, g.A = some a → w.heap.size ≤ a.block) ∧ Below w.heap.size w w'
set_option maxHeartbeats 800000 in
theorem CopyVectors_any (l : List T3) (h : Hd) (hl : l.length ≤ 1000) (hk : HdOk h) (w : World) (hA : Lies w w.heap.size h.A (l.flatMap tc)) :
    Calls Tryd.prog 30 #[.slice h.A l.length h.c] w (CopiedV w l) := by
  obtain ⟨A, c⟩ := h
  obtain ⟨i0, hi, hz0, hz1, hz2⟩ := info_parts info_third
  have b0 := (Below.refl w.heap.size w).alloc (Nat.le_refl _) (.cells #[] 24)
  have ho := World.ownsRow_made (base := w.heap.size) (e := 24) (size := 2) w #[] 0 (Nat.le_refl _) (by unfold maxLen; omega) rfl
  have HO := Lib.hid ho
  have HB := Lib.hid b0
  have HA := Lib.hid (hA.below b0)
  clear ho b0 hA
  cases A with
  | none =>
    obtain rfl : c = 0 := hk rfl
    have hl0 : l = [] := by
      cases l with
      | nil => rfl
      | cons x l => obtain ⟨a, h, _⟩ := HA.out 0 (.int .i64 x.a) rfl; cases h
    subst hl0
    go_enter Tryd.func30, Tryd.ntmps30
    go_wp2_with (at_builtin; refine wpList_append_own_none rfl _ _ 43 rfl w.heap.size 24 i0 2 Tryd.underlying43 hi _ 0 [] rfl HO.out rfl ?_)
    go_ret
    obtain ⟨g, hg, hL1, hk1, _⟩ := own_slice HO.out
    simp only [Value.slice.injEq] at hg
    exact ⟨⟨_, _⟩, rfl, Lies.nil, (fun h => by cases h), (fun a h => by cases h; exact Nat.le_refl _), HB.out⟩
  | some a =>
    have k1 : Hid ((l.flatMap tc).length = l.length * 2) := Lib.hid (flat_len tc 2 (fun _ => rfl) l)
    have k2 : Hid (∀ j u, (l.flatMap tc)[j]? = some u → (w.alloc (.cells #[] 24)).cell? (a.add j) = some u) := Lib.hid (fun j u hu => by obtain ⟨a', e, _, h⟩ := HA.out j u hu; cases e; exact h)
    go_enter Tryd.func30, Tryd.ntmps30
    go_wp2_with (at_builtin; refine wpList_append_own _ rfl _ _ 43 rfl w.heap.size 24 i0 (.agg #[.int .i64 0, .int .i64 0]) 2 16 Tryd.underlying43 hi hz0 hz1 hz2 rfl (by decide) _ 0 [] rfl HO.out a l.length c (l.flatMap tc) rfl k1.out k2.out (tc_one l) (by unfold maxLen; omega) (by omega) (by simp) ?_; intro v' w1 ho1 hg1 _; obtain ⟨g, rfl, hL1, hk1, hg2⟩ := own_slice ho1)
    go_ret
    have hg3 : (w.alloc (.cells #[] 24)).grownBy w1 (some w.heap.size) := hg1
    rw [Nat.zero_add, List.nil_append] at ho1
    rw [List.nil_append] at hL1
    exact ⟨g, rfl, hL1, hk1, hg2, HB.out.grown hg3 HB.out.size (fun k e => by cases e; exact Nat.le_refl _)⟩

/-- The error of currents. -/
def curE (l : List T3) : Int := if l.length = 0 then 10 else if 12 < l.length then 8 else vsE l
theorem cur_cases (l : List T3) : (curE l = 0 ∧ l.length ≠ 0 ∧ l.length ≤ 12 ∧ ∀ x ∈ l, okT x = true) ∨ curE l ≠ 0 := by
  unfold curE
  split
  · exact .inr (by decide)
  · split
    · exact .inr (by decide)
    · by_cases h : vsE l = 0
      · exact .inl ⟨h, by assumption, by omega, vsE_iff.1 h⟩
      · exact .inr h
/-- Do all currents have the force of the first one? -/
def evB (l : List T3) (f : T3) : Bool := l.all fun y => decide (forceV y f = forceV (l.headD T3.zero) f)
theorem evB_yes {l : List T3} {f x0 : T3} (h0 : l[0]? = some x0) (h : ∀ x ∈ l, forceV x f = forceV x0 f) : evB l f = true := by
  unfold evB
  cases l with
  | nil => simp at h0
  | cons y l =>
    simp only [List.getElem?_cons_zero, Option.some.injEq] at h0
    subst h0
    rw [List.all_eq_true]
    intro x hx
    simpa using h x hx
theorem evB_no {l : List T3} {f x0 x : T3} (h0 : l[0]? = some x0) (hx : x ∈ l) (h : ¬ forceV x f = forceV x0 f) : evB l f = false := by
  unfold evB
  cases l with
  | nil => simp at h0
  | cons y l =>
    simp only [List.getElem?_cons_zero, Option.some.injEq] at h0
    subst h0
    rw [← Bool.not_eq_true, List.all_eq_true]
    intro hh
    exact h (by simpa using hh x hx)

set_option maxHeartbeats 2000000 in
theorem Even_bad (l : List T3) (A : Option Addr) (c : Nat) (f : T3) (hl : l.length ≤ 1000) (er : Int) (he : (if curE l = 0 then vE f else curE l) = er) (hr : er ≠ 0) (w : World) (hA : Lies w w.heap.size A (l.flatMap tc)) :
    Calls Tryd.prog 47 #[.slice A l.length c, (.agg #[.int .i64 f.a, .int .i64 f.b])] w fun e w' => e = .returned (.tuple #[.bool false, .int .i64 er]) ∧ Below w.heap.size w w' := by
  have F0 := Lib.hid (Fr.b1 w 24 #[.int .i64 f.a, .int .i64 f.b])
  have HA := Lib.hid hA
  clear hA
  by_cases h0 : l.length = 0
  · have h2 : curE l = 10 := by unfold curE; rw [if_pos h0]
    rw [if_neg (by rw [h2]; decide), h2] at he
    subst he
    clear h2 hr
    go_enter Tryd.func47, Tryd.ntmps47
    go_wp2_with fail
    go_ret2
    exact ⟨rfl, F0.out.bl⟩
  · by_cases h1 : 12 < l.length
    · have h2 : curE l = 8 := by unfold curE; rw [if_neg h0, if_pos h1]
      rw [if_neg (by rw [h2]; decide), h2] at he
      subst he
      clear h2 hr
      go_enter Tryd.func47, Tryd.ntmps47
      go_wp2_with fail
      go_ret2
      exact ⟨rfl, F0.out.bl⟩
    · have h2 : curE l = vsE l := by unfold curE; rw [if_neg h0, if_neg h1]
      rw [h2] at he
      clear h2
      by_cases h3 : vsE l = 0
      · rw [if_pos h3] at he
        have HV := Lib.hid h3
        have HE := Lib.hid he
        have ge : (er != 0) = true := by simp [hr]
        clear h3 he hr
        go_enter Tryd.func47, Tryd.ntmps47
        go_wp2_with fail
        refine (checkVectors_any l A c (by unfold maxLen; omega) _ (Fr.lies HA.out F0.out)).mono ?_
        rintro e w1 ⟨rfl, hb1⟩
        rw [HV.out]
        have F1 := Lib.hid (F0.out.call hb1)
        obtain ⟨c0, c1, _, _⟩ := F1.out.top.two
        have z1 := F1.out.top.lt
        clear hb1 F0
        go_wp2_with fail
        refine (checkVector_any f _).mono ?_
        rintro e w2 ⟨rfl, hb2⟩
        rw [HE.out]
        have F2 := Lib.hid (F1.out.call hb2)
        clear hb2 F1 c0 c1 z1
        go_wp2_with fail
        go_ret2
        exact ⟨rfl, F2.out.bl⟩
      · rw [if_neg h3] at he
        have HE := Lib.hid he
        have ge : (er != 0) = true := by simp [hr]
        clear h3 he hr
        go_enter Tryd.func47, Tryd.ntmps47
        go_wp2_with fail
        refine (checkVectors_any l A c (by unfold maxLen; omega) _ (Fr.lies HA.out F0.out)).mono ?_
        rintro e w1 ⟨rfl, hb1⟩
        rw [HE.out]
        have F1 := Lib.hid (F0.out.call hb1)
        clear hb1 F0
        go_wp2_with fail
        go_ret2
        exact ⟨rfl, F1.out.bl⟩

set_option maxHeartbeats 4000000 in
theorem Even_ok (l : List T3) (A : Option Addr) (c : Nat) (f : T3) (h0 : l.length ≠ 0) (h1 : l.length ≤ 12) (hx : ∀ x ∈ l, okT x = true) (hf : okT f = true) (w : World) (hA : Lies w w.heap.size A (l.flatMap tc)) :
    Calls Tryd.prog 47 #[.slice A l.length c, (.agg #[.int .i64 f.a, .int .i64 f.b])] w fun e w' => e = .returned (.tuple #[.bool (evB l f), .int .i64 0]) ∧ Below w.heap.size w w' := by
  have F0 := Lib.hid (Fr.b1 w 24 #[.int .i64 f.a, .int .i64 f.b])
  obtain ⟨x0, hx0⟩ : ∃ x, l[0]? = some x := ⟨_, List.getElem?_eq_getElem (by omega)⟩
  obtain ⟨a, rfl, hab, ca, cb⟩ := hA.third hx0
  rw [Nat.zero_mul, addr_zero] at ca cb
  have hl0 : (0 : Int) < (l.length : Int) := by omega
  have hl1 : 0 < l.length := by omega
  have hl2 : l ≠ [] := List.ne_nil_of_length_pos hl1
  have HA := Lib.hid hA
  have HX := Lib.hid hx
  have HX0 := Lib.hid hx0
  have HFB : Hid (f.Bd 100000000) := Lib.hid ((okT_bd hf).more (by omega))
  have HV := Lib.hid (vsE_yes hx)
  have HF := Lib.hid (vE_ok hf)
  have HC0 : Hid (∀ W, Below w.heap.size w W → W.cell? a = some (.int .i64 x0.a) ∧ W.cell? ⟨a.block, a.off + 1, none⟩ = some (.int .i64 x0.b)) := Lib.hid (fun W hb => ⟨(hb.cell hab).trans ca, (hb.cell (p := ⟨a.block, a.off + 1, none⟩) hab).trans cb⟩)
  obtain ⟨p, hp⟩ : ∃ p, forceV x0 f = p := ⟨_, rfl⟩
  have HP0 : Hid (∀ w, Calls Tryd.prog 76 #[(.agg #[.int .i64 x0.a, .int .i64 x0.b]), (.agg #[.int .i64 f.a, .int .i64 f.b])] w fun e w' => e = .returned (.int .i64 p) ∧ Below w.heap.size w w') := Lib.hid (fun w => by have := force_any x0 f ((okT_bd (hx x0 (List.mem_of_getElem? hx0))).more (by omega)) HFB.out w; rw [hp] at this; exact this)
  have HP := Lib.hid hp
  clear hA hx hx0 hf ca cb hp
  go_enter Tryd.func47, Tryd.ntmps47
  go_wp2_with fail
  refine (checkVectors_any l (some a) c (by unfold maxLen; omega) _ (Fr.lies HA.out F0.out)).mono ?_
  rintro e w1 ⟨rfl, hb1⟩
  rw [HV.out]
  have F1 := Lib.hid (F0.out.call hb1)
  obtain ⟨c0, c1, _, _⟩ := F1.out.top.two
  have z1 := F1.out.top.lt
  clear hb1 F0
  go_wp2_with fail
  refine (checkVector_any f _).mono ?_
  rintro e w2 ⟨rfl, hb2⟩
  rw [HF.out]
  have F2 := Lib.hid (F1.out.call hb2)
  clear hb2 F1 c0 c1 z1
  go_wp2_with fail
  go_loopw [30] (fun i wr => ∃ k : Nat, k ≤ l.length ∧ i = .int .i64 k ∧ (∀ x ∈ l.take k, forceV x f = p) ∧ Fr w wr [(w.heap.size, 24, #[.int .i64 f.a, .int .i64 f.b])]) (fun i _ => l.length - (intOf i).toNat)
  case atStart => exact ⟨0, Nat.zero_le _, rfl, by simp, F2.out⟩
  case round =>
    obtain ⟨k, hk, rfl, hp, hfr⟩ := hrel
    clear F2
    have HPR := Lib.hid hp
    have HFR := Lib.hid hfr
    clear hp hfr
    by_cases hlt : k < l.length
    · obtain ⟨x, hx⟩ : ∃ x, l[k]? = some x := ⟨_, List.getElem?_eq_getElem hlt⟩
      obtain ⟨a', ea, hab2, ca, cb⟩ := (Fr.lies HA.out HFR.out).third hx
      obtain rfl : a = a' := Option.some.inj ea
      have HXK := Lib.hid hx
      have F5 := Lib.hid (HFR.out.box 24 #[.int .i64 x.a, .int .i64 x.b])
      obtain ⟨q, hq⟩ : ∃ q, forceV x f = q := ⟨_, rfl⟩
      have HQ0 : Hid (∀ w, Calls Tryd.prog 76 #[(.agg #[.int .i64 x.a, .int .i64 x.b]), (.agg #[.int .i64 f.a, .int .i64 f.b])] w fun e w' => e = .returned (.int .i64 q) ∧ Below w.heap.size w w') := Lib.hid (fun w => by have := force_any x f ((okT_bd (HX.out x (List.mem_of_getElem? hx))).more (by omega)) HFB.out w; rw [hq] at this; exact this)
      have HQ := Lib.hid hq
      clear hx ea hq
      go_upto_region 14 with fail
      clear ca cb hab2
      by_cases he : q = p
      · subst he
        go_cut [42] from 34 to 42 (fun r W => r = .bool false ∧ Fr w W [(wr.heap.size, 24, #[.int .i64 x.a, .int .i64 x.b]), (w.heap.size, 24, #[.int .i64 f.a, .int .i64 f.b])])
        case first =>
          have HALL : Hid (∀ W, Fr w W [(wr.heap.size, 24, #[.int .i64 x.a, .int .i64 x.b]), (w.heap.size, 24, #[.int .i64 f.a, .int .i64 f.b])] → Fr w W [(wr.heap.size, 24, #[.int .i64 x.a, .int .i64 x.b]), (w.heap.size, 24, #[.int .i64 f.a, .int .i64 f.b])] ∧ W.cell? ⟨wr.heap.size, 0, none⟩ = some (.int .i64 x.a) ∧ W.cell? ⟨wr.heap.size, 1, none⟩ = some (.int .i64 x.b) ∧ W.cell? ⟨w.heap.size, 0, none⟩ = some (.int .i64 f.a) ∧ W.cell? ⟨w.heap.size, 1, none⟩ = some (.int .i64 f.b) ∧ W.cell? a = some (.int .i64 x0.a) ∧ W.cell? ⟨a.block, a.off + 1, none⟩ = some (.int .i64 x0.b)) := Lib.hid (fun W hW => ⟨hW, hW.top.cell 0, hW.top.cell 1, hW.at1.cell 0, hW.at1.cell 1, (HC0.out W hW.bl).1, (HC0.out W hW.bl).2⟩)
          have F10 : Fr w _ [(wr.heap.size, 24, #[.int .i64 x.a, .int .i64 x.b]), (w.heap.size, 24, #[.int .i64 f.a, .int .i64 f.b])] := F5.out
          clear F5
          go_region_held3 (fun W => Fr w W [(wr.heap.size, 24, #[.int .i64 x.a, .int .i64 x.b]), (w.heap.size, 24, #[.int .i64 f.a, .int .i64 f.b])] ∧ W.cell? ⟨wr.heap.size, 0, none⟩ = some (.int .i64 x.a) ∧ W.cell? ⟨wr.heap.size, 1, none⟩ = some (.int .i64 x.b) ∧ W.cell? ⟨w.heap.size, 0, none⟩ = some (.int .i64 f.a) ∧ W.cell? ⟨w.heap.size, 1, none⟩ = some (.int .i64 f.b) ∧ W.cell? a = some (.int .i64 x0.a) ∧ W.cell? ⟨a.block, a.off + 1, none⟩ = some (.int .i64 x0.b))
            ((go_split_ands; refine HALL.out _ ?_; (first | assumption | (repeat (first | assumption | refine Fr.new ?_ _ | refine Fr.drew ?_ | (refine Fr.set ?_ (by first | exact Nat.le_refl _ | omega | (simp; done) | (simp; omega)) (by first | (simp; done) | (simp; omega)) _))); done)))
            ((first
              | (go_at_call 76; go_split_ands; (with_reducible refine (HQ0.out _).mono ?_); rintro e w1 ⟨rfl, hb1⟩; have F4 := Fr.call (by assumption) hb1; clear hb1)
              | (go_at_call 76; go_split_ands; (with_reducible refine (HP0.out _).mono ?_); rintro e w1 ⟨rfl, hb1⟩; have F4 := Fr.call (by assumption) hb1; clear hb1)
              | fail "arm"))
          all_goals
            go_split_ands
            go_wp2_with fail
            go_meet
            exact ⟨rfl, by assumption⟩
        case rest =>
          obtain ⟨wx, rfl⟩ : ∃ W, W = wc := ⟨_, rfl⟩
          obtain ⟨rfl, hx⟩ := hcut
          have FC := Lib.hid hx.tail
          clear hx F5
          go_wp2_with fail
          go_roundw
          case rel => exact ⟨k + 1, by omega, by go_num, fun y hy => by
            rw [List.take_add_one, HXK.out] at hy
            rcases List.mem_append.1 hy with h | h
            · exact HPR.out y h
            · simp only [Option.toList_some, List.mem_singleton] at h; rw [h]; exact HQ.out, FC.out⟩
          case measure => simp [intOf]; omega
      · have ge : (q != p) = true := by simp [he]
        go_cut [42] from 34 to 42 (fun r W => r = .bool true ∧ Fr w W [(wr.heap.size, 24, #[.int .i64 x.a, .int .i64 x.b]), (w.heap.size, 24, #[.int .i64 f.a, .int .i64 f.b])])
        case first =>
          have HALL : Hid (∀ W, Fr w W [(wr.heap.size, 24, #[.int .i64 x.a, .int .i64 x.b]), (w.heap.size, 24, #[.int .i64 f.a, .int .i64 f.b])] → Fr w W [(wr.heap.size, 24, #[.int .i64 x.a, .int .i64 x.b]), (w.heap.size, 24, #[.int .i64 f.a, .int .i64 f.b])] ∧ W.cell? ⟨wr.heap.size, 0, none⟩ = some (.int .i64 x.a) ∧ W.cell? ⟨wr.heap.size, 1, none⟩ = some (.int .i64 x.b) ∧ W.cell? ⟨w.heap.size, 0, none⟩ = some (.int .i64 f.a) ∧ W.cell? ⟨w.heap.size, 1, none⟩ = some (.int .i64 f.b) ∧ W.cell? a = some (.int .i64 x0.a) ∧ W.cell? ⟨a.block, a.off + 1, none⟩ = some (.int .i64 x0.b)) := Lib.hid (fun W hW => ⟨hW, hW.top.cell 0, hW.top.cell 1, hW.at1.cell 0, hW.at1.cell 1, (HC0.out W hW.bl).1, (HC0.out W hW.bl).2⟩)
          have F10 : Fr w _ [(wr.heap.size, 24, #[.int .i64 x.a, .int .i64 x.b]), (w.heap.size, 24, #[.int .i64 f.a, .int .i64 f.b])] := F5.out
          clear F5
          go_region_held3 (fun W => Fr w W [(wr.heap.size, 24, #[.int .i64 x.a, .int .i64 x.b]), (w.heap.size, 24, #[.int .i64 f.a, .int .i64 f.b])] ∧ W.cell? ⟨wr.heap.size, 0, none⟩ = some (.int .i64 x.a) ∧ W.cell? ⟨wr.heap.size, 1, none⟩ = some (.int .i64 x.b) ∧ W.cell? ⟨w.heap.size, 0, none⟩ = some (.int .i64 f.a) ∧ W.cell? ⟨w.heap.size, 1, none⟩ = some (.int .i64 f.b) ∧ W.cell? a = some (.int .i64 x0.a) ∧ W.cell? ⟨a.block, a.off + 1, none⟩ = some (.int .i64 x0.b))
            ((go_split_ands; refine HALL.out _ ?_; (first | assumption | (repeat (first | assumption | refine Fr.new ?_ _ | refine Fr.drew ?_ | (refine Fr.set ?_ (by first | exact Nat.le_refl _ | omega | (simp; done) | (simp; omega)) (by first | (simp; done) | (simp; omega)) _))); done)))
            ((first
              | (go_at_call 76; go_split_ands; (with_reducible refine (HQ0.out _).mono ?_); rintro e w1 ⟨rfl, hb1⟩; have F4 := Fr.call (by assumption) hb1; clear hb1)
              | (go_at_call 76; go_split_ands; (with_reducible refine (HP0.out _).mono ?_); rintro e w1 ⟨rfl, hb1⟩; have F4 := Fr.call (by assumption) hb1; clear hb1)
              | fail "arm"))
          all_goals
            go_split_ands
            go_wp2_with fail
            go_meet
            exact ⟨rfl, by assumption⟩
        case rest =>
          obtain ⟨wx, rfl⟩ : ∃ W, W = wc := ⟨_, rfl⟩
          obtain ⟨rfl, hx⟩ := hcut
          have FC := Lib.hid hx
          clear hx F5
          go_wp2_with fail
          go_ret2
          exact ⟨by rw [evB_no HX0.out (List.mem_of_getElem? HXK.out) (by rw [HQ.out, HP.out]; exact he)] <;> rfl, FC.out.bl⟩
    · obtain rfl : k = l.length := by omega
      go_wp2_with fail
      go_ret2
      exact ⟨by rw [evB_yes HX0.out (fun x hx => by rw [HP.out]; exact HPR.out x (by simpa using hx))] <;> rfl, HFR.out.bl⟩
end Go.Proofs.YtohldmmfnjfgmaaDoor
