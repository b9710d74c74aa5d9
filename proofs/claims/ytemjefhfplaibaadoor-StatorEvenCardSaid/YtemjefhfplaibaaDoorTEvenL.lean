
/-
  The walks of the reference's Even and of StatorEven.
-/
import Derived.Test.YtemjefhfplaibaaDoorTEven
namespace Go.Proofs.YtemjefhfplaibaaDoor
open Go.RowKit

set_option maxHeartbeats 4000000 in
theorem refEven_any (l : List T3) (A : Option Addr) (c : Nat) (f : T3) (h0 : l.length ≠ 0) (h1 : l.length ≤ 12) (hx : ∀ x ∈ l, okT x = true) (hf : okT f = true) (w : World) (hA : Lies w w.heap.size A (l.flatMap tc)) :
    Calls Tryd.prog 52 #[.slice A l.length c, (.agg #[.int .i64 f.a, .int .i64 f.b])] w fun e w' => e = .returned (.bool (evB l f)) ∧ Below w.heap.size w w' := by
  have F0 := Lib.hid (Fr.b1 w 24 #[.int .i64 f.a, .int .i64 f.b])
  obtain ⟨x0, hx0⟩ : ∃ x, l[0]? = some x := ⟨_, List.getElem?_eq_getElem (by omega)⟩
  obtain ⟨a, rfl, hab, ca, cb⟩ := hA.third hx0
  rw [Nat.zero_mul, addr_zero] at ca cb
  have hl0 : (0 : Int) < (l.length : Int) := by omega
  have hl1 : 0 < l.length := by omega
  have hl2 : l ≠ [] := List.ne_nil_of_length_pos hl1
  have HA := Lib.hid hA
  have HX := Lib.hid hx
  have HX0 := Lib.hid hx0
  have HFB : Hid (f.Bd 100000000) := Lib.hid ((okT_bd hf).more (by omega))
  have HC0 : Hid (∀ W, Below w.heap.size w W → W.cell? a = some (.int .i64 x0.a) ∧ W.cell? ⟨a.block, a.off + 1, none⟩ = some (.int .i64 x0.b)) := Lib.hid (fun W hb => ⟨(hb.cell hab).trans ca, (hb.cell (p := ⟨a.block, a.off + 1, none⟩) hab).trans cb⟩)
  obtain ⟨p, hp⟩ : ∃ p, forceV x0 f = p := ⟨_, rfl⟩
  have HP0 : Hid (∀ w, Calls Tryd.prog 88 #[(.agg #[.int .i64 x0.a, .int .i64 x0.b]), (.agg #[.int .i64 f.a, .int .i64 f.b])] w fun e w' => e = .returned (.int .i64 p) ∧ Below w.heap.size w w') := Lib.hid (fun w => by have := refForceOf_any x0 f ((okT_bd (hx x0 (List.mem_of_getElem? hx0))).more (by omega)) HFB.out w; rw [hp] at this; exact this)
  have HP := Lib.hid hp
  clear hA hx hx0 hf ca cb hp
  go_enter Tryd.func52, Tryd.ntmps52
  go_wp2_with fail
  go_loopw [5] (fun i wr => ∃ k : Nat, k ≤ l.length ∧ i = .int .i64 k ∧ (∀ x ∈ l.take k, forceV x f = p) ∧ Fr w wr [(w.heap.size, 24, #[.int .i64 f.a, .int .i64 f.b])]) (fun i _ => l.length - (intOf i).toNat)
  case atStart => exact ⟨0, Nat.zero_le _, rfl, by simp, F0.out⟩
  case round =>
    obtain ⟨k, hk, rfl, hp, hfr⟩ := hrel
    clear F0
    have HPR := Lib.hid hp
    have HFR := Lib.hid hfr
    clear hp hfr
    by_cases hlt : k < l.length
    · obtain ⟨x, hx⟩ : ∃ x, l[k]? = some x := ⟨_, List.getElem?_eq_getElem hlt⟩
      obtain ⟨a', ea, hab2, ca, cb⟩ := HA.out.third hx
      obtain rfl : a = a' := Option.some.inj ea
      have HXK := Lib.hid hx
      have HCK : Hid (∀ W, Below w.heap.size w W → W.cell? (a.add (k * 2)) = some (.int .i64 x.a) ∧ W.cell? ⟨(a.add (k * 2)).block, (a.add (k * 2)).off + 1, none⟩ = some (.int .i64 x.b)) := Lib.hid (fun W hb => ⟨(hb.cell (by rw [add_blk]; exact hab)).trans ca, (hb.cell (p := ⟨(a.add (k * 2)).block, (a.add (k * 2)).off + 1, none⟩) (by show (a.add (k * 2)).block < _; rw [add_blk]; exact hab)).trans cb⟩)
      obtain ⟨q, hq⟩ : ∃ q, forceV x f = q := ⟨_, rfl⟩
      have HQ0 : Hid (∀ w, Calls Tryd.prog 88 #[(.agg #[.int .i64 x.a, .int .i64 x.b]), (.agg #[.int .i64 f.a, .int .i64 f.b])] w fun e w' => e = .returned (.int .i64 q) ∧ Below w.heap.size w w') := Lib.hid (fun w => by have := refForceOf_any x f ((okT_bd (HX.out x (List.mem_of_getElem? hx))).more (by omega)) HFB.out w; rw [hq] at this; exact this)
      have HQ := Lib.hid hq
      clear hx ea hq ca cb hab2
      go_upto_region 4 with fail
      by_cases he : q = p
      · subst he
        go_cut [23] from 12 to 23 (fun r W => r = .bool false ∧ Fr w W [(w.heap.size, 24, #[.int .i64 f.a, .int .i64 f.b])])
        case first =>
          have HALL : Hid (∀ W, Fr w W [(w.heap.size, 24, #[.int .i64 f.a, .int .i64 f.b])] → Fr w W [(w.heap.size, 24, #[.int .i64 f.a, .int .i64 f.b])] ∧ W.cell? ⟨w.heap.size, 0, none⟩ = some (.int .i64 f.a) ∧ W.cell? ⟨w.heap.size, 1, none⟩ = some (.int .i64 f.b) ∧ W.cell? a = some (.int .i64 x0.a) ∧ W.cell? ⟨a.block, a.off + 1, none⟩ = some (.int .i64 x0.b) ∧ W.cell? (a.add (k * 2)) = some (.int .i64 x.a) ∧ W.cell? ⟨(a.add (k * 2)).block, (a.add (k * 2)).off + 1, none⟩ = some (.int .i64 x.b)) := Lib.hid (fun W hW => ⟨hW, hW.top.cell 0, hW.top.cell 1, (HC0.out W hW.bl).1, (HC0.out W hW.bl).2, (HCK.out W hW.bl).1, (HCK.out W hW.bl).2⟩)
          have F10 : Fr w _ [(w.heap.size, 24, #[.int .i64 f.a, .int .i64 f.b])] := HFR.out
          clear HFR
          go_region_held3 (fun W => Fr w W [(w.heap.size, 24, #[.int .i64 f.a, .int .i64 f.b])] ∧ W.cell? ⟨w.heap.size, 0, none⟩ = some (.int .i64 f.a) ∧ W.cell? ⟨w.heap.size, 1, none⟩ = some (.int .i64 f.b) ∧ W.cell? a = some (.int .i64 x0.a) ∧ W.cell? ⟨a.block, a.off + 1, none⟩ = some (.int .i64 x0.b) ∧ W.cell? (a.add (k * 2)) = some (.int .i64 x.a) ∧ W.cell? ⟨(a.add (k * 2)).block, (a.add (k * 2)).off + 1, none⟩ = some (.int .i64 x.b))
            ((go_split_ands; refine HALL.out _ ?_; (first | assumption | (repeat (first | assumption | refine Fr.new ?_ _ | refine Fr.drew ?_ | (refine Fr.set ?_ (by first | exact Nat.le_refl _ | omega | (simp; done) | (simp; omega)) (by first | (simp; done) | (simp; omega)) _))); done)))
            ((first
              | (go_at_call 88; go_split_ands; (with_reducible refine (HQ0.out _).mono ?_); rintro e w1 ⟨rfl, hb1⟩; have F4 := Fr.call (by assumption) hb1; clear hb1)
              | (go_at_call 88; go_split_ands; (with_reducible refine (HP0.out _).mono ?_); rintro e w1 ⟨rfl, hb1⟩; have F4 := Fr.call (by assumption) hb1; clear hb1)
              | fail "arm"))
          all_goals
            go_split_ands
            go_wp2_with fail
            go_meet
            exact ⟨rfl, by assumption⟩
        case rest =>
          obtain ⟨wx, rfl⟩ : ∃ W, W = wc := ⟨_, rfl⟩
          obtain ⟨rfl, hx⟩ := hcut
          have FC := Lib.hid hx
          clear hx HFR
          go_wp2_with fail
          go_roundw
          case rel => exact ⟨k + 1, by omega, by go_num, fun y hy => by
            rw [List.take_add_one, HXK.out] at hy
            rcases List.mem_append.1 hy with h | h
            · exact HPR.out y h
            · simp only [Option.toList_some, List.mem_singleton] at h; rw [h]; exact HQ.out, FC.out⟩
          case measure => simp [intOf]; omega
      · have ge : (q != p) = true := by simp [he]
        go_cut [23] from 12 to 23 (fun r W => r = .bool true ∧ Fr w W [(w.heap.size, 24, #[.int .i64 f.a, .int .i64 f.b])])
        case first =>
          have HALL : Hid (∀ W, Fr w W [(w.heap.size, 24, #[.int .i64 f.a, .int .i64 f.b])] → Fr w W [(w.heap.size, 24, #[.int .i64 f.a, .int .i64 f.b])] ∧ W.cell? ⟨w.heap.size, 0, none⟩ = some (.int .i64 f.a) ∧ W.cell? ⟨w.heap.size, 1, none⟩ = some (.int .i64 f.b) ∧ W.cell? a = some (.int .i64 x0.a) ∧ W.cell? ⟨a.block, a.off + 1, none⟩ = some (.int .i64 x0.b) ∧ W.cell? (a.add (k * 2)) = some (.int .i64 x.a) ∧ W.cell? ⟨(a.add (k * 2)).block, (a.add (k * 2)).off + 1, none⟩ = some (.int .i64 x.b)) := Lib.hid (fun W hW => ⟨hW, hW.top.cell 0, hW.top.cell 1, (HC0.out W hW.bl).1, (HC0.out W hW.bl).2, (HCK.out W hW.bl).1, (HCK.out W hW.bl).2⟩)
          have F10 : Fr w _ [(w.heap.size, 24, #[.int .i64 f.a, .int .i64 f.b])] := HFR.out
          clear HFR
          go_region_held3 (fun W => Fr w W [(w.heap.size, 24, #[.int .i64 f.a, .int .i64 f.b])] ∧ W.cell? ⟨w.heap.size, 0, none⟩ = some (.int .i64 f.a) ∧ W.cell? ⟨w.heap.size, 1, none⟩ = some (.int .i64 f.b) ∧ W.cell? a = some (.int .i64 x0.a) ∧ W.cell? ⟨a.block, a.off + 1, none⟩ = some (.int .i64 x0.b) ∧ W.cell? (a.add (k * 2)) = some (.int .i64 x.a) ∧ W.cell? ⟨(a.add (k * 2)).block, (a.add (k * 2)).off + 1, none⟩ = some (.int .i64 x.b))
            ((go_split_ands; refine HALL.out _ ?_; (first | assumption | (repeat (first | assumption | refine Fr.new ?_ _ | refine Fr.drew ?_ | (refine Fr.set ?_ (by first | exact Nat.le_refl _ | omega | (simp; done) | (simp; omega)) (by first | (simp; done) | (simp; omega)) _))); done)))
            ((first
              | (go_at_call 88; go_split_ands; (with_reducible refine (HQ0.out _).mono ?_); rintro e w1 ⟨rfl, hb1⟩; have F4 := Fr.call (by assumption) hb1; clear hb1)
              | (go_at_call 88; go_split_ands; (with_reducible refine (HP0.out _).mono ?_); rintro e w1 ⟨rfl, hb1⟩; have F4 := Fr.call (by assumption) hb1; clear hb1)
              | fail "arm"))
          all_goals
            go_split_ands
            go_wp2_with fail
            go_meet
            exact ⟨rfl, by assumption⟩
        case rest =>
          obtain ⟨wx, rfl⟩ : ∃ W, W = wc := ⟨_, rfl⟩
          obtain ⟨rfl, hx⟩ := hcut
          have FC := Lib.hid hx
          clear hx HFR
          go_wp2_with fail
          go_ret
          exact ⟨by rw [evB_no HX0.out (List.mem_of_getElem? HXK.out) (by rw [HQ.out, HP.out]; exact he)] <;> rfl, FC.out.bl⟩
    · obtain rfl : k = l.length := by omega
      go_wp2_with fail
      go_ret
      exact ⟨by rw [evB_yes HX0.out (fun x hx => by rw [HP.out]; exact HPR.out x (by simpa using hx))] <;> rfl, HFR.out.bl⟩

set_option maxHeartbeats 4000000 in
set_option maxRecDepth 100000 in
theorem StatorEven_cur (l : List T3) (g : Hd) (hg : HdOk g) (f : T3) (hl : l.length ≤ 14) (er : Int) (he : curE l = er) (hr : er ≠ 0) (w : World) (hT : Tab w) (hA : Lies w w.heap.size g.A (l.flatMap tc)) : Calls Tryd.prog 9 #[.slice g.A l.length g.c, (.agg #[.int .i64 f.a, .int .i64 f.b])] w fun e w' => e = .returned (.bool true) ∧ Below w.heap.size w w' := by
  have F0 := Lib.hid (Fr.b1 w 24 #[.int .i64 f.a, .int .i64 f.b])
  have T0 := Lib.hid (hT.new (.cells #[.int .i64 f.a, .int .i64 f.b] 24))
  clear hT
  have HA := Lib.hid hA
  have HG := Lib.hid hg
  clear hA hg
  have HEV : Hid (∀ (w : World) (A : Option Addr) (c : Nat), Lies w w.heap.size A (l.flatMap tc) → Calls Tryd.prog 44 #[.slice A l.length c, (.agg #[.int .i64 f.a, .int .i64 f.b])] w fun e w' => e = .returned (.tuple #[.bool false, .int .i64 er]) ∧ Below w.heap.size w w') := Lib.hid (fun w A c h => Even_bad l A c f (by omega) er (by rw [he, if_neg hr]) hr w h)
  have HC := Lib.hid he
  have ge : (er == 0) = false := by simp [hr]
  have gn : (er != 0) = true := by simp [hr]
  have gl : (l.length : Int) ≤ 14 := by omega
  clear he hr
  go_enter Tryd.func9, Tryd.ntmps9
  go_wp2_with fail
  refine (awake_any _ T0.out).mono ?_
  rintro e w1 ⟨rfl, hb1⟩
  have G1 := Fr.call F0.out hb1
  obtain ⟨k0_0, k0_1, kf0, kg0⟩ := (G1.get 0 rfl).two
  have kz0 := (G1.get 0 rfl).lt
  have F1 : Hid (Fr w _ [(w.heap.size, 24, #[.int .i64 f.a, .int .i64 f.b])]) := Lib.hid G1
  clear hb1 G1 F0
  go_upto_region 5 with fail
  go_cut [5, 6] from 13 to 19 (fun r s W => r = .bool false ∧ s = .int .i64 er ∧ Fr w W [(w.heap.size, 24, #[.int .i64 f.a, .int .i64 f.b])])
  case first =>
    have HALL : Hid (∀ W, Fr w W [(w.heap.size, 24, #[.int .i64 f.a, .int .i64 f.b])] → Fr w W [(w.heap.size, 24, #[.int .i64 f.a, .int .i64 f.b])] ∧ W.cell? ⟨w.heap.size, 0, none⟩ = some (.int .i64 f.a) ∧ W.cell? ⟨w.heap.size, 1, none⟩ = some (.int .i64 f.b)) := Lib.hid (fun W hW => ⟨hW, hW.top.cell 0, hW.top.cell 1⟩)
    have F10 : Fr w _ [(w.heap.size, 24, #[.int .i64 f.a, .int .i64 f.b])] := F1.out
    clear F1
    go_region_held3 (fun W => Fr w W [(w.heap.size, 24, #[.int .i64 f.a, .int .i64 f.b])] ∧ W.cell? ⟨w.heap.size, 0, none⟩ = some (.int .i64 f.a) ∧ W.cell? ⟨w.heap.size, 1, none⟩ = some (.int .i64 f.b))
      ((go_split_ands; refine HALL.out _ ?_; (first | assumption | (repeat (first | assumption | refine Fr.new ?_ _ | refine Fr.drew ?_ | (refine Fr.set ?_ (by first | exact Nat.le_refl _ | omega | (simp; done) | (simp; omega)) (by first | (simp; done) | (simp; omega)) _))); done)))
      ((first
        | (go_at_call 45; go_split_ands; (with_reducible refine (CopyVectors_any l g (by omega) HG.out _ (Fr.lies HA.out (by assumption))).mono ?_); rintro e w1 ⟨g2, rfl, hl2, hk2, hb1⟩; have HL2 := Lib.hid hl2; have F4 := Fr.call (by assumption) hb1; clear hb1 hl2 hk2)
        | (go_at_call 44; go_split_ands; (with_reducible refine (HEV.out _ _ _ (by exact HL2.out)).mono ?_); rintro e w1 ⟨rfl, hb1⟩; have F5 := Fr.call (by assumption) hb1; clear hb1)
        | fail "arm"))
    all_goals
      go_split_ands
      go_wp2_with fail
      go_meet
      exact ⟨rfl, rfl, by assumption⟩
  case rest =>
    obtain ⟨wx, rfl⟩ : ∃ W, W = wc := ⟨_, rfl⟩
    obtain ⟨rfl, rfl, hx⟩ := hcut
    have FC : Hid (Fr w _ [(w.heap.size, 24, #[.int .i64 f.a, .int .i64 f.b])]) := Lib.hid hx
    clear k0_0 k0_1 kf0 kg0 kz0 hx F1
    obtain ⟨k0_0, k0_1, kf0, kg0⟩ := (FC.out.get 0 rfl).two
    have kz0 := (FC.out.get 0 rfl).lt
    go_wp2_with fail
    refine (CurrentsErr_any l g.A g.c (by omega) _ (Fr.lies HA.out FC.out)).mono ?_
    rintro e w2 ⟨rfl, hb2⟩
    rw [HC.out]
    clear k0_0 k0_1 kf0 kg0 kz0
    have G2 := Fr.call FC.out hb2
    obtain ⟨k0_0, k0_1, kf0, kg0⟩ := (G2.get 0 rfl).two
    have kz0 := (G2.get 0 rfl).lt
    have F2 : Hid (Fr w _ [(w.heap.size, 24, #[.int .i64 f.a, .int .i64 f.b])]) := Lib.hid G2
    clear hb2 G2 FC
    go_wp2_with fail
    go_ret
    exact ⟨rfl, F2.out.bl⟩

set_option maxHeartbeats 4000000 in
set_option maxRecDepth 100000 in
theorem StatorEven_flux (l : List T3) (g : Hd) (hg : HdOk g) (f : T3) (hl : l.length ≤ 14) (he : curE l = 0) (hf : okT f = false) (w : World) (hT : Tab w) (hA : Lies w w.heap.size g.A (l.flatMap tc)) : Calls Tryd.prog 9 #[.slice g.A l.length g.c, (.agg #[.int .i64 f.a, .int .i64 f.b])] w fun e w' => e = .returned (.bool true) ∧ Below w.heap.size w w' := by
  have F0 := Lib.hid (Fr.b1 w 24 #[.int .i64 f.a, .int .i64 f.b])
  have T0 := Lib.hid (hT.new (.cells #[.int .i64 f.a, .int .i64 f.b] 24))
  clear hT
  have HA := Lib.hid hA
  have HG := Lib.hid hg
  clear hA hg
  have HEV : Hid (∀ (w : World) (A : Option Addr) (c : Nat), Lies w w.heap.size A (l.flatMap tc) → Calls Tryd.prog 44 #[.slice A l.length c, (.agg #[.int .i64 f.a, .int .i64 f.b])] w fun e w' => e = .returned (.tuple #[.bool false, .int .i64 2]) ∧ Below w.heap.size w w') := Lib.hid (fun w A c h => Even_bad l A c f (by omega) 2 (by rw [he, if_pos rfl, vE_bad hf]) (by decide) w h)
  have HC := Lib.hid he
  have HVE := Lib.hid (vE_bad hf)
  have gl : (l.length : Int) ≤ 14 := by omega
  clear he hf
  go_enter Tryd.func9, Tryd.ntmps9
  go_wp2_with fail
  refine (awake_any _ T0.out).mono ?_
  rintro e w1 ⟨rfl, hb1⟩
  have G1 := Fr.call F0.out hb1
  obtain ⟨k0_0, k0_1, kf0, kg0⟩ := (G1.get 0 rfl).two
  have kz0 := (G1.get 0 rfl).lt
  have F1 : Hid (Fr w _ [(w.heap.size, 24, #[.int .i64 f.a, .int .i64 f.b])]) := Lib.hid G1
  clear hb1 G1 F0
  go_upto_region 5 with fail
  go_cut [5, 6] from 13 to 19 (fun r s W => r = .bool false ∧ s = .int .i64 2 ∧ Fr w W [(w.heap.size, 24, #[.int .i64 f.a, .int .i64 f.b])])
  case first =>
    have HALL : Hid (∀ W, Fr w W [(w.heap.size, 24, #[.int .i64 f.a, .int .i64 f.b])] → Fr w W [(w.heap.size, 24, #[.int .i64 f.a, .int .i64 f.b])] ∧ W.cell? ⟨w.heap.size, 0, none⟩ = some (.int .i64 f.a) ∧ W.cell? ⟨w.heap.size, 1, none⟩ = some (.int .i64 f.b)) := Lib.hid (fun W hW => ⟨hW, hW.top.cell 0, hW.top.cell 1⟩)
    have F10 : Fr w _ [(w.heap.size, 24, #[.int .i64 f.a, .int .i64 f.b])] := F1.out
    clear F1
    go_region_held3 (fun W => Fr w W [(w.heap.size, 24, #[.int .i64 f.a, .int .i64 f.b])] ∧ W.cell? ⟨w.heap.size, 0, none⟩ = some (.int .i64 f.a) ∧ W.cell? ⟨w.heap.size, 1, none⟩ = some (.int .i64 f.b))
      ((go_split_ands; refine HALL.out _ ?_; (first | assumption | (repeat (first | assumption | refine Fr.new ?_ _ | refine Fr.drew ?_ | (refine Fr.set ?_ (by first | exact Nat.le_refl _ | omega | (simp; done) | (simp; omega)) (by first | (simp; done) | (simp; omega)) _))); done)))
      ((first
        | (go_at_call 45; go_split_ands; (with_reducible refine (CopyVectors_any l g (by omega) HG.out _ (Fr.lies HA.out (by assumption))).mono ?_); rintro e w1 ⟨g2, rfl, hl2, hk2, hb1⟩; have HL2 := Lib.hid hl2; have F4 := Fr.call (by assumption) hb1; clear hb1 hl2 hk2)
        | (go_at_call 44; go_split_ands; (with_reducible refine (HEV.out _ _ _ (by exact HL2.out)).mono ?_); rintro e w1 ⟨rfl, hb1⟩; have F5 := Fr.call (by assumption) hb1; clear hb1)
        | fail "arm"))
    all_goals
      go_split_ands
      go_wp2_with fail
      go_meet
      exact ⟨rfl, rfl, by assumption⟩
  case rest =>
    obtain ⟨wx, rfl⟩ : ∃ W, W = wc := ⟨_, rfl⟩
    obtain ⟨rfl, rfl, hx⟩ := hcut
    have FC : Hid (Fr w _ [(w.heap.size, 24, #[.int .i64 f.a, .int .i64 f.b])]) := Lib.hid hx
    clear k0_0 k0_1 kf0 kg0 kz0 hx F1
    obtain ⟨k0_0, k0_1, kf0, kg0⟩ := (FC.out.get 0 rfl).two
    have kz0 := (FC.out.get 0 rfl).lt
    go_wp2_with fail
    refine (CurrentsErr_any l g.A g.c (by omega) _ (Fr.lies HA.out FC.out)).mono ?_
    rintro e w2 ⟨rfl, hb2⟩
    rw [HC.out]
    clear k0_0 k0_1 kf0 kg0 kz0
    have G2 := Fr.call FC.out hb2
    obtain ⟨k0_0, k0_1, kf0, kg0⟩ := (G2.get 0 rfl).two
    have kz0 := (G2.get 0 rfl).lt
    have F2 : Hid (Fr w _ [(w.heap.size, 24, #[.int .i64 f.a, .int .i64 f.b])]) := Lib.hid G2
    clear hb2 G2 FC
    go_wp2_with fail
    refine (VectorErr_any f _).mono ?_
    rintro e w3 ⟨rfl, hb3⟩
    rw [HVE.out]
    clear k0_0 k0_1 kf0 kg0 kz0
    have G3 := Fr.call F2.out hb3
    obtain ⟨k0_0, k0_1, kf0, kg0⟩ := (G3.get 0 rfl).two
    have kz0 := (G3.get 0 rfl).lt
    have F3 : Hid (Fr w _ [(w.heap.size, 24, #[.int .i64 f.a, .int .i64 f.b])]) := Lib.hid G3
    clear hb3 G3 F2
    go_wp2_with fail
    go_ret
    exact ⟨rfl, F3.out.bl⟩

set_option maxHeartbeats 4000000 in
set_option maxRecDepth 100000 in
theorem StatorEven_ok (l : List T3) (g : Hd) (hg : HdOk g) (f : T3) (hl : l.length ≤ 14) (he : curE l = 0) (h0 : l.length ≠ 0) (h1 : l.length ≤ 12) (hx : ∀ x ∈ l, okT x = true) (hf : okT f = true) (w : World) (hT : Tab w) (hA : Lies w w.heap.size g.A (l.flatMap tc)) : Calls Tryd.prog 9 #[.slice g.A l.length g.c, (.agg #[.int .i64 f.a, .int .i64 f.b])] w fun e w' => e = .returned (.bool true) ∧ Below w.heap.size w w' := by
  have F0 := Lib.hid (Fr.b1 w 24 #[.int .i64 f.a, .int .i64 f.b])
  have T0 := Lib.hid (hT.new (.cells #[.int .i64 f.a, .int .i64 f.b] 24))
  clear hT
  have HA := Lib.hid hA
  have HG := Lib.hid hg
  clear hA hg
  have HEV : Hid (∀ (w : World) (A : Option Addr) (c : Nat), Lies w w.heap.size A (l.flatMap tc) → Calls Tryd.prog 44 #[.slice A l.length c, (.agg #[.int .i64 f.a, .int .i64 f.b])] w fun e w' => e = .returned (.tuple #[.bool (evB l f), .int .i64 0]) ∧ Below w.heap.size w w') := Lib.hid (fun w A c h => Even_ok l A c f h0 h1 hx hf w h)
  have HRE : Hid (∀ (w : World), Lies w w.heap.size g.A (l.flatMap tc) → Calls Tryd.prog 52 #[.slice g.A l.length g.c, (.agg #[.int .i64 f.a, .int .i64 f.b])] w fun e w' => e = .returned (.bool (evB l f)) ∧ Below w.heap.size w w') := Lib.hid (fun w h => refEven_any l g.A g.c f h0 h1 hx hf w h)
  have HC := Lib.hid he
  have HVE := Lib.hid (vE_ok hf)
  have gl : (l.length : Int) ≤ 14 := by omega
  clear he hf hx
  generalize evB l f = ev at *
  go_enter Tryd.func9, Tryd.ntmps9
  go_wp2_with fail
  refine (awake_any _ T0.out).mono ?_
  rintro e w1 ⟨rfl, hb1⟩
  have G1 := Fr.call F0.out hb1
  obtain ⟨k0_0, k0_1, kf0, kg0⟩ := (G1.get 0 rfl).two
  have kz0 := (G1.get 0 rfl).lt
  have F1 : Hid (Fr w _ [(w.heap.size, 24, #[.int .i64 f.a, .int .i64 f.b])]) := Lib.hid G1
  clear hb1 G1 F0
  go_upto_region 5 with fail
  go_cut [5, 6] from 13 to 19 (fun r s W => r = .bool ev ∧ s = .int .i64 0 ∧ Fr w W [(w.heap.size, 24, #[.int .i64 f.a, .int .i64 f.b])])
  case first =>
    have HALL : Hid (∀ W, Fr w W [(w.heap.size, 24, #[.int .i64 f.a, .int .i64 f.b])] → Fr w W [(w.heap.size, 24, #[.int .i64 f.a, .int .i64 f.b])] ∧ W.cell? ⟨w.heap.size, 0, none⟩ = some (.int .i64 f.a) ∧ W.cell? ⟨w.heap.size, 1, none⟩ = some (.int .i64 f.b)) := Lib.hid (fun W hW => ⟨hW, hW.top.cell 0, hW.top.cell 1⟩)
    have F10 : Fr w _ [(w.heap.size, 24, #[.int .i64 f.a, .int .i64 f.b])] := F1.out
    clear F1
    go_region_held3 (fun W => Fr w W [(w.heap.size, 24, #[.int .i64 f.a, .int .i64 f.b])] ∧ W.cell? ⟨w.heap.size, 0, none⟩ = some (.int .i64 f.a) ∧ W.cell? ⟨w.heap.size, 1, none⟩ = some (.int .i64 f.b))
      ((go_split_ands; refine HALL.out _ ?_; (first | assumption | (repeat (first | assumption | refine Fr.new ?_ _ | refine Fr.drew ?_ | (refine Fr.set ?_ (by first | exact Nat.le_refl _ | omega | (simp; done) | (simp; omega)) (by first | (simp; done) | (simp; omega)) _))); done)))
      ((first
        | (go_at_call 45; go_split_ands; (with_reducible refine (CopyVectors_any l g (by omega) HG.out _ (Fr.lies HA.out (by assumption))).mono ?_); rintro e w1 ⟨g2, rfl, hl2, hk2, hb1⟩; have HL2 := Lib.hid hl2; have F4 := Fr.call (by assumption) hb1; clear hb1 hl2 hk2)
        | (go_at_call 44; go_split_ands; (with_reducible refine (HEV.out _ _ _ (by exact HL2.out)).mono ?_); rintro e w1 ⟨rfl, hb1⟩; have F5 := Fr.call (by assumption) hb1; clear hb1)
        | fail "arm"))
    all_goals
      go_split_ands
      go_wp2_with fail
      go_meet
      exact ⟨rfl, rfl, by assumption⟩
  case rest =>
    obtain ⟨wx, rfl⟩ : ∃ W, W = wc := ⟨_, rfl⟩
    obtain ⟨rfl, rfl, hx⟩ := hcut
    have FC : Hid (Fr w _ [(w.heap.size, 24, #[.int .i64 f.a, .int .i64 f.b])]) := Lib.hid hx
    clear k0_0 k0_1 kf0 kg0 kz0 hx F1
    obtain ⟨k0_0, k0_1, kf0, kg0⟩ := (FC.out.get 0 rfl).two
    have kz0 := (FC.out.get 0 rfl).lt
    go_wp2_with fail
    refine (CurrentsErr_any l g.A g.c (by omega) _ (Fr.lies HA.out FC.out)).mono ?_
    rintro e w2 ⟨rfl, hb2⟩
    rw [HC.out]
    clear k0_0 k0_1 kf0 kg0 kz0
    have G2 := Fr.call FC.out hb2
    obtain ⟨k0_0, k0_1, kf0, kg0⟩ := (G2.get 0 rfl).two
    have kz0 := (G2.get 0 rfl).lt
    have F2 : Hid (Fr w _ [(w.heap.size, 24, #[.int .i64 f.a, .int .i64 f.b])]) := Lib.hid G2
    clear hb2 G2 FC
    go_wp2_with fail
    refine (VectorErr_any f _).mono ?_
    rintro e w3 ⟨rfl, hb3⟩
    rw [HVE.out]
    clear k0_0 k0_1 kf0 kg0 kz0
    have G3 := Fr.call F2.out hb3
    obtain ⟨k0_0, k0_1, kf0, kg0⟩ := (G3.get 0 rfl).two
    have kz0 := (G3.get 0 rfl).lt
    have F3 : Hid (Fr w _ [(w.heap.size, 24, #[.int .i64 f.a, .int .i64 f.b])]) := Lib.hid G3
    clear hb3 G3 F2
    go_wp2_with fail
    refine (HRE.out _ (Fr.lies HA.out F3.out)).mono ?_
    rintro e w4 ⟨rfl, hb4⟩
    clear k0_0 k0_1 kf0 kg0 kz0
    have G4 := Fr.call F3.out hb4
    obtain ⟨k0_0, k0_1, kf0, kg0⟩ := (G4.get 0 rfl).two
    have kz0 := (G4.get 0 rfl).lt
    have F4 : Hid (Fr w _ [(w.heap.size, 24, #[.int .i64 f.a, .int .i64 f.b])]) := Lib.hid G4
    clear hb4 G4 F3
    go_wp2_with fail
    go_ret
    exact ⟨rfl, F4.out.bl⟩

set_option maxHeartbeats 4000000 in
set_option maxRecDepth 100000 in
theorem StatorEven_any (l : List T3) (g : Hd) (hg : HdOk g) (hm : l.length ≤ maxLen) (f : T3) (w : World) (hT : Tab w) (hA : Lies w w.heap.size g.A (l.flatMap tc)) : Calls Tryd.prog 9 #[.slice g.A l.length g.c, (.agg #[.int .i64 f.a, .int .i64 f.b])] w fun e w' => e = .returned (.bool true) ∧ Below w.heap.size w w' := by
  by_cases hl : l.length ≤ 14
  · rcases cur_cases l with ⟨he, h0, h1, hx⟩ | he
    · cases hf : okT f with
      | false => exact StatorEven_flux l g hg f hl he hf w hT hA
      | true => exact StatorEven_ok l g hg f hl he h0 h1 hx hf w hT hA
    · exact StatorEven_cur l g hg f hl _ rfl he w hT hA
  · unfold maxLen at hm
    have F0 := Lib.hid (Fr.b1 w 24 #[.int .i64 f.a, .int .i64 f.b])
    have T0 := Lib.hid (hT.new (.cells #[.int .i64 f.a, .int .i64 f.b] 24))
    have gl : ¬ (l.length : Int) ≤ 14 := by omega
    clear hT
    go_enter Tryd.func9, Tryd.ntmps9
    go_wp2_with fail
    refine (awake_any _ T0.out).mono ?_
    rintro e w1 ⟨rfl, hb1⟩
    have G1 := Fr.call F0.out hb1
    have F1 := Lib.hid G1
    clear hb1 G1 F0
    go_wp2_with fail
    go_ret
    exact ⟨rfl, F1.out.bl⟩
end Go.Proofs.YtemjefhfplaibaaDoor
