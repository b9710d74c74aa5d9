
/-
  The walks of checkPlaced and checkFed.
-/
import Derived.Test.YtohldmmfnjfgmaaDoorTPla
import Derived.Test.YtohldmmfnjfgmaaDoorTChk2
namespace Go.Proofs.YtohldmmfnjfgmaaDoor
open Go.RowKit

set_option maxHeartbeats 2000000 in
theorem checkPlaced_ok (ls : List Int) (A : Option Addr) (c : Nat) (p len : Int) (hp : Plc ls p len) (w : World) (hA : Lies w w.heap.size A (ic ls)) :
    Calls Tryd.prog 90 #[.agg #[.slice A ls.length c], .agg #[.int .i64 p, .int .i64 len]] w fun e w' => e = .returned (.tuple #[.agg #[.slice A ls.length c, .int .i64 (begV ls ls.length)], .int .i64 0]) ∧ Below w.heap.size w w' := by
  have F0 := Lib.hid (Fr.b3 w 92 #[.slice A ls.length c] 96 #[.int .i64 p, .int .i64 len] 123 #[.slice none 0 0, .int .i64 0])
  have HA := Lib.hid (Lies.new (Lies.new (Lies.new hA (.cells #[.slice A ls.length c] 92)) (.cells #[.int .i64 p, .int .i64 len] 96)) (.cells #[.slice none 0 0, .int .i64 0] 123))
  have HP := Lib.hid hp
  have hw : Hid (inB len 1 1000000 = true) := Lib.hid (inB_iff.2 ⟨hp.l0, hp.l1⟩)
  have hq : Hid (decide (p ≤ begV ls ls.length - len - 0) = true) := Lib.hid (by have := hp.p1; simp; omega)
  have hp0 : ¬ p < 0 := by have := hp.p0; omega
  clear hA hp
  go_enter Tryd.func90, Tryd.ntmps90
  go_wp2_with fail
  refine (check_ok ls A c HP.out.n0 HP.out.n1 HP.out.x _ HA.out).mono ?_
  rintro e w1 ⟨rfl, hb1⟩
  have F1 := Lib.hid (F0.out.call hb1)
  have z1 := F1.out.top.lt
  have z2 := F1.out.at1.lt
  have z3 := F1.out.at2.lt
  obtain ⟨c0, c1, _, _⟩ := F1.out.at1.two
  obtain ⟨d0, d1, f0, f1⟩ := F1.out.top.two
  clear hb1 F0 HA
  go_wp2_with (go_at_call 60; refine (within_any _ _ _ _).mono ?_; rintro e w' ⟨rfl, rfl⟩; rw [hw.out])
  refine (holds_any A ls.length c (begV ls ls.length) p len 0 (begV_bound HP.out.x _ (by have := HP.out.n1; omega)) ⟨HP.out.l0, HP.out.l1⟩ (by omega) _).mono ?_
  rintro e w2 ⟨rfl, hb2⟩
  rw [hq.out]
  have F2 := Lib.hid (Fr.call (F1.out.new (.cells #[.slice A ls.length c, .int .i64 (begV ls ls.length)] 123)) hb2)
  have N2 := Lib.hid ((Bk.new w1 123 #[.slice A ls.length c, .int .i64 (begV ls ls.length)]).call hb2)
  clear c0 c1 d0 d1 f0 f1 z1 z2 z3
  obtain ⟨n0, n1, _, _⟩ := N2.out.two
  obtain ⟨d0, d1, f0, f1⟩ := F2.out.top.two
  clear hb2 F1
  go_wp2_with fail
  exact bodyPost_ret (v := .tuple #[.agg #[.slice A ls.length c, .int .i64 (begV ls ls.length)], .int .i64 0]) (by simp [results, Tryd.results90, go_sem, d0, d1]) rfl ⟨rfl, (by repeat (first | exact F2.out.bl | refine Below.drew ?_ | refine Below.setCell ?_ (by first | (simp; done) | (simp; omega) | omega) _ | refine Below.alloc ?_ (by first | (simp; done) | (simp; omega) | omega) _ | exact Below.refl _ _))⟩

set_option maxHeartbeats 4000000 in
theorem checkPlaced_bad (ls : List Int) (A : Option Addr) (c : Nat) (hl : ls.length ≤ maxLen) (p len er : Int) (he : plcE ls p len = er) (hr : er ≠ 0) (w : World) (hA : Lies w w.heap.size A (ic ls)) :
    Calls Tryd.prog 90 #[.agg #[.slice A ls.length c], .agg #[.int .i64 p, .int .i64 len]] w fun e w' => e = .returned (.tuple #[.agg #[.slice none 0 0, .int .i64 0], .int .i64 er]) ∧ Below w.heap.size w w' := by
  have F0 := Lib.hid (Fr.b3 w 92 #[.slice A ls.length c] 96 #[.int .i64 p, .int .i64 len] 123 #[.slice none 0 0, .int .i64 0])
  have HA := Lib.hid (Lies.new (Lies.new (Lies.new hA (.cells #[.slice A ls.length c] 92)) (.cells #[.int .i64 p, .int .i64 len] 96)) (.cells #[.slice none 0 0, .int .i64 0] 123))
  rcases trk_cases ls with ⟨h1, h2, h3, h4⟩ | h1
  · have HX := Lib.hid h4
    have hl12 : (ls.length : Int) ≤ 12 := by omega
    cases hw : inB len 1 1000000 with
    | false =>
      have h5 : er = 2 := by rw [← he]; unfold plcE; rw [h1, if_neg (by simp), if_pos (Or.inl hw)]
      subst h5
      have HW := Lib.hid hw
      clear he hr hw hA h4 h1
      go_enter Tryd.func90, Tryd.ntmps90
      go_wp2_with fail
      refine (check_ok ls A c h2 h3 HX.out _ HA.out).mono ?_
      rintro e w1 ⟨rfl, hb1⟩
      have F1 := Lib.hid (F0.out.call hb1)
      have z1 := F1.out.top.lt
      have z2 := F1.out.at1.lt
      obtain ⟨c0, c1, _, _⟩ := F1.out.at1.two
      obtain ⟨d0, d1, f0, f1⟩ := F1.out.top.two
      clear hb1 F0 HA
      go_wp2_with (go_at_call 60; refine (within_any _ _ _ _).mono ?_; rintro e w' ⟨rfl, rfl⟩; rw [HW.out])
      exact bodyPost_ret (v := .tuple #[.agg #[.slice none 0 0, .int .i64 0], .int .i64 2]) (by simp [results, Tryd.results90, go_sem, d0, d1, z1, Nat.ne_of_lt z1]) rfl ⟨rfl, (by repeat (first | exact F1.out.bl | refine Below.drew ?_ | refine Below.setCell ?_ (by first | (simp; done) | (simp; omega) | omega) _ | refine Below.alloc ?_ (by first | (simp; done) | (simp; omega) | omega) _ | exact Below.refl _ _))⟩
    | true =>
      have HW := Lib.hid hw
      obtain ⟨l0, l1⟩ := inB_iff.1 hw
      by_cases hp0 : p < 0
      · have h5 : er = 2 := by rw [← he]; unfold plcE; rw [h1, if_neg (by simp), if_pos (Or.inr hp0)]
        subst h5
        clear he hr hw hA h4 h1
        go_enter Tryd.func90, Tryd.ntmps90
        go_wp2_with fail
        refine (check_ok ls A c h2 h3 HX.out _ HA.out).mono ?_
        rintro e w1 ⟨rfl, hb1⟩
        have F1 := Lib.hid (F0.out.call hb1)
        have z1 := F1.out.top.lt
        have z2 := F1.out.at1.lt
        obtain ⟨c0, c1, _, _⟩ := F1.out.at1.two
        obtain ⟨d0, d1, f0, f1⟩ := F1.out.top.two
        clear hb1 F0 HA
        go_wp2_with (go_at_call 60; refine (within_any _ _ _ _).mono ?_; rintro e w' ⟨rfl, rfl⟩; rw [HW.out])
        exact bodyPost_ret (v := .tuple #[.agg #[.slice none 0 0, .int .i64 0], .int .i64 2]) (by simp [results, Tryd.results90, go_sem, d0, d1, z1, Nat.ne_of_lt z1]) rfl ⟨rfl, (by repeat (first | exact F1.out.bl | refine Below.drew ?_ | refine Below.setCell ?_ (by first | (simp; done) | (simp; omega) | omega) _ | refine Below.alloc ?_ (by first | (simp; done) | (simp; omega) | omega) _ | exact Below.refl _ _))⟩
      · have h6 : er = if p ≤ begV ls ls.length - len then 0 else 23 := by
          rw [← he]; unfold plcE; rw [h1, if_neg (by simp), if_neg (by rw [hw]; simp; omega)]
        have h7 : ¬ p ≤ begV ls ls.length - len := fun h => hr (by rw [h6, if_pos h])
        have h5 : er = 23 := by rw [h6, if_neg h7]
        subst h5
        have hq : Hid (decide (p ≤ begV ls ls.length - len - 0) = false) := Lib.hid (by simp; omega)
        clear he hr hw hA h4 h1 h6 h7
        go_enter Tryd.func90, Tryd.ntmps90
        go_wp2_with fail
        refine (check_ok ls A c h2 h3 HX.out _ HA.out).mono ?_
        rintro e w1 ⟨rfl, hb1⟩
        have F1 := Lib.hid (F0.out.call hb1)
        have z1 := F1.out.top.lt
        have z2 := F1.out.at1.lt
        have z3 := F1.out.at2.lt
        obtain ⟨c0, c1, _, _⟩ := F1.out.at1.two
        obtain ⟨d0, d1, f0, f1⟩ := F1.out.top.two
        clear hb1 F0 HA
        go_wp2_with (go_at_call 60; refine (within_any _ _ _ _).mono ?_; rintro e w' ⟨rfl, rfl⟩; rw [HW.out])
        refine (holds_any A ls.length c (begV ls ls.length) p len 0 (begV_bound HX.out _ (by omega)) ⟨l0, l1⟩ (by omega) _).mono ?_
        rintro e w2 ⟨rfl, hb2⟩
        rw [hq.out]
        have F2 := Lib.hid (Fr.call (F1.out.new (.cells #[.slice A ls.length c, .int .i64 (begV ls ls.length)] 123)) hb2)
        clear c0 c1 d0 d1 f0 f1 z1 z2 z3
        obtain ⟨d0, d1, f0, f1⟩ := F2.out.top.two
        clear hb2 F1
        go_wp2_with fail
        exact bodyPost_ret (v := .tuple #[.agg #[.slice none 0 0, .int .i64 0], .int .i64 23]) (by simp [results, Tryd.results90, go_sem, d0, d1]) rfl ⟨rfl, (by repeat (first | exact F2.out.bl | refine Below.drew ?_ | refine Below.setCell ?_ (by first | (simp; done) | (simp; omega) | omega) _ | refine Below.alloc ?_ (by first | (simp; done) | (simp; omega) | omega) _ | exact Below.refl _ _))⟩
  · have h5 : er = (trkE ls).2 := by rw [← he]; unfold plcE; rw [if_pos h1]
    have HE := Lib.hid h5.symm
    have HR := Lib.hid hr
    have ge : (er != 0) = true := by simp [hr]
    clear h5 he hr hA h1
    go_enter Tryd.func90, Tryd.ntmps90
    go_wp2_with fail
    refine (check_bad ls A c hl er HE.out HR.out _ HA.out).mono ?_
    rintro e w1 ⟨rfl, hb1⟩
    have F1 := Lib.hid (F0.out.call hb1)
    have z1 := F1.out.top.lt
    obtain ⟨d0, d1, f0, f1⟩ := F1.out.top.two
    clear hb1 F0 HA
    go_wp2_with fail
    exact bodyPost_ret (v := .tuple #[.agg #[.slice none 0 0, .int .i64 0], .int .i64 er]) (by simp [results, Tryd.results90, go_sem, d0, d1, z1, Nat.ne_of_lt z1]) rfl ⟨rfl, (by repeat (first | exact F1.out.bl | refine Below.drew ?_ | refine Below.setCell ?_ (by first | (simp; done) | (simp; omega) | omega) _ | refine Below.alloc ?_ (by first | (simp; done) | (simp; omega) | omega) _ | exact Below.refl _ _))⟩
end Go.Proofs.YtohldmmfnjfgmaaDoor
