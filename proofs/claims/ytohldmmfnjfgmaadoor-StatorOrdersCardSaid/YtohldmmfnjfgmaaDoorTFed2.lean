
/-
  The walks of checkFed.
-/
import Derived.Test.YtohldmmfnjfgmaaDoorTFed
namespace Go.Proofs.YtohldmmfnjfgmaaDoor
open Go.RowKit

/-- The error of a track, a train on it, and a feed without its move. -/
def fedE (ls : List Int) (p len : Int) (cs : List T3) (fl : T3) : Int := if plcE ls p len ≠ 0 then plcE ls p len else if cs.length ≠ ls.length then 10 else if vsE cs ≠ 0 then vsE cs else vE fl
structure Fed (ls : List Int) (p len : Int) (cs : List T3) (fl : T3) : Prop where
  q : Plc ls p len
  n : cs.length = ls.length
  c : ∀ x ∈ cs, okT x = true
  f : okT fl = true
theorem vE_zero {v : T3} (h : vE v = 0) : okT v = true := by
  cases hv : okT v with
  | true => rfl
  | false => rw [vE_bad hv] at h; cases h
theorem fed_of {ls : List Int} {p len : Int} {cs : List T3} {fl : T3} (h : fedE ls p len cs fl = 0) : Fed ls p len cs fl := by
  unfold fedE at h
  split at h
  · contradiction
  · rename_i h1
    split at h
    · cases h
    · rename_i h2
      split at h
      · contradiction
      · rename_i h3
        exact ⟨plc_of (by simpa using h1), by simpa using h2, vsE_iff.1 (by simpa using h3), vE_zero h⟩

set_option maxHeartbeats 4000000 in
theorem checkFed_ok (ls : List Int) (A : Option Addr) (c : Nat) (p len : Int) (cs : List T3) (C : Option Addr) (d : Nat) (fl : T3) (mv : Int) (hf : Fed ls p len cs fl) (w : World) (hA : Lies w w.heap.size A (ic ls)) (hC : Lies w w.heap.size C (cs.flatMap tc)) :
    Calls Tryd.prog 79 #[.agg #[.slice A ls.length c], .agg #[.int .i64 p, .int .i64 len], .agg #[.slice C cs.length d, .int .i64 fl.a, .int .i64 fl.b, .int .i64 mv]] w fun e w' => e = .returned (.tuple #[.agg #[.slice A ls.length c, .int .i64 (begV ls ls.length)], .int .i64 0]) ∧ Below w.heap.size w w' := by
  have F0 := Lib.hid (Fr.b4 w 92 #[.slice A ls.length c] 96 #[.int .i64 p, .int .i64 len] 98 #[.slice C cs.length d, .int .i64 fl.a, .int .i64 fl.b, .int .i64 mv] 123 #[.slice none 0 0, .int .i64 0])
  have HA := Lib.hid (Lies.new (Lies.new (Lies.new (Lies.new hA (.cells #[.slice A ls.length c] 92)) (.cells #[.int .i64 p, .int .i64 len] 96)) (.cells #[.slice C cs.length d, .int .i64 fl.a, .int .i64 fl.b, .int .i64 mv] 98)) (.cells #[.slice none 0 0, .int .i64 0] 123))
  have HC := Lib.hid (Lies.new (Lies.new (Lies.new (Lies.new hC (.cells #[.slice A ls.length c] 92)) (.cells #[.int .i64 p, .int .i64 len] 96)) (.cells #[.slice C cs.length d, .int .i64 fl.a, .int .i64 fl.b, .int .i64 mv] 98)) (.cells #[.slice none 0 0, .int .i64 0] 123))
  clear hA hC
  have HP := Lib.hid hf.q
  have HV : Hid (vsE cs = 0) := Lib.hid (vsE_iff.2 hf.c)
  have HF : Hid (vE fl = 0) := Lib.hid (vE_ok hf.f)
  have hn : ((cs.length : Int) != ls.length) = false := by rw [hf.n]; simp
  have hn2 : (cs.length : Int) ≤ 12 := by have := hf.n; have := hf.q.n1; omega
  clear hf
  go_enter Tryd.func79, Tryd.ntmps79
  go_wp2_with fail
  refine (checkPlaced_ok ls A c p len HP.out _ HA.out).mono ?_
  rintro e w1 ⟨rfl, hb1⟩
  have F1 := Lib.hid (Fr.new (F0.out.call hb1) (.cells #[.slice A ls.length c, .int .i64 (begV ls ls.length)] 123))
  have N1 := Lib.hid (Bk.new w1 123 #[.slice A ls.length c, .int .i64 (begV ls ls.length)])
  have HC1 := Lib.hid (Lies.new (Lies.call HC.out hb1) (.cells #[.slice A ls.length c, .int .i64 (begV ls ls.length)] 123))
  have B1 := Lib.hid (F0.out.call hb1).bl
  have z1 := (F0.out.call hb1).top.lt
  have z2 := (F0.out.call hb1).at1.lt
  have z3 := (F0.out.call hb1).at2.lt
  have z4 := (F0.out.call hb1).at3.lt
  obtain ⟨d0, d1, f0, f1⟩ := (F0.out.call hb1).top.two
  obtain ⟨x0, x1, x2, x3⟩ := (F0.out.call hb1).at1.four
  clear hb1 HA HC
  go_wp2_with fail
  refine (checkVectors_any cs C d (by unfold maxLen; omega) _ HC1.out).mono ?_
  rintro e w2 ⟨rfl, hb2⟩
  have F2 := Lib.hid (F1.out.call hb2)
  have N2 := Lib.hid (N1.out.call hb2)
  clear d0 d1 f0 f1 x0 x1 x2 x3 z1 z2 z3 z4 hb2 F1 N1
  obtain ⟨d0, d1, f0, f1⟩ := F2.out.top.two
  obtain ⟨x0, x1, x2, x3⟩ := F2.out.at1.four
  rw [HV.out]
  go_wp2_with fail
  refine (checkVector_any fl _).mono ?_
  rintro e w3 ⟨rfl, hb3⟩
  have F3 := Lib.hid (F2.out.call hb3)
  have N3 := Lib.hid (N2.out.call hb3)
  clear d0 d1 f0 f1 x0 x1 x2 x3 hb3 F2 N2
  obtain ⟨d0, d1, f0, f1⟩ := F3.out.top.two
  obtain ⟨n0, n1, _, _⟩ := N3.out.two
  rw [HF.out]
  go_wp2_with fail
  exact bodyPost_ret (v := .tuple #[.agg #[.slice A ls.length c, .int .i64 (begV ls ls.length)], .int .i64 0]) (by simp [results, Tryd.results79, go_sem, d0, d1]) rfl ⟨rfl, (by repeat (first | exact F3.out.bl | refine Below.drew ?_ | refine Below.setCell ?_ (by first | (simp; done) | (simp; omega) | omega) _ | refine Below.alloc ?_ (by first | (simp; done) | (simp; omega) | omega) _ | exact Below.refl _ _))⟩

set_option maxHeartbeats 8000000 in
theorem checkFed_bad (ls : List Int) (A : Option Addr) (c : Nat) (p len : Int) (cs : List T3) (C : Option Addr) (d : Nat) (fl : T3) (mv : Int) (hl : ls.length ≤ maxLen) (hl2 : cs.length ≤ 1000) (er : Int) (he : fedE ls p len cs fl = er) (hr : er ≠ 0) (w : World) (hA : Lies w w.heap.size A (ic ls)) (hC : Lies w w.heap.size C (cs.flatMap tc)) :
    Calls Tryd.prog 79 #[.agg #[.slice A ls.length c], .agg #[.int .i64 p, .int .i64 len], .agg #[.slice C cs.length d, .int .i64 fl.a, .int .i64 fl.b, .int .i64 mv]] w fun e w' => e = .returned (.tuple #[.agg #[.slice none 0 0, .int .i64 0], .int .i64 er]) ∧ Below w.heap.size w w' := by
  have F0 := Lib.hid (Fr.b4 w 92 #[.slice A ls.length c] 96 #[.int .i64 p, .int .i64 len] 98 #[.slice C cs.length d, .int .i64 fl.a, .int .i64 fl.b, .int .i64 mv] 123 #[.slice none 0 0, .int .i64 0])
  have HA := Lib.hid (Lies.new (Lies.new (Lies.new (Lies.new hA (.cells #[.slice A ls.length c] 92)) (.cells #[.int .i64 p, .int .i64 len] 96)) (.cells #[.slice C cs.length d, .int .i64 fl.a, .int .i64 fl.b, .int .i64 mv] 98)) (.cells #[.slice none 0 0, .int .i64 0] 123))
  have HC := Lib.hid (Lies.new (Lies.new (Lies.new (Lies.new hC (.cells #[.slice A ls.length c] 92)) (.cells #[.int .i64 p, .int .i64 len] 96)) (.cells #[.slice C cs.length d, .int .i64 fl.a, .int .i64 fl.b, .int .i64 mv] 98)) (.cells #[.slice none 0 0, .int .i64 0] 123))
  clear hA hC
  have hl3 : (cs.length : Int) ≤ 1000 := by omega
  by_cases h1 : plcE ls p len = 0
  · have HP := Lib.hid (plc_of h1)
    have hl4 : (ls.length : Int) ≤ 12 := by have := HP.out.n1; omega
    by_cases h2 : cs.length = ls.length
    · have hn : ((cs.length : Int) != ls.length) = false := by rw [h2]; simp
      by_cases h3 : vsE cs = 0
      · have h5 : er = vE fl := by rw [← he]; unfold fedE; rw [if_neg (by simp [h1]), if_neg (by simp [h2]), if_neg (by simp [h3])]
        have HV := Lib.hid h3
        have HF := Lib.hid h5.symm
        have ge : (er != 0) = true := by simp [hr]
        clear he hr h1 h2 h3 h5
        go_enter Tryd.func79, Tryd.ntmps79
        go_wp2_with fail
        refine (checkPlaced_ok ls A c p len HP.out _ HA.out).mono ?_
        rintro e w1 ⟨rfl, hb1⟩
        have F1 := Lib.hid (Fr.new (F0.out.call hb1) (.cells #[.slice A ls.length c, .int .i64 (begV ls ls.length)] 123))
        have N1 := Lib.hid (Bk.new w1 123 #[.slice A ls.length c, .int .i64 (begV ls ls.length)])
        have HC1 := Lib.hid (Lies.new (Lies.call HC.out hb1) (.cells #[.slice A ls.length c, .int .i64 (begV ls ls.length)] 123))
        have B1 := Lib.hid (F0.out.call hb1).bl
        have z1 := (F0.out.call hb1).top.lt
        have z2 := (F0.out.call hb1).at1.lt
        have z3 := (F0.out.call hb1).at2.lt
        have z4 := (F0.out.call hb1).at3.lt
        obtain ⟨d0, d1, f0, f1⟩ := (F0.out.call hb1).top.two
        obtain ⟨x0, x1, x2, x3⟩ := (F0.out.call hb1).at1.four
        clear hb1 HA HC
        go_wp2_with fail
        refine (checkVectors_any cs C d (by unfold maxLen; omega) _ HC1.out).mono ?_
        rintro e w2 ⟨rfl, hb2⟩
        have F2 := Lib.hid (F1.out.call hb2)
        have N2 := Lib.hid (N1.out.call hb2)
        clear d0 d1 f0 f1 x0 x1 x2 x3 z1 z2 z3 z4 hb2 F1 N1
        obtain ⟨d0, d1, f0, f1⟩ := F2.out.top.two
        obtain ⟨x0, x1, x2, x3⟩ := F2.out.at1.four
        rw [HV.out]
        go_wp2_with fail
        refine (checkVector_any fl _).mono ?_
        rintro e w3 ⟨rfl, hb3⟩
        have F3 := Lib.hid (F2.out.call hb3)
        have N3 := Lib.hid (N2.out.call hb3)
        clear d0 d1 f0 f1 x0 x1 x2 x3 hb3 F2 N2
        obtain ⟨d0, d1, f0, f1⟩ := F3.out.top.two
        obtain ⟨n0, n1, _, _⟩ := N3.out.two
        rw [HF.out]
        go_wp2_with fail
        exact bodyPost_ret (v := .tuple #[.agg #[.slice none 0 0, .int .i64 0], .int .i64 er]) (by simp [results, Tryd.results79, go_sem, d0, d1]) rfl ⟨rfl, (by repeat (first | exact F3.out.bl | refine Below.drew ?_ | refine Below.setCell ?_ (by first | (simp; done) | (simp; omega) | omega) _ | refine Below.alloc ?_ (by first | (simp; done) | (simp; omega) | omega) _ | exact Below.refl _ _))⟩
      · have h5 : er = vsE cs := by rw [← he]; unfold fedE; rw [if_neg (by simp [h1]), if_neg (by simp [h2]), if_pos h3]
        have HV := Lib.hid h5.symm
        have ge : (er != 0) = true := by simp [hr]
        clear he hr h1 h2 h3 h5
        go_enter Tryd.func79, Tryd.ntmps79
        go_wp2_with fail
        refine (checkPlaced_ok ls A c p len HP.out _ HA.out).mono ?_
        rintro e w1 ⟨rfl, hb1⟩
        have F1 := Lib.hid (Fr.new (F0.out.call hb1) (.cells #[.slice A ls.length c, .int .i64 (begV ls ls.length)] 123))
        have N1 := Lib.hid (Bk.new w1 123 #[.slice A ls.length c, .int .i64 (begV ls ls.length)])
        have HC1 := Lib.hid (Lies.new (Lies.call HC.out hb1) (.cells #[.slice A ls.length c, .int .i64 (begV ls ls.length)] 123))
        have B1 := Lib.hid (F0.out.call hb1).bl
        have z1 := (F0.out.call hb1).top.lt
        have z2 := (F0.out.call hb1).at1.lt
        have z3 := (F0.out.call hb1).at2.lt
        have z4 := (F0.out.call hb1).at3.lt
        obtain ⟨d0, d1, f0, f1⟩ := (F0.out.call hb1).top.two
        obtain ⟨x0, x1, x2, x3⟩ := (F0.out.call hb1).at1.four
        clear hb1 HA HC
        go_wp2_with fail
        refine (checkVectors_any cs C d (by unfold maxLen; omega) _ HC1.out).mono ?_
        rintro e w2 ⟨rfl, hb2⟩
        have F2 := Lib.hid (F1.out.call hb2)
        have N2 := Lib.hid (N1.out.call hb2)
        clear d0 d1 f0 f1 x0 x1 x2 x3 z1 z2 z3 z4 hb2 F1 N1
        obtain ⟨d0, d1, f0, f1⟩ := F2.out.top.two
        obtain ⟨x0, x1, x2, x3⟩ := F2.out.at1.four
        rw [HV.out]
        go_wp2_with fail
        exact bodyPost_ret (v := .tuple #[.agg #[.slice none 0 0, .int .i64 0], .int .i64 er]) (by simp [results, Tryd.results79, go_sem, d0, d1]) rfl ⟨rfl, (by repeat (first | exact F2.out.bl | refine Below.drew ?_ | refine Below.setCell ?_ (by first | (simp; done) | (simp; omega) | omega) _ | refine Below.alloc ?_ (by first | (simp; done) | (simp; omega) | omega) _ | exact Below.refl _ _))⟩
    · have h5 : er = 10 := by rw [← he]; unfold fedE; rw [if_neg (by simp [h1]), if_pos h2]
      subst h5
      have hn : ((cs.length : Int) != ls.length) = true := by simp; omega
      clear he hr h1 h2
      go_enter Tryd.func79, Tryd.ntmps79
      go_wp2_with fail
      refine (checkPlaced_ok ls A c p len HP.out _ HA.out).mono ?_
      rintro e w1 ⟨rfl, hb1⟩
      have F1 := Lib.hid (Fr.new (F0.out.call hb1) (.cells #[.slice A ls.length c, .int .i64 (begV ls ls.length)] 123))
      have N1 := Lib.hid (Bk.new w1 123 #[.slice A ls.length c, .int .i64 (begV ls ls.length)])
      have HC1 := Lib.hid (Lies.new (Lies.call HC.out hb1) (.cells #[.slice A ls.length c, .int .i64 (begV ls ls.length)] 123))
      have B1 := Lib.hid (F0.out.call hb1).bl
      have z1 := (F0.out.call hb1).top.lt
      have z2 := (F0.out.call hb1).at1.lt
      have z3 := (F0.out.call hb1).at2.lt
      have z4 := (F0.out.call hb1).at3.lt
      obtain ⟨d0, d1, f0, f1⟩ := (F0.out.call hb1).top.two
      obtain ⟨x0, x1, x2, x3⟩ := (F0.out.call hb1).at1.four
      clear hb1 HA HC
      go_wp2_with fail
      exact bodyPost_ret (v := .tuple #[.agg #[.slice none 0 0, .int .i64 0], .int .i64 10]) (by simp [results, Tryd.results79, go_sem, d0, d1, z1, Nat.ne_of_lt z1]) rfl ⟨rfl, (by repeat (first | exact B1.out | refine Below.drew ?_ | refine Below.setCell ?_ (by first | (simp; done) | (simp; omega) | omega) _ | refine Below.alloc ?_ (by first | (simp; done) | (simp; omega) | omega) _ | exact Below.refl _ _))⟩
  · have h5 : er = plcE ls p len := by rw [← he]; unfold fedE; rw [if_pos h1]
    have HE := Lib.hid h5.symm
    have HR := Lib.hid hr
    have ge : (er != 0) = true := by simp [hr]
    clear he hr h1 h5
    go_enter Tryd.func79, Tryd.ntmps79
    go_wp2_with fail
    refine (checkPlaced_bad ls A c hl p len er HE.out HR.out _ HA.out).mono ?_
    rintro e w1 ⟨rfl, hb1⟩
    have F1 := Lib.hid (F0.out.call hb1)
    have z1 := F1.out.top.lt
    obtain ⟨d0, d1, f0, f1⟩ := F1.out.top.two
    clear hb1 F0 HA HC
    go_wp2_with fail
    exact bodyPost_ret (v := .tuple #[.agg #[.slice none 0 0, .int .i64 0], .int .i64 er]) (by simp [results, Tryd.results79, go_sem, d0, d1, z1, Nat.ne_of_lt z1]) rfl ⟨rfl, (by repeat (first | exact F1.out.bl | refine Below.drew ?_ | refine Below.setCell ?_ (by first | (simp; done) | (simp; omega) | omega) _ | refine Below.alloc ?_ (by first | (simp; done) | (simp; omega) | omega) _ | exact Below.refl _ _))⟩
end Go.Proofs.YtohldmmfnjfgmaaDoor
