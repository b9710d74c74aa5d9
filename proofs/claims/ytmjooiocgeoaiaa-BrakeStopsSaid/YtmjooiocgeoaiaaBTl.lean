
/-
  The walk of BrakeStops.
-/
import Derived.Test.YtmjooiocgeoaiaaBKit
import Derived.Test.YtmjooiocgeoaiaaBStO
import Derived.Test.YtmjooiocgeoaiaaBGr
import Derived.Test.YtmjooiocgeoaiaaBGq
namespace Go.Proofs.Ytmjooiocgeoaiaa
open Go.RowKit
theorem st_bad (s : ByteArray) (hs : s.size ≤ maxLen) (ps : List Bp) (hl : ps.length ≤ 1000) (b : Bs) (p sq er : Int) (he : nz ((trE s ps).2 :: sE b :: [stateE ps p sq]) = er) (hr : er ≠ 0) : (∀ (A' : Option Addr) (c' : Nat) (W : World), Lies W W.heap.size A' (ps.flatMap pc) → Calls Try.prog 9 #[.agg #[.string s, .slice A' ps.length c'], .agg #[.int .i64 b.brk, .int .i64 b.drag, .int .i64 b.drv], .agg #[.int .i64 p, .int .i64 sq]] W fun e w' => ∃ g : Hd, e = .returned (.tuple #[.slice g.A 0 g.c, .int .i64 er]) ∧ Lies w' w'.heap.size g.A (ic []) ∧ Below W.heap.size W w') := fun A' c' W h =>
  (StopsOf_bad s hs ps A' c' hl b p sq er he hr W h).mono fun _ _ h => ⟨⟨none, 0⟩, h.1, Lies.nil, h.2⟩
theorem st_ok (s : ByteArray) (hs : s.size ≤ maxLen) (ps : List Bp) (hl : ps.length ≤ 1000) (b : Bs) (hok : OkT s ps) (hb : OkS b) (hsb : sE b = 0) (p : Nat) (hp : p ≤ ps.length) (sq : Int) (hq : 0 ≤ sq ∧ sq ≤ 20000000000) (NL : Nat) (hn : (stV ps b p sq ps.length).length = NL) : (∀ (A' : Option Addr) (c' : Nat) (W : World), Lies W W.heap.size A' (ps.flatMap pc) → Calls Try.prog 9 #[.agg #[.string s, .slice A' ps.length c'], .agg #[.int .i64 b.brk, .int .i64 b.drag, .int .i64 b.drv], .agg #[.int .i64 (p : Int), .int .i64 sq]] W fun e w' => ∃ g : Hd, e = .returned (.tuple #[.slice g.A NL g.c, .int .i64 0]) ∧ Lies w' w'.heap.size g.A (ic (stV ps b p sq ps.length)) ∧ Below W.heap.size W w') := fun A' c' W h => by
  obtain ⟨a', rfl⟩ := ps_some h hok.n0
  rw [← hn]
  exact StopsOf_ok s hs ps a' c' hl b hok hb hsb p hp sq hq W h
theorem gr_ok (s : ByteArray) (hs : s.size ≤ maxLen) (ps : List Bp) (hl : ps.length ≤ 1000) (b : Bs) (hok : OkT s ps) (hb : OkS b) (hsb : sE b = 0) (p : Nat) (hp : p ≤ ps.length) (m : Int) (hm : gtS ps b p ps.length = m) (n f : Int) (hr : gtR m = #[.int .i64 n, .int .i64 f]) : (∀ (A' : Option Addr) (c' : Nat) (W : World), Lies W W.heap.size A' (ps.flatMap pc) → Calls Try.prog 11 #[.agg #[.string s, .slice A' ps.length c'], .agg #[.int .i64 b.brk, .int .i64 b.drag, .int .i64 b.drv], .int .i64 (p : Int)] W fun e w' => e = .returned (.tuple #[.int .i64 n, .int .i64 f]) ∧ Below W.heap.size W w') := fun A' c' W h => by
  obtain ⟨a', rfl⟩ := ps_some h hok.n0
  have := GreatestAt_ok s hs ps a' c' hl b hok hb hsb p hp W h
  rw [hm, hr] at this
  exact this
theorem postE_in {ps : List Bp} {p : Nat} (h : p ≤ ps.length) : inB (p : Int) 0 ps.length = true := inB_iff.2 ⟨by omega, by omega⟩

set_option maxHeartbeats 8000000 in
set_option maxRecDepth 100000 in
theorem st_long (s : ByteArray) (hs : s.size ≤ maxLen) (ps : List Bp) (A : Option Addr) (c : Nat) (hg : HdOk ⟨A, c⟩) (hl : ps.length ≤ maxLen) (b : Bs) (p : Int) (sq : Int) (hsh : shortB s ps = false) (w : World) (hA : Lies w w.heap.size A (ps.flatMap pc)) : Calls Try.prog 3 #[.agg #[.string s, .slice A ps.length c], .agg #[.int .i64 b.brk, .int .i64 b.drag, .int .i64 b.drv], .agg #[.int .i64 p, .int .i64 sq]] w fun e w' => e = .returned (.bool true) ∧ Below w.heap.size w w' := by
  have F0 := Lib.hid (Fr.b3 w 24 #[.string s, .slice A ps.length c] 26 #[.int .i64 b.brk, .int .i64 b.drag, .int .i64 b.drv] 28 #[.int .i64 p, .int .i64 sq])
  have HA := Lib.hid hA
  have HG := Lib.hid hg
  clear hA hg
  have HSH := Lib.hid hsh
  clear hsh
  go_enter Try.func3, Try.ntmps3
  go_wp2_with fail
  refine (awake_any _).mono ?_
  rintro e w1 ⟨rfl, hb1⟩
  have G1 := Fr.call F0.out hb1
  obtain ⟨k0_0, k0_1, kf0, kg0⟩ := (G1.get 2 rfl).two
  have kz0 := (G1.get 2 rfl).lt
  obtain ⟨k1_0, k1_1, k1_2⟩ := (G1.get 1 rfl).three
  have kz1 := (G1.get 1 rfl).lt
  obtain ⟨k2_0, k2_1, kf2, kg2⟩ := (G1.get 0 rfl).two
  have kz2 := (G1.get 0 rfl).lt
  have F1 : Hid (Fr w _ [(w.heap.size + 1 + 1, 28, #[.int .i64 p, .int .i64 sq]), (w.heap.size + 1, 26, #[.int .i64 b.brk, .int .i64 b.drag, .int .i64 b.drv]), (w.heap.size, 24, #[.string s, .slice A ps.length c])]) := Lib.hid G1
  clear hb1 G1 F0
  go_wp2_with fail
  refine (Short_any s hs ps A c hl _).mono ?_
  rintro e w2 ⟨rfl, hb2⟩
  rw [HSH.out]
  clear k0_0 k0_1 kf0 kg0 kz0 k1_0 k1_1 k1_2 kz1 k2_0 k2_1 kf2 kg2 kz2
  have G2 := Fr.call F1.out hb2
  obtain ⟨k0_0, k0_1, kf0, kg0⟩ := (G2.get 2 rfl).two
  have kz0 := (G2.get 2 rfl).lt
  obtain ⟨k1_0, k1_1, k1_2⟩ := (G2.get 1 rfl).three
  have kz1 := (G2.get 1 rfl).lt
  obtain ⟨k2_0, k2_1, kf2, kg2⟩ := (G2.get 0 rfl).two
  have kz2 := (G2.get 0 rfl).lt
  have F2 : Hid (Fr w _ [(w.heap.size + 1 + 1, 28, #[.int .i64 p, .int .i64 sq]), (w.heap.size + 1, 26, #[.int .i64 b.brk, .int .i64 b.drag, .int .i64 b.drv]), (w.heap.size, 24, #[.string s, .slice A ps.length c])]) := Lib.hid G2
  clear hb2 G2 F1
  go_wp2_with fail
  go_ret
  exact ⟨rfl, F2.out.bl⟩

set_option maxHeartbeats 8000000 in
set_option maxRecDepth 100000 in
theorem st_A (s : ByteArray) (hs : s.size ≤ maxLen) (ps : List Bp) (A : Option Addr) (c : Nat) (hg : HdOk ⟨A, c⟩) (hl : ps.length ≤ maxLen) (b : Bs) (p : Int) (sq : Int) (d0 : Int) (hsh : shortB s ps = true) (hO : bothE s ps b = d0) (hd : d0 ≠ 0) (hst : (∀ (A' : Option Addr) (c' : Nat) (W : World), Lies W W.heap.size A' (ps.flatMap pc) → Calls Try.prog 9 #[.agg #[.string s, .slice A' ps.length c'], .agg #[.int .i64 b.brk, .int .i64 b.drag, .int .i64 b.drv], .agg #[.int .i64 p, .int .i64 sq]] W fun e w' => ∃ g : Hd, e = .returned (.tuple #[.slice g.A 0 g.c, .int .i64 d0]) ∧ Lies w' w'.heap.size g.A (ic []) ∧ Below W.heap.size W w')) (hgr : (∀ (A' : Option Addr) (c' : Nat) (W : World), Lies W W.heap.size A' (ps.flatMap pc) → Calls Try.prog 11 #[.agg #[.string s, .slice A' ps.length c'], .agg #[.int .i64 b.brk, .int .i64 b.drag, .int .i64 b.drv], .int .i64 p] W fun e w' => e = .returned (.tuple #[.int .i64 0, .int .i64 d0]) ∧ Below W.heap.size W w')) (w : World) (hA : Lies w w.heap.size A (ps.flatMap pc)) : Calls Try.prog 3 #[.agg #[.string s, .slice A ps.length c], .agg #[.int .i64 b.brk, .int .i64 b.drag, .int .i64 b.drv], .agg #[.int .i64 p, .int .i64 sq]] w fun e w' => e = .returned (.bool true) ∧ Below w.heap.size w w' := by
  have F0 := Lib.hid (Fr.b3 w 24 #[.string s, .slice A ps.length c] 26 #[.int .i64 b.brk, .int .i64 b.drag, .int .i64 b.drv] 28 #[.int .i64 p, .int .i64 sq])
  have HA := Lib.hid hA
  have HG := Lib.hid hg
  clear hA hg
  have HSH := Lib.hid hsh
  have hl14 : ps.length ≤ 14 := (short_iff.1 hsh).2
  clear hsh
  have HST := Lib.hid hst
  have HGR := Lib.hid hgr
  have HBO := Lib.hid hO
  have b1 : (d0 == 0) = false := by simp [hd]
  have b2 : (d0 != 0) = true := by simp [hd]
  clear hst hgr hO
  go_enter Try.func3, Try.ntmps3
  go_wp2_with fail
  refine (awake_any _).mono ?_
  rintro e w1 ⟨rfl, hb1⟩
  have G1 := Fr.call F0.out hb1
  obtain ⟨k0_0, k0_1, kf0, kg0⟩ := (G1.get 2 rfl).two
  have kz0 := (G1.get 2 rfl).lt
  obtain ⟨k1_0, k1_1, k1_2⟩ := (G1.get 1 rfl).three
  have kz1 := (G1.get 1 rfl).lt
  obtain ⟨k2_0, k2_1, kf2, kg2⟩ := (G1.get 0 rfl).two
  have kz2 := (G1.get 0 rfl).lt
  have F1 : Hid (Fr w _ [(w.heap.size + 1 + 1, 28, #[.int .i64 p, .int .i64 sq]), (w.heap.size + 1, 26, #[.int .i64 b.brk, .int .i64 b.drag, .int .i64 b.drv]), (w.heap.size, 24, #[.string s, .slice A ps.length c])]) := Lib.hid G1
  clear hb1 G1 F0
  go_wp2_with fail
  refine (Short_any s hs ps A c hl _).mono ?_
  rintro e w2 ⟨rfl, hb2⟩
  rw [HSH.out]
  clear k0_0 k0_1 kf0 kg0 kz0 k1_0 k1_1 k1_2 kz1 k2_0 k2_1 kf2 kg2 kz2
  have G2 := Fr.call F1.out hb2
  obtain ⟨k0_0, k0_1, kf0, kg0⟩ := (G2.get 2 rfl).two
  have kz0 := (G2.get 2 rfl).lt
  obtain ⟨k1_0, k1_1, k1_2⟩ := (G2.get 1 rfl).three
  have kz1 := (G2.get 1 rfl).lt
  obtain ⟨k2_0, k2_1, kf2, kg2⟩ := (G2.get 0 rfl).two
  have kz2 := (G2.get 0 rfl).lt
  have F2 : Hid (Fr w _ [(w.heap.size + 1 + 1, 28, #[.int .i64 p, .int .i64 sq]), (w.heap.size + 1, 26, #[.int .i64 b.brk, .int .i64 b.drag, .int .i64 b.drv]), (w.heap.size, 24, #[.string s, .slice A ps.length c])]) := Lib.hid G2
  clear hb2 G2 F1
  go_upto_region 5 with fail
  clear k0_0 k0_1 kf0 kg0 kz0 k1_0 k1_1 k1_2 kz1 k2_0 k2_1 kf2 kg2 kz2
  go_cut [7, 8] from 22 to 29 (fun r e W => (∃ g : Hd, r = .slice g.A 0 g.c ∧ e = .int .i64 d0 ∧ Lies W W.heap.size g.A (ic [])) ∧ Fr w2 W [])
  case first =>
    have HALL : Hid (∀ W, Fr w2 W [] → Fr w2 W [] ∧ W.cell? ⟨w.heap.size, 0, none⟩ = some (.string s) ∧ W.cell? ⟨w.heap.size, 1, none⟩ = some (.slice A ps.length c) ∧ W.cell? ⟨w.heap.size + 1, 0, none⟩ = some (.int .i64 b.brk) ∧ W.cell? ⟨w.heap.size + 1, 1, none⟩ = some (.int .i64 b.drag) ∧ W.cell? ⟨w.heap.size + 1, 2, none⟩ = some (.int .i64 b.drv) ∧ W.cell? ⟨w.heap.size + 1 + 1, 0, none⟩ = some (.int .i64 p) ∧ W.cell? ⟨w.heap.size + 1 + 1, 1, none⟩ = some (.int .i64 sq)) := Lib.hid (fun W hW => ⟨hW, ((F2.out.get 2 rfl).call hW.bl).cell 0, ((F2.out.get 2 rfl).call hW.bl).cell 1, ((F2.out.get 1 rfl).call hW.bl).cell 0, ((F2.out.get 1 rfl).call hW.bl).cell 1, ((F2.out.get 1 rfl).call hW.bl).cell 2, ((F2.out.get 0 rfl).call hW.bl).cell 0, ((F2.out.get 0 rfl).call hW.bl).cell 1⟩)
    have HAC := Lib.hid (Fr.lies HA.out F2.out)
    have F10 : Fr w2 _ [] := Fr.nil w2
    go_region_held3 (fun W => Fr w2 W [] ∧ W.cell? ⟨w.heap.size, 0, none⟩ = some (.string s) ∧ W.cell? ⟨w.heap.size, 1, none⟩ = some (.slice A ps.length c) ∧ W.cell? ⟨w.heap.size + 1, 0, none⟩ = some (.int .i64 b.brk) ∧ W.cell? ⟨w.heap.size + 1, 1, none⟩ = some (.int .i64 b.drag) ∧ W.cell? ⟨w.heap.size + 1, 2, none⟩ = some (.int .i64 b.drv) ∧ W.cell? ⟨w.heap.size + 1 + 1, 0, none⟩ = some (.int .i64 p) ∧ W.cell? ⟨w.heap.size + 1 + 1, 1, none⟩ = some (.int .i64 sq))
        ((go_split_ands; refine HALL.out _ ?_; (first | assumption | (repeat (first | assumption | refine Fr.new ?_ _ | refine Fr.drew ?_ | (refine Fr.set ?_ (by first | exact Nat.le_refl _ | omega | (simp; done) | (simp; omega)) (by first | (simp; done) | (simp; omega)) _))); done)))
        ((first
          | (go_at_call 10; go_split_ands; (with_reducible refine (Copy_any s ps ⟨A, c⟩ (by omega) HG.out _ (Fr.lies HAC.out (by assumption))).mono ?_); rintro e w1 ⟨g2, rfl, hl2, hk2, hb1⟩; have HL2 := Lib.hid hl2; have F4 := Fr.call (by assumption) hb1; clear hb1 hl2 hk2)
          | (go_at_call 9; go_split_ands; (with_reducible refine (HST.out _ _ _ HL2.out).mono ?_); rintro e w1 ⟨g3, rfl, hl3, hb1⟩; have HL3 := Lib.hid hl3; have F5 := Fr.call (by assumption) hb1; clear hb1 hl3)
          | fail "arm"))
    all_goals
      go_split_ands
      go_wp2_with fail
      go_meet
      exact ⟨⟨g3, rfl, rfl, HL3.out⟩, by assumption⟩
  case rest =>
    obtain ⟨wx1, rfl⟩ : ∃ W, W = wc := ⟨_, rfl⟩
    obtain ⟨⟨gx5, rfl, rfl, hy5⟩, hx⟩ := hcut
    have FC1 := Lib.hid (F2.out.call hx.bl)
    clear hx F2
    obtain ⟨k0_0, k0_1, kf0, kg0⟩ := (FC1.out.get 2 rfl).two
    have kz0 := (FC1.out.get 2 rfl).lt
    obtain ⟨k1_0, k1_1, k1_2⟩ := (FC1.out.get 1 rfl).three
    have kz1 := (FC1.out.get 1 rfl).lt
    obtain ⟨k2_0, k2_1, kf2, kg2⟩ := (FC1.out.get 0 rfl).two
    have kz2 := (FC1.out.get 0 rfl).lt
    have Y5 := Lib.hid hy5
    clear hy5
    go_upto_region 6 with fail
    clear k0_0 k0_1 kf0 kg0 kz0 k1_0 k1_1 k1_2 kz1 k2_0 k2_1 kf2 kg2 kz2
    go_cut [9, 10] from 30 to 38 (fun r e W => (r = .int .i64 0 ∧ e = .int .i64 d0) ∧ Fr wx1 W [])
    case first =>
      have HALL : Hid (∀ W, Fr wx1 W [] → Fr wx1 W [] ∧ W.cell? ⟨w.heap.size, 0, none⟩ = some (.string s) ∧ W.cell? ⟨w.heap.size, 1, none⟩ = some (.slice A ps.length c) ∧ W.cell? ⟨w.heap.size + 1, 0, none⟩ = some (.int .i64 b.brk) ∧ W.cell? ⟨w.heap.size + 1, 1, none⟩ = some (.int .i64 b.drag) ∧ W.cell? ⟨w.heap.size + 1, 2, none⟩ = some (.int .i64 b.drv) ∧ W.cell? ⟨w.heap.size + 1 + 1, 0, none⟩ = some (.int .i64 p) ∧ W.cell? ⟨w.heap.size + 1 + 1, 1, none⟩ = some (.int .i64 sq)) := Lib.hid (fun W hW => ⟨hW, ((FC1.out.get 2 rfl).call hW.bl).cell 0, ((FC1.out.get 2 rfl).call hW.bl).cell 1, ((FC1.out.get 1 rfl).call hW.bl).cell 0, ((FC1.out.get 1 rfl).call hW.bl).cell 1, ((FC1.out.get 1 rfl).call hW.bl).cell 2, ((FC1.out.get 0 rfl).call hW.bl).cell 0, ((FC1.out.get 0 rfl).call hW.bl).cell 1⟩)
      have HAC := Lib.hid (Fr.lies HA.out FC1.out)
      have F10 : Fr wx1 _ [] := Fr.nil wx1
      go_region_held3 (fun W => Fr wx1 W [] ∧ W.cell? ⟨w.heap.size, 0, none⟩ = some (.string s) ∧ W.cell? ⟨w.heap.size, 1, none⟩ = some (.slice A ps.length c) ∧ W.cell? ⟨w.heap.size + 1, 0, none⟩ = some (.int .i64 b.brk) ∧ W.cell? ⟨w.heap.size + 1, 1, none⟩ = some (.int .i64 b.drag) ∧ W.cell? ⟨w.heap.size + 1, 2, none⟩ = some (.int .i64 b.drv) ∧ W.cell? ⟨w.heap.size + 1 + 1, 0, none⟩ = some (.int .i64 p) ∧ W.cell? ⟨w.heap.size + 1 + 1, 1, none⟩ = some (.int .i64 sq))
          ((go_split_ands; refine HALL.out _ ?_; (first | assumption | (repeat (first | assumption | refine Fr.new ?_ _ | refine Fr.drew ?_ | (refine Fr.set ?_ (by first | exact Nat.le_refl _ | omega | (simp; done) | (simp; omega)) (by first | (simp; done) | (simp; omega)) _))); done)))
          ((first
            | (go_at_call 10; go_split_ands; (with_reducible refine (Copy_any s ps ⟨A, c⟩ (by omega) HG.out _ (Fr.lies HAC.out (by assumption))).mono ?_); rintro e w1 ⟨g2, rfl, hl2, hk2, hb1⟩; have HL2 := Lib.hid hl2; have F4 := Fr.call (by assumption) hb1; clear hb1 hl2 hk2)
            | (go_at_call 11; go_split_ands; (with_reducible refine (HGR.out _ _ _ HL2.out).mono ?_); rintro e w1 ⟨rfl, hb1⟩; have F5 := Fr.call (by assumption) hb1; clear hb1)
            | fail "arm"))
      all_goals
        go_split_ands
        go_wp2_with fail
        go_meet
        exact ⟨⟨rfl, rfl⟩, by assumption⟩
    case rest =>
      obtain ⟨wx2, rfl⟩ : ∃ W, W = wc := ⟨_, rfl⟩
      obtain ⟨⟨rfl, rfl⟩, hx⟩ := hcut
      have FC2 := Lib.hid (FC1.out.call hx.bl)
      have Y5 := Lib.hid (Lies.call Y5.out hx.bl)
      clear hx FC1
      obtain ⟨k0_0, k0_1, kf0, kg0⟩ := (FC2.out.get 2 rfl).two
      have kz0 := (FC2.out.get 2 rfl).lt
      obtain ⟨k1_0, k1_1, k1_2⟩ := (FC2.out.get 1 rfl).three
      have kz1 := (FC2.out.get 1 rfl).lt
      obtain ⟨k2_0, k2_1, kf2, kg2⟩ := (FC2.out.get 0 rfl).two
      have kz2 := (FC2.out.get 0 rfl).lt
      go_wp2_with fail
      refine (BothErr_any s hs ps A c hl b _ (Fr.lies HA.out FC2.out)).mono ?_
      rintro e w3 ⟨rfl, hb3⟩
      rw [HBO.out]
      clear k0_0 k0_1 kf0 kg0 kz0 k1_0 k1_1 k1_2 kz1 k2_0 k2_1 kf2 kg2 kz2
      have G3 := Fr.call FC2.out hb3
      have Y5 := Lib.hid (Lies.call Y5.out hb3)
      obtain ⟨k0_0, k0_1, kf0, kg0⟩ := (G3.get 2 rfl).two
      have kz0 := (G3.get 2 rfl).lt
      obtain ⟨k1_0, k1_1, k1_2⟩ := (G3.get 1 rfl).three
      have kz1 := (G3.get 1 rfl).lt
      obtain ⟨k2_0, k2_1, kf2, kg2⟩ := (G3.get 0 rfl).two
      have kz2 := (G3.get 0 rfl).lt
      have F3 : Hid (Fr w _ [(w.heap.size + 1 + 1, 28, #[.int .i64 p, .int .i64 sq]), (w.heap.size + 1, 26, #[.int .i64 b.brk, .int .i64 b.drag, .int .i64 b.drv]), (w.heap.size, 24, #[.string s, .slice A ps.length c])]) := Lib.hid G3
      clear hb3 G3 FC2
      go_wp2_with fail
      go_ret
      exact ⟨rfl, F3.out.bl⟩

set_option maxHeartbeats 8000000 in
set_option maxRecDepth 100000 in
theorem st_B (s : ByteArray) (hs : s.size ≤ maxLen) (ps : List Bp) (A : Option Addr) (c : Nat) (hg : HdOk ⟨A, c⟩) (hl : ps.length ≤ maxLen) (b : Bs) (p : Int) (sq : Int) (hsh : shortB s ps = true) (hO : bothE s ps b = 0) (hp : inB p 0 ps.length = false) (hst : (∀ (A' : Option Addr) (c' : Nat) (W : World), Lies W W.heap.size A' (ps.flatMap pc) → Calls Try.prog 9 #[.agg #[.string s, .slice A' ps.length c'], .agg #[.int .i64 b.brk, .int .i64 b.drag, .int .i64 b.drv], .agg #[.int .i64 p, .int .i64 sq]] W fun e w' => ∃ g : Hd, e = .returned (.tuple #[.slice g.A 0 g.c, .int .i64 6]) ∧ Lies w' w'.heap.size g.A (ic []) ∧ Below W.heap.size W w')) (hgr : (∀ (A' : Option Addr) (c' : Nat) (W : World), Lies W W.heap.size A' (ps.flatMap pc) → Calls Try.prog 11 #[.agg #[.string s, .slice A' ps.length c'], .agg #[.int .i64 b.brk, .int .i64 b.drag, .int .i64 b.drv], .int .i64 p] W fun e w' => e = .returned (.tuple #[.int .i64 0, .int .i64 6]) ∧ Below W.heap.size W w')) (w : World) (hA : Lies w w.heap.size A (ps.flatMap pc)) : Calls Try.prog 3 #[.agg #[.string s, .slice A ps.length c], .agg #[.int .i64 b.brk, .int .i64 b.drag, .int .i64 b.drv], .agg #[.int .i64 p, .int .i64 sq]] w fun e w' => e = .returned (.bool true) ∧ Below w.heap.size w w' := by
  have F0 := Lib.hid (Fr.b3 w 24 #[.string s, .slice A ps.length c] 26 #[.int .i64 b.brk, .int .i64 b.drag, .int .i64 b.drv] 28 #[.int .i64 p, .int .i64 sq])
  have HA := Lib.hid hA
  have HG := Lib.hid hg
  clear hA hg
  have HSH := Lib.hid hsh
  have hl14 : ps.length ≤ 14 := (short_iff.1 hsh).2
  clear hsh
  have HST := Lib.hid hst
  have HGR := Lib.hid hgr
  have HBO := Lib.hid hO
  have HPP := Lib.hid hp
  clear hst hgr hO hp
  go_enter Try.func3, Try.ntmps3
  go_wp2_with fail
  refine (awake_any _).mono ?_
  rintro e w1 ⟨rfl, hb1⟩
  have G1 := Fr.call F0.out hb1
  obtain ⟨k0_0, k0_1, kf0, kg0⟩ := (G1.get 2 rfl).two
  have kz0 := (G1.get 2 rfl).lt
  obtain ⟨k1_0, k1_1, k1_2⟩ := (G1.get 1 rfl).three
  have kz1 := (G1.get 1 rfl).lt
  obtain ⟨k2_0, k2_1, kf2, kg2⟩ := (G1.get 0 rfl).two
  have kz2 := (G1.get 0 rfl).lt
  have F1 : Hid (Fr w _ [(w.heap.size + 1 + 1, 28, #[.int .i64 p, .int .i64 sq]), (w.heap.size + 1, 26, #[.int .i64 b.brk, .int .i64 b.drag, .int .i64 b.drv]), (w.heap.size, 24, #[.string s, .slice A ps.length c])]) := Lib.hid G1
  clear hb1 G1 F0
  go_wp2_with fail
  refine (Short_any s hs ps A c hl _).mono ?_
  rintro e w2 ⟨rfl, hb2⟩
  rw [HSH.out]
  clear k0_0 k0_1 kf0 kg0 kz0 k1_0 k1_1 k1_2 kz1 k2_0 k2_1 kf2 kg2 kz2
  have G2 := Fr.call F1.out hb2
  obtain ⟨k0_0, k0_1, kf0, kg0⟩ := (G2.get 2 rfl).two
  have kz0 := (G2.get 2 rfl).lt
  obtain ⟨k1_0, k1_1, k1_2⟩ := (G2.get 1 rfl).three
  have kz1 := (G2.get 1 rfl).lt
  obtain ⟨k2_0, k2_1, kf2, kg2⟩ := (G2.get 0 rfl).two
  have kz2 := (G2.get 0 rfl).lt
  have F2 : Hid (Fr w _ [(w.heap.size + 1 + 1, 28, #[.int .i64 p, .int .i64 sq]), (w.heap.size + 1, 26, #[.int .i64 b.brk, .int .i64 b.drag, .int .i64 b.drv]), (w.heap.size, 24, #[.string s, .slice A ps.length c])]) := Lib.hid G2
  clear hb2 G2 F1
  go_upto_region 5 with fail
  clear k0_0 k0_1 kf0 kg0 kz0 k1_0 k1_1 k1_2 kz1 k2_0 k2_1 kf2 kg2 kz2
  go_cut [7, 8] from 22 to 29 (fun r e W => (∃ g : Hd, r = .slice g.A 0 g.c ∧ e = .int .i64 6 ∧ Lies W W.heap.size g.A (ic [])) ∧ Fr w2 W [])
  case first =>
    have HALL : Hid (∀ W, Fr w2 W [] → Fr w2 W [] ∧ W.cell? ⟨w.heap.size, 0, none⟩ = some (.string s) ∧ W.cell? ⟨w.heap.size, 1, none⟩ = some (.slice A ps.length c) ∧ W.cell? ⟨w.heap.size + 1, 0, none⟩ = some (.int .i64 b.brk) ∧ W.cell? ⟨w.heap.size + 1, 1, none⟩ = some (.int .i64 b.drag) ∧ W.cell? ⟨w.heap.size + 1, 2, none⟩ = some (.int .i64 b.drv) ∧ W.cell? ⟨w.heap.size + 1 + 1, 0, none⟩ = some (.int .i64 p) ∧ W.cell? ⟨w.heap.size + 1 + 1, 1, none⟩ = some (.int .i64 sq)) := Lib.hid (fun W hW => ⟨hW, ((F2.out.get 2 rfl).call hW.bl).cell 0, ((F2.out.get 2 rfl).call hW.bl).cell 1, ((F2.out.get 1 rfl).call hW.bl).cell 0, ((F2.out.get 1 rfl).call hW.bl).cell 1, ((F2.out.get 1 rfl).call hW.bl).cell 2, ((F2.out.get 0 rfl).call hW.bl).cell 0, ((F2.out.get 0 rfl).call hW.bl).cell 1⟩)
    have HAC := Lib.hid (Fr.lies HA.out F2.out)
    have F10 : Fr w2 _ [] := Fr.nil w2
    go_region_held3 (fun W => Fr w2 W [] ∧ W.cell? ⟨w.heap.size, 0, none⟩ = some (.string s) ∧ W.cell? ⟨w.heap.size, 1, none⟩ = some (.slice A ps.length c) ∧ W.cell? ⟨w.heap.size + 1, 0, none⟩ = some (.int .i64 b.brk) ∧ W.cell? ⟨w.heap.size + 1, 1, none⟩ = some (.int .i64 b.drag) ∧ W.cell? ⟨w.heap.size + 1, 2, none⟩ = some (.int .i64 b.drv) ∧ W.cell? ⟨w.heap.size + 1 + 1, 0, none⟩ = some (.int .i64 p) ∧ W.cell? ⟨w.heap.size + 1 + 1, 1, none⟩ = some (.int .i64 sq))
        ((go_split_ands; refine HALL.out _ ?_; (first | assumption | (repeat (first | assumption | refine Fr.new ?_ _ | refine Fr.drew ?_ | (refine Fr.set ?_ (by first | exact Nat.le_refl _ | omega | (simp; done) | (simp; omega)) (by first | (simp; done) | (simp; omega)) _))); done)))
        ((first
          | (go_at_call 10; go_split_ands; (with_reducible refine (Copy_any s ps ⟨A, c⟩ (by omega) HG.out _ (Fr.lies HAC.out (by assumption))).mono ?_); rintro e w1 ⟨g2, rfl, hl2, hk2, hb1⟩; have HL2 := Lib.hid hl2; have F4 := Fr.call (by assumption) hb1; clear hb1 hl2 hk2)
          | (go_at_call 9; go_split_ands; (with_reducible refine (HST.out _ _ _ HL2.out).mono ?_); rintro e w1 ⟨g3, rfl, hl3, hb1⟩; have HL3 := Lib.hid hl3; have F5 := Fr.call (by assumption) hb1; clear hb1 hl3)
          | fail "arm"))
    all_goals
      go_split_ands
      go_wp2_with fail
      go_meet
      exact ⟨⟨g3, rfl, rfl, HL3.out⟩, by assumption⟩
  case rest =>
    obtain ⟨wx3, rfl⟩ : ∃ W, W = wc := ⟨_, rfl⟩
    obtain ⟨⟨gx5, rfl, rfl, hy5⟩, hx⟩ := hcut
    have FC3 := Lib.hid (F2.out.call hx.bl)
    clear hx F2
    obtain ⟨k0_0, k0_1, kf0, kg0⟩ := (FC3.out.get 2 rfl).two
    have kz0 := (FC3.out.get 2 rfl).lt
    obtain ⟨k1_0, k1_1, k1_2⟩ := (FC3.out.get 1 rfl).three
    have kz1 := (FC3.out.get 1 rfl).lt
    obtain ⟨k2_0, k2_1, kf2, kg2⟩ := (FC3.out.get 0 rfl).two
    have kz2 := (FC3.out.get 0 rfl).lt
    have Y5 := Lib.hid hy5
    clear hy5
    go_upto_region 6 with fail
    clear k0_0 k0_1 kf0 kg0 kz0 k1_0 k1_1 k1_2 kz1 k2_0 k2_1 kf2 kg2 kz2
    go_cut [9, 10] from 30 to 38 (fun r e W => (r = .int .i64 0 ∧ e = .int .i64 6) ∧ Fr wx3 W [])
    case first =>
      have HALL : Hid (∀ W, Fr wx3 W [] → Fr wx3 W [] ∧ W.cell? ⟨w.heap.size, 0, none⟩ = some (.string s) ∧ W.cell? ⟨w.heap.size, 1, none⟩ = some (.slice A ps.length c) ∧ W.cell? ⟨w.heap.size + 1, 0, none⟩ = some (.int .i64 b.brk) ∧ W.cell? ⟨w.heap.size + 1, 1, none⟩ = some (.int .i64 b.drag) ∧ W.cell? ⟨w.heap.size + 1, 2, none⟩ = some (.int .i64 b.drv) ∧ W.cell? ⟨w.heap.size + 1 + 1, 0, none⟩ = some (.int .i64 p) ∧ W.cell? ⟨w.heap.size + 1 + 1, 1, none⟩ = some (.int .i64 sq)) := Lib.hid (fun W hW => ⟨hW, ((FC3.out.get 2 rfl).call hW.bl).cell 0, ((FC3.out.get 2 rfl).call hW.bl).cell 1, ((FC3.out.get 1 rfl).call hW.bl).cell 0, ((FC3.out.get 1 rfl).call hW.bl).cell 1, ((FC3.out.get 1 rfl).call hW.bl).cell 2, ((FC3.out.get 0 rfl).call hW.bl).cell 0, ((FC3.out.get 0 rfl).call hW.bl).cell 1⟩)
      have HAC := Lib.hid (Fr.lies HA.out FC3.out)
      have F10 : Fr wx3 _ [] := Fr.nil wx3
      go_region_held3 (fun W => Fr wx3 W [] ∧ W.cell? ⟨w.heap.size, 0, none⟩ = some (.string s) ∧ W.cell? ⟨w.heap.size, 1, none⟩ = some (.slice A ps.length c) ∧ W.cell? ⟨w.heap.size + 1, 0, none⟩ = some (.int .i64 b.brk) ∧ W.cell? ⟨w.heap.size + 1, 1, none⟩ = some (.int .i64 b.drag) ∧ W.cell? ⟨w.heap.size + 1, 2, none⟩ = some (.int .i64 b.drv) ∧ W.cell? ⟨w.heap.size + 1 + 1, 0, none⟩ = some (.int .i64 p) ∧ W.cell? ⟨w.heap.size + 1 + 1, 1, none⟩ = some (.int .i64 sq))
          ((go_split_ands; refine HALL.out _ ?_; (first | assumption | (repeat (first | assumption | refine Fr.new ?_ _ | refine Fr.drew ?_ | (refine Fr.set ?_ (by first | exact Nat.le_refl _ | omega | (simp; done) | (simp; omega)) (by first | (simp; done) | (simp; omega)) _))); done)))
          ((first
            | (go_at_call 10; go_split_ands; (with_reducible refine (Copy_any s ps ⟨A, c⟩ (by omega) HG.out _ (Fr.lies HAC.out (by assumption))).mono ?_); rintro e w1 ⟨g2, rfl, hl2, hk2, hb1⟩; have HL2 := Lib.hid hl2; have F4 := Fr.call (by assumption) hb1; clear hb1 hl2 hk2)
            | (go_at_call 11; go_split_ands; (with_reducible refine (HGR.out _ _ _ HL2.out).mono ?_); rintro e w1 ⟨rfl, hb1⟩; have F5 := Fr.call (by assumption) hb1; clear hb1)
            | fail "arm"))
      all_goals
        go_split_ands
        go_wp2_with fail
        go_meet
        exact ⟨⟨rfl, rfl⟩, by assumption⟩
    case rest =>
      obtain ⟨wx4, rfl⟩ : ∃ W, W = wc := ⟨_, rfl⟩
      obtain ⟨⟨rfl, rfl⟩, hx⟩ := hcut
      have FC4 := Lib.hid (FC3.out.call hx.bl)
      have Y5 := Lib.hid (Lies.call Y5.out hx.bl)
      clear hx FC3
      obtain ⟨k0_0, k0_1, kf0, kg0⟩ := (FC4.out.get 2 rfl).two
      have kz0 := (FC4.out.get 2 rfl).lt
      obtain ⟨k1_0, k1_1, k1_2⟩ := (FC4.out.get 1 rfl).three
      have kz1 := (FC4.out.get 1 rfl).lt
      obtain ⟨k2_0, k2_1, kf2, kg2⟩ := (FC4.out.get 0 rfl).two
      have kz2 := (FC4.out.get 0 rfl).lt
      go_wp2_with fail
      refine (BothErr_any s hs ps A c hl b _ (Fr.lies HA.out FC4.out)).mono ?_
      rintro e w3 ⟨rfl, hb3⟩
      rw [HBO.out]
      clear k0_0 k0_1 kf0 kg0 kz0 k1_0 k1_1 k1_2 kz1 k2_0 k2_1 kf2 kg2 kz2
      have G3 := Fr.call FC4.out hb3
      have Y5 := Lib.hid (Lies.call Y5.out hb3)
      obtain ⟨k0_0, k0_1, kf0, kg0⟩ := (G3.get 2 rfl).two
      have kz0 := (G3.get 2 rfl).lt
      obtain ⟨k1_0, k1_1, k1_2⟩ := (G3.get 1 rfl).three
      have kz1 := (G3.get 1 rfl).lt
      obtain ⟨k2_0, k2_1, kf2, kg2⟩ := (G3.get 0 rfl).two
      have kz2 := (G3.get 0 rfl).lt
      have F3 : Hid (Fr w _ [(w.heap.size + 1 + 1, 28, #[.int .i64 p, .int .i64 sq]), (w.heap.size + 1, 26, #[.int .i64 b.brk, .int .i64 b.drag, .int .i64 b.drv]), (w.heap.size, 24, #[.string s, .slice A ps.length c])]) := Lib.hid G3
      clear hb3 G3 FC4
      go_wp2_with (go_at_call 13; refine (Within_any _ _ _ _).mono ?_; rintro e w' ⟨rfl, rfl⟩; rw [HPP.out])
      go_ret
      exact ⟨rfl, F3.out.bl⟩

set_option maxHeartbeats 8000000 in
set_option maxRecDepth 100000 in
theorem st_C1 (s : ByteArray) (hs : s.size ≤ maxLen) (ps : List Bp) (A : Option Addr) (c : Nat) (hg : HdOk ⟨A, c⟩) (hl : ps.length ≤ maxLen) (b : Bs) (k : Nat) (sq : Int) (NL : Nat) (LS : List Int) (m : Int) (hsh : shortB s ps = true) (hO : bothE s ps b = 0) (hk : k ≤ ps.length) (hE : stateE ps (k : Int) sq = 2) (hm : gtS ps b k ps.length = -1) (hst : (∀ (A' : Option Addr) (c' : Nat) (W : World), Lies W W.heap.size A' (ps.flatMap pc) → Calls Try.prog 9 #[.agg #[.string s, .slice A' ps.length c'], .agg #[.int .i64 b.brk, .int .i64 b.drag, .int .i64 b.drv], .agg #[.int .i64 (k : Int), .int .i64 sq]] W fun e w' => ∃ g : Hd, e = .returned (.tuple #[.slice g.A 0 g.c, .int .i64 2]) ∧ Lies w' w'.heap.size g.A (ic []) ∧ Below W.heap.size W w')) (hgr : (∀ (A' : Option Addr) (c' : Nat) (W : World), Lies W W.heap.size A' (ps.flatMap pc) → Calls Try.prog 11 #[.agg #[.string s, .slice A' ps.length c'], .agg #[.int .i64 b.brk, .int .i64 b.drag, .int .i64 b.drv], .int .i64 (k : Int)] W fun e w' => e = .returned (.tuple #[.int .i64 0, .int .i64 12]) ∧ Below W.heap.size W w'))  (w : World) (hA : Lies w w.heap.size A (ps.flatMap pc)) : Calls Try.prog 3 #[.agg #[.string s, .slice A ps.length c], .agg #[.int .i64 b.brk, .int .i64 b.drag, .int .i64 b.drv], .agg #[.int .i64 (k : Int), .int .i64 sq]] w fun e w' => e = .returned (.bool true) ∧ Below w.heap.size w w' := by
  obtain ⟨hok, hb⟩ := bothE_zero hO
  obtain ⟨a, rfl⟩ := ps_some hA hok.n0
  have h12 := hok.n12
  have HRG : Hid (∀ W, Lies W W.heap.size (some a) (ps.flatMap pc) → Calls Try.prog 14 #[.agg #[.string s, .slice (some a) ps.length c], .agg #[.int .i64 b.brk, .int .i64 b.drag, .int .i64 b.drv], .int .i64 (k : Int)] W fun e w' => e = .returned (.tuple #[.int .i64 0, .bool false]) ∧ Below W.heap.size W w') := Lib.hid (fun W hW => refGreatestAt_any s ps a c b hb hok.n0 hok.n12 hok.each k hk _ _ (.inl ⟨rfl, rfl, hm⟩) W hW)
  have HST := Lib.hid hst
  have HGR := Lib.hid hgr
  have HBO := Lib.hid hO
  have HPP := Lib.hid (postE_in hk)
  have HSE := Lib.hid hE
  have F0 := Lib.hid (Fr.b3 w 24 #[.string s, .slice (some a) ps.length c] 26 #[.int .i64 b.brk, .int .i64 b.drag, .int .i64 b.drv] 28 #[.int .i64 (k : Int), .int .i64 sq])
  have HA := Lib.hid hA
  have HG := Lib.hid hg
  clear hA hg
  have HSH := Lib.hid hsh
  have hl14 : ps.length ≤ 14 := (short_iff.1 hsh).2
  clear hsh
  clear hst hgr hO hE hm hk hok hb
  go_enter Try.func3, Try.ntmps3
  go_wp2_with fail
  refine (awake_any _).mono ?_
  rintro e w1 ⟨rfl, hb1⟩
  have G1 := Fr.call F0.out hb1
  obtain ⟨k0_0, k0_1, kf0, kg0⟩ := (G1.get 2 rfl).two
  have kz0 := (G1.get 2 rfl).lt
  obtain ⟨k1_0, k1_1, k1_2⟩ := (G1.get 1 rfl).three
  have kz1 := (G1.get 1 rfl).lt
  obtain ⟨k2_0, k2_1, kf2, kg2⟩ := (G1.get 0 rfl).two
  have kz2 := (G1.get 0 rfl).lt
  have F1 : Hid (Fr w _ [(w.heap.size + 1 + 1, 28, #[.int .i64 (k : Int), .int .i64 sq]), (w.heap.size + 1, 26, #[.int .i64 b.brk, .int .i64 b.drag, .int .i64 b.drv]), (w.heap.size, 24, #[.string s, .slice (some a) ps.length c])]) := Lib.hid G1
  clear hb1 G1 F0
  go_wp2_with fail
  refine (Short_any s hs ps (some a) c hl _).mono ?_
  rintro e w2 ⟨rfl, hb2⟩
  rw [HSH.out]
  clear k0_0 k0_1 kf0 kg0 kz0 k1_0 k1_1 k1_2 kz1 k2_0 k2_1 kf2 kg2 kz2
  have G2 := Fr.call F1.out hb2
  obtain ⟨k0_0, k0_1, kf0, kg0⟩ := (G2.get 2 rfl).two
  have kz0 := (G2.get 2 rfl).lt
  obtain ⟨k1_0, k1_1, k1_2⟩ := (G2.get 1 rfl).three
  have kz1 := (G2.get 1 rfl).lt
  obtain ⟨k2_0, k2_1, kf2, kg2⟩ := (G2.get 0 rfl).two
  have kz2 := (G2.get 0 rfl).lt
  have F2 : Hid (Fr w _ [(w.heap.size + 1 + 1, 28, #[.int .i64 (k : Int), .int .i64 sq]), (w.heap.size + 1, 26, #[.int .i64 b.brk, .int .i64 b.drag, .int .i64 b.drv]), (w.heap.size, 24, #[.string s, .slice (some a) ps.length c])]) := Lib.hid G2
  clear hb2 G2 F1
  go_upto_region 5 with fail
  clear k0_0 k0_1 kf0 kg0 kz0 k1_0 k1_1 k1_2 kz1 k2_0 k2_1 kf2 kg2 kz2
  go_cut [7, 8] from 22 to 29 (fun r e W => (∃ g : Hd, r = .slice g.A 0 g.c ∧ e = .int .i64 2 ∧ Lies W W.heap.size g.A (ic [])) ∧ Fr w2 W [])
  case first =>
    have HALL : Hid (∀ W, Fr w2 W [] → Fr w2 W [] ∧ W.cell? ⟨w.heap.size, 0, none⟩ = some (.string s) ∧ W.cell? ⟨w.heap.size, 1, none⟩ = some (.slice (some a) ps.length c) ∧ W.cell? ⟨w.heap.size + 1, 0, none⟩ = some (.int .i64 b.brk) ∧ W.cell? ⟨w.heap.size + 1, 1, none⟩ = some (.int .i64 b.drag) ∧ W.cell? ⟨w.heap.size + 1, 2, none⟩ = some (.int .i64 b.drv) ∧ W.cell? ⟨w.heap.size + 1 + 1, 0, none⟩ = some (.int .i64 (k : Int)) ∧ W.cell? ⟨w.heap.size + 1 + 1, 1, none⟩ = some (.int .i64 sq)) := Lib.hid (fun W hW => ⟨hW, ((F2.out.get 2 rfl).call hW.bl).cell 0, ((F2.out.get 2 rfl).call hW.bl).cell 1, ((F2.out.get 1 rfl).call hW.bl).cell 0, ((F2.out.get 1 rfl).call hW.bl).cell 1, ((F2.out.get 1 rfl).call hW.bl).cell 2, ((F2.out.get 0 rfl).call hW.bl).cell 0, ((F2.out.get 0 rfl).call hW.bl).cell 1⟩)
    have HAC := Lib.hid (Fr.lies HA.out F2.out)
    have F10 : Fr w2 _ [] := Fr.nil w2
    go_region_held3 (fun W => Fr w2 W [] ∧ W.cell? ⟨w.heap.size, 0, none⟩ = some (.string s) ∧ W.cell? ⟨w.heap.size, 1, none⟩ = some (.slice (some a) ps.length c) ∧ W.cell? ⟨w.heap.size + 1, 0, none⟩ = some (.int .i64 b.brk) ∧ W.cell? ⟨w.heap.size + 1, 1, none⟩ = some (.int .i64 b.drag) ∧ W.cell? ⟨w.heap.size + 1, 2, none⟩ = some (.int .i64 b.drv) ∧ W.cell? ⟨w.heap.size + 1 + 1, 0, none⟩ = some (.int .i64 (k : Int)) ∧ W.cell? ⟨w.heap.size + 1 + 1, 1, none⟩ = some (.int .i64 sq))
        ((go_split_ands; refine HALL.out _ ?_; (first | assumption | (repeat (first | assumption | refine Fr.new ?_ _ | refine Fr.drew ?_ | (refine Fr.set ?_ (by first | exact Nat.le_refl _ | omega | (simp; done) | (simp; omega)) (by first | (simp; done) | (simp; omega)) _))); done)))
        ((first
          | (go_at_call 10; go_split_ands; (with_reducible refine (Copy_any s ps ⟨(some a), c⟩ (by omega) HG.out _ (Fr.lies HAC.out (by assumption))).mono ?_); rintro e w1 ⟨g2, rfl, hl2, hk2, hb1⟩; have HL2 := Lib.hid hl2; have F4 := Fr.call (by assumption) hb1; clear hb1 hl2 hk2)
          | (go_at_call 9; go_split_ands; (with_reducible refine (HST.out _ _ _ HL2.out).mono ?_); rintro e w1 ⟨g3, rfl, hl3, hb1⟩; have HL3 := Lib.hid hl3; have F5 := Fr.call (by assumption) hb1; clear hb1 hl3)
          | fail "arm"))
    all_goals
      go_split_ands
      go_wp2_with fail
      go_meet
      exact ⟨⟨g3, rfl, rfl, HL3.out⟩, by assumption⟩
  case rest =>
    obtain ⟨wx5, rfl⟩ : ∃ W, W = wc := ⟨_, rfl⟩
    obtain ⟨⟨gx5, rfl, rfl, hy5⟩, hx⟩ := hcut
    have FC5 := Lib.hid (F2.out.call hx.bl)
    clear hx F2
    obtain ⟨k0_0, k0_1, kf0, kg0⟩ := (FC5.out.get 2 rfl).two
    have kz0 := (FC5.out.get 2 rfl).lt
    obtain ⟨k1_0, k1_1, k1_2⟩ := (FC5.out.get 1 rfl).three
    have kz1 := (FC5.out.get 1 rfl).lt
    obtain ⟨k2_0, k2_1, kf2, kg2⟩ := (FC5.out.get 0 rfl).two
    have kz2 := (FC5.out.get 0 rfl).lt
    have Y5 := Lib.hid hy5
    clear hy5
    go_upto_region 6 with fail
    clear k0_0 k0_1 kf0 kg0 kz0 k1_0 k1_1 k1_2 kz1 k2_0 k2_1 kf2 kg2 kz2
    go_cut [9, 10] from 30 to 38 (fun r e W => (r = .int .i64 0 ∧ e = .int .i64 12) ∧ Fr wx5 W [])
    case first =>
      have HALL : Hid (∀ W, Fr wx5 W [] → Fr wx5 W [] ∧ W.cell? ⟨w.heap.size, 0, none⟩ = some (.string s) ∧ W.cell? ⟨w.heap.size, 1, none⟩ = some (.slice (some a) ps.length c) ∧ W.cell? ⟨w.heap.size + 1, 0, none⟩ = some (.int .i64 b.brk) ∧ W.cell? ⟨w.heap.size + 1, 1, none⟩ = some (.int .i64 b.drag) ∧ W.cell? ⟨w.heap.size + 1, 2, none⟩ = some (.int .i64 b.drv) ∧ W.cell? ⟨w.heap.size + 1 + 1, 0, none⟩ = some (.int .i64 (k : Int)) ∧ W.cell? ⟨w.heap.size + 1 + 1, 1, none⟩ = some (.int .i64 sq)) := Lib.hid (fun W hW => ⟨hW, ((FC5.out.get 2 rfl).call hW.bl).cell 0, ((FC5.out.get 2 rfl).call hW.bl).cell 1, ((FC5.out.get 1 rfl).call hW.bl).cell 0, ((FC5.out.get 1 rfl).call hW.bl).cell 1, ((FC5.out.get 1 rfl).call hW.bl).cell 2, ((FC5.out.get 0 rfl).call hW.bl).cell 0, ((FC5.out.get 0 rfl).call hW.bl).cell 1⟩)
      have HAC := Lib.hid (Fr.lies HA.out FC5.out)
      have F10 : Fr wx5 _ [] := Fr.nil wx5
      go_region_held3 (fun W => Fr wx5 W [] ∧ W.cell? ⟨w.heap.size, 0, none⟩ = some (.string s) ∧ W.cell? ⟨w.heap.size, 1, none⟩ = some (.slice (some a) ps.length c) ∧ W.cell? ⟨w.heap.size + 1, 0, none⟩ = some (.int .i64 b.brk) ∧ W.cell? ⟨w.heap.size + 1, 1, none⟩ = some (.int .i64 b.drag) ∧ W.cell? ⟨w.heap.size + 1, 2, none⟩ = some (.int .i64 b.drv) ∧ W.cell? ⟨w.heap.size + 1 + 1, 0, none⟩ = some (.int .i64 (k : Int)) ∧ W.cell? ⟨w.heap.size + 1 + 1, 1, none⟩ = some (.int .i64 sq))
          ((go_split_ands; refine HALL.out _ ?_; (first | assumption | (repeat (first | assumption | refine Fr.new ?_ _ | refine Fr.drew ?_ | (refine Fr.set ?_ (by first | exact Nat.le_refl _ | omega | (simp; done) | (simp; omega)) (by first | (simp; done) | (simp; omega)) _))); done)))
          ((first
            | (go_at_call 10; go_split_ands; (with_reducible refine (Copy_any s ps ⟨(some a), c⟩ (by omega) HG.out _ (Fr.lies HAC.out (by assumption))).mono ?_); rintro e w1 ⟨g2, rfl, hl2, hk2, hb1⟩; have HL2 := Lib.hid hl2; have F4 := Fr.call (by assumption) hb1; clear hb1 hl2 hk2)
            | (go_at_call 11; go_split_ands; (with_reducible refine (HGR.out _ _ _ HL2.out).mono ?_); rintro e w1 ⟨rfl, hb1⟩; have F5 := Fr.call (by assumption) hb1; clear hb1)
            | fail "arm"))
      all_goals
        go_split_ands
        go_wp2_with fail
        go_meet
        exact ⟨⟨rfl, rfl⟩, by assumption⟩
    case rest =>
      obtain ⟨wx6, rfl⟩ : ∃ W, W = wc := ⟨_, rfl⟩
      obtain ⟨⟨rfl, rfl⟩, hx⟩ := hcut
      have FC6 := Lib.hid (FC5.out.call hx.bl)
      have Y5 := Lib.hid (Lies.call Y5.out hx.bl)
      clear hx FC5
      obtain ⟨k0_0, k0_1, kf0, kg0⟩ := (FC6.out.get 2 rfl).two
      have kz0 := (FC6.out.get 2 rfl).lt
      obtain ⟨k1_0, k1_1, k1_2⟩ := (FC6.out.get 1 rfl).three
      have kz1 := (FC6.out.get 1 rfl).lt
      obtain ⟨k2_0, k2_1, kf2, kg2⟩ := (FC6.out.get 0 rfl).two
      have kz2 := (FC6.out.get 0 rfl).lt
      go_wp2_with fail
      refine (BothErr_any s hs ps (some a) c hl b _ (Fr.lies HA.out FC6.out)).mono ?_
      rintro e w3 ⟨rfl, hb3⟩
      rw [HBO.out]
      clear k0_0 k0_1 kf0 kg0 kz0 k1_0 k1_1 k1_2 kz1 k2_0 k2_1 kf2 kg2 kz2
      have G3 := Fr.call FC6.out hb3
      have Y5 := Lib.hid (Lies.call Y5.out hb3)
      obtain ⟨k0_0, k0_1, kf0, kg0⟩ := (G3.get 2 rfl).two
      have kz0 := (G3.get 2 rfl).lt
      obtain ⟨k1_0, k1_1, k1_2⟩ := (G3.get 1 rfl).three
      have kz1 := (G3.get 1 rfl).lt
      obtain ⟨k2_0, k2_1, kf2, kg2⟩ := (G3.get 0 rfl).two
      have kz2 := (G3.get 0 rfl).lt
      have F3 : Hid (Fr w _ [(w.heap.size + 1 + 1, 28, #[.int .i64 (k : Int), .int .i64 sq]), (w.heap.size + 1, 26, #[.int .i64 b.brk, .int .i64 b.drag, .int .i64 b.drv]), (w.heap.size, 24, #[.string s, .slice (some a) ps.length c])]) := Lib.hid G3
      clear hb3 G3 FC6
      go_wp2_with (go_at_call 13; refine (Within_any _ _ _ _).mono ?_; rintro e w' ⟨rfl, rfl⟩; rw [HPP.out])
      refine (HRG.out _ (Fr.lies HA.out F3.out)).mono ?_
      rintro e w4 ⟨rfl, hb4⟩
      clear k0_0 k0_1 kf0 kg0 kz0 k1_0 k1_1 k1_2 kz1 k2_0 k2_1 kf2 kg2 kz2
      have G4 := Lib.hid (F3.out.call hb4)
      have Y5 := Lib.hid (Lies.call Y5.out hb4)
      clear hb4 F3
      obtain ⟨k0_0, k0_1, kf0, kg0⟩ := (G4.out.get 2 rfl).two
      have kz0 := (G4.out.get 2 rfl).lt
      obtain ⟨k1_0, k1_1, k1_2⟩ := (G4.out.get 1 rfl).three
      have kz1 := (G4.out.get 1 rfl).lt
      obtain ⟨k2_0, k2_1, kf2, kg2⟩ := (G4.out.get 0 rfl).two
      have kz2 := (G4.out.get 0 rfl).lt
      go_wp2_with fail
      refine (StateErr_any s ps (some a) c (by omega) (k : Int) sq _).mono ?_
      rintro e w5 ⟨rfl, hb5⟩
      rw [HSE.out]
      clear k0_0 k0_1 kf0 kg0 kz0 k1_0 k1_1 k1_2 kz1 k2_0 k2_1 kf2 kg2 kz2
      have G5 := Fr.call G4.out hb5
      have Y5 := Lib.hid (Lies.call Y5.out hb5)
      obtain ⟨k0_0, k0_1, kf0, kg0⟩ := (G5.get 2 rfl).two
      have kz0 := (G5.get 2 rfl).lt
      obtain ⟨k1_0, k1_1, k1_2⟩ := (G5.get 1 rfl).three
      have kz1 := (G5.get 1 rfl).lt
      obtain ⟨k2_0, k2_1, kf2, kg2⟩ := (G5.get 0 rfl).two
      have kz2 := (G5.get 0 rfl).lt
      have F5 : Hid (Fr w _ [(w.heap.size + 1 + 1, 28, #[.int .i64 (k : Int), .int .i64 sq]), (w.heap.size + 1, 26, #[.int .i64 b.brk, .int .i64 b.drag, .int .i64 b.drv]), (w.heap.size, 24, #[.string s, .slice (some a) ps.length c])]) := Lib.hid G5
      clear hb5 G5 G4
      go_wp2_with fail
      go_ret
      exact ⟨rfl, F5.out.bl⟩

set_option maxHeartbeats 8000000 in
set_option maxRecDepth 100000 in
theorem st_C2 (s : ByteArray) (hs : s.size ≤ maxLen) (ps : List Bp) (A : Option Addr) (c : Nat) (hg : HdOk ⟨A, c⟩) (hl : ps.length ≤ maxLen) (b : Bs) (k : Nat) (sq : Int) (NL : Nat) (LS : List Int) (m : Int) (hsh : shortB s ps = true) (hO : bothE s ps b = 0) (hk : k ≤ ps.length) (hE : stateE ps (k : Int) sq = 2) (hm : gtS ps b k ps.length = m) (hst : (∀ (A' : Option Addr) (c' : Nat) (W : World), Lies W W.heap.size A' (ps.flatMap pc) → Calls Try.prog 9 #[.agg #[.string s, .slice A' ps.length c'], .agg #[.int .i64 b.brk, .int .i64 b.drag, .int .i64 b.drv], .agg #[.int .i64 (k : Int), .int .i64 sq]] W fun e w' => ∃ g : Hd, e = .returned (.tuple #[.slice g.A 0 g.c, .int .i64 2]) ∧ Lies w' w'.heap.size g.A (ic []) ∧ Below W.heap.size W w')) (hgr : (∀ (A' : Option Addr) (c' : Nat) (W : World), Lies W W.heap.size A' (ps.flatMap pc) → Calls Try.prog 11 #[.agg #[.string s, .slice A' ps.length c'], .agg #[.int .i64 b.brk, .int .i64 b.drag, .int .i64 b.drv], .int .i64 (k : Int)] W fun e w' => e = .returned (.tuple #[.int .i64 m, .int .i64 0]) ∧ Below W.heap.size W w')) (hm1 : ¬ m = -1) (w : World) (hA : Lies w w.heap.size A (ps.flatMap pc)) : Calls Try.prog 3 #[.agg #[.string s, .slice A ps.length c], .agg #[.int .i64 b.brk, .int .i64 b.drag, .int .i64 b.drv], .agg #[.int .i64 (k : Int), .int .i64 sq]] w fun e w' => e = .returned (.bool true) ∧ Below w.heap.size w w' := by
  obtain ⟨hok, hb⟩ := bothE_zero hO
  obtain ⟨a, rfl⟩ := ps_some hA hok.n0
  have h12 := hok.n12
  have hm0 : 0 ≤ m := by rcases gtS_in hok.each b k ps.length with h | h <;> omega
  have HRG : Hid (∀ W, Lies W W.heap.size (some a) (ps.flatMap pc) → Calls Try.prog 14 #[.agg #[.string s, .slice (some a) ps.length c], .agg #[.int .i64 b.brk, .int .i64 b.drag, .int .i64 b.drv], .int .i64 (k : Int)] W fun e w' => e = .returned (.tuple #[.int .i64 m, .bool true]) ∧ Below W.heap.size W w') := Lib.hid (fun W hW => refGreatestAt_any s ps a c b hb hok.n0 hok.n12 hok.each k hk _ _ (.inr ⟨rfl, hm.symm, hm0⟩) W hW)
  have HST := Lib.hid hst
  have HGR := Lib.hid hgr
  have HBO := Lib.hid hO
  have HPP := Lib.hid (postE_in hk)
  have HSE := Lib.hid hE
  have F0 := Lib.hid (Fr.b3 w 24 #[.string s, .slice (some a) ps.length c] 26 #[.int .i64 b.brk, .int .i64 b.drag, .int .i64 b.drv] 28 #[.int .i64 (k : Int), .int .i64 sq])
  have HA := Lib.hid hA
  have HG := Lib.hid hg
  clear hA hg
  have HSH := Lib.hid hsh
  have hl14 : ps.length ≤ 14 := (short_iff.1 hsh).2
  clear hsh
  clear hst hgr hO hE hm hk hok hb
  go_enter Try.func3, Try.ntmps3
  go_wp2_with fail
  refine (awake_any _).mono ?_
  rintro e w1 ⟨rfl, hb1⟩
  have G1 := Fr.call F0.out hb1
  obtain ⟨k0_0, k0_1, kf0, kg0⟩ := (G1.get 2 rfl).two
  have kz0 := (G1.get 2 rfl).lt
  obtain ⟨k1_0, k1_1, k1_2⟩ := (G1.get 1 rfl).three
  have kz1 := (G1.get 1 rfl).lt
  obtain ⟨k2_0, k2_1, kf2, kg2⟩ := (G1.get 0 rfl).two
  have kz2 := (G1.get 0 rfl).lt
  have F1 : Hid (Fr w _ [(w.heap.size + 1 + 1, 28, #[.int .i64 (k : Int), .int .i64 sq]), (w.heap.size + 1, 26, #[.int .i64 b.brk, .int .i64 b.drag, .int .i64 b.drv]), (w.heap.size, 24, #[.string s, .slice (some a) ps.length c])]) := Lib.hid G1
  clear hb1 G1 F0
  go_wp2_with fail
  refine (Short_any s hs ps (some a) c hl _).mono ?_
  rintro e w2 ⟨rfl, hb2⟩
  rw [HSH.out]
  clear k0_0 k0_1 kf0 kg0 kz0 k1_0 k1_1 k1_2 kz1 k2_0 k2_1 kf2 kg2 kz2
  have G2 := Fr.call F1.out hb2
  obtain ⟨k0_0, k0_1, kf0, kg0⟩ := (G2.get 2 rfl).two
  have kz0 := (G2.get 2 rfl).lt
  obtain ⟨k1_0, k1_1, k1_2⟩ := (G2.get 1 rfl).three
  have kz1 := (G2.get 1 rfl).lt
  obtain ⟨k2_0, k2_1, kf2, kg2⟩ := (G2.get 0 rfl).two
  have kz2 := (G2.get 0 rfl).lt
  have F2 : Hid (Fr w _ [(w.heap.size + 1 + 1, 28, #[.int .i64 (k : Int), .int .i64 sq]), (w.heap.size + 1, 26, #[.int .i64 b.brk, .int .i64 b.drag, .int .i64 b.drv]), (w.heap.size, 24, #[.string s, .slice (some a) ps.length c])]) := Lib.hid G2
  clear hb2 G2 F1
  go_upto_region 5 with fail
  clear k0_0 k0_1 kf0 kg0 kz0 k1_0 k1_1 k1_2 kz1 k2_0 k2_1 kf2 kg2 kz2
  go_cut [7, 8] from 22 to 29 (fun r e W => (∃ g : Hd, r = .slice g.A 0 g.c ∧ e = .int .i64 2 ∧ Lies W W.heap.size g.A (ic [])) ∧ Fr w2 W [])
  case first =>
    have HALL : Hid (∀ W, Fr w2 W [] → Fr w2 W [] ∧ W.cell? ⟨w.heap.size, 0, none⟩ = some (.string s) ∧ W.cell? ⟨w.heap.size, 1, none⟩ = some (.slice (some a) ps.length c) ∧ W.cell? ⟨w.heap.size + 1, 0, none⟩ = some (.int .i64 b.brk) ∧ W.cell? ⟨w.heap.size + 1, 1, none⟩ = some (.int .i64 b.drag) ∧ W.cell? ⟨w.heap.size + 1, 2, none⟩ = some (.int .i64 b.drv) ∧ W.cell? ⟨w.heap.size + 1 + 1, 0, none⟩ = some (.int .i64 (k : Int)) ∧ W.cell? ⟨w.heap.size + 1 + 1, 1, none⟩ = some (.int .i64 sq)) := Lib.hid (fun W hW => ⟨hW, ((F2.out.get 2 rfl).call hW.bl).cell 0, ((F2.out.get 2 rfl).call hW.bl).cell 1, ((F2.out.get 1 rfl).call hW.bl).cell 0, ((F2.out.get 1 rfl).call hW.bl).cell 1, ((F2.out.get 1 rfl).call hW.bl).cell 2, ((F2.out.get 0 rfl).call hW.bl).cell 0, ((F2.out.get 0 rfl).call hW.bl).cell 1⟩)
    have HAC := Lib.hid (Fr.lies HA.out F2.out)
    have F10 : Fr w2 _ [] := Fr.nil w2
    go_region_held3 (fun W => Fr w2 W [] ∧ W.cell? ⟨w.heap.size, 0, none⟩ = some (.string s) ∧ W.cell? ⟨w.heap.size, 1, none⟩ = some (.slice (some a) ps.length c) ∧ W.cell? ⟨w.heap.size + 1, 0, none⟩ = some (.int .i64 b.brk) ∧ W.cell? ⟨w.heap.size + 1, 1, none⟩ = some (.int .i64 b.drag) ∧ W.cell? ⟨w.heap.size + 1, 2, none⟩ = some (.int .i64 b.drv) ∧ W.cell? ⟨w.heap.size + 1 + 1, 0, none⟩ = some (.int .i64 (k : Int)) ∧ W.cell? ⟨w.heap.size + 1 + 1, 1, none⟩ = some (.int .i64 sq))
        ((go_split_ands; refine HALL.out _ ?_; (first | assumption | (repeat (first | assumption | refine Fr.new ?_ _ | refine Fr.drew ?_ | (refine Fr.set ?_ (by first | exact Nat.le_refl _ | omega | (simp; done) | (simp; omega)) (by first | (simp; done) | (simp; omega)) _))); done)))
        ((first
          | (go_at_call 10; go_split_ands; (with_reducible refine (Copy_any s ps ⟨(some a), c⟩ (by omega) HG.out _ (Fr.lies HAC.out (by assumption))).mono ?_); rintro e w1 ⟨g2, rfl, hl2, hk2, hb1⟩; have HL2 := Lib.hid hl2; have F4 := Fr.call (by assumption) hb1; clear hb1 hl2 hk2)
          | (go_at_call 9; go_split_ands; (with_reducible refine (HST.out _ _ _ HL2.out).mono ?_); rintro e w1 ⟨g3, rfl, hl3, hb1⟩; have HL3 := Lib.hid hl3; have F5 := Fr.call (by assumption) hb1; clear hb1 hl3)
          | fail "arm"))
    all_goals
      go_split_ands
      go_wp2_with fail
      go_meet
      exact ⟨⟨g3, rfl, rfl, HL3.out⟩, by assumption⟩
  case rest =>
    obtain ⟨wx7, rfl⟩ : ∃ W, W = wc := ⟨_, rfl⟩
    obtain ⟨⟨gx5, rfl, rfl, hy5⟩, hx⟩ := hcut
    have FC7 := Lib.hid (F2.out.call hx.bl)
    clear hx F2
    obtain ⟨k0_0, k0_1, kf0, kg0⟩ := (FC7.out.get 2 rfl).two
    have kz0 := (FC7.out.get 2 rfl).lt
    obtain ⟨k1_0, k1_1, k1_2⟩ := (FC7.out.get 1 rfl).three
    have kz1 := (FC7.out.get 1 rfl).lt
    obtain ⟨k2_0, k2_1, kf2, kg2⟩ := (FC7.out.get 0 rfl).two
    have kz2 := (FC7.out.get 0 rfl).lt
    have Y5 := Lib.hid hy5
    clear hy5
    go_upto_region 6 with fail
    clear k0_0 k0_1 kf0 kg0 kz0 k1_0 k1_1 k1_2 kz1 k2_0 k2_1 kf2 kg2 kz2
    go_cut [9, 10] from 30 to 38 (fun r e W => (r = .int .i64 m ∧ e = .int .i64 0) ∧ Fr wx7 W [])
    case first =>
      have HALL : Hid (∀ W, Fr wx7 W [] → Fr wx7 W [] ∧ W.cell? ⟨w.heap.size, 0, none⟩ = some (.string s) ∧ W.cell? ⟨w.heap.size, 1, none⟩ = some (.slice (some a) ps.length c) ∧ W.cell? ⟨w.heap.size + 1, 0, none⟩ = some (.int .i64 b.brk) ∧ W.cell? ⟨w.heap.size + 1, 1, none⟩ = some (.int .i64 b.drag) ∧ W.cell? ⟨w.heap.size + 1, 2, none⟩ = some (.int .i64 b.drv) ∧ W.cell? ⟨w.heap.size + 1 + 1, 0, none⟩ = some (.int .i64 (k : Int)) ∧ W.cell? ⟨w.heap.size + 1 + 1, 1, none⟩ = some (.int .i64 sq)) := Lib.hid (fun W hW => ⟨hW, ((FC7.out.get 2 rfl).call hW.bl).cell 0, ((FC7.out.get 2 rfl).call hW.bl).cell 1, ((FC7.out.get 1 rfl).call hW.bl).cell 0, ((FC7.out.get 1 rfl).call hW.bl).cell 1, ((FC7.out.get 1 rfl).call hW.bl).cell 2, ((FC7.out.get 0 rfl).call hW.bl).cell 0, ((FC7.out.get 0 rfl).call hW.bl).cell 1⟩)
      have HAC := Lib.hid (Fr.lies HA.out FC7.out)
      have F10 : Fr wx7 _ [] := Fr.nil wx7
      go_region_held3 (fun W => Fr wx7 W [] ∧ W.cell? ⟨w.heap.size, 0, none⟩ = some (.string s) ∧ W.cell? ⟨w.heap.size, 1, none⟩ = some (.slice (some a) ps.length c) ∧ W.cell? ⟨w.heap.size + 1, 0, none⟩ = some (.int .i64 b.brk) ∧ W.cell? ⟨w.heap.size + 1, 1, none⟩ = some (.int .i64 b.drag) ∧ W.cell? ⟨w.heap.size + 1, 2, none⟩ = some (.int .i64 b.drv) ∧ W.cell? ⟨w.heap.size + 1 + 1, 0, none⟩ = some (.int .i64 (k : Int)) ∧ W.cell? ⟨w.heap.size + 1 + 1, 1, none⟩ = some (.int .i64 sq))
          ((go_split_ands; refine HALL.out _ ?_; (first | assumption | (repeat (first | assumption | refine Fr.new ?_ _ | refine Fr.drew ?_ | (refine Fr.set ?_ (by first | exact Nat.le_refl _ | omega | (simp; done) | (simp; omega)) (by first | (simp; done) | (simp; omega)) _))); done)))
          ((first
            | (go_at_call 10; go_split_ands; (with_reducible refine (Copy_any s ps ⟨(some a), c⟩ (by omega) HG.out _ (Fr.lies HAC.out (by assumption))).mono ?_); rintro e w1 ⟨g2, rfl, hl2, hk2, hb1⟩; have HL2 := Lib.hid hl2; have F4 := Fr.call (by assumption) hb1; clear hb1 hl2 hk2)
            | (go_at_call 11; go_split_ands; (with_reducible refine (HGR.out _ _ _ HL2.out).mono ?_); rintro e w1 ⟨rfl, hb1⟩; have F5 := Fr.call (by assumption) hb1; clear hb1)
            | fail "arm"))
      all_goals
        go_split_ands
        go_wp2_with fail
        go_meet
        exact ⟨⟨rfl, rfl⟩, by assumption⟩
    case rest =>
      obtain ⟨wx8, rfl⟩ : ∃ W, W = wc := ⟨_, rfl⟩
      obtain ⟨⟨rfl, rfl⟩, hx⟩ := hcut
      have FC8 := Lib.hid (FC7.out.call hx.bl)
      have Y5 := Lib.hid (Lies.call Y5.out hx.bl)
      clear hx FC7
      obtain ⟨k0_0, k0_1, kf0, kg0⟩ := (FC8.out.get 2 rfl).two
      have kz0 := (FC8.out.get 2 rfl).lt
      obtain ⟨k1_0, k1_1, k1_2⟩ := (FC8.out.get 1 rfl).three
      have kz1 := (FC8.out.get 1 rfl).lt
      obtain ⟨k2_0, k2_1, kf2, kg2⟩ := (FC8.out.get 0 rfl).two
      have kz2 := (FC8.out.get 0 rfl).lt
      go_wp2_with fail
      refine (BothErr_any s hs ps (some a) c hl b _ (Fr.lies HA.out FC8.out)).mono ?_
      rintro e w3 ⟨rfl, hb3⟩
      rw [HBO.out]
      clear k0_0 k0_1 kf0 kg0 kz0 k1_0 k1_1 k1_2 kz1 k2_0 k2_1 kf2 kg2 kz2
      have G3 := Fr.call FC8.out hb3
      have Y5 := Lib.hid (Lies.call Y5.out hb3)
      obtain ⟨k0_0, k0_1, kf0, kg0⟩ := (G3.get 2 rfl).two
      have kz0 := (G3.get 2 rfl).lt
      obtain ⟨k1_0, k1_1, k1_2⟩ := (G3.get 1 rfl).three
      have kz1 := (G3.get 1 rfl).lt
      obtain ⟨k2_0, k2_1, kf2, kg2⟩ := (G3.get 0 rfl).two
      have kz2 := (G3.get 0 rfl).lt
      have F3 : Hid (Fr w _ [(w.heap.size + 1 + 1, 28, #[.int .i64 (k : Int), .int .i64 sq]), (w.heap.size + 1, 26, #[.int .i64 b.brk, .int .i64 b.drag, .int .i64 b.drv]), (w.heap.size, 24, #[.string s, .slice (some a) ps.length c])]) := Lib.hid G3
      clear hb3 G3 FC8
      go_wp2_with (go_at_call 13; refine (Within_any _ _ _ _).mono ?_; rintro e w' ⟨rfl, rfl⟩; rw [HPP.out])
      refine (HRG.out _ (Fr.lies HA.out F3.out)).mono ?_
      rintro e w4 ⟨rfl, hb4⟩
      clear k0_0 k0_1 kf0 kg0 kz0 k1_0 k1_1 k1_2 kz1 k2_0 k2_1 kf2 kg2 kz2
      have G4 := Lib.hid (F3.out.call hb4)
      have Y5 := Lib.hid (Lies.call Y5.out hb4)
      clear hb4 F3
      obtain ⟨k0_0, k0_1, kf0, kg0⟩ := (G4.out.get 2 rfl).two
      have kz0 := (G4.out.get 2 rfl).lt
      obtain ⟨k1_0, k1_1, k1_2⟩ := (G4.out.get 1 rfl).three
      have kz1 := (G4.out.get 1 rfl).lt
      obtain ⟨k2_0, k2_1, kf2, kg2⟩ := (G4.out.get 0 rfl).two
      have kz2 := (G4.out.get 0 rfl).lt
      go_wp2_with fail
      refine (StateErr_any s ps (some a) c (by omega) (k : Int) sq _).mono ?_
      rintro e w5 ⟨rfl, hb5⟩
      rw [HSE.out]
      clear k0_0 k0_1 kf0 kg0 kz0 k1_0 k1_1 k1_2 kz1 k2_0 k2_1 kf2 kg2 kz2
      have G5 := Fr.call G4.out hb5
      have Y5 := Lib.hid (Lies.call Y5.out hb5)
      obtain ⟨k0_0, k0_1, kf0, kg0⟩ := (G5.get 2 rfl).two
      have kz0 := (G5.get 2 rfl).lt
      obtain ⟨k1_0, k1_1, k1_2⟩ := (G5.get 1 rfl).three
      have kz1 := (G5.get 1 rfl).lt
      obtain ⟨k2_0, k2_1, kf2, kg2⟩ := (G5.get 0 rfl).two
      have kz2 := (G5.get 0 rfl).lt
      have F5 : Hid (Fr w _ [(w.heap.size + 1 + 1, 28, #[.int .i64 (k : Int), .int .i64 sq]), (w.heap.size + 1, 26, #[.int .i64 b.brk, .int .i64 b.drag, .int .i64 b.drv]), (w.heap.size, 24, #[.string s, .slice (some a) ps.length c])]) := Lib.hid G5
      clear hb5 G5 G4
      go_wp2_with fail
      go_ret
      exact ⟨rfl, F5.out.bl⟩

set_option maxHeartbeats 8000000 in
set_option maxRecDepth 100000 in
theorem st_C3 (s : ByteArray) (hs : s.size ≤ maxLen) (ps : List Bp) (A : Option Addr) (c : Nat) (hg : HdOk ⟨A, c⟩) (hl : ps.length ≤ maxLen) (b : Bs) (k : Nat) (sq : Int) (NL : Nat) (LS : List Int) (m : Int) (hsh : shortB s ps = true) (hO : bothE s ps b = 0) (hk : k ≤ ps.length) (hE : stateE ps (k : Int) sq = 0) (hm : gtS ps b k ps.length = -1) (hst : (∀ (A' : Option Addr) (c' : Nat) (W : World), Lies W W.heap.size A' (ps.flatMap pc) → Calls Try.prog 9 #[.agg #[.string s, .slice A' ps.length c'], .agg #[.int .i64 b.brk, .int .i64 b.drag, .int .i64 b.drv], .agg #[.int .i64 (k : Int), .int .i64 sq]] W fun e w' => ∃ g : Hd, e = .returned (.tuple #[.slice g.A 0 g.c, .int .i64 0]) ∧ Lies w' w'.heap.size g.A (ic LS) ∧ Below W.heap.size W w')) (hgr : (∀ (A' : Option Addr) (c' : Nat) (W : World), Lies W W.heap.size A' (ps.flatMap pc) → Calls Try.prog 11 #[.agg #[.string s, .slice A' ps.length c'], .agg #[.int .i64 b.brk, .int .i64 b.drag, .int .i64 b.drv], .int .i64 (k : Int)] W fun e w' => e = .returned (.tuple #[.int .i64 0, .int .i64 12]) ∧ Below W.heap.size W w')) (hsq : 0 ≤ sq ∧ sq ≤ 20000000000) (hLS : LS = stV ps b k sq ps.length) (hNL : LS.length = 0) (w : World) (hA : Lies w w.heap.size A (ps.flatMap pc)) : Calls Try.prog 3 #[.agg #[.string s, .slice A ps.length c], .agg #[.int .i64 b.brk, .int .i64 b.drag, .int .i64 b.drv], .agg #[.int .i64 (k : Int), .int .i64 sq]] w fun e w' => e = .returned (.bool true) ∧ Below w.heap.size w w' := by
  obtain ⟨hok, hb⟩ := bothE_zero hO
  obtain ⟨a, rfl⟩ := ps_some hA hok.n0
  have h12 := hok.n12
  have HRG : Hid (∀ W, Lies W W.heap.size (some a) (ps.flatMap pc) → Calls Try.prog 14 #[.agg #[.string s, .slice (some a) ps.length c], .agg #[.int .i64 b.brk, .int .i64 b.drag, .int .i64 b.drv], .int .i64 (k : Int)] W fun e w' => e = .returned (.tuple #[.int .i64 0, .bool false]) ∧ Below W.heap.size W w') := Lib.hid (fun W hW => refGreatestAt_any s ps a c b hb hok.n0 hok.n12 hok.each k hk _ _ (.inl ⟨rfl, rfl, hm⟩) W hW)
  have hln : LS.length ≤ maxLen := by rw [hNL]; exact Nat.zero_le _
  have HRS : Hid (∀ W, Lies W W.heap.size (some a) (ps.flatMap pc) → Calls Try.prog 16 #[.agg #[.string s, .slice (some a) ps.length c], .agg #[.int .i64 b.brk, .int .i64 b.drag, .int .i64 b.drv], .agg #[.int .i64 (k : Int), .int .i64 sq]] W fun e w' => ∃ g : Hd, e = .returned (.slice g.A 0 g.c) ∧ Lies w' w'.heap.size g.A (ic LS) ∧ Below W.heap.size W w') := Lib.hid (fun W hW => by have := refStopsOf_any s ps a c b hb hok.n0 hok.n12 hok.each k hk sq hsq W hW; rw [← hLS] at this; exact this.mono fun e w' ⟨g, he, hL, _, hb⟩ => ⟨g, by rw [he, hNL], hL, hb⟩)
  have HIN : Hid (∀ (A B : Option Addr) (c d : Nat) (W : World), Lies W W.heap.size A (ic LS) → Lies W W.heap.size B (ic LS) → Calls Try.prog 17 #[.slice A 0 c, .slice B 0 d] W fun e w' => e = .returned (.bool true) ∧ Below W.heap.size W w') := Lib.hid (fun A B c d W h1 h2 => by have := Ints_same LS A B c d hln W h1 h2; rw [hNL] at this; exact this)
  have HST := Lib.hid hst
  have HGR := Lib.hid hgr
  have HBO := Lib.hid hO
  have HPP := Lib.hid (postE_in hk)
  have HSE := Lib.hid hE
  have F0 := Lib.hid (Fr.b3 w 24 #[.string s, .slice (some a) ps.length c] 26 #[.int .i64 b.brk, .int .i64 b.drag, .int .i64 b.drv] 28 #[.int .i64 (k : Int), .int .i64 sq])
  have HA := Lib.hid hA
  have HG := Lib.hid hg
  clear hA hg
  have HSH := Lib.hid hsh
  have hl14 : ps.length ≤ 14 := (short_iff.1 hsh).2
  clear hsh
  clear hst hgr hO hE hm hk hok hb hLS hNL hln hsq
  go_enter Try.func3, Try.ntmps3
  go_wp2_with fail
  refine (awake_any _).mono ?_
  rintro e w1 ⟨rfl, hb1⟩
  have G1 := Fr.call F0.out hb1
  obtain ⟨k0_0, k0_1, kf0, kg0⟩ := (G1.get 2 rfl).two
  have kz0 := (G1.get 2 rfl).lt
  obtain ⟨k1_0, k1_1, k1_2⟩ := (G1.get 1 rfl).three
  have kz1 := (G1.get 1 rfl).lt
  obtain ⟨k2_0, k2_1, kf2, kg2⟩ := (G1.get 0 rfl).two
  have kz2 := (G1.get 0 rfl).lt
  have F1 : Hid (Fr w _ [(w.heap.size + 1 + 1, 28, #[.int .i64 (k : Int), .int .i64 sq]), (w.heap.size + 1, 26, #[.int .i64 b.brk, .int .i64 b.drag, .int .i64 b.drv]), (w.heap.size, 24, #[.string s, .slice (some a) ps.length c])]) := Lib.hid G1
  clear hb1 G1 F0
  go_wp2_with fail
  refine (Short_any s hs ps (some a) c hl _).mono ?_
  rintro e w2 ⟨rfl, hb2⟩
  rw [HSH.out]
  clear k0_0 k0_1 kf0 kg0 kz0 k1_0 k1_1 k1_2 kz1 k2_0 k2_1 kf2 kg2 kz2
  have G2 := Fr.call F1.out hb2
  obtain ⟨k0_0, k0_1, kf0, kg0⟩ := (G2.get 2 rfl).two
  have kz0 := (G2.get 2 rfl).lt
  obtain ⟨k1_0, k1_1, k1_2⟩ := (G2.get 1 rfl).three
  have kz1 := (G2.get 1 rfl).lt
  obtain ⟨k2_0, k2_1, kf2, kg2⟩ := (G2.get 0 rfl).two
  have kz2 := (G2.get 0 rfl).lt
  have F2 : Hid (Fr w _ [(w.heap.size + 1 + 1, 28, #[.int .i64 (k : Int), .int .i64 sq]), (w.heap.size + 1, 26, #[.int .i64 b.brk, .int .i64 b.drag, .int .i64 b.drv]), (w.heap.size, 24, #[.string s, .slice (some a) ps.length c])]) := Lib.hid G2
  clear hb2 G2 F1
  go_upto_region 5 with fail
  clear k0_0 k0_1 kf0 kg0 kz0 k1_0 k1_1 k1_2 kz1 k2_0 k2_1 kf2 kg2 kz2
  go_cut [7, 8] from 22 to 29 (fun r e W => (∃ g : Hd, r = .slice g.A 0 g.c ∧ e = .int .i64 0 ∧ Lies W W.heap.size g.A (ic LS)) ∧ Fr w2 W [])
  case first =>
    have HALL : Hid (∀ W, Fr w2 W [] → Fr w2 W [] ∧ W.cell? ⟨w.heap.size, 0, none⟩ = some (.string s) ∧ W.cell? ⟨w.heap.size, 1, none⟩ = some (.slice (some a) ps.length c) ∧ W.cell? ⟨w.heap.size + 1, 0, none⟩ = some (.int .i64 b.brk) ∧ W.cell? ⟨w.heap.size + 1, 1, none⟩ = some (.int .i64 b.drag) ∧ W.cell? ⟨w.heap.size + 1, 2, none⟩ = some (.int .i64 b.drv) ∧ W.cell? ⟨w.heap.size + 1 + 1, 0, none⟩ = some (.int .i64 (k : Int)) ∧ W.cell? ⟨w.heap.size + 1 + 1, 1, none⟩ = some (.int .i64 sq)) := Lib.hid (fun W hW => ⟨hW, ((F2.out.get 2 rfl).call hW.bl).cell 0, ((F2.out.get 2 rfl).call hW.bl).cell 1, ((F2.out.get 1 rfl).call hW.bl).cell 0, ((F2.out.get 1 rfl).call hW.bl).cell 1, ((F2.out.get 1 rfl).call hW.bl).cell 2, ((F2.out.get 0 rfl).call hW.bl).cell 0, ((F2.out.get 0 rfl).call hW.bl).cell 1⟩)
    have HAC := Lib.hid (Fr.lies HA.out F2.out)
    have F10 : Fr w2 _ [] := Fr.nil w2
    go_region_held3 (fun W => Fr w2 W [] ∧ W.cell? ⟨w.heap.size, 0, none⟩ = some (.string s) ∧ W.cell? ⟨w.heap.size, 1, none⟩ = some (.slice (some a) ps.length c) ∧ W.cell? ⟨w.heap.size + 1, 0, none⟩ = some (.int .i64 b.brk) ∧ W.cell? ⟨w.heap.size + 1, 1, none⟩ = some (.int .i64 b.drag) ∧ W.cell? ⟨w.heap.size + 1, 2, none⟩ = some (.int .i64 b.drv) ∧ W.cell? ⟨w.heap.size + 1 + 1, 0, none⟩ = some (.int .i64 (k : Int)) ∧ W.cell? ⟨w.heap.size + 1 + 1, 1, none⟩ = some (.int .i64 sq))
        ((go_split_ands; refine HALL.out _ ?_; (first | assumption | (repeat (first | assumption | refine Fr.new ?_ _ | refine Fr.drew ?_ | (refine Fr.set ?_ (by first | exact Nat.le_refl _ | omega | (simp; done) | (simp; omega)) (by first | (simp; done) | (simp; omega)) _))); done)))
        ((first
          | (go_at_call 10; go_split_ands; (with_reducible refine (Copy_any s ps ⟨(some a), c⟩ (by omega) HG.out _ (Fr.lies HAC.out (by assumption))).mono ?_); rintro e w1 ⟨g2, rfl, hl2, hk2, hb1⟩; have HL2 := Lib.hid hl2; have F4 := Fr.call (by assumption) hb1; clear hb1 hl2 hk2)
          | (go_at_call 9; go_split_ands; (with_reducible refine (HST.out _ _ _ HL2.out).mono ?_); rintro e w1 ⟨g3, rfl, hl3, hb1⟩; have HL3 := Lib.hid hl3; have F5 := Fr.call (by assumption) hb1; clear hb1 hl3)
          | fail "arm"))
    all_goals
      go_split_ands
      go_wp2_with fail
      go_meet
      exact ⟨⟨g3, rfl, rfl, HL3.out⟩, by assumption⟩
  case rest =>
    obtain ⟨wx9, rfl⟩ : ∃ W, W = wc := ⟨_, rfl⟩
    obtain ⟨⟨gx5, rfl, rfl, hy5⟩, hx⟩ := hcut
    have FC9 := Lib.hid (F2.out.call hx.bl)
    clear hx F2
    obtain ⟨k0_0, k0_1, kf0, kg0⟩ := (FC9.out.get 2 rfl).two
    have kz0 := (FC9.out.get 2 rfl).lt
    obtain ⟨k1_0, k1_1, k1_2⟩ := (FC9.out.get 1 rfl).three
    have kz1 := (FC9.out.get 1 rfl).lt
    obtain ⟨k2_0, k2_1, kf2, kg2⟩ := (FC9.out.get 0 rfl).two
    have kz2 := (FC9.out.get 0 rfl).lt
    have Y5 := Lib.hid hy5
    clear hy5
    go_upto_region 6 with fail
    clear k0_0 k0_1 kf0 kg0 kz0 k1_0 k1_1 k1_2 kz1 k2_0 k2_1 kf2 kg2 kz2
    go_cut [9, 10] from 30 to 38 (fun r e W => (r = .int .i64 0 ∧ e = .int .i64 12) ∧ Fr wx9 W [])
    case first =>
      have HALL : Hid (∀ W, Fr wx9 W [] → Fr wx9 W [] ∧ W.cell? ⟨w.heap.size, 0, none⟩ = some (.string s) ∧ W.cell? ⟨w.heap.size, 1, none⟩ = some (.slice (some a) ps.length c) ∧ W.cell? ⟨w.heap.size + 1, 0, none⟩ = some (.int .i64 b.brk) ∧ W.cell? ⟨w.heap.size + 1, 1, none⟩ = some (.int .i64 b.drag) ∧ W.cell? ⟨w.heap.size + 1, 2, none⟩ = some (.int .i64 b.drv) ∧ W.cell? ⟨w.heap.size + 1 + 1, 0, none⟩ = some (.int .i64 (k : Int)) ∧ W.cell? ⟨w.heap.size + 1 + 1, 1, none⟩ = some (.int .i64 sq)) := Lib.hid (fun W hW => ⟨hW, ((FC9.out.get 2 rfl).call hW.bl).cell 0, ((FC9.out.get 2 rfl).call hW.bl).cell 1, ((FC9.out.get 1 rfl).call hW.bl).cell 0, ((FC9.out.get 1 rfl).call hW.bl).cell 1, ((FC9.out.get 1 rfl).call hW.bl).cell 2, ((FC9.out.get 0 rfl).call hW.bl).cell 0, ((FC9.out.get 0 rfl).call hW.bl).cell 1⟩)
      have HAC := Lib.hid (Fr.lies HA.out FC9.out)
      have F10 : Fr wx9 _ [] := Fr.nil wx9
      go_region_held3 (fun W => Fr wx9 W [] ∧ W.cell? ⟨w.heap.size, 0, none⟩ = some (.string s) ∧ W.cell? ⟨w.heap.size, 1, none⟩ = some (.slice (some a) ps.length c) ∧ W.cell? ⟨w.heap.size + 1, 0, none⟩ = some (.int .i64 b.brk) ∧ W.cell? ⟨w.heap.size + 1, 1, none⟩ = some (.int .i64 b.drag) ∧ W.cell? ⟨w.heap.size + 1, 2, none⟩ = some (.int .i64 b.drv) ∧ W.cell? ⟨w.heap.size + 1 + 1, 0, none⟩ = some (.int .i64 (k : Int)) ∧ W.cell? ⟨w.heap.size + 1 + 1, 1, none⟩ = some (.int .i64 sq))
          ((go_split_ands; refine HALL.out _ ?_; (first | assumption | (repeat (first | assumption | refine Fr.new ?_ _ | refine Fr.drew ?_ | (refine Fr.set ?_ (by first | exact Nat.le_refl _ | omega | (simp; done) | (simp; omega)) (by first | (simp; done) | (simp; omega)) _))); done)))
          ((first
            | (go_at_call 10; go_split_ands; (with_reducible refine (Copy_any s ps ⟨(some a), c⟩ (by omega) HG.out _ (Fr.lies HAC.out (by assumption))).mono ?_); rintro e w1 ⟨g2, rfl, hl2, hk2, hb1⟩; have HL2 := Lib.hid hl2; have F4 := Fr.call (by assumption) hb1; clear hb1 hl2 hk2)
            | (go_at_call 11; go_split_ands; (with_reducible refine (HGR.out _ _ _ HL2.out).mono ?_); rintro e w1 ⟨rfl, hb1⟩; have F5 := Fr.call (by assumption) hb1; clear hb1)
            | fail "arm"))
      all_goals
        go_split_ands
        go_wp2_with fail
        go_meet
        exact ⟨⟨rfl, rfl⟩, by assumption⟩
    case rest =>
      obtain ⟨wx10, rfl⟩ : ∃ W, W = wc := ⟨_, rfl⟩
      obtain ⟨⟨rfl, rfl⟩, hx⟩ := hcut
      have FC10 := Lib.hid (FC9.out.call hx.bl)
      have Y5 := Lib.hid (Lies.call Y5.out hx.bl)
      clear hx FC9
      obtain ⟨k0_0, k0_1, kf0, kg0⟩ := (FC10.out.get 2 rfl).two
      have kz0 := (FC10.out.get 2 rfl).lt
      obtain ⟨k1_0, k1_1, k1_2⟩ := (FC10.out.get 1 rfl).three
      have kz1 := (FC10.out.get 1 rfl).lt
      obtain ⟨k2_0, k2_1, kf2, kg2⟩ := (FC10.out.get 0 rfl).two
      have kz2 := (FC10.out.get 0 rfl).lt
      go_wp2_with fail
      refine (BothErr_any s hs ps (some a) c hl b _ (Fr.lies HA.out FC10.out)).mono ?_
      rintro e w3 ⟨rfl, hb3⟩
      rw [HBO.out]
      clear k0_0 k0_1 kf0 kg0 kz0 k1_0 k1_1 k1_2 kz1 k2_0 k2_1 kf2 kg2 kz2
      have G3 := Fr.call FC10.out hb3
      have Y5 := Lib.hid (Lies.call Y5.out hb3)
      obtain ⟨k0_0, k0_1, kf0, kg0⟩ := (G3.get 2 rfl).two
      have kz0 := (G3.get 2 rfl).lt
      obtain ⟨k1_0, k1_1, k1_2⟩ := (G3.get 1 rfl).three
      have kz1 := (G3.get 1 rfl).lt
      obtain ⟨k2_0, k2_1, kf2, kg2⟩ := (G3.get 0 rfl).two
      have kz2 := (G3.get 0 rfl).lt
      have F3 : Hid (Fr w _ [(w.heap.size + 1 + 1, 28, #[.int .i64 (k : Int), .int .i64 sq]), (w.heap.size + 1, 26, #[.int .i64 b.brk, .int .i64 b.drag, .int .i64 b.drv]), (w.heap.size, 24, #[.string s, .slice (some a) ps.length c])]) := Lib.hid G3
      clear hb3 G3 FC10
      go_wp2_with (go_at_call 13; refine (Within_any _ _ _ _).mono ?_; rintro e w' ⟨rfl, rfl⟩; rw [HPP.out])
      refine (HRG.out _ (Fr.lies HA.out F3.out)).mono ?_
      rintro e w4 ⟨rfl, hb4⟩
      clear k0_0 k0_1 kf0 kg0 kz0 k1_0 k1_1 k1_2 kz1 k2_0 k2_1 kf2 kg2 kz2
      have G4 := Lib.hid (F3.out.call hb4)
      have Y5 := Lib.hid (Lies.call Y5.out hb4)
      clear hb4 F3
      obtain ⟨k0_0, k0_1, kf0, kg0⟩ := (G4.out.get 2 rfl).two
      have kz0 := (G4.out.get 2 rfl).lt
      obtain ⟨k1_0, k1_1, k1_2⟩ := (G4.out.get 1 rfl).three
      have kz1 := (G4.out.get 1 rfl).lt
      obtain ⟨k2_0, k2_1, kf2, kg2⟩ := (G4.out.get 0 rfl).two
      have kz2 := (G4.out.get 0 rfl).lt
      go_wp2_with fail
      refine (StateErr_any s ps (some a) c (by omega) (k : Int) sq _).mono ?_
      rintro e w5 ⟨rfl, hb5⟩
      rw [HSE.out]
      clear k0_0 k0_1 kf0 kg0 kz0 k1_0 k1_1 k1_2 kz1 k2_0 k2_1 kf2 kg2 kz2
      have G5 := Fr.call G4.out hb5
      have Y5 := Lib.hid (Lies.call Y5.out hb5)
      obtain ⟨k0_0, k0_1, kf0, kg0⟩ := (G5.get 2 rfl).two
      have kz0 := (G5.get 2 rfl).lt
      obtain ⟨k1_0, k1_1, k1_2⟩ := (G5.get 1 rfl).three
      have kz1 := (G5.get 1 rfl).lt
      obtain ⟨k2_0, k2_1, kf2, kg2⟩ := (G5.get 0 rfl).two
      have kz2 := (G5.get 0 rfl).lt
      have F5 : Hid (Fr w _ [(w.heap.size + 1 + 1, 28, #[.int .i64 (k : Int), .int .i64 sq]), (w.heap.size + 1, 26, #[.int .i64 b.brk, .int .i64 b.drag, .int .i64 b.drv]), (w.heap.size, 24, #[.string s, .slice (some a) ps.length c])]) := Lib.hid G5
      clear hb5 G5 G4
      go_wp2_with fail
      refine (HRS.out _ (Fr.lies HA.out F5.out)).mono ?_
      rintro e w6 ⟨gw, rfl, hw5, hb6⟩
      clear k0_0 k0_1 kf0 kg0 kz0 k1_0 k1_1 k1_2 kz1 k2_0 k2_1 kf2 kg2 kz2
      have G6 := Fr.call F5.out hb6
      have Z5 := Lib.hid hw5
      have Y5 := Lib.hid (Lies.call Y5.out hb6)
      obtain ⟨k0_0, k0_1, kf0, kg0⟩ := (G6.get 2 rfl).two
      have kz0 := (G6.get 2 rfl).lt
      obtain ⟨k1_0, k1_1, k1_2⟩ := (G6.get 1 rfl).three
      have kz1 := (G6.get 1 rfl).lt
      obtain ⟨k2_0, k2_1, kf2, kg2⟩ := (G6.get 0 rfl).two
      have kz2 := (G6.get 0 rfl).lt
      have F6 : Hid (Fr w _ [(w.heap.size + 1 + 1, 28, #[.int .i64 (k : Int), .int .i64 sq]), (w.heap.size + 1, 26, #[.int .i64 b.brk, .int .i64 b.drag, .int .i64 b.drv]), (w.heap.size, 24, #[.string s, .slice (some a) ps.length c])]) := Lib.hid G6
      clear hb6 G6 F5
      clear hw5
      go_wp2_with fail
      refine (HIN.out _ _ _ _ _ Y5.out Z5.out).mono ?_
      rintro e w7 ⟨rfl, hb7⟩
      clear k0_0 k0_1 kf0 kg0 kz0 k1_0 k1_1 k1_2 kz1 k2_0 k2_1 kf2 kg2 kz2
      have G7 := Fr.call F6.out hb7
      obtain ⟨k0_0, k0_1, kf0, kg0⟩ := (G7.get 2 rfl).two
      have kz0 := (G7.get 2 rfl).lt
      obtain ⟨k1_0, k1_1, k1_2⟩ := (G7.get 1 rfl).three
      have kz1 := (G7.get 1 rfl).lt
      obtain ⟨k2_0, k2_1, kf2, kg2⟩ := (G7.get 0 rfl).two
      have kz2 := (G7.get 0 rfl).lt
      have F7 : Hid (Fr w _ [(w.heap.size + 1 + 1, 28, #[.int .i64 (k : Int), .int .i64 sq]), (w.heap.size + 1, 26, #[.int .i64 b.brk, .int .i64 b.drag, .int .i64 b.drv]), (w.heap.size, 24, #[.string s, .slice (some a) ps.length c])]) := Lib.hid G7
      clear hb7 G7 F6
      clear Y5 Z5
      go_wp2_with fail
      go_ret
      exact ⟨rfl, F7.out.bl⟩

set_option maxHeartbeats 8000000 in
set_option maxRecDepth 100000 in
theorem st_D (s : ByteArray) (hs : s.size ≤ maxLen) (ps : List Bp) (A : Option Addr) (c : Nat) (hg : HdOk ⟨A, c⟩) (hl : ps.length ≤ maxLen) (b : Bs) (k : Nat) (sq : Int) (NL : Nat) (LS : List Int) (m : Int) (hsh : shortB s ps = true) (hO : bothE s ps b = 0) (hk : k ≤ ps.length) (hE : stateE ps (k : Int) sq = 0) (hm : gtS ps b k ps.length = m) (hst : (∀ (A' : Option Addr) (c' : Nat) (W : World), Lies W W.heap.size A' (ps.flatMap pc) → Calls Try.prog 9 #[.agg #[.string s, .slice A' ps.length c'], .agg #[.int .i64 b.brk, .int .i64 b.drag, .int .i64 b.drv], .agg #[.int .i64 (k : Int), .int .i64 sq]] W fun e w' => ∃ g : Hd, e = .returned (.tuple #[.slice g.A 0 g.c, .int .i64 0]) ∧ Lies w' w'.heap.size g.A (ic LS) ∧ Below W.heap.size W w')) (hgr : (∀ (A' : Option Addr) (c' : Nat) (W : World), Lies W W.heap.size A' (ps.flatMap pc) → Calls Try.prog 11 #[.agg #[.string s, .slice A' ps.length c'], .agg #[.int .i64 b.brk, .int .i64 b.drag, .int .i64 b.drv], .int .i64 (k : Int)] W fun e w' => e = .returned (.tuple #[.int .i64 m, .int .i64 0]) ∧ Below W.heap.size W w')) (hm1 : ¬ m = -1) (hsq : 0 ≤ sq ∧ sq ≤ 20000000000) (hLS : LS = stV ps b k sq ps.length) (hNL : LS.length = 0) (N2 : Nat) (hn2 : (0 : Int) < (N2 : Int)) (hs2 : (∀ (A' : Option Addr) (c' : Nat) (W : World), Lies W W.heap.size A' (ps.flatMap pc) → Calls Try.prog 9 #[.agg #[.string s, .slice A' ps.length c'], .agg #[.int .i64 b.brk, .int .i64 b.drag, .int .i64 b.drv], .agg #[.int .i64 (k : Int), .int .i64 m]] W fun e w' => ∃ g : Hd, e = .returned (.tuple #[.slice g.A N2 g.c, .int .i64 0]) ∧ Below W.heap.size W w')) (w : World) (hA : Lies w w.heap.size A (ps.flatMap pc)) : Calls Try.prog 3 #[.agg #[.string s, .slice A ps.length c], .agg #[.int .i64 b.brk, .int .i64 b.drag, .int .i64 b.drv], .agg #[.int .i64 (k : Int), .int .i64 sq]] w fun e w' => e = .returned (.bool true) ∧ Below w.heap.size w w' := by
  obtain ⟨hok, hb⟩ := bothE_zero hO
  obtain ⟨a, rfl⟩ := ps_some hA hok.n0
  have h12 := hok.n12
  have hm0 : 0 ≤ m := by rcases gtS_in hok.each b k ps.length with h | h <;> omega
  have HRG : Hid (∀ W, Lies W W.heap.size (some a) (ps.flatMap pc) → Calls Try.prog 14 #[.agg #[.string s, .slice (some a) ps.length c], .agg #[.int .i64 b.brk, .int .i64 b.drag, .int .i64 b.drv], .int .i64 (k : Int)] W fun e w' => e = .returned (.tuple #[.int .i64 m, .bool true]) ∧ Below W.heap.size W w') := Lib.hid (fun W hW => refGreatestAt_any s ps a c b hb hok.n0 hok.n12 hok.each k hk _ _ (.inr ⟨rfl, hm.symm, hm0⟩) W hW)
  have hln : LS.length ≤ maxLen := by rw [hNL]; exact Nat.zero_le _
  have HRS : Hid (∀ W, Lies W W.heap.size (some a) (ps.flatMap pc) → Calls Try.prog 16 #[.agg #[.string s, .slice (some a) ps.length c], .agg #[.int .i64 b.brk, .int .i64 b.drag, .int .i64 b.drv], .agg #[.int .i64 (k : Int), .int .i64 sq]] W fun e w' => ∃ g : Hd, e = .returned (.slice g.A 0 g.c) ∧ Lies w' w'.heap.size g.A (ic LS) ∧ Below W.heap.size W w') := Lib.hid (fun W hW => by have := refStopsOf_any s ps a c b hb hok.n0 hok.n12 hok.each k hk sq hsq W hW; rw [← hLS] at this; exact this.mono fun e w' ⟨g, he, hL, _, hb⟩ => ⟨g, by rw [he, hNL], hL, hb⟩)
  have HIN : Hid (∀ (A B : Option Addr) (c d : Nat) (W : World), Lies W W.heap.size A (ic LS) → Lies W W.heap.size B (ic LS) → Calls Try.prog 17 #[.slice A 0 c, .slice B 0 d] W fun e w' => e = .returned (.bool true) ∧ Below W.heap.size W w') := Lib.hid (fun A B c d W h1 h2 => by have := Ints_same LS A B c d hln W h1 h2; rw [hNL] at this; exact this)
  have HST := Lib.hid hst
  have HGR := Lib.hid hgr
  have HBO := Lib.hid hO
  have HPP := Lib.hid (postE_in hk)
  have HSE := Lib.hid hE
  have HS2 := Lib.hid hs2
  have hn3 : 0 < N2 := by omega
  have hn4 : decide (0 < N2) = true := decide_eq_true hn3
  have F0 := Lib.hid (Fr.b3 w 24 #[.string s, .slice (some a) ps.length c] 26 #[.int .i64 b.brk, .int .i64 b.drag, .int .i64 b.drv] 28 #[.int .i64 (k : Int), .int .i64 sq])
  have HA := Lib.hid hA
  have HG := Lib.hid hg
  clear hA hg
  have HSH := Lib.hid hsh
  have hl14 : ps.length ≤ 14 := (short_iff.1 hsh).2
  clear hsh
  clear hst hgr hO hE hm hk hok hb hLS hNL hln hsq hs2
  go_enter Try.func3, Try.ntmps3
  go_wp2_with fail
  refine (awake_any _).mono ?_
  rintro e w1 ⟨rfl, hb1⟩
  have G1 := Fr.call F0.out hb1
  obtain ⟨k0_0, k0_1, kf0, kg0⟩ := (G1.get 2 rfl).two
  have kz0 := (G1.get 2 rfl).lt
  obtain ⟨k1_0, k1_1, k1_2⟩ := (G1.get 1 rfl).three
  have kz1 := (G1.get 1 rfl).lt
  obtain ⟨k2_0, k2_1, kf2, kg2⟩ := (G1.get 0 rfl).two
  have kz2 := (G1.get 0 rfl).lt
  have F1 : Hid (Fr w _ [(w.heap.size + 1 + 1, 28, #[.int .i64 (k : Int), .int .i64 sq]), (w.heap.size + 1, 26, #[.int .i64 b.brk, .int .i64 b.drag, .int .i64 b.drv]), (w.heap.size, 24, #[.string s, .slice (some a) ps.length c])]) := Lib.hid G1
  clear hb1 G1 F0
  go_wp2_with fail
  refine (Short_any s hs ps (some a) c hl _).mono ?_
  rintro e w2 ⟨rfl, hb2⟩
  rw [HSH.out]
  clear k0_0 k0_1 kf0 kg0 kz0 k1_0 k1_1 k1_2 kz1 k2_0 k2_1 kf2 kg2 kz2
  have G2 := Fr.call F1.out hb2
  obtain ⟨k0_0, k0_1, kf0, kg0⟩ := (G2.get 2 rfl).two
  have kz0 := (G2.get 2 rfl).lt
  obtain ⟨k1_0, k1_1, k1_2⟩ := (G2.get 1 rfl).three
  have kz1 := (G2.get 1 rfl).lt
  obtain ⟨k2_0, k2_1, kf2, kg2⟩ := (G2.get 0 rfl).two
  have kz2 := (G2.get 0 rfl).lt
  have F2 : Hid (Fr w _ [(w.heap.size + 1 + 1, 28, #[.int .i64 (k : Int), .int .i64 sq]), (w.heap.size + 1, 26, #[.int .i64 b.brk, .int .i64 b.drag, .int .i64 b.drv]), (w.heap.size, 24, #[.string s, .slice (some a) ps.length c])]) := Lib.hid G2
  clear hb2 G2 F1
  go_upto_region 5 with fail
  clear k0_0 k0_1 kf0 kg0 kz0 k1_0 k1_1 k1_2 kz1 k2_0 k2_1 kf2 kg2 kz2
  go_cut [7, 8] from 22 to 29 (fun r e W => (∃ g : Hd, r = .slice g.A 0 g.c ∧ e = .int .i64 0 ∧ Lies W W.heap.size g.A (ic LS)) ∧ Fr w2 W [])
  case first =>
    have HALL : Hid (∀ W, Fr w2 W [] → Fr w2 W [] ∧ W.cell? ⟨w.heap.size, 0, none⟩ = some (.string s) ∧ W.cell? ⟨w.heap.size, 1, none⟩ = some (.slice (some a) ps.length c) ∧ W.cell? ⟨w.heap.size + 1, 0, none⟩ = some (.int .i64 b.brk) ∧ W.cell? ⟨w.heap.size + 1, 1, none⟩ = some (.int .i64 b.drag) ∧ W.cell? ⟨w.heap.size + 1, 2, none⟩ = some (.int .i64 b.drv) ∧ W.cell? ⟨w.heap.size + 1 + 1, 0, none⟩ = some (.int .i64 (k : Int)) ∧ W.cell? ⟨w.heap.size + 1 + 1, 1, none⟩ = some (.int .i64 sq)) := Lib.hid (fun W hW => ⟨hW, ((F2.out.get 2 rfl).call hW.bl).cell 0, ((F2.out.get 2 rfl).call hW.bl).cell 1, ((F2.out.get 1 rfl).call hW.bl).cell 0, ((F2.out.get 1 rfl).call hW.bl).cell 1, ((F2.out.get 1 rfl).call hW.bl).cell 2, ((F2.out.get 0 rfl).call hW.bl).cell 0, ((F2.out.get 0 rfl).call hW.bl).cell 1⟩)
    have HAC := Lib.hid (Fr.lies HA.out F2.out)
    have F10 : Fr w2 _ [] := Fr.nil w2
    go_region_held3 (fun W => Fr w2 W [] ∧ W.cell? ⟨w.heap.size, 0, none⟩ = some (.string s) ∧ W.cell? ⟨w.heap.size, 1, none⟩ = some (.slice (some a) ps.length c) ∧ W.cell? ⟨w.heap.size + 1, 0, none⟩ = some (.int .i64 b.brk) ∧ W.cell? ⟨w.heap.size + 1, 1, none⟩ = some (.int .i64 b.drag) ∧ W.cell? ⟨w.heap.size + 1, 2, none⟩ = some (.int .i64 b.drv) ∧ W.cell? ⟨w.heap.size + 1 + 1, 0, none⟩ = some (.int .i64 (k : Int)) ∧ W.cell? ⟨w.heap.size + 1 + 1, 1, none⟩ = some (.int .i64 sq))
        ((go_split_ands; refine HALL.out _ ?_; (first | assumption | (repeat (first | assumption | refine Fr.new ?_ _ | refine Fr.drew ?_ | (refine Fr.set ?_ (by first | exact Nat.le_refl _ | omega | (simp; done) | (simp; omega)) (by first | (simp; done) | (simp; omega)) _))); done)))
        ((first
          | (go_at_call 10; go_split_ands; (with_reducible refine (Copy_any s ps ⟨(some a), c⟩ (by omega) HG.out _ (Fr.lies HAC.out (by assumption))).mono ?_); rintro e w1 ⟨g2, rfl, hl2, hk2, hb1⟩; have HL2 := Lib.hid hl2; have F4 := Fr.call (by assumption) hb1; clear hb1 hl2 hk2)
          | (go_at_call 9; go_split_ands; (with_reducible refine (HST.out _ _ _ HL2.out).mono ?_); rintro e w1 ⟨g3, rfl, hl3, hb1⟩; have HL3 := Lib.hid hl3; have F5 := Fr.call (by assumption) hb1; clear hb1 hl3)
          | fail "arm"))
    all_goals
      go_split_ands
      go_wp2_with fail
      go_meet
      exact ⟨⟨g3, rfl, rfl, HL3.out⟩, by assumption⟩
  case rest =>
    obtain ⟨wx11, rfl⟩ : ∃ W, W = wc := ⟨_, rfl⟩
    obtain ⟨⟨gx5, rfl, rfl, hy5⟩, hx⟩ := hcut
    have FC11 := Lib.hid (F2.out.call hx.bl)
    clear hx F2
    obtain ⟨k0_0, k0_1, kf0, kg0⟩ := (FC11.out.get 2 rfl).two
    have kz0 := (FC11.out.get 2 rfl).lt
    obtain ⟨k1_0, k1_1, k1_2⟩ := (FC11.out.get 1 rfl).three
    have kz1 := (FC11.out.get 1 rfl).lt
    obtain ⟨k2_0, k2_1, kf2, kg2⟩ := (FC11.out.get 0 rfl).two
    have kz2 := (FC11.out.get 0 rfl).lt
    have Y5 := Lib.hid hy5
    clear hy5
    go_upto_region 6 with fail
    clear k0_0 k0_1 kf0 kg0 kz0 k1_0 k1_1 k1_2 kz1 k2_0 k2_1 kf2 kg2 kz2
    go_cut [9, 10] from 30 to 38 (fun r e W => (r = .int .i64 m ∧ e = .int .i64 0) ∧ Fr wx11 W [])
    case first =>
      have HALL : Hid (∀ W, Fr wx11 W [] → Fr wx11 W [] ∧ W.cell? ⟨w.heap.size, 0, none⟩ = some (.string s) ∧ W.cell? ⟨w.heap.size, 1, none⟩ = some (.slice (some a) ps.length c) ∧ W.cell? ⟨w.heap.size + 1, 0, none⟩ = some (.int .i64 b.brk) ∧ W.cell? ⟨w.heap.size + 1, 1, none⟩ = some (.int .i64 b.drag) ∧ W.cell? ⟨w.heap.size + 1, 2, none⟩ = some (.int .i64 b.drv) ∧ W.cell? ⟨w.heap.size + 1 + 1, 0, none⟩ = some (.int .i64 (k : Int)) ∧ W.cell? ⟨w.heap.size + 1 + 1, 1, none⟩ = some (.int .i64 sq)) := Lib.hid (fun W hW => ⟨hW, ((FC11.out.get 2 rfl).call hW.bl).cell 0, ((FC11.out.get 2 rfl).call hW.bl).cell 1, ((FC11.out.get 1 rfl).call hW.bl).cell 0, ((FC11.out.get 1 rfl).call hW.bl).cell 1, ((FC11.out.get 1 rfl).call hW.bl).cell 2, ((FC11.out.get 0 rfl).call hW.bl).cell 0, ((FC11.out.get 0 rfl).call hW.bl).cell 1⟩)
      have HAC := Lib.hid (Fr.lies HA.out FC11.out)
      have F10 : Fr wx11 _ [] := Fr.nil wx11
      go_region_held3 (fun W => Fr wx11 W [] ∧ W.cell? ⟨w.heap.size, 0, none⟩ = some (.string s) ∧ W.cell? ⟨w.heap.size, 1, none⟩ = some (.slice (some a) ps.length c) ∧ W.cell? ⟨w.heap.size + 1, 0, none⟩ = some (.int .i64 b.brk) ∧ W.cell? ⟨w.heap.size + 1, 1, none⟩ = some (.int .i64 b.drag) ∧ W.cell? ⟨w.heap.size + 1, 2, none⟩ = some (.int .i64 b.drv) ∧ W.cell? ⟨w.heap.size + 1 + 1, 0, none⟩ = some (.int .i64 (k : Int)) ∧ W.cell? ⟨w.heap.size + 1 + 1, 1, none⟩ = some (.int .i64 sq))
          ((go_split_ands; refine HALL.out _ ?_; (first | assumption | (repeat (first | assumption | refine Fr.new ?_ _ | refine Fr.drew ?_ | (refine Fr.set ?_ (by first | exact Nat.le_refl _ | omega | (simp; done) | (simp; omega)) (by first | (simp; done) | (simp; omega)) _))); done)))
          ((first
            | (go_at_call 10; go_split_ands; (with_reducible refine (Copy_any s ps ⟨(some a), c⟩ (by omega) HG.out _ (Fr.lies HAC.out (by assumption))).mono ?_); rintro e w1 ⟨g2, rfl, hl2, hk2, hb1⟩; have HL2 := Lib.hid hl2; have F4 := Fr.call (by assumption) hb1; clear hb1 hl2 hk2)
            | (go_at_call 11; go_split_ands; (with_reducible refine (HGR.out _ _ _ HL2.out).mono ?_); rintro e w1 ⟨rfl, hb1⟩; have F5 := Fr.call (by assumption) hb1; clear hb1)
            | fail "arm"))
      all_goals
        go_split_ands
        go_wp2_with fail
        go_meet
        exact ⟨⟨rfl, rfl⟩, by assumption⟩
    case rest =>
      obtain ⟨wx12, rfl⟩ : ∃ W, W = wc := ⟨_, rfl⟩
      obtain ⟨⟨rfl, rfl⟩, hx⟩ := hcut
      have FC12 := Lib.hid (FC11.out.call hx.bl)
      have Y5 := Lib.hid (Lies.call Y5.out hx.bl)
      clear hx FC11
      obtain ⟨k0_0, k0_1, kf0, kg0⟩ := (FC12.out.get 2 rfl).two
      have kz0 := (FC12.out.get 2 rfl).lt
      obtain ⟨k1_0, k1_1, k1_2⟩ := (FC12.out.get 1 rfl).three
      have kz1 := (FC12.out.get 1 rfl).lt
      obtain ⟨k2_0, k2_1, kf2, kg2⟩ := (FC12.out.get 0 rfl).two
      have kz2 := (FC12.out.get 0 rfl).lt
      go_wp2_with fail
      refine (BothErr_any s hs ps (some a) c hl b _ (Fr.lies HA.out FC12.out)).mono ?_
      rintro e w3 ⟨rfl, hb3⟩
      rw [HBO.out]
      clear k0_0 k0_1 kf0 kg0 kz0 k1_0 k1_1 k1_2 kz1 k2_0 k2_1 kf2 kg2 kz2
      have G3 := Fr.call FC12.out hb3
      have Y5 := Lib.hid (Lies.call Y5.out hb3)
      obtain ⟨k0_0, k0_1, kf0, kg0⟩ := (G3.get 2 rfl).two
      have kz0 := (G3.get 2 rfl).lt
      obtain ⟨k1_0, k1_1, k1_2⟩ := (G3.get 1 rfl).three
      have kz1 := (G3.get 1 rfl).lt
      obtain ⟨k2_0, k2_1, kf2, kg2⟩ := (G3.get 0 rfl).two
      have kz2 := (G3.get 0 rfl).lt
      have F3 : Hid (Fr w _ [(w.heap.size + 1 + 1, 28, #[.int .i64 (k : Int), .int .i64 sq]), (w.heap.size + 1, 26, #[.int .i64 b.brk, .int .i64 b.drag, .int .i64 b.drv]), (w.heap.size, 24, #[.string s, .slice (some a) ps.length c])]) := Lib.hid G3
      clear hb3 G3 FC12
      go_wp2_with (go_at_call 13; refine (Within_any _ _ _ _).mono ?_; rintro e w' ⟨rfl, rfl⟩; rw [HPP.out])
      refine (HRG.out _ (Fr.lies HA.out F3.out)).mono ?_
      rintro e w4 ⟨rfl, hb4⟩
      clear k0_0 k0_1 kf0 kg0 kz0 k1_0 k1_1 k1_2 kz1 k2_0 k2_1 kf2 kg2 kz2
      have G4 := Lib.hid (F3.out.call hb4)
      have Y5 := Lib.hid (Lies.call Y5.out hb4)
      clear hb4 F3
      obtain ⟨k0_0, k0_1, kf0, kg0⟩ := (G4.out.get 2 rfl).two
      have kz0 := (G4.out.get 2 rfl).lt
      obtain ⟨k1_0, k1_1, k1_2⟩ := (G4.out.get 1 rfl).three
      have kz1 := (G4.out.get 1 rfl).lt
      obtain ⟨k2_0, k2_1, kf2, kg2⟩ := (G4.out.get 0 rfl).two
      have kz2 := (G4.out.get 0 rfl).lt
      go_wp2_with fail
      refine (StateErr_any s ps (some a) c (by omega) (k : Int) sq _).mono ?_
      rintro e w5 ⟨rfl, hb5⟩
      rw [HSE.out]
      clear k0_0 k0_1 kf0 kg0 kz0 k1_0 k1_1 k1_2 kz1 k2_0 k2_1 kf2 kg2 kz2
      have G5 := Fr.call G4.out hb5
      have Y5 := Lib.hid (Lies.call Y5.out hb5)
      obtain ⟨k0_0, k0_1, kf0, kg0⟩ := (G5.get 2 rfl).two
      have kz0 := (G5.get 2 rfl).lt
      obtain ⟨k1_0, k1_1, k1_2⟩ := (G5.get 1 rfl).three
      have kz1 := (G5.get 1 rfl).lt
      obtain ⟨k2_0, k2_1, kf2, kg2⟩ := (G5.get 0 rfl).two
      have kz2 := (G5.get 0 rfl).lt
      have F5 : Hid (Fr w _ [(w.heap.size + 1 + 1, 28, #[.int .i64 (k : Int), .int .i64 sq]), (w.heap.size + 1, 26, #[.int .i64 b.brk, .int .i64 b.drag, .int .i64 b.drv]), (w.heap.size, 24, #[.string s, .slice (some a) ps.length c])]) := Lib.hid G5
      clear hb5 G5 G4
      go_wp2_with fail
      refine (HRS.out _ (Fr.lies HA.out F5.out)).mono ?_
      rintro e w6 ⟨gw, rfl, hw5, hb6⟩
      clear k0_0 k0_1 kf0 kg0 kz0 k1_0 k1_1 k1_2 kz1 k2_0 k2_1 kf2 kg2 kz2
      have G6 := Fr.call F5.out hb6
      have Z5 := Lib.hid hw5
      have Y5 := Lib.hid (Lies.call Y5.out hb6)
      obtain ⟨k0_0, k0_1, kf0, kg0⟩ := (G6.get 2 rfl).two
      have kz0 := (G6.get 2 rfl).lt
      obtain ⟨k1_0, k1_1, k1_2⟩ := (G6.get 1 rfl).three
      have kz1 := (G6.get 1 rfl).lt
      obtain ⟨k2_0, k2_1, kf2, kg2⟩ := (G6.get 0 rfl).two
      have kz2 := (G6.get 0 rfl).lt
      have F6 : Hid (Fr w _ [(w.heap.size + 1 + 1, 28, #[.int .i64 (k : Int), .int .i64 sq]), (w.heap.size + 1, 26, #[.int .i64 b.brk, .int .i64 b.drag, .int .i64 b.drv]), (w.heap.size, 24, #[.string s, .slice (some a) ps.length c])]) := Lib.hid G6
      clear hb6 G6 F5
      clear hw5
      go_wp2_with fail
      refine (HIN.out _ _ _ _ _ Y5.out Z5.out).mono ?_
      rintro e w7 ⟨rfl, hb7⟩
      clear k0_0 k0_1 kf0 kg0 kz0 k1_0 k1_1 k1_2 kz1 k2_0 k2_1 kf2 kg2 kz2
      have G7 := Fr.call F6.out hb7
      obtain ⟨k0_0, k0_1, kf0, kg0⟩ := (G7.get 2 rfl).two
      have kz0 := (G7.get 2 rfl).lt
      obtain ⟨k1_0, k1_1, k1_2⟩ := (G7.get 1 rfl).three
      have kz1 := (G7.get 1 rfl).lt
      obtain ⟨k2_0, k2_1, kf2, kg2⟩ := (G7.get 0 rfl).two
      have kz2 := (G7.get 0 rfl).lt
      have F7 : Hid (Fr w _ [(w.heap.size + 1 + 1, 28, #[.int .i64 (k : Int), .int .i64 sq]), (w.heap.size + 1, 26, #[.int .i64 b.brk, .int .i64 b.drag, .int .i64 b.drv]), (w.heap.size, 24, #[.string s, .slice (some a) ps.length c])]) := Lib.hid G7
      clear hb7 G7 F6
      clear Y5 Z5
      go_upto_region 25 with fail
      clear k0_0 k0_1 kf0 kg0 kz0 k1_0 k1_1 k1_2 kz1 k2_0 k2_1 kf2 kg2 kz2
      go_cut [15, 16] from 153 to 163 (fun r e W => (∃ (g : Hd), r = .slice g.A N2 g.c ∧ e = .int .i64 0) ∧ Fr w7 W [])
      case first =>
        have HALL : Hid (∀ W, Fr w7 W [] → Fr w7 W [] ∧ W.cell? ⟨w.heap.size, 0, none⟩ = some (.string s) ∧ W.cell? ⟨w.heap.size, 1, none⟩ = some (.slice (some a) ps.length c) ∧ W.cell? ⟨w.heap.size + 1, 0, none⟩ = some (.int .i64 b.brk) ∧ W.cell? ⟨w.heap.size + 1, 1, none⟩ = some (.int .i64 b.drag) ∧ W.cell? ⟨w.heap.size + 1, 2, none⟩ = some (.int .i64 b.drv) ∧ W.cell? ⟨w.heap.size + 1 + 1, 0, none⟩ = some (.int .i64 (k : Int)) ∧ W.cell? ⟨w.heap.size + 1 + 1, 1, none⟩ = some (.int .i64 sq)) := Lib.hid (fun W hW => ⟨hW, ((F7.out.get 2 rfl).call hW.bl).cell 0, ((F7.out.get 2 rfl).call hW.bl).cell 1, ((F7.out.get 1 rfl).call hW.bl).cell 0, ((F7.out.get 1 rfl).call hW.bl).cell 1, ((F7.out.get 1 rfl).call hW.bl).cell 2, ((F7.out.get 0 rfl).call hW.bl).cell 0, ((F7.out.get 0 rfl).call hW.bl).cell 1⟩)
        have HAC := Lib.hid (Fr.lies HA.out F7.out)
        have F10 : Fr w7 _ [] := Fr.nil w7
        go_region_held3 (fun W => Fr w7 W [] ∧ W.cell? ⟨w.heap.size, 0, none⟩ = some (.string s) ∧ W.cell? ⟨w.heap.size, 1, none⟩ = some (.slice (some a) ps.length c) ∧ W.cell? ⟨w.heap.size + 1, 0, none⟩ = some (.int .i64 b.brk) ∧ W.cell? ⟨w.heap.size + 1, 1, none⟩ = some (.int .i64 b.drag) ∧ W.cell? ⟨w.heap.size + 1, 2, none⟩ = some (.int .i64 b.drv) ∧ W.cell? ⟨w.heap.size + 1 + 1, 0, none⟩ = some (.int .i64 (k : Int)) ∧ W.cell? ⟨w.heap.size + 1 + 1, 1, none⟩ = some (.int .i64 sq))
            ((go_split_ands; refine HALL.out _ ?_; (first | assumption | (repeat (first | assumption | refine Fr.new ?_ _ | refine Fr.drew ?_ | (refine Fr.set ?_ (by first | exact Nat.le_refl _ | omega | (simp; done) | (simp; omega)) (by first | (simp; done) | (simp; omega)) _))); done)))
            ((first
              | (go_at_call 10; go_split_ands; (with_reducible refine (Copy_any s ps ⟨(some a), c⟩ (by omega) HG.out _ (Fr.lies HAC.out (by assumption))).mono ?_); rintro e w1 ⟨g2, rfl, hl2, hk2, hb1⟩; have HL2 := Lib.hid hl2; have F4 := Fr.call (by assumption) hb1; clear hb1 hl2 hk2)
              | (go_at_call 9; go_split_ands; (with_reducible refine (HS2.out _ _ _ HL2.out).mono ?_); rintro e w1 ⟨g3, rfl, hb1⟩; have F5 := Fr.call (by assumption) hb1; clear hb1)
              | fail "arm"))
        all_goals
          go_split_ands
          go_wp2_with fail
          go_meet
          exact ⟨⟨g3, rfl, rfl⟩, by assumption⟩
      case rest =>
        obtain ⟨wx13, rfl⟩ : ∃ W, W = wc := ⟨_, rfl⟩
        obtain ⟨⟨gx6, rfl, rfl⟩, hx⟩ := hcut
        have FC13 := Lib.hid (F7.out.call hx.bl)
        clear hx F7
        obtain ⟨k0_0, k0_1, kf0, kg0⟩ := (FC13.out.get 2 rfl).two
        have kz0 := (FC13.out.get 2 rfl).lt
        obtain ⟨k1_0, k1_1, k1_2⟩ := (FC13.out.get 1 rfl).three
        have kz1 := (FC13.out.get 1 rfl).lt
        obtain ⟨k2_0, k2_1, kf2, kg2⟩ := (FC13.out.get 0 rfl).two
        have kz2 := (FC13.out.get 0 rfl).lt
        go_wp2_with fail
        go_ret
        exact ⟨rfl, FC13.out.bl⟩

set_option maxHeartbeats 8000000 in
set_option maxRecDepth 100000 in
theorem st_E (s : ByteArray) (hs : s.size ≤ maxLen) (ps : List Bp) (A : Option Addr) (c : Nat) (hg : HdOk ⟨A, c⟩) (hl : ps.length ≤ maxLen) (b : Bs) (k : Nat) (sq : Int) (NL : Nat) (LS : List Int) (m : Int) (hsh : shortB s ps = true) (hO : bothE s ps b = 0) (hk : k ≤ ps.length) (hE : stateE ps (k : Int) sq = 0) (hm : gtS ps b k ps.length = m) (hst : (∀ (A' : Option Addr) (c' : Nat) (W : World), Lies W W.heap.size A' (ps.flatMap pc) → Calls Try.prog 9 #[.agg #[.string s, .slice A' ps.length c'], .agg #[.int .i64 b.brk, .int .i64 b.drag, .int .i64 b.drv], .agg #[.int .i64 (k : Int), .int .i64 sq]] W fun e w' => ∃ g : Hd, e = .returned (.tuple #[.slice g.A NL g.c, .int .i64 0]) ∧ Lies w' w'.heap.size g.A (ic LS) ∧ Below W.heap.size W w')) (hgr : (∀ (A' : Option Addr) (c' : Nat) (W : World), Lies W W.heap.size A' (ps.flatMap pc) → Calls Try.prog 11 #[.agg #[.string s, .slice A' ps.length c'], .agg #[.int .i64 b.brk, .int .i64 b.drag, .int .i64 b.drv], .int .i64 (k : Int)] W fun e w' => e = .returned (.tuple #[.int .i64 m, .int .i64 0]) ∧ Below W.heap.size W w')) (hm1 : ¬ m = -1) (hsq : 0 ≤ sq ∧ sq ≤ 20000000000) (hLS : LS = stV ps b k sq ps.length) (hNL : LS.length = NL) (hnl : (0 : Int) < (NL : Int)) (hle : ¬ m < sq) (N2 : Nat) (hn2 : (0 : Int) < (N2 : Int)) (hs2 : (∀ (A' : Option Addr) (c' : Nat) (W : World), Lies W W.heap.size A' (ps.flatMap pc) → Calls Try.prog 9 #[.agg #[.string s, .slice A' ps.length c'], .agg #[.int .i64 b.brk, .int .i64 b.drag, .int .i64 b.drv], .agg #[.int .i64 (k : Int), .int .i64 m]] W fun e w' => ∃ g : Hd, e = .returned (.tuple #[.slice g.A N2 g.c, .int .i64 0]) ∧ Below W.heap.size W w')) (w : World) (hA : Lies w w.heap.size A (ps.flatMap pc)) : Calls Try.prog 3 #[.agg #[.string s, .slice A ps.length c], .agg #[.int .i64 b.brk, .int .i64 b.drag, .int .i64 b.drv], .agg #[.int .i64 (k : Int), .int .i64 sq]] w fun e w' => e = .returned (.bool true) ∧ Below w.heap.size w w' := by
  obtain ⟨hok, hb⟩ := bothE_zero hO
  obtain ⟨a, rfl⟩ := ps_some hA hok.n0
  have h12 := hok.n12
  have hm0 : 0 ≤ m := by rcases gtS_in hok.each b k ps.length with h | h <;> omega
  have HRG : Hid (∀ W, Lies W W.heap.size (some a) (ps.flatMap pc) → Calls Try.prog 14 #[.agg #[.string s, .slice (some a) ps.length c], .agg #[.int .i64 b.brk, .int .i64 b.drag, .int .i64 b.drv], .int .i64 (k : Int)] W fun e w' => e = .returned (.tuple #[.int .i64 m, .bool true]) ∧ Below W.heap.size W w') := Lib.hid (fun W hW => refGreatestAt_any s ps a c b hb hok.n0 hok.n12 hok.each k hk _ _ (.inr ⟨rfl, hm.symm, hm0⟩) W hW)
  have hln : LS.length ≤ maxLen := by rw [hLS]; have := stV_len ps b k sq ps.length; unfold maxLen; omega
  have HRS : Hid (∀ W, Lies W W.heap.size (some a) (ps.flatMap pc) → Calls Try.prog 16 #[.agg #[.string s, .slice (some a) ps.length c], .agg #[.int .i64 b.brk, .int .i64 b.drag, .int .i64 b.drv], .agg #[.int .i64 (k : Int), .int .i64 sq]] W fun e w' => ∃ g : Hd, e = .returned (.slice g.A NL g.c) ∧ Lies w' w'.heap.size g.A (ic LS) ∧ Below W.heap.size W w') := Lib.hid (fun W hW => by have := refStopsOf_any s ps a c b hb hok.n0 hok.n12 hok.each k hk sq hsq W hW; rw [← hLS] at this; exact this.mono fun e w' ⟨g, he, hL, _, hb⟩ => ⟨g, by rw [he, hNL], hL, hb⟩)
  have HIN : Hid (∀ (A B : Option Addr) (c d : Nat) (W : World), Lies W W.heap.size A (ic LS) → Lies W W.heap.size B (ic LS) → Calls Try.prog 17 #[.slice A NL c, .slice B NL d] W fun e w' => e = .returned (.bool true) ∧ Below W.heap.size W w') := Lib.hid (fun A B c d W h1 h2 => by have := Ints_same LS A B c d hln W h1 h2; rw [hNL] at this; exact this)
  have HST := Lib.hid hst
  have HGR := Lib.hid hgr
  have HBO := Lib.hid hO
  have HPP := Lib.hid (postE_in hk)
  have HSE := Lib.hid hE
  have HS2 := Lib.hid hs2
  have hn3 : 0 < N2 := by omega
  have hn4 : decide (0 < N2) = true := decide_eq_true hn3
  have F0 := Lib.hid (Fr.b3 w 24 #[.string s, .slice (some a) ps.length c] 26 #[.int .i64 b.brk, .int .i64 b.drag, .int .i64 b.drv] 28 #[.int .i64 (k : Int), .int .i64 sq])
  have HA := Lib.hid hA
  have HG := Lib.hid hg
  clear hA hg
  have HSH := Lib.hid hsh
  have hl14 : ps.length ≤ 14 := (short_iff.1 hsh).2
  clear hsh
  clear hst hgr hO hE hm hk hok hb hLS hNL hln hsq hs2
  go_enter Try.func3, Try.ntmps3
  go_wp2_with fail
  refine (awake_any _).mono ?_
  rintro e w1 ⟨rfl, hb1⟩
  have G1 := Fr.call F0.out hb1
  obtain ⟨k0_0, k0_1, kf0, kg0⟩ := (G1.get 2 rfl).two
  have kz0 := (G1.get 2 rfl).lt
  obtain ⟨k1_0, k1_1, k1_2⟩ := (G1.get 1 rfl).three
  have kz1 := (G1.get 1 rfl).lt
  obtain ⟨k2_0, k2_1, kf2, kg2⟩ := (G1.get 0 rfl).two
  have kz2 := (G1.get 0 rfl).lt
  have F1 : Hid (Fr w _ [(w.heap.size + 1 + 1, 28, #[.int .i64 (k : Int), .int .i64 sq]), (w.heap.size + 1, 26, #[.int .i64 b.brk, .int .i64 b.drag, .int .i64 b.drv]), (w.heap.size, 24, #[.string s, .slice (some a) ps.length c])]) := Lib.hid G1
  clear hb1 G1 F0
  go_wp2_with fail
  refine (Short_any s hs ps (some a) c hl _).mono ?_
  rintro e w2 ⟨rfl, hb2⟩
  rw [HSH.out]
  clear k0_0 k0_1 kf0 kg0 kz0 k1_0 k1_1 k1_2 kz1 k2_0 k2_1 kf2 kg2 kz2
  have G2 := Fr.call F1.out hb2
  obtain ⟨k0_0, k0_1, kf0, kg0⟩ := (G2.get 2 rfl).two
  have kz0 := (G2.get 2 rfl).lt
  obtain ⟨k1_0, k1_1, k1_2⟩ := (G2.get 1 rfl).three
  have kz1 := (G2.get 1 rfl).lt
  obtain ⟨k2_0, k2_1, kf2, kg2⟩ := (G2.get 0 rfl).two
  have kz2 := (G2.get 0 rfl).lt
  have F2 : Hid (Fr w _ [(w.heap.size + 1 + 1, 28, #[.int .i64 (k : Int), .int .i64 sq]), (w.heap.size + 1, 26, #[.int .i64 b.brk, .int .i64 b.drag, .int .i64 b.drv]), (w.heap.size, 24, #[.string s, .slice (some a) ps.length c])]) := Lib.hid G2
  clear hb2 G2 F1
  go_upto_region 5 with fail
  clear k0_0 k0_1 kf0 kg0 kz0 k1_0 k1_1 k1_2 kz1 k2_0 k2_1 kf2 kg2 kz2
  go_cut [7, 8] from 22 to 29 (fun r e W => (∃ g : Hd, r = .slice g.A NL g.c ∧ e = .int .i64 0 ∧ Lies W W.heap.size g.A (ic LS)) ∧ Fr w2 W [])
  case first =>
    have HALL : Hid (∀ W, Fr w2 W [] → Fr w2 W [] ∧ W.cell? ⟨w.heap.size, 0, none⟩ = some (.string s) ∧ W.cell? ⟨w.heap.size, 1, none⟩ = some (.slice (some a) ps.length c) ∧ W.cell? ⟨w.heap.size + 1, 0, none⟩ = some (.int .i64 b.brk) ∧ W.cell? ⟨w.heap.size + 1, 1, none⟩ = some (.int .i64 b.drag) ∧ W.cell? ⟨w.heap.size + 1, 2, none⟩ = some (.int .i64 b.drv) ∧ W.cell? ⟨w.heap.size + 1 + 1, 0, none⟩ = some (.int .i64 (k : Int)) ∧ W.cell? ⟨w.heap.size + 1 + 1, 1, none⟩ = some (.int .i64 sq)) := Lib.hid (fun W hW => ⟨hW, ((F2.out.get 2 rfl).call hW.bl).cell 0, ((F2.out.get 2 rfl).call hW.bl).cell 1, ((F2.out.get 1 rfl).call hW.bl).cell 0, ((F2.out.get 1 rfl).call hW.bl).cell 1, ((F2.out.get 1 rfl).call hW.bl).cell 2, ((F2.out.get 0 rfl).call hW.bl).cell 0, ((F2.out.get 0 rfl).call hW.bl).cell 1⟩)
    have HAC := Lib.hid (Fr.lies HA.out F2.out)
    have F10 : Fr w2 _ [] := Fr.nil w2
    go_region_held3 (fun W => Fr w2 W [] ∧ W.cell? ⟨w.heap.size, 0, none⟩ = some (.string s) ∧ W.cell? ⟨w.heap.size, 1, none⟩ = some (.slice (some a) ps.length c) ∧ W.cell? ⟨w.heap.size + 1, 0, none⟩ = some (.int .i64 b.brk) ∧ W.cell? ⟨w.heap.size + 1, 1, none⟩ = some (.int .i64 b.drag) ∧ W.cell? ⟨w.heap.size + 1, 2, none⟩ = some (.int .i64 b.drv) ∧ W.cell? ⟨w.heap.size + 1 + 1, 0, none⟩ = some (.int .i64 (k : Int)) ∧ W.cell? ⟨w.heap.size + 1 + 1, 1, none⟩ = some (.int .i64 sq))
        ((go_split_ands; refine HALL.out _ ?_; (first | assumption | (repeat (first | assumption | refine Fr.new ?_ _ | refine Fr.drew ?_ | (refine Fr.set ?_ (by first | exact Nat.le_refl _ | omega | (simp; done) | (simp; omega)) (by first | (simp; done) | (simp; omega)) _))); done)))
        ((first
          | (go_at_call 10; go_split_ands; (with_reducible refine (Copy_any s ps ⟨(some a), c⟩ (by omega) HG.out _ (Fr.lies HAC.out (by assumption))).mono ?_); rintro e w1 ⟨g2, rfl, hl2, hk2, hb1⟩; have HL2 := Lib.hid hl2; have F4 := Fr.call (by assumption) hb1; clear hb1 hl2 hk2)
          | (go_at_call 9; go_split_ands; (with_reducible refine (HST.out _ _ _ HL2.out).mono ?_); rintro e w1 ⟨g3, rfl, hl3, hb1⟩; have HL3 := Lib.hid hl3; have F5 := Fr.call (by assumption) hb1; clear hb1 hl3)
          | fail "arm"))
    all_goals
      go_split_ands
      go_wp2_with fail
      go_meet
      exact ⟨⟨g3, rfl, rfl, HL3.out⟩, by assumption⟩
  case rest =>
    obtain ⟨wx14, rfl⟩ : ∃ W, W = wc := ⟨_, rfl⟩
    obtain ⟨⟨gx5, rfl, rfl, hy5⟩, hx⟩ := hcut
    have FC14 := Lib.hid (F2.out.call hx.bl)
    clear hx F2
    obtain ⟨k0_0, k0_1, kf0, kg0⟩ := (FC14.out.get 2 rfl).two
    have kz0 := (FC14.out.get 2 rfl).lt
    obtain ⟨k1_0, k1_1, k1_2⟩ := (FC14.out.get 1 rfl).three
    have kz1 := (FC14.out.get 1 rfl).lt
    obtain ⟨k2_0, k2_1, kf2, kg2⟩ := (FC14.out.get 0 rfl).two
    have kz2 := (FC14.out.get 0 rfl).lt
    have Y5 := Lib.hid hy5
    clear hy5
    go_upto_region 6 with fail
    clear k0_0 k0_1 kf0 kg0 kz0 k1_0 k1_1 k1_2 kz1 k2_0 k2_1 kf2 kg2 kz2
    go_cut [9, 10] from 30 to 38 (fun r e W => (r = .int .i64 m ∧ e = .int .i64 0) ∧ Fr wx14 W [])
    case first =>
      have HALL : Hid (∀ W, Fr wx14 W [] → Fr wx14 W [] ∧ W.cell? ⟨w.heap.size, 0, none⟩ = some (.string s) ∧ W.cell? ⟨w.heap.size, 1, none⟩ = some (.slice (some a) ps.length c) ∧ W.cell? ⟨w.heap.size + 1, 0, none⟩ = some (.int .i64 b.brk) ∧ W.cell? ⟨w.heap.size + 1, 1, none⟩ = some (.int .i64 b.drag) ∧ W.cell? ⟨w.heap.size + 1, 2, none⟩ = some (.int .i64 b.drv) ∧ W.cell? ⟨w.heap.size + 1 + 1, 0, none⟩ = some (.int .i64 (k : Int)) ∧ W.cell? ⟨w.heap.size + 1 + 1, 1, none⟩ = some (.int .i64 sq)) := Lib.hid (fun W hW => ⟨hW, ((FC14.out.get 2 rfl).call hW.bl).cell 0, ((FC14.out.get 2 rfl).call hW.bl).cell 1, ((FC14.out.get 1 rfl).call hW.bl).cell 0, ((FC14.out.get 1 rfl).call hW.bl).cell 1, ((FC14.out.get 1 rfl).call hW.bl).cell 2, ((FC14.out.get 0 rfl).call hW.bl).cell 0, ((FC14.out.get 0 rfl).call hW.bl).cell 1⟩)
      have HAC := Lib.hid (Fr.lies HA.out FC14.out)
      have F10 : Fr wx14 _ [] := Fr.nil wx14
      go_region_held3 (fun W => Fr wx14 W [] ∧ W.cell? ⟨w.heap.size, 0, none⟩ = some (.string s) ∧ W.cell? ⟨w.heap.size, 1, none⟩ = some (.slice (some a) ps.length c) ∧ W.cell? ⟨w.heap.size + 1, 0, none⟩ = some (.int .i64 b.brk) ∧ W.cell? ⟨w.heap.size + 1, 1, none⟩ = some (.int .i64 b.drag) ∧ W.cell? ⟨w.heap.size + 1, 2, none⟩ = some (.int .i64 b.drv) ∧ W.cell? ⟨w.heap.size + 1 + 1, 0, none⟩ = some (.int .i64 (k : Int)) ∧ W.cell? ⟨w.heap.size + 1 + 1, 1, none⟩ = some (.int .i64 sq))
          ((go_split_ands; refine HALL.out _ ?_; (first | assumption | (repeat (first | assumption | refine Fr.new ?_ _ | refine Fr.drew ?_ | (refine Fr.set ?_ (by first | exact Nat.le_refl _ | omega | (simp; done) | (simp; omega)) (by first | (simp; done) | (simp; omega)) _))); done)))
          ((first
            | (go_at_call 10; go_split_ands; (with_reducible refine (Copy_any s ps ⟨(some a), c⟩ (by omega) HG.out _ (Fr.lies HAC.out (by assumption))).mono ?_); rintro e w1 ⟨g2, rfl, hl2, hk2, hb1⟩; have HL2 := Lib.hid hl2; have F4 := Fr.call (by assumption) hb1; clear hb1 hl2 hk2)
            | (go_at_call 11; go_split_ands; (with_reducible refine (HGR.out _ _ _ HL2.out).mono ?_); rintro e w1 ⟨rfl, hb1⟩; have F5 := Fr.call (by assumption) hb1; clear hb1)
            | fail "arm"))
      all_goals
        go_split_ands
        go_wp2_with fail
        go_meet
        exact ⟨⟨rfl, rfl⟩, by assumption⟩
    case rest =>
      obtain ⟨wx15, rfl⟩ : ∃ W, W = wc := ⟨_, rfl⟩
      obtain ⟨⟨rfl, rfl⟩, hx⟩ := hcut
      have FC15 := Lib.hid (FC14.out.call hx.bl)
      have Y5 := Lib.hid (Lies.call Y5.out hx.bl)
      clear hx FC14
      obtain ⟨k0_0, k0_1, kf0, kg0⟩ := (FC15.out.get 2 rfl).two
      have kz0 := (FC15.out.get 2 rfl).lt
      obtain ⟨k1_0, k1_1, k1_2⟩ := (FC15.out.get 1 rfl).three
      have kz1 := (FC15.out.get 1 rfl).lt
      obtain ⟨k2_0, k2_1, kf2, kg2⟩ := (FC15.out.get 0 rfl).two
      have kz2 := (FC15.out.get 0 rfl).lt
      go_wp2_with fail
      refine (BothErr_any s hs ps (some a) c hl b _ (Fr.lies HA.out FC15.out)).mono ?_
      rintro e w3 ⟨rfl, hb3⟩
      rw [HBO.out]
      clear k0_0 k0_1 kf0 kg0 kz0 k1_0 k1_1 k1_2 kz1 k2_0 k2_1 kf2 kg2 kz2
      have G3 := Fr.call FC15.out hb3
      have Y5 := Lib.hid (Lies.call Y5.out hb3)
      obtain ⟨k0_0, k0_1, kf0, kg0⟩ := (G3.get 2 rfl).two
      have kz0 := (G3.get 2 rfl).lt
      obtain ⟨k1_0, k1_1, k1_2⟩ := (G3.get 1 rfl).three
      have kz1 := (G3.get 1 rfl).lt
      obtain ⟨k2_0, k2_1, kf2, kg2⟩ := (G3.get 0 rfl).two
      have kz2 := (G3.get 0 rfl).lt
      have F3 : Hid (Fr w _ [(w.heap.size + 1 + 1, 28, #[.int .i64 (k : Int), .int .i64 sq]), (w.heap.size + 1, 26, #[.int .i64 b.brk, .int .i64 b.drag, .int .i64 b.drv]), (w.heap.size, 24, #[.string s, .slice (some a) ps.length c])]) := Lib.hid G3
      clear hb3 G3 FC15
      go_wp2_with (go_at_call 13; refine (Within_any _ _ _ _).mono ?_; rintro e w' ⟨rfl, rfl⟩; rw [HPP.out])
      refine (HRG.out _ (Fr.lies HA.out F3.out)).mono ?_
      rintro e w4 ⟨rfl, hb4⟩
      clear k0_0 k0_1 kf0 kg0 kz0 k1_0 k1_1 k1_2 kz1 k2_0 k2_1 kf2 kg2 kz2
      have G4 := Lib.hid (F3.out.call hb4)
      have Y5 := Lib.hid (Lies.call Y5.out hb4)
      clear hb4 F3
      obtain ⟨k0_0, k0_1, kf0, kg0⟩ := (G4.out.get 2 rfl).two
      have kz0 := (G4.out.get 2 rfl).lt
      obtain ⟨k1_0, k1_1, k1_2⟩ := (G4.out.get 1 rfl).three
      have kz1 := (G4.out.get 1 rfl).lt
      obtain ⟨k2_0, k2_1, kf2, kg2⟩ := (G4.out.get 0 rfl).two
      have kz2 := (G4.out.get 0 rfl).lt
      go_wp2_with fail
      refine (StateErr_any s ps (some a) c (by omega) (k : Int) sq _).mono ?_
      rintro e w5 ⟨rfl, hb5⟩
      rw [HSE.out]
      clear k0_0 k0_1 kf0 kg0 kz0 k1_0 k1_1 k1_2 kz1 k2_0 k2_1 kf2 kg2 kz2
      have G5 := Fr.call G4.out hb5
      have Y5 := Lib.hid (Lies.call Y5.out hb5)
      obtain ⟨k0_0, k0_1, kf0, kg0⟩ := (G5.get 2 rfl).two
      have kz0 := (G5.get 2 rfl).lt
      obtain ⟨k1_0, k1_1, k1_2⟩ := (G5.get 1 rfl).three
      have kz1 := (G5.get 1 rfl).lt
      obtain ⟨k2_0, k2_1, kf2, kg2⟩ := (G5.get 0 rfl).two
      have kz2 := (G5.get 0 rfl).lt
      have F5 : Hid (Fr w _ [(w.heap.size + 1 + 1, 28, #[.int .i64 (k : Int), .int .i64 sq]), (w.heap.size + 1, 26, #[.int .i64 b.brk, .int .i64 b.drag, .int .i64 b.drv]), (w.heap.size, 24, #[.string s, .slice (some a) ps.length c])]) := Lib.hid G5
      clear hb5 G5 G4
      go_wp2_with fail
      refine (HRS.out _ (Fr.lies HA.out F5.out)).mono ?_
      rintro e w6 ⟨gw, rfl, hw5, hb6⟩
      clear k0_0 k0_1 kf0 kg0 kz0 k1_0 k1_1 k1_2 kz1 k2_0 k2_1 kf2 kg2 kz2
      have G6 := Fr.call F5.out hb6
      have Z5 := Lib.hid hw5
      have Y5 := Lib.hid (Lies.call Y5.out hb6)
      obtain ⟨k0_0, k0_1, kf0, kg0⟩ := (G6.get 2 rfl).two
      have kz0 := (G6.get 2 rfl).lt
      obtain ⟨k1_0, k1_1, k1_2⟩ := (G6.get 1 rfl).three
      have kz1 := (G6.get 1 rfl).lt
      obtain ⟨k2_0, k2_1, kf2, kg2⟩ := (G6.get 0 rfl).two
      have kz2 := (G6.get 0 rfl).lt
      have F6 : Hid (Fr w _ [(w.heap.size + 1 + 1, 28, #[.int .i64 (k : Int), .int .i64 sq]), (w.heap.size + 1, 26, #[.int .i64 b.brk, .int .i64 b.drag, .int .i64 b.drv]), (w.heap.size, 24, #[.string s, .slice (some a) ps.length c])]) := Lib.hid G6
      clear hb6 G6 F5
      clear hw5
      go_wp2_with fail
      refine (HIN.out _ _ _ _ _ Y5.out Z5.out).mono ?_
      rintro e w7 ⟨rfl, hb7⟩
      clear k0_0 k0_1 kf0 kg0 kz0 k1_0 k1_1 k1_2 kz1 k2_0 k2_1 kf2 kg2 kz2
      have G7 := Fr.call F6.out hb7
      obtain ⟨k0_0, k0_1, kf0, kg0⟩ := (G7.get 2 rfl).two
      have kz0 := (G7.get 2 rfl).lt
      obtain ⟨k1_0, k1_1, k1_2⟩ := (G7.get 1 rfl).three
      have kz1 := (G7.get 1 rfl).lt
      obtain ⟨k2_0, k2_1, kf2, kg2⟩ := (G7.get 0 rfl).two
      have kz2 := (G7.get 0 rfl).lt
      have F7 : Hid (Fr w _ [(w.heap.size + 1 + 1, 28, #[.int .i64 (k : Int), .int .i64 sq]), (w.heap.size + 1, 26, #[.int .i64 b.brk, .int .i64 b.drag, .int .i64 b.drv]), (w.heap.size, 24, #[.string s, .slice (some a) ps.length c])]) := Lib.hid G7
      clear hb7 G7 F6
      clear Y5 Z5
      go_upto_region 25 with fail
      clear k0_0 k0_1 kf0 kg0 kz0 k1_0 k1_1 k1_2 kz1 k2_0 k2_1 kf2 kg2 kz2
      go_cut [15, 16] from 153 to 163 (fun r e W => (∃ (g : Hd), r = .slice g.A N2 g.c ∧ e = .int .i64 0) ∧ Fr w7 W [])
      case first =>
        have HALL : Hid (∀ W, Fr w7 W [] → Fr w7 W [] ∧ W.cell? ⟨w.heap.size, 0, none⟩ = some (.string s) ∧ W.cell? ⟨w.heap.size, 1, none⟩ = some (.slice (some a) ps.length c) ∧ W.cell? ⟨w.heap.size + 1, 0, none⟩ = some (.int .i64 b.brk) ∧ W.cell? ⟨w.heap.size + 1, 1, none⟩ = some (.int .i64 b.drag) ∧ W.cell? ⟨w.heap.size + 1, 2, none⟩ = some (.int .i64 b.drv) ∧ W.cell? ⟨w.heap.size + 1 + 1, 0, none⟩ = some (.int .i64 (k : Int)) ∧ W.cell? ⟨w.heap.size + 1 + 1, 1, none⟩ = some (.int .i64 sq)) := Lib.hid (fun W hW => ⟨hW, ((F7.out.get 2 rfl).call hW.bl).cell 0, ((F7.out.get 2 rfl).call hW.bl).cell 1, ((F7.out.get 1 rfl).call hW.bl).cell 0, ((F7.out.get 1 rfl).call hW.bl).cell 1, ((F7.out.get 1 rfl).call hW.bl).cell 2, ((F7.out.get 0 rfl).call hW.bl).cell 0, ((F7.out.get 0 rfl).call hW.bl).cell 1⟩)
        have HAC := Lib.hid (Fr.lies HA.out F7.out)
        have F10 : Fr w7 _ [] := Fr.nil w7
        go_region_held3 (fun W => Fr w7 W [] ∧ W.cell? ⟨w.heap.size, 0, none⟩ = some (.string s) ∧ W.cell? ⟨w.heap.size, 1, none⟩ = some (.slice (some a) ps.length c) ∧ W.cell? ⟨w.heap.size + 1, 0, none⟩ = some (.int .i64 b.brk) ∧ W.cell? ⟨w.heap.size + 1, 1, none⟩ = some (.int .i64 b.drag) ∧ W.cell? ⟨w.heap.size + 1, 2, none⟩ = some (.int .i64 b.drv) ∧ W.cell? ⟨w.heap.size + 1 + 1, 0, none⟩ = some (.int .i64 (k : Int)) ∧ W.cell? ⟨w.heap.size + 1 + 1, 1, none⟩ = some (.int .i64 sq))
            ((go_split_ands; refine HALL.out _ ?_; (first | assumption | (repeat (first | assumption | refine Fr.new ?_ _ | refine Fr.drew ?_ | (refine Fr.set ?_ (by first | exact Nat.le_refl _ | omega | (simp; done) | (simp; omega)) (by first | (simp; done) | (simp; omega)) _))); done)))
            ((first
              | (go_at_call 10; go_split_ands; (with_reducible refine (Copy_any s ps ⟨(some a), c⟩ (by omega) HG.out _ (Fr.lies HAC.out (by assumption))).mono ?_); rintro e w1 ⟨g2, rfl, hl2, hk2, hb1⟩; have HL2 := Lib.hid hl2; have F4 := Fr.call (by assumption) hb1; clear hb1 hl2 hk2)
              | (go_at_call 9; go_split_ands; (with_reducible refine (HS2.out _ _ _ HL2.out).mono ?_); rintro e w1 ⟨g3, rfl, hb1⟩; have F5 := Fr.call (by assumption) hb1; clear hb1)
              | fail "arm"))
        all_goals
          go_split_ands
          go_wp2_with fail
          go_meet
          exact ⟨⟨g3, rfl, rfl⟩, by assumption⟩
      case rest =>
        obtain ⟨wx16, rfl⟩ : ∃ W, W = wc := ⟨_, rfl⟩
        obtain ⟨⟨gx6, rfl, rfl⟩, hx⟩ := hcut
        have FC16 := Lib.hid (F7.out.call hx.bl)
        clear hx F7
        obtain ⟨k0_0, k0_1, kf0, kg0⟩ := (FC16.out.get 2 rfl).two
        have kz0 := (FC16.out.get 2 rfl).lt
        obtain ⟨k1_0, k1_1, k1_2⟩ := (FC16.out.get 1 rfl).three
        have kz1 := (FC16.out.get 1 rfl).lt
        obtain ⟨k2_0, k2_1, kf2, kg2⟩ := (FC16.out.get 0 rfl).two
        have kz2 := (FC16.out.get 0 rfl).lt
        go_wp2_with fail
        go_ret
        exact ⟨rfl, FC16.out.bl⟩

set_option maxHeartbeats 8000000 in
set_option maxRecDepth 100000 in
theorem BrakeStops_any (s : ByteArray) (hs : s.size ≤ maxLen) (ps : List Bp) (A : Option Addr) (c : Nat) (hg : HdOk ⟨A, c⟩) (hl : ps.length ≤ maxLen) (b : Bs) (p sq : Int) (w : World) (hA : Lies w w.heap.size A (ps.flatMap pc)) : Calls Try.prog 3 #[.agg #[.string s, .slice A ps.length c], .agg #[.int .i64 b.brk, .int .i64 b.drag, .int .i64 b.drv], .agg #[.int .i64 p, .int .i64 sq]] w fun e w' => e = .returned (.bool true) ∧ Below w.heap.size w w' := by
  cases hsh : shortB s ps with
  | false => exact st_long s hs ps A c hg hl b p sq hsh w hA
  | true =>
    have hl0 : ps.length ≤ 1000 := by have := (short_iff.1 hsh).2; omega
    by_cases h0 : bothE s ps b = 0
    · obtain ⟨hok, hb⟩ := bothE_zero h0
      have hsb : sE b = 0 := by unfold bothE at h0; rw [if_neg (by rw [trE_ok hok]; simp)] at h0; exact h0
      cases hp : inB p 0 ps.length with
      | false =>
        have e1 : stateE ps p sq = 6 := by unfold stateE; rw [if_pos hp]
        have e2 : postE ps p = 6 := by unfold postE; rw [if_neg (by rw [hp]; simp)]
        exact st_B s hs ps A c hg hl b p sq hsh h0 hp (st_bad s hs ps hl0 b p sq 6 (by rw [bothE_nz, if_pos h0, nz_one, e1]) (by decide)) (fun A' c' W h => GreatestAt_bad s hs ps A' c' hl0 b p 6 (by rw [bothE_nz, if_pos h0, nz_one, e2]) (by decide) W h) w hA
      | true =>
        obtain ⟨k, rfl, hk⟩ : ∃ k : Nat, p = k ∧ k ≤ ps.length := ⟨p.toNat, by have := inB_iff.1 hp; omega, by have := inB_iff.1 hp; omega⟩
        cases hq : inB sq 0 20000000000 with
        | false =>
          have e1 : stateE ps (k : Int) sq = 2 := by unfold stateE; rw [if_neg (by rw [hp]; simp), if_neg (by rw [hq]; simp)]
          have hst := st_bad s hs ps hl0 b k sq 2 (by rw [bothE_nz, if_pos h0, nz_one, e1]) (by decide)
          by_cases hm : gtS ps b k ps.length = -1
          · exact st_C1 s hs ps A c hg hl b k sq 0 [] 0 hsh h0 hk e1 hm hst (gr_ok s hs ps hl0 b hok hb hsb k hk _ hm 0 12 rfl) w hA
          · exact st_C2 s hs ps A c hg hl b k sq 0 [] _ hsh h0 hk e1 rfl hst (gr_ok s hs ps hl0 b hok hb hsb k hk _ rfl _ 0 (gtR_some hm)) hm w hA
        | true =>
          have hsq := inB_iff.1 hq
          have e1 : stateE ps (k : Int) sq = 0 := by unfold stateE; rw [if_neg (by rw [hp]; simp), if_pos hq]
          by_cases hm : gtS ps b k ps.length = -1
          · have hnil : stV ps b k sq ps.length = [] := Decidable.by_contra fun h => by have := stV_gt _ h; omega
            exact st_C3 s hs ps A c hg hl b k sq 0 (stV ps b k sq ps.length) 0 hsh h0 hk e1 hm (st_ok s hs ps hl0 b hok hb hsb k hk sq hsq 0 (by rw [hnil]; rfl)) (gr_ok s hs ps hl0 b hok hb hsb k hk _ hm 0 12 rfl) hsq rfl (by rw [hnil]; rfl) w hA
          · have hmi : 0 ≤ gtS ps b k ps.length ∧ gtS ps b k ps.length ≤ 20000000000 := by rcases gtS_in hok.each b k ps.length with h | h; exact absurd h hm; exact h
            have hs2 := st_ok s hs ps hl0 b hok hb hsb k hk (gtS ps b k ps.length) hmi _ rfl
            have hn2 : (0 : Int) < ((stV ps b k (gtS ps b k ps.length) ps.length).length : Int) := by
              have := List.length_pos_iff.2 (gt_reach hm)
              omega
            have hs3 := fun A' c' W h => (hs2 A' c' W h).mono fun e w' ⟨g, he, _, hb⟩ => (⟨g, he, hb⟩ : ∃ g : Hd, e = Ending.returned (Value.tuple #[Value.slice g.A _ g.c, Value.int .i64 0]) ∧ Below W.heap.size W w')
            by_cases hnil : stV ps b k sq ps.length = []
            · exact st_D s hs ps A c hg hl b k sq 0 (stV ps b k sq ps.length) _ hsh h0 hk e1 rfl (st_ok s hs ps hl0 b hok hb hsb k hk sq hsq 0 (by rw [hnil]; rfl)) (gr_ok s hs ps hl0 b hok hb hsb k hk _ rfl _ 0 (gtR_some hm)) hm hsq rfl (by rw [hnil]; rfl) _ hn2 hs3 w hA
            · exact st_E s hs ps A c hg hl b k sq _ (stV ps b k sq ps.length) _ hsh h0 hk e1 rfl (st_ok s hs ps hl0 b hok hb hsb k hk sq hsq _ rfl) (gr_ok s hs ps hl0 b hok hb hsb k hk _ rfl _ 0 (gtR_some hm)) hm hsq rfl rfl (by have := List.length_pos_iff.2 hnil; omega) (by have := stV_gt _ hnil; omega) _ hn2 hs3 w hA
    · exact st_A s hs ps A c hg hl b p sq _ hsh rfl h0 (st_bad s hs ps hl0 b p sq _ (by rw [bothE_nz, if_neg h0]) h0) (fun A' c' W h => GreatestAt_bad s hs ps A' c' hl0 b p _ (by rw [bothE_nz, if_neg h0]) h0 W h) w hA
end Go.Proofs.Ytmjooiocgeoaiaa
