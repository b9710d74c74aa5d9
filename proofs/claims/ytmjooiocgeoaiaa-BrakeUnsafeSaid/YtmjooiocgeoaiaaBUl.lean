
/-
  The walk of BrakeUnsafe.
-/
import Derived.Test.YtmjooiocgeoaiaaBKit
import Derived.Test.YtmjooiocgeoaiaaBFu
import Derived.Test.YtmjooiocgeoaiaaBFr
import Derived.Test.YtmjooiocgeoaiaaBNoK
import Derived.Test.YtmjooiocgeoaiaaBCp
import Derived.Test.YtmjooiocgeoaiaaBErr
namespace Go.Proofs.Ytmjooiocgeoaiaa
open Go.RowKit
theorem un_law (s : ByteArray) (hs : s.size ≤ maxLen) (ps : List Bp) (hl0 : ps.length ≤ 1000) (b : Bs) (l : List Int) (hl : l.length ≤ maxLen) : ∃ kk ff : Int, (∀ (A' : Option Addr) (c' : Nat) (B' : Option Addr) (d' : Nat) (W : World), Lies W W.heap.size A' (ps.flatMap pc) → Lies W W.heap.size B' (ic l) → Calls Try.prog 25 #[.agg #[.string s, .slice A' ps.length c'], .agg #[.int .i64 b.brk, .int .i64 b.drag, .int .i64 b.drv], .slice B' l.length d'] W fun e w' => e = .returned (.tuple #[.int .i64 kk, .int .i64 ff]) ∧ Below W.heap.size W w') ∧
    ((bothE s ps b ≠ 0 ∧ kk = 0 ∧ ff = bothE s ps b) ∨ (bothE s ps b = 0 ∧ sqsE ps l ≠ 0 ∧ kk = 0 ∧ ff = sqsE ps l) ∨ (bothE s ps b = 0 ∧ sqsE ps l = 0 ∧ ((kk = 0 ∧ ff = 12 ∧ (∀ (A' : Option Addr) (c' : Nat) (B' : Option Addr) (d' : Nat) (W : World), Lies W W.heap.size A' (ps.flatMap pc) → Lies W W.heap.size B' (ic l) → Calls Try.prog 26 #[.agg #[.string s, .slice A' ps.length c'], .agg #[.int .i64 b.brk, .int .i64 b.drag, .int .i64 b.drv], .slice B' l.length d'] W fun e w' => e = .returned (.tuple #[.int .i64 kk, .bool false]) ∧ Below W.heap.size W w')) ∨ (ff = 0 ∧ (∀ (A' : Option Addr) (c' : Nat) (B' : Option Addr) (d' : Nat) (W : World), Lies W W.heap.size A' (ps.flatMap pc) → Lies W W.heap.size B' (ic l) → Calls Try.prog 26 #[.agg #[.string s, .slice A' ps.length c'], .agg #[.int .i64 b.brk, .int .i64 b.drag, .int .i64 b.drv], .slice B' l.length d'] W fun e w' => e = .returned (.tuple #[.int .i64 kk, .bool true]) ∧ Below W.heap.size W w'))))) := by
  by_cases h0 : bothE s ps b = 0
  · obtain ⟨hok, hb⟩ := bothE_zero h0
    have hsb : sE b = 0 := by unfold bothE at h0; rw [if_neg (by rw [trE_ok hok]; simp)] at h0; exact h0
    by_cases h2 : sqsE ps l = 0
    · have hln := sqs_len h2
      have hq := sqs_in h2
      rcases first_bad (fun k => !safeB ps b k (sqAt l k)) (ps.length + 1) with h | ⟨k, k1, k2, k3⟩
      · have hs2 : ∀ j, j ≤ ps.length → safeB ps b j (sqAt l j) = true := fun j hj => by have := h j (by omega); simpa using this
        refine ⟨0, 12, fun A' c' B' d' W hA hB => ?_, .inr (.inr ⟨h0, h2, .inl ⟨rfl, rfl, fun A' c' B' d' W hA hB => ?_⟩⟩)⟩
        · obtain ⟨a', rfl⟩ := ps_some hA hok.n0
          exact FirstUnsafe_ok s hs ps a' c' hl0 b l B' d' hl hok hb hsb h2 hs2 W hA hB
        · obtain ⟨a', rfl⟩ := ps_some hA hok.n0
          exact refFirstUnsafe_any s ps a' c' b hok hb l B' d' hln hq 0 false (.inl ⟨rfl, rfl, hs2⟩) W hA hB
      · have hs1 : safeB ps b k (sqAt l k) = false := by simpa using k2
        have hs2 : ∀ j, j < k → safeB ps b j (sqAt l j) = true := fun j hj => by have := k3 j hj; simpa using this
        refine ⟨k, 0, fun A' c' B' d' W hA hB => ?_, .inr (.inr ⟨h0, h2, .inr ⟨rfl, fun A' c' B' d' W hA hB => ?_⟩⟩)⟩
        · obtain ⟨a', rfl⟩ := ps_some hA hok.n0
          exact FirstUnsafe_hit s hs ps a' c' hl0 b l B' d' hl hok hb hsb h2 k (by omega) hs2 hs1 W hA hB
        · obtain ⟨a', rfl⟩ := ps_some hA hok.n0
          exact refFirstUnsafe_any s ps a' c' b hok hb l B' d' hln hq k true (.inr ⟨rfl, k, rfl, by omega, hs1, hs2⟩) W hA hB
    · refine ⟨0, sqsE ps l, fun A' c' B' d' W hA hB => ?_, .inr (.inl ⟨h0, h2, rfl, rfl⟩)⟩
      exact FirstUnsafe_bad s hs ps A' c' hl0 b l B' d' hl _ (by rw [bothE_nz, if_pos h0, nz_one]) h2 W hA hB
  · refine ⟨0, bothE s ps b, fun A' c' B' d' W hA hB => ?_, .inl ⟨h0, rfl, rfl⟩⟩
    exact FirstUnsafe_bad s hs ps A' c' hl0 b l B' d' hl _ (by rw [bothE_nz, if_neg h0]) h0 W hA hB

set_option maxHeartbeats 8000000 in
set_option maxRecDepth 100000 in
theorem un_long (s : ByteArray) (hs : s.size ≤ maxLen) (ps : List Bp) (A : Option Addr) (c : Nat) (hg : HdOk ⟨A, c⟩) (hl : ps.length ≤ maxLen) (b : Bs) (l : List Int) (B : Option Addr) (d : Nat) (hgr : HdOk ⟨B, d⟩) (hll : l.length ≤ maxLen) (hsh : shortB s ps = false) (w : World) (hA : Lies w w.heap.size A (ps.flatMap pc)) (hB : Lies w w.heap.size B (ic l)) : Calls Try.prog 5 #[.agg #[.string s, .slice A ps.length c], .agg #[.int .i64 b.brk, .int .i64 b.drag, .int .i64 b.drv], .slice B l.length d] w fun e w' => e = .returned (.bool true) ∧ Below w.heap.size w w' := by
  have F0 := Lib.hid (Fr.b2 w 24 #[.string s, .slice A ps.length c] 26 #[.int .i64 b.brk, .int .i64 b.drag, .int .i64 b.drv])
  have HA := Lib.hid hA
  have HG := Lib.hid hg
  have HLR := Lib.hid hB
  have HGR := Lib.hid hgr
  clear hA hg hB hgr
  have HSH := Lib.hid hsh
  clear hsh
  go_enter Try.func5, Try.ntmps5
  go_wp2_with fail
  refine (awake_any _).mono ?_
  rintro e w1 ⟨rfl, hb1⟩
  have G1 := Fr.call F0.out hb1
  obtain ⟨k0_0, k0_1, kf0, kg0⟩ := (G1.get 1 rfl).two
  have kz0 := (G1.get 1 rfl).lt
  obtain ⟨k1_0, k1_1, k1_2⟩ := (G1.get 0 rfl).three
  have kz1 := (G1.get 0 rfl).lt
  have F1 : Hid (Fr w _ [(w.heap.size + 1, 26, #[.int .i64 b.brk, .int .i64 b.drag, .int .i64 b.drv]), (w.heap.size, 24, #[.string s, .slice A ps.length c])]) := Lib.hid G1
  clear hb1 G1 F0
  go_wp2_with fail
  refine (Short_any s hs ps A c hl _).mono ?_
  rintro e w2 ⟨rfl, hb2⟩
  rw [HSH.out]
  clear k0_0 k0_1 kf0 kg0 kz0 k1_0 k1_1 k1_2 kz1
  have G2 := Fr.call F1.out hb2
  obtain ⟨k0_0, k0_1, kf0, kg0⟩ := (G2.get 1 rfl).two
  have kz0 := (G2.get 1 rfl).lt
  obtain ⟨k1_0, k1_1, k1_2⟩ := (G2.get 0 rfl).three
  have kz1 := (G2.get 0 rfl).lt
  have F2 : Hid (Fr w _ [(w.heap.size + 1, 26, #[.int .i64 b.brk, .int .i64 b.drag, .int .i64 b.drv]), (w.heap.size, 24, #[.string s, .slice A ps.length c])]) := Lib.hid G2
  clear hb2 G2 F1
  go_wp2_with fail
  go_ret
  exact ⟨rfl, F2.out.bl⟩

set_option maxHeartbeats 8000000 in
set_option maxRecDepth 100000 in
theorem un_big (s : ByteArray) (hs : s.size ≤ maxLen) (ps : List Bp) (A : Option Addr) (c : Nat) (hg : HdOk ⟨A, c⟩) (hl : ps.length ≤ maxLen) (b : Bs) (l : List Int) (B : Option Addr) (d : Nat) (hgr : HdOk ⟨B, d⟩) (hll : l.length ≤ maxLen) (hsh : shortB s ps = true) (h16 : 16 < l.length) (w : World) (hA : Lies w w.heap.size A (ps.flatMap pc)) (hB : Lies w w.heap.size B (ic l)) : Calls Try.prog 5 #[.agg #[.string s, .slice A ps.length c], .agg #[.int .i64 b.brk, .int .i64 b.drag, .int .i64 b.drv], .slice B l.length d] w fun e w' => e = .returned (.bool true) ∧ Below w.heap.size w w' := by
  have h16i : (16 : Int) < (l.length : Int) := by omega
  have F0 := Lib.hid (Fr.b2 w 24 #[.string s, .slice A ps.length c] 26 #[.int .i64 b.brk, .int .i64 b.drag, .int .i64 b.drv])
  have HA := Lib.hid hA
  have HG := Lib.hid hg
  have HLR := Lib.hid hB
  have HGR := Lib.hid hgr
  clear hA hg hB hgr
  have HSH := Lib.hid hsh
  have hl14 : ps.length ≤ 14 := (short_iff.1 hsh).2
  clear hsh
  go_enter Try.func5, Try.ntmps5
  go_wp2_with fail
  refine (awake_any _).mono ?_
  rintro e w1 ⟨rfl, hb1⟩
  have G1 := Fr.call F0.out hb1
  obtain ⟨k0_0, k0_1, kf0, kg0⟩ := (G1.get 1 rfl).two
  have kz0 := (G1.get 1 rfl).lt
  obtain ⟨k1_0, k1_1, k1_2⟩ := (G1.get 0 rfl).three
  have kz1 := (G1.get 0 rfl).lt
  have F1 : Hid (Fr w _ [(w.heap.size + 1, 26, #[.int .i64 b.brk, .int .i64 b.drag, .int .i64 b.drv]), (w.heap.size, 24, #[.string s, .slice A ps.length c])]) := Lib.hid G1
  clear hb1 G1 F0
  go_wp2_with fail
  refine (Short_any s hs ps A c hl _).mono ?_
  rintro e w2 ⟨rfl, hb2⟩
  rw [HSH.out]
  clear k0_0 k0_1 kf0 kg0 kz0 k1_0 k1_1 k1_2 kz1
  have G2 := Fr.call F1.out hb2
  obtain ⟨k0_0, k0_1, kf0, kg0⟩ := (G2.get 1 rfl).two
  have kz0 := (G2.get 1 rfl).lt
  obtain ⟨k1_0, k1_1, k1_2⟩ := (G2.get 0 rfl).three
  have kz1 := (G2.get 0 rfl).lt
  have F2 : Hid (Fr w _ [(w.heap.size + 1, 26, #[.int .i64 b.brk, .int .i64 b.drag, .int .i64 b.drv]), (w.heap.size, 24, #[.string s, .slice A ps.length c])]) := Lib.hid G2
  clear hb2 G2 F1
  go_wp2_with fail
  go_ret
  exact ⟨rfl, F2.out.bl⟩

set_option maxHeartbeats 8000000 in
set_option maxRecDepth 100000 in
theorem un_A (s : ByteArray) (hs : s.size ≤ maxLen) (ps : List Bp) (A : Option Addr) (c : Nat) (hg : HdOk ⟨A, c⟩) (hl : ps.length ≤ maxLen) (b : Bs) (l : List Int) (B : Option Addr) (d : Nat) (hgr : HdOk ⟨B, d⟩) (hll : l.length ≤ maxLen) (d0 q : Int) (hsh : shortB s ps = true) (h16 : l.length ≤ 16) (hO : bothE s ps b = d0) (hS : sqsE ps l = q) (hck : (∀ (A' : Option Addr) (c' : Nat) (B' : Option Addr) (d' : Nat) (W : World), Lies W W.heap.size A' (ps.flatMap pc) → Lies W W.heap.size B' (ic l) → Calls Try.prog 25 #[.agg #[.string s, .slice A' ps.length c'], .agg #[.int .i64 b.brk, .int .i64 b.drag, .int .i64 b.drv], .slice B' l.length d'] W fun e w' => e = .returned (.tuple #[.int .i64 0, .int .i64 d0]) ∧ Below W.heap.size W w'))  (hd : d0 ≠ 0) (w : World) (hA : Lies w w.heap.size A (ps.flatMap pc)) (hB : Lies w w.heap.size B (ic l)) : Calls Try.prog 5 #[.agg #[.string s, .slice A ps.length c], .agg #[.int .i64 b.brk, .int .i64 b.drag, .int .i64 b.drv], .slice B l.length d] w fun e w' => e = .returned (.bool true) ∧ Below w.heap.size w w' := by
  have HSQ : Hid (∀ W, Lies W W.heap.size B (ic l) → Calls Try.prog 22 #[.agg #[.string s, .slice A ps.length c], .slice B l.length d] W fun e w' => e = .returned (.int .i64 q) ∧ Below W.heap.size W w') := Lib.hid (fun W h => by have := SquaresErr_any s ps A c (by have := (short_iff.1 hsh).2; omega) l B d hll W h; rw [hS] at this; exact this)
  have HCI : Hid (∀ W : World, Lies W W.heap.size B (ic l) → Calls Try.prog 19 #[.slice B l.length d] W fun e w' => ∃ g : Hd, e = .returned (.slice g.A l.length g.c) ∧ Lies w' w'.heap.size g.A (ic l) ∧ HdOk g ∧ (∀ a, g.A = some a → W.heap.size ≤ a.block) ∧ Below W.heap.size W w') := Lib.hid (fun W h => CopyInts_any l ⟨B, d⟩ (by omega) hgr W h)
  obtain ⟨NR, hNR⟩ : ∃ n, l.length = n := ⟨_, rfl⟩
  have HNR := Lib.hid hNR
  rw [hNR] at HSQ HCI h16 hck ⊢
  have HCK := Lib.hid hck
  have HBO := Lib.hid hO
  have h16i : ¬ (16 : Int) < (NR : Int) := by omega
  clear hNR hO hS hck
  have b1d0 : (d0 == 0) = false := by simp [hd]
  have b2d0 : (d0 != 0) = true := by simp [hd]
  have F0 := Lib.hid (Fr.b2 w 24 #[.string s, .slice A ps.length c] 26 #[.int .i64 b.brk, .int .i64 b.drag, .int .i64 b.drv])
  have HA := Lib.hid hA
  have HG := Lib.hid hg
  have HLR := Lib.hid hB
  have HGR := Lib.hid hgr
  clear hA hg hB hgr
  have HSH := Lib.hid hsh
  have hl14 : ps.length ≤ 14 := (short_iff.1 hsh).2
  clear hsh
  clear hll
  go_enter Try.func5, Try.ntmps5
  go_wp2_with fail
  refine (awake_any _).mono ?_
  rintro e w1 ⟨rfl, hb1⟩
  have G1 := Fr.call F0.out hb1
  obtain ⟨k0_0, k0_1, kf0, kg0⟩ := (G1.get 1 rfl).two
  have kz0 := (G1.get 1 rfl).lt
  obtain ⟨k1_0, k1_1, k1_2⟩ := (G1.get 0 rfl).three
  have kz1 := (G1.get 0 rfl).lt
  have F1 : Hid (Fr w _ [(w.heap.size + 1, 26, #[.int .i64 b.brk, .int .i64 b.drag, .int .i64 b.drv]), (w.heap.size, 24, #[.string s, .slice A ps.length c])]) := Lib.hid G1
  clear hb1 G1 F0
  go_wp2_with fail
  refine (Short_any s hs ps A c hl _).mono ?_
  rintro e w2 ⟨rfl, hb2⟩
  rw [HSH.out]
  clear k0_0 k0_1 kf0 kg0 kz0 k1_0 k1_1 k1_2 kz1
  have G2 := Fr.call F1.out hb2
  obtain ⟨k0_0, k0_1, kf0, kg0⟩ := (G2.get 1 rfl).two
  have kz0 := (G2.get 1 rfl).lt
  obtain ⟨k1_0, k1_1, k1_2⟩ := (G2.get 0 rfl).three
  have kz1 := (G2.get 0 rfl).lt
  have F2 : Hid (Fr w _ [(w.heap.size + 1, 26, #[.int .i64 b.brk, .int .i64 b.drag, .int .i64 b.drv]), (w.heap.size, 24, #[.string s, .slice A ps.length c])]) := Lib.hid G2
  clear hb2 G2 F1
  go_upto_region 5 with fail
  clear k0_0 k0_1 kf0 kg0 kz0 k1_0 k1_1 k1_2 kz1
  go_cut [7, 8] from 22 to 30 (fun r e W => (r = .int .i64 0 ∧ e = .int .i64 d0) ∧ Fr w2 W [])
  case first =>
    have HALL : Hid (∀ W, Fr w2 W [] → Fr w2 W [] ∧ W.cell? ⟨w.heap.size, 0, none⟩ = some (.string s) ∧ W.cell? ⟨w.heap.size, 1, none⟩ = some (.slice A ps.length c) ∧ W.cell? ⟨w.heap.size + 1, 0, none⟩ = some (.int .i64 b.brk) ∧ W.cell? ⟨w.heap.size + 1, 1, none⟩ = some (.int .i64 b.drag) ∧ W.cell? ⟨w.heap.size + 1, 2, none⟩ = some (.int .i64 b.drv)) := Lib.hid (fun W hW => ⟨hW, ((F2.out.get 1 rfl).call hW.bl).cell 0, ((F2.out.get 1 rfl).call hW.bl).cell 1, ((F2.out.get 0 rfl).call hW.bl).cell 0, ((F2.out.get 0 rfl).call hW.bl).cell 1, ((F2.out.get 0 rfl).call hW.bl).cell 2⟩)
    have HAC := Lib.hid (Fr.lies HA.out F2.out); have HRC := Lib.hid (Fr.lies HLR.out F2.out)
    have F10 : Fr w2 _ [] := Fr.nil w2
    go_region_held3 (fun W => Fr w2 W [] ∧ W.cell? ⟨w.heap.size, 0, none⟩ = some (.string s) ∧ W.cell? ⟨w.heap.size, 1, none⟩ = some (.slice A ps.length c) ∧ W.cell? ⟨w.heap.size + 1, 0, none⟩ = some (.int .i64 b.brk) ∧ W.cell? ⟨w.heap.size + 1, 1, none⟩ = some (.int .i64 b.drag) ∧ W.cell? ⟨w.heap.size + 1, 2, none⟩ = some (.int .i64 b.drv))
        ((go_split_ands; refine HALL.out _ ?_; (first | assumption | (repeat (first | assumption | refine Fr.new ?_ _ | refine Fr.drew ?_ | (refine Fr.set ?_ (by first | exact Nat.le_refl _ | omega | (simp; done) | (simp; omega)) (by first | (simp; done) | (simp; omega)) _))); done)))
        ((first
          | (go_at_call 10; go_split_ands; (with_reducible refine (Copy_any s ps ⟨A, c⟩ (by omega) HG.out _ (Fr.lies HAC.out (by assumption))).mono ?_); rintro e w1 ⟨g2, rfl, hl2, hk2, hb1⟩; have HL2 := Lib.hid hl2; have F4 := Fr.call (by assumption) hb1; clear hb1 hl2 hk2)
          | (go_at_call 19; go_split_ands; (with_reducible refine (HCI.out _ (Fr.lies HRC.out (by assumption))).mono ?_); rintro e w1 ⟨g4, rfl, hl4, hk4, _, hb1⟩; have HL4 := Lib.hid hl4; have F6 := Fr.call (by assumption) hb1; have HL2 := Lib.hid (Lies.call HL2.out hb1); clear hb1 hl4 hk4)
          | (go_at_call 25; go_split_ands; (with_reducible refine (HCK.out _ _ _ _ _ HL2.out HL4.out).mono ?_); rintro e w1 ⟨rfl, hb1⟩; have F5 := Fr.call (by assumption) hb1; clear hb1)
          | fail "arm"))
    all_goals
      go_split_ands
      go_wp2_with fail
      go_meet
      exact ⟨⟨rfl, rfl⟩, by assumption⟩
  case rest =>
    obtain ⟨wx6, rfl⟩ : ∃ W, W = wc := ⟨_, rfl⟩
    obtain ⟨⟨rfl, rfl⟩, hx⟩ := hcut
    have FC6 := Lib.hid (F2.out.call hx.bl)
    clear hx F2
    obtain ⟨k0_0, k0_1, kf0, kg0⟩ := (FC6.out.get 1 rfl).two
    have kz0 := (FC6.out.get 1 rfl).lt
    obtain ⟨k1_0, k1_1, k1_2⟩ := (FC6.out.get 0 rfl).three
    have kz1 := (FC6.out.get 0 rfl).lt
    go_wp2_with fail
    refine (BothErr_any s hs ps A c hl b _ (Fr.lies HA.out FC6.out)).mono ?_
    rintro e w21 ⟨rfl, hb21⟩
    rw [HBO.out]
    clear k0_0 k0_1 kf0 kg0 kz0 k1_0 k1_1 k1_2 kz1
    have G21 := Fr.call FC6.out hb21
    obtain ⟨k0_0, k0_1, kf0, kg0⟩ := (G21.get 1 rfl).two
    have kz0 := (G21.get 1 rfl).lt
    obtain ⟨k1_0, k1_1, k1_2⟩ := (G21.get 0 rfl).three
    have kz1 := (G21.get 0 rfl).lt
    have F21 : Hid (Fr w _ [(w.heap.size + 1, 26, #[.int .i64 b.brk, .int .i64 b.drag, .int .i64 b.drv]), (w.heap.size, 24, #[.string s, .slice A ps.length c])]) := Lib.hid G21
    clear hb21 G21 FC6
    go_wp2_with fail
    go_ret
    exact ⟨rfl, F21.out.bl⟩

set_option maxHeartbeats 8000000 in
set_option maxRecDepth 100000 in
theorem un_B (s : ByteArray) (hs : s.size ≤ maxLen) (ps : List Bp) (A : Option Addr) (c : Nat) (hg : HdOk ⟨A, c⟩) (hl : ps.length ≤ maxLen) (b : Bs) (l : List Int) (B : Option Addr) (d : Nat) (hgr : HdOk ⟨B, d⟩) (hll : l.length ≤ maxLen) (q : Int) (hsh : shortB s ps = true) (h16 : l.length ≤ 16) (hO : bothE s ps b = 0) (hS : sqsE ps l = q) (hck : (∀ (A' : Option Addr) (c' : Nat) (B' : Option Addr) (d' : Nat) (W : World), Lies W W.heap.size A' (ps.flatMap pc) → Lies W W.heap.size B' (ic l) → Calls Try.prog 25 #[.agg #[.string s, .slice A' ps.length c'], .agg #[.int .i64 b.brk, .int .i64 b.drag, .int .i64 b.drv], .slice B' l.length d'] W fun e w' => e = .returned (.tuple #[.int .i64 0, .int .i64 q]) ∧ Below W.heap.size W w'))  (hq : q ≠ 0) (w : World) (hA : Lies w w.heap.size A (ps.flatMap pc)) (hB : Lies w w.heap.size B (ic l)) : Calls Try.prog 5 #[.agg #[.string s, .slice A ps.length c], .agg #[.int .i64 b.brk, .int .i64 b.drag, .int .i64 b.drv], .slice B l.length d] w fun e w' => e = .returned (.bool true) ∧ Below w.heap.size w w' := by
  have HSQ : Hid (∀ W, Lies W W.heap.size B (ic l) → Calls Try.prog 22 #[.agg #[.string s, .slice A ps.length c], .slice B l.length d] W fun e w' => e = .returned (.int .i64 q) ∧ Below W.heap.size W w') := Lib.hid (fun W h => by have := SquaresErr_any s ps A c (by have := (short_iff.1 hsh).2; omega) l B d hll W h; rw [hS] at this; exact this)
  have HCI : Hid (∀ W : World, Lies W W.heap.size B (ic l) → Calls Try.prog 19 #[.slice B l.length d] W fun e w' => ∃ g : Hd, e = .returned (.slice g.A l.length g.c) ∧ Lies w' w'.heap.size g.A (ic l) ∧ HdOk g ∧ (∀ a, g.A = some a → W.heap.size ≤ a.block) ∧ Below W.heap.size W w') := Lib.hid (fun W h => CopyInts_any l ⟨B, d⟩ (by omega) hgr W h)
  obtain ⟨NR, hNR⟩ : ∃ n, l.length = n := ⟨_, rfl⟩
  have HNR := Lib.hid hNR
  rw [hNR] at HSQ HCI h16 hck ⊢
  have HCK := Lib.hid hck
  have HBO := Lib.hid hO
  have h16i : ¬ (16 : Int) < (NR : Int) := by omega
  clear hNR hO hS hck
  have b1q : (q == 0) = false := by simp [hq]
  have b2q : (q != 0) = true := by simp [hq]
  have F0 := Lib.hid (Fr.b2 w 24 #[.string s, .slice A ps.length c] 26 #[.int .i64 b.brk, .int .i64 b.drag, .int .i64 b.drv])
  have HA := Lib.hid hA
  have HG := Lib.hid hg
  have HLR := Lib.hid hB
  have HGR := Lib.hid hgr
  clear hA hg hB hgr
  have HSH := Lib.hid hsh
  have hl14 : ps.length ≤ 14 := (short_iff.1 hsh).2
  clear hsh
  clear hll
  go_enter Try.func5, Try.ntmps5
  go_wp2_with fail
  refine (awake_any _).mono ?_
  rintro e w1 ⟨rfl, hb1⟩
  have G1 := Fr.call F0.out hb1
  obtain ⟨k0_0, k0_1, kf0, kg0⟩ := (G1.get 1 rfl).two
  have kz0 := (G1.get 1 rfl).lt
  obtain ⟨k1_0, k1_1, k1_2⟩ := (G1.get 0 rfl).three
  have kz1 := (G1.get 0 rfl).lt
  have F1 : Hid (Fr w _ [(w.heap.size + 1, 26, #[.int .i64 b.brk, .int .i64 b.drag, .int .i64 b.drv]), (w.heap.size, 24, #[.string s, .slice A ps.length c])]) := Lib.hid G1
  clear hb1 G1 F0
  go_wp2_with fail
  refine (Short_any s hs ps A c hl _).mono ?_
  rintro e w2 ⟨rfl, hb2⟩
  rw [HSH.out]
  clear k0_0 k0_1 kf0 kg0 kz0 k1_0 k1_1 k1_2 kz1
  have G2 := Fr.call F1.out hb2
  obtain ⟨k0_0, k0_1, kf0, kg0⟩ := (G2.get 1 rfl).two
  have kz0 := (G2.get 1 rfl).lt
  obtain ⟨k1_0, k1_1, k1_2⟩ := (G2.get 0 rfl).three
  have kz1 := (G2.get 0 rfl).lt
  have F2 : Hid (Fr w _ [(w.heap.size + 1, 26, #[.int .i64 b.brk, .int .i64 b.drag, .int .i64 b.drv]), (w.heap.size, 24, #[.string s, .slice A ps.length c])]) := Lib.hid G2
  clear hb2 G2 F1
  go_upto_region 5 with fail
  clear k0_0 k0_1 kf0 kg0 kz0 k1_0 k1_1 k1_2 kz1
  go_cut [7, 8] from 22 to 30 (fun r e W => (r = .int .i64 0 ∧ e = .int .i64 q) ∧ Fr w2 W [])
  case first =>
    have HALL : Hid (∀ W, Fr w2 W [] → Fr w2 W [] ∧ W.cell? ⟨w.heap.size, 0, none⟩ = some (.string s) ∧ W.cell? ⟨w.heap.size, 1, none⟩ = some (.slice A ps.length c) ∧ W.cell? ⟨w.heap.size + 1, 0, none⟩ = some (.int .i64 b.brk) ∧ W.cell? ⟨w.heap.size + 1, 1, none⟩ = some (.int .i64 b.drag) ∧ W.cell? ⟨w.heap.size + 1, 2, none⟩ = some (.int .i64 b.drv)) := Lib.hid (fun W hW => ⟨hW, ((F2.out.get 1 rfl).call hW.bl).cell 0, ((F2.out.get 1 rfl).call hW.bl).cell 1, ((F2.out.get 0 rfl).call hW.bl).cell 0, ((F2.out.get 0 rfl).call hW.bl).cell 1, ((F2.out.get 0 rfl).call hW.bl).cell 2⟩)
    have HAC := Lib.hid (Fr.lies HA.out F2.out); have HRC := Lib.hid (Fr.lies HLR.out F2.out)
    have F10 : Fr w2 _ [] := Fr.nil w2
    go_region_held3 (fun W => Fr w2 W [] ∧ W.cell? ⟨w.heap.size, 0, none⟩ = some (.string s) ∧ W.cell? ⟨w.heap.size, 1, none⟩ = some (.slice A ps.length c) ∧ W.cell? ⟨w.heap.size + 1, 0, none⟩ = some (.int .i64 b.brk) ∧ W.cell? ⟨w.heap.size + 1, 1, none⟩ = some (.int .i64 b.drag) ∧ W.cell? ⟨w.heap.size + 1, 2, none⟩ = some (.int .i64 b.drv))
        ((go_split_ands; refine HALL.out _ ?_; (first | assumption | (repeat (first | assumption | refine Fr.new ?_ _ | refine Fr.drew ?_ | (refine Fr.set ?_ (by first | exact Nat.le_refl _ | omega | (simp; done) | (simp; omega)) (by first | (simp; done) | (simp; omega)) _))); done)))
        ((first
          | (go_at_call 10; go_split_ands; (with_reducible refine (Copy_any s ps ⟨A, c⟩ (by omega) HG.out _ (Fr.lies HAC.out (by assumption))).mono ?_); rintro e w1 ⟨g2, rfl, hl2, hk2, hb1⟩; have HL2 := Lib.hid hl2; have F4 := Fr.call (by assumption) hb1; clear hb1 hl2 hk2)
          | (go_at_call 19; go_split_ands; (with_reducible refine (HCI.out _ (Fr.lies HRC.out (by assumption))).mono ?_); rintro e w1 ⟨g4, rfl, hl4, hk4, _, hb1⟩; have HL4 := Lib.hid hl4; have F6 := Fr.call (by assumption) hb1; have HL2 := Lib.hid (Lies.call HL2.out hb1); clear hb1 hl4 hk4)
          | (go_at_call 25; go_split_ands; (with_reducible refine (HCK.out _ _ _ _ _ HL2.out HL4.out).mono ?_); rintro e w1 ⟨rfl, hb1⟩; have F5 := Fr.call (by assumption) hb1; clear hb1)
          | fail "arm"))
    all_goals
      go_split_ands
      go_wp2_with fail
      go_meet
      exact ⟨⟨rfl, rfl⟩, by assumption⟩
  case rest =>
    obtain ⟨wx7, rfl⟩ : ∃ W, W = wc := ⟨_, rfl⟩
    obtain ⟨⟨rfl, rfl⟩, hx⟩ := hcut
    have FC7 := Lib.hid (F2.out.call hx.bl)
    clear hx F2
    obtain ⟨k0_0, k0_1, kf0, kg0⟩ := (FC7.out.get 1 rfl).two
    have kz0 := (FC7.out.get 1 rfl).lt
    obtain ⟨k1_0, k1_1, k1_2⟩ := (FC7.out.get 0 rfl).three
    have kz1 := (FC7.out.get 0 rfl).lt
    go_wp2_with fail
    refine (BothErr_any s hs ps A c hl b _ (Fr.lies HA.out FC7.out)).mono ?_
    rintro e w21 ⟨rfl, hb21⟩
    rw [HBO.out]
    clear k0_0 k0_1 kf0 kg0 kz0 k1_0 k1_1 k1_2 kz1
    have G21 := Fr.call FC7.out hb21
    obtain ⟨k0_0, k0_1, kf0, kg0⟩ := (G21.get 1 rfl).two
    have kz0 := (G21.get 1 rfl).lt
    obtain ⟨k1_0, k1_1, k1_2⟩ := (G21.get 0 rfl).three
    have kz1 := (G21.get 0 rfl).lt
    have F21 : Hid (Fr w _ [(w.heap.size + 1, 26, #[.int .i64 b.brk, .int .i64 b.drag, .int .i64 b.drv]), (w.heap.size, 24, #[.string s, .slice A ps.length c])]) := Lib.hid G21
    clear hb21 G21 FC7
    go_wp2_with fail
    refine (HSQ.out _ (Fr.lies HLR.out F21.out)).mono ?_
    rintro e w22 ⟨rfl, hb22⟩
    clear k0_0 k0_1 kf0 kg0 kz0 k1_0 k1_1 k1_2 kz1
    have G22 := Fr.call F21.out hb22
    obtain ⟨k0_0, k0_1, kf0, kg0⟩ := (G22.get 1 rfl).two
    have kz0 := (G22.get 1 rfl).lt
    obtain ⟨k1_0, k1_1, k1_2⟩ := (G22.get 0 rfl).three
    have kz1 := (G22.get 0 rfl).lt
    have F22 : Hid (Fr w _ [(w.heap.size + 1, 26, #[.int .i64 b.brk, .int .i64 b.drag, .int .i64 b.drv]), (w.heap.size, 24, #[.string s, .slice A ps.length c])]) := Lib.hid G22
    clear hb22 G22 F21
    go_wp2_with fail
    go_ret
    exact ⟨rfl, F22.out.bl⟩

set_option maxHeartbeats 8000000 in
set_option maxRecDepth 100000 in
theorem un_C1 (s : ByteArray) (hs : s.size ≤ maxLen) (ps : List Bp) (A : Option Addr) (c : Nat) (hg : HdOk ⟨A, c⟩) (hl : ps.length ≤ maxLen) (b : Bs) (l : List Int) (B : Option Addr) (d : Nat) (hgr : HdOk ⟨B, d⟩) (hll : l.length ≤ maxLen) (hsh : shortB s ps = true) (h16 : l.length ≤ 16) (hO : bothE s ps b = 0) (hS : sqsE ps l = 0) (hck : (∀ (A' : Option Addr) (c' : Nat) (B' : Option Addr) (d' : Nat) (W : World), Lies W W.heap.size A' (ps.flatMap pc) → Lies W W.heap.size B' (ic l) → Calls Try.prog 25 #[.agg #[.string s, .slice A' ps.length c'], .agg #[.int .i64 b.brk, .int .i64 b.drag, .int .i64 b.drv], .slice B' l.length d'] W fun e w' => e = .returned (.tuple #[.int .i64 0, .int .i64 12]) ∧ Below W.heap.size W w')) (hck2 : (∀ (A' : Option Addr) (c' : Nat) (B' : Option Addr) (d' : Nat) (W : World), Lies W W.heap.size A' (ps.flatMap pc) → Lies W W.heap.size B' (ic l) → Calls Try.prog 26 #[.agg #[.string s, .slice A' ps.length c'], .agg #[.int .i64 b.brk, .int .i64 b.drag, .int .i64 b.drv], .slice B' l.length d'] W fun e w' => e = .returned (.tuple #[.int .i64 0, .bool false]) ∧ Below W.heap.size W w'))  (w : World) (hA : Lies w w.heap.size A (ps.flatMap pc)) (hB : Lies w w.heap.size B (ic l)) : Calls Try.prog 5 #[.agg #[.string s, .slice A ps.length c], .agg #[.int .i64 b.brk, .int .i64 b.drag, .int .i64 b.drv], .slice B l.length d] w fun e w' => e = .returned (.bool true) ∧ Below w.heap.size w w' := by
  have HSQ : Hid (∀ W, Lies W W.heap.size B (ic l) → Calls Try.prog 22 #[.agg #[.string s, .slice A ps.length c], .slice B l.length d] W fun e w' => e = .returned (.int .i64 0) ∧ Below W.heap.size W w') := Lib.hid (fun W h => by have := SquaresErr_any s ps A c (by have := (short_iff.1 hsh).2; omega) l B d hll W h; rw [hS] at this; exact this)
  have HCI : Hid (∀ W : World, Lies W W.heap.size B (ic l) → Calls Try.prog 19 #[.slice B l.length d] W fun e w' => ∃ g : Hd, e = .returned (.slice g.A l.length g.c) ∧ Lies w' w'.heap.size g.A (ic l) ∧ HdOk g ∧ (∀ a, g.A = some a → W.heap.size ≤ a.block) ∧ Below W.heap.size W w') := Lib.hid (fun W h => CopyInts_any l ⟨B, d⟩ (by omega) hgr W h)
  obtain ⟨NR, hNR⟩ : ∃ n, l.length = n := ⟨_, rfl⟩
  have HNR := Lib.hid hNR
  rw [hNR] at HSQ HCI h16 hck hck2 ⊢
  have HCK := Lib.hid hck
  have HCK2 := Lib.hid hck2
  have HBO := Lib.hid hO
  have h16i : ¬ (16 : Int) < (NR : Int) := by omega
  clear hNR hO hS hck hck2
  have F0 := Lib.hid (Fr.b2 w 24 #[.string s, .slice A ps.length c] 26 #[.int .i64 b.brk, .int .i64 b.drag, .int .i64 b.drv])
  have HA := Lib.hid hA
  have HG := Lib.hid hg
  have HLR := Lib.hid hB
  have HGR := Lib.hid hgr
  clear hA hg hB hgr
  have HSH := Lib.hid hsh
  have hl14 : ps.length ≤ 14 := (short_iff.1 hsh).2
  clear hsh
  clear hll
  go_enter Try.func5, Try.ntmps5
  go_wp2_with fail
  refine (awake_any _).mono ?_
  rintro e w1 ⟨rfl, hb1⟩
  have G1 := Fr.call F0.out hb1
  obtain ⟨k0_0, k0_1, kf0, kg0⟩ := (G1.get 1 rfl).two
  have kz0 := (G1.get 1 rfl).lt
  obtain ⟨k1_0, k1_1, k1_2⟩ := (G1.get 0 rfl).three
  have kz1 := (G1.get 0 rfl).lt
  have F1 : Hid (Fr w _ [(w.heap.size + 1, 26, #[.int .i64 b.brk, .int .i64 b.drag, .int .i64 b.drv]), (w.heap.size, 24, #[.string s, .slice A ps.length c])]) := Lib.hid G1
  clear hb1 G1 F0
  go_wp2_with fail
  refine (Short_any s hs ps A c hl _).mono ?_
  rintro e w2 ⟨rfl, hb2⟩
  rw [HSH.out]
  clear k0_0 k0_1 kf0 kg0 kz0 k1_0 k1_1 k1_2 kz1
  have G2 := Fr.call F1.out hb2
  obtain ⟨k0_0, k0_1, kf0, kg0⟩ := (G2.get 1 rfl).two
  have kz0 := (G2.get 1 rfl).lt
  obtain ⟨k1_0, k1_1, k1_2⟩ := (G2.get 0 rfl).three
  have kz1 := (G2.get 0 rfl).lt
  have F2 : Hid (Fr w _ [(w.heap.size + 1, 26, #[.int .i64 b.brk, .int .i64 b.drag, .int .i64 b.drv]), (w.heap.size, 24, #[.string s, .slice A ps.length c])]) := Lib.hid G2
  clear hb2 G2 F1
  go_upto_region 5 with fail
  clear k0_0 k0_1 kf0 kg0 kz0 k1_0 k1_1 k1_2 kz1
  go_cut [7, 8] from 22 to 30 (fun r e W => (r = .int .i64 0 ∧ e = .int .i64 12) ∧ Fr w2 W [])
  case first =>
    have HALL : Hid (∀ W, Fr w2 W [] → Fr w2 W [] ∧ W.cell? ⟨w.heap.size, 0, none⟩ = some (.string s) ∧ W.cell? ⟨w.heap.size, 1, none⟩ = some (.slice A ps.length c) ∧ W.cell? ⟨w.heap.size + 1, 0, none⟩ = some (.int .i64 b.brk) ∧ W.cell? ⟨w.heap.size + 1, 1, none⟩ = some (.int .i64 b.drag) ∧ W.cell? ⟨w.heap.size + 1, 2, none⟩ = some (.int .i64 b.drv)) := Lib.hid (fun W hW => ⟨hW, ((F2.out.get 1 rfl).call hW.bl).cell 0, ((F2.out.get 1 rfl).call hW.bl).cell 1, ((F2.out.get 0 rfl).call hW.bl).cell 0, ((F2.out.get 0 rfl).call hW.bl).cell 1, ((F2.out.get 0 rfl).call hW.bl).cell 2⟩)
    have HAC := Lib.hid (Fr.lies HA.out F2.out); have HRC := Lib.hid (Fr.lies HLR.out F2.out)
    have F10 : Fr w2 _ [] := Fr.nil w2
    go_region_held3 (fun W => Fr w2 W [] ∧ W.cell? ⟨w.heap.size, 0, none⟩ = some (.string s) ∧ W.cell? ⟨w.heap.size, 1, none⟩ = some (.slice A ps.length c) ∧ W.cell? ⟨w.heap.size + 1, 0, none⟩ = some (.int .i64 b.brk) ∧ W.cell? ⟨w.heap.size + 1, 1, none⟩ = some (.int .i64 b.drag) ∧ W.cell? ⟨w.heap.size + 1, 2, none⟩ = some (.int .i64 b.drv))
        ((go_split_ands; refine HALL.out _ ?_; (first | assumption | (repeat (first | assumption | refine Fr.new ?_ _ | refine Fr.drew ?_ | (refine Fr.set ?_ (by first | exact Nat.le_refl _ | omega | (simp; done) | (simp; omega)) (by first | (simp; done) | (simp; omega)) _))); done)))
        ((first
          | (go_at_call 10; go_split_ands; (with_reducible refine (Copy_any s ps ⟨A, c⟩ (by omega) HG.out _ (Fr.lies HAC.out (by assumption))).mono ?_); rintro e w1 ⟨g2, rfl, hl2, hk2, hb1⟩; have HL2 := Lib.hid hl2; have F4 := Fr.call (by assumption) hb1; clear hb1 hl2 hk2)
          | (go_at_call 19; go_split_ands; (with_reducible refine (HCI.out _ (Fr.lies HRC.out (by assumption))).mono ?_); rintro e w1 ⟨g4, rfl, hl4, hk4, _, hb1⟩; have HL4 := Lib.hid hl4; have F6 := Fr.call (by assumption) hb1; have HL2 := Lib.hid (Lies.call HL2.out hb1); clear hb1 hl4 hk4)
          | (go_at_call 25; go_split_ands; (with_reducible refine (HCK.out _ _ _ _ _ HL2.out HL4.out).mono ?_); rintro e w1 ⟨rfl, hb1⟩; have F5 := Fr.call (by assumption) hb1; clear hb1)
          | fail "arm"))
    all_goals
      go_split_ands
      go_wp2_with fail
      go_meet
      exact ⟨⟨rfl, rfl⟩, by assumption⟩
  case rest =>
    obtain ⟨wx8, rfl⟩ : ∃ W, W = wc := ⟨_, rfl⟩
    obtain ⟨⟨rfl, rfl⟩, hx⟩ := hcut
    have FC8 := Lib.hid (F2.out.call hx.bl)
    clear hx F2
    obtain ⟨k0_0, k0_1, kf0, kg0⟩ := (FC8.out.get 1 rfl).two
    have kz0 := (FC8.out.get 1 rfl).lt
    obtain ⟨k1_0, k1_1, k1_2⟩ := (FC8.out.get 0 rfl).three
    have kz1 := (FC8.out.get 0 rfl).lt
    go_wp2_with fail
    refine (BothErr_any s hs ps A c hl b _ (Fr.lies HA.out FC8.out)).mono ?_
    rintro e w21 ⟨rfl, hb21⟩
    rw [HBO.out]
    clear k0_0 k0_1 kf0 kg0 kz0 k1_0 k1_1 k1_2 kz1
    have G21 := Fr.call FC8.out hb21
    obtain ⟨k0_0, k0_1, kf0, kg0⟩ := (G21.get 1 rfl).two
    have kz0 := (G21.get 1 rfl).lt
    obtain ⟨k1_0, k1_1, k1_2⟩ := (G21.get 0 rfl).three
    have kz1 := (G21.get 0 rfl).lt
    have F21 : Hid (Fr w _ [(w.heap.size + 1, 26, #[.int .i64 b.brk, .int .i64 b.drag, .int .i64 b.drv]), (w.heap.size, 24, #[.string s, .slice A ps.length c])]) := Lib.hid G21
    clear hb21 G21 FC8
    go_wp2_with fail
    refine (HSQ.out _ (Fr.lies HLR.out F21.out)).mono ?_
    rintro e w22 ⟨rfl, hb22⟩
    clear k0_0 k0_1 kf0 kg0 kz0 k1_0 k1_1 k1_2 kz1
    have G22 := Fr.call F21.out hb22
    obtain ⟨k0_0, k0_1, kf0, kg0⟩ := (G22.get 1 rfl).two
    have kz0 := (G22.get 1 rfl).lt
    obtain ⟨k1_0, k1_1, k1_2⟩ := (G22.get 0 rfl).three
    have kz1 := (G22.get 0 rfl).lt
    have F22 : Hid (Fr w _ [(w.heap.size + 1, 26, #[.int .i64 b.brk, .int .i64 b.drag, .int .i64 b.drv]), (w.heap.size, 24, #[.string s, .slice A ps.length c])]) := Lib.hid G22
    clear hb22 G22 F21
    go_wp2_with fail
    refine (HCK2.out _ _ _ _ _ (Fr.lies HA.out F22.out) (Fr.lies HLR.out F22.out)).mono ?_
    rintro e w23 ⟨rfl, hb23⟩
    clear k0_0 k0_1 kf0 kg0 kz0 k1_0 k1_1 k1_2 kz1
    have G23 := Fr.call F22.out hb23
    obtain ⟨k0_0, k0_1, kf0, kg0⟩ := (G23.get 1 rfl).two
    have kz0 := (G23.get 1 rfl).lt
    obtain ⟨k1_0, k1_1, k1_2⟩ := (G23.get 0 rfl).three
    have kz1 := (G23.get 0 rfl).lt
    have F23 : Hid (Fr w _ [(w.heap.size + 1, 26, #[.int .i64 b.brk, .int .i64 b.drag, .int .i64 b.drv]), (w.heap.size, 24, #[.string s, .slice A ps.length c])]) := Lib.hid G23
    clear hb23 G23 F22
    go_wp2_with fail
    go_ret
    exact ⟨rfl, F23.out.bl⟩

set_option maxHeartbeats 8000000 in
set_option maxRecDepth 100000 in
theorem un_C2 (s : ByteArray) (hs : s.size ≤ maxLen) (ps : List Bp) (A : Option Addr) (c : Nat) (hg : HdOk ⟨A, c⟩) (hl : ps.length ≤ maxLen) (b : Bs) (l : List Int) (B : Option Addr) (d : Nat) (hgr : HdOk ⟨B, d⟩) (hll : l.length ≤ maxLen) (kk : Int) (hsh : shortB s ps = true) (h16 : l.length ≤ 16) (hO : bothE s ps b = 0) (hS : sqsE ps l = 0) (hck : (∀ (A' : Option Addr) (c' : Nat) (B' : Option Addr) (d' : Nat) (W : World), Lies W W.heap.size A' (ps.flatMap pc) → Lies W W.heap.size B' (ic l) → Calls Try.prog 25 #[.agg #[.string s, .slice A' ps.length c'], .agg #[.int .i64 b.brk, .int .i64 b.drag, .int .i64 b.drv], .slice B' l.length d'] W fun e w' => e = .returned (.tuple #[.int .i64 kk, .int .i64 0]) ∧ Below W.heap.size W w')) (hck2 : (∀ (A' : Option Addr) (c' : Nat) (B' : Option Addr) (d' : Nat) (W : World), Lies W W.heap.size A' (ps.flatMap pc) → Lies W W.heap.size B' (ic l) → Calls Try.prog 26 #[.agg #[.string s, .slice A' ps.length c'], .agg #[.int .i64 b.brk, .int .i64 b.drag, .int .i64 b.drv], .slice B' l.length d'] W fun e w' => e = .returned (.tuple #[.int .i64 kk, .bool true]) ∧ Below W.heap.size W w'))  (w : World) (hA : Lies w w.heap.size A (ps.flatMap pc)) (hB : Lies w w.heap.size B (ic l)) : Calls Try.prog 5 #[.agg #[.string s, .slice A ps.length c], .agg #[.int .i64 b.brk, .int .i64 b.drag, .int .i64 b.drv], .slice B l.length d] w fun e w' => e = .returned (.bool true) ∧ Below w.heap.size w w' := by
  have HSQ : Hid (∀ W, Lies W W.heap.size B (ic l) → Calls Try.prog 22 #[.agg #[.string s, .slice A ps.length c], .slice B l.length d] W fun e w' => e = .returned (.int .i64 0) ∧ Below W.heap.size W w') := Lib.hid (fun W h => by have := SquaresErr_any s ps A c (by have := (short_iff.1 hsh).2; omega) l B d hll W h; rw [hS] at this; exact this)
  have HCI : Hid (∀ W : World, Lies W W.heap.size B (ic l) → Calls Try.prog 19 #[.slice B l.length d] W fun e w' => ∃ g : Hd, e = .returned (.slice g.A l.length g.c) ∧ Lies w' w'.heap.size g.A (ic l) ∧ HdOk g ∧ (∀ a, g.A = some a → W.heap.size ≤ a.block) ∧ Below W.heap.size W w') := Lib.hid (fun W h => CopyInts_any l ⟨B, d⟩ (by omega) hgr W h)
  obtain ⟨NR, hNR⟩ : ∃ n, l.length = n := ⟨_, rfl⟩
  have HNR := Lib.hid hNR
  rw [hNR] at HSQ HCI h16 hck hck2 ⊢
  have HCK := Lib.hid hck
  have HCK2 := Lib.hid hck2
  have HBO := Lib.hid hO
  have h16i : ¬ (16 : Int) < (NR : Int) := by omega
  clear hNR hO hS hck hck2
  have F0 := Lib.hid (Fr.b2 w 24 #[.string s, .slice A ps.length c] 26 #[.int .i64 b.brk, .int .i64 b.drag, .int .i64 b.drv])
  have HA := Lib.hid hA
  have HG := Lib.hid hg
  have HLR := Lib.hid hB
  have HGR := Lib.hid hgr
  clear hA hg hB hgr
  have HSH := Lib.hid hsh
  have hl14 : ps.length ≤ 14 := (short_iff.1 hsh).2
  clear hsh
  clear hll
  go_enter Try.func5, Try.ntmps5
  go_wp2_with fail
  refine (awake_any _).mono ?_
  rintro e w1 ⟨rfl, hb1⟩
  have G1 := Fr.call F0.out hb1
  obtain ⟨k0_0, k0_1, kf0, kg0⟩ := (G1.get 1 rfl).two
  have kz0 := (G1.get 1 rfl).lt
  obtain ⟨k1_0, k1_1, k1_2⟩ := (G1.get 0 rfl).three
  have kz1 := (G1.get 0 rfl).lt
  have F1 : Hid (Fr w _ [(w.heap.size + 1, 26, #[.int .i64 b.brk, .int .i64 b.drag, .int .i64 b.drv]), (w.heap.size, 24, #[.string s, .slice A ps.length c])]) := Lib.hid G1
  clear hb1 G1 F0
  go_wp2_with fail
  refine (Short_any s hs ps A c hl _).mono ?_
  rintro e w2 ⟨rfl, hb2⟩
  rw [HSH.out]
  clear k0_0 k0_1 kf0 kg0 kz0 k1_0 k1_1 k1_2 kz1
  have G2 := Fr.call F1.out hb2
  obtain ⟨k0_0, k0_1, kf0, kg0⟩ := (G2.get 1 rfl).two
  have kz0 := (G2.get 1 rfl).lt
  obtain ⟨k1_0, k1_1, k1_2⟩ := (G2.get 0 rfl).three
  have kz1 := (G2.get 0 rfl).lt
  have F2 : Hid (Fr w _ [(w.heap.size + 1, 26, #[.int .i64 b.brk, .int .i64 b.drag, .int .i64 b.drv]), (w.heap.size, 24, #[.string s, .slice A ps.length c])]) := Lib.hid G2
  clear hb2 G2 F1
  go_upto_region 5 with fail
  clear k0_0 k0_1 kf0 kg0 kz0 k1_0 k1_1 k1_2 kz1
  go_cut [7, 8] from 22 to 30 (fun r e W => (r = .int .i64 kk ∧ e = .int .i64 0) ∧ Fr w2 W [])
  case first =>
    have HALL : Hid (∀ W, Fr w2 W [] → Fr w2 W [] ∧ W.cell? ⟨w.heap.size, 0, none⟩ = some (.string s) ∧ W.cell? ⟨w.heap.size, 1, none⟩ = some (.slice A ps.length c) ∧ W.cell? ⟨w.heap.size + 1, 0, none⟩ = some (.int .i64 b.brk) ∧ W.cell? ⟨w.heap.size + 1, 1, none⟩ = some (.int .i64 b.drag) ∧ W.cell? ⟨w.heap.size + 1, 2, none⟩ = some (.int .i64 b.drv)) := Lib.hid (fun W hW => ⟨hW, ((F2.out.get 1 rfl).call hW.bl).cell 0, ((F2.out.get 1 rfl).call hW.bl).cell 1, ((F2.out.get 0 rfl).call hW.bl).cell 0, ((F2.out.get 0 rfl).call hW.bl).cell 1, ((F2.out.get 0 rfl).call hW.bl).cell 2⟩)
    have HAC := Lib.hid (Fr.lies HA.out F2.out); have HRC := Lib.hid (Fr.lies HLR.out F2.out)
    have F10 : Fr w2 _ [] := Fr.nil w2
    go_region_held3 (fun W => Fr w2 W [] ∧ W.cell? ⟨w.heap.size, 0, none⟩ = some (.string s) ∧ W.cell? ⟨w.heap.size, 1, none⟩ = some (.slice A ps.length c) ∧ W.cell? ⟨w.heap.size + 1, 0, none⟩ = some (.int .i64 b.brk) ∧ W.cell? ⟨w.heap.size + 1, 1, none⟩ = some (.int .i64 b.drag) ∧ W.cell? ⟨w.heap.size + 1, 2, none⟩ = some (.int .i64 b.drv))
        ((go_split_ands; refine HALL.out _ ?_; (first | assumption | (repeat (first | assumption | refine Fr.new ?_ _ | refine Fr.drew ?_ | (refine Fr.set ?_ (by first | exact Nat.le_refl _ | omega | (simp; done) | (simp; omega)) (by first | (simp; done) | (simp; omega)) _))); done)))
        ((first
          | (go_at_call 10; go_split_ands; (with_reducible refine (Copy_any s ps ⟨A, c⟩ (by omega) HG.out _ (Fr.lies HAC.out (by assumption))).mono ?_); rintro e w1 ⟨g2, rfl, hl2, hk2, hb1⟩; have HL2 := Lib.hid hl2; have F4 := Fr.call (by assumption) hb1; clear hb1 hl2 hk2)
          | (go_at_call 19; go_split_ands; (with_reducible refine (HCI.out _ (Fr.lies HRC.out (by assumption))).mono ?_); rintro e w1 ⟨g4, rfl, hl4, hk4, _, hb1⟩; have HL4 := Lib.hid hl4; have F6 := Fr.call (by assumption) hb1; have HL2 := Lib.hid (Lies.call HL2.out hb1); clear hb1 hl4 hk4)
          | (go_at_call 25; go_split_ands; (with_reducible refine (HCK.out _ _ _ _ _ HL2.out HL4.out).mono ?_); rintro e w1 ⟨rfl, hb1⟩; have F5 := Fr.call (by assumption) hb1; clear hb1)
          | fail "arm"))
    all_goals
      go_split_ands
      go_wp2_with fail
      go_meet
      exact ⟨⟨rfl, rfl⟩, by assumption⟩
  case rest =>
    obtain ⟨wx9, rfl⟩ : ∃ W, W = wc := ⟨_, rfl⟩
    obtain ⟨⟨rfl, rfl⟩, hx⟩ := hcut
    have FC9 := Lib.hid (F2.out.call hx.bl)
    clear hx F2
    obtain ⟨k0_0, k0_1, kf0, kg0⟩ := (FC9.out.get 1 rfl).two
    have kz0 := (FC9.out.get 1 rfl).lt
    obtain ⟨k1_0, k1_1, k1_2⟩ := (FC9.out.get 0 rfl).three
    have kz1 := (FC9.out.get 0 rfl).lt
    go_wp2_with fail
    refine (BothErr_any s hs ps A c hl b _ (Fr.lies HA.out FC9.out)).mono ?_
    rintro e w21 ⟨rfl, hb21⟩
    rw [HBO.out]
    clear k0_0 k0_1 kf0 kg0 kz0 k1_0 k1_1 k1_2 kz1
    have G21 := Fr.call FC9.out hb21
    obtain ⟨k0_0, k0_1, kf0, kg0⟩ := (G21.get 1 rfl).two
    have kz0 := (G21.get 1 rfl).lt
    obtain ⟨k1_0, k1_1, k1_2⟩ := (G21.get 0 rfl).three
    have kz1 := (G21.get 0 rfl).lt
    have F21 : Hid (Fr w _ [(w.heap.size + 1, 26, #[.int .i64 b.brk, .int .i64 b.drag, .int .i64 b.drv]), (w.heap.size, 24, #[.string s, .slice A ps.length c])]) := Lib.hid G21
    clear hb21 G21 FC9
    go_wp2_with fail
    refine (HSQ.out _ (Fr.lies HLR.out F21.out)).mono ?_
    rintro e w22 ⟨rfl, hb22⟩
    clear k0_0 k0_1 kf0 kg0 kz0 k1_0 k1_1 k1_2 kz1
    have G22 := Fr.call F21.out hb22
    obtain ⟨k0_0, k0_1, kf0, kg0⟩ := (G22.get 1 rfl).two
    have kz0 := (G22.get 1 rfl).lt
    obtain ⟨k1_0, k1_1, k1_2⟩ := (G22.get 0 rfl).three
    have kz1 := (G22.get 0 rfl).lt
    have F22 : Hid (Fr w _ [(w.heap.size + 1, 26, #[.int .i64 b.brk, .int .i64 b.drag, .int .i64 b.drv]), (w.heap.size, 24, #[.string s, .slice A ps.length c])]) := Lib.hid G22
    clear hb22 G22 F21
    go_wp2_with fail
    refine (HCK2.out _ _ _ _ _ (Fr.lies HA.out F22.out) (Fr.lies HLR.out F22.out)).mono ?_
    rintro e w23 ⟨rfl, hb23⟩
    clear k0_0 k0_1 kf0 kg0 kz0 k1_0 k1_1 k1_2 kz1
    have G23 := Fr.call F22.out hb23
    obtain ⟨k0_0, k0_1, kf0, kg0⟩ := (G23.get 1 rfl).two
    have kz0 := (G23.get 1 rfl).lt
    obtain ⟨k1_0, k1_1, k1_2⟩ := (G23.get 0 rfl).three
    have kz1 := (G23.get 0 rfl).lt
    have F23 : Hid (Fr w _ [(w.heap.size + 1, 26, #[.int .i64 b.brk, .int .i64 b.drag, .int .i64 b.drv]), (w.heap.size, 24, #[.string s, .slice A ps.length c])]) := Lib.hid G23
    clear hb23 G23 F22
    go_wp2_with fail
    go_ret
    exact ⟨rfl, F23.out.bl⟩

set_option maxHeartbeats 8000000 in
set_option maxRecDepth 100000 in
theorem BrakeUnsafe_any (s : ByteArray) (hs : s.size ≤ maxLen) (ps : List Bp) (A : Option Addr) (c : Nat) (hg : HdOk ⟨A, c⟩) (hl : ps.length ≤ maxLen) (b : Bs) (l : List Int) (B : Option Addr) (d : Nat) (hgr : HdOk ⟨B, d⟩) (hll : l.length ≤ maxLen) (w : World) (hA : Lies w w.heap.size A (ps.flatMap pc)) (hB : Lies w w.heap.size B (ic l)) : Calls Try.prog 5 #[.agg #[.string s, .slice A ps.length c], .agg #[.int .i64 b.brk, .int .i64 b.drag, .int .i64 b.drv], .slice B l.length d] w fun e w' => e = .returned (.bool true) ∧ Below w.heap.size w w' := by
  cases hsh : shortB s ps with
  | false => exact un_long s hs ps A c hg hl b l B d hgr hll hsh w hA hB
  | true =>
    by_cases h16 : 16 < l.length
    · exact un_big s hs ps A c hg hl b l B d hgr hll hsh h16 w hA hB
    · have hl0 : ps.length ≤ 1000 := by have := (short_iff.1 hsh).2; omega
      obtain ⟨kk, ff, hck, hk⟩ := un_law s hs ps hl0 b l hll
      rcases hk with ⟨h0, rfl, rfl⟩ | ⟨h0, h2, rfl, rfl⟩ | ⟨h0, h2, ⟨rfl, rfl, hr⟩ | ⟨rfl, hr⟩⟩
      · exact un_A s hs ps A c hg hl b l B d hgr hll _ _ hsh (by omega) rfl rfl hck h0 w hA hB
      · exact un_B s hs ps A c hg hl b l B d hgr hll _ hsh (by omega) h0 rfl hck h2 w hA hB
      · exact un_C1 s hs ps A c hg hl b l B d hgr hll hsh (by omega) h0 h2 hck hr w hA hB
      · exact un_C2 s hs ps A c hg hl b l B d hgr hll _ hsh (by omega) h0 h2 hck hr w hA hB
end Go.Proofs.Ytmjooiocgeoaiaa
