
/-
  The walks of the greatest step of a move, and of the errors of a move.
-/
import Derived.Test.YtemjefhfplaibaaDoorTFd
namespace Go.Proofs.YtemjefhfplaibaaDoor
open Go.RowKit

/-- The greatest size of a step so far. -/
def gsV (F : Nat → Int) : Nat → Int
  | 0 => 0
  | k + 1 => max (gsV F k) (max (F (k + 1) - F k) (-(F (k + 1) - F k)))
theorem gsV_bound {F : Nat → Int} {M : Int} (n : Nat) (hM : 0 ≤ M) (h : ∀ k, k ≤ n → -M ≤ F k ∧ F k ≤ M) : ∀ k, k ≤ n → 0 ≤ gsV F k ∧ gsV F k ≤ 2 * M
  | 0, _ => by show (0 : Int) ≤ 0 ∧ (0 : Int) ≤ 2 * M; omega
  | k + 1, hk => by
    have ih := gsV_bound n hM h k (by omega)
    have a := h k (by omega)
    have b := h (k + 1) hk
    show 0 ≤ max (gsV F k) (max (F (k + 1) - F k) (-(F (k + 1) - F k))) ∧ max (gsV F k) (max (F (k + 1) - F k) (-(F (k + 1) - F k))) ≤ 2 * M
    omega
/-- The error of a move on a right track. -/
def mvE (ls : List Int) (p len mv : Int) : Int := if inB mv 1 2000 = false then 2 else if p + len + mv ≤ begV ls ls.length then 0 else 23
/-- The force behind so many steps. -/
def frcAt (ls : List Int) (p len : Int) (cs : List T3) (fl : T3) (k : Nat) : Int := frcV ls (p + k) len cs fl
theorem fed_on {ls : List Int} {p len mv : Int} {cs : List T3} {fl : T3} (hf : Fed ls p len cs fl) (hm : mvE ls p len mv = 0) (k : Nat) (hk : (k : Int) ≤ mv) : Fed ls (p + k) len cs fl := by
  unfold mvE at hm
  split at hm
  · cases hm
  · split at hm
    · refine ⟨⟨hf.q.n0, hf.q.n1, hf.q.x, hf.q.l0, hf.q.l1, by have := hf.q.p0; omega, by omega⟩, hf.n, hf.c, hf.f⟩
    · cases hm
theorem mvE_ok {ls : List Int} {p len mv : Int} (hm : mvE ls p len mv = 0) : inB mv 1 2000 = true ∧ p + len + mv ≤ begV ls ls.length := by
  unfold mvE at hm
  split at hm
  · cases hm
  · split at hm
    · refine ⟨by rename_i h _; cases h2 : inB mv 1 2000 <;> simp [h2] at h ⊢, by assumption⟩
    · cases hm
theorem frcAt_bound {ls : List Int} {p len mv : Int} {cs : List T3} {fl : T3} (hf : Fed ls p len cs fl) (hm : mvE ls p len mv = 0) (k : Nat) (hk : (k : Int) ≤ mv) : -840000000000000000 ≤ frcAt ls p len cs fl k ∧ frcAt ls p len cs fl k ≤ 840000000000000000 := by
  have h := fed_on hf hm k hk
  exact frcT_bound h ls.length (by have := h.q.n1; omega)

set_option maxHeartbeats 4000000 in
set_option maxRecDepth 100000 in
theorem GreatestStep_ok (ls : List Int) (A : Option Addr) (c : Nat) (p len : Int) (cs : List T3) (C : Option Addr) (d : Nat) (fl : T3) (mv : Int) (hf : Fed ls p len cs fl) (hm : mvE ls p len mv = 0) (w : World) (hA : Lies w w.heap.size A (ic ls)) (hC : Lies w w.heap.size C (cs.flatMap tc)) :
    Calls Tryd.prog 38 #[.agg #[.slice A ls.length c], .agg #[.int .i64 p, .int .i64 len], .agg #[.slice C cs.length d, .int .i64 fl.a, .int .i64 fl.b, .int .i64 mv]] w fun e w' => e = .returned (.tuple #[.int .i64 (gsV (frcAt ls p len cs fl) mv.toNat), .int .i64 0]) ∧ Below w.heap.size w w' := by
  have F0 := Lib.hid (Fr.b3 w 49 #[.slice A ls.length c] 51 #[.int .i64 p, .int .i64 len] 65 #[.slice C cs.length d, .int .i64 fl.a, .int .i64 fl.b, .int .i64 mv])
  have HA := Lib.hid hA
  have HC := Lib.hid hC
  have HF := Lib.hid hf
  have HM := Lib.hid hm
  obtain ⟨hin, hend⟩ := mvE_ok hm
  have HIN := Lib.hid hin
  obtain ⟨m0, m1⟩ := inB_iff.1 hin
  obtain ⟨l0, l1⟩ := And.intro hf.q.l0 hf.q.l1
  have p0 := hf.q.p0
  obtain ⟨t0, t1⟩ := begV_bound hf.q.x ls.length (by have := hf.q.n1; omega)
  have HH : Hid (decide (p ≤ begV ls ls.length - len - mv) = true) := Lib.hid (by simp; omega)
  have HB : Hid (∀ k : Nat, (k : Int) ≤ mv → -840000000000000000 ≤ frcAt ls p len cs fl k ∧ frcAt ls p len cs fl k ≤ 840000000000000000) := Lib.hid (fun k hk => frcAt_bound hf hm k hk)
  have HFS : Hid (∀ k : Nat, (k : Int) ≤ mv → Fed ls (p + k) len cs fl) := Lib.hid (fun k hk => fed_on hf hm k hk)
  have HG : Hid (∀ k : Nat, (k : Int) ≤ mv → 0 ≤ gsV (frcAt ls p len cs fl) k ∧ gsV (frcAt ls p len cs fl) k ≤ 1680000000000000000) := Lib.hid (fun k hk => by have := gsV_bound (F := frcAt ls p len cs fl) (M := 840000000000000000) k (by omega) (fun i hi => frcAt_bound hf hm i (by omega)) k (Nat.le_refl _); omega)
  have hpm : p ≤ 14000000 := by omega
  clear hA hC hf hm hin hend
  go_enter Tryd.func38, Tryd.ntmps38
  go_wp2_with fail
  refine (checkFed_ok ls A c p len cs C d fl mv HF.out _ (Fr.lies HA.out F0.out) (Fr.lies HC.out F0.out)).mono ?_
  rintro e w1 ⟨rfl, hb1⟩
  have F1 := Lib.hid (Fr.box (F0.out.call hb1) 114 #[.slice A ls.length c, .int .i64 (begV ls ls.length)])
  have z1 := (F0.out.call hb1).top.lt
  have hz := z1
  have z2 := (F0.out.call hb1).at1.lt
  have z3 := (F0.out.call hb1).at2.lt
  obtain ⟨x0, x1, x2, x3⟩ := (F0.out.call hb1).top.four
  obtain ⟨y0, y1, _, _⟩ := (F0.out.call hb1).at1.two
  clear hb1 F0
  go_wp2_with (go_at_call 79; refine (within_any _ _ _ _).mono ?_; rintro e w' ⟨rfl, rfl⟩; rw [HIN.out])
  refine (holds_any A ls.length c (begV ls ls.length) p len mv ⟨t0, t1⟩ ⟨l0, l1⟩ ⟨by omega, by omega⟩ _).mono ?_
  rintro e w2 ⟨rfl, hb2⟩
  rw [HH.out]
  have F2 := Lib.hid (F1.out.call hb2)
  clear x0 x1 x2 x3 y0 y1 z1 z2 z3 hb2 F1
  obtain ⟨q0, q1, _, _⟩ := F2.out.top.two
  obtain ⟨x0, x1, x2, x3⟩ := F2.out.at1.four
  obtain ⟨y0, y1, _, _⟩ := F2.out.at2.two
  go_wp2_with fail
  refine (cforce_any ls A c p len cs C d fl mv HF.out _ (Fr.lies HA.out F2.out) (Fr.lies HC.out F2.out)).mono ?_
  rintro e w3 ⟨rfl, hb3⟩
  have F3 := Lib.hid (F2.out.call hb3)
  clear q0 q1 x0 x1 x2 x3 y0 y1 hb3 F2
  obtain ⟨x0, x1, x2, x3⟩ := F3.out.at1.four
  go_wp2_with fail
  clear x0 x1 x2 x3
  go_loopw [10, 11, 39] (fun s b i wr => ∃ k : Nat, (k : Int) ≤ mv ∧ i = .int .i64 k ∧ s = .int .i64 (gsV (frcAt ls p len cs fl) k) ∧ b = .int .i64 (frcAt ls p len cs fl k) ∧ Fr w wr [(w1.heap.size, 114, #[.slice A ls.length c, .int .i64 (begV ls ls.length)]), (w.heap.size + 1 + 1, 65, #[.slice C cs.length d, .int .i64 fl.a, .int .i64 fl.b, .int .i64 mv]), (w.heap.size + 1, 51, #[.int .i64 (p + k), .int .i64 len])]) (fun _ _ i _ => mv.toNat - (intOf i).toNat)
  case atStart => exact ⟨0, by omega, rfl, rfl, by simp [frcAt], ⟨F3.out.bl, fun b hb => by
    simp at hb
    rcases hb with rfl | rfl | rfl
    · exact F3.out.bk _ (by simp)
    · exact F3.out.bk _ (by simp)
    · exact F3.out.bk _ (by simp)⟩⟩
  case round =>
    obtain ⟨k, hk, rfl, rfl, rfl, hfr⟩ := hrel
    have FK := Lib.hid hfr
    clear hfr F3
    obtain ⟨y0, y1, yf, yg⟩ := FK.out.at2.two
    obtain ⟨q0, q1, _, _⟩ := FK.out.top.two
    obtain ⟨x0, x1, x2, x3⟩ := FK.out.at1.four
    have hzz := FK.out.top.lt
    obtain ⟨b0, b1⟩ := HB.out k hk
    by_cases hlt : (k : Int) < mv
    · have hw := IntWalk.i64_in (p + k + 1) ⟨by omega, by omega⟩
      have hk1 : ((k + 1 : Nat) : Int) ≤ mv := by omega
      obtain ⟨d0, d1⟩ := HB.out (k + 1) hk1
      have FS : Hid (Fr w (wr.setCell ⟨w.heap.size + 1, 0, none⟩ (.int .i64 (p + k + 1))) [(w1.heap.size, 114, #[.slice A ls.length c, .int .i64 (begV ls ls.length)]), (w.heap.size + 1 + 1, 65, #[.slice C cs.length d, .int .i64 fl.a, .int .i64 fl.b, .int .i64 mv]), (w.heap.size + 1, 51, #[.int .i64 (p + k + 1), .int .i64 len])]) := Lib.hid ⟨FK.out.bl.setCell (by simp) _, fun b hb => by
        simp at hb
        rcases hb with rfl | rfl | rfl
        · exact FK.out.top.far (by simp; omega) _
        · exact FK.out.at1.far (by simp) _
        · have := FK.out.at2.set_ 0 (.int .i64 (p + k + 1))
          simpa using this⟩
      have HFK : Hid (Fed ls (p + k + 1) len cs fl) := Lib.hid (by have := HFS.out (k + 1) hk1; rw [show (p + ((k + 1 : Nat) : Int)) = p + k + 1 by omega] at this; exact this)
      have HFE : Hid (frcV ls (p + k + 1) len cs fl = frcAt ls p len cs fl (k + 1)) := Lib.hid (by unfold frcAt; rw [show (p + ((k + 1 : Nat) : Int)) = p + k + 1 by omega])
      have HGS : Hid (gsV (frcAt ls p len cs fl) (k + 1) = max (gsV (frcAt ls p len cs fl) k) (max (frcAt ls p len cs fl (k + 1) - frcAt ls p len cs fl k) (-(frcAt ls p len cs fl (k + 1) - frcAt ls p len cs fl k)))) := Lib.hid rfl
      obtain ⟨g0, g1⟩ := HG.out k hk
      go_wp2_with fail
      refine (cforce_any ls A c (p + k + 1) len cs C d fl mv HFK.out _ (Fr.lies HA.out FS.out) (Fr.lies HC.out FS.out)).mono ?_
      rintro e w5 ⟨rfl, hb5⟩
      rw [HFE.out]
      have F5 := Lib.hid (FS.out.call hb5)
      clear hb5 FS y0 y1 yf yg q0 q1 x0 x1 x2 x3
      generalize hf1 : frcAt ls p len cs fl (k + 1) = f1 at *
      have HF1 := Lib.hid hf1
      clear hf1
      generalize frcAt ls p len cs fl k = f0 at *
      generalize gsV (frcAt ls p len cs fl) k = gk at *
      have ws := IntWalk.i64_in (f1 - f0) ⟨by omega, by omega⟩
      go_wp2_with (go_at_call 78; refine (size_any _ (by omega) (by omega) _).mono ?_; rintro e w' ⟨rfl, rfl⟩)
      all_goals
        go_roundw
        case rel => exact ⟨k + 1, by omega, by go_num, by first | (rw [HGS.out]; done) | exact congrArg (Value.int .i64) (by rw [HGS.out]; omega), by rw [HF1.out], by rw [show (p + ((k + 1 : Nat) : Int)) = p + k + 1 by omega]; exact F5.out⟩
        case measure => simp [intOf]; omega
    · obtain rfl : k = mv.toNat := by omega
      go_wp2_with fail
      go_ret2
      exact ⟨rfl, FK.out.bl⟩

set_option maxHeartbeats 4000000 in
theorem GreatestStep_fed (ls : List Int) (A : Option Addr) (c : Nat) (p len : Int) (cs : List T3) (C : Option Addr) (d : Nat) (fl : T3) (mv : Int) (hl : ls.length ≤ maxLen) (hl2 : cs.length ≤ 1000) (er : Int) (he : fedE ls p len cs fl = er) (hr : er ≠ 0) (w : World) (hA : Lies w w.heap.size A (ic ls)) (hC : Lies w w.heap.size C (cs.flatMap tc)) :
    Calls Tryd.prog 38 #[.agg #[.slice A ls.length c], .agg #[.int .i64 p, .int .i64 len], .agg #[.slice C cs.length d, .int .i64 fl.a, .int .i64 fl.b, .int .i64 mv]] w fun e w' => e = .returned (.tuple #[.int .i64 0, .int .i64 er]) ∧ Below w.heap.size w w' := by
  have F0 := Lib.hid (Fr.b3 w 49 #[.slice A ls.length c] 51 #[.int .i64 p, .int .i64 len] 65 #[.slice C cs.length d, .int .i64 fl.a, .int .i64 fl.b, .int .i64 mv])
  have HA := Lib.hid hA
  have HC := Lib.hid hC
  have HE := Lib.hid he
  have HR := Lib.hid hr
  have ge : (er != 0) = true := by simp [hr]
  clear hA hC he hr
  go_enter Tryd.func38, Tryd.ntmps38
  go_wp2_with fail
  refine (checkFed_bad ls A c p len cs C d fl mv hl hl2 er HE.out HR.out _ (Fr.lies HA.out F0.out) (Fr.lies HC.out F0.out)).mono ?_
  rintro e w1 ⟨rfl, hb1⟩
  have F1 := Lib.hid (Fr.box (F0.out.call hb1) 114 #[.slice none 0 0, .int .i64 0])
  clear hb1 F0
  go_wp2_with fail
  go_ret2
  exact ⟨rfl, F1.out.bl⟩

set_option maxHeartbeats 4000000 in
theorem GreatestStep_move (ls : List Int) (A : Option Addr) (c : Nat) (p len : Int) (cs : List T3) (C : Option Addr) (d : Nat) (fl : T3) (mv : Int) (hf : Fed ls p len cs fl) (er : Int) (he : mvE ls p len mv = er) (hr : er ≠ 0) (w : World) (hA : Lies w w.heap.size A (ic ls)) (hC : Lies w w.heap.size C (cs.flatMap tc)) :
    Calls Tryd.prog 38 #[.agg #[.slice A ls.length c], .agg #[.int .i64 p, .int .i64 len], .agg #[.slice C cs.length d, .int .i64 fl.a, .int .i64 fl.b, .int .i64 mv]] w fun e w' => e = .returned (.tuple #[.int .i64 0, .int .i64 er]) ∧ Below w.heap.size w w' := by
  have F0 := Lib.hid (Fr.b3 w 49 #[.slice A ls.length c] 51 #[.int .i64 p, .int .i64 len] 65 #[.slice C cs.length d, .int .i64 fl.a, .int .i64 fl.b, .int .i64 mv])
  have HA := Lib.hid hA
  have HC := Lib.hid hC
  have HF := Lib.hid hf
  obtain ⟨l0, l1⟩ := And.intro hf.q.l0 hf.q.l1
  obtain ⟨t0, t1⟩ := begV_bound hf.q.x ls.length (by have := hf.q.n1; omega)
  cases hin : inB mv 1 2000 with
  | false =>
    have h5 : er = 2 := by rw [← he]; unfold mvE; rw [if_pos hin]
    subst h5
    have HIN := Lib.hid hin
    clear hA hC he hr hf hin
    go_enter Tryd.func38, Tryd.ntmps38
    go_wp2_with fail
    refine (checkFed_ok ls A c p len cs C d fl mv HF.out _ (Fr.lies HA.out F0.out) (Fr.lies HC.out F0.out)).mono ?_
    rintro e w1 ⟨rfl, hb1⟩
    have F1 := Lib.hid (Fr.box (F0.out.call hb1) 114 #[.slice A ls.length c, .int .i64 (begV ls ls.length)])
    have z1 := (F0.out.call hb1).top.lt
    obtain ⟨x0, x1, x2, x3⟩ := (F0.out.call hb1).top.four
    clear hb1 F0
    go_wp2_with (go_at_call 79; refine (within_any _ _ _ _).mono ?_; rintro e w' ⟨rfl, rfl⟩; rw [HIN.out])
    go_ret2
    exact ⟨rfl, F1.out.bl⟩
  | true =>
    obtain ⟨m0, m1⟩ := inB_iff.1 hin
    have h7 : ¬ p + len + mv ≤ begV ls ls.length := fun h => hr (by rw [← he]; unfold mvE; rw [if_neg (by rw [hin]; simp), if_pos h])
    have h5 : er = 23 := by rw [← he]; unfold mvE; rw [if_neg (by rw [hin]; simp), if_neg h7]
    subst h5
    have HIN := Lib.hid hin
    have HH : Hid (decide (p ≤ begV ls ls.length - len - mv) = false) := Lib.hid (by simp; omega)
    clear hA hC he hr hf hin h7
    go_enter Tryd.func38, Tryd.ntmps38
    go_wp2_with fail
    refine (checkFed_ok ls A c p len cs C d fl mv HF.out _ (Fr.lies HA.out F0.out) (Fr.lies HC.out F0.out)).mono ?_
    rintro e w1 ⟨rfl, hb1⟩
    have F1 := Lib.hid (Fr.box (F0.out.call hb1) 114 #[.slice A ls.length c, .int .i64 (begV ls ls.length)])
    have z1 := (F0.out.call hb1).top.lt
    have z2 := (F0.out.call hb1).at1.lt
    obtain ⟨x0, x1, x2, x3⟩ := (F0.out.call hb1).top.four
    obtain ⟨y0, y1, _, _⟩ := (F0.out.call hb1).at1.two
    clear hb1 F0
    go_wp2_with (go_at_call 79; refine (within_any _ _ _ _).mono ?_; rintro e w' ⟨rfl, rfl⟩; rw [HIN.out])
    refine (holds_any A ls.length c (begV ls ls.length) p len mv ⟨t0, t1⟩ ⟨l0, l1⟩ ⟨by omega, by omega⟩ _).mono ?_
    rintro e w2 ⟨rfl, hb2⟩
    rw [HH.out]
    have F2 := Lib.hid (F1.out.call hb2)
    clear x0 x1 x2 x3 y0 y1 z1 z2 hb2 F1
    go_wp2_with fail
    go_ret2
    exact ⟨rfl, F2.out.bl⟩

set_option maxHeartbeats 4000000 in
set_option maxRecDepth 100000 in
theorem refGreatestStep_any (ls : List Int) (A : Option Addr) (c : Nat) (p len : Int) (cs : List T3) (C : Option Addr) (d : Nat) (fl : T3) (mv : Int) (hf : Fed ls p len cs fl) (hm : mvE ls p len mv = 0) (w : World) (hA : Lies w w.heap.size A (ic ls)) (hC : Lies w w.heap.size C (cs.flatMap tc)) :
    Calls Tryd.prog 43 #[.agg #[.slice A ls.length c], .agg #[.int .i64 p, .int .i64 len], .agg #[.slice C cs.length d, .int .i64 fl.a, .int .i64 fl.b, .int .i64 mv]] w fun e w' => e = .returned (.int .i64 (gsV (frcAt ls p len cs fl) mv.toNat)) ∧ Below w.heap.size w w' := by
  have F0 := Lib.hid (Fr.b3 w 49 #[.slice A ls.length c] 51 #[.int .i64 p, .int .i64 len] 65 #[.slice C cs.length d, .int .i64 fl.a, .int .i64 fl.b, .int .i64 mv])
  have HA := Lib.hid hA
  have HC := Lib.hid hC
  obtain ⟨hin, hend⟩ := mvE_ok hm
  obtain ⟨m0, m1⟩ := inB_iff.1 hin
  obtain ⟨l0, l1⟩ := And.intro hf.q.l0 hf.q.l1
  have p0 := hf.q.p0
  obtain ⟨t0, t1⟩ := begV_bound hf.q.x ls.length (by have := hf.q.n1; omega)
  have HB : Hid (∀ k : Nat, (k : Int) ≤ mv → -840000000000000000 ≤ frcAt ls p len cs fl k ∧ frcAt ls p len cs fl k ≤ 840000000000000000) := Lib.hid (fun k hk => frcAt_bound hf hm k hk)
  have HFA : Hid (∀ (k : Nat) (x : Int) (w : World), (k : Int) ≤ mv → x = p + k → Lies w w.heap.size A (ic ls) → Lies w w.heap.size C (cs.flatMap tc) → Calls Tryd.prog 41 #[.agg #[.slice A ls.length c], .agg #[.int .i64 x, .int .i64 len], .agg #[.slice C cs.length d, .int .i64 fl.a, .int .i64 fl.b, .int .i64 mv]] w fun e w' => e = .returned (.int .i64 (frcAt ls p len cs fl k)) ∧ Below w.heap.size w w') := Lib.hid (fun k x w hk hx h1 h2 => by subst hx; exact refForceAt_any ls A c (p + k) len cs C d fl mv (fed_on hf hm k hk) w h1 h2)
  have HG : Hid (∀ k : Nat, (k : Int) ≤ mv → 0 ≤ gsV (frcAt ls p len cs fl) k ∧ gsV (frcAt ls p len cs fl) k ≤ 1680000000000000000) := Lib.hid (fun k hk => by have := gsV_bound (F := frcAt ls p len cs fl) (M := 840000000000000000) k (by omega) (fun i hi => frcAt_bound hf hm i (by omega)) k (Nat.le_refl _); omega)
  have hpm : p ≤ 14000000 := by omega
  clear hA hC hf hm hin hend
  go_enter Tryd.func43, Tryd.ntmps43
  go_wp2_with fail
  go_loopw [7, 8] (fun s i wr => ∃ k : Nat, (k : Int) ≤ mv ∧ i = .int .i64 k ∧ s = .int .i64 (gsV (frcAt ls p len cs fl) k) ∧ Fr w wr [(w.heap.size + 1 + 1, 65, #[.slice C cs.length d, .int .i64 fl.a, .int .i64 fl.b, .int .i64 mv]), (w.heap.size + 1, 51, #[.int .i64 p, .int .i64 len]), (w.heap.size, 49, #[.slice A ls.length c])]) (fun _ i _ => mv.toNat - (intOf i).toNat)
  case atStart => exact ⟨0, by omega, rfl, rfl, F0.out⟩
  case round =>
    obtain ⟨k, hk, rfl, rfl, hfr⟩ := hrel
    have FK := Lib.hid hfr
    clear hfr F0
    obtain ⟨x0, x1, x2, x3⟩ := FK.out.top.four
    obtain ⟨y0, y1, _, _⟩ := FK.out.at1.two
    obtain ⟨q0, _⟩ := FK.out.at2.one
    have hzz := FK.out.top.lt
    obtain ⟨b0, b1⟩ := HB.out k hk
    by_cases hlt : (k : Int) < mv
    · have hw := IntWalk.i64_in (p + k) ⟨by omega, by omega⟩
      have hw1 := IntWalk.i64_in (p + k + 1) ⟨by omega, by omega⟩
      have hk1 : ((k + 1 : Nat) : Int) ≤ mv := by omega
      obtain ⟨d0, d1⟩ := HB.out (k + 1) hk1
      have HGS : Hid (gsV (frcAt ls p len cs fl) (k + 1) = max (gsV (frcAt ls p len cs fl) k) (max (frcAt ls p len cs fl (k + 1) - frcAt ls p len cs fl k) (-(frcAt ls p len cs fl (k + 1) - frcAt ls p len cs fl k)))) := Lib.hid rfl
      obtain ⟨g0, g1⟩ := HG.out k hk
      go_wp2_with fail
      refine (HFA.out k (p + k) _ hk rfl (Fr.lies HA.out FK.out) (Fr.lies HC.out FK.out)).mono ?_
      rintro e w4 ⟨rfl, hb4⟩
      have F4 := Lib.hid (FK.out.call hb4)
      clear hb4 FK x0 x1 x2 x3 y0 y1 q0 hzz
      obtain ⟨x0, x1, x2, x3⟩ := F4.out.top.four
      obtain ⟨y0, y1, _, _⟩ := F4.out.at1.two
      obtain ⟨q0, _⟩ := F4.out.at2.one
      have hzz := F4.out.top.lt
      go_wp2_with fail
      refine (HFA.out (k + 1) (p + k + 1) _ hk1 (by omega) (Fr.lies HA.out F4.out) (Fr.lies HC.out F4.out)).mono ?_
      rintro e w5 ⟨rfl, hb5⟩
      have F5 := Lib.hid (F4.out.call hb5)
      clear hb5 F4 x0 x1 x2 x3 y0 y1 q0 hzz
      generalize frcAt ls p len cs fl (k + 1) = f1 at *
      generalize frcAt ls p len cs fl k = f0 at *
      generalize gsV (frcAt ls p len cs fl) k = gk at *
      have ws := IntWalk.i64_in (f1 - f0) ⟨by omega, by omega⟩
      go_wp2_with (go_at_call 50; refine (Size_any _ (by omega) (by omega) _).mono ?_; rintro e w' ⟨rfl, rfl⟩)
      all_goals
        go_roundw
        case rel => exact ⟨k + 1, by omega, by go_num, by first | (rw [HGS.out]; done) | exact congrArg (Value.int .i64) (by rw [HGS.out]; omega), F5.out⟩
        case measure => simp [intOf]; omega
    · obtain rfl : k = mv.toNat := by omega
      go_wp2_with fail
      go_ret
      exact ⟨rfl, FK.out.bl⟩

set_option maxHeartbeats 4000000 in
set_option maxRecDepth 100000 in
theorem MoveErr_any (ls : List Int) (A : Option Addr) (c : Nat) (p len : Int) (n d : Nat) (C : Option Addr) (fl : T3) (mv : Int) (hp : Plc ls p len) (w : World) (hA : Lies w w.heap.size A (ic ls)) :
    Calls Tryd.prog 42 #[.agg #[.slice A ls.length c], .agg #[.int .i64 p, .int .i64 len], .agg #[.slice C n d, .int .i64 fl.a, .int .i64 fl.b, .int .i64 mv]] w fun e w' => e = .returned (.int .i64 (mvE ls p len mv)) ∧ Below w.heap.size w w' := by
  have F0 := Lib.hid (Fr.b3 w 49 #[.slice A ls.length c] 51 #[.int .i64 p, .int .i64 len] 65 #[.slice C n d, .int .i64 fl.a, .int .i64 fl.b, .int .i64 mv])
  have HA := Lib.hid hA
  have HP := Lib.hid hp
  have n1 := hp.n1
  obtain ⟨l0, l1⟩ := And.intro hp.l0 hp.l1
  obtain ⟨p0, p1⟩ := And.intro hp.p0 hp.p1
  obtain ⟨t0, t1⟩ := begV_bound hp.x ls.length (by omega)
  clear hA hp
  cases hin : inB mv 1 2000 with
  | false =>
    have HE : Hid (mvE ls p len mv = 2) := Lib.hid (by unfold mvE; rw [if_pos hin])
    have HIN := Lib.hid hin
    clear hin
    go_enter Tryd.func42, Tryd.ntmps42
    go_wp2_with (go_at_call 23; refine (Within_any _ _ _ _).mono ?_; rintro e w' ⟨rfl, rfl⟩; rw [HIN.out])
    go_ret
    exact ⟨ret_i64 HE.out.symm, F0.out.bl⟩
  | true =>
    obtain ⟨m0, m1⟩ := inB_iff.1 hin
    have HIN := Lib.hid hin
    have hw1 := IntWalk.i64_in (p + len) ⟨by omega, by omega⟩
    have hw2 := IntWalk.i64_in (p + len + mv) ⟨by omega, by omega⟩
    obtain ⟨er, bb, HE, HQ⟩ : ∃ (er : Int) (bb : Bool), Hid (mvE ls p len mv = er) ∧ Hid ((bb = true ∧ er = 23 ∧ begV ls ls.length < p + len + mv) ∨ (bb = false ∧ er = 0 ∧ ¬ begV ls ls.length < p + len + mv)) := by
      by_cases h : p + len + mv ≤ begV ls ls.length
      · exact ⟨0, false, Lib.hid (by unfold mvE; rw [if_neg (by rw [hin]; simp), if_pos h]), Lib.hid (.inr ⟨rfl, rfl, by omega⟩)⟩
      · exact ⟨23, true, Lib.hid (by unfold mvE; rw [if_neg (by rw [hin]; simp), if_neg h]), Lib.hid (.inl ⟨rfl, rfl, by omega⟩)⟩
    clear hin
    rcases HQ.out with ⟨rfl, rfl, hq⟩ | ⟨rfl, rfl, hq⟩
    all_goals
      clear HQ
      go_enter Tryd.func42, Tryd.ntmps42
      go_upto_region 3 with (go_at_call 23; refine (Within_any _ _ _ _).mono ?_; rintro e w' ⟨rfl, rfl⟩; rw [HIN.out])
    · go_cut [21] from 11 to 21 (fun r W => r = .bool true ∧ Fr w W [(w.heap.size + 1 + 1, 65, #[.slice C n d, .int .i64 fl.a, .int .i64 fl.b, .int .i64 mv]), (w.heap.size + 1, 51, #[.int .i64 p, .int .i64 len]), (w.heap.size, 49, #[.slice A ls.length c])])
      case first =>
        have HALL : Hid (∀ W, Fr w W [(w.heap.size + 1 + 1, 65, #[.slice C n d, .int .i64 fl.a, .int .i64 fl.b, .int .i64 mv]), (w.heap.size + 1, 51, #[.int .i64 p, .int .i64 len]), (w.heap.size, 49, #[.slice A ls.length c])] → Fr w W [(w.heap.size + 1 + 1, 65, #[.slice C n d, .int .i64 fl.a, .int .i64 fl.b, .int .i64 mv]), (w.heap.size + 1, 51, #[.int .i64 p, .int .i64 len]), (w.heap.size, 49, #[.slice A ls.length c])] ∧ W.cell? ⟨w.heap.size + 1 + 1, 3, none⟩ = some (.int .i64 mv) ∧ W.cell? ⟨w.heap.size + 1, 0, none⟩ = some (.int .i64 p) ∧ W.cell? ⟨w.heap.size + 1, 1, none⟩ = some (.int .i64 len) ∧ W.cell? ⟨w.heap.size, 0, none⟩ = some (.slice A ls.length c)) := Lib.hid (fun W hW => ⟨hW, hW.top.cell 3, hW.at1.cell 0, hW.at1.cell 1, hW.at2.cell 0⟩)
        have F10 : Fr w _ [(w.heap.size + 1 + 1, 65, #[.slice C n d, .int .i64 fl.a, .int .i64 fl.b, .int .i64 mv]), (w.heap.size + 1, 51, #[.int .i64 p, .int .i64 len]), (w.heap.size, 49, #[.slice A ls.length c])] := F0.out
        clear F0
        go_region_held3 (fun W => Fr w W [(w.heap.size + 1 + 1, 65, #[.slice C n d, .int .i64 fl.a, .int .i64 fl.b, .int .i64 mv]), (w.heap.size + 1, 51, #[.int .i64 p, .int .i64 len]), (w.heap.size, 49, #[.slice A ls.length c])] ∧ W.cell? ⟨w.heap.size + 1 + 1, 3, none⟩ = some (.int .i64 mv) ∧ W.cell? ⟨w.heap.size + 1, 0, none⟩ = some (.int .i64 p) ∧ W.cell? ⟨w.heap.size + 1, 1, none⟩ = some (.int .i64 len) ∧ W.cell? ⟨w.heap.size, 0, none⟩ = some (.slice A ls.length c))
          ((go_split_ands; refine HALL.out _ ?_; (first | assumption | (repeat (first | assumption | refine Fr.new ?_ _ | refine Fr.drew ?_ | (refine Fr.set ?_ (by first | exact Nat.le_refl _ | omega | (simp; done) | (simp; omega)) (by first | (simp; done) | (simp; omega)) _))); done)))
          ((first
            | (go_at_call 83; go_split_ands; (with_reducible refine (All_any ls A c n1 HP.out.x _ (Fr.lies HA.out (by assumption))).mono ?_); rintro e w1 ⟨rfl, hb1⟩; have F4 := Fr.call (by assumption) hb1; clear hb1)
            | fail "arm"))
        all_goals
          go_split_ands
          go_wp2_with fail
          go_meet
          exact ⟨by first | rfl | exact congrArg Value.bool (decide_eq_false (by omega)) | exact congrArg Value.bool (decide_eq_true (by omega)), by assumption⟩
      case rest =>
        obtain ⟨wx, rfl⟩ : ∃ W, W = wc := ⟨_, rfl⟩
        obtain ⟨rfl, hx⟩ := hcut
        have FC := Lib.hid hx
        clear hx F0
        go_wp2_with fail
        go_ret
        exact ⟨ret_i64 HE.out.symm, FC.out.bl⟩
    · go_cut [21] from 11 to 21 (fun r W => r = .bool false ∧ Fr w W [(w.heap.size + 1 + 1, 65, #[.slice C n d, .int .i64 fl.a, .int .i64 fl.b, .int .i64 mv]), (w.heap.size + 1, 51, #[.int .i64 p, .int .i64 len]), (w.heap.size, 49, #[.slice A ls.length c])])
      case first =>
        have HALL : Hid (∀ W, Fr w W [(w.heap.size + 1 + 1, 65, #[.slice C n d, .int .i64 fl.a, .int .i64 fl.b, .int .i64 mv]), (w.heap.size + 1, 51, #[.int .i64 p, .int .i64 len]), (w.heap.size, 49, #[.slice A ls.length c])] → Fr w W [(w.heap.size + 1 + 1, 65, #[.slice C n d, .int .i64 fl.a, .int .i64 fl.b, .int .i64 mv]), (w.heap.size + 1, 51, #[.int .i64 p, .int .i64 len]), (w.heap.size, 49, #[.slice A ls.length c])] ∧ W.cell? ⟨w.heap.size + 1 + 1, 3, none⟩ = some (.int .i64 mv) ∧ W.cell? ⟨w.heap.size + 1, 0, none⟩ = some (.int .i64 p) ∧ W.cell? ⟨w.heap.size + 1, 1, none⟩ = some (.int .i64 len) ∧ W.cell? ⟨w.heap.size, 0, none⟩ = some (.slice A ls.length c)) := Lib.hid (fun W hW => ⟨hW, hW.top.cell 3, hW.at1.cell 0, hW.at1.cell 1, hW.at2.cell 0⟩)
        have F10 : Fr w _ [(w.heap.size + 1 + 1, 65, #[.slice C n d, .int .i64 fl.a, .int .i64 fl.b, .int .i64 mv]), (w.heap.size + 1, 51, #[.int .i64 p, .int .i64 len]), (w.heap.size, 49, #[.slice A ls.length c])] := F0.out
        clear F0
        go_region_held3 (fun W => Fr w W [(w.heap.size + 1 + 1, 65, #[.slice C n d, .int .i64 fl.a, .int .i64 fl.b, .int .i64 mv]), (w.heap.size + 1, 51, #[.int .i64 p, .int .i64 len]), (w.heap.size, 49, #[.slice A ls.length c])] ∧ W.cell? ⟨w.heap.size + 1 + 1, 3, none⟩ = some (.int .i64 mv) ∧ W.cell? ⟨w.heap.size + 1, 0, none⟩ = some (.int .i64 p) ∧ W.cell? ⟨w.heap.size + 1, 1, none⟩ = some (.int .i64 len) ∧ W.cell? ⟨w.heap.size, 0, none⟩ = some (.slice A ls.length c))
          ((go_split_ands; refine HALL.out _ ?_; (first | assumption | (repeat (first | assumption | refine Fr.new ?_ _ | refine Fr.drew ?_ | (refine Fr.set ?_ (by first | exact Nat.le_refl _ | omega | (simp; done) | (simp; omega)) (by first | (simp; done) | (simp; omega)) _))); done)))
          ((first
            | (go_at_call 83; go_split_ands; (with_reducible refine (All_any ls A c n1 HP.out.x _ (Fr.lies HA.out (by assumption))).mono ?_); rintro e w1 ⟨rfl, hb1⟩; have F4 := Fr.call (by assumption) hb1; clear hb1)
            | fail "arm"))
        all_goals
          go_split_ands
          go_wp2_with fail
          go_meet
          exact ⟨by first | rfl | exact congrArg Value.bool (decide_eq_false (by omega)) | exact congrArg Value.bool (decide_eq_true (by omega)), by assumption⟩
      case rest =>
        obtain ⟨wx, rfl⟩ : ∃ W, W = wc := ⟨_, rfl⟩
        obtain ⟨rfl, hx⟩ := hcut
        have FC := Lib.hid hx
        clear hx F0
        go_wp2_with fail
        go_ret
        exact ⟨ret_i64 HE.out.symm, FC.out.bl⟩
end Go.Proofs.YtemjefhfplaibaaDoor
