
/-
  More walks of converters: errors of IsNear, Nearest, Modulated, WantsErr; what is known of them ahead of StatorStates.
-/
import Derived.Test.YtohldmmfnjfgmaaDoorTStB
namespace Go.Proofs.YtohldmmfnjfgmaaDoor
open Go.RowKit

set_option maxHeartbeats 800000 in
theorem checkScaled_bad (M : Int) (v : T3) (h : inB M 1 100000 = false ∨ okT v = false) (w : World) : Calls Tryd.prog 62 #[.int .i64 M, (.agg #[.int .i64 v.a, .int .i64 v.b])] w fun e w' => e = .returned (.int .i64 2) ∧ Below w.heap.size w w' := by
  have F0 := Lib.hid (Fr.b1 w 24 #[.int .i64 v.a, .int .i64 v.b])
  cases hM : inB M 1 100000 with
  | false =>
    have HS : Hid (∀ w, Calls Tryd.prog 67 #[.int .i64 M] w fun e w' => e = .returned (.int .i64 2) ∧ w = w') := Lib.hid (fun w => by have := checkScale_any M w; rw [if_neg (by rw [hM]; simp)] at this; exact this)
    clear hM h
    go_enter Tryd.func62, Tryd.ntmps62
    go_wp2_with (go_at_call 67; refine (HS.out _).mono ?_; rintro e w' ⟨rfl, rfl⟩)
    go_ret
    exact ⟨rfl, F0.out.bl⟩
  | true =>
    have hv : okT v = false := by rcases h with h | h
                                  · rw [hM] at h; cases h
                                  · exact h
    have HS : Hid (∀ w, Calls Tryd.prog 67 #[.int .i64 M] w fun e w' => e = .returned (.int .i64 0) ∧ w = w') := Lib.hid (fun w => by have := checkScale_any M w; rw [if_pos hM] at this; exact this)
    have HV := Lib.hid (vE_bad hv)
    clear hM hv h
    go_enter Tryd.func62, Tryd.ntmps62
    go_wp2_with (go_at_call 67; refine (HS.out _).mono ?_; rintro e w' ⟨rfl, rfl⟩)
    refine (checkVector_any v _).mono ?_
    rintro e w1 ⟨rfl, hb1⟩
    rw [HV.out]
    have F1 := Lib.hid (F0.out.call hb1)
    clear hb1
    go_wp2_with fail
    go_ret
    exact ⟨rfl, F1.out.bl⟩
set_option maxHeartbeats 800000 in
theorem IsNear_bad (M : Int) (v : T3) (h : inB M 1 100000 = false ∨ okT v = false) (w : World) : Calls Tryd.prog 23 #[.int .i64 M, (.agg #[.int .i64 v.a, .int .i64 v.b])] w fun e w' => e = .returned (.tuple #[.bool false, .int .i64 2]) ∧ Below w.heap.size w w' := by
  have F0 := Lib.hid (Fr.b1 w 24 #[.int .i64 v.a, .int .i64 v.b])
  have HS := Lib.hid (checkScaled_bad M v h)
  clear h
  go_enter Tryd.func23, Tryd.ntmps23
  go_wp2_with fail
  refine (HS.out _).mono ?_
  rintro e w1 ⟨rfl, hb1⟩
  have F1 := Lib.hid (F0.out.call hb1)
  clear hb1
  go_wp2_with fail
  go_ret2
  exact ⟨rfl, F1.out.bl⟩
set_option maxHeartbeats 800000 in
theorem Nearest_bad (M : Int) (v : T3) (h : inB M 1 100000 = false ∨ okT v = false) (w : World) : Calls Tryd.prog 24 #[.int .i64 M, (.agg #[.int .i64 v.a, .int .i64 v.b])] w fun e w' => e = .returned (.tuple #[.int .i64 0, .int .i64 2]) ∧ Below w.heap.size w w' := by
  have F0 := Lib.hid (Fr.b1 w 24 #[.int .i64 v.a, .int .i64 v.b])
  have HS := Lib.hid (checkScaled_bad M v h)
  clear h
  go_enter Tryd.func24, Tryd.ntmps24
  go_wp2_with fail
  refine (HS.out _).mono ?_
  rintro e w1 ⟨rfl, hb1⟩
  have F1 := Lib.hid (F0.out.call hb1)
  clear hb1
  go_wp2_with fail
  go_ret2
  exact ⟨rfl, F1.out.bl⟩
set_option maxHeartbeats 800000 in
theorem Nearest_ok (M : Int) (v : T3) (hM : inB M 1 100000 = true) (hv : okT v = true) (w : World) (hT : Tab w) : Calls Tryd.prog 24 #[.int .i64 M, (.agg #[.int .i64 v.a, .int .i64 v.b])] w fun e w' => e = .returned (.tuple #[.int .i64 (nearV M v), .int .i64 0]) ∧ Below w.heap.size w w' := by
  have F0 := Lib.hid (Fr.b1 w 24 #[.int .i64 v.a, .int .i64 v.b])
  have HS := Lib.hid (checkScaled_ok M v hM hv)
  obtain ⟨m0, m1⟩ := inB_iff.1 hM
  have HN := Lib.hid (nearest_any M ⟨by omega, by omega⟩ v ((okT_bd hv).more (by omega)))
  have HT := Lib.hid hT
  clear hM hv hT
  go_enter Tryd.func24, Tryd.ntmps24
  go_wp2_with fail
  refine (HS.out _).mono ?_
  rintro e w1 ⟨rfl, hb1⟩
  have F1 := Lib.hid (F0.out.call hb1)
  obtain ⟨c0, c1, _, _⟩ := F1.out.top.two
  clear hb1 F0
  go_wp2_with fail
  refine (HN.out _ (HT.out.call F1.out.bl)).mono ?_
  rintro e w2 ⟨rfl, hb2⟩
  have F2 := Lib.hid (F1.out.call hb2)
  clear hb2 F1 c0 c1
  go_wp2_with fail
  go_ret2
  exact ⟨rfl, F2.out.bl⟩
/-- What is known of one want. -/
theorem want_known (M : Int) (x : T3) : ∃ (b : Bool) (n er : Int),
    (∀ w, Calls Tryd.prog 23 #[.int .i64 M, (.agg #[.int .i64 x.a, .int .i64 x.b])] w fun e w' => e = .returned (.tuple #[.bool b, .int .i64 er]) ∧ Below w.heap.size w w') ∧
    (∀ w, Tab w → Calls Tryd.prog 24 #[.int .i64 M, (.agg #[.int .i64 x.a, .int .i64 x.b])] w fun e w' => e = .returned (.tuple #[.int .i64 n, .int .i64 er]) ∧ Below w.heap.size w w') ∧
    ((er = 2 ∧ b = false ∧ n = 0 ∧ (inB M 1 100000 = false ∨ (inB M 1 100000 = true ∧ okT x = false))) ∨
      (er = 0 ∧ inB M 1 100000 = true ∧ okT x = true ∧ (∀ w, Calls Tryd.prog 27 #[.int .i64 M, (.agg #[.int .i64 x.a, .int .i64 x.b])] w fun e w' => e = .returned (.bool b) ∧ Below w.heap.size w w') ∧
        (∀ w, Calls Tryd.prog 28 #[.int .i64 M, (.agg #[.int .i64 x.a, .int .i64 x.b])] w fun e w' => e = .returned (.int .i64 n) ∧ Below w.heap.size w w'))) := by
  cases hM : inB M 1 100000 with
  | false => exact ⟨false, 0, 2, IsNear_bad M x (.inl hM), fun w _ => Nearest_bad M x (.inl hM) w, .inl ⟨rfl, rfl, rfl, .inl rfl⟩⟩
  | true =>
    cases hv : okT x with
    | false => exact ⟨false, 0, 2, IsNear_bad M x (.inr hv), fun w _ => Nearest_bad M x (.inr hv) w, .inl ⟨rfl, rfl, rfl, .inr ⟨rfl, rfl⟩⟩⟩
    | true =>
      obtain ⟨m0, m1⟩ := inB_iff.1 hM
      exact ⟨nearB M x, nearV M x, 0, IsNear_ok M x hM hv, fun w hT => Nearest_ok M x hM hv w hT, .inr ⟨rfl, rfl, rfl, refIsNear_any M ⟨by omega, by omega⟩ x ((okT_bd hv).more (by omega)), refNearest_any M ⟨by omega, by omega⟩ x ((okT_bd hv).more (by omega))⟩⟩

set_option maxHeartbeats 2000000 in
set_option maxRecDepth 100000 in
theorem Modulated_err (M : Int) (ws : List T3) (A : Option Addr) (c : Nat) (er : Int) (h : (inB M 1 100000 = false ∧ er = 2) ∨ (inB M 1 100000 = true ∧ 60 < ws.length ∧ er = 8)) (hm : ws.length ≤ 1000) (w : World) :
    Calls Tryd.prog 29 #[.int .i64 M, .slice A ws.length c] w fun e w' => e = .returned (.tuple #[.agg #[.slice none 0 0, .slice none 0 0], .int .i64 er]) ∧ Below w.heap.size w w' := by
  have F0 := Lib.hid (Fr.b3 w 3 #[.int .i64 M] 56 #[.slice none 0 0, .slice none 0 0] 27 #[.int .i64 0])
  rcases h with ⟨hM, rfl⟩ | ⟨hM, hl, rfl⟩
  · have HS : Hid (∀ w, Calls Tryd.prog 67 #[.int .i64 M] w fun e w' => e = .returned (.int .i64 2) ∧ w = w') := Lib.hid (fun w => by have := checkScale_any M w; rw [if_neg (by rw [hM]; simp)] at this; exact this)
    clear hM
    go_enter Tryd.func29, Tryd.ntmps29
    go_wp2_with (go_at_call 67; refine (HS.out _).mono ?_; rintro e w' ⟨rfl, rfl⟩)
    exact bodyPost_ret (v := .tuple #[.agg #[.slice none 0 0, .slice none 0 0], .int .i64 2]) (by simp [results, Tryd.results29, go_sem]) rfl ⟨rfl, (by repeat (first | exact F0.out.bl | refine Below.drew ?_ | refine Below.setCell ?_ (by first | (simp; done) | (simp; omega) | omega) _ | refine Below.alloc ?_ (by first | (simp; done) | (simp; omega) | omega) _ | exact Below.refl _ _))⟩
  · have gl : (60 : Int) < (ws.length : Int) := by omega
    have HS : Hid (∀ w, Calls Tryd.prog 67 #[.int .i64 M] w fun e w' => e = .returned (.int .i64 0) ∧ w = w') := Lib.hid (fun w => by have := checkScale_any M w; rw [if_pos hM] at this; exact this)
    clear hM hl
    go_enter Tryd.func29, Tryd.ntmps29
    go_wp2_with (go_at_call 67; refine (HS.out _).mono ?_; rintro e w' ⟨rfl, rfl⟩)
    exact bodyPost_ret (v := .tuple #[.agg #[.slice none 0 0, .slice none 0 0], .int .i64 8]) (by simp [results, Tryd.results29, go_sem]) rfl ⟨rfl, (by repeat (first | exact F0.out.bl | refine Below.drew ?_ | refine Below.setCell ?_ (by first | (simp; done) | (simp; omega) | omega) _ | refine Below.alloc ?_ (by first | (simp; done) | (simp; omega) | omega) _ | exact Below.refl _ _))⟩
set_option maxHeartbeats 800000 in
theorem WantsErr_err (M : Int) (ws : List T3) (A : Option Addr) (c : Nat) (er : Int) (h : (inB M 1 100000 = false ∧ er = 2) ∨ (inB M 1 100000 = true ∧ 60 < ws.length ∧ er = 8)) (hm : ws.length ≤ 1000) (w : World) :
    Calls Tryd.prog 31 #[.int .i64 M, .slice A ws.length c] w fun e w' => e = .returned (.int .i64 er) ∧ Below w.heap.size w w' := by
  rcases h with ⟨hM, rfl⟩ | ⟨hM, hl, rfl⟩
  · have HS : Hid (∀ w, Calls Tryd.prog 25 #[.int .i64 M] w fun e w' => e = .returned (.int .i64 2) ∧ w = w') := Lib.hid (fun w => by have := ScaleErr_any M w; rw [if_neg (by rw [hM]; simp)] at this; exact this)
    clear hM
    go_enter Tryd.func31, Tryd.ntmps31
    go_wp2_with (go_at_call 25; refine (HS.out _).mono ?_; rintro e w' ⟨rfl, rfl⟩)
    go_ret
    exact ⟨rfl, Below.refl _ _⟩
  · have gl : (60 : Int) < (ws.length : Int) := by omega
    have HS : Hid (∀ w, Calls Tryd.prog 25 #[.int .i64 M] w fun e w' => e = .returned (.int .i64 0) ∧ w = w') := Lib.hid (fun w => by have := ScaleErr_any M w; rw [if_pos hM] at this; exact this)
    clear hM hl
    go_enter Tryd.func31, Tryd.ntmps31
    go_wp2_with (go_at_call 25; refine (HS.out _).mono ?_; rintro e w' ⟨rfl, rfl⟩)
    go_ret
    exact ⟨rfl, Below.refl _ _⟩
/-- What is known of the pulses of wants. -/
theorem mod_known (M : Int) (ws : List T3) (hl : ws.length ≤ 20 ∨ (60 < ws.length ∧ ws.length ≤ 62)) :
    (∃ d : Int, d ≠ 0 ∧ (∀ w A c, Tab w → Lies w w.heap.size A (ws.flatMap tc) → Calls Tryd.prog 29 #[.int .i64 M, .slice A ws.length c] w fun e w' => e = .returned (.tuple #[.agg #[.slice none 0 0, .slice none 0 0], .int .i64 d]) ∧ Below w.heap.size w w') ∧
      (∀ w A c, Lies w w.heap.size A (ws.flatMap tc) → Calls Tryd.prog 31 #[.int .i64 M, .slice A ws.length c] w fun e w' => e = .returned (.int .i64 d) ∧ Below w.heap.size w w')) ∨
    (inB M 1 100000 = true ∧ ws.length ≤ 20 ∧ ∀ x ∈ ws, okT x = true) := by
  cases hM : inB M 1 100000 with
  | false => exact .inl ⟨2, by decide, fun w A c _ _ => Modulated_err M ws A c 2 (.inl ⟨hM, rfl⟩) (by omega) w, fun w A c _ => WantsErr_err M ws A c 2 (.inl ⟨hM, rfl⟩) (by omega) w⟩
  | true =>
    rcases hl with hl | ⟨h1, h2⟩
    · cases ha : ws.all okT with
      | true => exact .inr ⟨rfl, hl, List.all_eq_true.1 ha⟩
      | false =>
        refine .inl ⟨2, by decide, fun w A c hT hA => (Modulated_any M hM ws A c (by omega) w hT hA).mono fun e w' h => ?_, fun w A c hA => ?_⟩
        · obtain ⟨⟨h1, _⟩ | ⟨_, he⟩, hb⟩ := h
          · rw [ha] at h1; cases h1
          · exact ⟨he, hb⟩
        · have := WantsErr_any M ws A c hl w hA
          have hd : wntE M ws = 2 := by unfold wntE vsE; rw [if_pos hM, if_neg (by rw [ha]; simp)]
          rwa [hd] at this
    · exact .inl ⟨8, by decide, fun w A c _ _ => Modulated_err M ws A c 8 (.inr ⟨hM, h1, rfl⟩) (by omega) w, fun w A c _ => WantsErr_err M ws A c 8 (.inr ⟨hM, h1, rfl⟩) (by omega) w⟩
/-- What is known of a state's vector. -/
theorem state_known (n : Int) : ∃ (b : Bool) (v : T3) (er : Int), inB n 0 7 = b ∧
    (∀ w, Tab w → Calls Tryd.prog 20 #[.int .i64 n] w fun e w' => e = .returned (.tuple #[(.agg #[.int .i64 v.a, .int .i64 v.b]), .int .i64 er]) ∧ Below w.heap.size w w') ∧
    ((b = false ∧ v.a = 0 ∧ v.b = 0 ∧ er = 2) ∨ (b = true ∧ er = 0 ∧ ∀ w, Calls Tryd.prog 22 #[.int .i64 n] w fun e w' => e = .returned (.agg #[.int .i64 v.a, .int .i64 v.b]) ∧ Below w.heap.size w w')) := by
  cases h : inB n 0 7 with
  | false => exact ⟨false, ⟨0, 0⟩, 2, rfl, fun w _ => StateVector_bad n h w, .inl ⟨rfl, rfl, rfl, rfl⟩⟩
  | true =>
    obtain ⟨s, rfl⟩ : ∃ s : Nat, n = (s : Int) := ⟨n.toNat, by have := (inB_iff.1 h).1; omega⟩
    have hs : s < 8 := by have := (inB_iff.1 h).2; omega
    exact ⟨true, stV s, 0, rfl, fun w hT => StateVector_ok s hs w hT, .inr ⟨rfl, rfl, refStateVector_any (s : Int) s rfl hs⟩⟩
end Go.Proofs.YtohldmmfnjfgmaaDoor
