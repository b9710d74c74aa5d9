
/-
  The walks of the functions that check a track and a train on it.
-/
import Derived.Test.YtohldmmfnjfgmaaDoorTTrk
namespace Go.Proofs.YtohldmmfnjfgmaaDoor
open Go.RowKit

set_option maxHeartbeats 2000000 in
theorem check_bad (ls : List Int) (A : Option Addr) (c : Nat) (hl : ls.length ≤ maxLen) (er : Int) (he : (trkE ls).2 = er) (hr : er ≠ 0) (w : World) (hA : Lies w w.heap.size A (ic ls)) :
    Calls Tryd.prog 92 #[.agg #[.slice A ls.length c]] w fun e w' => e = .returned (.tuple #[.agg #[.slice none 0 0, .int .i64 0], .int .i64 er]) ∧ Below w.heap.size w w' := by
  have F0 := Lib.hid (Fr.b2 w 92 #[.slice A ls.length c] 123 #[.slice none 0 0, .int .i64 0])
  have HA := Lib.hid (Lies.new (Lies.new hA (.cells #[.slice A ls.length c] 92)) (.cells #[.slice none 0 0, .int .i64 0] 123))
  have HE := Lib.hid he
  have ge : (er != 0) = true := by simp [hr]
  clear hA he hr
  go_enter Tryd.func92, Tryd.ntmps92
  go_wp2_with fail
  refine (CheckTrack_any ls A c hl _ HA.out).mono ?_
  rintro e w1 ⟨rfl, hb1⟩
  rw [HE.out]
  have F1 := Lib.hid (F0.out.call hb1)
  obtain ⟨d0, d1, f0, f1⟩ := F1.out.top.two
  clear hb1 F0
  go_wp2_with fail
  exact bodyPost_ret (v := .tuple #[.agg #[.slice none 0 0, .int .i64 0], .int .i64 er]) (by simp [results, Tryd.results92, go_sem, d0, d1]) rfl ⟨rfl, (by repeat (first | exact F1.out.bl | refine Below.drew ?_ | refine Below.setCell ?_ (by first | (simp; done) | (simp; omega) | omega) _ | refine Below.alloc ?_ (by first | (simp; done) | (simp; omega) | omega) _ | exact Below.refl _ _))⟩

set_option maxHeartbeats 2000000 in
theorem check_ok (ls : List Int) (A : Option Addr) (c : Nat) (h0 : ls.length ≠ 0) (h1 : ls.length ≤ 12) (hx : ∀ x ∈ ls, inB x 1 1000000 = true) (w : World) (hA : Lies w w.heap.size A (ic ls)) :
    Calls Tryd.prog 92 #[.agg #[.slice A ls.length c]] w fun e w' => e = .returned (.tuple #[.agg #[.slice A ls.length c, .int .i64 (begV ls ls.length)], .int .i64 0]) ∧ Below w.heap.size w w' := by
  have F0 := Lib.hid (Fr.b2 w 92 #[.slice A ls.length c] 123 #[.slice none 0 0, .int .i64 0])
  have HA := Lib.hid (Lies.new (Lies.new hA (.cells #[.slice A ls.length c] 92)) (.cells #[.slice none 0 0, .int .i64 0] 123))
  have HE := Lib.hid (trkE_ok h0 h1 hx)
  have HX := Lib.hid hx
  have hl : (ls.length : Int) ≤ 12 := by omega
  clear hA hx
  go_enter Tryd.func92, Tryd.ntmps92
  go_wp2_with fail
  refine (CheckTrack_any ls A c (by unfold maxLen; omega) _ HA.out).mono ?_
  rintro e w1 ⟨rfl, hb1⟩
  rw [HE.out]
  have F1 := Lib.hid (F0.out.call hb1)
  have HA1 := Lib.hid (Lies.call HA.out hb1)
  obtain ⟨c0, c1⟩ := F1.out.at1.one
  obtain ⟨d0, d1, f0, f1⟩ := F1.out.top.two
  clear hb1 F0 HA
  go_wp2_with fail
  go_loop [6, 21] (fun s i => ∃ k : Nat, k ≤ ls.length ∧ i = .int .i64 k ∧ s = .int .i64 (begV ls k)) (fun _ i => ls.length - (intOf i).toNat)
  case atStart => exact ⟨0, Nat.zero_le _, rfl, rfl⟩
  case round =>
    obtain ⟨k, hk, rfl, rfl⟩ := hrel
    obtain ⟨b0, b1⟩ := begV_bound HX.out k (by omega)
    by_cases hlt : k < ls.length
    · obtain ⟨a, rfl, _, ca⟩ := HA1.out.num (List.getElem?_eq_getElem hlt)
      have hs := Lib.hid (begV_succ ls k hlt)
      obtain ⟨y0, y1⟩ := inB_iff.1 (HX.out _ (List.getElem_mem hlt))
      go_wp2_with fail
      go_round
      case rel => exact ⟨k + 1, by omega, by go_num, by rw [hs.out]⟩
      case measure => simp [intOf]; omega
    · obtain rfl : k = ls.length := by omega
      go_wp2_with fail
      exact bodyPost_ret (v := .tuple #[.agg #[.slice A ls.length c, .int .i64 (begV ls ls.length)], .int .i64 0]) (by simp [results, Tryd.results92, go_sem, d0, d1]) rfl ⟨rfl, (by repeat (first | exact F1.out.bl | refine Below.drew ?_ | refine Below.setCell ?_ (by first | (simp; done) | (simp; omega) | omega) _ | refine Below.alloc ?_ (by first | (simp; done) | (simp; omega) | omega) _ | exact Below.refl _ _))⟩

set_option maxHeartbeats 1000000 in
theorem holds_any (A : Option Addr) (n c : Nat) (tot p len mv : Int) (ht : -14000000 ≤ tot ∧ tot ≤ 14000000) (hlen : 1 ≤ len ∧ len ≤ 1000000) (hm : 0 ≤ mv ∧ mv ≤ 2000) (w : World) :
    Calls Tryd.prog 93 #[.agg #[.slice A n c, .int .i64 tot], .agg #[.int .i64 p, .int .i64 len], .int .i64 mv] w fun e w' => e = .returned (.bool (decide (p ≤ tot - len - mv))) ∧ Below w.heap.size w w' := by
  have B0 := Lib.hid (box2 w #[.slice A n c, .int .i64 tot] #[.int .i64 p, .int .i64 len] 123 96)
  obtain ⟨t0, t1⟩ := ht
  obtain ⟨l0, l1⟩ := hlen
  obtain ⟨m0, m1⟩ := hm
  by_cases h : p ≤ tot - len - mv
  all_goals
    go_enter Tryd.func93, Tryd.ntmps93
    go_wp2_with fail
    go_ret
    exact ⟨ret_bool (by simp [h]), B0.out⟩

/-- The error of a track and a train on it. -/
def plcE (ls : List Int) (p len : Int) : Int := if (trkE ls).2 ≠ 0 then (trkE ls).2 else if inB len 1 1000000 = false ∨ p < 0 then 2 else if p ≤ begV ls ls.length - len then 0 else 23
/-- A track and a train on it that are right. -/
structure Plc (ls : List Int) (p len : Int) : Prop where
  n0 : ls.length ≠ 0
  n1 : ls.length ≤ 12
  x : ∀ x ∈ ls, inB x 1 1000000 = true
  l0 : 1 ≤ len
  l1 : len ≤ 1000000
  p0 : 0 ≤ p
  p1 : p ≤ begV ls ls.length - len
theorem plc_of {ls : List Int} {p len : Int} (h : plcE ls p len = 0) : Plc ls p len := by
  unfold plcE at h
  rcases trk_cases ls with ⟨h1, h2, h3, h4⟩ | h1
  · rw [h1] at h
    rw [if_neg (by simp)] at h
    split at h
    · cases h
    · split at h
      · rename_i h5 h6
        have h7 : inB len 1 1000000 = true := by
          cases hb : inB len 1 1000000 with
          | true => rfl
          | false => exact absurd (Or.inl hb) h5
        obtain ⟨h8, h9⟩ := inB_iff.1 h7
        exact ⟨h2, h3, h4, h8, h9, by omega, h6⟩
      · cases h
  · rw [if_pos h1] at h
    exact absurd h h1
end Go.Proofs.YtohldmmfnjfgmaaDoor
