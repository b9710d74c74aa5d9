/-
  The walk of poses: all poses of a vehicle, one after the other.
-/
import Derived.Test.YtmnlgeglmkdecaaClrAt
import Derived.Stop.RegionWithIn
namespace Go.Proofs.Ytmnlgeglmkdecaa
open Go.RowKit
attribute [local go_sem] Oper.semAt_some

/-- A pose, told by its number. -/
abbrev Pn (n : Nat) := { i : Nat // i < n }
def psB (n k : Nat) : List (Pn n) := (List.range k).filterMap fun i => if h : i < n then some ⟨i, h⟩ else none
theorem psB_start (n : Nat) : psB n 0 = [] := rfl
theorem psB_succ {n k : Nat} (hk : k < n) : psB n k ++ [⟨k, hk⟩] = psB n (k + 1) := by
  unfold psB
  rw [List.range_succ, List.filterMap_append]
  simp [hk]
theorem psB_len {n k : Nat} (hk : k ≤ n) : (psB n k).length = k := by
  induction k with
  | zero => rfl
  | succ k ih => rw [← psB_succ (show k < n by omega), List.length_append, ih (by omega)]; rfl
theorem psB_map {n k : Nat} (hk : k ≤ n) : (psB n k).map (fun x => x.1) = List.range k := by
  induction k with
  | zero => rfl
  | succ k ih => rw [← psB_succ (show k < n by omega), List.map_append, ih (by omega), List.range_succ]; rfl

set_option maxHeartbeats 1000000 in
theorem poses_any {L : Ll} (H : Hds) (P : Addr) (pc : Nat) (v : Lv) (w : World) :
    Calls Try.prog 118 #[(.agg #[.string L.name, .slice H.j.A L.js.length H.j.c, .slice H.b.A L.bs.length H.b.c, .slice H.s.A L.ss.length H.s.c, .slice (some P) L.js.length pc]), (.agg #[.int .i64 v.len, .int .i64 v.clear, .int .i64 v.step])] w fun e w' => e = .returned (.func (.func 139) #[] #[.pointer (some ⟨w.heap.size + 1, 0, none⟩), .pointer (some ⟨w.heap.size, 0, none⟩)]) ∧
      w' = (w.alloc (.cells #[.string L.name, .slice H.j.A L.js.length H.j.c, .slice H.b.A L.bs.length H.b.c, .slice H.s.A L.ss.length H.s.c, .slice (some P) L.js.length pc] 119)).alloc (.cells #[.int .i64 v.len, .int .i64 v.clear, .int .i64 v.step] 77) := by
  go_enter Try.func118, Try.ntmps118
  go_wp2_with fail
  go_ret
  exact ⟨rfl, rfl⟩

/-- What the walk of poses reads. -/
structure PsF (W0 W : World) (n₀ : Nat) (L : Ll) (H : Hds) (P : Addr) (pc : Nat) (v : Lv) (Bc : Nat) : Prop where
  c : Bk W Bc 119 #[.string L.name, .slice H.j.A L.js.length H.j.c, .slice H.b.A L.bs.length H.b.c, .slice H.s.A L.ss.length H.s.c, .slice (some P) L.js.length pc]
  v : Bk W (Bc + 1) 77 #[.int .i64 v.len, .int .i64 v.clear, .int .i64 v.step]
  p : Lies W n₀ (some P) (ic (placesL L))
  b : Below n₀ W0 W
section
variable {W0 W W' : World} {n₀ : Nat} {L : Ll} {H : Hds} {P : Addr} {pc : Nat} {v : Lv} {Bc : Nat}
theorem PsF.to (h : PsF W0 W n₀ L H P pc v Bc) (hn : Bc + 2 ≤ n₀) (hb : Below n₀ W W') : PsF W0 W' n₀ L H P pc v Bc :=
  ⟨h.c.below hb (by omega), h.v.below hb (by omega), h.p.below hb, h.b.trans hb⟩
theorem PsF.drew (h : PsF W0 W n₀ L H P pc v Bc) : PsF W0 W.drew n₀ L H P pc v Bc := ⟨h.c, h.v, h.p.keep (fun _ _ => rfl), h.b.drew⟩
end

set_option maxRecDepth 100000 in
set_option maxHeartbeats 4000000 in
theorem poses1_any (n : Nat) (hn : 3 ≤ n) {L : Ll} (hr : Right L) (H : Hds) (P : Addr) (pc : Nat) (v : Lv) (hv : vErr v = 0) (l Bc n₀ : Nat) (J Jx : List (Pn (nPose L v)) → World → Prop)
    (hJ : ∀ s W W', J s W → Below W.heap.size W W' → J s W')
    (hY : ∀ pre (x : Pn (nPose L v)) W, J pre W → pre.length < nPose L v → YieldAt Fence.wide (n - 1) Try.prog l #[.int .i64 ((x.1 : Int) * v.step)] W fun e W' =>
      (e = .returned (.bool true) ∧ J (pre ++ [x]) W' ∧ Below n₀ W W') ∨ (e = .returned (.bool false) ∧ Jx (pre ++ [x]) W'))
    (W : World) (hB : Bc + 2 ≤ n₀) (hB2 : n₀ ≤ W.heap.size) (h1 : Bk W Bc 119 #[.string L.name, .slice H.j.A L.js.length H.j.c, .slice H.b.A L.bs.length H.b.c, .slice H.s.A L.ss.length H.s.c, .slice (some P) L.js.length pc]) (h2 : Bk W (Bc + 1) 77 #[.int .i64 v.len, .int .i64 v.clear, .int .i64 v.step]) (hP : Lies W n₀ (some P) (ic (placesL L))) (h0 : J [] W) :
    CallsIn Fence.wide n Try.prog 139 #[.func (.yield l) #[] #[], .pointer (some ⟨Bc + 1, 0, none⟩), .pointer (some ⟨Bc, 0, none⟩)] W fun e W' => (∃ v, e = .returned v) ∧
      ((∃ ys, ys = psB (nPose L v) (nPose L v) ∧ J ys W') ∨ (∃ pre, (∃ k, k ≤ nPose L v ∧ pre = psB (nPose L v) k) ∧ Jx pre W')) := by
  have h40 := hr.most
  have hjb := hr.jb
  have hnj : L.js.length ≤ 1000 := by omega
  obtain ⟨⟨vl0, vl1⟩, _, ⟨vs0, vs1⟩⟩ := vErr_in hv
  have S0 := Lib.hid (PsF.mk h1 h2 hP (Below.refl n₀ W))
  have HR := Lib.hid hr
  have HJB := Lib.hid hr.jb
  have HY := Lib.hid hY
  have HJ := Lib.hid hJ
  have HI := Lib.hid (nPose_iff (L := L) hv)
  obtain ⟨T, hT⟩ : ∃ T, placeL L.bs L.bs.length = T := ⟨_, rfl⟩
  have tb : 0 ≤ T ∧ T ≤ 1200000 := by rw [← hT]; have := placeL_bound L.bs hr.b L.bs.length (Nat.le_refl _); omega
  have HT := Lib.hid hT
  rw [hT] at HI
  have hd : 1 ≤ n - 1 := by omega
  have hn1 : 1 ≤ n := by omega
  clear hP hr hY hJ h1 h2 hv hjb h40 hT
  refine callsIn_of_wp Try.func139 rfl trivial ?_ rfl
  simp only [Try.ntmps139, List.size_toArray, List.length_cons, List.length_nil, Nat.reduceAdd, Nat.reduceSub, Array.replicate_succ, Array.replicate_zero, List.push_toArray, List.append_toArray, List.nil_append, List.cons_append]
  gi_wp2
  gi_loopw [4] (fun i wr => ∃ k : Nat, k ≤ nPose L v ∧ i = .int .i64 ((k : Int) * v.step) ∧ J (psB (nPose L v) k) wr ∧ PsF W wr n₀ L H P pc v Bc) (fun i _ => (T + 30000 - intOf i).toNat)
  case atStart => exact ⟨0, Nat.zero_le _, by simp, by rw [psB_start]; exact h0, S0.out⟩
  case round =>
    clear h0 S0
    obtain ⟨k, hk, rfl, hJs, hS⟩ := hrel
    have S1 := Lib.hid hS
    have HS := Lib.hid hJs
    have hik := HI.out k
    have kb : 0 ≤ (k : Int) * v.step ∧ (k : Int) * v.step ≤ T + 30000 := by
      refine ⟨Int.mul_nonneg (by omega) (by omega), ?_⟩
      by_cases h0 : k = 0
      · subst h0; simp; omega
      · have h1 := (HI.out (k - 1)).1 (by omega)
        have e : ((k - 1 : Nat) : Int) * v.step = (k : Int) * v.step - v.step := by
          rw [show ((k - 1 : Nat) : Int) = (k : Int) - 1 from by omega, Int.sub_mul, Int.one_mul]
        omega
    have hsz := hS.b.size
    have e1 : ((k + 1 : Nat) : Int) * v.step = (k : Int) * v.step + v.step := by rw [show ((k + 1 : Nat) : Int) = (k : Int) + 1 from by omega, Int.add_mul, Int.one_mul]
    obtain ⟨q, hq⟩ : ∃ q, (k : Int) * v.step = q := ⟨_, rfl⟩
    rw [hq] at hik kb e1 ⊢
    have HQ := Lib.hid hq
    have HE := Lib.hid e1
    have HIK := Lib.hid hik
    obtain ⟨kb0, kb1⟩ := kb
    have t1 := IntWalk.i64_in (q + v.len) (by omega)
    have t2 := IntWalk.i64_in (q + v.step) (by omega)
    obtain ⟨v0, v1, v2⟩ := hS.v.three
    obtain ⟨c0, c1, c2, c3, c4⟩ := hS.c.five
    clear hS hJs hq e1 hik
    by_cases hlt : q + v.len ≤ T
    · have hkb : k < nPose L v := HIK.out.2 hlt
      gi_wp2
      (first | gi_region_with (first | ((try refine ⟨trivial, ?_⟩); gi_at_call 81; refine (callsIn_wide.2 (length_any HJB.out hnj H P pc _ (by first | exact S1.out.drew.p.more (by simp; omega) | exact S1.out.p.more (by omega)))).mono ?_; rintro e w2 ⟨rfl, hb2⟩; rw [HT.out]; have S2 : Hid (PsF W w2 n₀ L H P pc v Bc) := Lib.hid (by first | exact S1.out.drew.to hB (hb2.mono (by simp; omega)) | exact S1.out.to hB (hb2.mono (by omega))); have k2 : Hid (Below wr.heap.size wr w2) := Lib.hid (by first | exact ((Below.refl _ wr).drew.trans (hb2.mono (by simp))) | exact hb2); obtain ⟨m0, m1, m2⟩ := S2.out.v.three; obtain ⟨n0, n1, n2, n3, n4⟩ := S2.out.c.five) | fail "arm") | fail "region")
      all_goals
        have hz2 := S2.out.b.size
        obtain ⟨fn, tmps, assign, body, hy, hR⟩ := HY.out _ ⟨k, hkb⟩ w2 (HJ.out _ _ _ HS.out k2.out) (by rw [psB_len hk]; exact hkb)
        dsimp only at hy
        rw [HQ.out] at hy
        gi_wp2
        refine hR.mono ?_
        rintro e W3 (⟨rfl, hJ3, hk3⟩ | ⟨rfl, hJx3⟩)
        · rw [psB_succ hkb] at hJ3
          have S3 := Lib.hid (S2.out.to hB hk3)
          obtain ⟨u0, u1, u2⟩ := S3.out.v.three
          gi_wp2
          go_roundw
          case rel => exact ⟨k + 1, hkb, by rw [HE.out], hJ3, S3.out⟩
          case measure => simp [intOf]; omega
        · rw [psB_succ hkb] at hJx3
          gi_wp2
          refine bodyPost_ret (results_none rfl _ _ _) rfl ?_
          exact ⟨⟨_, rfl⟩, .inr ⟨_, ⟨k + 1, hkb, rfl⟩, hJx3⟩⟩
    · have hke : k = nPose L v := by
        have : ¬ k < nPose L v := fun h => hlt (HIK.out.1 h)
        omega
      have HKE := Lib.hid (show psB (nPose L v) k = psB (nPose L v) (nPose L v) by rw [hke])
      clear hke
      gi_wp2
      (first | gi_region_with (first | ((try refine ⟨trivial, ?_⟩); gi_at_call 81; refine (callsIn_wide.2 (length_any HJB.out hnj H P pc _ (by first | exact S1.out.drew.p.more (by simp; omega) | exact S1.out.p.more (by omega)))).mono ?_; rintro e w2 ⟨rfl, hb2⟩; rw [HT.out]; have S2 : Hid (PsF W w2 n₀ L H P pc v Bc) := Lib.hid (by first | exact S1.out.drew.to hB (hb2.mono (by simp; omega)) | exact S1.out.to hB (hb2.mono (by omega))); have k2 : Hid (Below wr.heap.size wr w2) := Lib.hid (by first | exact ((Below.refl _ wr).drew.trans (hb2.mono (by simp))) | exact hb2); obtain ⟨m0, m1, m2⟩ := S2.out.v.three; obtain ⟨n0, n1, n2, n3, n4⟩ := S2.out.c.five) | fail "arm") | fail "region")
      all_goals
        gi_wp2
        go_end0
        exact ⟨⟨_, rfl⟩, .inl (by first | exact ⟨_, rfl, by rw [← HKE.out]; exact HJ.out _ _ _ HS.out k2.out⟩ | (rw [← HKE.out]; exact HJ.out _ _ _ HS.out k2.out))⟩
end Go.Proofs.Ytmnlgeglmkdecaa
