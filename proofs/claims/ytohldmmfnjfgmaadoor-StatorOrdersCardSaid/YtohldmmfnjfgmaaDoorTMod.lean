
/-
  The walk of Modulated at a right scale, and not too many wants.
-/
import Derived.Test.YtohldmmfnjfgmaaDoorTMb
namespace Go.Proofs.YtohldmmfnjfgmaaDoor
open Go.RowKit
attribute [local go_sem] Oper.semAt_some

def stsV (M : Int) (xs : List T3) : List Int := (pulses M T3.zero xs).map (fun p => (p.1 : Int))
def lftV (M : Int) (xs : List T3) : List T3 := (pulses M T3.zero xs).map Prod.snd
theorem stsV_len (M : Int) (xs : List T3) : (stsV M xs).length = xs.length := by simp [stsV, pulses_len]
theorem lftV_len (M : Int) (xs : List T3) : (lftV M xs).length = xs.length := by simp [lftV, pulses_len]
theorem stsV_snoc (M : Int) (xs : List T3) (x : T3) : stsV M (xs ++ [x]) = stsV M xs ++ [(nearV M ((leftV M T3.zero xs).add x) : Int)] := by simp [stsV, pulses_snoc]
theorem lftV_snoc (M : Int) (xs : List T3) (x : T3) : lftV M (xs ++ [x]) = lftV M xs ++ [wout M ((leftV M T3.zero xs).add x) (nearV M ((leftV M T3.zero xs).add x))] := by simp [lftV, pulses_snoc]
/-- What Modulated leaves. -/
def ModPost (w : World) (M : Int) (xs : List T3) (e : Ending) (w' : World) : Prop :=
  ((xs.all okT = true ∧ ∃ (A1 : Option Addr) (c1 : Nat) (A2 : Option Addr) (c2 : Nat), e = .returned (.tuple #[.agg #[.slice A1 xs.length c1, .slice A2 xs.length c2], .int .i64 0]) ∧ Lies w' w'.heap.size A1 (ic (stsV M xs)) ∧ Lies w' w'.heap.size A2 ((lftV M xs).flatMap tc)) ∨
    (xs.all okT = false ∧ e = .returned (.tuple #[.agg #[.slice none 0 0, .slice none 0 0], .int .i64 2]))) ∧ Below w.heap.size w w'

set_option maxRecDepth 100000 in
set_option maxHeartbeats 8000000 in
theorem Modulated_any (M : Int) (hM : inB M 1 100000 = true) (xs : List T3) (A : Option Addr) (c : Nat) (hl : xs.length ≤ 60) (w : World) (hT : Tab w) (hA : Lies w w.heap.size A (xs.flatMap tc)) :
    Calls Tryd.prog 29 #[.int .i64 M, .slice A xs.length c] w (ModPost w M xs) := by
  have HM := Lib.hid hM
  have HT := Lib.hid hT
  have HA := Lib.hid hA
  have hl60 : (xs.length : Int) ≤ 60 := by omega
  have hln : decide ((60 : Int) < (xs.length : Int)) = false := by simp; omega
  clear hM hT hA
  refine (callsIn_wide (n := 12)).1 ?_
  refine callsIn_of_wp_marks Tryd.func29 rfl trivial ?_ rfl
  simp only [Tryd.ntmps29, List.size_toArray, List.length_cons, List.length_nil, Nat.reduceAdd, Nat.reduceSub, Array.replicate_succ, Array.replicate_zero, List.push_toArray, List.append_toArray, List.nil_append, List.cons_append]
  gi_wp2_with (first | (refine ⟨trivial, ?_⟩; gi_at_call 67; refine (callsIn_wide.2 (checkScale_any M _)).mono ?_; rintro e w1 ⟨rfl, rfl⟩; rw [if_pos HM.out]) | (refine ⟨trivial, ?_⟩; gi_at_call 68; refine (callsIn_wide.2 (wanted_any A xs.length c _)).mono ?_; rintro e w2 ⟨rfl, hw2⟩; have HW2 := Lib.hid hw2; clear hw2))
  obtain ⟨b, hb⟩ : ∃ b, w.heap.size = b := ⟨_, rfl⟩
  have hz : w2.heap.size = w.heap.size + 6 := by rw [HW2.out]; simp
  have k2 : Below w.heap.size w w2 := by
    rw [HW2.out]
    exact (((((((Below.refl _ w).alloc (Nat.le_refl _) _).alloc (by simp) _).alloc (by simp; omega) _).alloc (by simp; omega) _).alloc (by simp; omega) _).alloc (by simp; omega) _)
  have X2 := Lib.hid (show Bk w2 (w.heap.size + 1 + 1 + 1 + 1 + 1) 43 #[.slice A xs.length c] by
    rw [HW2.out]
    have := Bk.new (((((w.alloc (.cells #[.int .i64 M] 3)).alloc (.cells #[.slice none 0 0, .slice none 0 0] 56)).alloc (.cells #[.int .i64 0] 27)).alloc (.cells #[.slice none 0 0, .slice none 0 0] 56)).alloc (.cells #[.int .i64 0, .int .i64 0] 24)) 43 #[.slice A xs.length c]
    simpa using this)
  have m0 : MB w w2.heap.size M w2 (.slice none 0 0) (.slice none 0 0) 0 0 (ic (stsV M [])) ((lftV M []).flatMap tc) (leftV M T3.zero []) w2 := by
    refine ⟨?_, World.ownsRow_nil _ _ _ _, World.ownsRow_nil _ _ _ _, ?_, ?_, ?_, ?_, k2, Nat.le_refl _, by omega, KeepsOthers.refl _⟩
    · rw [HW2.out]
      have := ((Bk.new (((w.alloc (.cells #[.int .i64 M] 3)).alloc (.cells #[.slice none 0 0, .slice none 0 0] 56)).alloc (.cells #[.int .i64 0] 27)) 56 #[.slice none 0 0, .slice none 0 0]).alloc (.cells #[.int .i64 0, .int .i64 0] 24)).alloc (.cells #[.slice A xs.length c] 43)
      simpa using this
    · rw [HW2.out]
      have := (Bk.new ((((w.alloc (.cells #[.int .i64 M] 3)).alloc (.cells #[.slice none 0 0, .slice none 0 0] 56)).alloc (.cells #[.int .i64 0] 27)).alloc (.cells #[.slice none 0 0, .slice none 0 0] 56)) 24 #[.int .i64 0, .int .i64 0]).alloc (.cells #[.slice A xs.length c] 43)
      simpa [leftV, T3.zero] using this
    · rw [HW2.out]
      exact (((((Bk.new w 3 #[.int .i64 M]).alloc _).alloc _).alloc _).alloc _).alloc _
    · rw [HW2.out]
      exact ((((Bk.new1 w (.cells #[.int .i64 M] 3) 56 #[.slice none 0 0, .slice none 0 0]).alloc _).alloc _).alloc _).alloc _
    · rw [HW2.out]
      exact (((Bk.new2 w (.cells #[.int .i64 M] 3) (.cells #[.slice none 0 0, .slice none 0 0] 56) 27 #[.int .i64 0]).alloc _).alloc _).alloc _
  have M0 := Lib.hid m0
  have K2 := Lib.hid k2
  have HZ := Lib.hid hz
  have hz6 : w.heap.size + 6 ≤ w2.heap.size := by omega
  obtain ⟨M0a, M1a⟩ := inB_iff.1 HM.out
  have LA := Lib.hid (HA.out.below k2)
  have T2 := Lib.hid (HT.out.below k2 HT.out.lt)
  clear hz k2 m0 HW2 hb b
  obtain ⟨i0, hi0, hiz0, his0, hib0⟩ := info_parts info_int
  obtain ⟨i1, hi1, hiz1, his1, hib1⟩ := info_parts info_third
  refine wpIn_rangeFunc_ownH (α := T3) rfl (by decide) (gf := 86) (lb := #[.pointer (some ⟨w.heap.size + 1 + 1 + 1 + 1 + 1, 0, none⟩)]) rfl trivial (enters_of Tryd.func86 (by kernel_rfl) rfl)
    (encs := fun x => #[(.agg #[.int .i64 x.a, .int .i64 x.b]), .int .i64 (vE x)]) (Kp := Below w.heap.size) (S := fun ys => ys = xs) (Sp := fun pre => ∃ k, k ≤ xs.length ∧ pre = xs.take k) (N := xs.length) (w0 := w2)
    (fun l J Jx W hW hJ _ hY h0 => wanted1_any (12 - 1) (by decide) xs A c hl l (w.heap.size + 1 + 1 + 1 + 1 + 1) w.heap.size J Jx
      (fun s A B hs hb => hJ s A B none hs (grown_of_below hb) (fun r e => by cases e)) hY W (by have := hW.size; omega) (X2.out.below hW (by omega)) (LA.out.below (hW.mono (by omega))) h0)
    belowK_t (belowK_b (by omega)) (Below.refl _ _) (fun _ => rfl)
    (fun pre W => (∃ v1 v2, MB w w2.heap.size M W v1 v2 pre.length pre.length (ic (stsV M pre)) ((lftV M pre).flatMap tc) (leftV M T3.zero pre) W) ∧ ∀ y ∈ pre, okT y = true)
    (fun c pre W => (c = .ret ∧ pre.all okT = false ∧ Bk W (w.heap.size + 1) 56 #[.slice none 0 0, .slice none 0 0] ∧ Bk W (w.heap.size + 1 + 1) 27 #[.int .i64 2]) ∧ Below w.heap.size w W)
    (fun s A B row hs hg hr => by obtain ⟨⟨v1, v2, h⟩, ha⟩ := hs; exact ⟨⟨v1, v2, h.kept hg hr⟩, ha⟩)
    (fun c => OwnFrom.and (Own.from (fun s A B row hs hg hr => ⟨hs.1, hs.2.1, hs.2.2.1.kept hg hr, hs.2.2.2.kept hg hr⟩) _) (ownFrom_below (Nat.le_refl _) (by omega)))
    ⟨⟨_, _, M0.out⟩, by simp⟩
    (fun x a' W => ∃ Bx, w2.heap.size ≤ Bx ∧ Bk W Bx 24 #[.int .i64 x.a, .int .i64 x.b] ∧ a' = { tmps := #[.int .i64 M, .slice A xs.length c, .pointer (some ⟨w.heap.size, 0, none⟩), undef, .pointer (some ⟨w.heap.size + 1, 0, none⟩), .pointer (some ⟨w.heap.size + 1 + 1, 0, none⟩), .int .i64 0, .pointer (some ⟨w.heap.size + 1 + 1 + 1, 0, none⟩), .pointer (some ⟨w.heap.size + 1 + 1 + 1 + 1, 0, none⟩), .pointer (some ⟨Bx, 0, none⟩), .int .i64 (vE x), undef, .int .i64 M, .int .i64 0, .int .i64 0, .bool false, undef, undef, .slice A xs.length c, .int .i64 (xs.length : Int), .bool false, undef, .slice A xs.length c, .func (.func 86) #[] #[.pointer (some ⟨w.heap.size + 1 + 1 + 1 + 1 + 1, 0, none⟩)], (.agg #[.int .i64 x.a, .int .i64 x.b]), .int .i64 (vE x), undef, undef, undef, undef, undef, undef, undef, undef, undef, undef, undef, undef, undef, undef, undef, undef, undef, undef, undef, undef, undef, undef, undef, undef, undef, undef, undef], defers := [] })
    (fun x a' _ X Y row hs hg hr => by obtain ⟨Bx, e1, e2, e3⟩ := hs; exact ⟨Bx, e1, e2.kept hg (fun r e => (hr r e).2), e3⟩)
    ?assign ?body ?done ?stop
  case assign =>
    rintro l pre x W K ⟨⟨v1, v2, hm⟩, ha⟩ hK
    gi_wp2
    exact hK _ _ ((KeepsOthers.alloc _ _).from _) ((Below.refl _ W).alloc (by have := hm.bl.size; omega) _) ⟨⟨v1, v2, (hm.new _).rebase⟩, ha⟩ ⟨W.heap.size, hm.z, Bk.new W _ _, rfl⟩
  case body =>
    rintro l pre x a' W hl ⟨r, hr⟩ ⟨⟨v1, v2, hm⟩, ha⟩ ⟨Bx, hBx, bX, rfl⟩ hlt
    have HMB := Lib.hid hm
    have HAl := Lib.hid ha
    have XB := Lib.hid bX
    have HLT := Lib.hid hlt
    have h1' : 1 ≤ 12 - 1 - 1 := by decide
    have hsz := hm.z
    have hbx := bX.lt
    obtain ⟨lv, hlv⟩ : ∃ lv, leftV M T3.zero pre = lv := ⟨_, rfl⟩
    have HLV := Lib.hid hlv
    rw [hlv] at HMB
    have hb0 := leftV_in (M := M) (W := 100000) (by omega) pre T3.zero 0 (fun y hy => by have := okT_iff.1 (ha y hy); omega) (by simp [T3.zero])
    rw [hlv] at hb0
    have hbd : lv.Bd 20000000 := by
      have h60 : (pre.length : Int) * (100000 + M) ≤ 60 * 200000 := Int.mul_le_mul (by omega) (by omega) (by omega) (by omega)
      exact ⟨by omega, by omega, by omega, by omega⟩
    cases hx : okT x with
    | false =>
      have he := vE_bad hx
      rw [he]
      have hpf : Hid ((pre ++ [x]).all okT = false) := Lib.hid (by simp [hx])
      obtain ⟨q0, q1, q2, q3⟩ := HMB.out.r1.two
      obtain ⟨e0, e1⟩ := HMB.out.r2.one
      clear hm ha bX hlt hlv hb0 hbd hx he hr
      gi_wp2
      exact ⟨((KeepsOthers.setCell _ _ _).trans ((KeepsOthers.setCell _ _ _).trans (KeepsOthers.setCell _ _ _))).from _, ⟨rfl, hpf.out, (HMB.out.r1.set2 _ _).far (by simp) _, by have := ((HMB.out.r2.far (p := ⟨w.heap.size + 1, 0, none⟩) (by simp) (.slice none 0 0)).far (p := ⟨w.heap.size + 1, 1, none⟩) (by simp) (.slice none 0 0)).set_ 0 (.int .i64 2); simpa using this⟩, ((HMB.out.bl.setCell (by simp) _).setCell (by simp) _).setCell (by simp; omega) _⟩
    | true =>
      have he := vE_ok hx
      rw [he]
      have HXB := Lib.hid ((okT_bd hx).more (K := 4000000000000000000) (by omega))
      have HLB := Lib.hid (hbd.more (K := 4000000000000000000) (by omega))
      obtain ⟨t, ht⟩ : ∃ t, lv.add x = t := ⟨_, rfl⟩
      have HTT := Lib.hid ht
      have HTB : Hid (t.Bd 900000000) := Lib.hid (by
        have := okT_bd hx
        obtain ⟨a0, a1, b0, b1⟩ := this
        obtain ⟨c0, c1, d0, d1⟩ := hbd
        rw [← ht]
        exact ⟨by simp only [T3.add]; omega, by simp only [T3.add]; omega, by simp only [T3.add]; omega, by simp only [T3.add]; omega⟩)
      have HPL : Hid (∀ w, Calls Tryd.prog 69 #[(.agg #[.int .i64 lv.a, .int .i64 lv.b]), (.agg #[.int .i64 x.a, .int .i64 x.b])] w fun e w' => e = .returned (.agg #[.int .i64 t.a, .int .i64 t.b]) ∧ Below w.heap.size w w') := Lib.hid (fun w => by rw [← ht]; exact plus_any lv x HLB.out HXB.out w)
      have hal : Hid (∀ y ∈ pre ++ [x], okT y = true) := Lib.hid (fun y hy => by
        rcases List.mem_append.1 hy with h | h
        · exact ha y h
        · rw [List.mem_singleton.1 h]; exact hx)
      obtain ⟨x0, x1, _, _⟩ := bX.two
      obtain ⟨l0, l1, f0, f1⟩ := HMB.out.l.two
      clear hm ha bX hlt hlv hb0 hbd hx he hr ht
      gi_wp2_with fail
      refine ⟨trivial, (CallsIn.inRound l (callsIn_wide.2 (HPL.out _))).mono ?_⟩
      rintro e w3 ⟨rfl, hb3⟩
      have M3 := Lib.hid (HMB.out.call hb3)
      have M3s := Lib.hid (M3.out.setL t)
      clear l0 l1 f0 f1 x0 x1
      obtain ⟨l0, l1, f0, f1⟩ := M3.out.l.two
      obtain ⟨s0, s1⟩ := M3.out.s.one
      have z3 := M3.out.bl.size
      clear hb3
      gi_wp2_with fail
      refine ⟨trivial, (CallsIn.inRound l (callsIn_wide.2 (nearest_any M (by omega) t HTB.out _ (HT.out.below M3s.out.bl HT.out.lt)))).mono ?_⟩
      rintro e w4 ⟨rfl, hb4⟩
      have M4 := Lib.hid (M3s.out.call hb4)
      obtain ⟨n, hn⟩ : ∃ n, nearV M t = n := ⟨_, rfl⟩
      have hn8 : n < 8 := by rw [← hn]; exact nearV_lt M t
      have HN := Lib.hid hn
      rw [hn]
      clear l0 l1 f0 f1 s0 s1 hb4 M3s M3 hn
      obtain ⟨l0, l1, f0, f1⟩ := M4.out.l.two
      obtain ⟨s0, s1⟩ := M4.out.s.one
      have z4 := M4.out.bl.size
      gi_wp2_with fail
      refine ⟨trivial, (CallsIn.inRound l (callsIn_wide.2 (without_any M (by omega) t (HTB.out.more (by omega)) n hn8 _ (HT.out.below M4.out.bl HT.out.lt)))).mono ?_⟩
      rintro e w5 ⟨rfl, hb5⟩
      have M5 := Lib.hid (M4.out.call hb5)
      obtain ⟨u, hu⟩ : ∃ u, wout M t n = u := ⟨_, rfl⟩
      have HU := Lib.hid hu
      rw [hu]
      clear l0 l1 f0 f1 s0 s1 hb5 M4 hu
      have M5s := Lib.hid (M5.out.setL u)
      obtain ⟨l0, l1, f0, f1⟩ := M5.out.l.two
      obtain ⟨p0, p1, g0, g1⟩ := M5s.out.p.two
      have z5 := M5.out.z
      gi_wp2_with (first
        | (gi_at_builtin; refine wpListIn_append_own _ rfl _ _ 54 rfl w2.heap.size 3 i0 (.int .i64 0) 1 8 Tryd.underlying54 hi0 hiz0 his0 hib0 rfl (by decide) v1 pre.length (ic (stsV M pre)) rfl (M5s.out.new (.cells #[.int .i64 n] 3)).o1 ⟨w5.heap.size, 0, none⟩ 1 1 [.int .i64 n] rfl rfl (new_adds _ _ #[.int .i64 n] _ (by simp)) (by simp [Value.oneCell']) (by unfold maxLen; have := HLT.out; omega) (by have := HLT.out; omega) (by simp; omega) ?_; intro v1' w6 ho6 hg6 _; obtain ⟨q1, k1, rfl⟩ := ownsRow_succ ho6; have M6 := Lib.hid (M5s.out.app1 ho6 hg6); obtain ⟨P6, L6⟩ := M5s.out.at1 _ hg6; obtain ⟨p6, p7, g6, g7⟩ := P6.two; obtain ⟨l6, l7, _, _⟩ := L6.two; have z6 : w2.heap.size ≤ w6.heap.size := (by have := M6.out.z; simpa using this); clear ho6 hg6 P6 L6)
        | (gi_at_builtin; refine wpListIn_append_own _ rfl _ _ 43 rfl w2.heap.size 24 i1 (.agg #[.int .i64 0, .int .i64 0]) 2 16 Tryd.underlying43 hi1 hiz1 his1 hib1 rfl (by decide) v2 pre.length ((lftV M pre).flatMap tc) rfl (M6.out.new (.cells #[.int .i64 u.a, .int .i64 u.b] 24)).o2 ⟨w6.heap.size, 0, none⟩ 1 1 [.int .i64 u.a, .int .i64 u.b] rfl rfl (new_adds _ _ #[.int .i64 u.a, .int .i64 u.b] _ (by simp)) (by simp [Value.oneCell']) (by unfold maxLen; have := HLT.out; omega) (by have := HLT.out; omega) (by simp; omega) ?_; intro v2' w7 ho7 hg7 _; obtain ⟨q2, k2', rfl⟩ := ownsRow_succ ho7; have M7 := Lib.hid (M6.out.app2 ho7 hg7); obtain ⟨p8, p9, g8, g9⟩ := (M6.out.at2 _ hg7).two; clear ho7 hg7))
      refine ⟨M7.out.k.from _, below_tri HMB.out.bl M7.out.bl M7.out.k.size, ?_, hal.out⟩
      have hl1 : (pre ++ [x]).length = pre.length + 1 := by simp
      have hst : ic (stsV M (pre ++ [x])) = ic (stsV M pre) ++ [.int .i64 n] := by rw [stsV_snoc, HLV.out, HTT.out, HN.out]; simp [ic]
      have hlf : (lftV M (pre ++ [x])).flatMap tc = (lftV M pre).flatMap tc ++ [.int .i64 u.a, .int .i64 u.b] := by rw [lftV_snoc, HLV.out, HTT.out, HN.out, HU.out]; simp [tc]
      have hlv' : leftV M T3.zero (pre ++ [x]) = u := by rw [leftV_snoc, HLV.out, HTT.out, HN.out, HU.out]
      rw [hl1, hst, hlf, hlv']
      exact ⟨_, _, M7.out.rebase⟩
  case done =>
    rintro D ys W hD rfl ⟨⟨v1, v2, hm⟩, ha⟩ hK
    have HMB := Lib.hid hm
    have hok : Hid (ys.all okT = true) := Lib.hid (List.all_eq_true.2 ha)
    obtain ⟨g1, rfl, _, _⟩ := own_slice hm.o1
    obtain ⟨g2, rfl, _, _⟩ := own_slice hm.o2
    obtain ⟨p0, p1, _, _⟩ := hm.p.two
    obtain ⟨q0, q1, q2, q3⟩ := hm.r1.two
    obtain ⟨e0, e1⟩ := hm.r2.one
    clear hm ha
    gi_wp2
    have ks := ((KeepsOthers.setCell W ⟨w.heap.size + 1, 0, none⟩ (.slice g1.A ys.length g1.c)).trans (KeepsOthers.setCell _ ⟨w.heap.size + 1, 1, none⟩ (.slice g2.A ys.length g2.c))).trans (KeepsOthers.setCell _ ⟨w.heap.size + 1 + 1, 0, none⟩ (.int .i64 0))
    have r1 := (HMB.out.r1.set2 (.slice g1.A ys.length g1.c) (.slice g2.A ys.length g2.c)).far (p := ⟨w.heap.size + 1 + 1, 0, none⟩) (by simp) (.int .i64 0)
    have r2 : Bk (((W.setCell ⟨w.heap.size + 1, 0, none⟩ (.slice g1.A ys.length g1.c)).setCell ⟨w.heap.size + 1, 1, none⟩ (.slice g2.A ys.length g2.c)).setCell ⟨w.heap.size + 1 + 1, 0, none⟩ (.int .i64 0)) (w.heap.size + 1 + 1) 27 #[.int .i64 0] := by
      have := ((HMB.out.r2.far (p := ⟨w.heap.size + 1, 0, none⟩) (by simp) (.slice g1.A ys.length g1.c)).far (p := ⟨w.heap.size + 1, 1, none⟩) (by simp) (.slice g2.A ys.length g2.c)).set_ 0 (.int .i64 0)
      simpa using this
    have o1 := own_far (p := ⟨w.heap.size + 1 + 1, 0, none⟩) (u := .int .i64 0) (own_far (p := ⟨w.heap.size + 1, 1, none⟩) (u := .slice g2.A ys.length g2.c) (own_far (p := ⟨w.heap.size + 1, 0, none⟩) (u := .slice g1.A ys.length g1.c) HMB.out.o1 (by simp; omega)) (by simp; omega)) (by simp; omega)
    have o2 := own_far (p := ⟨w.heap.size + 1 + 1, 0, none⟩) (u := .int .i64 0) (own_far (p := ⟨w.heap.size + 1, 1, none⟩) (u := .slice g2.A ys.length g2.c) (own_far (p := ⟨w.heap.size + 1, 0, none⟩) (u := .slice g1.A ys.length g1.c) HMB.out.o2 (by simp; omega)) (by simp; omega)) (by simp; omega)
    have bl := ((HMB.out.bl.setCell (p := ⟨w.heap.size + 1, 0, none⟩) (by simp) (.slice g1.A ys.length g1.c)).setCell (p := ⟨w.heap.size + 1, 1, none⟩) (by simp) (.slice g2.A ys.length g2.c)).setCell (p := ⟨w.heap.size + 1 + 1, 0, none⟩) (by simp; omega) (.int .i64 0)
    have hK' := ks.same D _ hK rfl
    generalize ((W.setCell ⟨w.heap.size + 1, 0, none⟩ (.slice g1.A ys.length g1.c)).setCell ⟨w.heap.size + 1, 1, none⟩ (.slice g2.A ys.length g2.c)).setCell ⟨w.heap.size + 1 + 1, 0, none⟩ (.int .i64 0) = W5 at *
    refine ⟨by simp, .inl ⟨_, _, rfl, run_takeDeferred hK', ?_⟩⟩
    obtain ⟨u0, u1, _, _⟩ := (Bk.kept r1 (grownBy_putObj' W5 D (.deferred none)) (fun r e => by cases e; exact ⟨_, hK', rfl⟩)).two
    obtain ⟨u2, _⟩ := (Bk.kept r2 (grownBy_putObj' W5 D (.deferred none)) (fun r e => by cases e; exact ⟨_, hK', rfl⟩)).one
    have y1 := (own_lies (ownsRow_putObj o1 (.deferred none) hK' rfl)).1
    have y2 := (own_lies (ownsRow_putObj o2 (.deferred none) hK' rfl)).1
    refine ⟨.tuple #[.agg #[.slice g1.A ys.length g1.c, .slice g2.A ys.length g2.c], .int .i64 0], ?_, .inl ⟨hok.out, g1.A, g1.c, g2.A, g2.c, rfl, y1, y2⟩, bl.trans (belowK_b (w := w) (Nat.le_refl _) _ D _ _ (by omega) hK' rfl rfl)⟩
    simp [results, Tryd.f29, go_sem, u0, u1, u2]
  case stop =>
    rintro D c pre W hD hpre ⟨⟨rfl, hpf, hr3, he3⟩, hB⟩ hK
    obtain ⟨k, hk, rfl⟩ := hpre
    have hall : Hid (xs.all okT = false) := Lib.hid (by
      cases h : xs.all okT with
      | false => rfl
      | true =>
        have h1 := List.all_eq_true.1 h
        rw [List.all_eq_true.2 (fun x hx => h1 x (List.mem_of_mem_take hx))] at hpf
        cases hpf)
    have R3 := Lib.hid hr3
    have E3 := Lib.hid he3
    clear hr3 he3 hpf
    gi_wp2
    refine ⟨by simp, .inl ⟨_, _, rfl, run_takeDeferred hK, ?_⟩⟩
    obtain ⟨u0, u1, _, _⟩ := (Bk.kept R3.out (grownBy_putObj' W D (.deferred none)) (fun r e => by cases e; exact ⟨_, hK, rfl⟩)).two
    obtain ⟨u2, _⟩ := (Bk.kept E3.out (grownBy_putObj' W D (.deferred none)) (fun r e => by cases e; exact ⟨_, hK, rfl⟩)).one
    refine ⟨.tuple #[.agg #[.slice none 0 0, .slice none 0 0], .int .i64 2], ?_, .inr ⟨hall.out, rfl⟩, hB.trans (belowK_b (w := w) (Nat.le_refl _) W D _ _ (by omega) hK rfl rfl)⟩
    simp [results, Tryd.f29, go_sem, u0, u1, u2]
end Go.Proofs.YtohldmmfnjfgmaaDoor
