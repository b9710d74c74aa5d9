
/-
  The walk of TopBrakeTogether where its conditions hold.
-/
import Derived.Test.YtaghpemdcmjchaaTgE
import Derived.Test.YtaghpemdcmjchaaTgC
import Derived.Test.YtaghpemdcmjchaaTgT
import Derived.Test.YtaghpemdcmjchaaBRnA
namespace Go.Proofs.Ytaghpemdcmjchaa
open Go.RowKit
theorem ne_old {W : World} {A : Option Addr} {g : Nat} {t : TypeId} {cs : Array Value} (h : ∀ a, A = some a → W.heap.size ≤ a.block) (hb : Bk W g t cs) : ∀ a, A = some a → g ≠ a.block := fun a e => by
  have h1 := h a e
  have h2 := hb.lt
  omega
theorem ne_new {W : World} {A : Option Addr} {l : List Bp} (h : Lies W W.heap.size A (l.flatMap pc)) (hn : l.length ≠ 0) : ∀ a, A = some a → W.heap.size ≠ a.block := fun a e => by
  obtain ⟨a2, e2, hb, _⟩ := h.piece (gp_at (i := 0) (by omega))
  rw [e] at e2
  injection e2 with e2
  subst e2
  omega
theorem Lies.far2b {W : World} {A : Option Addr} {vs : List Value} {g : Nat} (h : Lies W W.heap.size A vs) (hn : ∀ a, A = some a → g ≠ a.block) (x y : Value) : Lies ((W.setCell ⟨g, 0, none⟩ x).setCell ⟨g, 1, none⟩ y) ((W.setCell ⟨g, 0, none⟩ x).setCell ⟨g, 1, none⟩ y).heap.size A vs :=
  ((h.far (q := ⟨g, 0, none⟩) hn x).far (q := ⟨g, 1, none⟩) hn y).more (by simp)
theorem rowE_n {w w' : World} {N : Nat} {f : Nat → Int} {er : Int} {e : Ending} (h : RowE w (listF N f) er e w') : ∃ g : Hd, e = .returned (.tuple #[.slice g.A (if er = 0 then N else 0 : Nat) g.c, .int .i64 er]) ∧ Lies w' w'.heap.size g.A (ic (listF (if er = 0 then N else 0) f)) ∧ Below w.heap.size w w' := by
  obtain ⟨g, rfl, hL, hb⟩ := h
  by_cases h : er = 0
  · rw [if_pos h, if_pos h, listF_len]
    exact ⟨g, rfl, hL h, hb⟩
  · rw [if_neg h, if_neg h]
    exact ⟨g, rfl, (fun j v hv => by simp [listF, ic] at hv), hb⟩

set_option maxHeartbeats 8000000 in
set_option maxRecDepth 100000 in
theorem tg_main (s : ByteArray) (hs : s.size ≤ maxLen) (ps : List Bp) (A : Option Addr) (c : Nat) (hg : HdOk ⟨A, c⟩) (hl : ps.length ≤ maxLen) (s2 : ByteArray) (hs2 : s2.size ≤ maxLen) (ps2 : List Bp) (A2 : Option Addr) (c2 : Nat) (hg2 : HdOk ⟨A2, c2⟩) (hl2 : ps2.length ≤ maxLen) (b : Bs) (l : List Int) (NR : Nat) (hNR : l.length = NR) (R : Option Addr) (cr : Nat) (hgr : HdOk ⟨R, cr⟩) (hrc : NR ≤ cr) (hrm : cr ≤ maxLen) (p : Nat) (sq : Int) (k : Nat) (h1 : smallB s ps = true) (h2 : smallB s2 ps2 = true) (h3 : ps.length + ps2.length ≤ 12) (h4 : sE b = 0) (hk : k < ps2.length) (h5 : stopE ps2 (k : Int) = 0) (h6 : stateE ps2 (p : Int) sq = 0) (hsq : 0 ≤ sq ∧ sq ≤ 20000000000) (h7 : 1 ≤ p) (h8 : p ≤ k) (w : World) (hA : Lies w w.heap.size A (ps.flatMap pc)) (hA2 : Lies w w.heap.size A2 (ps2.flatMap pc)) (hR : Lies w w.heap.size R (ic l)) : Calls Try.prog 3 #[.agg #[.string s, .slice A ps.length c], .agg #[.string s2, .slice A2 ps2.length c2], .agg #[.int .i64 b.brk, .int .i64 b.drag, .int .i64 b.drv, .int .i64 (p : Int), .int .i64 sq, .int .i64 (k : Int), .slice R NR cr]] w fun e w' => e = .returned (.bool true) ∧ Below w.heap.size w w' := by
  have ht1 := (small_iff.1 h1).2.2
  have ht2 := (small_iff.1 h2).2.2
  have hok1 := trE_zero ht1
  have hok2 := trE_zero ht2
  have hb := sE_zero h4
  obtain ⟨a, rfl⟩ := ps_some hA hok1.n0
  obtain ⟨a2, rfl⟩ := ps_some hA2 hok2.n0
  obtain ⟨M, hM⟩ : ∃ M, M = ps.length + ps2.length := ⟨_, rfl⟩
  have hml : (ps ++ ps2).length = M := by rw [List.length_append, hM]
  have hokj : OkT s (ps ++ ps2) := okT_app hok1 hok2.each h3
  have HJ : Hid (∀ (A' : Option Addr) (c' : Nat) (A'' : Option Addr) (c'' : Nat) (W : World), Lies W W.heap.size A' (ps.flatMap pc) → Lies W W.heap.size A'' (ps2.flatMap pc) → Calls Try.prog 9 #[.agg #[.string s, .slice A' ps.length c'], .agg #[.string s2, .slice A'' ps2.length c'']] W fun e w' => ∃ h : Hd, e = .returned (.tuple #[.agg #[.string s, .slice h.A M h.c], .int .i64 0]) ∧ HdOk h ∧ Lies w' w'.heap.size h.A ((ps ++ ps2).flatMap pc) ∧ (∀ a, h.A = some a → W.heap.size ≤ a.block) ∧ Below W.heap.size W w') := Lib.hid (fun A' c' A'' c'' W h h2 => by obtain ⟨b1, rfl⟩ := ps_some h hok1.n0; obtain ⟨b2, rfl⟩ := ps_some h2 hok2.n0; have := Joined_ok s hs ps (some b1) c' (by omega) s2 hs2 ps2 (some b2) c'' (by omega) (by rw [ht1, ht2]; rfl) h3 W h h2; rw [← hM] at this; exact this)
  have HTJ : Hid (∀ (A' : Option Addr) (c' : Nat) (W : World), Lies W W.heap.size A' ((ps ++ ps2).flatMap pc) → Calls Try.prog 11 #[.agg #[.string s, .slice A' M c']] W fun e w' => e = .returned (.int .i64 0) ∧ Below W.heap.size W w') := Lib.hid (fun A' c' W h => by have := TrackErr_any s hs (ps ++ ps2) A' c' (by rw [hml]; unfold maxLen; omega) W h; rw [hml, trE_ok hokj] at this; exact this)
  obtain ⟨KB, hKB⟩ : ∃ KB, KB = k + 2 := ⟨_, rfl⟩
  obtain ⟨NK, hNK⟩ : ∃ NK, NK = ps.length + k := ⟨_, rfl⟩
  obtain ⟨KJ, hKJ⟩ : ∃ KJ, KJ = NK + 2 := ⟨_, rfl⟩
  obtain ⟨NP, hNP⟩ : ∃ NP, NP = ps.length + p := ⟨_, rfl⟩
  obtain ⟨N1, hN1⟩ : ∃ N1, N1 = ps.length + 1 := ⟨_, rfl⟩
  have h5j : stopE (ps ++ ps2) (NK : Int) = 0 := by rw [hNK]; exact stopE_app2 hk h5
  have HCB : Hid (∀ (A' : Option Addr) (c' : Nat) (W : World), Lies W W.heap.size A' (ps2.flatMap pc) → Calls Try.prog 12 #[.agg #[.string s2, .slice A' ps2.length c'], .agg #[.int .i64 b.brk, .int .i64 b.drag, .int .i64 b.drv], .int .i64 (k : Int)] W fun e w' => ∃ g : Nat, e = .returned (.tuple #[.slice (some ⟨g, 0, none⟩) KB KB, .int .i64 0]) ∧ Lies w' w'.heap.size (some ⟨g, 0, none⟩) (ic (listF KB (crvV ps2 b.brk k))) ∧ Below W.heap.size W w') := Lib.hid (fun A' c' W h => by obtain ⟨b1, rfl⟩ := ps_some h hok2.n0; have := CurveOf_cap s2 hs2 ps2 b1 c' (by omega) b (k : Int) hok2 hb h4 h5 W h; unfold RowC at this; rw [Int.toNat_natCast, listF_len, ← hKB] at this; exact this)
  have HCJ : Hid (∀ (A' : Option Addr) (c' : Nat) (W : World), Lies W W.heap.size A' ((ps ++ ps2).flatMap pc) → Calls Try.prog 12 #[.agg #[.string s, .slice A' M c'], .agg #[.int .i64 b.brk, .int .i64 b.drag, .int .i64 b.drv], .int .i64 (NK : Int)] W fun e w' => ∃ g : Nat, e = .returned (.tuple #[.slice (some ⟨g, 0, none⟩) KJ KJ, .int .i64 0]) ∧ Lies w' w'.heap.size (some ⟨g, 0, none⟩) (ic (listF KJ (crvV (ps ++ ps2) b.brk NK))) ∧ Below W.heap.size W w') := Lib.hid (fun A' c' W h => by obtain ⟨b1, rfl⟩ := ps_some h hokj.n0; have := CurveOf_cap s hs (ps ++ ps2) b1 c' (by omega) b (NK : Int) hokj hb h4 h5j W h; unfold RowC at this; rw [Int.toNat_natCast, listF_len, ← hKJ, hml] at this; exact this)
  have hlvk : (gp ps2 k).lv = true := by obtain ⟨k2, e, _, hl9⟩ := stopE_ok h5; obtain rfl : k = k2 := (by omega); exact hl9
  obtain ⟨er, her⟩ : ∃ er, runE ps2 b k p sq = er := ⟨_, rfl⟩
  obtain ⟨NQ, hNQ⟩ : ∃ NQ : Nat, (if er = 0 then k - p + 1 else 0) = NQ := ⟨_, rfl⟩
  have hNQ2 : NQ ≤ k - p + 1 := by rw [← hNQ]; split <;> omega
  have HRB : Hid (∀ (A' : Option Addr) (c' : Nat) (W : World), Lies W W.heap.size A' (ps2.flatMap pc) → Calls Try.prog 14 #[.agg #[.string s2, .slice A' ps2.length c'], .agg #[.int .i64 b.brk, .int .i64 b.drag, .int .i64 b.drv], .agg #[.int .i64 (p : Int), .int .i64 sq], .int .i64 (k : Int)] W fun e w' => ∃ g : Hd, e = .returned (.tuple #[.slice g.A NQ g.c, .int .i64 er]) ∧ Lies w' w'.heap.size g.A (ic (listF NQ (runV ps2 b k p sq))) ∧ Below W.heap.size W w') := Lib.hid (fun A' c' W h => by obtain ⟨b1, rfl⟩ := ps_some h hok2.n0; have := RunTo_ok s2 hs2 ps2 b1 c' (by omega) b hok2 hb h4 k p hk hlvk h8 sq hsq W h; rw [her] at this; exact this.mono fun _ _ h => by rw [← hNQ]; exact rowE_n h)
  have HRJ : Hid (∀ (A' : Option Addr) (c' : Nat) (W : World), Lies W W.heap.size A' ((ps ++ ps2).flatMap pc) → Calls Try.prog 14 #[.agg #[.string s, .slice A' M c'], .agg #[.int .i64 b.brk, .int .i64 b.drag, .int .i64 b.drv], .agg #[.int .i64 (NP : Int), .int .i64 sq], .int .i64 (NK : Int)] W fun e w' => ∃ g : Hd, e = .returned (.tuple #[.slice g.A NQ g.c, .int .i64 er]) ∧ Lies w' w'.heap.size g.A (ic (listF NQ (runV ps2 b k p sq))) ∧ Below W.heap.size W w') := Lib.hid (fun A' c' W h => by
    obtain ⟨b1, rfl⟩ := ps_some h hokj.n0
    have := RunTo_ok s hs (ps ++ ps2) b1 c' (by omega) b hokj hb h4 NK NP (by rw [hml]; omega) (by rw [hNK, gp_app2]; exact hlvk) (by omega) sq hsq W h
    rw [hNK, hNP, runE_app2 ps ps2 b k p sq h7 h8, her, show ps.length + k - (ps.length + p) = k - p by omega] at this
    have hcg : listF NQ (runV (ps ++ ps2) b (ps.length + k) (ps.length + p) sq) = listF NQ (runV ps2 b k p sq) := listF_congr fun j hj => run_app2 ps ps2 b k p sq h7 j (by omega)
    rw [← hNK, ← hNP, hml] at this
    refine this.mono fun _ _ h => ?_
    have h9 := rowE_n h
    rw [hNQ, hNK, hNP, hcg] at h9
    exact h9)
  have HCE : Hid (listF (k + 1) (fun i => crvV (ps ++ ps2) b.brk NK (N1 + i)) = listF (k + 1) (fun i => crvV ps2 b.brk k (1 + i))) := Lib.hid (listF_congr fun i hi => by rw [hNK, hN1, show ps.length + 1 + i = ps.length + (1 + i) by omega]; exact crv_app2' ps ps2 _ _ _ (by omega) (by omega))
  have HCD1 : Hid ((listF KB (crvV ps2 b.brk k)).drop 1 = listF (k + 1) (fun i => crvV ps2 b.brk k (1 + i))) := Lib.hid (by rw [hKB, show k + 2 = (k + 1) + 1 by omega]; exact listF_drop (k + 1) 1 _)
  have HCD2 : Hid ((listF KJ (crvV (ps ++ ps2) b.brk NK)).drop N1 = listF (k + 1) (fun i => crvV (ps ++ ps2) b.brk NK (N1 + i))) := Lib.hid (by rw [hKJ, hNK, hN1, show ps.length + k + 2 = (k + 1) + (ps.length + 1) by omega]; exact listF_drop (k + 1) (ps.length + 1) _)
  have hwM := (IntWalk.i64_in ((ps.length : Int) + (ps2.length : Int)) (by omega)).trans (show (ps.length : Int) + (ps2.length : Int) = (M : Int) by omega)
  have hwNK := (IntWalk.i64_in ((ps.length : Int) + (k : Int)) (by omega)).trans (show (ps.length : Int) + (k : Int) = (NK : Int) by omega)
  have hwKB := (IntWalk.i64_in ((k : Int) + 2) (by omega)).trans (show (k : Int) + 2 = (KB : Int) by omega)
  have hwKJ := (IntWalk.i64_in ((NK : Int) + 2) (by omega)).trans (show (NK : Int) + 2 = (KJ : Int) by omega)
  have hwNP := (IntWalk.i64_in ((ps.length : Int) + (p : Int)) (by omega)).trans (show (ps.length : Int) + (p : Int) = (NP : Int) by omega)
  have hwN1 := (IntWalk.i64_in ((ps.length : Int) + 1) (by omega)).trans (show (ps.length : Int) + 1 = (N1 : Int) by omega)
  have h3i : ¬ (12 : Int) < (M : Int) := by omega
  have h7i : decide ((p : Int) < 1) = false := decide_eq_false (by omega)
  have h8i : decide ((k : Int) < (p : Int)) = false := decide_eq_false (by omega)
  have HK1 : Hid (KB - 1 = k + 1 ∧ KJ - N1 = k + 1 ∧ 1 ≤ KB ∧ N1 ≤ KJ) := Lib.hid (by omega)
  have HMM := Lib.hid hM
  have HN0 : Hid ((ps ++ ps2).length ≠ 0) := Lib.hid (by rw [hml]; have := hok1.n0; omega)
  have HML := Lib.hid hml
  have HOKJ := Lib.hid hokj
  have HS1 := Lib.hid h1
  have HS2 := Lib.hid h2
  have HSY := Lib.hid h4
  have HST := Lib.hid h5
  have HSE := Lib.hid h6
  have hm12 : M ≤ 12 := by omega
  have hm1 : 1 ≤ M := by have := hok1.n0; omega
  have HX := Lib.hid (And.intro hok1 hok2)
  have HN1 := Lib.hid hN1
  have HPS : Hid (ps.length ≤ 8 ∧ ps2.length ≤ 8) := Lib.hid ⟨(small_iff.1 h1).2.1, (small_iff.1 h2).2.1⟩
  clear hKB hNK hKJ hNP hN1 hM hml hokj h1 h2 h4 h5 h6 h5j hlvk her hNQ hok1 hok2 hb ht1 ht2
  have F0 := Lib.hid (Fr.b3 w 24 #[.string s, .slice (some a) ps.length c] 24 #[.string s2, .slice (some a2) ps2.length c2] 31 #[.int .i64 b.brk, .int .i64 b.drag, .int .i64 b.drv, .int .i64 (p : Int), .int .i64 sq, .int .i64 (k : Int), .slice R NR cr])
  have HA := Lib.hid hA
  have HG := Lib.hid hg
  have HA2 := Lib.hid hA2
  have HG2 := Lib.hid hg2
  have HLR := Lib.hid hR
  have HGR := Lib.hid hgr
  have HNR := Lib.hid hNR
  clear hA hg hA2 hg2 hR hgr hNR
  go_enter Try.func3, Try.ntmps3
  go_wp2_with fail
  refine (brakeAwake_any _).mono ?_
  rintro e w1 ⟨rfl, hb1⟩
  have G1 := Fr.call F0.out hb1
  obtain ⟨k0_0, k0_1, kf0, kg0⟩ := (G1.get 2 rfl).two
  have kz0 := (G1.get 2 rfl).lt
  obtain ⟨k1_0, k1_1, kf1, kg1⟩ := (G1.get 1 rfl).two
  have kz1 := (G1.get 1 rfl).lt
  have k2_0 := (G1.get 0 rfl).cell 0
  have k2_1 := (G1.get 0 rfl).cell 1
  have k2_2 := (G1.get 0 rfl).cell 2
  have k2_3 := (G1.get 0 rfl).cell 3
  have k2_4 := (G1.get 0 rfl).cell 4
  have k2_5 := (G1.get 0 rfl).cell 5
  have k2_6 := (G1.get 0 rfl).cell 6
  have kz2 := (G1.get 0 rfl).lt
  have F1 : Hid (Fr w _ [(w.heap.size + 1 + 1, 31, #[.int .i64 b.brk, .int .i64 b.drag, .int .i64 b.drv, .int .i64 (p : Int), .int .i64 sq, .int .i64 (k : Int), .slice R NR cr]), (w.heap.size + 1, 24, #[.string s2, .slice (some a2) ps2.length c2]), (w.heap.size, 24, #[.string s, .slice (some a) ps.length c])]) := Lib.hid G1
  clear hb1 G1 F0
  go_wp2_with fail
  refine (brakeSmall_any s hs ps (some a) c hl _ (Fr.lies HA.out F1.out)).mono ?_
  rintro e w2 ⟨rfl, hb2⟩
  rw [HS1.out]
  clear k0_0 k0_1 kf0 kg0 kz0 k1_0 k1_1 kf1 kg1 kz1 k2_0 k2_1 k2_2 k2_3 k2_4 k2_5 k2_6 kz2
  have G2 := Fr.call F1.out hb2
  obtain ⟨k0_0, k0_1, kf0, kg0⟩ := (G2.get 2 rfl).two
  have kz0 := (G2.get 2 rfl).lt
  obtain ⟨k1_0, k1_1, kf1, kg1⟩ := (G2.get 1 rfl).two
  have kz1 := (G2.get 1 rfl).lt
  have k2_0 := (G2.get 0 rfl).cell 0
  have k2_1 := (G2.get 0 rfl).cell 1
  have k2_2 := (G2.get 0 rfl).cell 2
  have k2_3 := (G2.get 0 rfl).cell 3
  have k2_4 := (G2.get 0 rfl).cell 4
  have k2_5 := (G2.get 0 rfl).cell 5
  have k2_6 := (G2.get 0 rfl).cell 6
  have kz2 := (G2.get 0 rfl).lt
  have F2 : Hid (Fr w _ [(w.heap.size + 1 + 1, 31, #[.int .i64 b.brk, .int .i64 b.drag, .int .i64 b.drv, .int .i64 (p : Int), .int .i64 sq, .int .i64 (k : Int), .slice R NR cr]), (w.heap.size + 1, 24, #[.string s2, .slice (some a2) ps2.length c2]), (w.heap.size, 24, #[.string s, .slice (some a) ps.length c])]) := Lib.hid G2
  clear hb2 G2 F1
  go_wp2_with fail
  refine (brakeSmall_any s2 hs2 ps2 (some a2) c2 hl2 _ (Fr.lies HA2.out F2.out)).mono ?_
  rintro e w3 ⟨rfl, hb3⟩
  rw [HS2.out]
  clear k0_0 k0_1 kf0 kg0 kz0 k1_0 k1_1 kf1 kg1 kz1 k2_0 k2_1 k2_2 k2_3 k2_4 k2_5 k2_6 kz2
  have G3 := Fr.call F2.out hb3
  obtain ⟨k0_0, k0_1, kf0, kg0⟩ := (G3.get 2 rfl).two
  have kz0 := (G3.get 2 rfl).lt
  obtain ⟨k1_0, k1_1, kf1, kg1⟩ := (G3.get 1 rfl).two
  have kz1 := (G3.get 1 rfl).lt
  have k2_0 := (G3.get 0 rfl).cell 0
  have k2_1 := (G3.get 0 rfl).cell 1
  have k2_2 := (G3.get 0 rfl).cell 2
  have k2_3 := (G3.get 0 rfl).cell 3
  have k2_4 := (G3.get 0 rfl).cell 4
  have k2_5 := (G3.get 0 rfl).cell 5
  have k2_6 := (G3.get 0 rfl).cell 6
  have kz2 := (G3.get 0 rfl).lt
  have F3 : Hid (Fr w _ [(w.heap.size + 1 + 1, 31, #[.int .i64 b.brk, .int .i64 b.drag, .int .i64 b.drv, .int .i64 (p : Int), .int .i64 sq, .int .i64 (k : Int), .slice R NR cr]), (w.heap.size + 1, 24, #[.string s2, .slice (some a2) ps2.length c2]), (w.heap.size, 24, #[.string s, .slice (some a) ps.length c])]) := Lib.hid G3
  clear hb3 G3 F2
  go_wp2_with fail
  refine (refCheckSystem_any b _).mono ?_
  rintro e w4 ⟨rfl, hb4⟩
  rw [HSY.out]
  clear k0_0 k0_1 kf0 kg0 kz0 k1_0 k1_1 kf1 kg1 kz1 k2_0 k2_1 k2_2 k2_3 k2_4 k2_5 k2_6 kz2
  have G4 := Fr.call F3.out hb4
  obtain ⟨k0_0, k0_1, kf0, kg0⟩ := (G4.get 2 rfl).two
  have kz0 := (G4.get 2 rfl).lt
  obtain ⟨k1_0, k1_1, kf1, kg1⟩ := (G4.get 1 rfl).two
  have kz1 := (G4.get 1 rfl).lt
  have k2_0 := (G4.get 0 rfl).cell 0
  have k2_1 := (G4.get 0 rfl).cell 1
  have k2_2 := (G4.get 0 rfl).cell 2
  have k2_3 := (G4.get 0 rfl).cell 3
  have k2_4 := (G4.get 0 rfl).cell 4
  have k2_5 := (G4.get 0 rfl).cell 5
  have k2_6 := (G4.get 0 rfl).cell 6
  have kz2 := (G4.get 0 rfl).lt
  have F4 : Hid (Fr w _ [(w.heap.size + 1 + 1, 31, #[.int .i64 b.brk, .int .i64 b.drag, .int .i64 b.drv, .int .i64 (p : Int), .int .i64 sq, .int .i64 (k : Int), .slice R NR cr]), (w.heap.size + 1, 24, #[.string s2, .slice (some a2) ps2.length c2]), (w.heap.size, 24, #[.string s, .slice (some a) ps.length c])]) := Lib.hid G4
  clear hb4 G4 F3
  go_wp2_with fail
  refine (StopErr_any s2 ps2 (some a2) c2 (by omega) (k : Int) _ (Fr.lies HA2.out F4.out)).mono ?_
  rintro e w5 ⟨rfl, hb5⟩
  rw [HST.out]
  clear k0_0 k0_1 kf0 kg0 kz0 k1_0 k1_1 kf1 kg1 kz1 k2_0 k2_1 k2_2 k2_3 k2_4 k2_5 k2_6 kz2
  have G5 := Fr.call F4.out hb5
  obtain ⟨k0_0, k0_1, kf0, kg0⟩ := (G5.get 2 rfl).two
  have kz0 := (G5.get 2 rfl).lt
  obtain ⟨k1_0, k1_1, kf1, kg1⟩ := (G5.get 1 rfl).two
  have kz1 := (G5.get 1 rfl).lt
  have k2_0 := (G5.get 0 rfl).cell 0
  have k2_1 := (G5.get 0 rfl).cell 1
  have k2_2 := (G5.get 0 rfl).cell 2
  have k2_3 := (G5.get 0 rfl).cell 3
  have k2_4 := (G5.get 0 rfl).cell 4
  have k2_5 := (G5.get 0 rfl).cell 5
  have k2_6 := (G5.get 0 rfl).cell 6
  have kz2 := (G5.get 0 rfl).lt
  have F5 : Hid (Fr w _ [(w.heap.size + 1 + 1, 31, #[.int .i64 b.brk, .int .i64 b.drag, .int .i64 b.drv, .int .i64 (p : Int), .int .i64 sq, .int .i64 (k : Int), .slice R NR cr]), (w.heap.size + 1, 24, #[.string s2, .slice (some a2) ps2.length c2]), (w.heap.size, 24, #[.string s, .slice (some a) ps.length c])]) := Lib.hid G5
  clear hb5 G5 F4
  go_wp2_with fail
  refine (StateErr_any s2 ps2 (some a2) c2 (by omega) (p : Int) sq _).mono ?_
  rintro e w6 ⟨rfl, hb6⟩
  rw [HSE.out]
  clear k0_0 k0_1 kf0 kg0 kz0 k1_0 k1_1 kf1 kg1 kz1 k2_0 k2_1 k2_2 k2_3 k2_4 k2_5 k2_6 kz2
  have G6 := Fr.call F5.out hb6
  obtain ⟨k0_0, k0_1, kf0, kg0⟩ := (G6.get 2 rfl).two
  have kz0 := (G6.get 2 rfl).lt
  obtain ⟨k1_0, k1_1, kf1, kg1⟩ := (G6.get 1 rfl).two
  have kz1 := (G6.get 1 rfl).lt
  have k2_0 := (G6.get 0 rfl).cell 0
  have k2_1 := (G6.get 0 rfl).cell 1
  have k2_2 := (G6.get 0 rfl).cell 2
  have k2_3 := (G6.get 0 rfl).cell 3
  have k2_4 := (G6.get 0 rfl).cell 4
  have k2_5 := (G6.get 0 rfl).cell 5
  have k2_6 := (G6.get 0 rfl).cell 6
  have kz2 := (G6.get 0 rfl).lt
  have F6 : Hid (Fr w _ [(w.heap.size + 1 + 1, 31, #[.int .i64 b.brk, .int .i64 b.drag, .int .i64 b.drv, .int .i64 (p : Int), .int .i64 sq, .int .i64 (k : Int), .slice R NR cr]), (w.heap.size + 1, 24, #[.string s2, .slice (some a2) ps2.length c2]), (w.heap.size, 24, #[.string s, .slice (some a) ps.length c])]) := Lib.hid G6
  clear hb6 G6 F5
  go_upto_region 5 with fail
  clear k0_0 k0_1 kf0 kg0 kz0 k1_0 k1_1 kf1 kg1 kz1 k2_0 k2_1 k2_2 k2_3 k2_4 k2_5 k2_6 kz2
  go_cut [7, 8] from 76 to 85 (fun jv fv W => ∃ (g : Nat) (h : Hd), jv = .pointer (some ⟨g, 0, none⟩) ∧ fv = .int .i64 0 ∧ HdOk h ∧ Lies W W.heap.size h.A ((ps ++ ps2).flatMap pc) ∧ Fr w6 W [(g, 24, #[.string s, .slice h.A M h.c])])
  case first =>
    refine wp_abs ?_
    intro wnow hnow
    have HALL : Hid (∀ W, Fr w6 W [] → Fr w6 W [] ∧ W.cell? ⟨w.heap.size, 0, none⟩ = some (.string s) ∧ W.cell? ⟨w.heap.size, 1, none⟩ = some (.slice (some a) ps.length c) ∧ W.cell? ⟨w.heap.size + 1, 0, none⟩ = some (.string s2) ∧ W.cell? ⟨w.heap.size + 1, 1, none⟩ = some (.slice (some a2) ps2.length c2) ∧ W.cell? ⟨w.heap.size + 1 + 1, 0, none⟩ = some (.int .i64 b.brk) ∧ W.cell? ⟨w.heap.size + 1 + 1, 1, none⟩ = some (.int .i64 b.drag) ∧ W.cell? ⟨w.heap.size + 1 + 1, 2, none⟩ = some (.int .i64 b.drv) ∧ W.cell? ⟨w.heap.size + 1 + 1, 3, none⟩ = some (.int .i64 (p : Int)) ∧ W.cell? ⟨w.heap.size + 1 + 1, 4, none⟩ = some (.int .i64 sq) ∧ W.cell? ⟨w.heap.size + 1 + 1, 5, none⟩ = some (.int .i64 (k : Int)) ∧ W.cell? ⟨w.heap.size + 1 + 1, 6, none⟩ = some (.slice R NR cr)) := Lib.hid (fun W hW => ⟨hW, ((F6.out.get 2 rfl).call hW.bl).cell 0, ((F6.out.get 2 rfl).call hW.bl).cell 1, ((F6.out.get 1 rfl).call hW.bl).cell 0, ((F6.out.get 1 rfl).call hW.bl).cell 1, ((F6.out.get 0 rfl).call hW.bl).cell 0, ((F6.out.get 0 rfl).call hW.bl).cell 1, ((F6.out.get 0 rfl).call hW.bl).cell 2, ((F6.out.get 0 rfl).call hW.bl).cell 3, ((F6.out.get 0 rfl).call hW.bl).cell 4, ((F6.out.get 0 rfl).call hW.bl).cell 5, ((F6.out.get 0 rfl).call hW.bl).cell 6⟩)
    have HAC := Lib.hid (Fr.lies HA.out F6.out)
    have F10 : Fr w6 wnow [] := by subst hnow; exact Fr.nil _
    clear hnow
    have HAC2 := Lib.hid (Fr.lies HA2.out F6.out)
    refine Tw_start 10 (fun W => Fr w6 W [] ∧ W.cell? ⟨w.heap.size, 0, none⟩ = some (.string s) ∧ W.cell? ⟨w.heap.size, 1, none⟩ = some (.slice (some a) ps.length c) ∧ W.cell? ⟨w.heap.size + 1, 0, none⟩ = some (.string s2) ∧ W.cell? ⟨w.heap.size + 1, 1, none⟩ = some (.slice (some a2) ps2.length c2) ∧ W.cell? ⟨w.heap.size + 1 + 1, 0, none⟩ = some (.int .i64 b.brk) ∧ W.cell? ⟨w.heap.size + 1 + 1, 1, none⟩ = some (.int .i64 b.drag) ∧ W.cell? ⟨w.heap.size + 1 + 1, 2, none⟩ = some (.int .i64 b.drv) ∧ W.cell? ⟨w.heap.size + 1 + 1, 3, none⟩ = some (.int .i64 (p : Int)) ∧ W.cell? ⟨w.heap.size + 1 + 1, 4, none⟩ = some (.int .i64 sq) ∧ W.cell? ⟨w.heap.size + 1 + 1, 5, none⟩ = some (.int .i64 (k : Int)) ∧ W.cell? ⟨w.heap.size + 1 + 1, 6, none⟩ = some (.slice R NR cr)) (by kernel_rfl) (by kernel_rfl) rfl ?_ ?_
    · (try dsimp only)
      ((go_split_ands; refine HALL.out _ ?_; (first | assumption | (repeat (first | assumption | refine Fr.new ?_ _ | refine Fr.drew ?_ | (refine Fr.set ?_ (by first | exact Nat.le_refl _ | omega | (simp; done) | (simp; omega)) (by first | (simp; done) | (simp; omega)) _))); done)))
    refine Tw_takeL (i := 0) (v := ?tv1) rfl (by kernel_rfl) (by decide) (by kernel_rfl) (by kernel_rfl) (fun _ _ _ h => h) (by rfl) ?ty1 ?tn1
    case ty1 => (intro w hSw; (try dsimp only at hSw); go_simp <;> with_reducible rfl)
    (try simp only [Act.put, List.setIfInBounds_toArray, List.set_cons_zero, List.set_cons_succ])
    refine Tw_takeL (i := 2) (v := ?tv2) rfl (by kernel_rfl) (by decide) (by kernel_rfl) (by kernel_rfl) (fun _ _ _ h => h) (by rfl) ?ty2 ?tn2
    case ty2 => (intro w hSw; (try dsimp only at hSw); go_simp <;> with_reducible rfl)
    (try simp only [Act.put, List.setIfInBounds_toArray, List.set_cons_zero, List.set_cons_succ])
    refine Tw_all (rs := [1, 8]) (by kernel_rfl) (by simp) (by decide) (fun hHeld => ?_)
    refine AllT.consL rfl (fun K hK => ?_) (AllT.consL rfl (fun K hK => ?_) (AllT.nil))
    · go_simp
      (go_at_call 10; go_split_ands; (with_reducible refine (Copy_any s ps ⟨(some a), c⟩ (by omega) HG.out _ (Fr.lies HAC.out (by assumption))).mono ?_); rintro e w7 ⟨g2, rfl, hl2, hk2, hb7⟩; have L2 := Lib.hid hl2; have F4 := Fr.call (by assumption) hb7; (first | (have N1 := Lib.hid (Bk.call N1.out hb7)) | skip); (first | (have L3 := Lib.hid (Lies.call L3.out hb7)) | skip); clear hb7 hl2 hk2)
      refine hK.out _ _ ?_ ?_
      · (try dsimp only)
        ((go_split_ands; refine HALL.out _ ?_; (first | assumption | (repeat (first | assumption | refine Fr.new ?_ _ | refine Fr.drew ?_ | (refine Fr.set ?_ (by first | exact Nat.le_refl _ | omega | (simp; done) | (simp; omega)) (by first | (simp; done) | (simp; omega)) _))); done)))
      clear hK K
      (try simp only [Act.put, List.setIfInBounds_toArray, List.set_cons_zero, List.set_cons_succ])
      refine Tw_all (rs := [3, 8]) (by kernel_rfl) (by simp) (by decide) (fun hHeld => ?_)
      refine AllT.consL rfl (fun K hK => ?_) (AllT.consL rfl (fun K hK => ?_) (AllT.nil))
      · go_simp
        (go_at_call 10; go_split_ands; (with_reducible refine (Copy_any s2 ps2 ⟨some a2, c2⟩ (by omega) HG2.out _ (Fr.lies HAC2.out (by assumption))).mono ?_); rintro e w7 ⟨g3, rfl, hl3, hk3, hb7⟩; have L3 := Lib.hid hl3; have F4 := Fr.call (by assumption) hb7; (first | (have N1 := Lib.hid (Bk.call N1.out hb7)) | skip); (first | (have L2 := Lib.hid (Lies.call L2.out hb7)) | skip); clear hb7 hl3 hk3)
        refine hK.out _ _ ?_ ?_
        · (try dsimp only)
          ((go_split_ands; refine HALL.out _ ?_; (first | assumption | (repeat (first | assumption | refine Fr.new ?_ _ | refine Fr.drew ?_ | (refine Fr.set ?_ (by first | exact Nat.le_refl _ | omega | (simp; done) | (simp; omega)) (by first | (simp; done) | (simp; omega)) _))); done)))
        clear hK K
        (try simp only [Act.put, List.setIfInBounds_toArray, List.set_cons_zero, List.set_cons_succ])
        refine Tw_all (rs := [4, 8]) (by kernel_rfl) (by simp) (by decide) (fun hHeld => ?_)
        refine AllT.consL rfl (fun K hK => ?_) (AllT.consL rfl (fun K hK => ?_) (AllT.nil))
        · go_simp
          (go_at_call 9; go_split_ands; (with_reducible refine (HJ.out _ _ _ _ _ L2.out L3.out).mono ?_); rintro e w7 ⟨h, rfl, hok5, hl5, hba5, hb7⟩; (first | (have HNE := Lib.hid (ne_old hba5 N1.out)) | skip); have L5 := Lib.hid hl5; have HK5 := Lib.hid hok5; have F4 := Fr.call (by assumption) hb7; (first | (have N1 := Lib.hid (Bk.call N1.out hb7)) | skip); clear hb7 hl5 hba5 hok5)
          refine hK.out _ _ ?_ ?_
          · (try dsimp only)
            ((go_split_ands; refine HALL.out _ ?_; (first | assumption | (repeat (first | assumption | refine Fr.new ?_ _ | refine Fr.drew ?_ | (refine Fr.set ?_ (by first | exact Nat.le_refl _ | omega | (simp; done) | (simp; omega)) (by first | (simp; done) | (simp; omega)) _))); done)))
          clear hK K
          (try simp only [Act.put, List.setIfInBounds_toArray, List.set_cons_zero, List.set_cons_succ])
          refine Tw_takeL (i := 5) (v := ?tv3) rfl (by kernel_rfl) (by decide) (by kernel_rfl) (by kernel_rfl) (fun _ _ _ h => h) (by rfl) ?ty3 ?tn3
          case ty3 => (intro w hSw; (try dsimp only at hSw); go_simp <;> with_reducible rfl)
          (try simp only [Act.put, List.setIfInBounds_toArray, List.set_cons_zero, List.set_cons_succ])
          refine Tw_takeL (i := 6) (v := ?tv4) rfl (by kernel_rfl) (by decide) (by kernel_rfl) (by kernel_rfl) (fun _ _ _ h => h) (by rfl) ?ty4 ?tn4
          case ty4 => (intro w hSw; (try dsimp only at hSw); go_simp <;> with_reducible rfl)
          (try simp only [Act.put, List.setIfInBounds_toArray, List.set_cons_zero, List.set_cons_succ])
          refine Tw_takeL (i := 7) (v := ?tv5) rfl (by kernel_rfl) (by decide) (by kernel_rfl) (by kernel_rfl) (fun _ _ _ h => h) (by rfl) ?ty5 ?tn5
          case ty5 => (intro w hSw; (try dsimp only at hSw); go_simp <;> with_reducible rfl)
          (try simp only [Act.put, List.setIfInBounds_toArray, List.set_cons_zero, List.set_cons_succ])
          refine Tw_all (rs := [8]) (by kernel_rfl) (by simp) (by decide) (fun hHeld => ?_)
          refine AllT.consL rfl (fun K hK => ?_) (AllT.nil)
          · go_simp
            refine hK.out _ _ ?_ ?_
            · (try dsimp only)
              ((go_split_ands; refine HALL.out _ ?_; (first | assumption | (repeat (first | assumption | refine Fr.new ?_ _ | refine Fr.drew ?_ | (refine Fr.set ?_ (by first | exact Nat.le_refl _ | omega | (simp; done) | (simp; omega)) (by first | (simp; done) | (simp; omega)) _))); done)))
            clear hK K
            (try simp only [Act.put, List.setIfInBounds_toArray, List.set_cons_zero, List.set_cons_succ])
            refine Tw_abs ?_
            intro wA4 hA4
            (first | (have N1 := Lib.hid (Bk.of_alloc hA4)) | (have N1 := Lib.hid (Bk.of_alloc_drew hA4)))
            have zg := Lib.hid (show w6.heap.size ≤ _ from hHeld.1.size)
            (first | (have HNE := Lib.hid (ne_new L5.out HN0.out)) | skip)
            (first | (have L2 := Lib.hid (Lies.alloc hA4 L2.out)) | (have L2 := Lib.hid (Lies.alloc_drew hA4 L2.out)) | skip)
            (first | (have L3 := Lib.hid (Lies.alloc hA4 L3.out)) | (have L3 := Lib.hid (Lies.alloc_drew hA4 L3.out)) | skip)
            (first | (have L5 := Lib.hid (Lies.alloc hA4 L5.out)) | (have L5 := Lib.hid (Lies.alloc_drew hA4 L5.out)) | skip)
            clear hA4
            refine Tw_all (rs := [9]) (by kernel_rfl) (by simp) (by decide) (fun hHeld => ?_)
            refine AllT.consL rfl (fun K hK => ?_) (AllT.nil)
            · have c0 := N1.out.cell 0
              have c1 := N1.out.cell 1
              have f0 := N1.out.frozen 0
              have f1 := N1.out.frozen 1
              have zN := N1.out.lt
              go_simp
              refine hK.out _ _ ?_ ?_
              · exact HALL.out _ ((hHeld.1.set (p := ⟨_, 0, none⟩) zg.out (fun b hb => by simp at hb) _).set (p := ⟨_, 1, none⟩) zg.out (fun b hb => by simp at hb) _)
              clear hK K c0 f0 c1 f1 zN
              have N1 := Lib.hid (Bk.set2 N1.out (.string s) (.slice h.A M h.c))
              have L5 := Lib.hid (Lies.far2b L5.out HNE.out (.string s) (.slice h.A M h.c))
              (try simp only [Act.put, List.setIfInBounds_toArray, List.set_cons_zero, List.set_cons_succ])
              refine Tw_end (by kernel_rfl) (fun hh => ?_)
              obtain ⟨F11, _⟩ := hh
              clear HALL
              go_wp2_with fail
              go_meet
              exact ⟨_, h, rfl, rfl, HK5.out, L5.out, F11.more N1.out⟩
        · go_simp
          refine hK.out _ _ ?_ ?_
          · (try dsimp only)
            ((go_split_ands; refine HALL.out _ ?_; (first | assumption | (repeat (first | assumption | refine Fr.new ?_ _ | refine Fr.drew ?_ | (refine Fr.set ?_ (by first | exact Nat.le_refl _ | omega | (simp; done) | (simp; omega)) (by first | (simp; done) | (simp; omega)) _))); done)))
          clear hK K
          (try simp only [Act.put, List.setIfInBounds_toArray, List.set_cons_zero, List.set_cons_succ])
          refine Tw_abs ?_
          intro wA6 hA6
          (first | (have N1 := Lib.hid (Bk.of_alloc hA6)) | (have N1 := Lib.hid (Bk.of_alloc_drew hA6)))
          have zg := Lib.hid (show w6.heap.size ≤ _ from hHeld.1.size)
          (first | (have HNE := Lib.hid (ne_new L5.out HN0.out)) | skip)
          (first | (have L2 := Lib.hid (Lies.alloc hA6 L2.out)) | (have L2 := Lib.hid (Lies.alloc_drew hA6 L2.out)) | skip)
          (first | (have L3 := Lib.hid (Lies.alloc hA6 L3.out)) | (have L3 := Lib.hid (Lies.alloc_drew hA6 L3.out)) | skip)
          (first | (have L5 := Lib.hid (Lies.alloc hA6 L5.out)) | (have L5 := Lib.hid (Lies.alloc_drew hA6 L5.out)) | skip)
          clear hA6
          refine Tw_all (rs := [4]) (by kernel_rfl) (by simp) (by decide) (fun hHeld => ?_)
          refine AllT.consL rfl (fun K hK => ?_) (AllT.nil)
          · go_simp
            (go_at_call 9; go_split_ands; (with_reducible refine (HJ.out _ _ _ _ _ L2.out L3.out).mono ?_); rintro e w7 ⟨h, rfl, hok5, hl5, hba5, hb7⟩; (first | (have HNE := Lib.hid (ne_old hba5 N1.out)) | skip); have L5 := Lib.hid hl5; have HK5 := Lib.hid hok5; have F4 := Fr.call (by assumption) hb7; (first | (have N1 := Lib.hid (Bk.call N1.out hb7)) | skip); clear hb7 hl5 hba5 hok5)
            refine hK.out _ _ ?_ ?_
            · (try dsimp only)
              ((go_split_ands; refine HALL.out _ ?_; (first | assumption | (repeat (first | assumption | refine Fr.new ?_ _ | refine Fr.drew ?_ | (refine Fr.set ?_ (by first | exact Nat.le_refl _ | omega | (simp; done) | (simp; omega)) (by first | (simp; done) | (simp; omega)) _))); done)))
            clear hK K
            (try simp only [Act.put, List.setIfInBounds_toArray, List.set_cons_zero, List.set_cons_succ])
            refine Tw_takeL (i := 5) (v := ?tv6) rfl (by kernel_rfl) (by decide) (by kernel_rfl) (by kernel_rfl) (fun _ _ _ h => h) (by rfl) ?ty6 ?tn6
            case ty6 => (intro w hSw; (try dsimp only at hSw); go_simp <;> with_reducible rfl)
            (try simp only [Act.put, List.setIfInBounds_toArray, List.set_cons_zero, List.set_cons_succ])
            refine Tw_takeL (i := 6) (v := ?tv7) rfl (by kernel_rfl) (by decide) (by kernel_rfl) (by kernel_rfl) (fun _ _ _ h => h) (by rfl) ?ty7 ?tn7
            case ty7 => (intro w hSw; (try dsimp only at hSw); go_simp <;> with_reducible rfl)
            (try simp only [Act.put, List.setIfInBounds_toArray, List.set_cons_zero, List.set_cons_succ])
            refine Tw_takeL (i := 7) (v := ?tv8) rfl (by kernel_rfl) (by decide) (by kernel_rfl) (by kernel_rfl) (fun _ _ _ h => h) (by rfl) ?ty8 ?tn8
            case ty8 => (intro w hSw; (try dsimp only at hSw); go_simp <;> with_reducible rfl)
            (try simp only [Act.put, List.setIfInBounds_toArray, List.set_cons_zero, List.set_cons_succ])
            refine Tw_all (rs := [9]) (by kernel_rfl) (by simp) (by decide) (fun hHeld => ?_)
            refine AllT.consL rfl (fun K hK => ?_) (AllT.nil)
            · have c0 := N1.out.cell 0
              have c1 := N1.out.cell 1
              have f0 := N1.out.frozen 0
              have f1 := N1.out.frozen 1
              have zN := N1.out.lt
              go_simp
              refine hK.out _ _ ?_ ?_
              · exact HALL.out _ ((hHeld.1.set (p := ⟨_, 0, none⟩) zg.out (fun b hb => by simp at hb) _).set (p := ⟨_, 1, none⟩) zg.out (fun b hb => by simp at hb) _)
              clear hK K c0 f0 c1 f1 zN
              have N1 := Lib.hid (Bk.set2 N1.out (.string s) (.slice h.A M h.c))
              have L5 := Lib.hid (Lies.far2b L5.out HNE.out (.string s) (.slice h.A M h.c))
              (try simp only [Act.put, List.setIfInBounds_toArray, List.set_cons_zero, List.set_cons_succ])
              refine Tw_end (by kernel_rfl) (fun hh => ?_)
              obtain ⟨F11, _⟩ := hh
              clear HALL
              go_wp2_with fail
              go_meet
              exact ⟨_, h, rfl, rfl, HK5.out, L5.out, F11.more N1.out⟩
      · go_simp
        refine hK.out _ _ ?_ ?_
        · (try dsimp only)
          ((go_split_ands; refine HALL.out _ ?_; (first | assumption | (repeat (first | assumption | refine Fr.new ?_ _ | refine Fr.drew ?_ | (refine Fr.set ?_ (by first | exact Nat.le_refl _ | omega | (simp; done) | (simp; omega)) (by first | (simp; done) | (simp; omega)) _))); done)))
        clear hK K
        (try simp only [Act.put, List.setIfInBounds_toArray, List.set_cons_zero, List.set_cons_succ])
        refine Tw_abs ?_
        intro wA9 hA9
        (first | (have N1 := Lib.hid (Bk.of_alloc hA9)) | (have N1 := Lib.hid (Bk.of_alloc_drew hA9)))
        have zg := Lib.hid (show w6.heap.size ≤ _ from hHeld.1.size)
        (first | (have HNE := Lib.hid (ne_new L5.out HN0.out)) | skip)
        (first | (have L2 := Lib.hid (Lies.alloc hA9 L2.out)) | (have L2 := Lib.hid (Lies.alloc_drew hA9 L2.out)) | skip)
        (first | (have L3 := Lib.hid (Lies.alloc hA9 L3.out)) | (have L3 := Lib.hid (Lies.alloc_drew hA9 L3.out)) | skip)
        (first | (have L5 := Lib.hid (Lies.alloc hA9 L5.out)) | (have L5 := Lib.hid (Lies.alloc_drew hA9 L5.out)) | skip)
        clear hA9
        refine Tw_all (rs := [3]) (by kernel_rfl) (by simp) (by decide) (fun hHeld => ?_)
        refine AllT.consL rfl (fun K hK => ?_) (AllT.nil)
        · go_simp
          (go_at_call 10; go_split_ands; (with_reducible refine (Copy_any s2 ps2 ⟨some a2, c2⟩ (by omega) HG2.out _ (Fr.lies HAC2.out (by assumption))).mono ?_); rintro e w7 ⟨g3, rfl, hl3, hk3, hb7⟩; have L3 := Lib.hid hl3; have F4 := Fr.call (by assumption) hb7; (first | (have N1 := Lib.hid (Bk.call N1.out hb7)) | skip); (first | (have L2 := Lib.hid (Lies.call L2.out hb7)) | skip); clear hb7 hl3 hk3)
          refine hK.out _ _ ?_ ?_
          · (try dsimp only)
            ((go_split_ands; refine HALL.out _ ?_; (first | assumption | (repeat (first | assumption | refine Fr.new ?_ _ | refine Fr.drew ?_ | (refine Fr.set ?_ (by first | exact Nat.le_refl _ | omega | (simp; done) | (simp; omega)) (by first | (simp; done) | (simp; omega)) _))); done)))
          clear hK K
          (try simp only [Act.put, List.setIfInBounds_toArray, List.set_cons_zero, List.set_cons_succ])
          refine Tw_all (rs := [4]) (by kernel_rfl) (by simp) (by decide) (fun hHeld => ?_)
          refine AllT.consL rfl (fun K hK => ?_) (AllT.nil)
          · go_simp
            (go_at_call 9; go_split_ands; (with_reducible refine (HJ.out _ _ _ _ _ L2.out L3.out).mono ?_); rintro e w7 ⟨h, rfl, hok5, hl5, hba5, hb7⟩; (first | (have HNE := Lib.hid (ne_old hba5 N1.out)) | skip); have L5 := Lib.hid hl5; have HK5 := Lib.hid hok5; have F4 := Fr.call (by assumption) hb7; (first | (have N1 := Lib.hid (Bk.call N1.out hb7)) | skip); clear hb7 hl5 hba5 hok5)
            refine hK.out _ _ ?_ ?_
            · (try dsimp only)
              ((go_split_ands; refine HALL.out _ ?_; (first | assumption | (repeat (first | assumption | refine Fr.new ?_ _ | refine Fr.drew ?_ | (refine Fr.set ?_ (by first | exact Nat.le_refl _ | omega | (simp; done) | (simp; omega)) (by first | (simp; done) | (simp; omega)) _))); done)))
            clear hK K
            (try simp only [Act.put, List.setIfInBounds_toArray, List.set_cons_zero, List.set_cons_succ])
            refine Tw_takeL (i := 5) (v := ?tv9) rfl (by kernel_rfl) (by decide) (by kernel_rfl) (by kernel_rfl) (fun _ _ _ h => h) (by rfl) ?ty9 ?tn9
            case ty9 => (intro w hSw; (try dsimp only at hSw); go_simp <;> with_reducible rfl)
            (try simp only [Act.put, List.setIfInBounds_toArray, List.set_cons_zero, List.set_cons_succ])
            refine Tw_takeL (i := 6) (v := ?tv10) rfl (by kernel_rfl) (by decide) (by kernel_rfl) (by kernel_rfl) (fun _ _ _ h => h) (by rfl) ?ty10 ?tn10
            case ty10 => (intro w hSw; (try dsimp only at hSw); go_simp <;> with_reducible rfl)
            (try simp only [Act.put, List.setIfInBounds_toArray, List.set_cons_zero, List.set_cons_succ])
            refine Tw_takeL (i := 7) (v := ?tv11) rfl (by kernel_rfl) (by decide) (by kernel_rfl) (by kernel_rfl) (fun _ _ _ h => h) (by rfl) ?ty11 ?tn11
            case ty11 => (intro w hSw; (try dsimp only at hSw); go_simp <;> with_reducible rfl)
            (try simp only [Act.put, List.setIfInBounds_toArray, List.set_cons_zero, List.set_cons_succ])
            refine Tw_all (rs := [9]) (by kernel_rfl) (by simp) (by decide) (fun hHeld => ?_)
            refine AllT.consL rfl (fun K hK => ?_) (AllT.nil)
            · have c0 := N1.out.cell 0
              have c1 := N1.out.cell 1
              have f0 := N1.out.frozen 0
              have f1 := N1.out.frozen 1
              have zN := N1.out.lt
              go_simp
              refine hK.out _ _ ?_ ?_
              · exact HALL.out _ ((hHeld.1.set (p := ⟨_, 0, none⟩) zg.out (fun b hb => by simp at hb) _).set (p := ⟨_, 1, none⟩) zg.out (fun b hb => by simp at hb) _)
              clear hK K c0 f0 c1 f1 zN
              have N1 := Lib.hid (Bk.set2 N1.out (.string s) (.slice h.A M h.c))
              have L5 := Lib.hid (Lies.far2b L5.out HNE.out (.string s) (.slice h.A M h.c))
              (try simp only [Act.put, List.setIfInBounds_toArray, List.set_cons_zero, List.set_cons_succ])
              refine Tw_end (by kernel_rfl) (fun hh => ?_)
              obtain ⟨F11, _⟩ := hh
              clear HALL
              go_wp2_with fail
              go_meet
              exact ⟨_, h, rfl, rfl, HK5.out, L5.out, F11.more N1.out⟩
    · go_simp
      refine hK.out _ _ ?_ ?_
      · (try dsimp only)
        ((go_split_ands; refine HALL.out _ ?_; (first | assumption | (repeat (first | assumption | refine Fr.new ?_ _ | refine Fr.drew ?_ | (refine Fr.set ?_ (by first | exact Nat.le_refl _ | omega | (simp; done) | (simp; omega)) (by first | (simp; done) | (simp; omega)) _))); done)))
      clear hK K
      (try simp only [Act.put, List.setIfInBounds_toArray, List.set_cons_zero, List.set_cons_succ])
      refine Tw_abs ?_
      intro wA13 hA13
      (first | (have N1 := Lib.hid (Bk.of_alloc hA13)) | (have N1 := Lib.hid (Bk.of_alloc_drew hA13)))
      have zg := Lib.hid (show w6.heap.size ≤ _ from hHeld.1.size)
      (first | (have HNE := Lib.hid (ne_new L5.out HN0.out)) | skip)
      (first | (have L2 := Lib.hid (Lies.alloc hA13 L2.out)) | (have L2 := Lib.hid (Lies.alloc_drew hA13 L2.out)) | skip)
      (first | (have L3 := Lib.hid (Lies.alloc hA13 L3.out)) | (have L3 := Lib.hid (Lies.alloc_drew hA13 L3.out)) | skip)
      (first | (have L5 := Lib.hid (Lies.alloc hA13 L5.out)) | (have L5 := Lib.hid (Lies.alloc_drew hA13 L5.out)) | skip)
      clear hA13
      refine Tw_all (rs := [1]) (by kernel_rfl) (by simp) (by decide) (fun hHeld => ?_)
      refine AllT.consL rfl (fun K hK => ?_) (AllT.nil)
      · go_simp
        (go_at_call 10; go_split_ands; (with_reducible refine (Copy_any s ps ⟨(some a), c⟩ (by omega) HG.out _ (Fr.lies HAC.out (by assumption))).mono ?_); rintro e w7 ⟨g2, rfl, hl2, hk2, hb7⟩; have L2 := Lib.hid hl2; have F4 := Fr.call (by assumption) hb7; (first | (have N1 := Lib.hid (Bk.call N1.out hb7)) | skip); (first | (have L3 := Lib.hid (Lies.call L3.out hb7)) | skip); clear hb7 hl2 hk2)
        refine hK.out _ _ ?_ ?_
        · (try dsimp only)
          ((go_split_ands; refine HALL.out _ ?_; (first | assumption | (repeat (first | assumption | refine Fr.new ?_ _ | refine Fr.drew ?_ | (refine Fr.set ?_ (by first | exact Nat.le_refl _ | omega | (simp; done) | (simp; omega)) (by first | (simp; done) | (simp; omega)) _))); done)))
        clear hK K
        (try simp only [Act.put, List.setIfInBounds_toArray, List.set_cons_zero, List.set_cons_succ])
        refine Tw_all (rs := [3]) (by kernel_rfl) (by simp) (by decide) (fun hHeld => ?_)
        refine AllT.consL rfl (fun K hK => ?_) (AllT.nil)
        · go_simp
          (go_at_call 10; go_split_ands; (with_reducible refine (Copy_any s2 ps2 ⟨some a2, c2⟩ (by omega) HG2.out _ (Fr.lies HAC2.out (by assumption))).mono ?_); rintro e w7 ⟨g3, rfl, hl3, hk3, hb7⟩; have L3 := Lib.hid hl3; have F4 := Fr.call (by assumption) hb7; (first | (have N1 := Lib.hid (Bk.call N1.out hb7)) | skip); (first | (have L2 := Lib.hid (Lies.call L2.out hb7)) | skip); clear hb7 hl3 hk3)
          refine hK.out _ _ ?_ ?_
          · (try dsimp only)
            ((go_split_ands; refine HALL.out _ ?_; (first | assumption | (repeat (first | assumption | refine Fr.new ?_ _ | refine Fr.drew ?_ | (refine Fr.set ?_ (by first | exact Nat.le_refl _ | omega | (simp; done) | (simp; omega)) (by first | (simp; done) | (simp; omega)) _))); done)))
          clear hK K
          (try simp only [Act.put, List.setIfInBounds_toArray, List.set_cons_zero, List.set_cons_succ])
          refine Tw_all (rs := [4]) (by kernel_rfl) (by simp) (by decide) (fun hHeld => ?_)
          refine AllT.consL rfl (fun K hK => ?_) (AllT.nil)
          · go_simp
            (go_at_call 9; go_split_ands; (with_reducible refine (HJ.out _ _ _ _ _ L2.out L3.out).mono ?_); rintro e w7 ⟨h, rfl, hok5, hl5, hba5, hb7⟩; (first | (have HNE := Lib.hid (ne_old hba5 N1.out)) | skip); have L5 := Lib.hid hl5; have HK5 := Lib.hid hok5; have F4 := Fr.call (by assumption) hb7; (first | (have N1 := Lib.hid (Bk.call N1.out hb7)) | skip); clear hb7 hl5 hba5 hok5)
            refine hK.out _ _ ?_ ?_
            · (try dsimp only)
              ((go_split_ands; refine HALL.out _ ?_; (first | assumption | (repeat (first | assumption | refine Fr.new ?_ _ | refine Fr.drew ?_ | (refine Fr.set ?_ (by first | exact Nat.le_refl _ | omega | (simp; done) | (simp; omega)) (by first | (simp; done) | (simp; omega)) _))); done)))
            clear hK K
            (try simp only [Act.put, List.setIfInBounds_toArray, List.set_cons_zero, List.set_cons_succ])
            refine Tw_takeL (i := 5) (v := ?tv12) rfl (by kernel_rfl) (by decide) (by kernel_rfl) (by kernel_rfl) (fun _ _ _ h => h) (by rfl) ?ty12 ?tn12
            case ty12 => (intro w hSw; (try dsimp only at hSw); go_simp <;> with_reducible rfl)
            (try simp only [Act.put, List.setIfInBounds_toArray, List.set_cons_zero, List.set_cons_succ])
            refine Tw_takeL (i := 6) (v := ?tv13) rfl (by kernel_rfl) (by decide) (by kernel_rfl) (by kernel_rfl) (fun _ _ _ h => h) (by rfl) ?ty13 ?tn13
            case ty13 => (intro w hSw; (try dsimp only at hSw); go_simp <;> with_reducible rfl)
            (try simp only [Act.put, List.setIfInBounds_toArray, List.set_cons_zero, List.set_cons_succ])
            refine Tw_takeL (i := 7) (v := ?tv14) rfl (by kernel_rfl) (by decide) (by kernel_rfl) (by kernel_rfl) (fun _ _ _ h => h) (by rfl) ?ty14 ?tn14
            case ty14 => (intro w hSw; (try dsimp only at hSw); go_simp <;> with_reducible rfl)
            (try simp only [Act.put, List.setIfInBounds_toArray, List.set_cons_zero, List.set_cons_succ])
            refine Tw_all (rs := [9]) (by kernel_rfl) (by simp) (by decide) (fun hHeld => ?_)
            refine AllT.consL rfl (fun K hK => ?_) (AllT.nil)
            · have c0 := N1.out.cell 0
              have c1 := N1.out.cell 1
              have f0 := N1.out.frozen 0
              have f1 := N1.out.frozen 1
              have zN := N1.out.lt
              go_simp
              refine hK.out _ _ ?_ ?_
              · exact HALL.out _ ((hHeld.1.set (p := ⟨_, 0, none⟩) zg.out (fun b hb => by simp at hb) _).set (p := ⟨_, 1, none⟩) zg.out (fun b hb => by simp at hb) _)
              clear hK K c0 f0 c1 f1 zN
              have N1 := Lib.hid (Bk.set2 N1.out (.string s) (.slice h.A M h.c))
              have L5 := Lib.hid (Lies.far2b L5.out HNE.out (.string s) (.slice h.A M h.c))
              (try simp only [Act.put, List.setIfInBounds_toArray, List.set_cons_zero, List.set_cons_succ])
              refine Tw_end (by kernel_rfl) (fun hh => ?_)
              obtain ⟨F11, _⟩ := hh
              clear HALL
              go_wp2_with fail
              go_meet
              exact ⟨_, h, rfl, rfl, HK5.out, L5.out, F11.more N1.out⟩
  case rest =>
    obtain ⟨wb1, rfl⟩ : ∃ W, W = wc := ⟨_, rfl⟩
    obtain ⟨gj, h, rfl, rfl, hkj, hyj, hx⟩ := hcut
    have FB1 := Lib.hid (F6.out.call hx.bl)
    have HX1 := Lib.hid hx
    clear hx F6
    obtain ⟨k0_0, k0_1, kf0, kg0⟩ := (FB1.out.get 2 rfl).two
    have kz0 := (FB1.out.get 2 rfl).lt
    obtain ⟨k1_0, k1_1, kf1, kg1⟩ := (FB1.out.get 1 rfl).two
    have kz1 := (FB1.out.get 1 rfl).lt
    have k2_0 := (FB1.out.get 0 rfl).cell 0
    have k2_1 := (FB1.out.get 0 rfl).cell 1
    have k2_2 := (FB1.out.get 0 rfl).cell 2
    have k2_3 := (FB1.out.get 0 rfl).cell 3
    have k2_4 := (FB1.out.get 0 rfl).cell 4
    have k2_5 := (FB1.out.get 0 rfl).cell 5
    have k2_6 := (FB1.out.get 0 rfl).cell 6
    have kz2 := (FB1.out.get 0 rfl).lt
    have YJ := Lib.hid hyj
    have HGJ := Lib.hid hkj
    clear hyj hkj
    obtain ⟨Aj, cj⟩ := h
    obtain ⟨aj, ej⟩ := ps_some YJ.out HOKJ.out.n0
    try simp only at ej
    subst ej
    have FT := Lib.hid (FB1.out.more HX1.out.top)
    clear FB1 HX1 k0_0 k0_1 kf0 kg0 kz0 k1_0 k1_1 kf1 kg1 kz1 k2_0 k2_1 k2_2 k2_3 k2_4 k2_5 k2_6 kz2
    obtain ⟨k0_0, k0_1, kf0, kg0⟩ := (FT.out.get 3 rfl).two
    have kz0 := (FT.out.get 3 rfl).lt
    obtain ⟨k1_0, k1_1, kf1, kg1⟩ := (FT.out.get 2 rfl).two
    have kz1 := (FT.out.get 2 rfl).lt
    have k2_0 := (FT.out.get 1 rfl).cell 0
    have k2_1 := (FT.out.get 1 rfl).cell 1
    have k2_2 := (FT.out.get 1 rfl).cell 2
    have k2_3 := (FT.out.get 1 rfl).cell 3
    have k2_4 := (FT.out.get 1 rfl).cell 4
    have k2_5 := (FT.out.get 1 rfl).cell 5
    have k2_6 := (FT.out.get 1 rfl).cell 6
    have kz2 := (FT.out.get 1 rfl).lt
    obtain ⟨k3_0, k3_1, kf3, kg3⟩ := (FT.out.get 0 rfl).two
    have kz3 := (FT.out.get 0 rfl).lt
    go_wp2_with fail
    refine (HTJ.out _ _ _ YJ.out).mono ?_
    rintro e w21 ⟨rfl, hb21⟩
    clear k0_0 k0_1 kf0 kg0 kz0 k1_0 k1_1 kf1 kg1 kz1 k2_0 k2_1 k2_2 k2_3 k2_4 k2_5 k2_6 kz2 k3_0 k3_1 kf3 kg3 kz3
    have G21 := Fr.call FT.out hb21
    have YJ := Lib.hid (Lies.call YJ.out hb21)
    obtain ⟨k0_0, k0_1, kf0, kg0⟩ := (G21.get 3 rfl).two
    have kz0 := (G21.get 3 rfl).lt
    obtain ⟨k1_0, k1_1, kf1, kg1⟩ := (G21.get 2 rfl).two
    have kz1 := (G21.get 2 rfl).lt
    have k2_0 := (G21.get 1 rfl).cell 0
    have k2_1 := (G21.get 1 rfl).cell 1
    have k2_2 := (G21.get 1 rfl).cell 2
    have k2_3 := (G21.get 1 rfl).cell 3
    have k2_4 := (G21.get 1 rfl).cell 4
    have k2_5 := (G21.get 1 rfl).cell 5
    have k2_6 := (G21.get 1 rfl).cell 6
    have kz2 := (G21.get 1 rfl).lt
    obtain ⟨k3_0, k3_1, kf3, kg3⟩ := (G21.get 0 rfl).two
    have kz3 := (G21.get 0 rfl).lt
    have F21 : Hid (Fr w _ [(gj, 24, #[.string s, .slice (some aj) M cj]), (w.heap.size + 1 + 1, 31, #[.int .i64 b.brk, .int .i64 b.drag, .int .i64 b.drv, .int .i64 (p : Int), .int .i64 sq, .int .i64 (k : Int), .slice R NR cr]), (w.heap.size + 1, 24, #[.string s2, .slice (some a2) ps2.length c2]), (w.heap.size, 24, #[.string s, .slice (some a) ps.length c])]) := Lib.hid G21
    clear hb21 G21 FT
    have HCPJ : Hid (∀ W : World, Lies W W.heap.size (some aj) ((ps ++ ps2).flatMap pc) → Calls Try.prog 10 #[.agg #[.string s, .slice (some aj) M cj]] W fun e w' => ∃ g : Hd, e = .returned (.agg #[.string s, .slice g.A M g.c]) ∧ Lies w' w'.heap.size g.A ((ps ++ ps2).flatMap pc) ∧ HdOk g ∧ Below W.heap.size W w') := Lib.hid (fun W h => by have := Copy_any s (ps ++ ps2) ⟨some aj, cj⟩ (by rw [HML.out]; omega) HGJ.out W h; unfold CopiedB at this; rw [HML.out] at this; exact this)
    go_upto_region 9 with fail
    clear k0_0 k0_1 kf0 kg0 kz0 k1_0 k1_1 kf1 kg1 kz1 k2_0 k2_1 k2_2 k2_3 k2_4 k2_5 k2_6 kz2 k3_0 k3_1 kf3 kg3 kz3
    go_cut [10, 11] from 109 to 118 (fun r e W => (∃ g : Nat, r = .slice (some ⟨g, 0, none⟩) KB KB ∧ e = .int .i64 0 ∧ Lies W W.heap.size (some ⟨g, 0, none⟩) (ic (listF KB (crvV ps2 b.brk k)))) ∧ Fr w21 W [])
    case first =>
      have HALL : Hid (∀ W, Fr w21 W [] → Fr w21 W [] ∧ W.cell? ⟨w.heap.size, 0, none⟩ = some (.string s) ∧ W.cell? ⟨w.heap.size, 1, none⟩ = some (.slice (some a) ps.length c) ∧ W.cell? ⟨w.heap.size + 1, 0, none⟩ = some (.string s2) ∧ W.cell? ⟨w.heap.size + 1, 1, none⟩ = some (.slice (some a2) ps2.length c2) ∧ W.cell? ⟨w.heap.size + 1 + 1, 0, none⟩ = some (.int .i64 b.brk) ∧ W.cell? ⟨w.heap.size + 1 + 1, 1, none⟩ = some (.int .i64 b.drag) ∧ W.cell? ⟨w.heap.size + 1 + 1, 2, none⟩ = some (.int .i64 b.drv) ∧ W.cell? ⟨w.heap.size + 1 + 1, 3, none⟩ = some (.int .i64 (p : Int)) ∧ W.cell? ⟨w.heap.size + 1 + 1, 4, none⟩ = some (.int .i64 sq) ∧ W.cell? ⟨w.heap.size + 1 + 1, 5, none⟩ = some (.int .i64 (k : Int)) ∧ W.cell? ⟨w.heap.size + 1 + 1, 6, none⟩ = some (.slice R NR cr) ∧ W.cell? ⟨gj, 0, none⟩ = some (.string s) ∧ W.cell? ⟨gj, 1, none⟩ = some (.slice (some aj) M cj)) := Lib.hid (fun W hW => ⟨hW, ((F21.out.get 3 rfl).call hW.bl).cell 0, ((F21.out.get 3 rfl).call hW.bl).cell 1, ((F21.out.get 2 rfl).call hW.bl).cell 0, ((F21.out.get 2 rfl).call hW.bl).cell 1, ((F21.out.get 1 rfl).call hW.bl).cell 0, ((F21.out.get 1 rfl).call hW.bl).cell 1, ((F21.out.get 1 rfl).call hW.bl).cell 2, ((F21.out.get 1 rfl).call hW.bl).cell 3, ((F21.out.get 1 rfl).call hW.bl).cell 4, ((F21.out.get 1 rfl).call hW.bl).cell 5, ((F21.out.get 1 rfl).call hW.bl).cell 6, ((F21.out.get 0 rfl).call hW.bl).cell 0, ((F21.out.get 0 rfl).call hW.bl).cell 1⟩)
      have HAC := Lib.hid (Fr.lies HA.out F21.out)
      have F10 : Fr w21 _ [] := Fr.nil w21
      go_region_held3 (fun W => Fr w21 W [] ∧ W.cell? ⟨w.heap.size, 0, none⟩ = some (.string s) ∧ W.cell? ⟨w.heap.size, 1, none⟩ = some (.slice (some a) ps.length c) ∧ W.cell? ⟨w.heap.size + 1, 0, none⟩ = some (.string s2) ∧ W.cell? ⟨w.heap.size + 1, 1, none⟩ = some (.slice (some a2) ps2.length c2) ∧ W.cell? ⟨w.heap.size + 1 + 1, 0, none⟩ = some (.int .i64 b.brk) ∧ W.cell? ⟨w.heap.size + 1 + 1, 1, none⟩ = some (.int .i64 b.drag) ∧ W.cell? ⟨w.heap.size + 1 + 1, 2, none⟩ = some (.int .i64 b.drv) ∧ W.cell? ⟨w.heap.size + 1 + 1, 3, none⟩ = some (.int .i64 (p : Int)) ∧ W.cell? ⟨w.heap.size + 1 + 1, 4, none⟩ = some (.int .i64 sq) ∧ W.cell? ⟨w.heap.size + 1 + 1, 5, none⟩ = some (.int .i64 (k : Int)) ∧ W.cell? ⟨w.heap.size + 1 + 1, 6, none⟩ = some (.slice R NR cr) ∧ W.cell? ⟨gj, 0, none⟩ = some (.string s) ∧ W.cell? ⟨gj, 1, none⟩ = some (.slice (some aj) M cj))
          ((go_split_ands; refine HALL.out _ ?_; (first | assumption | (repeat (first | assumption | refine Fr.new ?_ _ | refine Fr.drew ?_ | (refine Fr.set ?_ (by first | exact Nat.le_refl _ | omega | (simp; done) | (simp; omega)) (by first | (simp; done) | (simp; omega)) _))); done)))
          ((first
            | (go_at_call 10; go_split_ands; (with_reducible refine (Copy_any s2 ps2 ⟨some a2, c2⟩ (by omega) HG2.out _ (Fr.lies (Fr.lies HA2.out F21.out) (by assumption))).mono ?_); rintro e w1 ⟨g2, rfl, hl2, hk2, hb1⟩; have HL2 := Lib.hid hl2; have F4 := Fr.call (by assumption) hb1; clear hb1 hl2 hk2)
            | (go_at_call 12; go_split_ands; (with_reducible refine (HCB.out _ _ _ HL2.out).mono ?_); rintro e w1 ⟨g3, rfl, hl3, hb1⟩; have HL3 := Lib.hid hl3; have F5 := Fr.call (by assumption) hb1; clear hb1 hl3)
            | fail "arm"))
      all_goals
        go_split_ands
        go_wp2_with fail
        go_meet
        exact ⟨⟨g3, rfl, rfl, HL3.out⟩, by assumption⟩
    case rest =>
      obtain ⟨wx1, rfl⟩ : ∃ W, W = wc := ⟨_, rfl⟩
      obtain ⟨⟨gc9, rfl, rfl, hy9⟩, hx⟩ := hcut
      have FC1 := Lib.hid (F21.out.call hx.bl)
      have YJ := Lib.hid (Lies.call YJ.out hx.bl)
      clear hx F21
      obtain ⟨k0_0, k0_1, kf0, kg0⟩ := (FC1.out.get 3 rfl).two
      have kz0 := (FC1.out.get 3 rfl).lt
      obtain ⟨k1_0, k1_1, kf1, kg1⟩ := (FC1.out.get 2 rfl).two
      have kz1 := (FC1.out.get 2 rfl).lt
      have k2_0 := (FC1.out.get 1 rfl).cell 0
      have k2_1 := (FC1.out.get 1 rfl).cell 1
      have k2_2 := (FC1.out.get 1 rfl).cell 2
      have k2_3 := (FC1.out.get 1 rfl).cell 3
      have k2_4 := (FC1.out.get 1 rfl).cell 4
      have k2_5 := (FC1.out.get 1 rfl).cell 5
      have k2_6 := (FC1.out.get 1 rfl).cell 6
      have kz2 := (FC1.out.get 1 rfl).lt
      obtain ⟨k3_0, k3_1, kf3, kg3⟩ := (FC1.out.get 0 rfl).two
      have kz3 := (FC1.out.get 0 rfl).lt
      have Y9 := Lib.hid hy9
      clear hy9
      go_upto_region 10 with fail
      clear k0_0 k0_1 kf0 kg0 kz0 k1_0 k1_1 kf1 kg1 kz1 k2_0 k2_1 k2_2 k2_3 k2_4 k2_5 k2_6 kz2 k3_0 k3_1 kf3 kg3 kz3
      go_cut [12, 13] from 119 to 130 (fun r e W => (∃ g : Nat, r = .slice (some ⟨g, 0, none⟩) KJ KJ ∧ e = .int .i64 0 ∧ Lies W W.heap.size (some ⟨g, 0, none⟩) (ic (listF KJ (crvV (ps ++ ps2) b.brk NK)))) ∧ Fr wx1 W [])
      case first =>
        have HALL : Hid (∀ W, Fr wx1 W [] → Fr wx1 W [] ∧ W.cell? ⟨w.heap.size, 0, none⟩ = some (.string s) ∧ W.cell? ⟨w.heap.size, 1, none⟩ = some (.slice (some a) ps.length c) ∧ W.cell? ⟨w.heap.size + 1, 0, none⟩ = some (.string s2) ∧ W.cell? ⟨w.heap.size + 1, 1, none⟩ = some (.slice (some a2) ps2.length c2) ∧ W.cell? ⟨w.heap.size + 1 + 1, 0, none⟩ = some (.int .i64 b.brk) ∧ W.cell? ⟨w.heap.size + 1 + 1, 1, none⟩ = some (.int .i64 b.drag) ∧ W.cell? ⟨w.heap.size + 1 + 1, 2, none⟩ = some (.int .i64 b.drv) ∧ W.cell? ⟨w.heap.size + 1 + 1, 3, none⟩ = some (.int .i64 (p : Int)) ∧ W.cell? ⟨w.heap.size + 1 + 1, 4, none⟩ = some (.int .i64 sq) ∧ W.cell? ⟨w.heap.size + 1 + 1, 5, none⟩ = some (.int .i64 (k : Int)) ∧ W.cell? ⟨w.heap.size + 1 + 1, 6, none⟩ = some (.slice R NR cr) ∧ W.cell? ⟨gj, 0, none⟩ = some (.string s) ∧ W.cell? ⟨gj, 1, none⟩ = some (.slice (some aj) M cj)) := Lib.hid (fun W hW => ⟨hW, ((FC1.out.get 3 rfl).call hW.bl).cell 0, ((FC1.out.get 3 rfl).call hW.bl).cell 1, ((FC1.out.get 2 rfl).call hW.bl).cell 0, ((FC1.out.get 2 rfl).call hW.bl).cell 1, ((FC1.out.get 1 rfl).call hW.bl).cell 0, ((FC1.out.get 1 rfl).call hW.bl).cell 1, ((FC1.out.get 1 rfl).call hW.bl).cell 2, ((FC1.out.get 1 rfl).call hW.bl).cell 3, ((FC1.out.get 1 rfl).call hW.bl).cell 4, ((FC1.out.get 1 rfl).call hW.bl).cell 5, ((FC1.out.get 1 rfl).call hW.bl).cell 6, ((FC1.out.get 0 rfl).call hW.bl).cell 0, ((FC1.out.get 0 rfl).call hW.bl).cell 1⟩)
        have HAC := Lib.hid (Fr.lies HA.out FC1.out)
        have F10 : Fr wx1 _ [] := Fr.nil wx1
        go_region_held3 (fun W => Fr wx1 W [] ∧ W.cell? ⟨w.heap.size, 0, none⟩ = some (.string s) ∧ W.cell? ⟨w.heap.size, 1, none⟩ = some (.slice (some a) ps.length c) ∧ W.cell? ⟨w.heap.size + 1, 0, none⟩ = some (.string s2) ∧ W.cell? ⟨w.heap.size + 1, 1, none⟩ = some (.slice (some a2) ps2.length c2) ∧ W.cell? ⟨w.heap.size + 1 + 1, 0, none⟩ = some (.int .i64 b.brk) ∧ W.cell? ⟨w.heap.size + 1 + 1, 1, none⟩ = some (.int .i64 b.drag) ∧ W.cell? ⟨w.heap.size + 1 + 1, 2, none⟩ = some (.int .i64 b.drv) ∧ W.cell? ⟨w.heap.size + 1 + 1, 3, none⟩ = some (.int .i64 (p : Int)) ∧ W.cell? ⟨w.heap.size + 1 + 1, 4, none⟩ = some (.int .i64 sq) ∧ W.cell? ⟨w.heap.size + 1 + 1, 5, none⟩ = some (.int .i64 (k : Int)) ∧ W.cell? ⟨w.heap.size + 1 + 1, 6, none⟩ = some (.slice R NR cr) ∧ W.cell? ⟨gj, 0, none⟩ = some (.string s) ∧ W.cell? ⟨gj, 1, none⟩ = some (.slice (some aj) M cj))
            ((go_split_ands; refine HALL.out _ ?_; (first | assumption | (repeat (first | assumption | refine Fr.new ?_ _ | refine Fr.drew ?_ | (refine Fr.set ?_ (by first | exact Nat.le_refl _ | omega | (simp; done) | (simp; omega)) (by first | (simp; done) | (simp; omega)) _))); done)))
            ((first
              | (go_at_call 10; go_split_ands; (with_reducible refine (HCPJ.out _ (Fr.lies YJ.out (by assumption))).mono ?_); rintro e w1 ⟨g2, rfl, hl2, hk2, hb1⟩; have HL2 := Lib.hid hl2; have F4 := Fr.call (by assumption) hb1; clear hb1 hl2 hk2)
              | (go_at_call 12; go_split_ands; (with_reducible refine (HCJ.out _ _ _ HL2.out).mono ?_); rintro e w1 ⟨g3, rfl, hl3, hb1⟩; have HL3 := Lib.hid hl3; have F5 := Fr.call (by assumption) hb1; clear hb1 hl3)
              | fail "arm"))
        all_goals
          go_split_ands
          go_wp2_with fail
          go_meet
          exact ⟨⟨g3, rfl, rfl, HL3.out⟩, by assumption⟩
      case rest =>
        obtain ⟨wx2, rfl⟩ : ∃ W, W = wc := ⟨_, rfl⟩
        obtain ⟨⟨gc10, rfl, rfl, hy10⟩, hx⟩ := hcut
        have FC2 := Lib.hid (FC1.out.call hx.bl)
        have YJ := Lib.hid (Lies.call YJ.out hx.bl)
        have Y9 := Lib.hid (Lies.call Y9.out hx.bl)
        clear hx FC1
        obtain ⟨k0_0, k0_1, kf0, kg0⟩ := (FC2.out.get 3 rfl).two
        have kz0 := (FC2.out.get 3 rfl).lt
        obtain ⟨k1_0, k1_1, kf1, kg1⟩ := (FC2.out.get 2 rfl).two
        have kz1 := (FC2.out.get 2 rfl).lt
        have k2_0 := (FC2.out.get 1 rfl).cell 0
        have k2_1 := (FC2.out.get 1 rfl).cell 1
        have k2_2 := (FC2.out.get 1 rfl).cell 2
        have k2_3 := (FC2.out.get 1 rfl).cell 3
        have k2_4 := (FC2.out.get 1 rfl).cell 4
        have k2_5 := (FC2.out.get 1 rfl).cell 5
        have k2_6 := (FC2.out.get 1 rfl).cell 6
        have kz2 := (FC2.out.get 1 rfl).lt
        obtain ⟨k3_0, k3_1, kf3, kg3⟩ := (FC2.out.get 0 rfl).two
        have kz3 := (FC2.out.get 0 rfl).lt
        have Y10 := Lib.hid hy10
        clear hy10
        have HI11 : Hid (∀ W : World, Lies W W.heap.size (some ⟨gc9, 0, none⟩) (ic (listF KB (crvV ps2 b.brk k))) → Lies W W.heap.size (some ⟨gc10, 0, none⟩) (ic (listF KJ (crvV (ps ++ ps2) b.brk NK))) → Calls Try.prog 13 #[.slice (some ⟨gc9, 1, none⟩) (KB - 1) (KB - 1), .slice (some ⟨gc10, N1, none⟩) (KJ - N1) (KJ - N1)] W fun e w' => e = .returned (.bool true) ∧ Below W.heap.size W w') := Lib.hid (fun W h1 h2 => by
          obtain ⟨e1, e2, _, _⟩ := HK1.out
          rw [e1, e2]
          have h3 := Lies.drop h1 1
          have h4 := Lies.drop h2 N1
          rw [HCD1.out] at h3
          rw [HCD2.out, HCE.out] at h4
          have e9 : ∀ (g n : Nat), n ≠ 0 → Addr.add ⟨g, 0, none⟩ n = ⟨g, n, none⟩ := fun g n h => by simp [Addr.add, h]
          rw [e9 _ _ (by omega)] at h3
          rw [e9 _ _ (by have := HN1.out; omega)] at h4
          exact Ints_listF (k + 1) _ (by omega) _ _ _ _ W h3 h4)
        have q7 : (KB = 1) = False := eq_false (by have := HK1.out; omega)
        have q8 : (KJ = N1) = False := eq_false (by have := HK1.out; omega)
        have q1 : ¬ (KB : Int) < 1 := by have := HK1.out; omega
        have q2 : ¬ (KJ : Int) < (N1 : Int) := by have := HK1.out; omega
        have q3 : (1 : Int) ≤ (KB : Int) := by omega
        have q4 : (N1 : Int) ≤ (KJ : Int) := by omega
        have q5 : 1 ≤ KB := by omega
        have q6 : N1 ≤ KJ := by omega
        go_upto_region 11 with fail
        clear k0_0 k0_1 kf0 kg0 kz0 k1_0 k1_1 kf1 kg1 kz1 k2_0 k2_1 k2_2 k2_3 k2_4 k2_5 k2_6 kz2 k3_0 k3_1 kf3 kg3 kz3
        go_cut [164] from 131 to 164 (fun v W => v = .bool false ∧ Fr wx2 W [])
        case first =>
          have HALL : Hid (∀ W, Fr wx2 W [] → Fr wx2 W [] ∧ W.cell? ⟨w.heap.size + 1 + 1, 5, none⟩ = some (.int .i64 (k : Int))) := Lib.hid (fun W hW => ⟨hW, ((FC2.out.get 1 rfl).call hW.bl).cell 5⟩)
          have F10 : Fr wx2 _ [] := Fr.nil wx2
          go_region_held3 (fun W => Fr wx2 W [] ∧ W.cell? ⟨w.heap.size + 1 + 1, 5, none⟩ = some (.int .i64 (k : Int)))
              ((go_split_ands; refine HALL.out _ ?_; (first | assumption | (repeat (first | assumption | refine Fr.new ?_ _ | refine Fr.drew ?_ | (refine Fr.set ?_ (by first | exact Nat.le_refl _ | omega | (simp; done) | (simp; omega)) (by first | (simp; done) | (simp; omega)) _))); done)))
              ((first
                | (go_at_call 13; go_split_ands; (skip); (refine (HI11.out _ (Fr.lies Y9.out (by assumption)) (Fr.lies Y10.out (by assumption))).mono ?_); rintro e w1 ⟨rfl, hb1⟩; have F4 := Fr.call (by assumption) hb1; clear hb1)
                | fail "arm"))
          all_goals
            go_split_ands
            go_wp2_with fail
            go_meet
            exact ⟨rfl, by assumption⟩
        case rest =>
          obtain ⟨wx3, rfl⟩ : ∃ W, W = wc := ⟨_, rfl⟩
          obtain ⟨rfl, hx⟩ := hcut
          have FC3 := Lib.hid (FC2.out.call hx.bl)
          have YJ := Lib.hid (Lies.call YJ.out hx.bl)
          clear hx FC2 Y9 Y10 HI11
          obtain ⟨k0_0, k0_1, kf0, kg0⟩ := (FC3.out.get 3 rfl).two
          have kz0 := (FC3.out.get 3 rfl).lt
          obtain ⟨k1_0, k1_1, kf1, kg1⟩ := (FC3.out.get 2 rfl).two
          have kz1 := (FC3.out.get 2 rfl).lt
          have k2_0 := (FC3.out.get 1 rfl).cell 0
          have k2_1 := (FC3.out.get 1 rfl).cell 1
          have k2_2 := (FC3.out.get 1 rfl).cell 2
          have k2_3 := (FC3.out.get 1 rfl).cell 3
          have k2_4 := (FC3.out.get 1 rfl).cell 4
          have k2_5 := (FC3.out.get 1 rfl).cell 5
          have k2_6 := (FC3.out.get 1 rfl).cell 6
          have kz2 := (FC3.out.get 1 rfl).lt
          obtain ⟨k3_0, k3_1, kf3, kg3⟩ := (FC3.out.get 0 rfl).two
          have kz3 := (FC3.out.get 0 rfl).lt
          go_upto_region 13 with fail
          clear k0_0 k0_1 kf0 kg0 kz0 k1_0 k1_1 kf1 kg1 kz1 k2_0 k2_1 k2_2 k2_3 k2_4 k2_5 k2_6 kz2 k3_0 k3_1 kf3 kg3 kz3
          go_cut [14, 15] from 165 to 176 (fun r e W => (∃ g : Hd, r = .slice g.A NQ g.c ∧ e = .int .i64 er ∧ Lies W W.heap.size g.A (ic (listF NQ (runV ps2 b k p sq)))) ∧ Fr wx3 W [])
          case first =>
            have HALL : Hid (∀ W, Fr wx3 W [] → Fr wx3 W [] ∧ W.cell? ⟨w.heap.size, 0, none⟩ = some (.string s) ∧ W.cell? ⟨w.heap.size, 1, none⟩ = some (.slice (some a) ps.length c) ∧ W.cell? ⟨w.heap.size + 1, 0, none⟩ = some (.string s2) ∧ W.cell? ⟨w.heap.size + 1, 1, none⟩ = some (.slice (some a2) ps2.length c2) ∧ W.cell? ⟨w.heap.size + 1 + 1, 0, none⟩ = some (.int .i64 b.brk) ∧ W.cell? ⟨w.heap.size + 1 + 1, 1, none⟩ = some (.int .i64 b.drag) ∧ W.cell? ⟨w.heap.size + 1 + 1, 2, none⟩ = some (.int .i64 b.drv) ∧ W.cell? ⟨w.heap.size + 1 + 1, 3, none⟩ = some (.int .i64 (p : Int)) ∧ W.cell? ⟨w.heap.size + 1 + 1, 4, none⟩ = some (.int .i64 sq) ∧ W.cell? ⟨w.heap.size + 1 + 1, 5, none⟩ = some (.int .i64 (k : Int)) ∧ W.cell? ⟨w.heap.size + 1 + 1, 6, none⟩ = some (.slice R NR cr) ∧ W.cell? ⟨gj, 0, none⟩ = some (.string s) ∧ W.cell? ⟨gj, 1, none⟩ = some (.slice (some aj) M cj)) := Lib.hid (fun W hW => ⟨hW, ((FC3.out.get 3 rfl).call hW.bl).cell 0, ((FC3.out.get 3 rfl).call hW.bl).cell 1, ((FC3.out.get 2 rfl).call hW.bl).cell 0, ((FC3.out.get 2 rfl).call hW.bl).cell 1, ((FC3.out.get 1 rfl).call hW.bl).cell 0, ((FC3.out.get 1 rfl).call hW.bl).cell 1, ((FC3.out.get 1 rfl).call hW.bl).cell 2, ((FC3.out.get 1 rfl).call hW.bl).cell 3, ((FC3.out.get 1 rfl).call hW.bl).cell 4, ((FC3.out.get 1 rfl).call hW.bl).cell 5, ((FC3.out.get 1 rfl).call hW.bl).cell 6, ((FC3.out.get 0 rfl).call hW.bl).cell 0, ((FC3.out.get 0 rfl).call hW.bl).cell 1⟩)
            have HAC := Lib.hid (Fr.lies HA.out FC3.out)
            have F10 : Fr wx3 _ [] := Fr.nil wx3
            go_region_held3 (fun W => Fr wx3 W [] ∧ W.cell? ⟨w.heap.size, 0, none⟩ = some (.string s) ∧ W.cell? ⟨w.heap.size, 1, none⟩ = some (.slice (some a) ps.length c) ∧ W.cell? ⟨w.heap.size + 1, 0, none⟩ = some (.string s2) ∧ W.cell? ⟨w.heap.size + 1, 1, none⟩ = some (.slice (some a2) ps2.length c2) ∧ W.cell? ⟨w.heap.size + 1 + 1, 0, none⟩ = some (.int .i64 b.brk) ∧ W.cell? ⟨w.heap.size + 1 + 1, 1, none⟩ = some (.int .i64 b.drag) ∧ W.cell? ⟨w.heap.size + 1 + 1, 2, none⟩ = some (.int .i64 b.drv) ∧ W.cell? ⟨w.heap.size + 1 + 1, 3, none⟩ = some (.int .i64 (p : Int)) ∧ W.cell? ⟨w.heap.size + 1 + 1, 4, none⟩ = some (.int .i64 sq) ∧ W.cell? ⟨w.heap.size + 1 + 1, 5, none⟩ = some (.int .i64 (k : Int)) ∧ W.cell? ⟨w.heap.size + 1 + 1, 6, none⟩ = some (.slice R NR cr) ∧ W.cell? ⟨gj, 0, none⟩ = some (.string s) ∧ W.cell? ⟨gj, 1, none⟩ = some (.slice (some aj) M cj))
                ((go_split_ands; refine HALL.out _ ?_; (first | assumption | (repeat (first | assumption | refine Fr.new ?_ _ | refine Fr.drew ?_ | (refine Fr.set ?_ (by first | exact Nat.le_refl _ | omega | (simp; done) | (simp; omega)) (by first | (simp; done) | (simp; omega)) _))); done)))
                ((first
                  | (go_at_call 10; go_split_ands; (with_reducible refine (Copy_any s2 ps2 ⟨some a2, c2⟩ (by omega) HG2.out _ (Fr.lies (Fr.lies HA2.out FC3.out) (by assumption))).mono ?_); rintro e w1 ⟨g2, rfl, hl2, hk2, hb1⟩; have HL2 := Lib.hid hl2; have F4 := Fr.call (by assumption) hb1; clear hb1 hl2 hk2)
                  | (go_at_call 14; go_split_ands; (with_reducible refine (HRB.out _ _ _ HL2.out).mono ?_); rintro e w1 ⟨g3, rfl, hl3, hb1⟩; have HL3 := Lib.hid hl3; have F5 := Fr.call (by assumption) hb1; clear hb1 hl3)
                  | fail "arm"))
            all_goals
              go_split_ands
              go_wp2_with fail
              go_meet
              exact ⟨⟨g3, rfl, rfl, HL3.out⟩, by assumption⟩
          case rest =>
            obtain ⟨wx4, rfl⟩ : ∃ W, W = wc := ⟨_, rfl⟩
            obtain ⟨⟨gr13, rfl, rfl, hy13⟩, hx⟩ := hcut
            have FC4 := Lib.hid (FC3.out.call hx.bl)
            have YJ := Lib.hid (Lies.call YJ.out hx.bl)
            clear hx FC3
            obtain ⟨k0_0, k0_1, kf0, kg0⟩ := (FC4.out.get 3 rfl).two
            have kz0 := (FC4.out.get 3 rfl).lt
            obtain ⟨k1_0, k1_1, kf1, kg1⟩ := (FC4.out.get 2 rfl).two
            have kz1 := (FC4.out.get 2 rfl).lt
            have k2_0 := (FC4.out.get 1 rfl).cell 0
            have k2_1 := (FC4.out.get 1 rfl).cell 1
            have k2_2 := (FC4.out.get 1 rfl).cell 2
            have k2_3 := (FC4.out.get 1 rfl).cell 3
            have k2_4 := (FC4.out.get 1 rfl).cell 4
            have k2_5 := (FC4.out.get 1 rfl).cell 5
            have k2_6 := (FC4.out.get 1 rfl).cell 6
            have kz2 := (FC4.out.get 1 rfl).lt
            obtain ⟨k3_0, k3_1, kf3, kg3⟩ := (FC4.out.get 0 rfl).two
            have kz3 := (FC4.out.get 0 rfl).lt
            have Y13 := Lib.hid hy13
            clear hy13
            go_upto_region 14 with fail
            clear k0_0 k0_1 kf0 kg0 kz0 k1_0 k1_1 kf1 kg1 kz1 k2_0 k2_1 k2_2 k2_3 k2_4 k2_5 k2_6 kz2 k3_0 k3_1 kf3 kg3 kz3
            go_cut [16, 17] from 177 to 197 (fun r e W => (∃ g : Hd, r = .slice g.A NQ g.c ∧ e = .int .i64 er ∧ Lies W W.heap.size g.A (ic (listF NQ (runV ps2 b k p sq)))) ∧ Fr wx4 W [])
            case first =>
              have HALL : Hid (∀ W, Fr wx4 W [] → Fr wx4 W [] ∧ W.cell? ⟨w.heap.size, 0, none⟩ = some (.string s) ∧ W.cell? ⟨w.heap.size, 1, none⟩ = some (.slice (some a) ps.length c) ∧ W.cell? ⟨w.heap.size + 1, 0, none⟩ = some (.string s2) ∧ W.cell? ⟨w.heap.size + 1, 1, none⟩ = some (.slice (some a2) ps2.length c2) ∧ W.cell? ⟨w.heap.size + 1 + 1, 0, none⟩ = some (.int .i64 b.brk) ∧ W.cell? ⟨w.heap.size + 1 + 1, 1, none⟩ = some (.int .i64 b.drag) ∧ W.cell? ⟨w.heap.size + 1 + 1, 2, none⟩ = some (.int .i64 b.drv) ∧ W.cell? ⟨w.heap.size + 1 + 1, 3, none⟩ = some (.int .i64 (p : Int)) ∧ W.cell? ⟨w.heap.size + 1 + 1, 4, none⟩ = some (.int .i64 sq) ∧ W.cell? ⟨w.heap.size + 1 + 1, 5, none⟩ = some (.int .i64 (k : Int)) ∧ W.cell? ⟨w.heap.size + 1 + 1, 6, none⟩ = some (.slice R NR cr) ∧ W.cell? ⟨gj, 0, none⟩ = some (.string s) ∧ W.cell? ⟨gj, 1, none⟩ = some (.slice (some aj) M cj)) := Lib.hid (fun W hW => ⟨hW, ((FC4.out.get 3 rfl).call hW.bl).cell 0, ((FC4.out.get 3 rfl).call hW.bl).cell 1, ((FC4.out.get 2 rfl).call hW.bl).cell 0, ((FC4.out.get 2 rfl).call hW.bl).cell 1, ((FC4.out.get 1 rfl).call hW.bl).cell 0, ((FC4.out.get 1 rfl).call hW.bl).cell 1, ((FC4.out.get 1 rfl).call hW.bl).cell 2, ((FC4.out.get 1 rfl).call hW.bl).cell 3, ((FC4.out.get 1 rfl).call hW.bl).cell 4, ((FC4.out.get 1 rfl).call hW.bl).cell 5, ((FC4.out.get 1 rfl).call hW.bl).cell 6, ((FC4.out.get 0 rfl).call hW.bl).cell 0, ((FC4.out.get 0 rfl).call hW.bl).cell 1⟩)
              have HAC := Lib.hid (Fr.lies HA.out FC4.out)
              have F10 : Fr wx4 _ [] := Fr.nil wx4
              go_region_held3 (fun W => Fr wx4 W [] ∧ W.cell? ⟨w.heap.size, 0, none⟩ = some (.string s) ∧ W.cell? ⟨w.heap.size, 1, none⟩ = some (.slice (some a) ps.length c) ∧ W.cell? ⟨w.heap.size + 1, 0, none⟩ = some (.string s2) ∧ W.cell? ⟨w.heap.size + 1, 1, none⟩ = some (.slice (some a2) ps2.length c2) ∧ W.cell? ⟨w.heap.size + 1 + 1, 0, none⟩ = some (.int .i64 b.brk) ∧ W.cell? ⟨w.heap.size + 1 + 1, 1, none⟩ = some (.int .i64 b.drag) ∧ W.cell? ⟨w.heap.size + 1 + 1, 2, none⟩ = some (.int .i64 b.drv) ∧ W.cell? ⟨w.heap.size + 1 + 1, 3, none⟩ = some (.int .i64 (p : Int)) ∧ W.cell? ⟨w.heap.size + 1 + 1, 4, none⟩ = some (.int .i64 sq) ∧ W.cell? ⟨w.heap.size + 1 + 1, 5, none⟩ = some (.int .i64 (k : Int)) ∧ W.cell? ⟨w.heap.size + 1 + 1, 6, none⟩ = some (.slice R NR cr) ∧ W.cell? ⟨gj, 0, none⟩ = some (.string s) ∧ W.cell? ⟨gj, 1, none⟩ = some (.slice (some aj) M cj))
                  ((go_split_ands; refine HALL.out _ ?_; (first | assumption | (repeat (first | assumption | refine Fr.new ?_ _ | refine Fr.drew ?_ | (refine Fr.set ?_ (by first | exact Nat.le_refl _ | omega | (simp; done) | (simp; omega)) (by first | (simp; done) | (simp; omega)) _))); done)))
                  ((first
                    | (go_at_call 10; go_split_ands; (with_reducible refine (HCPJ.out _ (Fr.lies YJ.out (by assumption))).mono ?_); rintro e w1 ⟨g2, rfl, hl2, hk2, hb1⟩; have HL2 := Lib.hid hl2; have F4 := Fr.call (by assumption) hb1; clear hb1 hl2 hk2)
                    | (go_at_call 14; go_split_ands; (with_reducible refine (HRJ.out _ _ _ HL2.out).mono ?_); rintro e w1 ⟨g3, rfl, hl3, hb1⟩; have HL3 := Lib.hid hl3; have F5 := Fr.call (by assumption) hb1; clear hb1 hl3)
                    | fail "arm"))
              all_goals
                go_split_ands
                go_wp2_with fail
                go_meet
                exact ⟨⟨g3, rfl, rfl, HL3.out⟩, by assumption⟩
            case rest =>
              obtain ⟨wx5, rfl⟩ : ∃ W, W = wc := ⟨_, rfl⟩
              obtain ⟨⟨gr14, rfl, rfl, hy14⟩, hx⟩ := hcut
              have FC5 := Lib.hid (FC4.out.call hx.bl)
              have YJ := Lib.hid (Lies.call YJ.out hx.bl)
              have Y13 := Lib.hid (Lies.call Y13.out hx.bl)
              clear hx FC4
              obtain ⟨k0_0, k0_1, kf0, kg0⟩ := (FC5.out.get 3 rfl).two
              have kz0 := (FC5.out.get 3 rfl).lt
              obtain ⟨k1_0, k1_1, kf1, kg1⟩ := (FC5.out.get 2 rfl).two
              have kz1 := (FC5.out.get 2 rfl).lt
              have k2_0 := (FC5.out.get 1 rfl).cell 0
              have k2_1 := (FC5.out.get 1 rfl).cell 1
              have k2_2 := (FC5.out.get 1 rfl).cell 2
              have k2_3 := (FC5.out.get 1 rfl).cell 3
              have k2_4 := (FC5.out.get 1 rfl).cell 4
              have k2_5 := (FC5.out.get 1 rfl).cell 5
              have k2_6 := (FC5.out.get 1 rfl).cell 6
              have kz2 := (FC5.out.get 1 rfl).lt
              obtain ⟨k3_0, k3_1, kf3, kg3⟩ := (FC5.out.get 0 rfl).two
              have kz3 := (FC5.out.get 0 rfl).lt
              have Y14 := Lib.hid hy14
              clear hy14
              go_wp2_with fail
              refine (Ints_listF NQ (runV ps2 b k p sq) (by omega) _ _ _ _ _ Y13.out Y14.out).mono ?_
              rintro e w31 ⟨rfl, hb31⟩
              clear k0_0 k0_1 kf0 kg0 kz0 k1_0 k1_1 kf1 kg1 kz1 k2_0 k2_1 k2_2 k2_3 k2_4 k2_5 k2_6 kz2 k3_0 k3_1 kf3 kg3 kz3
              have G31 := Fr.call FC5.out hb31
              have YJ := Lib.hid (Lies.call YJ.out hb31)
              obtain ⟨k0_0, k0_1, kf0, kg0⟩ := (G31.get 3 rfl).two
              have kz0 := (G31.get 3 rfl).lt
              obtain ⟨k1_0, k1_1, kf1, kg1⟩ := (G31.get 2 rfl).two
              have kz1 := (G31.get 2 rfl).lt
              have k2_0 := (G31.get 1 rfl).cell 0
              have k2_1 := (G31.get 1 rfl).cell 1
              have k2_2 := (G31.get 1 rfl).cell 2
              have k2_3 := (G31.get 1 rfl).cell 3
              have k2_4 := (G31.get 1 rfl).cell 4
              have k2_5 := (G31.get 1 rfl).cell 5
              have k2_6 := (G31.get 1 rfl).cell 6
              have kz2 := (G31.get 1 rfl).lt
              obtain ⟨k3_0, k3_1, kf3, kg3⟩ := (G31.get 0 rfl).two
              have kz3 := (G31.get 0 rfl).lt
              have F31 : Hid (Fr w _ [(gj, 24, #[.string s, .slice (some aj) M cj]), (w.heap.size + 1 + 1, 31, #[.int .i64 b.brk, .int .i64 b.drag, .int .i64 b.drv, .int .i64 (p : Int), .int .i64 sq, .int .i64 (k : Int), .slice R NR cr]), (w.heap.size + 1, 24, #[.string s2, .slice (some a2) ps2.length c2]), (w.heap.size, 24, #[.string s, .slice (some a) ps.length c])]) := Lib.hid G31
              clear hb31 G31 FC5
              clear Y13 Y14
              obtain ⟨M1, hM1⟩ : ∃ M1, M1 = M + 1 := ⟨_, rfl⟩
              have hwM1 := (IntWalk.i64_in ((M : Int) + 1) (by omega)).trans (show (M : Int) + 1 = (M1 : Int) by omega)
              have HM1 := Lib.hid hM1
              clear hM1
              by_cases hnr : NR = M1
              case neg =>
                have hnr2 : ¬ (NR : Int) = (M1 : Int) := by omega
                have nr1 : ((NR : Int) == (M1 : Int)) = false := by simpa using hnr2
                have nr2 : ((NR : Int) != (M1 : Int)) = true := by simpa using hnr2
                go_wp2_with fail
                go_ret
                exact ⟨rfl, F31.out.bl⟩
              case pos =>
                obtain rfl := hnr
                obtain ⟨ar, rfl⟩ := lies_some HLR.out (by rw [HNR.out, HM1.out]; omega)
                obtain ⟨es, hes⟩ : ∃ es, sqsE (ps ++ ps2) l = es := ⟨_, rfl⟩
                have HES := Lib.hid hes
                have HSQ : Hid (∀ W : World, Lies W W.heap.size (some ar) (ic l) → Calls Try.prog 15 #[.agg #[.string s, .slice (some aj) M cj], .slice (some ar) NR cr] W fun e w' => e = .returned (.int .i64 es) ∧ Below W.heap.size W w') := Lib.hid (fun W h => by have := SquaresErr_any s (ps ++ ps2) (some aj) cj (by rw [HML.out]; omega) l (some ar) cr (by rw [HNR.out, HM1.out]; unfold maxLen; omega) W h; rw [HML.out, HNR.out, HES.out] at this; exact this)
                clear hes
                go_wp2_with fail
                refine (HSQ.out _ (Fr.lies HLR.out F31.out)).mono ?_
                rintro e w32 ⟨rfl, hb32⟩
                clear k0_0 k0_1 kf0 kg0 kz0 k1_0 k1_1 kf1 kg1 kz1 k2_0 k2_1 k2_2 k2_3 k2_4 k2_5 k2_6 kz2 k3_0 k3_1 kf3 kg3 kz3
                have G32 := Fr.call F31.out hb32
                have YJ := Lib.hid (Lies.call YJ.out hb32)
                obtain ⟨k0_0, k0_1, kf0, kg0⟩ := (G32.get 3 rfl).two
                have kz0 := (G32.get 3 rfl).lt
                obtain ⟨k1_0, k1_1, kf1, kg1⟩ := (G32.get 2 rfl).two
                have kz1 := (G32.get 2 rfl).lt
                have k2_0 := (G32.get 1 rfl).cell 0
                have k2_1 := (G32.get 1 rfl).cell 1
                have k2_2 := (G32.get 1 rfl).cell 2
                have k2_3 := (G32.get 1 rfl).cell 3
                have k2_4 := (G32.get 1 rfl).cell 4
                have k2_5 := (G32.get 1 rfl).cell 5
                have k2_6 := (G32.get 1 rfl).cell 6
                have kz2 := (G32.get 1 rfl).lt
                obtain ⟨k3_0, k3_1, kf3, kg3⟩ := (G32.get 0 rfl).two
                have kz3 := (G32.get 0 rfl).lt
                have F32 : Hid (Fr w _ [(gj, 24, #[.string s, .slice (some aj) M cj]), (w.heap.size + 1 + 1, 31, #[.int .i64 b.brk, .int .i64 b.drag, .int .i64 b.drv, .int .i64 (p : Int), .int .i64 sq, .int .i64 (k : Int), .slice (some ar) NR cr]), (w.heap.size + 1, 24, #[.string s2, .slice (some a2) ps2.length c2]), (w.heap.size, 24, #[.string s, .slice (some a) ps.length c])]) := Lib.hid G32
                clear hb32 G32 F31
                by_cases hz : es = 0
                case neg =>
                  have es1 : (es == 0) = false := by simpa using hz
                  have es2 : (es != 0) = true := by simpa using hz
                  go_wp2_with fail
                  go_ret
                  exact ⟨rfl, F32.out.bl⟩
                case pos =>
                  subst hz
                  obtain ⟨lo1, hi1, er1, lo2, hi2, er2, lo3, hi3, er3, H1, H2, H3, hd⟩ := tm_three s hs ps s2 hs2 ps2 HX.out.1 HX.out.2 HOKJ.out l HES.out
                  have HD := Lib.hid hd
                  clear hd
                  obtain ⟨N2, hN2⟩ : ∃ N2, N2 = ps2.length + 1 := ⟨_, rfl⟩
                  rw [← HN1.out] at H1
                  rw [← hN2] at H2
                  rw [HML.out, HNR.out] at H3
                  have HT1 : Hid (∀ (A' : Option Addr) (c' : Nat) (B' : Option Addr) (d' : Nat) (W : World), Lies W W.heap.size A' (ps.flatMap pc) → Lies W W.heap.size B' (ic (l.take N1)) → Calls Try.prog 16 #[.agg #[.string s, .slice A' ps.length c'], .slice B' N1 d'] W fun e w' => e = .returned (.tuple #[.agg #[.int .i64 lo1, .int .i64 hi1], .int .i64 er1]) ∧ Below W.heap.size W w') := Lib.hid H1
                  have HT2 : Hid (∀ (A' : Option Addr) (c' : Nat) (B' : Option Addr) (d' : Nat) (W : World), Lies W W.heap.size A' (ps2.flatMap pc) → Lies W W.heap.size B' (ic (l.drop ps.length)) → Calls Try.prog 16 #[.agg #[.string s2, .slice A' ps2.length c'], .slice B' N2 d'] W fun e w' => e = .returned (.tuple #[.agg #[.int .i64 lo2, .int .i64 hi2], .int .i64 er2]) ∧ Below W.heap.size W w') := Lib.hid H2
                  have HT3 : Hid (∀ (A' : Option Addr) (c' : Nat) (B' : Option Addr) (d' : Nat) (W : World), Lies W W.heap.size A' ((ps ++ ps2).flatMap pc) → Lies W W.heap.size B' (ic (l)) → Calls Try.prog 16 #[.agg #[.string s, .slice A' M c'], .slice B' NR d'] W fun e w' => e = .returned (.tuple #[.agg #[.int .i64 lo3, .int .i64 hi3], .int .i64 er3]) ∧ Below W.heap.size W w') := Lib.hid H3
                  clear H1 H2 H3
                  have HE1 : Hid ((l.take N1).length = N1 ∧ (l.drop ps.length).length = N2 ∧ NR - ps.length = N2 ∧ N1 ≤ NR ∧ ps.length < NR ∧ NR ≤ 1000) := Lib.hid (by rw [List.length_take, List.length_drop, HNR.out]; have e1 := HM1.out; have e2 := HMM.out; have e3 := HN1.out; omega)
                  clear hN2
                  have hc1 : N1 ≤ cr := by have := HE1.out; omega
                  have hc2 : ps.length ≤ NR := by have := HE1.out; omega
                  have hc3 : ps.length < cr := by have := HE1.out; omega
                  have hc4 : ¬ cr = ps.length := by omega
                  have hc5 : ¬ cr = 0 := by omega
                  have hc6 : ps.length ≤ cr := by omega
                  have HC1 : Hid (∀ W : World, Lies W W.heap.size (some ar) (ic l) → Calls Try.prog 17 #[.slice (some ar) N1 cr] W fun e w' => ∃ g : Hd, e = .returned (.slice g.A N1 g.c) ∧ Lies w' w'.heap.size g.A (ic (l.take N1)) ∧ Below W.heap.size W w') := Lib.hid (fun W h => by have := CopyInts_any (l.take N1) ⟨some ar, cr⟩ (by have := HE1.out; omega) (fun h => by cases h) W (Lies.take h N1); unfold CopiedI at this; rw [HE1.out.1] at this; exact this.mono fun _ _ ⟨g, a, b, _, _, c⟩ => ⟨g, a, b, c⟩)
                  have HC2 : Hid (∀ W : World, Lies W W.heap.size (some ar) (ic l) → Calls Try.prog 17 #[.slice (some (ar.add ps.length)) (NR - ps.length) (cr - ps.length)] W fun e w' => ∃ g : Hd, e = .returned (.slice g.A N2 g.c) ∧ Lies w' w'.heap.size g.A (ic (l.drop ps.length)) ∧ Below W.heap.size W w') := Lib.hid (fun W h => by have := CopyInts_any (l.drop ps.length) ⟨some (ar.add ps.length), cr - ps.length⟩ (by have := HE1.out; omega) (fun h => by cases h) W (Lies.drop h ps.length); rw [HE1.out.2.2.1]; unfold CopiedI at this; rw [HE1.out.2.1] at this; exact this.mono fun _ _ ⟨g, a, b, _, _, c⟩ => ⟨g, a, b, c⟩)
                  have HC3 : Hid (∀ W : World, Lies W W.heap.size (some ar) (ic l) → Calls Try.prog 17 #[.slice (some ar) NR cr] W fun e w' => ∃ g : Hd, e = .returned (.slice g.A NR g.c) ∧ Lies w' w'.heap.size g.A (ic (l)) ∧ Below W.heap.size W w') := Lib.hid (fun W h => by have := CopyInts_any (l) ⟨some ar, cr⟩ (by rw [HNR.out]; exact HE1.out.2.2.2.2.2) (fun h => by cases h) W (h); unfold CopiedI at this; rw [HNR.out] at this; exact this.mono fun _ _ ⟨g, a, b, _, _, c⟩ => ⟨g, a, b, c⟩)
                  go_upto_region 19 with fail
                  clear k0_0 k0_1 kf0 kg0 kz0 k1_0 k1_1 kf1 kg1 kz1 k2_0 k2_1 k2_2 k2_3 k2_4 k2_5 k2_6 kz2 k3_0 k3_1 kf3 kg3 kz3
                  go_cut [18, 19] from 222 to 233 (fun pv ev W => ∃ g : Nat, pv = .pointer (some ⟨g, 0, none⟩) ∧ ev = .int .i64 er1 ∧ Fr w32 W [(g, 48, #[.int .i64 lo1, .int .i64 hi1])])
                  case first =>
                    refine wp_abs ?_
                    intro wnow hnow
                    have HALL : Hid (∀ W, Fr w32 W [] → Fr w32 W [] ∧ W.cell? ⟨w.heap.size, 0, none⟩ = some (.string s) ∧ W.cell? ⟨w.heap.size, 1, none⟩ = some (.slice (some a) ps.length c) ∧ W.cell? ⟨w.heap.size + 1, 0, none⟩ = some (.string s2) ∧ W.cell? ⟨w.heap.size + 1, 1, none⟩ = some (.slice (some a2) ps2.length c2) ∧ W.cell? ⟨w.heap.size + 1 + 1, 0, none⟩ = some (.int .i64 b.brk) ∧ W.cell? ⟨w.heap.size + 1 + 1, 1, none⟩ = some (.int .i64 b.drag) ∧ W.cell? ⟨w.heap.size + 1 + 1, 2, none⟩ = some (.int .i64 b.drv) ∧ W.cell? ⟨w.heap.size + 1 + 1, 3, none⟩ = some (.int .i64 (p : Int)) ∧ W.cell? ⟨w.heap.size + 1 + 1, 4, none⟩ = some (.int .i64 sq) ∧ W.cell? ⟨w.heap.size + 1 + 1, 5, none⟩ = some (.int .i64 (k : Int)) ∧ W.cell? ⟨w.heap.size + 1 + 1, 6, none⟩ = some (.slice (some ar) NR cr) ∧ W.cell? ⟨gj, 0, none⟩ = some (.string s) ∧ W.cell? ⟨gj, 1, none⟩ = some (.slice (some aj) M cj)) := Lib.hid (fun W hW => ⟨hW, ((F32.out.get 3 rfl).call hW.bl).cell 0, ((F32.out.get 3 rfl).call hW.bl).cell 1, ((F32.out.get 2 rfl).call hW.bl).cell 0, ((F32.out.get 2 rfl).call hW.bl).cell 1, ((F32.out.get 1 rfl).call hW.bl).cell 0, ((F32.out.get 1 rfl).call hW.bl).cell 1, ((F32.out.get 1 rfl).call hW.bl).cell 2, ((F32.out.get 1 rfl).call hW.bl).cell 3, ((F32.out.get 1 rfl).call hW.bl).cell 4, ((F32.out.get 1 rfl).call hW.bl).cell 5, ((F32.out.get 1 rfl).call hW.bl).cell 6, ((F32.out.get 0 rfl).call hW.bl).cell 0, ((F32.out.get 0 rfl).call hW.bl).cell 1⟩)
                    have HAC := Lib.hid (Fr.lies HA.out F32.out)
                    have F10 : Fr w32 wnow [] := by subst hnow; exact Fr.nil _
                    clear hnow
                    have HRC := Lib.hid (Fr.lies HLR.out F32.out)
                    have HAC2 := Lib.hid (Fr.lies HA2.out F32.out)
                    refine Tw_start 14 (fun W => Fr w32 W [] ∧ W.cell? ⟨w.heap.size, 0, none⟩ = some (.string s) ∧ W.cell? ⟨w.heap.size, 1, none⟩ = some (.slice (some a) ps.length c) ∧ W.cell? ⟨w.heap.size + 1, 0, none⟩ = some (.string s2) ∧ W.cell? ⟨w.heap.size + 1, 1, none⟩ = some (.slice (some a2) ps2.length c2) ∧ W.cell? ⟨w.heap.size + 1 + 1, 0, none⟩ = some (.int .i64 b.brk) ∧ W.cell? ⟨w.heap.size + 1 + 1, 1, none⟩ = some (.int .i64 b.drag) ∧ W.cell? ⟨w.heap.size + 1 + 1, 2, none⟩ = some (.int .i64 b.drv) ∧ W.cell? ⟨w.heap.size + 1 + 1, 3, none⟩ = some (.int .i64 (p : Int)) ∧ W.cell? ⟨w.heap.size + 1 + 1, 4, none⟩ = some (.int .i64 sq) ∧ W.cell? ⟨w.heap.size + 1 + 1, 5, none⟩ = some (.int .i64 (k : Int)) ∧ W.cell? ⟨w.heap.size + 1 + 1, 6, none⟩ = some (.slice (some ar) NR cr) ∧ W.cell? ⟨gj, 0, none⟩ = some (.string s) ∧ W.cell? ⟨gj, 1, none⟩ = some (.slice (some aj) M cj)) (by kernel_rfl) (by kernel_rfl) rfl ?_ ?_
                    · (try dsimp only)
                      ((go_split_ands; refine HALL.out _ ?_; (first | assumption | (repeat (first | assumption | refine Fr.new ?_ _ | refine Fr.drew ?_ | (refine Fr.set ?_ (by first | exact Nat.le_refl _ | omega | (simp; done) | (simp; omega)) (by first | (simp; done) | (simp; omega)) _))); done)))
                    refine Tw_takeL (i := 0) (v := ?tv15) rfl (by kernel_rfl) (by decide) (by kernel_rfl) (by kernel_rfl) (fun _ _ _ h => h) (by rfl) ?ty15 ?tn15
                    case ty15 => (intro w hSw; (try dsimp only at hSw); go_simp <;> with_reducible rfl)
                    (try simp only [Act.put, List.setIfInBounds_toArray, List.set_cons_zero, List.set_cons_succ])
                    refine Tw_takeL (i := 2) (v := ?tv16) rfl (by kernel_rfl) (by decide) (by kernel_rfl) (by kernel_rfl) (fun _ _ _ h => h) (by rfl) ?ty16 ?tn16
                    case ty16 => (intro w hSw; (try dsimp only at hSw); go_simp <;> with_reducible rfl)
                    (try simp only [Act.put, List.setIfInBounds_toArray, List.set_cons_zero, List.set_cons_succ])
                    refine Tw_takeL (i := 4) (v := ?tv17) rfl (by kernel_rfl) (by decide) (by kernel_rfl) (by kernel_rfl) (fun _ _ _ h => h) (by rfl) ?ty17 ?tn17
                    case ty17 => (intro w hSw; (try dsimp only at hSw); go_simp <;> with_reducible rfl)
                    (try simp only [Act.put, List.setIfInBounds_toArray, List.set_cons_zero, List.set_cons_succ])
                    refine Tw_takeL (i := 3) (v := ?tv18) rfl (by kernel_rfl) (by decide) (by kernel_rfl) (by kernel_rfl) (fun _ _ _ h => h) (by rfl) ?ty18 ?tn18
                    case ty18 => (intro w hSw; (try dsimp only at hSw); go_simp <;> with_reducible rfl)
                    (try simp only [Act.put, List.setIfInBounds_toArray, List.set_cons_zero, List.set_cons_succ])
                    refine Tw_takeL (i := 5) (v := ?tv19) rfl (by kernel_rfl) (by decide) (by kernel_rfl) (by kernel_rfl) (fun _ _ _ h => h) (by rfl) ?ty19 ?tn19
                    case ty19 => (intro w hSw; (try dsimp only at hSw); go_simp <;> with_reducible rfl)
                    (try simp only [Act.put, List.setIfInBounds_toArray, List.set_cons_zero, List.set_cons_succ])
                    refine Tw_takeL (i := 6) (v := ?tv20) rfl (by kernel_rfl) (by decide) (by kernel_rfl) (by kernel_rfl) (fun _ _ _ h => h) (by rfl) ?ty20 ?tn20
                    case ty20 => (intro w hSw; (try dsimp only at hSw); go_simp <;> with_reducible rfl)
                    (try simp only [Act.put, List.setIfInBounds_toArray, List.set_cons_zero, List.set_cons_succ])
                    refine Tw_all (rs := [1, 12]) (by kernel_rfl) (by simp) (by decide) (fun hHeld => ?_)
                    refine AllT.consL rfl (fun K hK => ?_) (AllT.consL rfl (fun K hK => ?_) (AllT.nil))
                    · go_simp
                      (go_at_call 10; go_split_ands; (with_reducible refine (Copy_any s ps ⟨(some a), c⟩ (by omega) HG.out _ (Fr.lies HAC.out (by assumption))).mono ?_); rintro e w7 ⟨g2, rfl, hl2, hk2, hb7⟩; have L2 := Lib.hid hl2; have F4 := Fr.call (by assumption) hb7; (first | (have N1 := Lib.hid (Bk.call N1.out hb7)) | skip); clear hb7 hl2 hk2)
                      refine hK.out _ _ ?_ ?_
                      · (try dsimp only)
                        ((go_split_ands; refine HALL.out _ ?_; (first | assumption | (repeat (first | assumption | refine Fr.new ?_ _ | refine Fr.drew ?_ | (refine Fr.set ?_ (by first | exact Nat.le_refl _ | omega | (simp; done) | (simp; omega)) (by first | (simp; done) | (simp; omega)) _))); done)))
                      clear hK K
                      (try simp only [Act.put, List.setIfInBounds_toArray, List.set_cons_zero, List.set_cons_succ])
                      refine Tw_all (rs := [7, 12]) (by kernel_rfl) (by simp) (by decide) (fun hHeld => ?_)
                      refine AllT.consL rfl (fun K hK => ?_) (AllT.consL rfl (fun K hK => ?_) (AllT.nil))
                      · go_simp
                        (go_at_call 17; go_split_ands; (refine (HC1.out _ (Fr.lies HRC.out (by assumption))).mono ?_); rintro e w7 ⟨g4, rfl, hl4, hb7⟩; have L4 := Lib.hid hl4; have F4 := Fr.call (by assumption) hb7; (first | (have N1 := Lib.hid (Bk.call N1.out hb7)) | skip); (first | (have L2 := Lib.hid (Lies.call L2.out hb7)) | skip); clear hb7 hl4)
                        refine hK.out _ _ ?_ ?_
                        · (try dsimp only)
                          ((go_split_ands; refine HALL.out _ ?_; (first | assumption | (repeat (first | assumption | refine Fr.new ?_ _ | refine Fr.drew ?_ | (refine Fr.set ?_ (by first | exact Nat.le_refl _ | omega | (simp; done) | (simp; omega)) (by first | (simp; done) | (simp; omega)) _))); done)))
                        clear hK K
                        (try simp only [Act.put, List.setIfInBounds_toArray, List.set_cons_zero, List.set_cons_succ])
                        refine Tw_all (rs := [8, 12]) (by kernel_rfl) (by simp) (by decide) (fun hHeld => ?_)
                        refine AllT.consL rfl (fun K hK => ?_) (AllT.consL rfl (fun K hK => ?_) (AllT.nil))
                        · go_simp
                          (go_at_call 16; go_split_ands; (with_reducible refine (HT1.out _ _ _ _ _ L2.out L4.out).mono ?_); rintro e w7 ⟨rfl, hb7⟩; have F4 := Fr.call (by assumption) hb7; (first | (have N1 := Lib.hid (Bk.call N1.out hb7)) | skip); clear hb7)
                          refine hK.out _ _ ?_ ?_
                          · (try dsimp only)
                            ((go_split_ands; refine HALL.out _ ?_; (first | assumption | (repeat (first | assumption | refine Fr.new ?_ _ | refine Fr.drew ?_ | (refine Fr.set ?_ (by first | exact Nat.le_refl _ | omega | (simp; done) | (simp; omega)) (by first | (simp; done) | (simp; omega)) _))); done)))
                          clear hK K
                          (try simp only [Act.put, List.setIfInBounds_toArray, List.set_cons_zero, List.set_cons_succ])
                          refine Tw_takeL (i := 9) (v := ?tv21) rfl (by kernel_rfl) (by decide) (by kernel_rfl) (by kernel_rfl) (fun _ _ _ h => h) (by rfl) ?ty21 ?tn21
                          case ty21 => (intro w hSw; (try dsimp only at hSw); go_simp <;> with_reducible rfl)
                          (try simp only [Act.put, List.setIfInBounds_toArray, List.set_cons_zero, List.set_cons_succ])
                          refine Tw_takeL (i := 10) (v := ?tv22) rfl (by kernel_rfl) (by decide) (by kernel_rfl) (by kernel_rfl) (fun _ _ _ h => h) (by rfl) ?ty22 ?tn22
                          case ty22 => (intro w hSw; (try dsimp only at hSw); go_simp <;> with_reducible rfl)
                          (try simp only [Act.put, List.setIfInBounds_toArray, List.set_cons_zero, List.set_cons_succ])
                          refine Tw_takeL (i := 11) (v := ?tv23) rfl (by kernel_rfl) (by decide) (by kernel_rfl) (by kernel_rfl) (fun _ _ _ h => h) (by rfl) ?ty23 ?tn23
                          case ty23 => (intro w hSw; (try dsimp only at hSw); go_simp <;> with_reducible rfl)
                          (try simp only [Act.put, List.setIfInBounds_toArray, List.set_cons_zero, List.set_cons_succ])
                          refine Tw_all (rs := [12]) (by kernel_rfl) (by simp) (by decide) (fun hHeld => ?_)
                          refine AllT.consL rfl (fun K hK => ?_) (AllT.nil)
                          · go_simp
                            refine hK.out _ _ ?_ ?_
                            · (try dsimp only)
                              ((go_split_ands; refine HALL.out _ ?_; (first | assumption | (repeat (first | assumption | refine Fr.new ?_ _ | refine Fr.drew ?_ | (refine Fr.set ?_ (by first | exact Nat.le_refl _ | omega | (simp; done) | (simp; omega)) (by first | (simp; done) | (simp; omega)) _))); done)))
                            clear hK K
                            (try simp only [Act.put, List.setIfInBounds_toArray, List.set_cons_zero, List.set_cons_succ])
                            refine Tw_abs ?_
                            intro wA21 hA21
                            (first | (have N1 := Lib.hid (Bk.of_alloc hA21)) | (have N1 := Lib.hid (Bk.of_alloc_drew hA21)))
                            have zg := Lib.hid (show w32.heap.size ≤ _ from hHeld.1.size)
                            (first | (have L2 := Lib.hid (Lies.alloc hA21 L2.out)) | (have L2 := Lib.hid (Lies.alloc_drew hA21 L2.out)) | skip)
                            (first | (have L4 := Lib.hid (Lies.alloc hA21 L4.out)) | (have L4 := Lib.hid (Lies.alloc_drew hA21 L4.out)) | skip)
                            clear hA21
                            refine Tw_all (rs := [13]) (by kernel_rfl) (by simp) (by decide) (fun hHeld => ?_)
                            refine AllT.consL rfl (fun K hK => ?_) (AllT.nil)
                            · have c0 := N1.out.cell 0
                              have c1 := N1.out.cell 1
                              have f0 := N1.out.frozen 0
                              have f1 := N1.out.frozen 1
                              have zN := N1.out.lt
                              go_simp
                              refine hK.out _ _ ?_ ?_
                              · exact HALL.out _ ((hHeld.1.set (p := ⟨_, 0, none⟩) zg.out (fun b hb => by simp at hb) _).set (p := ⟨_, 1, none⟩) zg.out (fun b hb => by simp at hb) _)
                              clear hK K c0 f0 c1 f1 zN
                              have N1 := Lib.hid (Bk.set2 N1.out (.int .i64 lo1) (.int .i64 hi1))
                              (try simp only [Act.put, List.setIfInBounds_toArray, List.set_cons_zero, List.set_cons_succ])
                              refine Tw_end (by kernel_rfl) (fun hh => ?_)
                              obtain ⟨F11, _⟩ := hh
                              clear HALL
                              go_wp2_with fail
                              go_meet
                              exact ⟨_, rfl, rfl, F11.more N1.out⟩
                        · go_simp
                          refine hK.out _ _ ?_ ?_
                          · (try dsimp only)
                            ((go_split_ands; refine HALL.out _ ?_; (first | assumption | (repeat (first | assumption | refine Fr.new ?_ _ | refine Fr.drew ?_ | (refine Fr.set ?_ (by first | exact Nat.le_refl _ | omega | (simp; done) | (simp; omega)) (by first | (simp; done) | (simp; omega)) _))); done)))
                          clear hK K
                          (try simp only [Act.put, List.setIfInBounds_toArray, List.set_cons_zero, List.set_cons_succ])
                          refine Tw_abs ?_
                          intro wA23 hA23
                          (first | (have N1 := Lib.hid (Bk.of_alloc hA23)) | (have N1 := Lib.hid (Bk.of_alloc_drew hA23)))
                          have zg := Lib.hid (show w32.heap.size ≤ _ from hHeld.1.size)
                          (first | (have L2 := Lib.hid (Lies.alloc hA23 L2.out)) | (have L2 := Lib.hid (Lies.alloc_drew hA23 L2.out)) | skip)
                          (first | (have L4 := Lib.hid (Lies.alloc hA23 L4.out)) | (have L4 := Lib.hid (Lies.alloc_drew hA23 L4.out)) | skip)
                          clear hA23
                          refine Tw_all (rs := [8]) (by kernel_rfl) (by simp) (by decide) (fun hHeld => ?_)
                          refine AllT.consL rfl (fun K hK => ?_) (AllT.nil)
                          · go_simp
                            (go_at_call 16; go_split_ands; (with_reducible refine (HT1.out _ _ _ _ _ L2.out L4.out).mono ?_); rintro e w7 ⟨rfl, hb7⟩; have F4 := Fr.call (by assumption) hb7; (first | (have N1 := Lib.hid (Bk.call N1.out hb7)) | skip); clear hb7)
                            refine hK.out _ _ ?_ ?_
                            · (try dsimp only)
                              ((go_split_ands; refine HALL.out _ ?_; (first | assumption | (repeat (first | assumption | refine Fr.new ?_ _ | refine Fr.drew ?_ | (refine Fr.set ?_ (by first | exact Nat.le_refl _ | omega | (simp; done) | (simp; omega)) (by first | (simp; done) | (simp; omega)) _))); done)))
                            clear hK K
                            (try simp only [Act.put, List.setIfInBounds_toArray, List.set_cons_zero, List.set_cons_succ])
                            refine Tw_takeL (i := 9) (v := ?tv24) rfl (by kernel_rfl) (by decide) (by kernel_rfl) (by kernel_rfl) (fun _ _ _ h => h) (by rfl) ?ty24 ?tn24
                            case ty24 => (intro w hSw; (try dsimp only at hSw); go_simp <;> with_reducible rfl)
                            (try simp only [Act.put, List.setIfInBounds_toArray, List.set_cons_zero, List.set_cons_succ])
                            refine Tw_takeL (i := 10) (v := ?tv25) rfl (by kernel_rfl) (by decide) (by kernel_rfl) (by kernel_rfl) (fun _ _ _ h => h) (by rfl) ?ty25 ?tn25
                            case ty25 => (intro w hSw; (try dsimp only at hSw); go_simp <;> with_reducible rfl)
                            (try simp only [Act.put, List.setIfInBounds_toArray, List.set_cons_zero, List.set_cons_succ])
                            refine Tw_takeL (i := 11) (v := ?tv26) rfl (by kernel_rfl) (by decide) (by kernel_rfl) (by kernel_rfl) (fun _ _ _ h => h) (by rfl) ?ty26 ?tn26
                            case ty26 => (intro w hSw; (try dsimp only at hSw); go_simp <;> with_reducible rfl)
                            (try simp only [Act.put, List.setIfInBounds_toArray, List.set_cons_zero, List.set_cons_succ])
                            refine Tw_all (rs := [13]) (by kernel_rfl) (by simp) (by decide) (fun hHeld => ?_)
                            refine AllT.consL rfl (fun K hK => ?_) (AllT.nil)
                            · have c0 := N1.out.cell 0
                              have c1 := N1.out.cell 1
                              have f0 := N1.out.frozen 0
                              have f1 := N1.out.frozen 1
                              have zN := N1.out.lt
                              go_simp
                              refine hK.out _ _ ?_ ?_
                              · exact HALL.out _ ((hHeld.1.set (p := ⟨_, 0, none⟩) zg.out (fun b hb => by simp at hb) _).set (p := ⟨_, 1, none⟩) zg.out (fun b hb => by simp at hb) _)
                              clear hK K c0 f0 c1 f1 zN
                              have N1 := Lib.hid (Bk.set2 N1.out (.int .i64 lo1) (.int .i64 hi1))
                              (try simp only [Act.put, List.setIfInBounds_toArray, List.set_cons_zero, List.set_cons_succ])
                              refine Tw_end (by kernel_rfl) (fun hh => ?_)
                              obtain ⟨F11, _⟩ := hh
                              clear HALL
                              go_wp2_with fail
                              go_meet
                              exact ⟨_, rfl, rfl, F11.more N1.out⟩
                      · go_simp
                        refine hK.out _ _ ?_ ?_
                        · (try dsimp only)
                          ((go_split_ands; refine HALL.out _ ?_; (first | assumption | (repeat (first | assumption | refine Fr.new ?_ _ | refine Fr.drew ?_ | (refine Fr.set ?_ (by first | exact Nat.le_refl _ | omega | (simp; done) | (simp; omega)) (by first | (simp; done) | (simp; omega)) _))); done)))
                        clear hK K
                        (try simp only [Act.put, List.setIfInBounds_toArray, List.set_cons_zero, List.set_cons_succ])
                        refine Tw_abs ?_
                        intro wA26 hA26
                        (first | (have N1 := Lib.hid (Bk.of_alloc hA26)) | (have N1 := Lib.hid (Bk.of_alloc_drew hA26)))
                        have zg := Lib.hid (show w32.heap.size ≤ _ from hHeld.1.size)
                        (first | (have L2 := Lib.hid (Lies.alloc hA26 L2.out)) | (have L2 := Lib.hid (Lies.alloc_drew hA26 L2.out)) | skip)
                        (first | (have L4 := Lib.hid (Lies.alloc hA26 L4.out)) | (have L4 := Lib.hid (Lies.alloc_drew hA26 L4.out)) | skip)
                        clear hA26
                        refine Tw_all (rs := [7]) (by kernel_rfl) (by simp) (by decide) (fun hHeld => ?_)
                        refine AllT.consL rfl (fun K hK => ?_) (AllT.nil)
                        · go_simp
                          (go_at_call 17; go_split_ands; (refine (HC1.out _ (Fr.lies HRC.out (by assumption))).mono ?_); rintro e w7 ⟨g4, rfl, hl4, hb7⟩; have L4 := Lib.hid hl4; have F4 := Fr.call (by assumption) hb7; (first | (have N1 := Lib.hid (Bk.call N1.out hb7)) | skip); (first | (have L2 := Lib.hid (Lies.call L2.out hb7)) | skip); clear hb7 hl4)
                          refine hK.out _ _ ?_ ?_
                          · (try dsimp only)
                            ((go_split_ands; refine HALL.out _ ?_; (first | assumption | (repeat (first | assumption | refine Fr.new ?_ _ | refine Fr.drew ?_ | (refine Fr.set ?_ (by first | exact Nat.le_refl _ | omega | (simp; done) | (simp; omega)) (by first | (simp; done) | (simp; omega)) _))); done)))
                          clear hK K
                          (try simp only [Act.put, List.setIfInBounds_toArray, List.set_cons_zero, List.set_cons_succ])
                          refine Tw_all (rs := [8]) (by kernel_rfl) (by simp) (by decide) (fun hHeld => ?_)
                          refine AllT.consL rfl (fun K hK => ?_) (AllT.nil)
                          · go_simp
                            (go_at_call 16; go_split_ands; (with_reducible refine (HT1.out _ _ _ _ _ L2.out L4.out).mono ?_); rintro e w7 ⟨rfl, hb7⟩; have F4 := Fr.call (by assumption) hb7; (first | (have N1 := Lib.hid (Bk.call N1.out hb7)) | skip); clear hb7)
                            refine hK.out _ _ ?_ ?_
                            · (try dsimp only)
                              ((go_split_ands; refine HALL.out _ ?_; (first | assumption | (repeat (first | assumption | refine Fr.new ?_ _ | refine Fr.drew ?_ | (refine Fr.set ?_ (by first | exact Nat.le_refl _ | omega | (simp; done) | (simp; omega)) (by first | (simp; done) | (simp; omega)) _))); done)))
                            clear hK K
                            (try simp only [Act.put, List.setIfInBounds_toArray, List.set_cons_zero, List.set_cons_succ])
                            refine Tw_takeL (i := 9) (v := ?tv27) rfl (by kernel_rfl) (by decide) (by kernel_rfl) (by kernel_rfl) (fun _ _ _ h => h) (by rfl) ?ty27 ?tn27
                            case ty27 => (intro w hSw; (try dsimp only at hSw); go_simp <;> with_reducible rfl)
                            (try simp only [Act.put, List.setIfInBounds_toArray, List.set_cons_zero, List.set_cons_succ])
                            refine Tw_takeL (i := 10) (v := ?tv28) rfl (by kernel_rfl) (by decide) (by kernel_rfl) (by kernel_rfl) (fun _ _ _ h => h) (by rfl) ?ty28 ?tn28
                            case ty28 => (intro w hSw; (try dsimp only at hSw); go_simp <;> with_reducible rfl)
                            (try simp only [Act.put, List.setIfInBounds_toArray, List.set_cons_zero, List.set_cons_succ])
                            refine Tw_takeL (i := 11) (v := ?tv29) rfl (by kernel_rfl) (by decide) (by kernel_rfl) (by kernel_rfl) (fun _ _ _ h => h) (by rfl) ?ty29 ?tn29
                            case ty29 => (intro w hSw; (try dsimp only at hSw); go_simp <;> with_reducible rfl)
                            (try simp only [Act.put, List.setIfInBounds_toArray, List.set_cons_zero, List.set_cons_succ])
                            refine Tw_all (rs := [13]) (by kernel_rfl) (by simp) (by decide) (fun hHeld => ?_)
                            refine AllT.consL rfl (fun K hK => ?_) (AllT.nil)
                            · have c0 := N1.out.cell 0
                              have c1 := N1.out.cell 1
                              have f0 := N1.out.frozen 0
                              have f1 := N1.out.frozen 1
                              have zN := N1.out.lt
                              go_simp
                              refine hK.out _ _ ?_ ?_
                              · exact HALL.out _ ((hHeld.1.set (p := ⟨_, 0, none⟩) zg.out (fun b hb => by simp at hb) _).set (p := ⟨_, 1, none⟩) zg.out (fun b hb => by simp at hb) _)
                              clear hK K c0 f0 c1 f1 zN
                              have N1 := Lib.hid (Bk.set2 N1.out (.int .i64 lo1) (.int .i64 hi1))
                              (try simp only [Act.put, List.setIfInBounds_toArray, List.set_cons_zero, List.set_cons_succ])
                              refine Tw_end (by kernel_rfl) (fun hh => ?_)
                              obtain ⟨F11, _⟩ := hh
                              clear HALL
                              go_wp2_with fail
                              go_meet
                              exact ⟨_, rfl, rfl, F11.more N1.out⟩
                    · go_simp
                      refine hK.out _ _ ?_ ?_
                      · (try dsimp only)
                        ((go_split_ands; refine HALL.out _ ?_; (first | assumption | (repeat (first | assumption | refine Fr.new ?_ _ | refine Fr.drew ?_ | (refine Fr.set ?_ (by first | exact Nat.le_refl _ | omega | (simp; done) | (simp; omega)) (by first | (simp; done) | (simp; omega)) _))); done)))
                      clear hK K
                      (try simp only [Act.put, List.setIfInBounds_toArray, List.set_cons_zero, List.set_cons_succ])
                      refine Tw_abs ?_
                      intro wA30 hA30
                      (first | (have N1 := Lib.hid (Bk.of_alloc hA30)) | (have N1 := Lib.hid (Bk.of_alloc_drew hA30)))
                      have zg := Lib.hid (show w32.heap.size ≤ _ from hHeld.1.size)
                      (first | (have L2 := Lib.hid (Lies.alloc hA30 L2.out)) | (have L2 := Lib.hid (Lies.alloc_drew hA30 L2.out)) | skip)
                      (first | (have L4 := Lib.hid (Lies.alloc hA30 L4.out)) | (have L4 := Lib.hid (Lies.alloc_drew hA30 L4.out)) | skip)
                      clear hA30
                      refine Tw_all (rs := [1]) (by kernel_rfl) (by simp) (by decide) (fun hHeld => ?_)
                      refine AllT.consL rfl (fun K hK => ?_) (AllT.nil)
                      · go_simp
                        (go_at_call 10; go_split_ands; (with_reducible refine (Copy_any s ps ⟨(some a), c⟩ (by omega) HG.out _ (Fr.lies HAC.out (by assumption))).mono ?_); rintro e w7 ⟨g2, rfl, hl2, hk2, hb7⟩; have L2 := Lib.hid hl2; have F4 := Fr.call (by assumption) hb7; (first | (have N1 := Lib.hid (Bk.call N1.out hb7)) | skip); clear hb7 hl2 hk2)
                        refine hK.out _ _ ?_ ?_
                        · (try dsimp only)
                          ((go_split_ands; refine HALL.out _ ?_; (first | assumption | (repeat (first | assumption | refine Fr.new ?_ _ | refine Fr.drew ?_ | (refine Fr.set ?_ (by first | exact Nat.le_refl _ | omega | (simp; done) | (simp; omega)) (by first | (simp; done) | (simp; omega)) _))); done)))
                        clear hK K
                        (try simp only [Act.put, List.setIfInBounds_toArray, List.set_cons_zero, List.set_cons_succ])
                        refine Tw_all (rs := [7]) (by kernel_rfl) (by simp) (by decide) (fun hHeld => ?_)
                        refine AllT.consL rfl (fun K hK => ?_) (AllT.nil)
                        · go_simp
                          (go_at_call 17; go_split_ands; (refine (HC1.out _ (Fr.lies HRC.out (by assumption))).mono ?_); rintro e w7 ⟨g4, rfl, hl4, hb7⟩; have L4 := Lib.hid hl4; have F4 := Fr.call (by assumption) hb7; (first | (have N1 := Lib.hid (Bk.call N1.out hb7)) | skip); (first | (have L2 := Lib.hid (Lies.call L2.out hb7)) | skip); clear hb7 hl4)
                          refine hK.out _ _ ?_ ?_
                          · (try dsimp only)
                            ((go_split_ands; refine HALL.out _ ?_; (first | assumption | (repeat (first | assumption | refine Fr.new ?_ _ | refine Fr.drew ?_ | (refine Fr.set ?_ (by first | exact Nat.le_refl _ | omega | (simp; done) | (simp; omega)) (by first | (simp; done) | (simp; omega)) _))); done)))
                          clear hK K
                          (try simp only [Act.put, List.setIfInBounds_toArray, List.set_cons_zero, List.set_cons_succ])
                          refine Tw_all (rs := [8]) (by kernel_rfl) (by simp) (by decide) (fun hHeld => ?_)
                          refine AllT.consL rfl (fun K hK => ?_) (AllT.nil)
                          · go_simp
                            (go_at_call 16; go_split_ands; (with_reducible refine (HT1.out _ _ _ _ _ L2.out L4.out).mono ?_); rintro e w7 ⟨rfl, hb7⟩; have F4 := Fr.call (by assumption) hb7; (first | (have N1 := Lib.hid (Bk.call N1.out hb7)) | skip); clear hb7)
                            refine hK.out _ _ ?_ ?_
                            · (try dsimp only)
                              ((go_split_ands; refine HALL.out _ ?_; (first | assumption | (repeat (first | assumption | refine Fr.new ?_ _ | refine Fr.drew ?_ | (refine Fr.set ?_ (by first | exact Nat.le_refl _ | omega | (simp; done) | (simp; omega)) (by first | (simp; done) | (simp; omega)) _))); done)))
                            clear hK K
                            (try simp only [Act.put, List.setIfInBounds_toArray, List.set_cons_zero, List.set_cons_succ])
                            refine Tw_takeL (i := 9) (v := ?tv30) rfl (by kernel_rfl) (by decide) (by kernel_rfl) (by kernel_rfl) (fun _ _ _ h => h) (by rfl) ?ty30 ?tn30
                            case ty30 => (intro w hSw; (try dsimp only at hSw); go_simp <;> with_reducible rfl)
                            (try simp only [Act.put, List.setIfInBounds_toArray, List.set_cons_zero, List.set_cons_succ])
                            refine Tw_takeL (i := 10) (v := ?tv31) rfl (by kernel_rfl) (by decide) (by kernel_rfl) (by kernel_rfl) (fun _ _ _ h => h) (by rfl) ?ty31 ?tn31
                            case ty31 => (intro w hSw; (try dsimp only at hSw); go_simp <;> with_reducible rfl)
                            (try simp only [Act.put, List.setIfInBounds_toArray, List.set_cons_zero, List.set_cons_succ])
                            refine Tw_takeL (i := 11) (v := ?tv32) rfl (by kernel_rfl) (by decide) (by kernel_rfl) (by kernel_rfl) (fun _ _ _ h => h) (by rfl) ?ty32 ?tn32
                            case ty32 => (intro w hSw; (try dsimp only at hSw); go_simp <;> with_reducible rfl)
                            (try simp only [Act.put, List.setIfInBounds_toArray, List.set_cons_zero, List.set_cons_succ])
                            refine Tw_all (rs := [13]) (by kernel_rfl) (by simp) (by decide) (fun hHeld => ?_)
                            refine AllT.consL rfl (fun K hK => ?_) (AllT.nil)
                            · have c0 := N1.out.cell 0
                              have c1 := N1.out.cell 1
                              have f0 := N1.out.frozen 0
                              have f1 := N1.out.frozen 1
                              have zN := N1.out.lt
                              go_simp
                              refine hK.out _ _ ?_ ?_
                              · exact HALL.out _ ((hHeld.1.set (p := ⟨_, 0, none⟩) zg.out (fun b hb => by simp at hb) _).set (p := ⟨_, 1, none⟩) zg.out (fun b hb => by simp at hb) _)
                              clear hK K c0 f0 c1 f1 zN
                              have N1 := Lib.hid (Bk.set2 N1.out (.int .i64 lo1) (.int .i64 hi1))
                              (try simp only [Act.put, List.setIfInBounds_toArray, List.set_cons_zero, List.set_cons_succ])
                              refine Tw_end (by kernel_rfl) (fun hh => ?_)
                              obtain ⟨F11, _⟩ := hh
                              clear HALL
                              go_wp2_with fail
                              go_meet
                              exact ⟨_, rfl, rfl, F11.more N1.out⟩
                  case rest =>
                    obtain ⟨wb2, rfl⟩ : ∃ W, W = wc := ⟨_, rfl⟩
                    obtain ⟨gt1, rfl, rfl, hx⟩ := hcut
                    have FB2 := Lib.hid (F32.out.call hx.bl)
                    have YJ := Lib.hid (Lies.call YJ.out hx.bl)
                    have HX2 := Lib.hid hx
                    clear hx F32
                    obtain ⟨k0_0, k0_1, kf0, kg0⟩ := (FB2.out.get 3 rfl).two
                    have kz0 := (FB2.out.get 3 rfl).lt
                    obtain ⟨k1_0, k1_1, kf1, kg1⟩ := (FB2.out.get 2 rfl).two
                    have kz1 := (FB2.out.get 2 rfl).lt
                    have k2_0 := (FB2.out.get 1 rfl).cell 0
                    have k2_1 := (FB2.out.get 1 rfl).cell 1
                    have k2_2 := (FB2.out.get 1 rfl).cell 2
                    have k2_3 := (FB2.out.get 1 rfl).cell 3
                    have k2_4 := (FB2.out.get 1 rfl).cell 4
                    have k2_5 := (FB2.out.get 1 rfl).cell 5
                    have k2_6 := (FB2.out.get 1 rfl).cell 6
                    have kz2 := (FB2.out.get 1 rfl).lt
                    obtain ⟨k3_0, k3_1, kf3, kg3⟩ := (FB2.out.get 0 rfl).two
                    have kz3 := (FB2.out.get 0 rfl).lt
                    have FT1 := Lib.hid (FB2.out.more HX2.out.top)
                    clear FB2 HX2 k0_0 k0_1 kf0 kg0 kz0 k1_0 k1_1 kf1 kg1 kz1 k2_0 k2_1 k2_2 k2_3 k2_4 k2_5 k2_6 kz2 k3_0 k3_1 kf3 kg3 kz3
                    obtain ⟨k0_0, k0_1, kf0, kg0⟩ := (FT1.out.get 4 rfl).two
                    have kz0 := (FT1.out.get 4 rfl).lt
                    obtain ⟨k1_0, k1_1, kf1, kg1⟩ := (FT1.out.get 3 rfl).two
                    have kz1 := (FT1.out.get 3 rfl).lt
                    have k2_0 := (FT1.out.get 2 rfl).cell 0
                    have k2_1 := (FT1.out.get 2 rfl).cell 1
                    have k2_2 := (FT1.out.get 2 rfl).cell 2
                    have k2_3 := (FT1.out.get 2 rfl).cell 3
                    have k2_4 := (FT1.out.get 2 rfl).cell 4
                    have k2_5 := (FT1.out.get 2 rfl).cell 5
                    have k2_6 := (FT1.out.get 2 rfl).cell 6
                    have kz2 := (FT1.out.get 2 rfl).lt
                    obtain ⟨k3_0, k3_1, kf3, kg3⟩ := (FT1.out.get 1 rfl).two
                    have kz3 := (FT1.out.get 1 rfl).lt
                    obtain ⟨k4_0, k4_1, kf4, kg4⟩ := (FT1.out.get 0 rfl).two
                    have kz4 := (FT1.out.get 0 rfl).lt
                    go_upto_region 20 with fail
                    clear k0_0 k0_1 kf0 kg0 kz0 k1_0 k1_1 kf1 kg1 kz1 k2_0 k2_1 k2_2 k2_3 k2_4 k2_5 k2_6 kz2 k3_0 k3_1 kf3 kg3 kz3 k4_0 k4_1 kf4 kg4 kz4
                    go_cut [20, 21] from 234 to 244 (fun pv ev W => ∃ g : Nat, pv = .pointer (some ⟨g, 0, none⟩) ∧ ev = .int .i64 er2 ∧ Fr wb2 W [(g, 48, #[.int .i64 lo2, .int .i64 hi2])])
                    case first =>
                      refine wp_abs ?_
                      intro wnow hnow
                      have HALL : Hid (∀ W, Fr wb2 W [] → Fr wb2 W [] ∧ W.cell? ⟨w.heap.size, 0, none⟩ = some (.string s) ∧ W.cell? ⟨w.heap.size, 1, none⟩ = some (.slice (some a) ps.length c) ∧ W.cell? ⟨w.heap.size + 1, 0, none⟩ = some (.string s2) ∧ W.cell? ⟨w.heap.size + 1, 1, none⟩ = some (.slice (some a2) ps2.length c2) ∧ W.cell? ⟨w.heap.size + 1 + 1, 0, none⟩ = some (.int .i64 b.brk) ∧ W.cell? ⟨w.heap.size + 1 + 1, 1, none⟩ = some (.int .i64 b.drag) ∧ W.cell? ⟨w.heap.size + 1 + 1, 2, none⟩ = some (.int .i64 b.drv) ∧ W.cell? ⟨w.heap.size + 1 + 1, 3, none⟩ = some (.int .i64 (p : Int)) ∧ W.cell? ⟨w.heap.size + 1 + 1, 4, none⟩ = some (.int .i64 sq) ∧ W.cell? ⟨w.heap.size + 1 + 1, 5, none⟩ = some (.int .i64 (k : Int)) ∧ W.cell? ⟨w.heap.size + 1 + 1, 6, none⟩ = some (.slice (some ar) NR cr) ∧ W.cell? ⟨gj, 0, none⟩ = some (.string s) ∧ W.cell? ⟨gj, 1, none⟩ = some (.slice (some aj) M cj)) := Lib.hid (fun W hW => ⟨hW, ((FT1.out.get 4 rfl).call hW.bl).cell 0, ((FT1.out.get 4 rfl).call hW.bl).cell 1, ((FT1.out.get 3 rfl).call hW.bl).cell 0, ((FT1.out.get 3 rfl).call hW.bl).cell 1, ((FT1.out.get 2 rfl).call hW.bl).cell 0, ((FT1.out.get 2 rfl).call hW.bl).cell 1, ((FT1.out.get 2 rfl).call hW.bl).cell 2, ((FT1.out.get 2 rfl).call hW.bl).cell 3, ((FT1.out.get 2 rfl).call hW.bl).cell 4, ((FT1.out.get 2 rfl).call hW.bl).cell 5, ((FT1.out.get 2 rfl).call hW.bl).cell 6, ((FT1.out.get 1 rfl).call hW.bl).cell 0, ((FT1.out.get 1 rfl).call hW.bl).cell 1⟩)
                      have HAC := Lib.hid (Fr.lies HA.out FT1.out)
                      have F10 : Fr wb2 wnow [] := by subst hnow; exact Fr.nil _
                      clear hnow
                      have HRC := Lib.hid (Fr.lies HLR.out FT1.out)
                      have HAC2 := Lib.hid (Fr.lies HA2.out FT1.out)
                      refine Tw_start 13 (fun W => Fr wb2 W [] ∧ W.cell? ⟨w.heap.size, 0, none⟩ = some (.string s) ∧ W.cell? ⟨w.heap.size, 1, none⟩ = some (.slice (some a) ps.length c) ∧ W.cell? ⟨w.heap.size + 1, 0, none⟩ = some (.string s2) ∧ W.cell? ⟨w.heap.size + 1, 1, none⟩ = some (.slice (some a2) ps2.length c2) ∧ W.cell? ⟨w.heap.size + 1 + 1, 0, none⟩ = some (.int .i64 b.brk) ∧ W.cell? ⟨w.heap.size + 1 + 1, 1, none⟩ = some (.int .i64 b.drag) ∧ W.cell? ⟨w.heap.size + 1 + 1, 2, none⟩ = some (.int .i64 b.drv) ∧ W.cell? ⟨w.heap.size + 1 + 1, 3, none⟩ = some (.int .i64 (p : Int)) ∧ W.cell? ⟨w.heap.size + 1 + 1, 4, none⟩ = some (.int .i64 sq) ∧ W.cell? ⟨w.heap.size + 1 + 1, 5, none⟩ = some (.int .i64 (k : Int)) ∧ W.cell? ⟨w.heap.size + 1 + 1, 6, none⟩ = some (.slice (some ar) NR cr) ∧ W.cell? ⟨gj, 0, none⟩ = some (.string s) ∧ W.cell? ⟨gj, 1, none⟩ = some (.slice (some aj) M cj)) (by kernel_rfl) (by kernel_rfl) rfl ?_ ?_
                      · (try dsimp only)
                        ((go_split_ands; refine HALL.out _ ?_; (first | assumption | (repeat (first | assumption | refine Fr.new ?_ _ | refine Fr.drew ?_ | (refine Fr.set ?_ (by first | exact Nat.le_refl _ | omega | (simp; done) | (simp; omega)) (by first | (simp; done) | (simp; omega)) _))); done)))
                      refine Tw_takeL (i := 0) (v := ?tv33) rfl (by kernel_rfl) (by decide) (by kernel_rfl) (by kernel_rfl) (fun _ _ _ h => h) (by rfl) ?ty33 ?tn33
                      case ty33 => (intro w hSw; (try dsimp only at hSw); go_simp <;> with_reducible rfl)
                      (try simp only [Act.put, List.setIfInBounds_toArray, List.set_cons_zero, List.set_cons_succ])
                      refine Tw_takeL (i := 2) (v := ?tv34) rfl (by kernel_rfl) (by decide) (by kernel_rfl) (by kernel_rfl) (fun _ _ _ h => h) (by rfl) ?ty34 ?tn34
                      case ty34 => (intro w hSw; (try dsimp only at hSw); go_simp <;> with_reducible rfl)
                      (try simp only [Act.put, List.setIfInBounds_toArray, List.set_cons_zero, List.set_cons_succ])
                      refine Tw_takeL (i := 4) (v := ?tv35) rfl (by kernel_rfl) (by decide) (by kernel_rfl) (by kernel_rfl) (fun _ _ _ h => h) (by rfl) ?ty35 ?tn35
                      case ty35 => (intro w hSw; (try dsimp only at hSw); go_simp <;> with_reducible rfl)
                      (try simp only [Act.put, List.setIfInBounds_toArray, List.set_cons_zero, List.set_cons_succ])
                      refine Tw_takeL (i := 3) (v := ?tv36) rfl (by kernel_rfl) (by decide) (by kernel_rfl) (by kernel_rfl) (fun _ _ _ h => h) (by rfl) ?ty36 ?tn36
                      case ty36 => (intro w hSw; (try dsimp only at hSw); go_simp <;> with_reducible rfl)
                      (try simp only [Act.put, List.setIfInBounds_toArray, List.set_cons_zero, List.set_cons_succ])
                      refine Tw_takeL (i := 5) (v := ?tv37) rfl (by kernel_rfl) (by decide) (by kernel_rfl) (by kernel_rfl) (fun _ _ _ h => h) (by rfl) ?ty37 ?tn37
                      case ty37 => (intro w hSw; (try dsimp only at hSw); go_simp <;> with_reducible rfl)
                      (try simp only [Act.put, List.setIfInBounds_toArray, List.set_cons_zero, List.set_cons_succ])
                      refine Tw_all (rs := [1, 11]) (by kernel_rfl) (by simp) (by decide) (fun hHeld => ?_)
                      refine AllT.consL rfl (fun K hK => ?_) (AllT.consL rfl (fun K hK => ?_) (AllT.nil))
                      · go_simp
                        (go_at_call 10; go_split_ands; (with_reducible refine (Copy_any s2 ps2 ⟨some a2, c2⟩ (by omega) HG2.out _ (Fr.lies HAC2.out (by assumption))).mono ?_); rintro e w7 ⟨g3, rfl, hl3, hk3, hb7⟩; have L2 := Lib.hid hl3; have F4 := Fr.call (by assumption) hb7; (first | (have N1 := Lib.hid (Bk.call N1.out hb7)) | skip); clear hb7 hl3 hk3)
                        refine hK.out _ _ ?_ ?_
                        · (try dsimp only)
                          ((go_split_ands; refine HALL.out _ ?_; (first | assumption | (repeat (first | assumption | refine Fr.new ?_ _ | refine Fr.drew ?_ | (refine Fr.set ?_ (by first | exact Nat.le_refl _ | omega | (simp; done) | (simp; omega)) (by first | (simp; done) | (simp; omega)) _))); done)))
                        clear hK K
                        (try simp only [Act.put, List.setIfInBounds_toArray, List.set_cons_zero, List.set_cons_succ])
                        refine Tw_all (rs := [6, 11]) (by kernel_rfl) (by simp) (by decide) (fun hHeld => ?_)
                        refine AllT.consL rfl (fun K hK => ?_) (AllT.consL rfl (fun K hK => ?_) (AllT.nil))
                        · go_simp
                          (go_at_call 17; go_split_ands; (refine (HC2.out _ (Fr.lies HRC.out (by assumption))).mono ?_); rintro e w7 ⟨g4, rfl, hl4, hb7⟩; have L4 := Lib.hid hl4; have F4 := Fr.call (by assumption) hb7; (first | (have N1 := Lib.hid (Bk.call N1.out hb7)) | skip); (first | (have L2 := Lib.hid (Lies.call L2.out hb7)) | skip); clear hb7 hl4)
                          refine hK.out _ _ ?_ ?_
                          · (try dsimp only)
                            ((go_split_ands; refine HALL.out _ ?_; (first | assumption | (repeat (first | assumption | refine Fr.new ?_ _ | refine Fr.drew ?_ | (refine Fr.set ?_ (by first | exact Nat.le_refl _ | omega | (simp; done) | (simp; omega)) (by first | (simp; done) | (simp; omega)) _))); done)))
                          clear hK K
                          (try simp only [Act.put, List.setIfInBounds_toArray, List.set_cons_zero, List.set_cons_succ])
                          refine Tw_all (rs := [7, 11]) (by kernel_rfl) (by simp) (by decide) (fun hHeld => ?_)
                          refine AllT.consL rfl (fun K hK => ?_) (AllT.consL rfl (fun K hK => ?_) (AllT.nil))
                          · go_simp
                            (go_at_call 16; go_split_ands; (with_reducible refine (HT2.out _ _ _ _ _ L2.out L4.out).mono ?_); rintro e w7 ⟨rfl, hb7⟩; have F4 := Fr.call (by assumption) hb7; (first | (have N1 := Lib.hid (Bk.call N1.out hb7)) | skip); clear hb7)
                            refine hK.out _ _ ?_ ?_
                            · (try dsimp only)
                              ((go_split_ands; refine HALL.out _ ?_; (first | assumption | (repeat (first | assumption | refine Fr.new ?_ _ | refine Fr.drew ?_ | (refine Fr.set ?_ (by first | exact Nat.le_refl _ | omega | (simp; done) | (simp; omega)) (by first | (simp; done) | (simp; omega)) _))); done)))
                            clear hK K
                            (try simp only [Act.put, List.setIfInBounds_toArray, List.set_cons_zero, List.set_cons_succ])
                            refine Tw_takeL (i := 8) (v := ?tv38) rfl (by kernel_rfl) (by decide) (by kernel_rfl) (by kernel_rfl) (fun _ _ _ h => h) (by rfl) ?ty38 ?tn38
                            case ty38 => (intro w hSw; (try dsimp only at hSw); go_simp <;> with_reducible rfl)
                            (try simp only [Act.put, List.setIfInBounds_toArray, List.set_cons_zero, List.set_cons_succ])
                            refine Tw_takeL (i := 9) (v := ?tv39) rfl (by kernel_rfl) (by decide) (by kernel_rfl) (by kernel_rfl) (fun _ _ _ h => h) (by rfl) ?ty39 ?tn39
                            case ty39 => (intro w hSw; (try dsimp only at hSw); go_simp <;> with_reducible rfl)
                            (try simp only [Act.put, List.setIfInBounds_toArray, List.set_cons_zero, List.set_cons_succ])
                            refine Tw_takeL (i := 10) (v := ?tv40) rfl (by kernel_rfl) (by decide) (by kernel_rfl) (by kernel_rfl) (fun _ _ _ h => h) (by rfl) ?ty40 ?tn40
                            case ty40 => (intro w hSw; (try dsimp only at hSw); go_simp <;> with_reducible rfl)
                            (try simp only [Act.put, List.setIfInBounds_toArray, List.set_cons_zero, List.set_cons_succ])
                            refine Tw_all (rs := [11]) (by kernel_rfl) (by simp) (by decide) (fun hHeld => ?_)
                            refine AllT.consL rfl (fun K hK => ?_) (AllT.nil)
                            · go_simp
                              refine hK.out _ _ ?_ ?_
                              · (try dsimp only)
                                ((go_split_ands; refine HALL.out _ ?_; (first | assumption | (repeat (first | assumption | refine Fr.new ?_ _ | refine Fr.drew ?_ | (refine Fr.set ?_ (by first | exact Nat.le_refl _ | omega | (simp; done) | (simp; omega)) (by first | (simp; done) | (simp; omega)) _))); done)))
                              clear hK K
                              (try simp only [Act.put, List.setIfInBounds_toArray, List.set_cons_zero, List.set_cons_succ])
                              refine Tw_abs ?_
                              intro wA38 hA38
                              (first | (have N1 := Lib.hid (Bk.of_alloc hA38)) | (have N1 := Lib.hid (Bk.of_alloc_drew hA38)))
                              have zg := Lib.hid (show wb2.heap.size ≤ _ from hHeld.1.size)
                              (first | (have L2 := Lib.hid (Lies.alloc hA38 L2.out)) | (have L2 := Lib.hid (Lies.alloc_drew hA38 L2.out)) | skip)
                              (first | (have L4 := Lib.hid (Lies.alloc hA38 L4.out)) | (have L4 := Lib.hid (Lies.alloc_drew hA38 L4.out)) | skip)
                              clear hA38
                              refine Tw_all (rs := [12]) (by kernel_rfl) (by simp) (by decide) (fun hHeld => ?_)
                              refine AllT.consL rfl (fun K hK => ?_) (AllT.nil)
                              · have c0 := N1.out.cell 0
                                have c1 := N1.out.cell 1
                                have f0 := N1.out.frozen 0
                                have f1 := N1.out.frozen 1
                                have zN := N1.out.lt
                                go_simp
                                refine hK.out _ _ ?_ ?_
                                · exact HALL.out _ ((hHeld.1.set (p := ⟨_, 0, none⟩) zg.out (fun b hb => by simp at hb) _).set (p := ⟨_, 1, none⟩) zg.out (fun b hb => by simp at hb) _)
                                clear hK K c0 f0 c1 f1 zN
                                have N1 := Lib.hid (Bk.set2 N1.out (.int .i64 lo2) (.int .i64 hi2))
                                (try simp only [Act.put, List.setIfInBounds_toArray, List.set_cons_zero, List.set_cons_succ])
                                refine Tw_end (by kernel_rfl) (fun hh => ?_)
                                obtain ⟨F11, _⟩ := hh
                                clear HALL
                                go_wp2_with fail
                                go_meet
                                exact ⟨_, rfl, rfl, F11.more N1.out⟩
                          · go_simp
                            refine hK.out _ _ ?_ ?_
                            · (try dsimp only)
                              ((go_split_ands; refine HALL.out _ ?_; (first | assumption | (repeat (first | assumption | refine Fr.new ?_ _ | refine Fr.drew ?_ | (refine Fr.set ?_ (by first | exact Nat.le_refl _ | omega | (simp; done) | (simp; omega)) (by first | (simp; done) | (simp; omega)) _))); done)))
                            clear hK K
                            (try simp only [Act.put, List.setIfInBounds_toArray, List.set_cons_zero, List.set_cons_succ])
                            refine Tw_abs ?_
                            intro wA40 hA40
                            (first | (have N1 := Lib.hid (Bk.of_alloc hA40)) | (have N1 := Lib.hid (Bk.of_alloc_drew hA40)))
                            have zg := Lib.hid (show wb2.heap.size ≤ _ from hHeld.1.size)
                            (first | (have L2 := Lib.hid (Lies.alloc hA40 L2.out)) | (have L2 := Lib.hid (Lies.alloc_drew hA40 L2.out)) | skip)
                            (first | (have L4 := Lib.hid (Lies.alloc hA40 L4.out)) | (have L4 := Lib.hid (Lies.alloc_drew hA40 L4.out)) | skip)
                            clear hA40
                            refine Tw_all (rs := [7]) (by kernel_rfl) (by simp) (by decide) (fun hHeld => ?_)
                            refine AllT.consL rfl (fun K hK => ?_) (AllT.nil)
                            · go_simp
                              (go_at_call 16; go_split_ands; (with_reducible refine (HT2.out _ _ _ _ _ L2.out L4.out).mono ?_); rintro e w7 ⟨rfl, hb7⟩; have F4 := Fr.call (by assumption) hb7; (first | (have N1 := Lib.hid (Bk.call N1.out hb7)) | skip); clear hb7)
                              refine hK.out _ _ ?_ ?_
                              · (try dsimp only)
                                ((go_split_ands; refine HALL.out _ ?_; (first | assumption | (repeat (first | assumption | refine Fr.new ?_ _ | refine Fr.drew ?_ | (refine Fr.set ?_ (by first | exact Nat.le_refl _ | omega | (simp; done) | (simp; omega)) (by first | (simp; done) | (simp; omega)) _))); done)))
                              clear hK K
                              (try simp only [Act.put, List.setIfInBounds_toArray, List.set_cons_zero, List.set_cons_succ])
                              refine Tw_takeL (i := 8) (v := ?tv41) rfl (by kernel_rfl) (by decide) (by kernel_rfl) (by kernel_rfl) (fun _ _ _ h => h) (by rfl) ?ty41 ?tn41
                              case ty41 => (intro w hSw; (try dsimp only at hSw); go_simp <;> with_reducible rfl)
                              (try simp only [Act.put, List.setIfInBounds_toArray, List.set_cons_zero, List.set_cons_succ])
                              refine Tw_takeL (i := 9) (v := ?tv42) rfl (by kernel_rfl) (by decide) (by kernel_rfl) (by kernel_rfl) (fun _ _ _ h => h) (by rfl) ?ty42 ?tn42
                              case ty42 => (intro w hSw; (try dsimp only at hSw); go_simp <;> with_reducible rfl)
                              (try simp only [Act.put, List.setIfInBounds_toArray, List.set_cons_zero, List.set_cons_succ])
                              refine Tw_takeL (i := 10) (v := ?tv43) rfl (by kernel_rfl) (by decide) (by kernel_rfl) (by kernel_rfl) (fun _ _ _ h => h) (by rfl) ?ty43 ?tn43
                              case ty43 => (intro w hSw; (try dsimp only at hSw); go_simp <;> with_reducible rfl)
                              (try simp only [Act.put, List.setIfInBounds_toArray, List.set_cons_zero, List.set_cons_succ])
                              refine Tw_all (rs := [12]) (by kernel_rfl) (by simp) (by decide) (fun hHeld => ?_)
                              refine AllT.consL rfl (fun K hK => ?_) (AllT.nil)
                              · have c0 := N1.out.cell 0
                                have c1 := N1.out.cell 1
                                have f0 := N1.out.frozen 0
                                have f1 := N1.out.frozen 1
                                have zN := N1.out.lt
                                go_simp
                                refine hK.out _ _ ?_ ?_
                                · exact HALL.out _ ((hHeld.1.set (p := ⟨_, 0, none⟩) zg.out (fun b hb => by simp at hb) _).set (p := ⟨_, 1, none⟩) zg.out (fun b hb => by simp at hb) _)
                                clear hK K c0 f0 c1 f1 zN
                                have N1 := Lib.hid (Bk.set2 N1.out (.int .i64 lo2) (.int .i64 hi2))
                                (try simp only [Act.put, List.setIfInBounds_toArray, List.set_cons_zero, List.set_cons_succ])
                                refine Tw_end (by kernel_rfl) (fun hh => ?_)
                                obtain ⟨F11, _⟩ := hh
                                clear HALL
                                go_wp2_with fail
                                go_meet
                                exact ⟨_, rfl, rfl, F11.more N1.out⟩
                        · go_simp
                          refine hK.out _ _ ?_ ?_
                          · (try dsimp only)
                            ((go_split_ands; refine HALL.out _ ?_; (first | assumption | (repeat (first | assumption | refine Fr.new ?_ _ | refine Fr.drew ?_ | (refine Fr.set ?_ (by first | exact Nat.le_refl _ | omega | (simp; done) | (simp; omega)) (by first | (simp; done) | (simp; omega)) _))); done)))
                          clear hK K
                          (try simp only [Act.put, List.setIfInBounds_toArray, List.set_cons_zero, List.set_cons_succ])
                          refine Tw_abs ?_
                          intro wA43 hA43
                          (first | (have N1 := Lib.hid (Bk.of_alloc hA43)) | (have N1 := Lib.hid (Bk.of_alloc_drew hA43)))
                          have zg := Lib.hid (show wb2.heap.size ≤ _ from hHeld.1.size)
                          (first | (have L2 := Lib.hid (Lies.alloc hA43 L2.out)) | (have L2 := Lib.hid (Lies.alloc_drew hA43 L2.out)) | skip)
                          (first | (have L4 := Lib.hid (Lies.alloc hA43 L4.out)) | (have L4 := Lib.hid (Lies.alloc_drew hA43 L4.out)) | skip)
                          clear hA43
                          refine Tw_all (rs := [6]) (by kernel_rfl) (by simp) (by decide) (fun hHeld => ?_)
                          refine AllT.consL rfl (fun K hK => ?_) (AllT.nil)
                          · go_simp
                            (go_at_call 17; go_split_ands; (refine (HC2.out _ (Fr.lies HRC.out (by assumption))).mono ?_); rintro e w7 ⟨g4, rfl, hl4, hb7⟩; have L4 := Lib.hid hl4; have F4 := Fr.call (by assumption) hb7; (first | (have N1 := Lib.hid (Bk.call N1.out hb7)) | skip); (first | (have L2 := Lib.hid (Lies.call L2.out hb7)) | skip); clear hb7 hl4)
                            refine hK.out _ _ ?_ ?_
                            · (try dsimp only)
                              ((go_split_ands; refine HALL.out _ ?_; (first | assumption | (repeat (first | assumption | refine Fr.new ?_ _ | refine Fr.drew ?_ | (refine Fr.set ?_ (by first | exact Nat.le_refl _ | omega | (simp; done) | (simp; omega)) (by first | (simp; done) | (simp; omega)) _))); done)))
                            clear hK K
                            (try simp only [Act.put, List.setIfInBounds_toArray, List.set_cons_zero, List.set_cons_succ])
                            refine Tw_all (rs := [7]) (by kernel_rfl) (by simp) (by decide) (fun hHeld => ?_)
                            refine AllT.consL rfl (fun K hK => ?_) (AllT.nil)
                            · go_simp
                              (go_at_call 16; go_split_ands; (with_reducible refine (HT2.out _ _ _ _ _ L2.out L4.out).mono ?_); rintro e w7 ⟨rfl, hb7⟩; have F4 := Fr.call (by assumption) hb7; (first | (have N1 := Lib.hid (Bk.call N1.out hb7)) | skip); clear hb7)
                              refine hK.out _ _ ?_ ?_
                              · (try dsimp only)
                                ((go_split_ands; refine HALL.out _ ?_; (first | assumption | (repeat (first | assumption | refine Fr.new ?_ _ | refine Fr.drew ?_ | (refine Fr.set ?_ (by first | exact Nat.le_refl _ | omega | (simp; done) | (simp; omega)) (by first | (simp; done) | (simp; omega)) _))); done)))
                              clear hK K
                              (try simp only [Act.put, List.setIfInBounds_toArray, List.set_cons_zero, List.set_cons_succ])
                              refine Tw_takeL (i := 8) (v := ?tv44) rfl (by kernel_rfl) (by decide) (by kernel_rfl) (by kernel_rfl) (fun _ _ _ h => h) (by rfl) ?ty44 ?tn44
                              case ty44 => (intro w hSw; (try dsimp only at hSw); go_simp <;> with_reducible rfl)
                              (try simp only [Act.put, List.setIfInBounds_toArray, List.set_cons_zero, List.set_cons_succ])
                              refine Tw_takeL (i := 9) (v := ?tv45) rfl (by kernel_rfl) (by decide) (by kernel_rfl) (by kernel_rfl) (fun _ _ _ h => h) (by rfl) ?ty45 ?tn45
                              case ty45 => (intro w hSw; (try dsimp only at hSw); go_simp <;> with_reducible rfl)
                              (try simp only [Act.put, List.setIfInBounds_toArray, List.set_cons_zero, List.set_cons_succ])
                              refine Tw_takeL (i := 10) (v := ?tv46) rfl (by kernel_rfl) (by decide) (by kernel_rfl) (by kernel_rfl) (fun _ _ _ h => h) (by rfl) ?ty46 ?tn46
                              case ty46 => (intro w hSw; (try dsimp only at hSw); go_simp <;> with_reducible rfl)
                              (try simp only [Act.put, List.setIfInBounds_toArray, List.set_cons_zero, List.set_cons_succ])
                              refine Tw_all (rs := [12]) (by kernel_rfl) (by simp) (by decide) (fun hHeld => ?_)
                              refine AllT.consL rfl (fun K hK => ?_) (AllT.nil)
                              · have c0 := N1.out.cell 0
                                have c1 := N1.out.cell 1
                                have f0 := N1.out.frozen 0
                                have f1 := N1.out.frozen 1
                                have zN := N1.out.lt
                                go_simp
                                refine hK.out _ _ ?_ ?_
                                · exact HALL.out _ ((hHeld.1.set (p := ⟨_, 0, none⟩) zg.out (fun b hb => by simp at hb) _).set (p := ⟨_, 1, none⟩) zg.out (fun b hb => by simp at hb) _)
                                clear hK K c0 f0 c1 f1 zN
                                have N1 := Lib.hid (Bk.set2 N1.out (.int .i64 lo2) (.int .i64 hi2))
                                (try simp only [Act.put, List.setIfInBounds_toArray, List.set_cons_zero, List.set_cons_succ])
                                refine Tw_end (by kernel_rfl) (fun hh => ?_)
                                obtain ⟨F11, _⟩ := hh
                                clear HALL
                                go_wp2_with fail
                                go_meet
                                exact ⟨_, rfl, rfl, F11.more N1.out⟩
                      · go_simp
                        refine hK.out _ _ ?_ ?_
                        · (try dsimp only)
                          ((go_split_ands; refine HALL.out _ ?_; (first | assumption | (repeat (first | assumption | refine Fr.new ?_ _ | refine Fr.drew ?_ | (refine Fr.set ?_ (by first | exact Nat.le_refl _ | omega | (simp; done) | (simp; omega)) (by first | (simp; done) | (simp; omega)) _))); done)))
                        clear hK K
                        (try simp only [Act.put, List.setIfInBounds_toArray, List.set_cons_zero, List.set_cons_succ])
                        refine Tw_abs ?_
                        intro wA47 hA47
                        (first | (have N1 := Lib.hid (Bk.of_alloc hA47)) | (have N1 := Lib.hid (Bk.of_alloc_drew hA47)))
                        have zg := Lib.hid (show wb2.heap.size ≤ _ from hHeld.1.size)
                        (first | (have L2 := Lib.hid (Lies.alloc hA47 L2.out)) | (have L2 := Lib.hid (Lies.alloc_drew hA47 L2.out)) | skip)
                        (first | (have L4 := Lib.hid (Lies.alloc hA47 L4.out)) | (have L4 := Lib.hid (Lies.alloc_drew hA47 L4.out)) | skip)
                        clear hA47
                        refine Tw_all (rs := [1]) (by kernel_rfl) (by simp) (by decide) (fun hHeld => ?_)
                        refine AllT.consL rfl (fun K hK => ?_) (AllT.nil)
                        · go_simp
                          (go_at_call 10; go_split_ands; (with_reducible refine (Copy_any s2 ps2 ⟨some a2, c2⟩ (by omega) HG2.out _ (Fr.lies HAC2.out (by assumption))).mono ?_); rintro e w7 ⟨g3, rfl, hl3, hk3, hb7⟩; have L2 := Lib.hid hl3; have F4 := Fr.call (by assumption) hb7; (first | (have N1 := Lib.hid (Bk.call N1.out hb7)) | skip); clear hb7 hl3 hk3)
                          refine hK.out _ _ ?_ ?_
                          · (try dsimp only)
                            ((go_split_ands; refine HALL.out _ ?_; (first | assumption | (repeat (first | assumption | refine Fr.new ?_ _ | refine Fr.drew ?_ | (refine Fr.set ?_ (by first | exact Nat.le_refl _ | omega | (simp; done) | (simp; omega)) (by first | (simp; done) | (simp; omega)) _))); done)))
                          clear hK K
                          (try simp only [Act.put, List.setIfInBounds_toArray, List.set_cons_zero, List.set_cons_succ])
                          refine Tw_all (rs := [6]) (by kernel_rfl) (by simp) (by decide) (fun hHeld => ?_)
                          refine AllT.consL rfl (fun K hK => ?_) (AllT.nil)
                          · go_simp
                            (go_at_call 17; go_split_ands; (refine (HC2.out _ (Fr.lies HRC.out (by assumption))).mono ?_); rintro e w7 ⟨g4, rfl, hl4, hb7⟩; have L4 := Lib.hid hl4; have F4 := Fr.call (by assumption) hb7; (first | (have N1 := Lib.hid (Bk.call N1.out hb7)) | skip); (first | (have L2 := Lib.hid (Lies.call L2.out hb7)) | skip); clear hb7 hl4)
                            refine hK.out _ _ ?_ ?_
                            · (try dsimp only)
                              ((go_split_ands; refine HALL.out _ ?_; (first | assumption | (repeat (first | assumption | refine Fr.new ?_ _ | refine Fr.drew ?_ | (refine Fr.set ?_ (by first | exact Nat.le_refl _ | omega | (simp; done) | (simp; omega)) (by first | (simp; done) | (simp; omega)) _))); done)))
                            clear hK K
                            (try simp only [Act.put, List.setIfInBounds_toArray, List.set_cons_zero, List.set_cons_succ])
                            refine Tw_all (rs := [7]) (by kernel_rfl) (by simp) (by decide) (fun hHeld => ?_)
                            refine AllT.consL rfl (fun K hK => ?_) (AllT.nil)
                            · go_simp
                              (go_at_call 16; go_split_ands; (with_reducible refine (HT2.out _ _ _ _ _ L2.out L4.out).mono ?_); rintro e w7 ⟨rfl, hb7⟩; have F4 := Fr.call (by assumption) hb7; (first | (have N1 := Lib.hid (Bk.call N1.out hb7)) | skip); clear hb7)
                              refine hK.out _ _ ?_ ?_
                              · (try dsimp only)
                                ((go_split_ands; refine HALL.out _ ?_; (first | assumption | (repeat (first | assumption | refine Fr.new ?_ _ | refine Fr.drew ?_ | (refine Fr.set ?_ (by first | exact Nat.le_refl _ | omega | (simp; done) | (simp; omega)) (by first | (simp; done) | (simp; omega)) _))); done)))
                              clear hK K
                              (try simp only [Act.put, List.setIfInBounds_toArray, List.set_cons_zero, List.set_cons_succ])
                              refine Tw_takeL (i := 8) (v := ?tv47) rfl (by kernel_rfl) (by decide) (by kernel_rfl) (by kernel_rfl) (fun _ _ _ h => h) (by rfl) ?ty47 ?tn47
                              case ty47 => (intro w hSw; (try dsimp only at hSw); go_simp <;> with_reducible rfl)
                              (try simp only [Act.put, List.setIfInBounds_toArray, List.set_cons_zero, List.set_cons_succ])
                              refine Tw_takeL (i := 9) (v := ?tv48) rfl (by kernel_rfl) (by decide) (by kernel_rfl) (by kernel_rfl) (fun _ _ _ h => h) (by rfl) ?ty48 ?tn48
                              case ty48 => (intro w hSw; (try dsimp only at hSw); go_simp <;> with_reducible rfl)
                              (try simp only [Act.put, List.setIfInBounds_toArray, List.set_cons_zero, List.set_cons_succ])
                              refine Tw_takeL (i := 10) (v := ?tv49) rfl (by kernel_rfl) (by decide) (by kernel_rfl) (by kernel_rfl) (fun _ _ _ h => h) (by rfl) ?ty49 ?tn49
                              case ty49 => (intro w hSw; (try dsimp only at hSw); go_simp <;> with_reducible rfl)
                              (try simp only [Act.put, List.setIfInBounds_toArray, List.set_cons_zero, List.set_cons_succ])
                              refine Tw_all (rs := [12]) (by kernel_rfl) (by simp) (by decide) (fun hHeld => ?_)
                              refine AllT.consL rfl (fun K hK => ?_) (AllT.nil)
                              · have c0 := N1.out.cell 0
                                have c1 := N1.out.cell 1
                                have f0 := N1.out.frozen 0
                                have f1 := N1.out.frozen 1
                                have zN := N1.out.lt
                                go_simp
                                refine hK.out _ _ ?_ ?_
                                · exact HALL.out _ ((hHeld.1.set (p := ⟨_, 0, none⟩) zg.out (fun b hb => by simp at hb) _).set (p := ⟨_, 1, none⟩) zg.out (fun b hb => by simp at hb) _)
                                clear hK K c0 f0 c1 f1 zN
                                have N1 := Lib.hid (Bk.set2 N1.out (.int .i64 lo2) (.int .i64 hi2))
                                (try simp only [Act.put, List.setIfInBounds_toArray, List.set_cons_zero, List.set_cons_succ])
                                refine Tw_end (by kernel_rfl) (fun hh => ?_)
                                obtain ⟨F11, _⟩ := hh
                                clear HALL
                                go_wp2_with fail
                                go_meet
                                exact ⟨_, rfl, rfl, F11.more N1.out⟩
                    case rest =>
                      obtain ⟨wb3, rfl⟩ : ∃ W, W = wc := ⟨_, rfl⟩
                      obtain ⟨gt2, rfl, rfl, hx⟩ := hcut
                      have FB3 := Lib.hid (FT1.out.call hx.bl)
                      have YJ := Lib.hid (Lies.call YJ.out hx.bl)
                      have HX3 := Lib.hid hx
                      clear hx FT1
                      obtain ⟨k0_0, k0_1, kf0, kg0⟩ := (FB3.out.get 4 rfl).two
                      have kz0 := (FB3.out.get 4 rfl).lt
                      obtain ⟨k1_0, k1_1, kf1, kg1⟩ := (FB3.out.get 3 rfl).two
                      have kz1 := (FB3.out.get 3 rfl).lt
                      have k2_0 := (FB3.out.get 2 rfl).cell 0
                      have k2_1 := (FB3.out.get 2 rfl).cell 1
                      have k2_2 := (FB3.out.get 2 rfl).cell 2
                      have k2_3 := (FB3.out.get 2 rfl).cell 3
                      have k2_4 := (FB3.out.get 2 rfl).cell 4
                      have k2_5 := (FB3.out.get 2 rfl).cell 5
                      have k2_6 := (FB3.out.get 2 rfl).cell 6
                      have kz2 := (FB3.out.get 2 rfl).lt
                      obtain ⟨k3_0, k3_1, kf3, kg3⟩ := (FB3.out.get 1 rfl).two
                      have kz3 := (FB3.out.get 1 rfl).lt
                      obtain ⟨k4_0, k4_1, kf4, kg4⟩ := (FB3.out.get 0 rfl).two
                      have kz4 := (FB3.out.get 0 rfl).lt
                      have FT2 := Lib.hid (FB3.out.more HX3.out.top)
                      clear FB3 HX3 k0_0 k0_1 kf0 kg0 kz0 k1_0 k1_1 kf1 kg1 kz1 k2_0 k2_1 k2_2 k2_3 k2_4 k2_5 k2_6 kz2 k3_0 k3_1 kf3 kg3 kz3 k4_0 k4_1 kf4 kg4 kz4
                      obtain ⟨k0_0, k0_1, kf0, kg0⟩ := (FT2.out.get 5 rfl).two
                      have kz0 := (FT2.out.get 5 rfl).lt
                      obtain ⟨k1_0, k1_1, kf1, kg1⟩ := (FT2.out.get 4 rfl).two
                      have kz1 := (FT2.out.get 4 rfl).lt
                      have k2_0 := (FT2.out.get 3 rfl).cell 0
                      have k2_1 := (FT2.out.get 3 rfl).cell 1
                      have k2_2 := (FT2.out.get 3 rfl).cell 2
                      have k2_3 := (FT2.out.get 3 rfl).cell 3
                      have k2_4 := (FT2.out.get 3 rfl).cell 4
                      have k2_5 := (FT2.out.get 3 rfl).cell 5
                      have k2_6 := (FT2.out.get 3 rfl).cell 6
                      have kz2 := (FT2.out.get 3 rfl).lt
                      obtain ⟨k3_0, k3_1, kf3, kg3⟩ := (FT2.out.get 2 rfl).two
                      have kz3 := (FT2.out.get 2 rfl).lt
                      obtain ⟨k4_0, k4_1, kf4, kg4⟩ := (FT2.out.get 1 rfl).two
                      have kz4 := (FT2.out.get 1 rfl).lt
                      obtain ⟨k5_0, k5_1, kf5, kg5⟩ := (FT2.out.get 0 rfl).two
                      have kz5 := (FT2.out.get 0 rfl).lt
                      go_upto_region 21 with fail
                      clear k0_0 k0_1 kf0 kg0 kz0 k1_0 k1_1 kf1 kg1 kz1 k2_0 k2_1 k2_2 k2_3 k2_4 k2_5 k2_6 kz2 k3_0 k3_1 kf3 kg3 kz3 k4_0 k4_1 kf4 kg4 kz4 k5_0 k5_1 kf5 kg5 kz5
                      go_cut [22, 23] from 245 to 253 (fun pv ev W => ∃ g : Nat, pv = .pointer (some ⟨g, 0, none⟩) ∧ ev = .int .i64 er3 ∧ Fr wb3 W [(g, 48, #[.int .i64 lo3, .int .i64 hi3])])
                      case first =>
                        refine wp_abs ?_
                        intro wnow hnow
                        have HALL : Hid (∀ W, Fr wb3 W [] → Fr wb3 W [] ∧ W.cell? ⟨w.heap.size, 0, none⟩ = some (.string s) ∧ W.cell? ⟨w.heap.size, 1, none⟩ = some (.slice (some a) ps.length c) ∧ W.cell? ⟨w.heap.size + 1, 0, none⟩ = some (.string s2) ∧ W.cell? ⟨w.heap.size + 1, 1, none⟩ = some (.slice (some a2) ps2.length c2) ∧ W.cell? ⟨w.heap.size + 1 + 1, 0, none⟩ = some (.int .i64 b.brk) ∧ W.cell? ⟨w.heap.size + 1 + 1, 1, none⟩ = some (.int .i64 b.drag) ∧ W.cell? ⟨w.heap.size + 1 + 1, 2, none⟩ = some (.int .i64 b.drv) ∧ W.cell? ⟨w.heap.size + 1 + 1, 3, none⟩ = some (.int .i64 (p : Int)) ∧ W.cell? ⟨w.heap.size + 1 + 1, 4, none⟩ = some (.int .i64 sq) ∧ W.cell? ⟨w.heap.size + 1 + 1, 5, none⟩ = some (.int .i64 (k : Int)) ∧ W.cell? ⟨w.heap.size + 1 + 1, 6, none⟩ = some (.slice (some ar) NR cr) ∧ W.cell? ⟨gj, 0, none⟩ = some (.string s) ∧ W.cell? ⟨gj, 1, none⟩ = some (.slice (some aj) M cj)) := Lib.hid (fun W hW => ⟨hW, ((FT2.out.get 5 rfl).call hW.bl).cell 0, ((FT2.out.get 5 rfl).call hW.bl).cell 1, ((FT2.out.get 4 rfl).call hW.bl).cell 0, ((FT2.out.get 4 rfl).call hW.bl).cell 1, ((FT2.out.get 3 rfl).call hW.bl).cell 0, ((FT2.out.get 3 rfl).call hW.bl).cell 1, ((FT2.out.get 3 rfl).call hW.bl).cell 2, ((FT2.out.get 3 rfl).call hW.bl).cell 3, ((FT2.out.get 3 rfl).call hW.bl).cell 4, ((FT2.out.get 3 rfl).call hW.bl).cell 5, ((FT2.out.get 3 rfl).call hW.bl).cell 6, ((FT2.out.get 2 rfl).call hW.bl).cell 0, ((FT2.out.get 2 rfl).call hW.bl).cell 1⟩)
                        have HAC := Lib.hid (Fr.lies HA.out FT2.out)
                        have F10 : Fr wb3 wnow [] := by subst hnow; exact Fr.nil _
                        clear hnow
                        have HRC := Lib.hid (Fr.lies HLR.out FT2.out)
                        have HAC2 := Lib.hid (Fr.lies HA2.out FT2.out)
                        refine Tw_start 11 (fun W => Fr wb3 W [] ∧ W.cell? ⟨w.heap.size, 0, none⟩ = some (.string s) ∧ W.cell? ⟨w.heap.size, 1, none⟩ = some (.slice (some a) ps.length c) ∧ W.cell? ⟨w.heap.size + 1, 0, none⟩ = some (.string s2) ∧ W.cell? ⟨w.heap.size + 1, 1, none⟩ = some (.slice (some a2) ps2.length c2) ∧ W.cell? ⟨w.heap.size + 1 + 1, 0, none⟩ = some (.int .i64 b.brk) ∧ W.cell? ⟨w.heap.size + 1 + 1, 1, none⟩ = some (.int .i64 b.drag) ∧ W.cell? ⟨w.heap.size + 1 + 1, 2, none⟩ = some (.int .i64 b.drv) ∧ W.cell? ⟨w.heap.size + 1 + 1, 3, none⟩ = some (.int .i64 (p : Int)) ∧ W.cell? ⟨w.heap.size + 1 + 1, 4, none⟩ = some (.int .i64 sq) ∧ W.cell? ⟨w.heap.size + 1 + 1, 5, none⟩ = some (.int .i64 (k : Int)) ∧ W.cell? ⟨w.heap.size + 1 + 1, 6, none⟩ = some (.slice (some ar) NR cr) ∧ W.cell? ⟨gj, 0, none⟩ = some (.string s) ∧ W.cell? ⟨gj, 1, none⟩ = some (.slice (some aj) M cj)) (by kernel_rfl) (by kernel_rfl) rfl ?_ ?_
                        · (try dsimp only)
                          ((go_split_ands; refine HALL.out _ ?_; (first | assumption | (repeat (first | assumption | refine Fr.new ?_ _ | refine Fr.drew ?_ | (refine Fr.set ?_ (by first | exact Nat.le_refl _ | omega | (simp; done) | (simp; omega)) (by first | (simp; done) | (simp; omega)) _))); done)))
                        refine Tw_takeL (i := 0) (v := ?tv50) rfl (by kernel_rfl) (by decide) (by kernel_rfl) (by kernel_rfl) (fun _ _ _ h => h) (by rfl) ?ty50 ?tn50
                        case ty50 => (intro w hSw; (try dsimp only at hSw); go_simp <;> with_reducible rfl)
                        (try simp only [Act.put, List.setIfInBounds_toArray, List.set_cons_zero, List.set_cons_succ])
                        refine Tw_takeL (i := 2) (v := ?tv51) rfl (by kernel_rfl) (by decide) (by kernel_rfl) (by kernel_rfl) (fun _ _ _ h => h) (by rfl) ?ty51 ?tn51
                        case ty51 => (intro w hSw; (try dsimp only at hSw); go_simp <;> with_reducible rfl)
                        (try simp only [Act.put, List.setIfInBounds_toArray, List.set_cons_zero, List.set_cons_succ])
                        refine Tw_takeL (i := 3) (v := ?tv52) rfl (by kernel_rfl) (by decide) (by kernel_rfl) (by kernel_rfl) (fun _ _ _ h => h) (by rfl) ?ty52 ?tn52
                        case ty52 => (intro w hSw; (try dsimp only at hSw); go_simp <;> with_reducible rfl)
                        (try simp only [Act.put, List.setIfInBounds_toArray, List.set_cons_zero, List.set_cons_succ])
                        refine Tw_all (rs := [1, 9]) (by kernel_rfl) (by simp) (by decide) (fun hHeld => ?_)
                        refine AllT.consL rfl (fun K hK => ?_) (AllT.consL rfl (fun K hK => ?_) (AllT.nil))
                        · go_simp
                          (go_at_call 10; go_split_ands; (with_reducible refine (HCPJ.out _ (Fr.lies YJ.out (by assumption))).mono ?_); rintro e w7 ⟨g3, rfl, hl3, hk3, hb7⟩; have L2 := Lib.hid hl3; have F4 := Fr.call (by assumption) hb7; (first | (have N1 := Lib.hid (Bk.call N1.out hb7)) | skip); clear hb7 hl3 hk3)
                          refine hK.out _ _ ?_ ?_
                          · (try dsimp only)
                            ((go_split_ands; refine HALL.out _ ?_; (first | assumption | (repeat (first | assumption | refine Fr.new ?_ _ | refine Fr.drew ?_ | (refine Fr.set ?_ (by first | exact Nat.le_refl _ | omega | (simp; done) | (simp; omega)) (by first | (simp; done) | (simp; omega)) _))); done)))
                          clear hK K
                          (try simp only [Act.put, List.setIfInBounds_toArray, List.set_cons_zero, List.set_cons_succ])
                          refine Tw_all (rs := [4, 9]) (by kernel_rfl) (by simp) (by decide) (fun hHeld => ?_)
                          refine AllT.consL rfl (fun K hK => ?_) (AllT.consL rfl (fun K hK => ?_) (AllT.nil))
                          · go_simp
                            (go_at_call 17; go_split_ands; (refine (HC3.out _ (Fr.lies HRC.out (by assumption))).mono ?_); rintro e w7 ⟨g4, rfl, hl4, hb7⟩; have L4 := Lib.hid hl4; have F4 := Fr.call (by assumption) hb7; (first | (have N1 := Lib.hid (Bk.call N1.out hb7)) | skip); (first | (have L2 := Lib.hid (Lies.call L2.out hb7)) | skip); clear hb7 hl4)
                            refine hK.out _ _ ?_ ?_
                            · (try dsimp only)
                              ((go_split_ands; refine HALL.out _ ?_; (first | assumption | (repeat (first | assumption | refine Fr.new ?_ _ | refine Fr.drew ?_ | (refine Fr.set ?_ (by first | exact Nat.le_refl _ | omega | (simp; done) | (simp; omega)) (by first | (simp; done) | (simp; omega)) _))); done)))
                            clear hK K
                            (try simp only [Act.put, List.setIfInBounds_toArray, List.set_cons_zero, List.set_cons_succ])
                            refine Tw_all (rs := [5, 9]) (by kernel_rfl) (by simp) (by decide) (fun hHeld => ?_)
                            refine AllT.consL rfl (fun K hK => ?_) (AllT.consL rfl (fun K hK => ?_) (AllT.nil))
                            · go_simp
                              (go_at_call 16; go_split_ands; (with_reducible refine (HT3.out _ _ _ _ _ L2.out L4.out).mono ?_); rintro e w7 ⟨rfl, hb7⟩; have F4 := Fr.call (by assumption) hb7; (first | (have N1 := Lib.hid (Bk.call N1.out hb7)) | skip); clear hb7)
                              refine hK.out _ _ ?_ ?_
                              · (try dsimp only)
                                ((go_split_ands; refine HALL.out _ ?_; (first | assumption | (repeat (first | assumption | refine Fr.new ?_ _ | refine Fr.drew ?_ | (refine Fr.set ?_ (by first | exact Nat.le_refl _ | omega | (simp; done) | (simp; omega)) (by first | (simp; done) | (simp; omega)) _))); done)))
                              clear hK K
                              (try simp only [Act.put, List.setIfInBounds_toArray, List.set_cons_zero, List.set_cons_succ])
                              refine Tw_takeL (i := 6) (v := ?tv53) rfl (by kernel_rfl) (by decide) (by kernel_rfl) (by kernel_rfl) (fun _ _ _ h => h) (by rfl) ?ty53 ?tn53
                              case ty53 => (intro w hSw; (try dsimp only at hSw); go_simp <;> with_reducible rfl)
                              (try simp only [Act.put, List.setIfInBounds_toArray, List.set_cons_zero, List.set_cons_succ])
                              refine Tw_takeL (i := 7) (v := ?tv54) rfl (by kernel_rfl) (by decide) (by kernel_rfl) (by kernel_rfl) (fun _ _ _ h => h) (by rfl) ?ty54 ?tn54
                              case ty54 => (intro w hSw; (try dsimp only at hSw); go_simp <;> with_reducible rfl)
                              (try simp only [Act.put, List.setIfInBounds_toArray, List.set_cons_zero, List.set_cons_succ])
                              refine Tw_takeL (i := 8) (v := ?tv55) rfl (by kernel_rfl) (by decide) (by kernel_rfl) (by kernel_rfl) (fun _ _ _ h => h) (by rfl) ?ty55 ?tn55
                              case ty55 => (intro w hSw; (try dsimp only at hSw); go_simp <;> with_reducible rfl)
                              (try simp only [Act.put, List.setIfInBounds_toArray, List.set_cons_zero, List.set_cons_succ])
                              refine Tw_all (rs := [9]) (by kernel_rfl) (by simp) (by decide) (fun hHeld => ?_)
                              refine AllT.consL rfl (fun K hK => ?_) (AllT.nil)
                              · go_simp
                                refine hK.out _ _ ?_ ?_
                                · (try dsimp only)
                                  ((go_split_ands; refine HALL.out _ ?_; (first | assumption | (repeat (first | assumption | refine Fr.new ?_ _ | refine Fr.drew ?_ | (refine Fr.set ?_ (by first | exact Nat.le_refl _ | omega | (simp; done) | (simp; omega)) (by first | (simp; done) | (simp; omega)) _))); done)))
                                clear hK K
                                (try simp only [Act.put, List.setIfInBounds_toArray, List.set_cons_zero, List.set_cons_succ])
                                refine Tw_abs ?_
                                intro wA55 hA55
                                (first | (have N1 := Lib.hid (Bk.of_alloc hA55)) | (have N1 := Lib.hid (Bk.of_alloc_drew hA55)))
                                have zg := Lib.hid (show wb3.heap.size ≤ _ from hHeld.1.size)
                                (first | (have L2 := Lib.hid (Lies.alloc hA55 L2.out)) | (have L2 := Lib.hid (Lies.alloc_drew hA55 L2.out)) | skip)
                                (first | (have L4 := Lib.hid (Lies.alloc hA55 L4.out)) | (have L4 := Lib.hid (Lies.alloc_drew hA55 L4.out)) | skip)
                                clear hA55
                                refine Tw_all (rs := [10]) (by kernel_rfl) (by simp) (by decide) (fun hHeld => ?_)
                                refine AllT.consL rfl (fun K hK => ?_) (AllT.nil)
                                · have c0 := N1.out.cell 0
                                  have c1 := N1.out.cell 1
                                  have f0 := N1.out.frozen 0
                                  have f1 := N1.out.frozen 1
                                  have zN := N1.out.lt
                                  go_simp
                                  refine hK.out _ _ ?_ ?_
                                  · exact HALL.out _ ((hHeld.1.set (p := ⟨_, 0, none⟩) zg.out (fun b hb => by simp at hb) _).set (p := ⟨_, 1, none⟩) zg.out (fun b hb => by simp at hb) _)
                                  clear hK K c0 f0 c1 f1 zN
                                  have N1 := Lib.hid (Bk.set2 N1.out (.int .i64 lo3) (.int .i64 hi3))
                                  (try simp only [Act.put, List.setIfInBounds_toArray, List.set_cons_zero, List.set_cons_succ])
                                  refine Tw_end (by kernel_rfl) (fun hh => ?_)
                                  obtain ⟨F11, _⟩ := hh
                                  clear HALL
                                  go_wp2_with fail
                                  go_meet
                                  exact ⟨_, rfl, rfl, F11.more N1.out⟩
                            · go_simp
                              refine hK.out _ _ ?_ ?_
                              · (try dsimp only)
                                ((go_split_ands; refine HALL.out _ ?_; (first | assumption | (repeat (first | assumption | refine Fr.new ?_ _ | refine Fr.drew ?_ | (refine Fr.set ?_ (by first | exact Nat.le_refl _ | omega | (simp; done) | (simp; omega)) (by first | (simp; done) | (simp; omega)) _))); done)))
                              clear hK K
                              (try simp only [Act.put, List.setIfInBounds_toArray, List.set_cons_zero, List.set_cons_succ])
                              refine Tw_abs ?_
                              intro wA57 hA57
                              (first | (have N1 := Lib.hid (Bk.of_alloc hA57)) | (have N1 := Lib.hid (Bk.of_alloc_drew hA57)))
                              have zg := Lib.hid (show wb3.heap.size ≤ _ from hHeld.1.size)
                              (first | (have L2 := Lib.hid (Lies.alloc hA57 L2.out)) | (have L2 := Lib.hid (Lies.alloc_drew hA57 L2.out)) | skip)
                              (first | (have L4 := Lib.hid (Lies.alloc hA57 L4.out)) | (have L4 := Lib.hid (Lies.alloc_drew hA57 L4.out)) | skip)
                              clear hA57
                              refine Tw_all (rs := [5]) (by kernel_rfl) (by simp) (by decide) (fun hHeld => ?_)
                              refine AllT.consL rfl (fun K hK => ?_) (AllT.nil)
                              · go_simp
                                (go_at_call 16; go_split_ands; (with_reducible refine (HT3.out _ _ _ _ _ L2.out L4.out).mono ?_); rintro e w7 ⟨rfl, hb7⟩; have F4 := Fr.call (by assumption) hb7; (first | (have N1 := Lib.hid (Bk.call N1.out hb7)) | skip); clear hb7)
                                refine hK.out _ _ ?_ ?_
                                · (try dsimp only)
                                  ((go_split_ands; refine HALL.out _ ?_; (first | assumption | (repeat (first | assumption | refine Fr.new ?_ _ | refine Fr.drew ?_ | (refine Fr.set ?_ (by first | exact Nat.le_refl _ | omega | (simp; done) | (simp; omega)) (by first | (simp; done) | (simp; omega)) _))); done)))
                                clear hK K
                                (try simp only [Act.put, List.setIfInBounds_toArray, List.set_cons_zero, List.set_cons_succ])
                                refine Tw_takeL (i := 6) (v := ?tv56) rfl (by kernel_rfl) (by decide) (by kernel_rfl) (by kernel_rfl) (fun _ _ _ h => h) (by rfl) ?ty56 ?tn56
                                case ty56 => (intro w hSw; (try dsimp only at hSw); go_simp <;> with_reducible rfl)
                                (try simp only [Act.put, List.setIfInBounds_toArray, List.set_cons_zero, List.set_cons_succ])
                                refine Tw_takeL (i := 7) (v := ?tv57) rfl (by kernel_rfl) (by decide) (by kernel_rfl) (by kernel_rfl) (fun _ _ _ h => h) (by rfl) ?ty57 ?tn57
                                case ty57 => (intro w hSw; (try dsimp only at hSw); go_simp <;> with_reducible rfl)
                                (try simp only [Act.put, List.setIfInBounds_toArray, List.set_cons_zero, List.set_cons_succ])
                                refine Tw_takeL (i := 8) (v := ?tv58) rfl (by kernel_rfl) (by decide) (by kernel_rfl) (by kernel_rfl) (fun _ _ _ h => h) (by rfl) ?ty58 ?tn58
                                case ty58 => (intro w hSw; (try dsimp only at hSw); go_simp <;> with_reducible rfl)
                                (try simp only [Act.put, List.setIfInBounds_toArray, List.set_cons_zero, List.set_cons_succ])
                                refine Tw_all (rs := [10]) (by kernel_rfl) (by simp) (by decide) (fun hHeld => ?_)
                                refine AllT.consL rfl (fun K hK => ?_) (AllT.nil)
                                · have c0 := N1.out.cell 0
                                  have c1 := N1.out.cell 1
                                  have f0 := N1.out.frozen 0
                                  have f1 := N1.out.frozen 1
                                  have zN := N1.out.lt
                                  go_simp
                                  refine hK.out _ _ ?_ ?_
                                  · exact HALL.out _ ((hHeld.1.set (p := ⟨_, 0, none⟩) zg.out (fun b hb => by simp at hb) _).set (p := ⟨_, 1, none⟩) zg.out (fun b hb => by simp at hb) _)
                                  clear hK K c0 f0 c1 f1 zN
                                  have N1 := Lib.hid (Bk.set2 N1.out (.int .i64 lo3) (.int .i64 hi3))
                                  (try simp only [Act.put, List.setIfInBounds_toArray, List.set_cons_zero, List.set_cons_succ])
                                  refine Tw_end (by kernel_rfl) (fun hh => ?_)
                                  obtain ⟨F11, _⟩ := hh
                                  clear HALL
                                  go_wp2_with fail
                                  go_meet
                                  exact ⟨_, rfl, rfl, F11.more N1.out⟩
                          · go_simp
                            refine hK.out _ _ ?_ ?_
                            · (try dsimp only)
                              ((go_split_ands; refine HALL.out _ ?_; (first | assumption | (repeat (first | assumption | refine Fr.new ?_ _ | refine Fr.drew ?_ | (refine Fr.set ?_ (by first | exact Nat.le_refl _ | omega | (simp; done) | (simp; omega)) (by first | (simp; done) | (simp; omega)) _))); done)))
                            clear hK K
                            (try simp only [Act.put, List.setIfInBounds_toArray, List.set_cons_zero, List.set_cons_succ])
                            refine Tw_abs ?_
                            intro wA60 hA60
                            (first | (have N1 := Lib.hid (Bk.of_alloc hA60)) | (have N1 := Lib.hid (Bk.of_alloc_drew hA60)))
                            have zg := Lib.hid (show wb3.heap.size ≤ _ from hHeld.1.size)
                            (first | (have L2 := Lib.hid (Lies.alloc hA60 L2.out)) | (have L2 := Lib.hid (Lies.alloc_drew hA60 L2.out)) | skip)
                            (first | (have L4 := Lib.hid (Lies.alloc hA60 L4.out)) | (have L4 := Lib.hid (Lies.alloc_drew hA60 L4.out)) | skip)
                            clear hA60
                            refine Tw_all (rs := [4]) (by kernel_rfl) (by simp) (by decide) (fun hHeld => ?_)
                            refine AllT.consL rfl (fun K hK => ?_) (AllT.nil)
                            · go_simp
                              (go_at_call 17; go_split_ands; (refine (HC3.out _ (Fr.lies HRC.out (by assumption))).mono ?_); rintro e w7 ⟨g4, rfl, hl4, hb7⟩; have L4 := Lib.hid hl4; have F4 := Fr.call (by assumption) hb7; (first | (have N1 := Lib.hid (Bk.call N1.out hb7)) | skip); (first | (have L2 := Lib.hid (Lies.call L2.out hb7)) | skip); clear hb7 hl4)
                              refine hK.out _ _ ?_ ?_
                              · (try dsimp only)
                                ((go_split_ands; refine HALL.out _ ?_; (first | assumption | (repeat (first | assumption | refine Fr.new ?_ _ | refine Fr.drew ?_ | (refine Fr.set ?_ (by first | exact Nat.le_refl _ | omega | (simp; done) | (simp; omega)) (by first | (simp; done) | (simp; omega)) _))); done)))
                              clear hK K
                              (try simp only [Act.put, List.setIfInBounds_toArray, List.set_cons_zero, List.set_cons_succ])
                              refine Tw_all (rs := [5]) (by kernel_rfl) (by simp) (by decide) (fun hHeld => ?_)
                              refine AllT.consL rfl (fun K hK => ?_) (AllT.nil)
                              · go_simp
                                (go_at_call 16; go_split_ands; (with_reducible refine (HT3.out _ _ _ _ _ L2.out L4.out).mono ?_); rintro e w7 ⟨rfl, hb7⟩; have F4 := Fr.call (by assumption) hb7; (first | (have N1 := Lib.hid (Bk.call N1.out hb7)) | skip); clear hb7)
                                refine hK.out _ _ ?_ ?_
                                · (try dsimp only)
                                  ((go_split_ands; refine HALL.out _ ?_; (first | assumption | (repeat (first | assumption | refine Fr.new ?_ _ | refine Fr.drew ?_ | (refine Fr.set ?_ (by first | exact Nat.le_refl _ | omega | (simp; done) | (simp; omega)) (by first | (simp; done) | (simp; omega)) _))); done)))
                                clear hK K
                                (try simp only [Act.put, List.setIfInBounds_toArray, List.set_cons_zero, List.set_cons_succ])
                                refine Tw_takeL (i := 6) (v := ?tv59) rfl (by kernel_rfl) (by decide) (by kernel_rfl) (by kernel_rfl) (fun _ _ _ h => h) (by rfl) ?ty59 ?tn59
                                case ty59 => (intro w hSw; (try dsimp only at hSw); go_simp <;> with_reducible rfl)
                                (try simp only [Act.put, List.setIfInBounds_toArray, List.set_cons_zero, List.set_cons_succ])
                                refine Tw_takeL (i := 7) (v := ?tv60) rfl (by kernel_rfl) (by decide) (by kernel_rfl) (by kernel_rfl) (fun _ _ _ h => h) (by rfl) ?ty60 ?tn60
                                case ty60 => (intro w hSw; (try dsimp only at hSw); go_simp <;> with_reducible rfl)
                                (try simp only [Act.put, List.setIfInBounds_toArray, List.set_cons_zero, List.set_cons_succ])
                                refine Tw_takeL (i := 8) (v := ?tv61) rfl (by kernel_rfl) (by decide) (by kernel_rfl) (by kernel_rfl) (fun _ _ _ h => h) (by rfl) ?ty61 ?tn61
                                case ty61 => (intro w hSw; (try dsimp only at hSw); go_simp <;> with_reducible rfl)
                                (try simp only [Act.put, List.setIfInBounds_toArray, List.set_cons_zero, List.set_cons_succ])
                                refine Tw_all (rs := [10]) (by kernel_rfl) (by simp) (by decide) (fun hHeld => ?_)
                                refine AllT.consL rfl (fun K hK => ?_) (AllT.nil)
                                · have c0 := N1.out.cell 0
                                  have c1 := N1.out.cell 1
                                  have f0 := N1.out.frozen 0
                                  have f1 := N1.out.frozen 1
                                  have zN := N1.out.lt
                                  go_simp
                                  refine hK.out _ _ ?_ ?_
                                  · exact HALL.out _ ((hHeld.1.set (p := ⟨_, 0, none⟩) zg.out (fun b hb => by simp at hb) _).set (p := ⟨_, 1, none⟩) zg.out (fun b hb => by simp at hb) _)
                                  clear hK K c0 f0 c1 f1 zN
                                  have N1 := Lib.hid (Bk.set2 N1.out (.int .i64 lo3) (.int .i64 hi3))
                                  (try simp only [Act.put, List.setIfInBounds_toArray, List.set_cons_zero, List.set_cons_succ])
                                  refine Tw_end (by kernel_rfl) (fun hh => ?_)
                                  obtain ⟨F11, _⟩ := hh
                                  clear HALL
                                  go_wp2_with fail
                                  go_meet
                                  exact ⟨_, rfl, rfl, F11.more N1.out⟩
                        · go_simp
                          refine hK.out _ _ ?_ ?_
                          · (try dsimp only)
                            ((go_split_ands; refine HALL.out _ ?_; (first | assumption | (repeat (first | assumption | refine Fr.new ?_ _ | refine Fr.drew ?_ | (refine Fr.set ?_ (by first | exact Nat.le_refl _ | omega | (simp; done) | (simp; omega)) (by first | (simp; done) | (simp; omega)) _))); done)))
                          clear hK K
                          (try simp only [Act.put, List.setIfInBounds_toArray, List.set_cons_zero, List.set_cons_succ])
                          refine Tw_abs ?_
                          intro wA64 hA64
                          (first | (have N1 := Lib.hid (Bk.of_alloc hA64)) | (have N1 := Lib.hid (Bk.of_alloc_drew hA64)))
                          have zg := Lib.hid (show wb3.heap.size ≤ _ from hHeld.1.size)
                          (first | (have L2 := Lib.hid (Lies.alloc hA64 L2.out)) | (have L2 := Lib.hid (Lies.alloc_drew hA64 L2.out)) | skip)
                          (first | (have L4 := Lib.hid (Lies.alloc hA64 L4.out)) | (have L4 := Lib.hid (Lies.alloc_drew hA64 L4.out)) | skip)
                          clear hA64
                          refine Tw_all (rs := [1]) (by kernel_rfl) (by simp) (by decide) (fun hHeld => ?_)
                          refine AllT.consL rfl (fun K hK => ?_) (AllT.nil)
                          · go_simp
                            (go_at_call 10; go_split_ands; (with_reducible refine (HCPJ.out _ (Fr.lies YJ.out (by assumption))).mono ?_); rintro e w7 ⟨g3, rfl, hl3, hk3, hb7⟩; have L2 := Lib.hid hl3; have F4 := Fr.call (by assumption) hb7; (first | (have N1 := Lib.hid (Bk.call N1.out hb7)) | skip); clear hb7 hl3 hk3)
                            refine hK.out _ _ ?_ ?_
                            · (try dsimp only)
                              ((go_split_ands; refine HALL.out _ ?_; (first | assumption | (repeat (first | assumption | refine Fr.new ?_ _ | refine Fr.drew ?_ | (refine Fr.set ?_ (by first | exact Nat.le_refl _ | omega | (simp; done) | (simp; omega)) (by first | (simp; done) | (simp; omega)) _))); done)))
                            clear hK K
                            (try simp only [Act.put, List.setIfInBounds_toArray, List.set_cons_zero, List.set_cons_succ])
                            refine Tw_all (rs := [4]) (by kernel_rfl) (by simp) (by decide) (fun hHeld => ?_)
                            refine AllT.consL rfl (fun K hK => ?_) (AllT.nil)
                            · go_simp
                              (go_at_call 17; go_split_ands; (refine (HC3.out _ (Fr.lies HRC.out (by assumption))).mono ?_); rintro e w7 ⟨g4, rfl, hl4, hb7⟩; have L4 := Lib.hid hl4; have F4 := Fr.call (by assumption) hb7; (first | (have N1 := Lib.hid (Bk.call N1.out hb7)) | skip); (first | (have L2 := Lib.hid (Lies.call L2.out hb7)) | skip); clear hb7 hl4)
                              refine hK.out _ _ ?_ ?_
                              · (try dsimp only)
                                ((go_split_ands; refine HALL.out _ ?_; (first | assumption | (repeat (first | assumption | refine Fr.new ?_ _ | refine Fr.drew ?_ | (refine Fr.set ?_ (by first | exact Nat.le_refl _ | omega | (simp; done) | (simp; omega)) (by first | (simp; done) | (simp; omega)) _))); done)))
                              clear hK K
                              (try simp only [Act.put, List.setIfInBounds_toArray, List.set_cons_zero, List.set_cons_succ])
                              refine Tw_all (rs := [5]) (by kernel_rfl) (by simp) (by decide) (fun hHeld => ?_)
                              refine AllT.consL rfl (fun K hK => ?_) (AllT.nil)
                              · go_simp
                                (go_at_call 16; go_split_ands; (with_reducible refine (HT3.out _ _ _ _ _ L2.out L4.out).mono ?_); rintro e w7 ⟨rfl, hb7⟩; have F4 := Fr.call (by assumption) hb7; (first | (have N1 := Lib.hid (Bk.call N1.out hb7)) | skip); clear hb7)
                                refine hK.out _ _ ?_ ?_
                                · (try dsimp only)
                                  ((go_split_ands; refine HALL.out _ ?_; (first | assumption | (repeat (first | assumption | refine Fr.new ?_ _ | refine Fr.drew ?_ | (refine Fr.set ?_ (by first | exact Nat.le_refl _ | omega | (simp; done) | (simp; omega)) (by first | (simp; done) | (simp; omega)) _))); done)))
                                clear hK K
                                (try simp only [Act.put, List.setIfInBounds_toArray, List.set_cons_zero, List.set_cons_succ])
                                refine Tw_takeL (i := 6) (v := ?tv62) rfl (by kernel_rfl) (by decide) (by kernel_rfl) (by kernel_rfl) (fun _ _ _ h => h) (by rfl) ?ty62 ?tn62
                                case ty62 => (intro w hSw; (try dsimp only at hSw); go_simp <;> with_reducible rfl)
                                (try simp only [Act.put, List.setIfInBounds_toArray, List.set_cons_zero, List.set_cons_succ])
                                refine Tw_takeL (i := 7) (v := ?tv63) rfl (by kernel_rfl) (by decide) (by kernel_rfl) (by kernel_rfl) (fun _ _ _ h => h) (by rfl) ?ty63 ?tn63
                                case ty63 => (intro w hSw; (try dsimp only at hSw); go_simp <;> with_reducible rfl)
                                (try simp only [Act.put, List.setIfInBounds_toArray, List.set_cons_zero, List.set_cons_succ])
                                refine Tw_takeL (i := 8) (v := ?tv64) rfl (by kernel_rfl) (by decide) (by kernel_rfl) (by kernel_rfl) (fun _ _ _ h => h) (by rfl) ?ty64 ?tn64
                                case ty64 => (intro w hSw; (try dsimp only at hSw); go_simp <;> with_reducible rfl)
                                (try simp only [Act.put, List.setIfInBounds_toArray, List.set_cons_zero, List.set_cons_succ])
                                refine Tw_all (rs := [10]) (by kernel_rfl) (by simp) (by decide) (fun hHeld => ?_)
                                refine AllT.consL rfl (fun K hK => ?_) (AllT.nil)
                                · have c0 := N1.out.cell 0
                                  have c1 := N1.out.cell 1
                                  have f0 := N1.out.frozen 0
                                  have f1 := N1.out.frozen 1
                                  have zN := N1.out.lt
                                  go_simp
                                  refine hK.out _ _ ?_ ?_
                                  · exact HALL.out _ ((hHeld.1.set (p := ⟨_, 0, none⟩) zg.out (fun b hb => by simp at hb) _).set (p := ⟨_, 1, none⟩) zg.out (fun b hb => by simp at hb) _)
                                  clear hK K c0 f0 c1 f1 zN
                                  have N1 := Lib.hid (Bk.set2 N1.out (.int .i64 lo3) (.int .i64 hi3))
                                  (try simp only [Act.put, List.setIfInBounds_toArray, List.set_cons_zero, List.set_cons_succ])
                                  refine Tw_end (by kernel_rfl) (fun hh => ?_)
                                  obtain ⟨F11, _⟩ := hh
                                  clear HALL
                                  go_wp2_with fail
                                  go_meet
                                  exact ⟨_, rfl, rfl, F11.more N1.out⟩
                      case rest =>
                        obtain ⟨wb4, rfl⟩ : ∃ W, W = wc := ⟨_, rfl⟩
                        obtain ⟨gt3, rfl, rfl, hx⟩ := hcut
                        have FB4 := Lib.hid (FT2.out.call hx.bl)
                        have YJ := Lib.hid (Lies.call YJ.out hx.bl)
                        have HX4 := Lib.hid hx
                        clear hx FT2
                        obtain ⟨k0_0, k0_1, kf0, kg0⟩ := (FB4.out.get 5 rfl).two
                        have kz0 := (FB4.out.get 5 rfl).lt
                        obtain ⟨k1_0, k1_1, kf1, kg1⟩ := (FB4.out.get 4 rfl).two
                        have kz1 := (FB4.out.get 4 rfl).lt
                        have k2_0 := (FB4.out.get 3 rfl).cell 0
                        have k2_1 := (FB4.out.get 3 rfl).cell 1
                        have k2_2 := (FB4.out.get 3 rfl).cell 2
                        have k2_3 := (FB4.out.get 3 rfl).cell 3
                        have k2_4 := (FB4.out.get 3 rfl).cell 4
                        have k2_5 := (FB4.out.get 3 rfl).cell 5
                        have k2_6 := (FB4.out.get 3 rfl).cell 6
                        have kz2 := (FB4.out.get 3 rfl).lt
                        obtain ⟨k3_0, k3_1, kf3, kg3⟩ := (FB4.out.get 2 rfl).two
                        have kz3 := (FB4.out.get 2 rfl).lt
                        obtain ⟨k4_0, k4_1, kf4, kg4⟩ := (FB4.out.get 1 rfl).two
                        have kz4 := (FB4.out.get 1 rfl).lt
                        obtain ⟨k5_0, k5_1, kf5, kg5⟩ := (FB4.out.get 0 rfl).two
                        have kz5 := (FB4.out.get 0 rfl).lt
                        have FT3 := Lib.hid (FB4.out.more HX4.out.top)
                        clear FB4 HX4 k0_0 k0_1 kf0 kg0 kz0 k1_0 k1_1 kf1 kg1 kz1 k2_0 k2_1 k2_2 k2_3 k2_4 k2_5 k2_6 kz2 k3_0 k3_1 kf3 kg3 kz3 k4_0 k4_1 kf4 kg4 kz4 k5_0 k5_1 kf5 kg5 kz5
                        obtain ⟨k0_0, k0_1, kf0, kg0⟩ := (FT3.out.get 6 rfl).two
                        have kz0 := (FT3.out.get 6 rfl).lt
                        obtain ⟨k1_0, k1_1, kf1, kg1⟩ := (FT3.out.get 5 rfl).two
                        have kz1 := (FT3.out.get 5 rfl).lt
                        have k2_0 := (FT3.out.get 4 rfl).cell 0
                        have k2_1 := (FT3.out.get 4 rfl).cell 1
                        have k2_2 := (FT3.out.get 4 rfl).cell 2
                        have k2_3 := (FT3.out.get 4 rfl).cell 3
                        have k2_4 := (FT3.out.get 4 rfl).cell 4
                        have k2_5 := (FT3.out.get 4 rfl).cell 5
                        have k2_6 := (FT3.out.get 4 rfl).cell 6
                        have kz2 := (FT3.out.get 4 rfl).lt
                        obtain ⟨k3_0, k3_1, kf3, kg3⟩ := (FT3.out.get 3 rfl).two
                        have kz3 := (FT3.out.get 3 rfl).lt
                        obtain ⟨k4_0, k4_1, kf4, kg4⟩ := (FT3.out.get 2 rfl).two
                        have kz4 := (FT3.out.get 2 rfl).lt
                        obtain ⟨k5_0, k5_1, kf5, kg5⟩ := (FT3.out.get 1 rfl).two
                        have kz5 := (FT3.out.get 1 rfl).lt
                        obtain ⟨k6_0, k6_1, kf6, kg6⟩ := (FT3.out.get 0 rfl).two
                        have kz6 := (FT3.out.get 0 rfl).lt
                        rcases HD.out with ⟨rfl, rfl⟩ | ⟨rfl, rfl, rfl⟩ | ⟨rfl, rfl, rfl, hw1, hw2⟩
                        · go_wp2_with fail
                          go_ret
                          exact ⟨rfl, FT3.out.bl⟩
                        · go_wp2_with fail
                          go_ret
                          exact ⟨rfl, FT3.out.bl⟩
                        · go_wp2_with fail
                          go_ret
                          exact ⟨rfl, FT3.out.bl⟩
end Go.Proofs.Ytaghpemdcmjchaa
