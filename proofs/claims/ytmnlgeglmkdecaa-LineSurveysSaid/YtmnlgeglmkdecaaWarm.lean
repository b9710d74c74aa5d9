/-
  The walk of the program's Warmed.
-/
import Derived.Test.YtmnlgeglmkdecaaSurvW
namespace Go.Proofs.Ytmnlgeglmkdecaa
open Go.RowKit

theorem OLn.more {w : World} {B B' : Nat} {L : Ll} {G : Hds} (h : OLn w B L G) (hB : B' ≤ B) : OLn w B' L G :=
  ⟨own_more h.j hB, own_more h.b hB, h.n, own_more h.s hB, fun i t x h1 h2 => own_more (h.a i t x h1 h2) hB⟩
theorem own_off {w : World} {B n size : Nat} {e t : TypeId} {v : Value} {xs : List Value} {p : Addr} {u : Value} {cs : Array Value} (h : w.ownsRow B e size v n xs) (hb : Bk w p.block t cs) (hne : e ≠ t) : (w.setCell p u).ownsRow B e size v n xs :=
  own_keep h fun g hg => Below.heap_setCell w p u g (fun e' => by
    rcases h.2 with ⟨rfl, _⟩ | ⟨g', cap, cur, rfl, _, hh, _⟩
    · simp [Value.ownBlock] at hg
    · simp [Value.ownBlock] at hg
      subst hg
      rw [e'] at hh
      unfold Bk at hb
      rw [hb] at hh
      injection hh with hh
      injection hh with _ h2 _
      exact hne h2.symm)
theorem OLn.off {w : World} {B : Nat} {L : Ll} {G : Hds} (h : OLn w B L G) {p : Addr} {cs : Array Value} (hb : Bk w p.block 26 cs) (u : Value) : OLn (w.setCell p u) B L G :=
  ⟨own_off h.j hb (by decide), own_off h.b hb (by decide), h.n, own_off h.s hb (by decide), fun i t x h1 h2 => own_off (h.a i t x h1 h2) hb (by decide)⟩
/-- All of a line's box written. -/
theorem OLn.off4 {w : World} {B : Nat} {L : Ll} {G : Hds} (h : OLn w B L G) {q : Nat} {cs : Array Value} (hb : Bk w q 26 cs) (a b c d : Value) :
    OLn ((((w.setCell ⟨q, 0, none⟩ a).setCell ⟨q, 1, none⟩ b).setCell ⟨q, 2, none⟩ c).setCell ⟨q, 3, none⟩ d) B L G :=
  (((h.off (p := ⟨q, 0, none⟩) hb a).off (p := ⟨q, 1, none⟩) (hb.put 0 a) b).off (p := ⟨q, 2, none⟩) ((hb.put 0 a).put 1 b) c).off (p := ⟨q, 3, none⟩) (((hb.put 0 a).put 1 b).put 2 c) d
def zeroL : Value := .agg #[.string ⟨#[]⟩, .slice none 0 0, .slice none 0 0, .slice none 0 0]

/-- What the program's walks hold: the copy's box at block q, its rows from block B on, the result's box. -/
structure WF (w W : World) (L : Ll) (js : List Lj) (G : Hds) (q r B : Nat) : Prop where
  box : Bk W q 26 #[.string L.name, .slice G.j.A L.js.length G.j.c, .slice G.b.A L.bs.length G.b.c, .slice G.s.A L.ss.length G.s.c]
  res : Bk W r 26 #[.string ⟨#[]⟩, .slice none 0 0, .slice none 0 0, .slice none 0 0]
  own : OLn W B (withJ L js) G
  bl : Below w.heap.size w W
  n : js.length = L.js.length
  rb : r < B
  rw : w.heap.size ≤ r
section
variable {w W W' : World} {L : Ll} {js : List Lj} {G : Hds} {q r B : Nat}
theorem WF.from (h : WF w W L js G q r B) (hb : Below W.heap.size W W') : WF w W' L js G q r B :=
  ⟨h.box.call hb, h.res.call hb, h.own.below hb, Below.step h.bl hb, h.n, h.rb, h.rw⟩
theorem WF.drew (h : WF w W L js G q r B) : WF w W.drew L js G q r B := h.from (Below.refl _ W).drew
theorem WF.setG {g k : Nat} {j : Lj} (h : WF w W L js G q r B) (hg : G.j.A = some ⟨g, 0, none⟩) (hjs : js[k]? = some j) (lo hi : Int) :
    WF w ((W.setCell ⟨g, k * 4 + 2, none⟩ (.int .i64 lo)).setCell ⟨g, k * 4 + 3, none⟩ (.int .i64 hi)) L (js.set k { j with lo := lo, hi := hi }) G q r B := by
  have ho := h.own.setJ hg (k := k) (j := j) hjs lo hi
  have hj := h.own.j
  obtain ⟨⟨Aj, cj⟩, Gb, Gs, each⟩ := G
  simp only at hg hj
  subst hg
  have hgB : B ≤ g ∧ g < W.heap.size := hj.lt g rfl
  have hne := own_not hj h.box (by decide)
  have hrb := h.rb
  have hrw := h.rw
  refine ⟨(h.box.far (by show q ≠ g; omega) _).far (by show q ≠ g; omega) _, (h.res.far (by show r ≠ g; omega) _).far (by show r ≠ g; omega) _, ho,
    (h.bl.setCell (by show w.heap.size ≤ g; omega) _).setCell (by show w.heap.size ≤ g; omega) _, ?_, h.rb, h.rw⟩
  rw [List.length_set]
  exact h.n
end
theorem warm_stepW {w W : World} {L : Ll} {G : Hds} {q r B : Nat} {by_ : Int} {k g : Nat} {j : Lj} (h : WF w W L (warmS by_ L.js k) G q r B) (hg : G.j.A = some ⟨g, 0, none⟩) (hj : L.js[k]? = some j) (lo hi : Int)
    (e1 : lo = max (j.lo - by_) (-100)) (e2 : hi = min (j.hi + by_) 100) :
    WF w ((W.setCell ⟨g, k * 4 + 2, none⟩ (.int .i64 lo)).setCell ⟨g, k * 4 + 3, none⟩ (.int .i64 hi)) L (warmS by_ L.js (k + 1)) G q r B := by
  have hjs : (warmS by_ L.js k)[k]? = some j := (warmS_far by_ L.js k k (Nat.le_refl _)).trans hj
  have h1 := h.setG hg hjs lo hi
  rw [warmS_succ hj]
  unfold warmJ
  rw [← e1, ← e2]
  exact h1

set_option maxHeartbeats 2000000 in
set_option maxRecDepth 100000 in
theorem Warmed_err {L : Ll} {m1 m2 er : Int} (hck : ckLine L = ((m1, m2), er)) (he : er ≠ 0) (H : Hds) (hL : L.ok) (by_ : Int) (w : World) (hA : LnAt w w.heap.size L H) :
    Calls Try.prog 67 #[(.agg #[.string L.name, .slice H.j.A L.js.length H.j.c, .slice H.b.A L.bs.length H.b.c, .slice H.s.A L.ss.length H.s.c]), .int .i64 by_] w fun e w' => e = .returned (.tuple #[.agg #[.string ⟨#[]⟩, .slice none 0 0, .slice none 0 0, .slice none 0 0], .int .i64 er]) ∧ Below w.heap.size w w' := by
  have b0 := ((Below.refl w.heap.size w).alloc (Nat.le_refl _) (.cells #[.string L.name, .slice H.j.A L.js.length H.j.c, .slice H.b.A L.bs.length H.b.c, .slice H.s.A L.ss.length H.s.c] 26)).alloc (by simp) (.cells #[.string ⟨#[]⟩, .slice none 0 0, .slice none 0 0, .slice none 0 0] 26)
  have X0 := Lib.hid ((Bk.new w 26 #[.string L.name, .slice H.j.A L.js.length H.j.c, .slice H.b.A L.bs.length H.b.c, .slice H.s.A L.ss.length H.s.c]).alloc (.cells #[.string ⟨#[]⟩, .slice none 0 0, .slice none 0 0, .slice none 0 0] 26))
  have R0 := Lib.hid (Bk.new1 w (.cells #[.string L.name, .slice H.j.A L.js.length H.j.c, .slice H.b.A L.bs.length H.b.c, .slice H.s.A L.ss.length H.s.c] 26) 26 #[.string ⟨#[]⟩, .slice none 0 0, .slice none 0 0, .slice none 0 0])
  have B0 := Lib.hid b0
  have HA := Lib.hid ((hA.below b0).more b0.size)
  have HC := Lib.hid hck
  have HE := Lib.hid he
  have ge : (er != 0) = true := by simp [he]
  clear b0 hA hck he
  go_enter Try.func67, Try.ntmps67
  obtain ⟨x0, x1, x2, x3⟩ := X0.out.four
  go_wp2_with fail
  refine (check_bad HC.out HE.out H hL _ HA.out).mono ?_
  rintro e w1 ⟨rfl, hb1⟩
  have R1 := Lib.hid ((R0.out.call hb1).alloc (.cells #[.string ⟨#[]⟩, .slice none 0 0, .slice none 0 0, .slice none 0 0, .slice none 0 0] 119))
  have B1 := Lib.hid (Below.step B0.out hb1)
  clear hb1 x0 x1 x2 x3
  obtain ⟨r0, r1, r2, r3⟩ := R1.out.four
  obtain ⟨f0, f1, f2, f3⟩ : _ ∧ _ ∧ _ ∧ _ := ⟨R1.out.frozen 0, R1.out.frozen 1, R1.out.frozen 2, R1.out.frozen 3⟩
  go_wp2_with fail
  refine bodyPost_ret (v := .tuple #[.agg #[.string ⟨#[]⟩, .slice none 0 0, .slice none 0 0, .slice none 0 0], .int .i64 er]) (by simp [results, Try.results67, go_sem, r0, r1, r2, r3]) rfl ⟨rfl, ?_⟩
  exact (B1.out.alloc B1.out.size _).setCell (by simp) _ |>.setCell (by simp) _ |>.setCell (by simp) _ |>.setCell (by simp) _

set_option maxHeartbeats 2000000 in
set_option maxRecDepth 100000 in
theorem Warmed_out {L : Ll} (hr : Right L) (hck : ckLine L = ((0, 0), 0)) (H : Hds) (hL : L.ok) {by_ : Int} (hy : inB by_ 0 100 = false) (w : World) (hA : LnAt w w.heap.size L H) :
    Calls Try.prog 67 #[(.agg #[.string L.name, .slice H.j.A L.js.length H.j.c, .slice H.b.A L.bs.length H.b.c, .slice H.s.A L.ss.length H.s.c]), .int .i64 by_] w fun e w' => e = .returned (.tuple #[.agg #[.string ⟨#[]⟩, .slice none 0 0, .slice none 0 0, .slice none 0 0], .int .i64 2]) ∧ Below w.heap.size w w' := by
  have b0 := ((Below.refl w.heap.size w).alloc (Nat.le_refl _) (.cells #[.string L.name, .slice H.j.A L.js.length H.j.c, .slice H.b.A L.bs.length H.b.c, .slice H.s.A L.ss.length H.s.c] 26)).alloc (by simp) (.cells #[.string ⟨#[]⟩, .slice none 0 0, .slice none 0 0, .slice none 0 0] 26)
  have X0 := Lib.hid ((Bk.new w 26 #[.string L.name, .slice H.j.A L.js.length H.j.c, .slice H.b.A L.bs.length H.b.c, .slice H.s.A L.ss.length H.s.c]).alloc (.cells #[.string ⟨#[]⟩, .slice none 0 0, .slice none 0 0, .slice none 0 0] 26))
  have R0 := Lib.hid (Bk.new1 w (.cells #[.string L.name, .slice H.j.A L.js.length H.j.c, .slice H.b.A L.bs.length H.b.c, .slice H.s.A L.ss.length H.s.c] 26) 26 #[.string ⟨#[]⟩, .slice none 0 0, .slice none 0 0, .slice none 0 0])
  have B0 := Lib.hid b0
  have HA := Lib.hid ((hA.below b0).more b0.size)
  have HC := Lib.hid hck
  have HR := Lib.hid hr
  have HY := Lib.hid hy
  clear b0 hA hck hr hy
  go_enter Try.func67, Try.ntmps67
  obtain ⟨x0, x1, x2, x3⟩ := X0.out.four
  go_wp2_with fail
  refine (check_good HR.out HC.out H hL _ HA.out).mono ?_
  rintro e w1 ⟨g, rfl, hb1, _, _⟩
  have R1 := Lib.hid ((R0.out.call hb1).alloc (.cells #[.string L.name, .slice H.j.A L.js.length H.j.c, .slice H.b.A L.bs.length H.b.c, .slice H.s.A L.ss.length H.s.c, .slice (some ⟨g, 0, none⟩) L.js.length L.js.length] 119))
  have B1 := Lib.hid (Below.step B0.out hb1)
  clear hb1 x0 x1 x2 x3
  obtain ⟨r0, r1, r2, r3⟩ := R1.out.four
  obtain ⟨f0, f1, f2, f3⟩ : _ ∧ _ ∧ _ ∧ _ := ⟨R1.out.frozen 0, R1.out.frozen 1, R1.out.frozen 2, R1.out.frozen 3⟩
  go_wp2_with (go_at_call 110; refine (within_any _ _ _ _).mono ?_; rintro e w' ⟨rfl, rfl⟩; rw [HY.out])
  refine bodyPost_ret (v := .tuple #[.agg #[.string ⟨#[]⟩, .slice none 0 0, .slice none 0 0, .slice none 0 0], .int .i64 2]) (by simp [results, Try.results67, go_sem, r0, r1, r2, r3]) rfl ⟨rfl, ?_⟩
  exact (B1.out.alloc B1.out.size _).setCell (by simp) _ |>.setCell (by simp) _ |>.setCell (by simp) _ |>.setCell (by simp) _

set_option maxHeartbeats 8000000 in
set_option maxRecDepth 100000 in
theorem Warmed_good {L : Ll} (hr : Right L) (hck : ckLine L = ((0, 0), 0)) (H : Hds) (hL : L.ok) (hH : HdsOk H) {by_ : Int} (hy : inB by_ 0 100 = true) (w : World) (hA : LnAt w w.heap.size L H) :
    Calls Try.prog 67 #[(.agg #[.string L.name, .slice H.j.A L.js.length H.j.c, .slice H.b.A L.bs.length H.b.c, .slice H.s.A L.ss.length H.s.c]), .int .i64 by_] w fun e w' => ∃ G : Hds, e = .returned (.tuple #[.agg #[.string L.name, .slice G.j.A L.js.length G.j.c, .slice G.b.A L.bs.length G.b.c, .slice G.s.A L.ss.length G.s.c], .int .i64 0]) ∧ OLn w' 0 (withJ L (warmS by_ L.js L.js.length)) G ∧ Below w.heap.size w w' := by
  have b0 := ((Below.refl w.heap.size w).alloc (Nat.le_refl _) (.cells #[.string L.name, .slice H.j.A L.js.length H.j.c, .slice H.b.A L.bs.length H.b.c, .slice H.s.A L.ss.length H.s.c] 26)).alloc (by simp) (.cells #[.string ⟨#[]⟩, .slice none 0 0, .slice none 0 0, .slice none 0 0] 26)
  have X0 := Lib.hid ((Bk.new w 26 #[.string L.name, .slice H.j.A L.js.length H.j.c, .slice H.b.A L.bs.length H.b.c, .slice H.s.A L.ss.length H.s.c]).alloc (.cells #[.string ⟨#[]⟩, .slice none 0 0, .slice none 0 0, .slice none 0 0] 26))
  have R0 := Lib.hid (Bk.new1 w (.cells #[.string L.name, .slice H.j.A L.js.length H.j.c, .slice H.b.A L.bs.length H.b.c, .slice H.s.A L.ss.length H.s.c] 26) 26 #[.string ⟨#[]⟩, .slice none 0 0, .slice none 0 0, .slice none 0 0])
  have B0 := Lib.hid b0
  have A0 := Lib.hid (hA.below b0)
  have HC := Lib.hid hck
  have HR := Lib.hid hr
  have HH := Lib.hid hH
  have HL := Lib.hid hL
  have HYB := Lib.hid hy
  obtain ⟨hy0, hy1⟩ := inB_iff.1 hy
  have h40 := hr.most
  have h1 := hr.one
  have hjb := hr.jb
  have hjl : 0 < L.js.length ∧ L.js.length ≤ 41 := by omega
  clear b0 hA hck hr hH hL hy hjb h40 h1
  go_enter Try.func67, Try.ntmps67
  obtain ⟨x0, x1, x2, x3⟩ := X0.out.four
  go_wp2_with fail
  refine (check_good HR.out HC.out H HL.out _ (A0.out.more B0.out.size)).mono ?_
  rintro e w1 ⟨g0, rfl, hb1, _, _⟩
  have X1 := Lib.hid ((X0.out.call hb1).alloc (.cells #[.string L.name, .slice H.j.A L.js.length H.j.c, .slice H.b.A L.bs.length H.b.c, .slice H.s.A L.ss.length H.s.c, .slice (some ⟨g0, 0, none⟩) L.js.length L.js.length] 119))
  have R1 := Lib.hid ((R0.out.call hb1).alloc (.cells #[.string L.name, .slice H.j.A L.js.length H.j.c, .slice H.b.A L.bs.length H.b.c, .slice H.s.A L.ss.length H.s.c, .slice (some ⟨g0, 0, none⟩) L.js.length L.js.length] 119))
  have b1 := Below.step B0.out hb1
  have B1 := Lib.hid (b1.alloc b1.size (.cells #[.string L.name, .slice H.j.A L.js.length H.j.c, .slice H.b.A L.bs.length H.b.c, .slice H.s.A L.ss.length H.s.c, .slice (some ⟨g0, 0, none⟩) L.js.length L.js.length] 119))
  have A1 := Lib.hid ((A0.out.below (hb1.mono B0.out.size)).below ((Below.refl _ w1).alloc b1.size (.cells #[.string L.name, .slice H.j.A L.js.length H.j.c, .slice H.b.A L.bs.length H.b.c, .slice H.s.A L.ss.length H.s.c, .slice (some ⟨g0, 0, none⟩) L.js.length L.js.length] 119)))
  clear hb1 b1 x0 x1 x2 x3 X0 R0 B0 A0
  obtain ⟨x0, x1, x2, x3⟩ := X1.out.four
  go_wp2_with (first | (go_at_call 110; refine (within_any _ _ _ _).mono ?_; rintro e w' ⟨rfl, rfl⟩; rw [HYB.out]) | fail "arm")
  refine (copyOf_own L H HL.out HH.out _ (A1.out.more B1.out.size)).mono ?_
  rintro e w3 ⟨G, rfl, ho, hb3⟩
  have hrl := R1.out.lt
  have W3 : Hid (WF w (w3.alloc (.cells #[.string L.name, .slice G.j.A L.js.length G.j.c, .slice G.b.A L.bs.length G.b.c, .slice G.s.A L.ss.length G.s.c] 26)) L L.js G w3.heap.size (w.heap.size + 1) _) := Lib.hid
    ⟨Bk.new w3 _ _, (R1.out.call hb3).alloc _, ho.below ((Below.refl _ w3).alloc (Nat.le_refl _) _), (Below.step B1.out hb3).alloc (Below.step B1.out hb3).size _, rfl, hrl, by omega⟩
  obtain ⟨B, hB⟩ : ∃ B, (w1.alloc (.cells #[.string L.name, .slice H.j.A L.js.length H.j.c, .slice H.b.A L.bs.length H.b.c, .slice H.s.A L.ss.length H.s.c, .slice (some ⟨g0, 0, none⟩) L.js.length L.js.length] 119)).heap.size = B := ⟨_, rfl⟩
  rw [hB] at W3
  clear hb3 ho hB x0 x1 x2 x3 X1 R1 B1 A1 hrl
  obtain ⟨x0, x1, x2, x3⟩ := W3.out.box.four
  go_wp2_with fail
  clear x0 x1 x2 x3
  obtain ⟨q, hq⟩ : ∃ q, w3.heap.size = q := ⟨_, rfl⟩
  simp only [hq] at W3 ⊢
  clear hq
  go_loopw [29] (fun i wr => ∃ k : Nat, k ≤ L.js.length ∧ i = .int .i64 k ∧ WF w wr L (warmS by_ L.js k) G q (w.heap.size + 1) B) (fun i _ => L.js.length - (intOf i).toNat)
  case atStart => exact ⟨0, Nat.zero_le _, rfl, W3.out⟩
  case round =>
    clear W3
    obtain ⟨k, hk, rfl, hS⟩ := hrel
    have S2 := Lib.hid hS
    obtain ⟨x0, x1, x2, x3⟩ := hS.box.four
    clear hS
    by_cases hlt : k < L.js.length
    · have hlt' : (k : Int) < (L.js.length : Int) := by omega
      obtain ⟨j, hj⟩ : ∃ j, L.js[k]? = some j := ⟨_, List.getElem?_eq_getElem hlt⟩
      have hjs : (warmS by_ L.js k)[k]? = some j := (warmS_far by_ L.js k k (Nat.le_refl _)).trans hj
      obtain ⟨j0, j1, j2, j3, j4, j5, j6⟩ := joint_in (HR.out.j j (List.mem_of_getElem? hj))
      obtain ⟨g, hg, hgB, hgl⟩ := S2.out.own.row (by show 0 < (warmS by_ L.js k).length; rw [warmS_len]; exact hjl.1)
      obtain ⟨a, ha, hab, y0, y1, y2, y3⟩ := S2.out.own.at_.j.joint hjs
      have hag : a = ⟨g, 0, none⟩ := by rw [hg] at ha; injection ha with ha; exact ha.symm
      obtain ⟨⟨Aj, cj⟩, Gb, Gs, each⟩ := G
      simp only at ha hg
      subst ha
      have HAG := Lib.hid hag
      have HG := Lib.hid hg
      have HJ := Lib.hid hj
      have HJS := Lib.hid hjs
      obtain ⟨x, hx⟩ : ∃ m, j.lo - by_ = m := ⟨_, rfl⟩
      obtain ⟨y, hyy⟩ : ∃ m, j.hi + by_ = m := ⟨_, rfl⟩
      obtain ⟨jl, hjlo⟩ : ∃ m, j.lo = m := ⟨_, rfl⟩
      obtain ⟨jh, hjhi⟩ : ∃ m, j.hi = m := ⟨_, rfl⟩
      rw [hjlo] at hx y2
      rw [hjhi] at hyy y3
      have t1 : IntKind.i64.wrap (jl - by_) = x := (IntWalk.i64_in _ (by omega)).trans hx
      have t2 : IntKind.i64.wrap (jh + by_) = y := (IntWalk.i64_in _ (by omega)).trans hyy
      have t3 := IntWalk.i64_in ((k : Int) + 1) (by omega)
      have HX := Lib.hid hx
      have HY := Lib.hid hyy
      have HJL := Lib.hid hjlo
      have HJH := Lib.hid hjhi
      clear hjlo hjhi hj hjs hag hg j0 j1 j2 j3 j4 j5 j6 hx hyy
      have S3 : Hid (WF w (wr.alloc (.cells #[.int .i64 j.x, .int .i64 j.u, .int .i64 jl, .int .i64 jh] 56)) L (warmS by_ L.js k) ⟨⟨some a, cj⟩, Gb, Gs, each⟩ q (w.heap.size + 1) B) := Lib.hid (S2.out.from ((Below.refl _ wr).alloc (Nat.le_refl _) _))
      have D3 := Lib.hid (Bk.new wr 56 #[.int .i64 j.x, .int .i64 j.u, .int .i64 jl, .int .i64 jh])
      obtain ⟨a', ha', _, _, _, z2, z3⟩ := S3.out.own.at_.j.joint HJS.out
      simp only at ha'
      injection ha' with ha'
      subst ha'
      have FZ3 : Hid (∀ i, (wr.alloc (.cells #[.int .i64 j.x, .int .i64 j.u, .int .i64 jl, .int .i64 jh] 56)).frozen? ⟨g, i, none⟩ = false) := Lib.hid (fun i => by
        have h := S3.out.own.j
        simp only at h
        rw [HAG.out] at h
        exact h.frozenAt i)
      obtain ⟨fz2, fz3⟩ : (wr.alloc (.cells #[.int .i64 j.x, .int .i64 j.u, .int .i64 jl, .int .i64 jh] 56)).frozen? ⟨(a.add (k * 4)).block, (a.add (k * 4)).off + 2, none⟩ = false ∧ (wr.alloc (.cells #[.int .i64 j.x, .int .i64 j.u, .int .i64 jl, .int .i64 jh] 56)).frozen? ⟨(a.add (k * 4)).block, (a.add (k * 4)).off + 3, none⟩ = false := by
        rw [HAG.out, add_zero]
        exact ⟨FZ3.out _, FZ3.out _⟩
      obtain ⟨w0, w1', w2', w3'⟩ := S3.out.box.four
      obtain ⟨d0, d1, d2, d3⟩ := D3.out.four
      rcases (show (-100 < x ∧ ¬ x < -100) ∨ (x < -100 ∧ ¬ -100 < x) ∨ (¬ -100 < x ∧ ¬ x < -100) by omega) with ⟨h1, h2⟩ | ⟨h1, h2⟩ | ⟨h1, h2⟩ <;> rcases (show (100 < y ∧ ¬ y < 100) ∨ (y < 100 ∧ ¬ 100 < y) ∨ (¬ 100 < y ∧ ¬ y < 100) by omega) with ⟨h3, h4⟩ | ⟨h3, h4⟩ | ⟨h3, h4⟩
      all_goals
        have Q1 := Lib.hid h1
        have Q2 := Lib.hid h2
        have Q3 := Lib.hid h3
        have Q4 := Lib.hid h4
        go_wp2_with fail
        go_roundw
        case rel =>
          refine ⟨k + 1, by omega, by go_num, ?_⟩
          have hE := fun lo hi => warm_stepW (by_ := by_) S3.out HG.out HJ.out lo hi
          rw [HAG.out] at hE
          rw [HAG.out, add_zero]
          exact hE _ _ (by have := HX.out; have := HJL.out; have := Q1.out; have := Q2.out; omega) (by have := HY.out; have := HJH.out; have := Q3.out; have := Q4.out; omega)
        case measure => simp [intOf]; omega
    · obtain rfl : k = L.js.length := by omega
      obtain ⟨r0, r1, r2, r3⟩ := S2.out.res.four
      obtain ⟨f0, f1, f2, f3⟩ : _ ∧ _ ∧ _ ∧ _ := ⟨S2.out.res.frozen 0, S2.out.res.frozen 1, S2.out.res.frozen 2, S2.out.res.frozen 3⟩
      have hrb := S2.out.rb
      have hs : ∀ u : Nat, (⟨w.heap.size + 1, u, none⟩ : Addr).block < B := fun u => hrb
      have hs2 : ∀ u : Nat, w.heap.size ≤ (⟨w.heap.size + 1, u, none⟩ : Addr).block := fun u => by show _ ≤ w.heap.size + 1; omega
      have HS := Lib.hid hs
      have HS2 := Lib.hid hs2
      clear hs hs2
      go_wp2_with fail
      refine bodyPost_ret (v := .tuple #[.agg #[.string L.name, .slice G.j.A L.js.length G.j.c, .slice G.b.A L.bs.length G.b.c, .slice G.s.A L.ss.length G.s.c], .int .i64 0]) (by simp [results, Try.results67, go_sem, r0, r1, r2, r3]) rfl ⟨G, rfl, ?_, ?_⟩
      · have o2 := (((S2.out.own.far (p := ⟨w.heap.size + 1, 0, none⟩) (HS.out 0) (.string L.name)).far (p := ⟨w.heap.size + 1, 1, none⟩) (HS.out 1) (.slice G.j.A L.js.length G.j.c)).far (p := ⟨w.heap.size + 1, 2, none⟩) (HS.out 2) (.slice G.b.A L.bs.length G.b.c)).far (p := ⟨w.heap.size + 1, 3, none⟩) (HS.out 3) (.slice G.s.A L.ss.length G.s.c)
        exact o2.more (Nat.zero_le _)
      · exact (((S2.out.bl.setCell (p := ⟨w.heap.size + 1, 0, none⟩) (HS2.out 0) _).setCell (p := ⟨w.heap.size + 1, 1, none⟩) (HS2.out 1) _).setCell (p := ⟨w.heap.size + 1, 2, none⟩) (HS2.out 2) _).setCell (p := ⟨w.heap.size + 1, 3, none⟩) (HS2.out 3) _
end Go.Proofs.Ytmnlgeglmkdecaa
