
/-
  The walk of Fastest of the program, where there are such squares.
-/
import Derived.Test.YtmjooiocgeoaiaaBRun
namespace Go.Proofs.Ytmjooiocgeoaiaa
open Go.RowKit

/-- What a driven train gains along a piece. -/
def drvG (p : Bp) (d : Int) : Int := 2 * (d - 10 * p.grad) * p.len
theorem drvG_bound {p : Bp} {d : Int} (h : okP p = true) (hd : 0 ≤ d ∧ d ≤ 2000) : -80000000000 ≤ drvG p d ∧ drvG p d ≤ 80000000000 := by
  have h1 := okP_iff.1 h
  have := mulB5 (x := 2 * (d - 10 * p.grad)) (y := p.len) (A := 8000) (B := 10000000) (by omega) (by omega)
  unfold drvG
  omega
/-- The greatest squares from which the end can be reached, from the end backwards. -/
def bwS (ps : List Bp) (d e1 : Int) : Nat → Int
  | 0 => min (limV ps ps.length) e1
  | j + 1 => min (limV ps (ps.length - 1 - j)) (bwS ps d e1 j + lossV (gp ps (ps.length - 1 - j)) d)
def bwV (ps : List Bp) (d e1 : Int) (i : Nat) : Int := bwS ps d e1 (ps.length - i)
theorem bwV_top (ps : List Bp) (d e1 : Int) : bwV ps d e1 ps.length = min (limV ps ps.length) e1 := by unfold bwV; rw [Nat.sub_self]; rfl
theorem bwV_step (ps : List Bp) (d e1 : Int) (i : Nat) (h : i < ps.length) : bwV ps d e1 i = min (limV ps i) (bwV ps d e1 (i + 1) + lossV (gp ps i) d) := by
  unfold bwV
  have e1' : ps.length - i = (ps.length - (i + 1)) + 1 := by omega
  have e2 : ps.length - 1 - (ps.length - (i + 1)) = i := by omega
  rw [e1', bwS, e2]
theorem bwS_bound {ps : List Bp} (h : ∀ p ∈ ps, okP p = true) {d : Int} (hd : -3000 ≤ d ∧ d ≤ 3000) {e1 : Int} (he : 0 ≤ e1) : ∀ j : Nat, -((j : Int) * 80000000000) ≤ bwS ps d e1 j ∧ bwS ps d e1 j ≤ 20000000000
  | 0 => by have := limV_bound h ps.length; simp only [bwS]; omega
  | j + 1 => by
    have h1 := bwS_bound h hd he j
    have h2 := lossV_bound (gp_ok h (ps.length - 1 - j)) hd
    have h3 := limV_bound h (ps.length - 1 - j)
    have e : ((j + 1 : Nat) : Int) * 80000000000 = (j : Int) * 80000000000 + 80000000000 := by push_cast; omega
    rw [bwS, e]
    omega
theorem bwV_bound {ps : List Bp} (h : ∀ p ∈ ps, okP p = true) (h12 : ps.length ≤ 12) {d : Int} (hd : -3000 ≤ d ∧ d ≤ 3000) {e1 : Int} (he : 0 ≤ e1) (i : Nat) : -960000000000 ≤ bwV ps d e1 i ∧ bwV ps d e1 i ≤ 20000000000 := by
  have := bwS_bound h hd he (ps.length - i)
  unfold bwV
  omega
/-- The fastest squares. -/
def fwV (ps : List Bp) (b : Bs) (e0 e1 : Int) : Nat → Int
  | 0 => e0
  | i + 1 => min (bwV ps b.brk e1 (i + 1)) (fwV ps b e0 e1 i + drvG (gp ps i) b.drv)
theorem errorOfSquare_bl (l : List Int) (A : Option Addr) (c : Nat) (hl : l.length ≤ maxLen) (w : World) (hA : Lies w w.heap.size A (ic l)) :
    Calls Try.prog 72 #[.slice A l.length c] w fun e w' => e = .returned (.int .i64 (sqE l)) ∧ Below w.heap.size w w' :=
  (errorOfSquare_any l A c hl w hA).mono fun e w' h => ⟨h.1, h.2 ▸ Below.refl _ _⟩
theorem Lies.bk2i {w : World} {g : Nat} {t : TypeId} {a b : Int} (h : Bk w g t #[.int .i64 a, .int .i64 b]) : Lies w w.heap.size (some ⟨g, 0, none⟩) (ic [a, b]) := fun j u hu => by
  match j with
  | 0 => exact ⟨_, rfl, h.lt, by have := h.cell 0; simp [ic] at hu; subst hu; exact this⟩
  | 1 => exact ⟨_, rfl, h.lt, by have := h.cell 1; simp [ic] at hu; subst hu; exact this⟩
  | j + 2 => simp [ic] at hu

set_option maxHeartbeats 4000000 in
set_option maxRecDepth 100000 in
theorem driven_any (s : ByteArray) (ps : List Bp) (a : Addr) (c : Nat) (b : Bs) (hb : OkS b) (h12 : ps.length ≤ 12) (hx : ∀ p ∈ ps, okP p = true) (k : Nat) (hk : k < ps.length) (w : World) (hA : Lies w w.heap.size (some a) (ps.flatMap pc)) :
    Calls Try.prog 73 #[.agg #[.string s, .slice (some a) ps.length c, .int .i64 b.brk, .int .i64 b.drag, .int .i64 b.drv], .int .i64 k] w fun e w' => e = .returned (.int .i64 (drvG (gp ps k) b.drv)) ∧ Below w.heap.size w w' := by
  have F0 := Lib.hid (Fr.b1 w 77 #[.string s, .slice (some a) ps.length c, .int .i64 b.brk, .int .i64 b.drag, .int .i64 b.drv])
  have HA := Lib.hid hA
  have HX := Lib.hid hx
  have hp := okP_iff.1 (gp_ok hx k)
  have g2 := hp.2.1.1
  have g3 := hp.2.1.2
  obtain ⟨b0, b1, b2, b3, b4, b5, _⟩ := hb
  have hw := IntWalk.i64_in (b.drv - 10 * (gp ps k).grad) (by omega)
  clear hA hx hp
  go_enter Try.func73, Try.ntmps73
  go_wp2_with fail
  have HALL : Hid (∀ W, Fr w W [(w.heap.size, 77, #[.string s, .slice (some a) ps.length c, .int .i64 b.brk, .int .i64 b.drag, .int .i64 b.drv])] → Fr w W [(w.heap.size, 77, #[.string s, .slice (some a) ps.length c, .int .i64 b.brk, .int .i64 b.drag, .int .i64 b.drv])] ∧ W.cell? ⟨w.heap.size, 0, none⟩ = some (.string s) ∧ W.cell? ⟨w.heap.size, 1, none⟩ = some (.slice (some a) ps.length c) ∧ W.cell? ⟨w.heap.size, 2, none⟩ = some (.int .i64 b.brk) ∧ W.cell? ⟨w.heap.size, 3, none⟩ = some (.int .i64 b.drag) ∧ W.cell? ⟨w.heap.size, 4, none⟩ = some (.int .i64 b.drv)) := Lib.hid (fun W hW => ⟨hW, hW.top.cell 0, hW.top.cell 1, hW.top.cell 2, hW.top.cell 3, hW.top.cell 4⟩)
  have F10 : Fr w _ [(w.heap.size, 77, #[.string s, .slice (some a) ps.length c, .int .i64 b.brk, .int .i64 b.drag, .int .i64 b.drv])] := F0.out
  clear F0
  go_region_held3 (fun W => Fr w W [(w.heap.size, 77, #[.string s, .slice (some a) ps.length c, .int .i64 b.brk, .int .i64 b.drag, .int .i64 b.drv])] ∧ W.cell? ⟨w.heap.size, 0, none⟩ = some (.string s) ∧ W.cell? ⟨w.heap.size, 1, none⟩ = some (.slice (some a) ps.length c) ∧ W.cell? ⟨w.heap.size, 2, none⟩ = some (.int .i64 b.brk) ∧ W.cell? ⟨w.heap.size, 3, none⟩ = some (.int .i64 b.drag) ∧ W.cell? ⟨w.heap.size, 4, none⟩ = some (.int .i64 b.drv))
      ((go_split_ands; refine HALL.out _ ?_; (first | assumption | (repeat (first | assumption | refine Fr.new ?_ _ | refine Fr.drew ?_ | (refine Fr.set ?_ (by first | exact Nat.le_refl _ | omega | (simp; done) | (simp; omega)) (by first | (simp; done) | (simp; omega)) _))); done)))
      ((first
        | (go_at_call 85; go_split_ands; (with_reducible refine (slope_any s ps a c h12 HX.out k hk _ (Fr.lies HA.out (by assumption))).mono ?_); rintro e w1 ⟨rfl, hb1⟩; have F4 := Fr.call (by assumption) hb1; clear hb1)
        | (go_at_call 86; go_split_ands; (with_reducible refine (change_any s ps a c h12 HX.out k hk (b.drv - 10 * (gp ps k).grad) (by omega) _ (Fr.lies HA.out (by assumption))).mono ?_); rintro e w1 ⟨rfl, hb1⟩; have F5 := Fr.call (by assumption) hb1; clear hb1)
        | fail "arm"))
  all_goals
    go_split_ands
    go_wp2_with fail
    go_ret
    exact ⟨by first | rfl | (unfold drvG; rfl), (by assumption : Fr w _ [(w.heap.size, 77, #[.string s, .slice (some a) ps.length c, .int .i64 b.brk, .int .i64 b.drag, .int .i64 b.drv])]).bl⟩

set_option maxHeartbeats 8000000 in
set_option maxRecDepth 100000 in
theorem Min_any (l : List Int) (A : Option Addr) (c : Nat) (h0 : l.length ≠ 0) (hl : l.length ≤ 1000) (hb : ∀ x ∈ l, -2000000000000 ≤ x ∧ x ≤ 2000000000000) (hp : ∀ x ∈ l, 0 ≤ x) (w : World) (hA : Lies w w.heap.size A (ic l)) :
    Calls Try.prog 74 #[.slice A l.length c] w fun e w' => (∃ m : Int, 0 ≤ m ∧ e = .returned (.int .i64 m)) ∧ w = w' := by
  have HA := Lib.hid hA
  have HP := Lib.hid hp
  have h1 : ¬ (l.length : Int) < 1 := by omega
  have hl1 : (0 : Int) < (l.length : Int) := by omega
  obtain ⟨a, rfl, _, ca⟩ := HA.out.num (List.getElem?_eq_getElem (show 0 < l.length by omega))
  have hp0 := HP.out _ (List.getElem_mem (show 0 < l.length by omega))
  simp only [Addr.add, if_true] at ca
  obtain ⟨x0, hx0⟩ : ∃ x0, l[0] = x0 := ⟨_, rfl⟩
  rw [hx0] at ca hp0
  clear hA hp hx0
  go_enter Try.func74, Try.ntmps74
  go_wp2_with fail
  go_loop [3, 4] (fun m i => ∃ (k : Nat) (y : Int), k ≤ l.length ∧ i = .int .i64 k ∧ m = .int .i64 y ∧ 0 ≤ y) (fun _ i => l.length - (intOf i).toNat)
  case atStart => exact ⟨1, x0, by omega, rfl, rfl, hp0⟩
  case round =>
    obtain ⟨k, y, hk, rfl, rfl, hy⟩ := hrel
    clear ca
    by_cases hlt : k < l.length
    · obtain ⟨a2, ea, _, cb⟩ := HA.out.num (List.getElem?_eq_getElem hlt)
      simp only [Option.some.injEq] at ea
      subst ea
      have hpk := HP.out _ (List.getElem_mem hlt)
      obtain ⟨x, hx⟩ : ∃ x, l[k] = x := ⟨_, rfl⟩
      rw [hx] at cb hpk
      clear hx
      go_wp2_with fail
      all_goals
        go_round
        case rel => exact ⟨k + 1, _, by omega, by go_num, rfl, by first | assumption | omega | (split <;> omega)⟩
        case measure => simp [intOf] <;> omega
    · obtain rfl : k = l.length := by omega
      go_wp2_with fail
      go_ret
      exact ⟨⟨y, hy, rfl⟩, rfl⟩

set_option maxHeartbeats 8000000 in
set_option maxRecDepth 100000 in
theorem Fastest_ok (s : ByteArray) (hs : s.size ≤ maxLen) (ps : List Bp) (a : Addr) (c : Nat) (hl : ps.length ≤ 1000) (b : Bs) (hok : OkT s ps) (hb : OkS b) (hsb : sE b = 0) (e0 e1 : Int) (he0 : 0 ≤ e0 ∧ e0 ≤ 20000000000) (he1 : 0 ≤ e1 ∧ e1 ≤ 20000000000)
    (hbeg : e0 ≤ bwV ps b.brk e1 0) (hpos : ∀ i, i ≤ ps.length → 0 ≤ fwV ps b e0 e1 i ∧ fwV ps b e0 e1 i ≤ 20000000000) (w : World) (hA : Lies w w.heap.size (some a) (ps.flatMap pc)) :
    Calls Try.prog 38 #[.agg #[.string s, .slice (some a) ps.length c], .agg #[.int .i64 b.brk, .int .i64 b.drag, .int .i64 b.drv], .agg #[.int .i64 e0, .int .i64 e1]] w (RowE w (listF (ps.length + 1) (fwV ps b e0 e1)) 0) := by
  have hlm : ps.length ≤ maxLen := by unfold maxLen; omega
  have F0 := Lib.hid (Fr.b3 w 24 #[.string s, .slice (some a) ps.length c] 26 #[.int .i64 b.brk, .int .i64 b.drag, .int .i64 b.drv] 73 #[.int .i64 e0, .int .i64 e1])
  have HA := Lib.hid hA
  have HOK := Lib.hid hok
  have HB := Lib.hid hb
  obtain ⟨se, h1⟩ : ∃ se, sqE [e0, e1] = se := ⟨_, rfl⟩
  have g1 : se = 0 := by rw [← h1]; exact sqE_yes (by intro x hx; simp only [List.mem_cons, List.not_mem_nil, or_false] at hx; rcases hx with rfl | rfl <;> exact inB_iff.2 (by assumption))
  have HN : nz ((trE s ps).2 :: sE b :: [se]) = 0 := by rw [trE_ok hok, hsb, g1]; rfl
  have HCR : Hid (∀ (fa : Addr) (W : World), Lies W W.heap.size (some a) (ps.flatMap pc) → Lies W W.heap.size (some fa) (ic [se]) → Calls Try.prog 39 #[.agg #[.string s, .slice (some a) ps.length c], .agg #[.int .i64 b.brk, .int .i64 b.drag, .int .i64 b.drv], .slice (some fa) 1 1] W fun e w' => e = .returned (.tuple #[.agg #[.string s, .slice (some a) ps.length c, .int .i64 b.brk, .int .i64 b.drag, .int .i64 b.drv], .int .i64 0]) ∧ Below W.heap.size W w') := Lib.hid (fun fa W h1 h2 => checkRide_ok s hs ps (some a) c hlm b [se] fa 1 (by simp) (by simp) HN W h1 h2)
  have HS1 := Lib.hid h1
  have HSQ : Hid (∀ W : World, Lies W W.heap.size (some ⟨w.heap.size + 1 + 1, 0, none⟩) (ic [e0, e1]) → Calls Try.prog 72 #[.slice (some ⟨w.heap.size + 1 + 1, 0, none⟩) 2 2] W fun e w' => e = .returned (.int .i64 (sqE [e0, e1])) ∧ Below W.heap.size W w') := Lib.hid (fun W hW => errorOfSquare_bl [e0, e1] (some ⟨w.heap.size + 1 + 1, 0, none⟩) 2 (by simp [maxLen]) W hW)
  have HPOS := Lib.hid hpos
  have HBEG := Lib.hid hbeg
  have HE1 := Lib.hid he1.1
  have hdb : Hid (-3000 ≤ b.brk ∧ b.brk ≤ 3000) := Lib.hid (by have := hb.b0; have := hb.b1; omega)
  have hdd : Hid (0 ≤ b.drv ∧ b.drv ≤ 2000) := Lib.hid ⟨hb.v0, hb.v1⟩
  have h12 := hok.n12
  have h0 := Lib.hid hok.n0
  have hl1 : 1 ≤ (ps.length : Int) := by have := hok.n0; omega
  have hl2 : (ps.length : Int) ≤ 12 := by omega
  have HTOP := Lib.hid (bwV_top ps b.brk e1)
  clear hA hok hb hsb g1 h1 HN hpos hbeg he0 he1
  go_enter Try.func38, Try.ntmps38
  go_upto_region 1 with fail
  go_cut [8, 9] from 8 to 22 (fun pv rv W => ∃ g : Nat, pv = .pointer (some ⟨g, 0, none⟩) ∧ rv = .int .i64 0 ∧ Fr w W ((g, 77, #[.string s, .slice (some a) ps.length c, .int .i64 b.brk, .int .i64 b.drag, .int .i64 b.drv]) :: [(w.heap.size + 1 + 1, 73, #[.int .i64 e0, .int .i64 e1]), (w.heap.size + 1, 26, #[.int .i64 b.brk, .int .i64 b.drag, .int .i64 b.drv]), (w.heap.size, 24, #[.string s, .slice (some a) ps.length c])]))
  case first =>
    refine wp_abs ?_
    intro w5 h5
    have HALL : Hid (∀ W, Fr w W [(w.heap.size + 1 + 1, 73, #[.int .i64 e0, .int .i64 e1]), (w.heap.size + 1, 26, #[.int .i64 b.brk, .int .i64 b.drag, .int .i64 b.drv]), (w.heap.size, 24, #[.string s, .slice (some a) ps.length c])] → Fr w W [(w.heap.size + 1 + 1, 73, #[.int .i64 e0, .int .i64 e1]), (w.heap.size + 1, 26, #[.int .i64 b.brk, .int .i64 b.drag, .int .i64 b.drv]), (w.heap.size, 24, #[.string s, .slice (some a) ps.length c])] ∧ W.cell? ⟨w.heap.size, 0, none⟩ = some (.string s) ∧ W.cell? ⟨w.heap.size, 1, none⟩ = some (.slice (some a) ps.length c) ∧ W.cell? ⟨w.heap.size + 1, 0, none⟩ = some (.int .i64 b.brk) ∧ W.cell? ⟨w.heap.size + 1, 1, none⟩ = some (.int .i64 b.drag) ∧ W.cell? ⟨w.heap.size + 1, 2, none⟩ = some (.int .i64 b.drv) ∧ W.cell? ⟨w.heap.size + 1 + 1, 0, none⟩ = some (.int .i64 e0) ∧ W.cell? ⟨w.heap.size + 1 + 1, 1, none⟩ = some (.int .i64 e1)) := Lib.hid (fun W hW => ⟨hW, hW.at2.cell 0, hW.at2.cell 1, hW.at1.cell 0, hW.at1.cell 1, hW.at1.cell 2, hW.top.cell 0, hW.top.cell 1⟩)
    have F10 : Fr w w5 [(w.heap.size + 1 + 1, 73, #[.int .i64 e0, .int .i64 e1]), (w.heap.size + 1, 26, #[.int .i64 b.brk, .int .i64 b.drag, .int .i64 b.drv]), (w.heap.size, 24, #[.string s, .slice (some a) ps.length c])] := by subst h5; exact F0.out
    clear F0 h5
    refine Tw_start 11 (fun W => Fr w W [(w.heap.size + 1 + 1, 73, #[.int .i64 e0, .int .i64 e1]), (w.heap.size + 1, 26, #[.int .i64 b.brk, .int .i64 b.drag, .int .i64 b.drv]), (w.heap.size, 24, #[.string s, .slice (some a) ps.length c])] ∧ W.cell? ⟨w.heap.size, 0, none⟩ = some (.string s) ∧ W.cell? ⟨w.heap.size, 1, none⟩ = some (.slice (some a) ps.length c) ∧ W.cell? ⟨w.heap.size + 1, 0, none⟩ = some (.int .i64 b.brk) ∧ W.cell? ⟨w.heap.size + 1, 1, none⟩ = some (.int .i64 b.drag) ∧ W.cell? ⟨w.heap.size + 1, 2, none⟩ = some (.int .i64 b.drv) ∧ W.cell? ⟨w.heap.size + 1 + 1, 0, none⟩ = some (.int .i64 e0) ∧ W.cell? ⟨w.heap.size + 1 + 1, 1, none⟩ = some (.int .i64 e1)) (by kernel_rfl) (by kernel_rfl) rfl ?_ ?_
    · (try dsimp only)
      ((go_split_ands; refine HALL.out _ ?_; (first | assumption | (repeat (first | assumption | refine Fr.new ?_ _ | refine Fr.drew ?_ | (refine Fr.set ?_ (by first | exact Nat.le_refl _ | omega | (simp; done) | (simp; omega)) (by first | (simp; done) | (simp; omega)) _))); done)))
    refine Tw_takeL (i := 0) (v := ?tv65) rfl (by kernel_rfl) (by decide) (by kernel_rfl) (by kernel_rfl) (fun _ _ _ h => h) (by rfl) ?ty65 ?tn65
    case ty65 => (intro w hSw; (try dsimp only at hSw); go_simp <;> with_reducible rfl)
    (try simp only [Act.put, List.setIfInBounds_toArray, List.set_cons_zero, List.set_cons_succ])
    refine Tw_takeL (i := 1) (v := ?tv66) rfl (by kernel_rfl) (by decide) (by kernel_rfl) (by kernel_rfl) (fun _ _ _ h => h) (by rfl) ?ty66 ?tn66
    case ty66 => (intro w hSw; (try dsimp only at hSw); go_simp <;> with_reducible rfl)
    (try simp only [Act.put, List.setIfInBounds_toArray, List.set_cons_zero, List.set_cons_succ])
    refine Tw_takeL (i := 2) (v := ?tv67) rfl (by kernel_rfl) (by decide) (by kernel_rfl) (by kernel_rfl) (fun _ _ _ h => h) (by rfl) ?ty67 ?tn67
    case ty67 => (intro w hSw; (try dsimp only at hSw); go_simp <;> with_reducible rfl)
    (try simp only [Act.put, List.setIfInBounds_toArray, List.set_cons_zero, List.set_cons_succ])
    refine Tw_all (rs := [3, 9]) (by kernel_rfl) (by simp) (by decide) (fun hHeld => ?_)
    refine AllT.consL rfl (fun K hK => ?_) (AllT.consL rfl (fun K hK => ?_) (AllT.nil))
    · go_simp
      (go_at_call 72; go_split_ands; (with_reducible refine (HSQ.out _ (Lies.bk2i (Fr.top (by assumption)))).mono ?_); rintro e w7 ⟨rfl, hb7⟩; rw [HS1.out]; have F4 := Fr.call (by assumption) hb7; (first | (have N1 := Lib.hid (Bk.call N1.out hb7)) | skip); (first | (have L1 := Lib.hid (Lies.call L1.out hb7)) | skip); clear hb7)
      refine hK.out _ _ ?_ ?_
      · (try dsimp only)
        ((go_split_ands; refine HALL.out _ ?_; (first | assumption | (repeat (first | assumption | refine Fr.new ?_ _ | refine Fr.drew ?_ | (refine Fr.set ?_ (by first | exact Nat.le_refl _ | omega | (simp; done) | (simp; omega)) (by first | (simp; done) | (simp; omega)) _))); done)))
      clear hK K
      (try simp only [Act.put, List.setIfInBounds_toArray, List.set_cons_zero, List.set_cons_succ])
      refine Tw_all (rs := [4, 9]) (by kernel_rfl) (by simp) (by decide) (fun hHeld => ?_)
      refine AllT.consL rfl (fun K hK => ?_) (AllT.consL rfl (fun K hK => ?_) (AllT.nil))
      · go_simp
        refine hK.out _ _ ?_ ?_
        · (try dsimp only)
          ((go_split_ands; refine HALL.out _ ?_; (first | assumption | (repeat (first | assumption | refine Fr.new ?_ _ | refine Fr.drew ?_ | (refine Fr.set ?_ (by first | exact Nat.le_refl _ | omega | (simp; done) | (simp; omega)) (by first | (simp; done) | (simp; omega)) _))); done)))
        clear hK K
        (try simp only [Act.put, List.setIfInBounds_toArray, List.set_cons_zero, List.set_cons_succ])
        refine Tw_abs ?_
        intro wA70 hA70
        (first | (have N1 := Lib.hid (Bk.over_alloc hA70 N1.out)) | (have N1 := Lib.hid (Bk.over_alloc_drew hA70 N1.out)) | skip)
        (first | (have L1 := Lib.hid (fs_alloc (l := [se]) hA70 (by simp [maxLen]))) | (have L1 := Lib.hid (fs_drew (l := [se]) hA70 (by simp [maxLen]))))
        clear hA70
        refine Tw_all (rs := [5, 9]) (by kernel_rfl) (by simp) (by decide) (fun hHeld => ?_)
        refine AllT.consL rfl (fun K hK => ?_) (AllT.consL rfl (fun K hK => ?_) (AllT.nil))
        · go_simp
          (go_at_call 39; go_split_ands; (refine (HCR.out _ _ (Fr.lies HA.out (by assumption)) L1.out).mono ?_); rintro e w7 ⟨rfl, hb7⟩; have F6 := Fr.call (by assumption) hb7; (first | (have N1 := Lib.hid (Bk.call N1.out hb7)) | skip); (first | (have L1 := Lib.hid (Lies.call L1.out hb7)) | skip); clear hb7)
          refine hK.out _ _ ?_ ?_
          · (try dsimp only)
            ((go_split_ands; refine HALL.out _ ?_; (first | assumption | (repeat (first | assumption | refine Fr.new ?_ _ | refine Fr.drew ?_ | (refine Fr.set ?_ (by first | exact Nat.le_refl _ | omega | (simp; done) | (simp; omega)) (by first | (simp; done) | (simp; omega)) _))); done)))
          clear hK K
          (try simp only [Act.put, List.setIfInBounds_toArray, List.set_cons_zero, List.set_cons_succ])
          refine Tw_takeL (i := 6) (v := ?tv68) rfl (by kernel_rfl) (by decide) (by kernel_rfl) (by kernel_rfl) (fun _ _ _ h => h) (by rfl) ?ty68 ?tn68
          case ty68 => (intro w hSw; (try dsimp only at hSw); go_simp <;> with_reducible rfl)
          (try simp only [Act.put, List.setIfInBounds_toArray, List.set_cons_zero, List.set_cons_succ])
          refine Tw_takeL (i := 7) (v := ?tv69) rfl (by kernel_rfl) (by decide) (by kernel_rfl) (by kernel_rfl) (fun _ _ _ h => h) (by rfl) ?ty69 ?tn69
          case ty69 => (intro w hSw; (try dsimp only at hSw); go_simp <;> with_reducible rfl)
          (try simp only [Act.put, List.setIfInBounds_toArray, List.set_cons_zero, List.set_cons_succ])
          refine Tw_takeL (i := 8) (v := ?tv70) rfl (by kernel_rfl) (by decide) (by kernel_rfl) (by kernel_rfl) (fun _ _ _ h => h) (by rfl) ?ty70 ?tn70
          case ty70 => (intro w hSw; (try dsimp only at hSw); go_simp <;> with_reducible rfl)
          (try simp only [Act.put, List.setIfInBounds_toArray, List.set_cons_zero, List.set_cons_succ])
          refine Tw_all (rs := [9]) (by kernel_rfl) (by simp) (by decide) (fun hHeld => ?_)
          refine AllT.consL rfl (fun K hK => ?_) (AllT.nil)
          · go_simp
            refine hK.out _ _ ?_ ?_
            · (try dsimp only)
              ((go_split_ands; refine HALL.out _ ?_; (first | assumption | (repeat (first | assumption | refine Fr.new ?_ _ | refine Fr.drew ?_ | (refine Fr.set ?_ (by first | exact Nat.le_refl _ | omega | (simp; done) | (simp; omega)) (by first | (simp; done) | (simp; omega)) _))); done)))
            clear hK K
            (try simp only [Act.put, List.setIfInBounds_toArray, List.set_cons_zero, List.set_cons_succ])
            refine Tw_abs ?_
            intro wA72 hA72
            (first | (have N1 := Lib.hid (Bk.of_alloc hA72)) | (have N1 := Lib.hid (Bk.of_alloc_drew hA72)))
            have zg := Lib.hid (show w.heap.size + 3 ≤ _ from hHeld.1.top.lt)
            (first | (have L1 := Lib.hid (Lies.alloc hA72 L1.out)) | (have L1 := Lib.hid (Lies.alloc_drew hA72 L1.out)) | skip)
            clear hA72
            refine Tw_all (rs := [10]) (by kernel_rfl) (by simp) (by decide) (fun hHeld => ?_)
            refine AllT.consL rfl (fun K hK => ?_) (AllT.nil)
            · have c0 := N1.out.cell 0
              have c1 := N1.out.cell 1
              have c2 := N1.out.cell 2
              have c3 := N1.out.cell 3
              have c4 := N1.out.cell 4
              have f0 := N1.out.frozen 0
              have f1 := N1.out.frozen 1
              have f2 := N1.out.frozen 2
              have f3 := N1.out.frozen 3
              have f4 := N1.out.frozen 4
              have zN := N1.out.lt
              go_simp
              refine hK.out _ _ ?_ ?_
              · exact HALL.out _ (Fr.off5 (n := 3) hHeld.1 zg.out (by intro b hb; simp only [List.mem_cons, List.not_mem_nil, or_false] at hb; rcases hb with rfl | rfl | rfl <;> (dsimp only; omega)) _ _ _ _ _)
              clear hK K c0 f0 c1 f1 c2 f2 c3 f3 c4 f4 zN
              have N1 := Lib.hid (Bk.set5 N1.out (.string s) (.slice (some a) ps.length c) (.int .i64 b.brk) (.int .i64 b.drag) (.int .i64 b.drv))
              (try simp only [Act.put, List.setIfInBounds_toArray, List.set_cons_zero, List.set_cons_succ])
              refine Tw_end (by kernel_rfl) (fun hh => ?_)
              obtain ⟨F11, _⟩ := hh
              clear HALL
              go_wp2_with fail
              go_meet
              exact ⟨_, rfl, rfl, F11.more N1.out⟩
        · go_simp
          refine hK.out _ _ ?_ ?_
          · (try dsimp only)
            ((go_split_ands; refine HALL.out _ ?_; (first | assumption | (repeat (first | assumption | refine Fr.new ?_ _ | refine Fr.drew ?_ | (refine Fr.set ?_ (by first | exact Nat.le_refl _ | omega | (simp; done) | (simp; omega)) (by first | (simp; done) | (simp; omega)) _))); done)))
          clear hK K
          (try simp only [Act.put, List.setIfInBounds_toArray, List.set_cons_zero, List.set_cons_succ])
          refine Tw_abs ?_
          intro wA74 hA74
          (first | (have N1 := Lib.hid (Bk.of_alloc hA74)) | (have N1 := Lib.hid (Bk.of_alloc_drew hA74)))
          have zg := Lib.hid (show w.heap.size + 3 ≤ _ from hHeld.1.top.lt)
          (first | (have L1 := Lib.hid (Lies.alloc hA74 L1.out)) | (have L1 := Lib.hid (Lies.alloc_drew hA74 L1.out)) | skip)
          clear hA74
          refine Tw_all (rs := [5]) (by kernel_rfl) (by simp) (by decide) (fun hHeld => ?_)
          refine AllT.consL rfl (fun K hK => ?_) (AllT.nil)
          · go_simp
            (go_at_call 39; go_split_ands; (refine (HCR.out _ _ (Fr.lies HA.out (by assumption)) L1.out).mono ?_); rintro e w7 ⟨rfl, hb7⟩; have F6 := Fr.call (by assumption) hb7; (first | (have N1 := Lib.hid (Bk.call N1.out hb7)) | skip); (first | (have L1 := Lib.hid (Lies.call L1.out hb7)) | skip); clear hb7)
            refine hK.out _ _ ?_ ?_
            · (try dsimp only)
              ((go_split_ands; refine HALL.out _ ?_; (first | assumption | (repeat (first | assumption | refine Fr.new ?_ _ | refine Fr.drew ?_ | (refine Fr.set ?_ (by first | exact Nat.le_refl _ | omega | (simp; done) | (simp; omega)) (by first | (simp; done) | (simp; omega)) _))); done)))
            clear hK K
            (try simp only [Act.put, List.setIfInBounds_toArray, List.set_cons_zero, List.set_cons_succ])
            refine Tw_takeL (i := 6) (v := ?tv71) rfl (by kernel_rfl) (by decide) (by kernel_rfl) (by kernel_rfl) (fun _ _ _ h => h) (by rfl) ?ty71 ?tn71
            case ty71 => (intro w hSw; (try dsimp only at hSw); go_simp <;> with_reducible rfl)
            (try simp only [Act.put, List.setIfInBounds_toArray, List.set_cons_zero, List.set_cons_succ])
            refine Tw_takeL (i := 7) (v := ?tv72) rfl (by kernel_rfl) (by decide) (by kernel_rfl) (by kernel_rfl) (fun _ _ _ h => h) (by rfl) ?ty72 ?tn72
            case ty72 => (intro w hSw; (try dsimp only at hSw); go_simp <;> with_reducible rfl)
            (try simp only [Act.put, List.setIfInBounds_toArray, List.set_cons_zero, List.set_cons_succ])
            refine Tw_takeL (i := 8) (v := ?tv73) rfl (by kernel_rfl) (by decide) (by kernel_rfl) (by kernel_rfl) (fun _ _ _ h => h) (by rfl) ?ty73 ?tn73
            case ty73 => (intro w hSw; (try dsimp only at hSw); go_simp <;> with_reducible rfl)
            (try simp only [Act.put, List.setIfInBounds_toArray, List.set_cons_zero, List.set_cons_succ])
            refine Tw_all (rs := [10]) (by kernel_rfl) (by simp) (by decide) (fun hHeld => ?_)
            refine AllT.consL rfl (fun K hK => ?_) (AllT.nil)
            · have c0 := N1.out.cell 0
              have c1 := N1.out.cell 1
              have c2 := N1.out.cell 2
              have c3 := N1.out.cell 3
              have c4 := N1.out.cell 4
              have f0 := N1.out.frozen 0
              have f1 := N1.out.frozen 1
              have f2 := N1.out.frozen 2
              have f3 := N1.out.frozen 3
              have f4 := N1.out.frozen 4
              have zN := N1.out.lt
              go_simp
              refine hK.out _ _ ?_ ?_
              · exact HALL.out _ (Fr.off5 (n := 3) hHeld.1 zg.out (by intro b hb; simp only [List.mem_cons, List.not_mem_nil, or_false] at hb; rcases hb with rfl | rfl | rfl <;> (dsimp only; omega)) _ _ _ _ _)
              clear hK K c0 f0 c1 f1 c2 f2 c3 f3 c4 f4 zN
              have N1 := Lib.hid (Bk.set5 N1.out (.string s) (.slice (some a) ps.length c) (.int .i64 b.brk) (.int .i64 b.drag) (.int .i64 b.drv))
              (try simp only [Act.put, List.setIfInBounds_toArray, List.set_cons_zero, List.set_cons_succ])
              refine Tw_end (by kernel_rfl) (fun hh => ?_)
              obtain ⟨F11, _⟩ := hh
              clear HALL
              go_wp2_with fail
              go_meet
              exact ⟨_, rfl, rfl, F11.more N1.out⟩
      · go_simp
        refine hK.out _ _ ?_ ?_
        · (try dsimp only)
          ((go_split_ands; refine HALL.out _ ?_; (first | assumption | (repeat (first | assumption | refine Fr.new ?_ _ | refine Fr.drew ?_ | (refine Fr.set ?_ (by first | exact Nat.le_refl _ | omega | (simp; done) | (simp; omega)) (by first | (simp; done) | (simp; omega)) _))); done)))
        clear hK K
        (try simp only [Act.put, List.setIfInBounds_toArray, List.set_cons_zero, List.set_cons_succ])
        refine Tw_abs ?_
        intro wA77 hA77
        (first | (have N1 := Lib.hid (Bk.of_alloc hA77)) | (have N1 := Lib.hid (Bk.of_alloc_drew hA77)))
        have zg := Lib.hid (show w.heap.size + 3 ≤ _ from hHeld.1.top.lt)
        (first | (have L1 := Lib.hid (Lies.alloc hA77 L1.out)) | (have L1 := Lib.hid (Lies.alloc_drew hA77 L1.out)) | skip)
        clear hA77
        refine Tw_all (rs := [4]) (by kernel_rfl) (by simp) (by decide) (fun hHeld => ?_)
        refine AllT.consL rfl (fun K hK => ?_) (AllT.nil)
        · go_simp
          refine hK.out _ _ ?_ ?_
          · (try dsimp only)
            ((go_split_ands; refine HALL.out _ ?_; (first | assumption | (repeat (first | assumption | refine Fr.new ?_ _ | refine Fr.drew ?_ | (refine Fr.set ?_ (by first | exact Nat.le_refl _ | omega | (simp; done) | (simp; omega)) (by first | (simp; done) | (simp; omega)) _))); done)))
          clear hK K
          (try simp only [Act.put, List.setIfInBounds_toArray, List.set_cons_zero, List.set_cons_succ])
          refine Tw_abs ?_
          intro wA78 hA78
          (first | (have N1 := Lib.hid (Bk.over_alloc hA78 N1.out)) | (have N1 := Lib.hid (Bk.over_alloc_drew hA78 N1.out)) | skip)
          (first | (have L1 := Lib.hid (fs_alloc (l := [se]) hA78 (by simp [maxLen]))) | (have L1 := Lib.hid (fs_drew (l := [se]) hA78 (by simp [maxLen]))))
          clear hA78
          refine Tw_all (rs := [5]) (by kernel_rfl) (by simp) (by decide) (fun hHeld => ?_)
          refine AllT.consL rfl (fun K hK => ?_) (AllT.nil)
          · go_simp
            (go_at_call 39; go_split_ands; (refine (HCR.out _ _ (Fr.lies HA.out (by assumption)) L1.out).mono ?_); rintro e w7 ⟨rfl, hb7⟩; have F6 := Fr.call (by assumption) hb7; (first | (have N1 := Lib.hid (Bk.call N1.out hb7)) | skip); (first | (have L1 := Lib.hid (Lies.call L1.out hb7)) | skip); clear hb7)
            refine hK.out _ _ ?_ ?_
            · (try dsimp only)
              ((go_split_ands; refine HALL.out _ ?_; (first | assumption | (repeat (first | assumption | refine Fr.new ?_ _ | refine Fr.drew ?_ | (refine Fr.set ?_ (by first | exact Nat.le_refl _ | omega | (simp; done) | (simp; omega)) (by first | (simp; done) | (simp; omega)) _))); done)))
            clear hK K
            (try simp only [Act.put, List.setIfInBounds_toArray, List.set_cons_zero, List.set_cons_succ])
            refine Tw_takeL (i := 6) (v := ?tv74) rfl (by kernel_rfl) (by decide) (by kernel_rfl) (by kernel_rfl) (fun _ _ _ h => h) (by rfl) ?ty74 ?tn74
            case ty74 => (intro w hSw; (try dsimp only at hSw); go_simp <;> with_reducible rfl)
            (try simp only [Act.put, List.setIfInBounds_toArray, List.set_cons_zero, List.set_cons_succ])
            refine Tw_takeL (i := 7) (v := ?tv75) rfl (by kernel_rfl) (by decide) (by kernel_rfl) (by kernel_rfl) (fun _ _ _ h => h) (by rfl) ?ty75 ?tn75
            case ty75 => (intro w hSw; (try dsimp only at hSw); go_simp <;> with_reducible rfl)
            (try simp only [Act.put, List.setIfInBounds_toArray, List.set_cons_zero, List.set_cons_succ])
            refine Tw_takeL (i := 8) (v := ?tv76) rfl (by kernel_rfl) (by decide) (by kernel_rfl) (by kernel_rfl) (fun _ _ _ h => h) (by rfl) ?ty76 ?tn76
            case ty76 => (intro w hSw; (try dsimp only at hSw); go_simp <;> with_reducible rfl)
            (try simp only [Act.put, List.setIfInBounds_toArray, List.set_cons_zero, List.set_cons_succ])
            refine Tw_all (rs := [10]) (by kernel_rfl) (by simp) (by decide) (fun hHeld => ?_)
            refine AllT.consL rfl (fun K hK => ?_) (AllT.nil)
            · have c0 := N1.out.cell 0
              have c1 := N1.out.cell 1
              have c2 := N1.out.cell 2
              have c3 := N1.out.cell 3
              have c4 := N1.out.cell 4
              have f0 := N1.out.frozen 0
              have f1 := N1.out.frozen 1
              have f2 := N1.out.frozen 2
              have f3 := N1.out.frozen 3
              have f4 := N1.out.frozen 4
              have zN := N1.out.lt
              go_simp
              refine hK.out _ _ ?_ ?_
              · exact HALL.out _ (Fr.off5 (n := 3) hHeld.1 zg.out (by intro b hb; simp only [List.mem_cons, List.not_mem_nil, or_false] at hb; rcases hb with rfl | rfl | rfl <;> (dsimp only; omega)) _ _ _ _ _)
              clear hK K c0 f0 c1 f1 c2 f2 c3 f3 c4 f4 zN
              have N1 := Lib.hid (Bk.set5 N1.out (.string s) (.slice (some a) ps.length c) (.int .i64 b.brk) (.int .i64 b.drag) (.int .i64 b.drv))
              (try simp only [Act.put, List.setIfInBounds_toArray, List.set_cons_zero, List.set_cons_succ])
              refine Tw_end (by kernel_rfl) (fun hh => ?_)
              obtain ⟨F11, _⟩ := hh
              clear HALL
              go_wp2_with fail
              go_meet
              exact ⟨_, rfl, rfl, F11.more N1.out⟩
    · go_simp
      refine hK.out _ _ ?_ ?_
      · (try dsimp only)
        ((go_split_ands; refine HALL.out _ ?_; (first | assumption | (repeat (first | assumption | refine Fr.new ?_ _ | refine Fr.drew ?_ | (refine Fr.set ?_ (by first | exact Nat.le_refl _ | omega | (simp; done) | (simp; omega)) (by first | (simp; done) | (simp; omega)) _))); done)))
      clear hK K
      (try simp only [Act.put, List.setIfInBounds_toArray, List.set_cons_zero, List.set_cons_succ])
      refine Tw_abs ?_
      intro wA81 hA81
      (first | (have N1 := Lib.hid (Bk.of_alloc hA81)) | (have N1 := Lib.hid (Bk.of_alloc_drew hA81)))
      have zg := Lib.hid (show w.heap.size + 3 ≤ _ from hHeld.1.top.lt)
      (first | (have L1 := Lib.hid (Lies.alloc hA81 L1.out)) | (have L1 := Lib.hid (Lies.alloc_drew hA81 L1.out)) | skip)
      clear hA81
      refine Tw_all (rs := [3]) (by kernel_rfl) (by simp) (by decide) (fun hHeld => ?_)
      refine AllT.consL rfl (fun K hK => ?_) (AllT.nil)
      · go_simp
        (go_at_call 72; go_split_ands; (with_reducible refine (HSQ.out _ (Lies.bk2i (Fr.top (by assumption)))).mono ?_); rintro e w7 ⟨rfl, hb7⟩; rw [HS1.out]; have F4 := Fr.call (by assumption) hb7; (first | (have N1 := Lib.hid (Bk.call N1.out hb7)) | skip); (first | (have L1 := Lib.hid (Lies.call L1.out hb7)) | skip); clear hb7)
        refine hK.out _ _ ?_ ?_
        · (try dsimp only)
          ((go_split_ands; refine HALL.out _ ?_; (first | assumption | (repeat (first | assumption | refine Fr.new ?_ _ | refine Fr.drew ?_ | (refine Fr.set ?_ (by first | exact Nat.le_refl _ | omega | (simp; done) | (simp; omega)) (by first | (simp; done) | (simp; omega)) _))); done)))
        clear hK K
        (try simp only [Act.put, List.setIfInBounds_toArray, List.set_cons_zero, List.set_cons_succ])
        refine Tw_all (rs := [4]) (by kernel_rfl) (by simp) (by decide) (fun hHeld => ?_)
        refine AllT.consL rfl (fun K hK => ?_) (AllT.nil)
        · go_simp
          refine hK.out _ _ ?_ ?_
          · (try dsimp only)
            ((go_split_ands; refine HALL.out _ ?_; (first | assumption | (repeat (first | assumption | refine Fr.new ?_ _ | refine Fr.drew ?_ | (refine Fr.set ?_ (by first | exact Nat.le_refl _ | omega | (simp; done) | (simp; omega)) (by first | (simp; done) | (simp; omega)) _))); done)))
          clear hK K
          (try simp only [Act.put, List.setIfInBounds_toArray, List.set_cons_zero, List.set_cons_succ])
          refine Tw_abs ?_
          intro wA83 hA83
          (first | (have N1 := Lib.hid (Bk.over_alloc hA83 N1.out)) | (have N1 := Lib.hid (Bk.over_alloc_drew hA83 N1.out)) | skip)
          (first | (have L1 := Lib.hid (fs_alloc (l := [se]) hA83 (by simp [maxLen]))) | (have L1 := Lib.hid (fs_drew (l := [se]) hA83 (by simp [maxLen]))))
          clear hA83
          refine Tw_all (rs := [5]) (by kernel_rfl) (by simp) (by decide) (fun hHeld => ?_)
          refine AllT.consL rfl (fun K hK => ?_) (AllT.nil)
          · go_simp
            (go_at_call 39; go_split_ands; (refine (HCR.out _ _ (Fr.lies HA.out (by assumption)) L1.out).mono ?_); rintro e w7 ⟨rfl, hb7⟩; have F6 := Fr.call (by assumption) hb7; (first | (have N1 := Lib.hid (Bk.call N1.out hb7)) | skip); (first | (have L1 := Lib.hid (Lies.call L1.out hb7)) | skip); clear hb7)
            refine hK.out _ _ ?_ ?_
            · (try dsimp only)
              ((go_split_ands; refine HALL.out _ ?_; (first | assumption | (repeat (first | assumption | refine Fr.new ?_ _ | refine Fr.drew ?_ | (refine Fr.set ?_ (by first | exact Nat.le_refl _ | omega | (simp; done) | (simp; omega)) (by first | (simp; done) | (simp; omega)) _))); done)))
            clear hK K
            (try simp only [Act.put, List.setIfInBounds_toArray, List.set_cons_zero, List.set_cons_succ])
            refine Tw_takeL (i := 6) (v := ?tv77) rfl (by kernel_rfl) (by decide) (by kernel_rfl) (by kernel_rfl) (fun _ _ _ h => h) (by rfl) ?ty77 ?tn77
            case ty77 => (intro w hSw; (try dsimp only at hSw); go_simp <;> with_reducible rfl)
            (try simp only [Act.put, List.setIfInBounds_toArray, List.set_cons_zero, List.set_cons_succ])
            refine Tw_takeL (i := 7) (v := ?tv78) rfl (by kernel_rfl) (by decide) (by kernel_rfl) (by kernel_rfl) (fun _ _ _ h => h) (by rfl) ?ty78 ?tn78
            case ty78 => (intro w hSw; (try dsimp only at hSw); go_simp <;> with_reducible rfl)
            (try simp only [Act.put, List.setIfInBounds_toArray, List.set_cons_zero, List.set_cons_succ])
            refine Tw_takeL (i := 8) (v := ?tv79) rfl (by kernel_rfl) (by decide) (by kernel_rfl) (by kernel_rfl) (fun _ _ _ h => h) (by rfl) ?ty79 ?tn79
            case ty79 => (intro w hSw; (try dsimp only at hSw); go_simp <;> with_reducible rfl)
            (try simp only [Act.put, List.setIfInBounds_toArray, List.set_cons_zero, List.set_cons_succ])
            refine Tw_all (rs := [10]) (by kernel_rfl) (by simp) (by decide) (fun hHeld => ?_)
            refine AllT.consL rfl (fun K hK => ?_) (AllT.nil)
            · have c0 := N1.out.cell 0
              have c1 := N1.out.cell 1
              have c2 := N1.out.cell 2
              have c3 := N1.out.cell 3
              have c4 := N1.out.cell 4
              have f0 := N1.out.frozen 0
              have f1 := N1.out.frozen 1
              have f2 := N1.out.frozen 2
              have f3 := N1.out.frozen 3
              have f4 := N1.out.frozen 4
              have zN := N1.out.lt
              go_simp
              refine hK.out _ _ ?_ ?_
              · exact HALL.out _ (Fr.off5 (n := 3) hHeld.1 zg.out (by intro b hb; simp only [List.mem_cons, List.not_mem_nil, or_false] at hb; rcases hb with rfl | rfl | rfl <;> (dsimp only; omega)) _ _ _ _ _)
              clear hK K c0 f0 c1 f1 c2 f2 c3 f3 c4 f4 zN
              have N1 := Lib.hid (Bk.set5 N1.out (.string s) (.slice (some a) ps.length c) (.int .i64 b.brk) (.int .i64 b.drag) (.int .i64 b.drv))
              (try simp only [Act.put, List.setIfInBounds_toArray, List.set_cons_zero, List.set_cons_succ])
              refine Tw_end (by kernel_rfl) (fun hh => ?_)
              obtain ⟨F11, _⟩ := hh
              clear HALL
              go_wp2_with fail
              go_meet
              exact ⟨_, rfl, rfl, F11.more N1.out⟩
  case rest =>
    obtain ⟨wx, rfl⟩ : ∃ W, W = wc := ⟨_, rfl⟩
    obtain ⟨g, rfl, rfl, hx⟩ := hcut
    have FC := Lib.hid hx
    clear hx F0
    have q0 := FC.out.top.cell 0
    have q1 := FC.out.top.cell 1
    go_wp2_with fail
    refine (limits_any s ps a c h0.out HOK.out.n12 HOK.out.each _ (Fr.lies HA.out FC.out)).mono ?_
    rintro e w2 ⟨g2, rfl, n2, hg2, hb2⟩
    have HFAR : Hid (∀ b' ∈ ((g, 77, #[.string s, .slice (some a) ps.length c, .int .i64 b.brk, .int .i64 b.drag, .int .i64 b.drv]) :: [(w.heap.size + 1 + 1, 73, #[.int .i64 e0, .int .i64 e1]), (w.heap.size + 1, 26, #[.int .i64 b.brk, .int .i64 b.drag, .int .i64 b.drv]), (w.heap.size, 24, #[.string s, .slice (some a) ps.length c])] : List (Nat × TypeId × Array Value)), b'.1 ≠ g2) := Lib.hid (fun b' hb' => by have h1 := (FC.out.bk b' hb').lt; omega)
    have HWG : w.heap.size ≤ g2 := Nat.le_trans FC.out.bl.size hg2
    have F2 := Lib.hid ((FC.out.call hb2).more n2)
    clear hb2 n2 FC q0 q1 hg2
    have c0 := F2.out.top.rowF_at (k := ps.length) (by omega)
    have cf := F2.out.top.frozen ps.length
    have cz := F2.out.top.lt
    have y1 := (F2.out.get 2 rfl).cell 1
    have hsubl : (ps.length : Int) + 1 - 1 = (ps.length : Int) := by omega
    obtain ⟨LL, hLL⟩ : ∃ LL, limV ps ps.length = LL := ⟨_, rfl⟩
    rw [hLL] at c0
    have HLL := Lib.hid hLL
    clear hLL
    go_upto_region 6 with fail
    go_cut [40] from 32 to 41 (fun r W => r = .int .i64 (min LL e1) ∧ Fr w W ((g2, 3, rowF (ps.length + 1) (fun i => if ps.length ≤ i then bwV ps b.brk e1 i else limV ps i)) :: (g, 77, #[.string s, .slice (some a) ps.length c, .int .i64 b.brk, .int .i64 b.drag, .int .i64 b.drv]) :: [(w.heap.size + 1 + 1, 73, #[.int .i64 e0, .int .i64 e1]), (w.heap.size + 1, 26, #[.int .i64 b.brk, .int .i64 b.drag, .int .i64 b.drv]), (w.heap.size, 24, #[.string s, .slice (some a) ps.length c])]))
    case first =>
      have hN := Lib.hid ((F2.out.putR ps.length (min LL e1) HWG HFAR.out).congrR (f' := fun i => if ps.length ≤ i then bwV ps b.brk e1 i else limV ps i) (fun i hi => by
        by_cases e : i = ps.length
        · rw [if_pos e, e, if_pos (Nat.le_refl _), HTOP.out, HLL.out]
        · rw [if_neg e, if_neg (by omega)]))
      go_region
      all_goals
        go_wp2_with fail
        all_goals
          go_meet
          exact ⟨cong64 (by first | omega | (split <;> omega)), (Fr.valR2 hN.out (cong64 (by first | omega | (split <;> omega)))).drew⟩
    case rest =>
    obtain ⟨w3, rfl⟩ : ∃ W, W = wc := ⟨_, rfl⟩
    obtain ⟨rfl, hx3⟩ := hcut
    have F3 := Lib.hid hx3
    clear hx3 F2 c0 cf cz y1
    go_wp2_with fail
    go_loopw [12] (fun i wr => ∃ k : Nat, k ≤ ps.length ∧ i = .int .i64 ((k : Int) - 1) ∧ Fr w wr ((g2, 3, rowF (ps.length + 1) (fun i => if k ≤ i then bwV ps b.brk e1 i else limV ps i)) :: (g, 77, #[.string s, .slice (some a) ps.length c, .int .i64 b.brk, .int .i64 b.drag, .int .i64 b.drv]) :: [(w.heap.size + 1 + 1, 73, #[.int .i64 e0, .int .i64 e1]), (w.heap.size + 1, 26, #[.int .i64 b.brk, .int .i64 b.drag, .int .i64 b.drv]), (w.heap.size, 24, #[.string s, .slice (some a) ps.length c])])) (fun i _ => (intOf i + 1).toNat)
    case atStart => exact ⟨ps.length, Nat.le_refl _, by first | rfl | exact cong64 (by omega), F3.out⟩
    case round =>
      obtain ⟨k, hk, rfl, hf⟩ := hrel
      have FK := Lib.hid hf
      clear hf F3
      obtain ⟨v, hv⟩ : ∃ v : Int, v = (k : Int) - 1 := ⟨_, rfl⟩
      rw [← hv]
      cases k with
      | zero =>
        have hneg : v < 0 := by omega
        clear hv
        have F4 : Hid (Fr w wr ((g2, 3, rowF (ps.length + 1) (bwV ps b.brk e1)) :: (g, 77, #[.string s, .slice (some a) ps.length c, .int .i64 b.brk, .int .i64 b.drag, .int .i64 b.drv]) :: [(w.heap.size + 1 + 1, 73, #[.int .i64 e0, .int .i64 e1]), (w.heap.size + 1, 26, #[.int .i64 b.brk, .int .i64 b.drag, .int .i64 b.drv]), (w.heap.size, 24, #[.string s, .slice (some a) ps.length c])])) := Lib.hid (FK.out.congrR (fun i _ => by rw [if_pos (Nat.zero_le _)]))
        clear FK
        have r0 := F4.out.top.rowF_at (k := 0) (by omega)
        have y0 := (F4.out.get 2 rfl).cell 0
        obtain ⟨z0, hz0⟩ : ∃ z0, bwV ps b.brk e1 0 = z0 := ⟨_, rfl⟩
        rw [hz0] at r0
        have hle : e0 ≤ z0 := by rw [← hz0]; exact HBEG.out
        have gd : decide (z0 < e0) = false := decide_eq_false (by omega)
        have hnn : (0 : Int) < (ps.length : Int) + 1 := by omega
        clear hz0
        go_upto_region 11 with fail
        go_cut [70] from 65 to 70 (fun r W => r = .bool false ∧ Fr w W ((g2, 3, rowF (ps.length + 1) (bwV ps b.brk e1)) :: (g, 77, #[.string s, .slice (some a) ps.length c, .int .i64 b.brk, .int .i64 b.drag, .int .i64 b.drv]) :: [(w.heap.size + 1 + 1, 73, #[.int .i64 e0, .int .i64 e1]), (w.heap.size + 1, 26, #[.int .i64 b.brk, .int .i64 b.drag, .int .i64 b.drv]), (w.heap.size, 24, #[.string s, .slice (some a) ps.length c])]))
        case first =>
          go_quiet (fail)
          go_wp2_with fail
          go_meet
          exact ⟨rfl, F4.out.call (below_drewN (Below.refl _ _) _)⟩
        case rest =>
        obtain ⟨w5, rfl⟩ : ∃ W, W = wc := ⟨_, rfl⟩
        obtain ⟨rfl, hx5⟩ := hcut
        have F5 := Lib.hid hx5
        clear hx5 F4 r0 y0 gd hle
        have r0 := F5.out.top.rowF_at (k := 0) (by omega)
        have rf := F5.out.top.frozen 0
        have rz := F5.out.top.lt
        have y0 := (F5.out.get 2 rfl).cell 0
        go_wp2_with fail
        go_loopw [76] (fun i wr => ∃ k : Nat, k ≤ ps.length ∧ i = .int .i64 k ∧ Fr w wr ((g2, 3, rowF (ps.length + 1) (fun i => if i ≤ k then fwV ps b e0 e1 i else bwV ps b.brk e1 i)) :: (g, 77, #[.string s, .slice (some a) ps.length c, .int .i64 b.brk, .int .i64 b.drag, .int .i64 b.drv]) :: [(w.heap.size + 1 + 1, 73, #[.int .i64 e0, .int .i64 e1]), (w.heap.size + 1, 26, #[.int .i64 b.brk, .int .i64 b.drag, .int .i64 b.drv]), (w.heap.size, 24, #[.string s, .slice (some a) ps.length c])])) (fun i _ => ps.length - (intOf i).toNat)
        case atStart => exact ⟨0, Nat.zero_le _, rfl, (F5.out.putR 0 e0 HWG HFAR.out).congrR (fun i hi => by
          by_cases e : i = 0
          · subst e; rfl
          · rw [if_neg e, if_neg (by omega)])⟩
        case round =>
          obtain ⟨k, hk, rfl, hf⟩ := hrel
          have FK := Lib.hid hf
          clear hf F5 r0 rf rz y0
          by_cases hlt : k < ps.length
          · have hlt' : (k : Int) < (ps.length : Int) := by omega
            have hwj := IntWalk.i64_in ((k : Int) + 1) (by omega)
            have hj0 : (0 : Int) ≤ (k : Int) + 1 := by omega
            have hj3 : (k : Int) < (ps.length : Int) + 1 := by omega
            have hj4 : (k : Int) + 1 < (ps.length : Int) + 1 := by omega
            have hXB := HPOS.out k hk
            have hZB := bwV_bound HOK.out.each h12 hdb.out HE1.out (k + 1)
            have hEB := drvG_bound (gp_ok HOK.out.each k) hdd.out
            have HBR : Hid (∀ W, Lies W W.heap.size (some a) (ps.flatMap pc) → Calls Try.prog 73 #[.agg #[.string s, .slice (some a) ps.length c, .int .i64 b.brk, .int .i64 b.drag, .int .i64 b.drv], .int .i64 k] W fun e w' => e = .returned (.int .i64 (drvG (gp ps k) b.drv)) ∧ Below W.heap.size W w') := Lib.hid (fun W hW => driven_any s ps a c b HB.out h12 HOK.out.each k hlt W hW)
            have HSTEP : Hid (fwV ps b e0 e1 (k + 1) = min (bwV ps b.brk e1 (k + 1)) (fwV ps b e0 e1 k + drvG (gp ps k) b.drv)) := Lib.hid rfl
            obtain ⟨x, hx⟩ : ∃ x, fwV ps b e0 e1 k = x := ⟨_, rfl⟩
            obtain ⟨z, hz⟩ : ∃ z, bwV ps b.brk e1 (k + 1) = z := ⟨_, rfl⟩
            obtain ⟨l, hl3⟩ : ∃ l, drvG (gp ps k) b.drv = l := ⟨_, rfl⟩
            rw [hx, hz, hl3] at HSTEP
            obtain ⟨m, hm⟩ : ∃ m, min z (x + l) = m := ⟨_, rfl⟩
            rw [hm] at HSTEP
            have HX := Lib.hid hx
            have HZ := Lib.hid hz
            have HM : Hid ((x + l < z → m = x + l) ∧ (z ≤ x + l → m = z)) := Lib.hid ⟨fun h => by omega, fun h => by omega⟩
            rw [hx] at hXB
            rw [hz] at hZB
            rw [hl3] at hEB HBR
            have hwz := IntWalk.i64_in (x + l) (by omega)
            obtain ⟨xb0, xb1⟩ := hXB
            obtain ⟨zb0, zb1⟩ := hZB
            obtain ⟨eb0, eb1⟩ := hEB
            clear hx hz hl3 hm
            go_upto_region 17 with fail
            have HALL : Hid (∀ W, Fr w W ((g2, 3, rowF (ps.length + 1) (fun i => if i ≤ k then fwV ps b e0 e1 i else bwV ps b.brk e1 i)) :: (g, 77, #[.string s, .slice (some a) ps.length c, .int .i64 b.brk, .int .i64 b.drag, .int .i64 b.drv]) :: [(w.heap.size + 1 + 1, 73, #[.int .i64 e0, .int .i64 e1]), (w.heap.size + 1, 26, #[.int .i64 b.brk, .int .i64 b.drag, .int .i64 b.drv]), (w.heap.size, 24, #[.string s, .slice (some a) ps.length c])]) → Fr w W ((g2, 3, rowF (ps.length + 1) (fun i => if i ≤ k then fwV ps b e0 e1 i else bwV ps b.brk e1 i)) :: (g, 77, #[.string s, .slice (some a) ps.length c, .int .i64 b.brk, .int .i64 b.drag, .int .i64 b.drv]) :: [(w.heap.size + 1 + 1, 73, #[.int .i64 e0, .int .i64 e1]), (w.heap.size + 1, 26, #[.int .i64 b.brk, .int .i64 b.drag, .int .i64 b.drv]), (w.heap.size, 24, #[.string s, .slice (some a) ps.length c])]) ∧ W.cell? ⟨g, 0, none⟩ = some (.string s) ∧ W.cell? ⟨g, 1, none⟩ = some (.slice (some a) ps.length c) ∧ W.cell? ⟨g, 2, none⟩ = some (.int .i64 b.brk) ∧ W.cell? ⟨g, 3, none⟩ = some (.int .i64 b.drag) ∧ W.cell? ⟨g, 4, none⟩ = some (.int .i64 b.drv) ∧ W.cell? ⟨g2, k, none⟩ = some (.int .i64 x) ∧ W.cell? ⟨g2, k + 1, none⟩ = some (.int .i64 z)) := Lib.hid (fun W hW => ⟨hW, (hW.get 1 rfl).cell 0, (hW.get 1 rfl).cell 1, (hW.get 1 rfl).cell 2, (hW.get 1 rfl).cell 3, (hW.get 1 rfl).cell 4, by rw [hW.top.rowF_at (by omega), if_pos (Nat.le_refl _), HX.out], by rw [hW.top.rowF_at (by omega), if_neg (by omega), HZ.out]⟩)
            have F10 : Fr w _ ((g2, 3, rowF (ps.length + 1) (fun i => if i ≤ k then fwV ps b e0 e1 i else bwV ps b.brk e1 i)) :: (g, 77, #[.string s, .slice (some a) ps.length c, .int .i64 b.brk, .int .i64 b.drag, .int .i64 b.drv]) :: [(w.heap.size + 1 + 1, 73, #[.int .i64 e0, .int .i64 e1]), (w.heap.size + 1, 26, #[.int .i64 b.brk, .int .i64 b.drag, .int .i64 b.drv]), (w.heap.size, 24, #[.string s, .slice (some a) ps.length c])]) := FK.out
            clear FK
            refine Tw_start 18 (fun W => Fr w W ((g2, 3, rowF (ps.length + 1) (fun i => if i ≤ k then fwV ps b e0 e1 i else bwV ps b.brk e1 i)) :: (g, 77, #[.string s, .slice (some a) ps.length c, .int .i64 b.brk, .int .i64 b.drag, .int .i64 b.drv]) :: [(w.heap.size + 1 + 1, 73, #[.int .i64 e0, .int .i64 e1]), (w.heap.size + 1, 26, #[.int .i64 b.brk, .int .i64 b.drag, .int .i64 b.drv]), (w.heap.size, 24, #[.string s, .slice (some a) ps.length c])]) ∧ W.cell? ⟨g, 0, none⟩ = some (.string s) ∧ W.cell? ⟨g, 1, none⟩ = some (.slice (some a) ps.length c) ∧ W.cell? ⟨g, 2, none⟩ = some (.int .i64 b.brk) ∧ W.cell? ⟨g, 3, none⟩ = some (.int .i64 b.drag) ∧ W.cell? ⟨g, 4, none⟩ = some (.int .i64 b.drv) ∧ W.cell? ⟨g2, k, none⟩ = some (.int .i64 x) ∧ W.cell? ⟨g2, k + 1, none⟩ = some (.int .i64 z)) (by kernel_rfl) (by kernel_rfl) rfl ?_ ?_
            · (try dsimp only)
              ((go_split_ands; refine HALL.out _ ?_; (first | assumption | (repeat (first | assumption | refine Fr.new ?_ _ | refine Fr.drew ?_ | (refine Fr.set ?_ (by first | exact Nat.le_refl _ | omega | (simp; done) | (simp; omega)) (by first | (simp; done) | (simp; omega)) _))); done)))
            refine Tw_takeL (i := 0) (v := ?tv96) rfl (by kernel_rfl) (by decide) (by kernel_rfl) (by kernel_rfl) (fun _ _ _ h => h) (by rfl) ?ty96 ?tn96
            case ty96 => (intro w hSw; (try dsimp only at hSw); go_simp <;> with_reducible rfl)
            (try simp only [Act.put, List.setIfInBounds_toArray, List.set_cons_zero, List.set_cons_succ])
            refine Tw_takeL (i := 1) (v := ?tv97) rfl (by kernel_rfl) (by decide) (by kernel_rfl) (by kernel_rfl) (fun _ _ _ h => h) (by rfl) ?ty97 ?tn97
            case ty97 => (intro w hSw; (try dsimp only at hSw); go_simp <;> with_reducible rfl)
            (try simp only [Act.put, List.setIfInBounds_toArray, List.set_cons_zero, List.set_cons_succ])
            refine Tw_takeL (i := 2) (v := ?tv98) rfl (by kernel_rfl) (by decide) (by kernel_rfl) (by kernel_rfl) (fun _ _ _ h => h) (by rfl) ?ty98 ?tn98
            case ty98 => (intro w hSw; (try dsimp only at hSw); go_simp <;> with_reducible rfl)
            (try simp only [Act.put, List.setIfInBounds_toArray, List.set_cons_zero, List.set_cons_succ])
            refine Tw_takeL (i := 3) (v := ?tv99) rfl (by kernel_rfl) (by decide) (by kernel_rfl) (by kernel_rfl) (fun _ _ _ h => h) (by rfl) ?ty99 ?tn99
            case ty99 => (intro w hSw; (try dsimp only at hSw); go_simp <;> with_reducible rfl)
            (try simp only [Act.put, List.setIfInBounds_toArray, List.set_cons_zero, List.set_cons_succ])
            refine Tw_takeL (i := 4) (v := ?tv100) rfl (by kernel_rfl) (by decide) (by kernel_rfl) (by kernel_rfl) (fun _ _ _ h => h) (by rfl) ?ty100 ?tn100
            case ty100 => (intro w hSw; (try dsimp only at hSw); go_simp <;> with_reducible rfl)
            (try simp only [Act.put, List.setIfInBounds_toArray, List.set_cons_zero, List.set_cons_succ])
            refine Tw_takeL (i := 5) (v := ?tv101) rfl (by kernel_rfl) (by decide) (by kernel_rfl) (by kernel_rfl) (fun _ _ _ h => h) (by rfl) ?ty101 ?tn101
            case ty101 => (intro w hSw; (try dsimp only at hSw); go_simp <;> with_reducible rfl)
            (try simp only [Act.put, List.setIfInBounds_toArray, List.set_cons_zero, List.set_cons_succ])
            refine Tw_takeL (i := 6) (v := ?tv102) rfl (by kernel_rfl) (by decide) (by kernel_rfl) (by kernel_rfl) (fun _ _ _ h => h) (by rfl) ?ty102 ?tn102
            case ty102 => (intro w hSw; (try dsimp only at hSw); go_simp <;> with_reducible rfl)
            (try simp only [Act.put, List.setIfInBounds_toArray, List.set_cons_zero, List.set_cons_succ])
            refine Tw_takeL (i := 7) (v := ?tv103) rfl (by kernel_rfl) (by decide) (by kernel_rfl) (by kernel_rfl) (fun _ _ _ h => h) (by rfl) ?ty103 ?tn103
            case ty103 => (intro w hSw; (try dsimp only at hSw); go_simp <;> with_reducible rfl)
            (try simp only [Act.put, List.setIfInBounds_toArray, List.set_cons_zero, List.set_cons_succ])
            refine Tw_takeL (i := 8) (v := ?tv104) rfl (by kernel_rfl) (by decide) (by kernel_rfl) (by kernel_rfl) (fun _ _ _ h => h) (by rfl) ?ty104 ?tn104
            case ty104 => (intro w hSw; (try dsimp only at hSw); go_simp <;> with_reducible rfl)
            (try simp only [Act.put, List.setIfInBounds_toArray, List.set_cons_zero, List.set_cons_succ])
            refine Tw_takeL (i := 9) (v := ?tv105) rfl (by kernel_rfl) (by decide) (by kernel_rfl) (by kernel_rfl) (fun _ _ _ h => h) (by rfl) ?ty105 ?tn105
            case ty105 => (intro w hSw; (try dsimp only at hSw); go_simp <;> with_reducible rfl)
            (try simp only [Act.put, List.setIfInBounds_toArray, List.set_cons_zero, List.set_cons_succ])
            refine Tw_takeL (i := 10) (v := ?tv106) rfl (by kernel_rfl) (by decide) (by kernel_rfl) (by kernel_rfl) (fun _ _ _ h => h) (by rfl) ?ty106 ?tn106
            case ty106 => (intro w hSw; (try dsimp only at hSw); go_simp <;> with_reducible rfl)
            (try simp only [Act.put, List.setIfInBounds_toArray, List.set_cons_zero, List.set_cons_succ])
            refine Tw_takeL (i := 11) (v := ?tv107) rfl (by kernel_rfl) (by decide) (by kernel_rfl) (by kernel_rfl) (fun _ _ _ h => h) (by rfl) ?ty107 ?tn107
            case ty107 => (intro w hSw; (try dsimp only at hSw); go_simp <;> with_reducible rfl)
            (try simp only [Act.put, List.setIfInBounds_toArray, List.set_cons_zero, List.set_cons_succ])
            refine Tw_takeL (i := 12) (v := ?tv108) rfl (by kernel_rfl) (by decide) (by kernel_rfl) (by kernel_rfl) (fun _ _ _ h => h) (by rfl) ?ty108 ?tn108
            case ty108 => (intro w hSw; (try dsimp only at hSw); go_simp <;> with_reducible rfl)
            (try simp only [Act.put, List.setIfInBounds_toArray, List.set_cons_zero, List.set_cons_succ])
            refine Tw_takeL (i := 13) (v := ?tv109) rfl (by kernel_rfl) (by decide) (by kernel_rfl) (by kernel_rfl) (fun _ _ _ h => h) (by rfl) ?ty109 ?tn109
            case ty109 => (intro w hSw; (try dsimp only at hSw); go_simp <;> with_reducible rfl)
            (try simp only [Act.put, List.setIfInBounds_toArray, List.set_cons_zero, List.set_cons_succ])
            refine Tw_all (rs := [14]) (by kernel_rfl) (by simp) (by decide) (fun hHeld => ?_)
            refine AllT.consL rfl (fun K hK => ?_) AllT.nil
            go_simp
            (go_at_call 73; go_split_ands; (with_reducible refine (HBR.out _ (Fr.lies HA.out (by assumption))).mono ?_); rintro e w7 ⟨rfl, hb7⟩; have F4 := Fr.call (by assumption) hb7; clear hb7)
            refine hK.out _ _ ?_ ?_
            · (try dsimp only)
              ((go_split_ands; refine HALL.out _ ?_; (first | assumption | (repeat (first | assumption | refine Fr.new ?_ _ | refine Fr.drew ?_ | (refine Fr.set ?_ (by first | exact Nat.le_refl _ | omega | (simp; done) | (simp; omega)) (by first | (simp; done) | (simp; omega)) _))); done)))
            clear hK K
            (try simp only [Act.put, List.setIfInBounds_toArray, List.set_cons_zero, List.set_cons_succ])
            refine Tw_takeL (i := 15) (v := ?tv110) rfl (by kernel_rfl) (by decide) (by kernel_rfl) (by kernel_rfl) (fun _ _ _ h => h) (by rfl) ?ty110 ?tn110
            case ty110 => (intro w hSw; (try dsimp only at hSw); go_simp <;> with_reducible rfl)
            (try simp only [Act.put, List.setIfInBounds_toArray, List.set_cons_zero, List.set_cons_succ])
            refine Tw_takeL (i := 16) (v := ?tv111) rfl (by kernel_rfl) (by decide) (by kernel_rfl) (by kernel_rfl) (fun _ _ _ h => h) (by rfl) ?ty111 ?tn111
            case ty111 => (intro w hSw; (try dsimp only at hSw); go_simp <;> with_reducible rfl)
            (try simp only [Act.put, List.setIfInBounds_toArray, List.set_cons_zero, List.set_cons_succ])
            refine Tw_takeL (i := 17) (v := ?tv112) rfl (by kernel_rfl) (by decide) (by kernel_rfl) (by kernel_rfl) (fun _ _ _ h => h) (by rfl) ?ty112 ?tn112
            case ty112 => (intro w hSw; (try dsimp only at hSw); go_simp <;> with_reducible rfl)
            (try simp only [Act.put, List.setIfInBounds_toArray, List.set_cons_zero, List.set_cons_succ])
            refine Tw_end (by kernel_rfl) (fun hh => ?_)
            obtain ⟨F11, _⟩ := hh
            clear HALL
            have HF := Lib.hid F11
            have c0 := F11.top.rowF_at (k := k + 1) (by omega)
            have f0 := F11.top.frozen (k + 1)
            have zN := F11.top.lt
            clear F11
            go_wp2_with fail
            all_goals
              go_roundw
              case rel =>
                have FN := (HF.out.putR (k + 1) m HWG HFAR.out).congrR (f' := fun i => if i ≤ k + 1 then fwV ps b e0 e1 i else bwV ps b.brk e1 i) (fun i hi => by
                  by_cases e : i = k + 1
                  · subst e; rw [if_pos rfl, if_pos (Nat.le_refl _), HSTEP.out]
                  · rw [if_neg e]
                    by_cases e2 : i ≤ k
                    · rw [if_pos e2, if_pos (by omega)]
                    · rw [if_neg e2, if_neg (by omega)])
                exact ⟨k + 1, by omega, by go_num, Fr.valR2 FN (cong64 (by have h1 := HM.out; first | omega | (simp at h1; omega)))⟩
              case measure => simp [intOf] <;> omega
          · obtain rfl : k = ps.length := by omega
            have F6 : Hid (Fr w wr ((g2, 3, rowF (ps.length + 1) (fwV ps b e0 e1)) :: (g, 77, #[.string s, .slice (some a) ps.length c, .int .i64 b.brk, .int .i64 b.drag, .int .i64 b.drv]) :: [(w.heap.size + 1 + 1, 73, #[.int .i64 e0, .int .i64 e1]), (w.heap.size + 1, 26, #[.int .i64 b.brk, .int .i64 b.drag, .int .i64 b.drv]), (w.heap.size, 24, #[.string s, .slice (some a) ps.length c])])) := Lib.hid (FK.out.congrR (fun i hi => by rw [if_pos (by omega)]))
            clear FK
            have HMIN : Hid (∀ W, Lies W W.heap.size (some ⟨g2, 0, none⟩) (ic (listF (ps.length + 1) (fwV ps b e0 e1))) → Calls Try.prog 74 #[.slice (some ⟨g2, 0, none⟩) (ps.length + 1 : Nat) (ps.length + 1 : Nat)] W fun e w' => (∃ m : Int, 0 ≤ m ∧ e = .returned (.int .i64 m)) ∧ W = w') := Lib.hid (fun W hW => by
              have hb : ∀ x ∈ listF (ps.length + 1) (fwV ps b e0 e1), 0 ≤ x ∧ x ≤ 20000000000 := fun x hx => by
                obtain ⟨i, hi, rfl⟩ := List.mem_map.1 hx
                exact HPOS.out i (by have := List.mem_range.1 hi; omega)
              have := Min_any (listF (ps.length + 1) (fwV ps b e0 e1)) (some ⟨g2, 0, none⟩) (ps.length + 1) (by rw [listF_len]; omega) (by rw [listF_len]; omega) (fun x hx => by have := hb x hx; omega) (fun x hx => (hb x hx).1) W hW
              rw [listF_len] at this
              exact this)
            go_wp2_with fail
            refine (HMIN.out _ (rowF_lies F6.out.top)).mono ?_
            rintro e w7 ⟨⟨m, hm, rfl⟩, rfl⟩
            go_wp2_with fail
            go_ret2
            exact rowL F6.out.top F6.out
      | succ j =>
        obtain rfl : v = (j : Int) := by omega
        have hwj := IntWalk.i64_in ((j : Int) + 1) (by omega)
        have hj0 : (0 : Int) ≤ (j : Int) + 1 := by omega
        have hj1 : (j : Int) < (ps.length : Int) := by omega
        have hj3 : (j : Int) < (ps.length : Int) + 1 := by omega
        have hj4 : (j : Int) + 1 < (ps.length : Int) + 1 := by omega
        have hLB := limV_bound HOK.out.each j
        have hZB := bwV_bound HOK.out.each h12 hdb.out HE1.out (j + 1)
        have hEB := lossV_bound (gp_ok HOK.out.each j) (d := b.brk) hdb.out
        have HBR : Hid (∀ W, Lies W W.heap.size (some a) (ps.flatMap pc) → Calls Try.prog 71 #[.agg #[.string s, .slice (some a) ps.length c, .int .i64 b.brk, .int .i64 b.drag, .int .i64 b.drv], .int .i64 j] W fun e w' => e = .returned (.int .i64 (lossV (gp ps j) b.brk)) ∧ Below W.heap.size W w') := Lib.hid (fun W hW => braked_any s ps a c b HB.out h12 HOK.out.each j (by omega) W hW)
        have HSTEP := Lib.hid (bwV_step ps b.brk e1 j (by omega))
        obtain ⟨L, hL⟩ : ∃ L, limV ps j = L := ⟨_, rfl⟩
        obtain ⟨z, hz⟩ : ∃ z, bwV ps b.brk e1 (j + 1) = z := ⟨_, rfl⟩
        obtain ⟨l, hl3⟩ : ∃ l, lossV (gp ps j) b.brk = l := ⟨_, rfl⟩
        rw [hL, hz, hl3] at HSTEP
        obtain ⟨m, hm⟩ : ∃ m, min L (z + l) = m := ⟨_, rfl⟩
        rw [hm] at HSTEP
        have HZ := Lib.hid hz
        have HL := Lib.hid hL
        have HM : Hid ((z + l < L → m = z + l) ∧ (L ≤ z + l → m = L)) := Lib.hid ⟨fun h => by omega, fun h => by omega⟩
        rw [hL] at hLB
        rw [hz] at hZB
        rw [hl3] at hEB HBR
        have hwz := IntWalk.i64_in (z + l) (by omega)
        obtain ⟨lb0, lb1⟩ := hLB
        obtain ⟨zb0, zb1⟩ := hZB
        obtain ⟨eb0, eb1⟩ := hEB
        clear hL hz hl3 hm hv
        go_upto_region 10 with fail
        have HALL : Hid (∀ W, Fr w W ((g2, 3, rowF (ps.length + 1) (fun i => if j + 1 ≤ i then bwV ps b.brk e1 i else limV ps i)) :: (g, 77, #[.string s, .slice (some a) ps.length c, .int .i64 b.brk, .int .i64 b.drag, .int .i64 b.drv]) :: [(w.heap.size + 1 + 1, 73, #[.int .i64 e0, .int .i64 e1]), (w.heap.size + 1, 26, #[.int .i64 b.brk, .int .i64 b.drag, .int .i64 b.drv]), (w.heap.size, 24, #[.string s, .slice (some a) ps.length c])]) → Fr w W ((g2, 3, rowF (ps.length + 1) (fun i => if j + 1 ≤ i then bwV ps b.brk e1 i else limV ps i)) :: (g, 77, #[.string s, .slice (some a) ps.length c, .int .i64 b.brk, .int .i64 b.drag, .int .i64 b.drv]) :: [(w.heap.size + 1 + 1, 73, #[.int .i64 e0, .int .i64 e1]), (w.heap.size + 1, 26, #[.int .i64 b.brk, .int .i64 b.drag, .int .i64 b.drv]), (w.heap.size, 24, #[.string s, .slice (some a) ps.length c])]) ∧ W.cell? ⟨g, 0, none⟩ = some (.string s) ∧ W.cell? ⟨g, 1, none⟩ = some (.slice (some a) ps.length c) ∧ W.cell? ⟨g, 2, none⟩ = some (.int .i64 b.brk) ∧ W.cell? ⟨g, 3, none⟩ = some (.int .i64 b.drag) ∧ W.cell? ⟨g, 4, none⟩ = some (.int .i64 b.drv) ∧ W.cell? ⟨g2, j, none⟩ = some (.int .i64 L) ∧ W.cell? ⟨g2, j + 1, none⟩ = some (.int .i64 z)) := Lib.hid (fun W hW => ⟨hW, (hW.get 1 rfl).cell 0, (hW.get 1 rfl).cell 1, (hW.get 1 rfl).cell 2, (hW.get 1 rfl).cell 3, (hW.get 1 rfl).cell 4, by rw [hW.top.rowF_at (by omega), if_neg (by omega), HL.out], by rw [hW.top.rowF_at (by omega), if_pos (Nat.le_refl _), HZ.out]⟩)
        have F10 : Fr w _ ((g2, 3, rowF (ps.length + 1) (fun i => if j + 1 ≤ i then bwV ps b.brk e1 i else limV ps i)) :: (g, 77, #[.string s, .slice (some a) ps.length c, .int .i64 b.brk, .int .i64 b.drag, .int .i64 b.drv]) :: [(w.heap.size + 1 + 1, 73, #[.int .i64 e0, .int .i64 e1]), (w.heap.size + 1, 26, #[.int .i64 b.brk, .int .i64 b.drag, .int .i64 b.drv]), (w.heap.size, 24, #[.string s, .slice (some a) ps.length c])]) := FK.out
        clear FK
        refine Tw_start 17 (fun W => Fr w W ((g2, 3, rowF (ps.length + 1) (fun i => if j + 1 ≤ i then bwV ps b.brk e1 i else limV ps i)) :: (g, 77, #[.string s, .slice (some a) ps.length c, .int .i64 b.brk, .int .i64 b.drag, .int .i64 b.drv]) :: [(w.heap.size + 1 + 1, 73, #[.int .i64 e0, .int .i64 e1]), (w.heap.size + 1, 26, #[.int .i64 b.brk, .int .i64 b.drag, .int .i64 b.drv]), (w.heap.size, 24, #[.string s, .slice (some a) ps.length c])]) ∧ W.cell? ⟨g, 0, none⟩ = some (.string s) ∧ W.cell? ⟨g, 1, none⟩ = some (.slice (some a) ps.length c) ∧ W.cell? ⟨g, 2, none⟩ = some (.int .i64 b.brk) ∧ W.cell? ⟨g, 3, none⟩ = some (.int .i64 b.drag) ∧ W.cell? ⟨g, 4, none⟩ = some (.int .i64 b.drv) ∧ W.cell? ⟨g2, j, none⟩ = some (.int .i64 L) ∧ W.cell? ⟨g2, j + 1, none⟩ = some (.int .i64 z)) (by kernel_rfl) (by kernel_rfl) rfl ?_ ?_
        · (try dsimp only)
          ((go_split_ands; refine HALL.out _ ?_; (first | assumption | (repeat (first | assumption | refine Fr.new ?_ _ | refine Fr.drew ?_ | (refine Fr.set ?_ (by first | exact Nat.le_refl _ | omega | (simp; done) | (simp; omega)) (by first | (simp; done) | (simp; omega)) _))); done)))
        refine Tw_takeL (i := 0) (v := ?tv80) rfl (by kernel_rfl) (by decide) (by kernel_rfl) (by kernel_rfl) (fun _ _ _ h => h) (by rfl) ?ty80 ?tn80
        case ty80 => (intro w hSw; (try dsimp only at hSw); go_simp <;> with_reducible rfl)
        (try simp only [Act.put, List.setIfInBounds_toArray, List.set_cons_zero, List.set_cons_succ])
        refine Tw_takeL (i := 1) (v := ?tv81) rfl (by kernel_rfl) (by decide) (by kernel_rfl) (by kernel_rfl) (fun _ _ _ h => h) (by rfl) ?ty81 ?tn81
        case ty81 => (intro w hSw; (try dsimp only at hSw); go_simp <;> with_reducible rfl)
        (try simp only [Act.put, List.setIfInBounds_toArray, List.set_cons_zero, List.set_cons_succ])
        refine Tw_takeL (i := 2) (v := ?tv82) rfl (by kernel_rfl) (by decide) (by kernel_rfl) (by kernel_rfl) (fun _ _ _ h => h) (by rfl) ?ty82 ?tn82
        case ty82 => (intro w hSw; (try dsimp only at hSw); go_simp <;> with_reducible rfl)
        (try simp only [Act.put, List.setIfInBounds_toArray, List.set_cons_zero, List.set_cons_succ])
        refine Tw_takeL (i := 3) (v := ?tv83) rfl (by kernel_rfl) (by decide) (by kernel_rfl) (by kernel_rfl) (fun _ _ _ h => h) (by rfl) ?ty83 ?tn83
        case ty83 => (intro w hSw; (try dsimp only at hSw); go_simp <;> with_reducible rfl)
        (try simp only [Act.put, List.setIfInBounds_toArray, List.set_cons_zero, List.set_cons_succ])
        refine Tw_takeL (i := 4) (v := ?tv84) rfl (by kernel_rfl) (by decide) (by kernel_rfl) (by kernel_rfl) (fun _ _ _ h => h) (by rfl) ?ty84 ?tn84
        case ty84 => (intro w hSw; (try dsimp only at hSw); go_simp <;> with_reducible rfl)
        (try simp only [Act.put, List.setIfInBounds_toArray, List.set_cons_zero, List.set_cons_succ])
        refine Tw_takeL (i := 5) (v := ?tv85) rfl (by kernel_rfl) (by decide) (by kernel_rfl) (by kernel_rfl) (fun _ _ _ h => h) (by rfl) ?ty85 ?tn85
        case ty85 => (intro w hSw; (try dsimp only at hSw); go_simp <;> with_reducible rfl)
        (try simp only [Act.put, List.setIfInBounds_toArray, List.set_cons_zero, List.set_cons_succ])
        refine Tw_takeL (i := 6) (v := ?tv86) rfl (by kernel_rfl) (by decide) (by kernel_rfl) (by kernel_rfl) (fun _ _ _ h => h) (by rfl) ?ty86 ?tn86
        case ty86 => (intro w hSw; (try dsimp only at hSw); go_simp <;> with_reducible rfl)
        (try simp only [Act.put, List.setIfInBounds_toArray, List.set_cons_zero, List.set_cons_succ])
        refine Tw_takeL (i := 7) (v := ?tv87) rfl (by kernel_rfl) (by decide) (by kernel_rfl) (by kernel_rfl) (fun _ _ _ h => h) (by rfl) ?ty87 ?tn87
        case ty87 => (intro w hSw; (try dsimp only at hSw); go_simp <;> with_reducible rfl)
        (try simp only [Act.put, List.setIfInBounds_toArray, List.set_cons_zero, List.set_cons_succ])
        refine Tw_takeL (i := 8) (v := ?tv88) rfl (by kernel_rfl) (by decide) (by kernel_rfl) (by kernel_rfl) (fun _ _ _ h => h) (by rfl) ?ty88 ?tn88
        case ty88 => (intro w hSw; (try dsimp only at hSw); go_simp <;> with_reducible rfl)
        (try simp only [Act.put, List.setIfInBounds_toArray, List.set_cons_zero, List.set_cons_succ])
        refine Tw_takeL (i := 9) (v := ?tv89) rfl (by kernel_rfl) (by decide) (by kernel_rfl) (by kernel_rfl) (fun _ _ _ h => h) (by rfl) ?ty89 ?tn89
        case ty89 => (intro w hSw; (try dsimp only at hSw); go_simp <;> with_reducible rfl)
        (try simp only [Act.put, List.setIfInBounds_toArray, List.set_cons_zero, List.set_cons_succ])
        refine Tw_takeL (i := 10) (v := ?tv90) rfl (by kernel_rfl) (by decide) (by kernel_rfl) (by kernel_rfl) (fun _ _ _ h => h) (by rfl) ?ty90 ?tn90
        case ty90 => (intro w hSw; (try dsimp only at hSw); go_simp <;> with_reducible rfl)
        (try simp only [Act.put, List.setIfInBounds_toArray, List.set_cons_zero, List.set_cons_succ])
        refine Tw_takeL (i := 11) (v := ?tv91) rfl (by kernel_rfl) (by decide) (by kernel_rfl) (by kernel_rfl) (fun _ _ _ h => h) (by rfl) ?ty91 ?tn91
        case ty91 => (intro w hSw; (try dsimp only at hSw); go_simp <;> with_reducible rfl)
        (try simp only [Act.put, List.setIfInBounds_toArray, List.set_cons_zero, List.set_cons_succ])
        refine Tw_takeL (i := 12) (v := ?tv92) rfl (by kernel_rfl) (by decide) (by kernel_rfl) (by kernel_rfl) (fun _ _ _ h => h) (by rfl) ?ty92 ?tn92
        case ty92 => (intro w hSw; (try dsimp only at hSw); go_simp <;> with_reducible rfl)
        (try simp only [Act.put, List.setIfInBounds_toArray, List.set_cons_zero, List.set_cons_succ])
        refine Tw_all (rs := [13]) (by kernel_rfl) (by simp) (by decide) (fun hHeld => ?_)
        refine AllT.consL rfl (fun K hK => ?_) AllT.nil
        go_simp
        (go_at_call 71; go_split_ands; (with_reducible refine (HBR.out _ (Fr.lies HA.out (by assumption))).mono ?_); rintro e w7 ⟨rfl, hb7⟩; have F4 := Fr.call (by assumption) hb7; clear hb7)
        refine hK.out _ _ ?_ ?_
        · (try dsimp only)
          ((go_split_ands; refine HALL.out _ ?_; (first | assumption | (repeat (first | assumption | refine Fr.new ?_ _ | refine Fr.drew ?_ | (refine Fr.set ?_ (by first | exact Nat.le_refl _ | omega | (simp; done) | (simp; omega)) (by first | (simp; done) | (simp; omega)) _))); done)))
        clear hK K
        (try simp only [Act.put, List.setIfInBounds_toArray, List.set_cons_zero, List.set_cons_succ])
        refine Tw_takeL (i := 14) (v := ?tv93) rfl (by kernel_rfl) (by decide) (by kernel_rfl) (by kernel_rfl) (fun _ _ _ h => h) (by rfl) ?ty93 ?tn93
        case ty93 => (intro w hSw; (try dsimp only at hSw); go_simp <;> with_reducible rfl)
        (try simp only [Act.put, List.setIfInBounds_toArray, List.set_cons_zero, List.set_cons_succ])
        refine Tw_takeL (i := 15) (v := ?tv94) rfl (by kernel_rfl) (by decide) (by kernel_rfl) (by kernel_rfl) (fun _ _ _ h => h) (by rfl) ?ty94 ?tn94
        case ty94 => (intro w hSw; (try dsimp only at hSw); go_simp <;> with_reducible rfl)
        (try simp only [Act.put, List.setIfInBounds_toArray, List.set_cons_zero, List.set_cons_succ])
        refine Tw_takeL (i := 16) (v := ?tv95) rfl (by kernel_rfl) (by decide) (by kernel_rfl) (by kernel_rfl) (fun _ _ _ h => h) (by rfl) ?ty95 ?tn95
        case ty95 => (intro w hSw; (try dsimp only at hSw); go_simp <;> with_reducible rfl)
        (try simp only [Act.put, List.setIfInBounds_toArray, List.set_cons_zero, List.set_cons_succ])
        refine Tw_end (by kernel_rfl) (fun hh => ?_)
        obtain ⟨F11, _⟩ := hh
        clear HALL
        have HF := Lib.hid F11
        have c0 := F11.top.rowF_at (k := j) (by omega)
        have f0 := F11.top.frozen j
        have zN := F11.top.lt
        clear F11
        go_wp2_with fail
        all_goals
          go_roundw
          case rel =>
            have FN := (HF.out.putR j m HWG HFAR.out).congrR (f' := fun i => if j ≤ i then bwV ps b.brk e1 i else limV ps i) (fun i hi => by
              by_cases e : i = j
              · subst e; rw [if_pos rfl, if_pos (Nat.le_refl _), HSTEP.out]
              · rw [if_neg e]
                by_cases e2 : j + 1 ≤ i
                · rw [if_pos e2, if_pos (by omega)]
                · rw [if_neg e2, if_neg (by omega)])
            exact ⟨j, by omega, rfl, Fr.valR2 FN (cong64 (by have h1 := HM.out; first | omega | (simp at h1; omega)))⟩
          case measure => simp [intOf] <;> omega
end Go.Proofs.Ytmjooiocgeoaiaa
