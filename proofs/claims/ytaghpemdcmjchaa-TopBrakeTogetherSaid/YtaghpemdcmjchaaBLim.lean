
/-
  The walks of Places and LimitsAt, the program's and the reference's, and of the copy of a track.
-/
import Derived.Test.YtaghpemdcmjchaaBChk
namespace Go.Proofs.Ytaghpemdcmjchaa
open Go.RowKit

theorem bk_val {w : World} {p : Addr} {x y : Int} {g : Nat} {t : TypeId} {cs : Array Value} (h : Bk (w.setCell p (.int .i64 x)) g t cs) (e : x = y) : Bk (w.setCell p (.int .i64 y)) g t cs := e ▸ h
theorem getE {ps : List Bp} {k : Nat} (h : k < ps.length) : ps[k] = gp ps k := by
  have := gp_at h
  rw [List.getElem?_eq_getElem h] at this
  exact Option.some.inj this
/-- A slice in memory of its own. -/
def RowOf (w : World) (l : List Int) (e : Ending) (w' : World) : Prop := ∃ g : Hd, e = .returned (.slice g.A l.length g.c) ∧ Lies w' w'.heap.size g.A (ic l) ∧ (∀ a, g.A = some a → w.heap.size ≤ a.block) ∧ Below w.heap.size w w'
/-- A slice and no error, or an error alone. -/
def RowE (w : World) (l : List Int) (er : Int) (e : Ending) (w' : World) : Prop := ∃ g : Hd, e = .returned (.tuple #[.slice g.A (if er = 0 then l.length else 0) g.c, .int .i64 er]) ∧ (er = 0 → Lies w' w'.heap.size g.A (ic l)) ∧ Below w.heap.size w w'

set_option maxHeartbeats 4000000 in
set_option maxRecDepth 100000 in
theorem limits_any (s : ByteArray) (ps : List Bp) (a : Addr) (c : Nat) (h0 : ps.length ≠ 0) (h12 : ps.length ≤ 12) (hx : ∀ p ∈ ps, okP p = true) (w : World) (hA : Lies w w.heap.size (some a) (ps.flatMap pc)) :
    Calls Try.prog 37 #[.agg #[.string s, .slice (some a) ps.length c]] w fun e w' => ∃ g, e = .returned (.slice (some ⟨g, 0, none⟩) (ps.length + 1 : Nat) (ps.length + 1 : Nat)) ∧ Bk w' g 3 (rowF (ps.length + 1) (limV ps)) ∧ w.heap.size ≤ g ∧ Below w.heap.size w w' := by
  have hl : (ps.length : Int) ≤ 12 := by omega
  have hl0 : 1 ≤ (ps.length : Int) := by omega
  have HA := Lib.hid hA
  have HX := Lib.hid hx
  have H0 := Lib.hid h0
  have F0 := Lib.hid (Fr.b1 w 57 #[.string s, .slice (some a) ps.length c])
  obtain ⟨i0, hi0, hz0, hs0, hb0⟩ := info_parts info_int
  have HLAST := Lib.hid (limV_last hx h0)
  clear hA hx h0
  go_enter Try.func37, Try.ntmps37
  go_wp2_with (at_make; refine wpList_make_full _ rfl _ _ 29 rfl w.heap.size 3 i0 (.int .i64 0) 1 Try.underlying29 hi0 hz0 hs0 .i64 .i64 ((ps.length : Int) + 1) ((ps.length : Int) + 1) (ps.length + 1) rfl rfl (by omega) (by omega) (by rw [hb0]; omega) (by unfold maxLen; omega) (by simp) ?_; intro w1 ho1 hg1; have F1 := Lib.hid (F0.out.call (below_of_grown hg1)); have N1 : Hid (Bk w1 (w.heap.size + 1) 3 (rowF (ps.length + 1) fun _ => 0)) := Lib.hid (by have := made_bk ho1; simpa using this); obtain ⟨x0, x1, _, _⟩ := F1.out.top.two; have nn0 := N1.out.rowF_at (k := ps.length) (by omega); have nn1 := N1.out.frozen ps.length; have nz := N1.out.lt; obtain ⟨a2, ea, _, p0, p1, p2, p3⟩ := (Fr.lies HA.out F1.out).piece (gp_at (i := ps.length - 1) (by have := H0.out; omega)); simp only [Option.some.injEq] at ea; subst ea; have hsub : (((ps.length : Nat) : Int) - 1).toNat = ps.length - 1 := (by omega); clear ho1 hg1)
  refine wp_abs ?_
  intro w2 h2
  have F2 : Hid (Fr w w2 [(w.heap.size, 57, #[.string s, .slice (some a) ps.length c])]) := Lib.hid (by subst h2; exact F1.out.set (by simp) (by simp) _)
  have N2 : Hid (Bk w2 (w.heap.size + 1) 3 (rowF (ps.length + 1) fun i => if i = ps.length then limV ps i else 0)) := Lib.hid (by
    subst h2
    have h := N1.out.rowF_set ps.length (gp ps (ps.length - 1)).lim
    rwa [rowF_congr (g := fun i => if i = ps.length then limV ps i else 0) (fun i _ => by
      by_cases e : i = ps.length
      · rw [if_pos e, if_pos e, e, HLAST.out]
      · rw [if_neg e, if_neg e])] at h)
  clear F0 F1 N1 h2 nn0 nn1 nz x0 x1 p0 p1 p2 p3 hsub
  obtain ⟨x0, x1, _, _⟩ := F2.out.top.two
  go_wp2_with fail
  go_loopw [29] (fun i wr => ∃ k : Nat, k ≤ ps.length ∧ i = .int .i64 k ∧ Fr w wr [(w.heap.size, 57, #[.string s, .slice (some a) ps.length c])] ∧ Bk wr (w.heap.size + 1) 3 (rowF (ps.length + 1) fun i => if i < k ∨ i = ps.length then limV ps i else 0)) (fun i _ => ps.length - (intOf i).toNat)
  case atStart =>
    refine ⟨0, Nat.zero_le _, rfl, F2.out, ?_⟩
    have h := N2.out
    rwa [rowF_congr (g := fun i => if i < 0 ∨ i = ps.length then limV ps i else 0) (fun i _ => by
      by_cases e : i = ps.length
      · rw [if_pos e, if_pos (Or.inr e)]
      · rw [if_neg e, if_neg (by omega)])] at h
  case round =>
    obtain ⟨k, hk, rfl, hf, hn⟩ := hrel
    clear F2 N2 x0 x1
    have FK := Lib.hid hf
    have NK := Lib.hid hn
    obtain ⟨x0, x1, _, _⟩ := hf.top.two
    have hz := hn.lt
    clear hf hn
    by_cases hlt : k < ps.length
    · obtain ⟨a2, ea, _, c0, c1, c2, c3⟩ := (Fr.lies HA.out FK.out).piece (gp_at hlt)
      simp only [Option.some.injEq] at ea
      subst ea
      have FN := Lib.hid (FK.out.new (.cells #[.int .i64 (gp ps k).len, .int .i64 (gp ps k).grad, .int .i64 (gp ps k).lim, .bool (gp ps k).lv] 54))
      obtain ⟨v0, v1, _, _⟩ := FN.out.top.two
      obtain ⟨a3, ea, _, b0, b1, b2, b3⟩ := (Fr.lies HA.out FN.out).piece (gp_at (i := k - 1) (by omega))
      simp only [Option.some.injEq] at ea
      subst ea
      have hs := Lib.hid (limV_in HX.out k hlt)
      have HP := Lib.hid (okP_iff.1 (gp_ok HX.out k))
      obtain ⟨p, hp⟩ : ∃ p, gp ps k = p := ⟨_, rfl⟩
      obtain ⟨q, hq⟩ : ∃ q, gp ps (k - 1) = q := ⟨_, rfl⟩
      rw [hp] at c0 c1 c2 c3 hs HP v0 v1 b0 b1 b2 b3
      rw [hq] at b0 b1 b2 b3 hs
      clear hp hq
      obtain ⟨d, hd⟩ : ∃ d : Nat, k - 1 = d := ⟨_, rfl⟩
      have hmax : (if (k : Int) - 1 < 0 then 0 else (k : Int) - 1) = (d : Int) := by split <;> omega
      have hdl : (d : Int) < (ps.length : Int) := by omega
      rw [hd] at b0 b1 b2 b3
      have NN := Lib.hid (NK.out.alloc (.cells #[.int .i64 p.len, .int .i64 p.grad, .int .i64 p.lim, .bool p.lv] 54))
      have n0 := NN.out.rowF_at (k := k) (by omega)
      have n2 := NN.out.frozen k
      have hlt' : (k : Int) < (ps.length : Int) := by omega
      clear hd
      go_wp2_with fail
      go_region
      go_wp2_with fail
      go_roundw
      case rel =>
        refine ⟨k + 1, by omega, by go_num, ((FK.out.set (by simp) (by simp) _).new _).drew, ?_⟩
        have h := NK.out.rowF_set k (min p.lim q.lim)
        rw [rowF_congr (g := fun i => if i < k + 1 ∨ i = ps.length then limV ps i else 0) (fun i hi => by
          by_cases e1 : i = k
          · rw [if_pos e1, if_pos (by omega), e1, hs.out]
          · rw [if_neg e1]
            by_cases e2 : i < k ∨ i = ps.length
            · rw [if_pos e2, if_pos (by omega)]
            · rw [if_neg e2, if_neg (by omega)])] at h
        exact ((bk_val h (by first | rfl | omega)).alloc _).drew
      case measure => simp [intOf]; omega
    · obtain rfl : k = ps.length := by omega
      go_wp2_with fail
      go_ret
      refine ⟨_, by first | rfl | (simp; done), ?_, Nat.le_succ _, FK.out.bl⟩
      have : rowF (ps.length + 1) (fun i => if i < ps.length ∨ i = ps.length then limV ps i else 0) = rowF (ps.length + 1) (limV ps) := rowF_congr (fun i hi => by rw [if_pos (by omega)])
      have h := NK.out
      rwa [this] at h
end Go.Proofs.Ytaghpemdcmjchaa
