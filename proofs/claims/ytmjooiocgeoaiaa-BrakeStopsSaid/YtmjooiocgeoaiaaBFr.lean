
/-
  The walks of the reference's Reaches, StopsOf and FirstUnsafe.
-/
import Derived.Test.YtmjooiocgeoaiaaBSo
import Derived.Test.YtmjooiocgeoaiaaBRf2
import Derived.Test.YtmjooiocgeoaiaaBSq
namespace Go.Proofs.Ytmjooiocgeoaiaa
open Go.RowKit

set_option maxHeartbeats 3200000 in
set_option maxRecDepth 100000 in
theorem refReaches_any (s : ByteArray) (ps : List Bp) (a : Addr) (c : Nat) (b : Bs) (hb : OkS b) (h0 : ps.length ≠ 0) (h12 : ps.length ≤ 12) (hx : ∀ p ∈ ps, okP p = true) (stop p : Nat) (hst : stop < ps.length) (hp : p ≤ stop) (sq : Int) (hq : 0 ≤ sq ∧ sq ≤ 20000000000) (w : World) (hA : Lies w w.heap.size (some a) (ps.flatMap pc)) :
    Calls Try.prog 47 #[.agg #[.string s, .slice (some a) ps.length c], .agg #[.int .i64 b.brk, .int .i64 b.drag, .int .i64 b.drv], .agg #[.int .i64 (p : Int), .int .i64 sq], .int .i64 stop] w fun e w' => e = .returned (.bool (rchB ps b p sq stop)) ∧ Below w.heap.size w w' := by
  have F0 := Lib.hid (Fr.b3 w 24 #[.string s, .slice (some a) ps.length c] 26 #[.int .i64 b.brk, .int .i64 b.drag, .int .i64 b.drv] 28 #[.int .i64 p, .int .i64 sq])
  have HA := Lib.hid hA
  have HR : Hid (∀ W, Lies W W.heap.size (some a) (ps.flatMap pc) → Calls Try.prog 78 #[.agg #[.string s, .slice (some a) ps.length c], .agg #[.int .i64 b.brk, .int .i64 b.drag, .int .i64 b.drv], .agg #[.int .i64 (p : Int), .int .i64 sq], .int .i64 stop] W fun e w' => ∃ (g : Hd) (m : Nat), e = .returned (.tuple #[.slice g.A m g.c, .int .i64 (runE ps b stop p sq)]) ∧ Below W.heap.size W w') := Lib.hid (fun W hW => (refRunTo_any s ps a c b hb h0 h12 hx stop p hst hp sq hq W hW).mono fun e w' ⟨g, he, _, hb⟩ => ⟨g, _, he, hb⟩)
  obtain ⟨er, her⟩ : ∃ er, runE ps b stop p sq = er := ⟨_, rfl⟩
  have HE := Lib.hid her
  have HV : Hid (rchB ps b p sq stop = (er == 0)) := Lib.hid (by
    unfold rchB
    rw [her]
    rw [Bool.eq_iff_iff, decide_eq_true_eq, beq_iff_eq])
  rw [her] at HR
  clear hA her hb hx hq
  go_enter Try.func47, Try.ntmps47
  go_wp2_with fail
  refine (HR.out _ (Fr.lies HA.out F0.out)).mono ?_
  rintro e w1 ⟨g, m, rfl, hb1⟩
  have F1 := Lib.hid (F0.out.call hb1)
  clear hb1 F0
  go_wp2_with fail
  go_ret
  exact ⟨ret_bool HV.out.symm, F1.out.bl⟩

set_option maxHeartbeats 8000000 in
set_option maxRecDepth 100000 in
theorem refStopsOf_any (s : ByteArray) (ps : List Bp) (a : Addr) (c : Nat) (b : Bs) (hb : OkS b) (h0 : ps.length ≠ 0) (h12 : ps.length ≤ 12) (hx : ∀ p ∈ ps, okP p = true) (p : Nat) (hp : p ≤ ps.length) (sq : Int) (hq : 0 ≤ sq ∧ sq ≤ 20000000000) (w : World) (hA : Lies w w.heap.size (some a) (ps.flatMap pc)) :
    Calls Try.prog 16 #[.agg #[.string s, .slice (some a) ps.length c], .agg #[.int .i64 b.brk, .int .i64 b.drag, .int .i64 b.drv], .agg #[.int .i64 (p : Int), .int .i64 sq]] w (RowOf w (stV ps b p sq ps.length)) := by
  have F0 := Lib.hid (Fr.b3 w 24 #[.string s, .slice (some a) ps.length c] 26 #[.int .i64 b.brk, .int .i64 b.drag, .int .i64 b.drv] 28 #[.int .i64 p, .int .i64 sq])
  have HA := Lib.hid hA
  have HX := Lib.hid hx
  have HB := Lib.hid hb
  have HQ := Lib.hid hq
  have hl : (ps.length : Int) ≤ 12 := by omega
  obtain ⟨i1, hi, hz0, hz1, hz2⟩ := info_parts info_int
  clear hA hx hb hq
  go_enter Try.func16, Try.ntmps16
  go_wp2_with fail
  go_loopw [7, 8] (fun v i wr => ∃ k : Nat, p ≤ k ∧ k ≤ ps.length ∧ i = .int .i64 k ∧ wr.ownsRow (w.heap.size + 3) 3 1 v (stV ps b p sq k).length (ic (stV ps b p sq k)) ∧ Fr w wr [(w.heap.size + 1 + 1, 28, #[.int .i64 p, .int .i64 sq]), (w.heap.size + 1, 26, #[.int .i64 b.brk, .int .i64 b.drag, .int .i64 b.drv]), (w.heap.size, 24, #[.string s, .slice (some a) ps.length c])]) (fun _ i _ => ps.length - (intOf i).toNat)
  case atStart => exact ⟨p, Nat.le_refl _, hp, rfl, by rw [stV_low (Nat.le_refl _)]; exact World.ownsRow_nil _ _ _ _, F0.out⟩
  case round =>
    obtain ⟨k, hpk, hk, rfl, hown, hf⟩ := hrel
    have HO := Lib.hid hown
    have FK := Lib.hid hf
    obtain ⟨gs, rfl, _, _, _⟩ := own_slice hown
    have x0 := (hf.get 2 rfl).cell 0
    have x1 := (hf.get 2 rfl).cell 1
    have y0 := (hf.get 1 rfl).cell 0
    have y1 := (hf.get 1 rfl).cell 1
    have y2 := (hf.get 1 rfl).cell 2
    have z0 := (hf.get 0 rfl).cell 0
    have z1 := (hf.get 0 rfl).cell 1
    have hz := (hf.get 0 rfl).lt
    have hln := stV_len ps b p sq k
    clear hown hf F0
    by_cases hlt : k < ps.length
    · obtain ⟨a2, ea, _, c0, c1, c2, c3⟩ := (Fr.lies HA.out FK.out).piece (gp_at hlt)
      simp only [Option.some.injEq] at ea
      subst ea
      have hlt' : (k : Int) < (ps.length : Int) := by omega
      have hwk := IntWalk.i64_in ((k : Int) + 1) (by omega)
      cases hlv : (gp ps k).lv with
      | false =>
        have HSV : Hid (stV ps b p sq (k + 1) = stV ps b p sq k) := Lib.hid (by rw [stV, if_neg (by rw [hlv]; simp)])
        rw [hlv] at c3
        clear hlv
        go_wp2_with fail
        go_roundw
        case rel => exact ⟨k + 1, by omega, by omega, by go_num, by rw [HSV.out]; exact HO.out, FK.out⟩
        case measure => simp [intOf] <;> omega
      | true =>
        have HRR := Lib.hid (fun W hW => refReaches_any s ps a c b HB.out h0 h12 HX.out k p hlt hpk sq HQ.out W hW)
        cases hr : rchB ps b p sq k with
        | false =>
          have HSV : Hid (stV ps b p sq (k + 1) = stV ps b p sq k) := Lib.hid (by rw [stV, if_neg (by rw [hr]; simp)])
          rw [hlv] at c3
          rw [hr] at HRR
          clear hlv hr
          go_wp2_with fail
          refine (HRR.out _ (Fr.lies HA.out FK.out)).mono ?_
          rintro e w3 ⟨rfl, hb3⟩
          have F3 := Lib.hid (FK.out.call hb3)
          have HO3 := Lib.hid (own_below HO.out hb3)
          clear hb3 FK HO x0 x1 y0 y1 y2 z0 z1 c0 c1 c2 c3
          go_wp2_with fail
          go_roundw
          case rel => exact ⟨k + 1, by omega, by omega, by go_num, by rw [HSV.out]; exact HO3.out, F3.out⟩
          case measure => simp [intOf] <;> omega
        | true =>
          have HSV : Hid (stV ps b p sq (k + 1) = stV ps b p sq k ++ [(k : Int)]) := Lib.hid (by rw [stV, if_pos ⟨hpk, hlt, hlv, hr⟩])
          rw [hlv] at c3
          rw [hr] at HRR
          clear hlv hr
          go_wp2_with fail
          refine (HRR.out _ (Fr.lies HA.out FK.out)).mono ?_
          rintro e w3 ⟨rfl, hb3⟩
          have F3 := Lib.hid (FK.out.call hb3)
          have HO3 := Lib.hid (own_below HO.out hb3)
          have hz3 := F3.out.top.lt
          clear hb3 FK HO x0 x1 y0 y1 y2 z0 z1 c0 c1 c2 c3
          go_wp2_with (at_builtin; refine wpList_append_own _ rfl _ _ 31 rfl (w.heap.size + 3) 3 i1 (.int .i64 0) 1 8 Try.underlying31 hi hz0 hz1 hz2 rfl (by decide) _ _ _ rfl (own_below HO3.out ((Below.refl _ _).alloc (Nat.le_refl _) _)) _ _ _ [.int .i64 _] rfl rfl (Bk.new _ _ _).adds (fun u hu => by simp at hu; subst hu; rfl) (by unfold maxLen; omega) (by omega) (by simp; omega) ?_)
          all_goals
            intro v' w7 o7 g7 _
            have q7 := Lib.hid (Fr.grown2 (F3.out.new _) g7 (fun q e => (HO3.out.lt q e).1) (by omega) (by intro b hb; simp only [List.mem_cons, List.not_mem_nil, or_false] at hb; rcases hb with rfl | rfl | rfl <;> (dsimp only; omega)))
            have o8 : Hid (w7.ownsRow (w.heap.size + 3) 3 1 v' (stV ps b p sq (k + 1)).length (ic (stV ps b p sq (k + 1)))) := Lib.hid (by rw [HSV.out, List.length_append]; simpa [ic] using o7)
            clear o7 g7
            go_wp2_with fail
            go_roundw
            case rel => exact ⟨k + 1, by omega, by omega, by go_num, o8.out, q7.out⟩
            case measure => simp [intOf] <;> omega
    · obtain rfl : k = ps.length := by omega
      go_wp2_with fail
      go_ret
      obtain ⟨g, e, hL, _, hA2⟩ := own_slice HO.out
      injection e with e1 e2 e3
      exact ⟨gs, rfl, by rw [e1]; exact hL, fun a ha => by have := hA2 a (by rw [← e1]; exact ha); omega, FK.out.bl⟩

set_option maxHeartbeats 8000000 in
set_option maxRecDepth 100000 in
theorem refFirstUnsafe_any (s : ByteArray) (ps : List Bp) (a : Addr) (c : Nat) (b : Bs) (hok : OkT s ps) (hb : OkS b) (l : List Int) (B : Option Addr) (d : Nat) (hln : l.length = ps.length + 1) (hq : ∀ k, 0 ≤ sqAt l k ∧ sqAt l k ≤ 20000000000) (r : Int) (f : Bool)
    (hr : (f = false ∧ r = 0 ∧ ∀ j, j ≤ ps.length → safeB ps b j (sqAt l j) = true) ∨ (f = true ∧ ∃ n : Nat, r = n ∧ n ≤ ps.length ∧ safeB ps b n (sqAt l n) = false ∧ ∀ j, j < n → safeB ps b j (sqAt l j) = true)) (w : World) (hA : Lies w w.heap.size (some a) (ps.flatMap pc)) (hL : Lies w w.heap.size B (ic l)) :
    Calls Try.prog 26 #[.agg #[.string s, .slice (some a) ps.length c], .agg #[.int .i64 b.brk, .int .i64 b.drag, .int .i64 b.drv], .slice B l.length d] w fun e w' => e = .returned (.tuple #[.int .i64 r, .bool f]) ∧ Below w.heap.size w w' := by
  have F0 := Lib.hid (Fr.b2 w 24 #[.string s, .slice (some a) ps.length c] 26 #[.int .i64 b.brk, .int .i64 b.drag, .int .i64 b.drv])
  have HA := Lib.hid hA
  have HOK := Lib.hid hok
  have HB := Lib.hid hb
  have HQ := Lib.hid hq
  have HR := Lib.hid hr
  have h12 := hok.n12
  have hl12 : (ps.length : Int) ≤ 12 := by omega
  have HLE : Hid (∀ k, k ≤ ps.length → ∀ W, Fr w W [] → ∃ a2, B = some a2 ∧ a2.block < w.heap.size ∧ W.cell? (a2.add k) = some (.int .i64 (sqAt l k))) := Lib.hid (fun k hk W hW => by
    obtain ⟨a2, e, h1, _⟩ := hL.num (sqAt_get (k := k) (by omega))
    obtain ⟨a3, e3, _, h3⟩ := (Fr.lies hL hW).num (sqAt_get (k := k) (by omega))
    rw [e] at e3
    injection e3 with e3
    subst e3
    exact ⟨a2, e, h1, h3⟩)
  obtain ⟨a2, ea2, _, _⟩ := HLE.out 0 (Nat.zero_le _) w (Fr.nil w)
  subst ea2
  have HLC : Hid (∀ k, k ≤ ps.length → ∀ W, Fr w W [] → W.cell? (a2.add k) = some (.int .i64 (sqAt l k))) := Lib.hid (fun k hk W hW => by
    obtain ⟨a3, e3, _, h3⟩ := HLE.out k hk W hW
    injection e3 with e3
    subst e3
    exact h3)
  rw [hln]
  obtain ⟨N, hN⟩ : ∃ N, N = ps.length + 1 := ⟨_, rfl⟩
  rw [← hN]
  have HNN := Lib.hid hN
  clear hN hA hL hq hok hb hln hr HLE
  go_enter Try.func26, Try.ntmps26
  go_wp2_with fail
  go_loopw [8] (fun i wr => ∃ k : Nat, k ≤ N ∧ i = .int .i64 k ∧ Hid (∀ j, j < k → safeB ps b j (sqAt l j) = true) ∧ Fr w wr [(w.heap.size + 1, 26, #[.int .i64 b.brk, .int .i64 b.drag, .int .i64 b.drv]), (w.heap.size, 24, #[.string s, .slice (some a) ps.length c])]) (fun i _ => N - (intOf i).toNat)
  case atStart => exact ⟨0, Nat.zero_le _, rfl, Lib.hid (fun j hj => by omega), F0.out⟩
  case round =>
    obtain ⟨k, hk, rfl, HPR, hf⟩ := hrel
    have FK := Lib.hid hf
    have x0 := (hf.get 1 rfl).cell 0
    have x1 := (hf.get 1 rfl).cell 1
    have y0 := (hf.get 0 rfl).cell 0
    have y1 := (hf.get 0 rfl).cell 1
    have y2 := (hf.get 0 rfl).cell 2
    clear hf F0
    by_cases hlt : k < N
    · have hkn : k ≤ ps.length := by have := HNN.out; omega
      have hki : (k : Int) < (N : Int) := by omega
      have hwk := IntWalk.i64_in ((k : Int) + 1) (by omega)
      have cx := HLC.out k hkn wr FK.out.tail.tail
      have HST := Lib.hid (fun W hW => refStopsOf_any s ps a c b HB.out HOK.out.n0 HOK.out.n12 HOK.out.each k hkn (sqAt l k) (HQ.out k) W hW)
      obtain ⟨m, hm⟩ : ∃ m, (stV ps b k (sqAt l k) ps.length).length = m := ⟨_, rfl⟩
      have HMM : Hid (safeB ps b k (sqAt l k) = decide (m ≠ 0)) := Lib.hid (by unfold safeB; rw [← hm]; cases stV ps b k (sqAt l k) ps.length <;> simp)
      have HS2 : Hid (∀ W, Lies W W.heap.size (some a) (ps.flatMap pc) → Calls Try.prog 16 #[.agg #[.string s, .slice (some a) ps.length c], .agg #[.int .i64 b.brk, .int .i64 b.drag, .int .i64 b.drv], .agg #[.int .i64 (k : Int), .int .i64 (sqAt l k)]] W fun e w' => ∃ g : Hd, e = .returned (.slice g.A m g.c) ∧ Below W.heap.size W w') := Lib.hid (fun W h => (HST.out W h).mono fun e w' ⟨g, he, _, _, hb⟩ => ⟨g, by rw [← hm]; exact he, hb⟩)
      obtain ⟨x, hx⟩ : ∃ x, sqAt l k = x := ⟨_, rfl⟩
      rw [hx] at cx HS2 HMM
      have HXX := Lib.hid hx
      clear hx hm HST
      by_cases h0 : m = 0
      · have hmb : ((m : Int) == 0) = true := by simp [h0]
        have HFN : Hid (f = true ∧ r = k) := Lib.hid (by
          have hs : safeB ps b k (sqAt l k) = false := by rw [HXX.out, HMM.out, h0]; rfl
          rcases HR.out with ⟨_, _, h⟩ | ⟨h1, n, h2, h3, h4, h5⟩
          · rw [h k hkn] at hs; cases hs
          · refine ⟨h1, ?_⟩
            have : ¬ k < n := fun hh => by rw [h5 k hh] at hs; cases hs
            have : ¬ n < k := fun hh => by rw [HPR.out n hh] at h4; cases h4
            omega)
        clear h0
        go_upto_region 4 with fail
        go_cut [25] from 15 to 25 (fun v W => v = .bool true ∧ Fr wr W [])
        case first =>
          have HALL : Hid (∀ W, Fr wr W [] → Fr wr W [] ∧ W.cell? ⟨w.heap.size, 0, none⟩ = some (.string s) ∧ W.cell? ⟨w.heap.size, 1, none⟩ = some (.slice (some a) ps.length c) ∧ W.cell? ⟨w.heap.size + 1, 0, none⟩ = some (.int .i64 b.brk) ∧ W.cell? ⟨w.heap.size + 1, 1, none⟩ = some (.int .i64 b.drag) ∧ W.cell? ⟨w.heap.size + 1, 2, none⟩ = some (.int .i64 b.drv) ∧ W.cell? (a2.add k) = some (.int .i64 x)) := Lib.hid (fun W hW => ⟨hW, ((FK.out.get 1 rfl).call hW.bl).cell 0, ((FK.out.get 1 rfl).call hW.bl).cell 1, ((FK.out.get 0 rfl).call hW.bl).cell 0, ((FK.out.get 0 rfl).call hW.bl).cell 1, ((FK.out.get 0 rfl).call hW.bl).cell 2, by rw [← HXX.out]; exact HLC.out k hkn _ (FK.out.tail.tail.call hW.bl)⟩)
          have HAC := Lib.hid (Fr.lies HA.out FK.out)
          have F10 : Fr wr _ [] := Fr.nil wr
          go_region_held3 (fun W => Fr wr W [] ∧ W.cell? ⟨w.heap.size, 0, none⟩ = some (.string s) ∧ W.cell? ⟨w.heap.size, 1, none⟩ = some (.slice (some a) ps.length c) ∧ W.cell? ⟨w.heap.size + 1, 0, none⟩ = some (.int .i64 b.brk) ∧ W.cell? ⟨w.heap.size + 1, 1, none⟩ = some (.int .i64 b.drag) ∧ W.cell? ⟨w.heap.size + 1, 2, none⟩ = some (.int .i64 b.drv) ∧ W.cell? (a2.add k) = some (.int .i64 x))
              ((go_split_ands; refine HALL.out _ ?_; (first | assumption | (repeat (first | assumption | refine Fr.new ?_ _ | refine Fr.drew ?_ | (refine Fr.set ?_ (by first | exact Nat.le_refl _ | omega | (simp; done) | (simp; omega)) (by first | (simp; done) | (simp; omega)) _))); done)))
              ((first
                | (go_at_call 16; go_split_ands; (with_reducible refine (HS2.out _ (Fr.lies HAC.out (by assumption))).mono ?_); rintro e w1 ⟨g2, rfl, hb1⟩; have F4 := Fr.call (by assumption) hb1; clear hb1)
                | fail "arm"))
          all_goals
            go_split_ands
            go_wp2_with fail
            go_meet
            exact ⟨rfl, by assumption⟩
        case rest =>
        obtain ⟨wu, rfl⟩ : ∃ W, W = wc := ⟨_, rfl⟩
        obtain ⟨rfl, hx5⟩ := hcut
        have FU := Lib.hid (FK.out.call hx5.bl)
        clear hx5 FK
        go_wp2_with fail
        go_ret2
        exact ⟨(by rw [HFN.out.1, HFN.out.2]; rfl), FU.out.bl⟩
      · have hmb : ((m : Int) == 0) = false := by simp [h0]
        have HPR2 : Hid (∀ j, j < k + 1 → safeB ps b j (sqAt l j) = true) := Lib.hid (fun j hj => by
          by_cases e : j = k
          · subst e; rw [HXX.out, HMM.out]; simp [h0]
          · exact HPR.out j (by omega))
        clear h0
        go_upto_region 4 with fail
        go_cut [25] from 15 to 25 (fun v W => v = .bool false ∧ Fr wr W [])
        case first =>
          have HALL : Hid (∀ W, Fr wr W [] → Fr wr W [] ∧ W.cell? ⟨w.heap.size, 0, none⟩ = some (.string s) ∧ W.cell? ⟨w.heap.size, 1, none⟩ = some (.slice (some a) ps.length c) ∧ W.cell? ⟨w.heap.size + 1, 0, none⟩ = some (.int .i64 b.brk) ∧ W.cell? ⟨w.heap.size + 1, 1, none⟩ = some (.int .i64 b.drag) ∧ W.cell? ⟨w.heap.size + 1, 2, none⟩ = some (.int .i64 b.drv) ∧ W.cell? (a2.add k) = some (.int .i64 x)) := Lib.hid (fun W hW => ⟨hW, ((FK.out.get 1 rfl).call hW.bl).cell 0, ((FK.out.get 1 rfl).call hW.bl).cell 1, ((FK.out.get 0 rfl).call hW.bl).cell 0, ((FK.out.get 0 rfl).call hW.bl).cell 1, ((FK.out.get 0 rfl).call hW.bl).cell 2, by rw [← HXX.out]; exact HLC.out k hkn _ (FK.out.tail.tail.call hW.bl)⟩)
          have HAC := Lib.hid (Fr.lies HA.out FK.out)
          have F10 : Fr wr _ [] := Fr.nil wr
          go_region_held3 (fun W => Fr wr W [] ∧ W.cell? ⟨w.heap.size, 0, none⟩ = some (.string s) ∧ W.cell? ⟨w.heap.size, 1, none⟩ = some (.slice (some a) ps.length c) ∧ W.cell? ⟨w.heap.size + 1, 0, none⟩ = some (.int .i64 b.brk) ∧ W.cell? ⟨w.heap.size + 1, 1, none⟩ = some (.int .i64 b.drag) ∧ W.cell? ⟨w.heap.size + 1, 2, none⟩ = some (.int .i64 b.drv) ∧ W.cell? (a2.add k) = some (.int .i64 x))
              ((go_split_ands; refine HALL.out _ ?_; (first | assumption | (repeat (first | assumption | refine Fr.new ?_ _ | refine Fr.drew ?_ | (refine Fr.set ?_ (by first | exact Nat.le_refl _ | omega | (simp; done) | (simp; omega)) (by first | (simp; done) | (simp; omega)) _))); done)))
              ((first
                | (go_at_call 16; go_split_ands; (with_reducible refine (HS2.out _ (Fr.lies HAC.out (by assumption))).mono ?_); rintro e w1 ⟨g2, rfl, hb1⟩; have F4 := Fr.call (by assumption) hb1; clear hb1)
                | fail "arm"))
          all_goals
            go_split_ands
            go_wp2_with fail
            go_meet
            exact ⟨rfl, by assumption⟩
        case rest =>
        obtain ⟨wu, rfl⟩ : ∃ W, W = wc := ⟨_, rfl⟩
        obtain ⟨rfl, hx5⟩ := hcut
        have FU := Lib.hid (FK.out.call hx5.bl)
        clear hx5 FK
        go_wp2_with fail
        go_roundw
        case rel => exact ⟨k + 1, by omega, by go_num, HPR2, FU.out⟩
        case measure => simp [intOf] <;> omega
    · obtain rfl : k = N := by omega
      have HFN : Hid (f = false ∧ r = 0) := Lib.hid (by
        rcases HR.out with ⟨h1, h2, _⟩ | ⟨h1, n, h2, h3, h4, h5⟩
        · exact ⟨h1, h2⟩
        · rw [HPR.out n (by have := HNN.out; omega)] at h4; cases h4)
      go_wp2_with fail
      go_ret2
      exact ⟨(by rw [HFN.out.1, HFN.out.2]; rfl), FK.out.bl⟩
end Go.Proofs.Ytmjooiocgeoaiaa
