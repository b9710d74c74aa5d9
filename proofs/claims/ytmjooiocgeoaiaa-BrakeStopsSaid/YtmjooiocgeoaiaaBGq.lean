
/-
  The walk of the reference's GreatestAt.
-/
import Derived.Test.YtmjooiocgeoaiaaBGp
import Derived.Test.YtmjooiocgeoaiaaBFr
import Derived.Test.YtmjooiocgeoaiaaBRef
import Derived.Test.YtmjooiocgeoaiaaBRff
namespace Go.Proofs.Ytmjooiocgeoaiaa
open Go.RowKit

theorem refReaches_crv (s : ByteArray) (ps : List Bp) (a : Addr) (c : Nat) (b : Bs) (hb : OkS b) (h0 : ps.length ≠ 0) (h12 : ps.length ≤ 12) (hx : ∀ p ∈ ps, okP p = true) (stop p : Nat) (hst : stop < ps.length) (hp : p ≤ stop) (hz : crvV ps b.brk stop p ≠ -1) (w : World) (hA : Lies w w.heap.size (some a) (ps.flatMap pc)) :
    Calls Try.prog 47 #[.agg #[.string s, .slice (some a) ps.length c], .agg #[.int .i64 b.brk, .int .i64 b.drag, .int .i64 b.drv], .agg #[.int .i64 (p : Int), .int .i64 (crvV ps b.brk stop p)], .int .i64 stop] w fun e w' => e = .returned (.bool (rcvB ps b p stop)) ∧ Below w.heap.size w w' := by
  have hbd := crvV_bound hx b.brk stop p
  exact refReaches_any s ps a c b hb h0 h12 hx stop p hst hp _ (by omega) w hA

set_option maxHeartbeats 8000000 in
set_option maxRecDepth 100000 in
theorem refGreatestAt_any (s : ByteArray) (ps : List Bp) (a : Addr) (c : Nat) (b : Bs) (hb : OkS b) (h0 : ps.length ≠ 0) (h12 : ps.length ≤ 12) (hx : ∀ p ∈ ps, okP p = true) (p : Nat) (hp : p ≤ ps.length) (o : Int) (f : Bool) (hr : (f = false ∧ o = 0 ∧ gtS ps b p ps.length = -1) ∨ (f = true ∧ o = gtS ps b p ps.length ∧ 0 ≤ o)) (w : World) (hA : Lies w w.heap.size (some a) (ps.flatMap pc)) :
    Calls Try.prog 14 #[.agg #[.string s, .slice (some a) ps.length c], .agg #[.int .i64 b.brk, .int .i64 b.drag, .int .i64 b.drv], .int .i64 p] w fun e w' => e = .returned (.tuple #[.int .i64 o, .bool f]) ∧ Below w.heap.size w w' := by
  have F0 := Lib.hid (Fr.b2 w 24 #[.string s, .slice (some a) ps.length c] 26 #[.int .i64 b.brk, .int .i64 b.drag, .int .i64 b.drv])
  have HA := Lib.hid hA
  have HX := Lib.hid hx
  have HB := Lib.hid hb
  have HR := Lib.hid hr
  have hl : (ps.length : Int) ≤ 12 := by omega
  clear hA hx hb hr
  go_enter Try.func14, Try.ntmps14
  go_wp2_with fail
  go_loopw [8, 9, 10] (fun so sf i wr => ∃ (k : Nat) (q : Int) (g : Bool), p ≤ k ∧ k ≤ ps.length ∧ i = .int .i64 k ∧ so = .int .i64 q ∧ sf = .bool g ∧ Hid ((g = false ∧ q = 0 ∧ gtS ps b p k = -1) ∨ (g = true ∧ q = gtS ps b p k ∧ 0 ≤ q)) ∧ Fr w wr [(w.heap.size + 1, 26, #[.int .i64 b.brk, .int .i64 b.drag, .int .i64 b.drv]), (w.heap.size, 24, #[.string s, .slice (some a) ps.length c])]) (fun _ _ i _ => ps.length - (intOf i).toNat)
  case atStart => exact ⟨p, 0, false, Nat.le_refl _, hp, rfl, rfl, rfl, Lib.hid (.inl ⟨rfl, rfl, gtS_low (Nat.le_refl _)⟩), F0.out⟩
  case round =>
    obtain ⟨k, q, g, hpk, hk, rfl, rfl, rfl, HI, hf⟩ := hrel
    have FK := Lib.hid hf
    have x0 := (hf.get 1 rfl).cell 0
    have x1 := (hf.get 1 rfl).cell 1
    have y0 := (hf.get 0 rfl).cell 0
    have y1 := (hf.get 0 rfl).cell 1
    have y2 := (hf.get 0 rfl).cell 2
    clear hf F0
    by_cases hlt : k < ps.length
    · obtain ⟨a2, ea, _, c0, c1, c2, c3⟩ := (Fr.lies HA.out FK.out).piece (gp_at hlt)
      simp only [Option.some.injEq] at ea
      subst ea
      have hlt' : (k : Int) < (ps.length : Int) := by omega
      have hwk := IntWalk.i64_in ((k : Int) + 1) (by omega)
      cases hlv : (gp ps k).lv with
      | false =>
        have HG : Hid (gtS ps b p (k + 1) = gtS ps b p k) := Lib.hid (by rw [gtS, if_neg (by rw [hlv]; simp)])
        rw [hlv] at c3
        clear hlv
        go_wp2_with fail
        go_roundw
        case rel => exact ⟨k + 1, q, g, by omega, by omega, by go_num, rfl, rfl, by rw [HG.out]; exact HI, FK.out⟩
        case measure => simp [intOf] <;> omega
      | true =>
        have HCU := Lib.hid (fun W hW => refCurveOf_any s ps a c b HB.out h0 h12 HX.out k hlt W hW)
        have hbd := crvV_bound HX.out b.brk k p
        have HRR := Lib.hid (fun hz W hW => refReaches_crv s ps a c b HB.out h0 h12 HX.out k p hlt hpk hz W hW)
        have HG : Hid (gtS ps b p (k + 1) = if rcvB ps b p k = true then max (gtS ps b p k) (crvV ps b.brk k p) else gtS ps b p k) := Lib.hid (by
          rw [gtS]
          cases hr : rcvB ps b p k
          · rw [if_neg (by simp), if_neg (by simp)]
          · rw [if_pos ⟨hpk, hlt, hlv, rfl⟩, if_pos rfl])
        rw [hlv] at c3
        obtain ⟨K2, hK2⟩ : ∃ K2, k + 2 = K2 := ⟨_, rfl⟩
        rw [hK2] at HCU
        have hpK : p < K2 := by omega
        have hpKi : (p : Int) < (K2 : Int) := by omega
        have HRN : Hid (rcvB ps b p k = true → crvV ps b.brk k p ≠ -1) := Lib.hid (fun h e => by have := rcv_in HX.out h; omega)
        clear hlv hK2
        go_wp2_with fail
        refine (HCU.out _ (Fr.lies HA.out FK.out)).mono ?_
        rintro e w3 ⟨gq, rfl, nq, _, hb3⟩
        have n0 := nq.rowF_at (k := p) hpK
        have nz := nq.lt
        have F3 := Lib.hid (FK.out.call hb3)
        clear hb3 nq FK x0 x1 y0 y1 y2 c0 c1 c2 c3
        obtain ⟨y, hy⟩ : ∃ y, crvV ps b.brk k p = y := ⟨_, rfl⟩
        rw [hy] at n0 hbd HRR HG HRN
        clear hy
        have x0 := (F3.out.get 1 rfl).cell 0
        have x1 := (F3.out.get 1 rfl).cell 1
        have y0 := (F3.out.get 0 rfl).cell 0
        have y1 := (F3.out.get 0 rfl).cell 1
        have y2 := (F3.out.get 0 rfl).cell 2
        by_cases hz : y = -1
        · have hzb : (y == -1) = true := by simp [hz]
          have hzn : (y != -1) = false := by simp [hz]
          have HG2 : Hid (gtS ps b p (k + 1) = gtS ps b p k) := Lib.hid (by rw [HG.out, if_neg (fun h => HRN.out h hz)])
          clear hz
          go_wp2_with fail
          go_roundw
          case rel => exact ⟨k + 1, q, g, by omega, by omega, by go_num, rfl, rfl, by rw [HG2.out]; exact HI, F3.out⟩
          case measure => simp [intOf] <;> omega
        · have hzb : (y == -1) = false := by simp [hz]
          have hzn : (y != -1) = true := by simp [hz]
          have HRC := Lib.hid (HRR.out hz)
          have hy0 : 0 ≤ y := by omega
          clear hz
          cases hr : rcvB ps b p k with
          | false =>
            have HG2 : Hid (gtS ps b p (k + 1) = gtS ps b p k) := Lib.hid (by rw [HG.out, hr, if_neg (by simp)])
            rw [hr] at HRC
            clear hr
            go_wp2_with fail
            refine (HRC.out _ (Fr.lies HA.out F3.out)).mono ?_
            rintro e w4 ⟨rfl, hb4⟩
            have F4 := Lib.hid (F3.out.call hb4)
            clear hb4 F3 x0 x1 y0 y1 y2
            go_wp2_with fail
            go_roundw
            case rel => exact ⟨k + 1, q, g, by omega, by omega, by go_num, rfl, rfl, by rw [HG2.out]; exact HI, F4.out⟩
            case measure => simp [intOf] <;> omega
          | true =>
            have HG2 : Hid (gtS ps b p (k + 1) = max (gtS ps b p k) y) := Lib.hid (by rw [HG.out, hr, if_pos rfl])
            rw [hr] at HRC
            clear hr
            cases g with
            | false =>
              have HI2 : Hid (y = gtS ps b p (k + 1) ∧ 0 ≤ y) := Lib.hid (by
                rcases HI.out with ⟨_, _, h⟩ | ⟨h, _⟩
                · exact ⟨by rw [HG2.out]; omega, hy0⟩
                · cases h)
              go_wp2_with fail
              refine (HRC.out _ (Fr.lies HA.out F3.out)).mono ?_
              rintro e w4 ⟨rfl, hb4⟩
              have F4 := Lib.hid (F3.out.call hb4)
              clear hb4 F3 x0 x1 y0 y1 y2
              go_wp2_with fail
              go_roundw
              case rel => exact ⟨k + 1, y, true, by omega, by omega, by go_num, rfl, rfl, Lib.hid (.inr ⟨rfl, HI2.out⟩), F4.out⟩
              case measure => simp [intOf] <;> omega
            | true =>
              by_cases hgt : q < y
              · have HI2 : Hid (y = gtS ps b p (k + 1) ∧ 0 ≤ y) := Lib.hid (by
                  rcases HI.out with ⟨h, _⟩ | ⟨_, h, _⟩
                  · cases h
                  · exact ⟨by rw [HG2.out]; omega, hy0⟩)
                go_wp2_with fail
                refine (HRC.out _ (Fr.lies HA.out F3.out)).mono ?_
                rintro e w4 ⟨rfl, hb4⟩
                have F4 := Lib.hid (F3.out.call hb4)
                clear hb4 F3 x0 x1 y0 y1 y2
                go_wp2_with fail
                go_roundw
                case rel => exact ⟨k + 1, y, true, by omega, by omega, by go_num, rfl, rfl, Lib.hid (.inr ⟨rfl, HI2.out⟩), F4.out⟩
                case measure => simp [intOf] <;> omega
              · have HI2 : Hid (q = gtS ps b p (k + 1) ∧ 0 ≤ q) := Lib.hid (by
                  rcases HI.out with ⟨h, _⟩ | ⟨_, h, h3⟩
                  · cases h
                  · exact ⟨by rw [HG2.out]; omega, h3⟩)
                go_wp2_with fail
                refine (HRC.out _ (Fr.lies HA.out F3.out)).mono ?_
                rintro e w4 ⟨rfl, hb4⟩
                have F4 := Lib.hid (F3.out.call hb4)
                clear hb4 F3 x0 x1 y0 y1 y2
                go_wp2_with fail
                go_roundw
                case rel => exact ⟨k + 1, q, true, by omega, by omega, by go_num, rfl, rfl, Lib.hid (.inr ⟨rfl, HI2.out⟩), F4.out⟩
                case measure => simp [intOf] <;> omega
    · obtain rfl : k = ps.length := by omega
      have HFN : Hid (q = o ∧ g = f) := Lib.hid (by
        rcases HI.out with ⟨h1, h2, h3⟩ | ⟨h1, h2, h3⟩ <;> rcases HR.out with ⟨g1, g2, g3⟩ | ⟨g1, g2, g3⟩
        · exact ⟨by rw [h2, g2], by rw [h1, g1]⟩
        · omega
        · omega
        · exact ⟨by rw [h2, g2], by rw [h1, g1]⟩)
      go_wp2_with fail
      go_ret2
      exact ⟨(by rw [← HFN.out.1, ← HFN.out.2]; rfl), FK.out.bl⟩
end Go.Proofs.Ytmjooiocgeoaiaa
