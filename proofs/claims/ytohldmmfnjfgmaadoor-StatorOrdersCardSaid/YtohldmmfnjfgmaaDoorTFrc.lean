
/-
  The walks of force (of a track) and ForceAt.
-/
import Derived.Test.YtohldmmfnjfgmaaDoorTOv
import Derived.Test.YtohldmmfnjfgmaaDoorTVec2
namespace Go.Proofs.YtohldmmfnjfgmaaDoor
open Go.RowKit

def getT (cs : List T3) (i : Nat) : T3 := (cs[i]?).getD T3.zero
theorem getT_at {cs : List T3} {i : Nat} (h : i < cs.length) : getT cs i = cs[i] := by unfold getT; rw [List.getElem?_eq_getElem h]; rfl
/-- The force on a train. -/
def frcT (ls : List Int) (p len : Int) (cs : List T3) (fl : T3) (k : Nat) : Int := upTo (fun i => ovV ls p len i * forceV (getT cs i) fl) k
def frcV (ls : List Int) (p len : Int) (cs : List T3) (fl : T3) : Int := frcT ls p len cs fl ls.length
theorem force_bd {c f : T3} (hc : c.Bd 100000) (hf : f.Bd 100000) : -60000000000 ≤ forceV c f ∧ forceV c f ≤ 60000000000 := ⟨(prod_bd hc hf).b0, (prod_bd hc hf).b1⟩
theorem getT_bd {cs : List T3} (h : ∀ x ∈ cs, okT x = true) (i : Nat) : (getT cs i).Bd 100000 := by
  unfold getT
  by_cases hi : i < cs.length
  · rw [List.getElem?_eq_getElem hi]; exact okT_bd (h _ (List.getElem_mem hi))
  · rw [List.getElem?_eq_none (by omega)]; exact ⟨by simp [T3.zero], by simp [T3.zero], by simp [T3.zero], by simp [T3.zero]⟩
theorem frcT_bound {ls : List Int} {p len : Int} {cs : List T3} {fl : T3} (hf : Fed ls p len cs fl) (k : Nat) (hk : k ≤ 14) : -840000000000000000 ≤ frcT ls p len cs fl k ∧ frcT ls p len cs fl k ≤ 840000000000000000 := by
  have := upTo_bound (f := fun i => ovV ls p len i * forceV (getT cs i) fl) (M := 1000000 * 60000000000) (fun i => by
    have h1 := ovV_bound ls p len i (by have := hf.q.l0; omega)
    have h2 := force_bd (getT_bd hf.c i) (okT_bd hf.f)
    exact mulB (A := 1000000) (B := 60000000000) (by have := hf.q.l1; omega) h2) k
  have e : (k : Int) * (1000000 * 60000000000) ≤ 14 * (1000000 * 60000000000) := Int.mul_le_mul_of_nonneg_right (by omega) (by decide)
  unfold frcT
  omega

set_option maxHeartbeats 4000000 in
set_option maxRecDepth 100000 in
theorem cforce_any (ls : List Int) (A : Option Addr) (c : Nat) (p len : Int) (cs : List T3) (C : Option Addr) (d : Nat) (fl : T3) (mv : Int) (hf : Fed ls p len cs fl) (w : World) (hA : Lies w w.heap.size A (ic ls)) (hC : Lies w w.heap.size C (cs.flatMap tc)) :
    Calls Tryd.prog 80 #[.agg #[.slice A ls.length c, .int .i64 (begV ls ls.length)], .agg #[.int .i64 p, .int .i64 len], .agg #[.slice C cs.length d, .int .i64 fl.a, .int .i64 fl.b, .int .i64 mv]] w fun e w' => e = .returned (.int .i64 (frcV ls p len cs fl)) ∧ Below w.heap.size w w' := by
  have F0 := Lib.hid (Fr.b3 w 123 #[.slice A ls.length c, .int .i64 (begV ls ls.length)] 96 #[.int .i64 p, .int .i64 len] 98 #[.slice C cs.length d, .int .i64 fl.a, .int .i64 fl.b, .int .i64 mv])
  have HA := Lib.hid (hA.below F0.out.bl)
  have HA' := Lib.hid (HA.out.more F0.out.size)
  have HC := Lib.hid hC
  have HF := Lib.hid hf
  have hl : (ls.length : Int) ≤ 12 := by have := hf.q.n1; omega
  have hcl : (cs.length : Int) = ls.length := by rw [hf.n]
  have HCL := Lib.hid hcl
  have hcl2 : (cs.length : Int) ≤ 12 := by omega
  clear hA hC hf hcl
  go_enter Tryd.func80, Tryd.ntmps80
  go_wp2_with fail
  refine (overlaps_any ls A c p len HF.out.q _ HA'.out).mono ?_
  rintro e w1 ⟨g, rfl, ho, hb1⟩
  have F1 := Lib.hid (F0.out.call hb1)
  have HO := Lib.hid ho
  clear ho hb1 F0 HA HA'
  go_wp2_with fail
  go_loopw [7, 14] (fun s i wr => ∃ k : Nat, k ≤ ls.length ∧ i = .int .i64 k ∧ s = .int .i64 (frcT ls p len cs fl k) ∧ Fr w1 wr [] ∧ Below w.heap.size w wr) (fun _ i _ => ls.length - (intOf i).toNat)
  case atStart => exact ⟨0, Nat.zero_le _, rfl, rfl, Fr.nil _, F1.out.bl⟩
  case round =>
    obtain ⟨k, hk, rfl, rfl, hfr, hbl⟩ := hrel
    have FK := Lib.hid hfr
    have BK := Lib.hid hbl
    have LK := Lib.hid (HO.out.below hfr.bl)
    have CK := Lib.hid (HC.out.below hbl)
    have X1 := Lib.hid (F1.out.top.call hfr.bl)
    clear hfr hbl
    obtain ⟨t0, t1⟩ := frcT_bound HF.out k (by omega)
    by_cases hlt : k < ls.length
    · have hkc : k < cs.length := by have := HCL.out; omega
      have hkc' : (k : Int) < (cs.length : Int) := by omega
      obtain ⟨a, ha, hab, ca⟩ := LK.out.num (ovL_at ls p len k hlt)
      simp only [Option.some.injEq] at ha
      subst ha
      rw [add_zero_off] at ca
      obtain ⟨b, rfl, hbb, cb0, cb1⟩ := CK.out.third (List.getElem?_eq_getElem hkc)
      have hbb' : (b.add (k * 2)).block < w.heap.size := by rw [add_blk]; exact hbb
      obtain ⟨o0, o1⟩ := ovV_bound ls p len k (by have := HF.out.q.l0; omega)
      obtain ⟨q0, q1⟩ := force_bd (getT_bd HF.out.c k) (okT_bd HF.out.f)
      have HS : Hid (frcT ls p len cs fl (k + 1) = frcT ls p len cs fl k + ovV ls p len k * forceV (getT cs k) fl) := Lib.hid rfl
      obtain ⟨m0, m1⟩ := mulB (A := 1000000) (B := 60000000000) (x := ovV ls p len k) (y := forceV (getT cs k) fl) (by have := HF.out.q.l1; omega) ⟨q0, q1⟩
      have hge := getT_at hkc
      have HFC := Lib.hid (fun W => force_any (getT cs k) fl ((getT_bd HF.out.c k).more (by omega)) ((okT_bd HF.out.f).more (by omega)) W)
      rw [← hge] at cb0 cb1
      clear hge
      obtain ⟨x, hx⟩ : ∃ x, getT cs k = x := ⟨_, rfl⟩
      rw [hx] at cb0 cb1 HFC HS m0 m1 q0 q1
      clear hx
      obtain ⟨y, hy⟩ : ∃ y, forceV x fl = y := ⟨_, rfl⟩
      rw [hy] at HFC HS m0 m1 q0 q1
      clear hy
      obtain ⟨o, hoo⟩ : ∃ o, ovV ls p len k = o := ⟨_, rfl⟩
      rw [hoo] at ca o0 o1 HS m0 m1
      clear hoo
      have u1 : IntKind.i64.wrap (o * y) = o * y := IntWalk.i64_in _ (by omega)
      have u2 : IntKind.i64.wrap (frcT ls p len cs fl k + o * y) = frcT ls p len cs fl k + o * y := IntWalk.i64_in _ (by omega)
      obtain ⟨s0, s1, s2, s3⟩ := X1.out.four
      have HALL : Hid (∀ W, Fr wr W [] → Fr wr W [] ∧ W.cell? ⟨w.heap.size + 1 + 1, 0, none⟩ = some (.slice (some b) cs.length d) ∧ W.cell? ⟨w.heap.size + 1 + 1, 1, none⟩ = some (.int .i64 fl.a) ∧ W.cell? ⟨w.heap.size + 1 + 1, 2, none⟩ = some (.int .i64 fl.b) ∧ W.cell? (b.add (k * 2)) = some (.int .i64 x.a) ∧ W.cell? ⟨(b.add (k * 2)).block, (b.add (k * 2)).off + 1, none⟩ = some (.int .i64 x.b)) := Lib.hid (fun W hW => by
        have y := X1.out.call hW.bl
        have hz := BK.out.size
        exact ⟨hW, y.cell 0, y.cell 1, y.cell 2, (hW.bl.cell (show (b.add (k * 2)).block < wr.heap.size by omega)).trans cb0, (hW.bl.cell (p := ⟨(b.add (k * 2)).block, (b.add (k * 2)).off + 1, none⟩) (show (b.add (k * 2)).block < wr.heap.size by omega)).trans cb1⟩)
      have F9 := Fr.nil wr
      go_wp2_with fail
      go_region_held3 (fun W => Fr wr W [] ∧ W.cell? ⟨w.heap.size + 1 + 1, 0, none⟩ = some (.slice (some b) cs.length d) ∧ W.cell? ⟨w.heap.size + 1 + 1, 1, none⟩ = some (.int .i64 fl.a) ∧ W.cell? ⟨w.heap.size + 1 + 1, 2, none⟩ = some (.int .i64 fl.b) ∧ W.cell? (b.add (k * 2)) = some (.int .i64 x.a) ∧ W.cell? ⟨(b.add (k * 2)).block, (b.add (k * 2)).off + 1, none⟩ = some (.int .i64 x.b))
        ((go_split_ands; refine HALL.out _ ?_; (first | assumption | (repeat (first | assumption | refine Fr.new ?_ _ | refine Fr.drew ?_ | (refine Fr.set ?_ (by first | exact Nat.le_refl _ | omega | (simp; done) | (simp; omega)) (by first | (simp; done) | (simp; omega)) _))); done)))
        ((first
          | (go_at_call 76; go_split_ands; (with_reducible refine (HFC.out _).mono ?_); rintro e w3 ⟨rfl, hb3⟩; have F4 := Fr.call (by assumption) hb3; clear hb3)
          | fail "arm"))
      all_goals
        go_split_ands
        go_wp2_with fail
        go_roundw
        case rel => exact ⟨k + 1, by omega, by go_num, by rw [HS.out], ⟨FK.out.bl.trans (Below.mono (by assumption : Fr wr _ []).bl FK.out.bl.size), fun b hb => by simp at hb⟩, BK.out.trans (Below.mono (by assumption : Fr wr _ []).bl BK.out.size)⟩
        case measure => simp [intOf]; omega
    · obtain rfl : k = ls.length := by omega
      go_wp2_with fail
      go_ret
      exact ⟨rfl, BK.out⟩
end Go.Proofs.YtohldmmfnjfgmaaDoor
