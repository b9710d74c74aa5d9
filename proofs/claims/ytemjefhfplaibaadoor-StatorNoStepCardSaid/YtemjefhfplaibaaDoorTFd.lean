
/-
  The walks of the copy of a feed, of the reference's errors of a feed and of a move, and of its force on a train.
-/
import Derived.Test.YtemjefhfplaibaaDoorTCp
import Derived.Test.YtemjefhfplaibaaDoorTTrR
import Derived.Test.YtemjefhfplaibaaDoorTOvR
import Derived.Test.YtemjefhfplaibaaDoorTAt
namespace Go.Proofs.YtemjefhfplaibaaDoor
open Go.RowKit

/-- A copy of a feed. -/
def CopiedF (w : World) (l : List T3) (f : T3) (m : Int) (e : Ending) (w' : World) : Prop := ∃ g : Hd, e = .returned (.agg #[.slice g.A l.length g.c, .int .i64 f.a, .int .i64 f.b, .int .i64 m]) ∧ Lies w' w'.heap.size g.A (l.flatMap tc) ∧ HdOk g ∧ Below w.heap.size w w'
set_option maxHeartbeats 2000000 in
theorem CopyFeed_any (l : List T3) (h : Hd) (f : T3) (m : Int) (hl : l.length ≤ 1000) (hk : HdOk h) (w : World) (hA : Lies w w.heap.size h.A (l.flatMap tc)) :
    Calls Tryd.prog 37 #[.agg #[.slice h.A l.length h.c, .int .i64 f.a, .int .i64 f.b, .int .i64 m]] w (CopiedF w l f m) := by
  have F0 := Lib.hid (Fr.b2 w 65 #[.slice h.A l.length h.c, .int .i64 f.a, .int .i64 f.b, .int .i64 m] 65 #[.slice none 0 0, .int .i64 0, .int .i64 0, .int .i64 0])
  have HA := Lib.hid hA
  have HK := Lib.hid hk
  clear hA hk
  go_enter Tryd.func37, Tryd.ntmps37
  go_wp2_with fail
  refine (CopyVectors_any l h hl HK.out _ (Fr.lies HA.out F0.out)).mono ?_
  rintro e w1 ⟨g, rfl, hl1, hk1, hg1, hb1⟩
  have HG1 : Hid (∀ a, g.A = some a → w.heap.size + 1 ≠ a.block ∧ w.heap.size ≠ a.block) := Lib.hid (fun a h => by have := hg1 a h; simp at this; omega)
  have F1 := Lib.hid (F0.out.call hb1)
  have HL := Lib.hid hl1
  have HK1 := Lib.hid hk1
  obtain ⟨c0, c1, c2, c3⟩ := F1.out.at1.four
  obtain ⟨d0, d1, d2, d3⟩ := F1.out.top.four
  have kf := F1.out.at1.frozen 0
  have f0 := F1.out.top.frozen 0
  have f1 := F1.out.top.frozen 1
  have f2 := F1.out.top.frozen 2
  have f3 := F1.out.top.frozen 3
  have z0 := F1.out.at1.lt
  have z1 := F1.out.top.lt
  clear hb1 hl1 hk1 hg1 F0
  go_wp2_with fail
  refine bodyPost_ret (v := .agg #[.slice g.A l.length g.c, .int .i64 f.a, .int .i64 f.b, .int .i64 m]) (by simp [results, Tryd.results37, go_sem, d0, d1, d2, d3, z1, Nat.ne_of_lt z1]) rfl ⟨g, rfl, ?_, HK1.out, (by repeat (first | exact F1.out.bl | refine Below.drew ?_ | refine Below.setCell ?_ (by first | (simp; done) | (simp; omega) | omega) _ | refine Below.alloc ?_ (by first | (simp; done) | (simp; omega) | omega) _ | exact Below.refl _ _))⟩
  exact Lies.more (((((HL.out.far (fun a h => (HG1.out a h).2) _).far (fun a h => (HG1.out a h).1) _).far (fun a h => (HG1.out a h).1) _).far (fun a h => (HG1.out a h).1) _).far (fun a h => (HG1.out a h).1) _) (by simp)

/-- The error of a feed on a right track. -/
def feE (ls : List Int) (cs : List T3) (fl : T3) : Int := if cs.length ≠ ls.length then 10 else if vsE cs ≠ 0 then vsE cs else vE fl
theorem fed_fe {ls : List Int} {p len : Int} (h : plcE ls p len = 0) (cs : List T3) (fl : T3) : fedE ls p len cs fl = feE ls cs fl := by unfold fedE feE; rw [if_neg (by rw [h]; simp)]
theorem fed_plc {ls : List Int} {p len : Int} (h : plcE ls p len ≠ 0) (cs : List T3) (fl : T3) : fedE ls p len cs fl = plcE ls p len := by unfold fedE; rw [if_pos h]
set_option maxHeartbeats 2000000 in
theorem FeedErr_any (ls : List Int) (A : Option Addr) (c : Nat) (hl : ls.length ≤ 1000) (cs : List T3) (C : Option Addr) (d : Nat) (hl2 : cs.length ≤ 1000) (fl : T3) (mv : Int) (w : World) (hC : Lies w w.heap.size C (cs.flatMap tc)) :
    Calls Tryd.prog 40 #[.agg #[.slice A ls.length c], .agg #[.slice C cs.length d, .int .i64 fl.a, .int .i64 fl.b, .int .i64 mv]] w fun e w' => e = .returned (.int .i64 (feE ls cs fl)) ∧ Below w.heap.size w w' := by
  have F0 := Lib.hid (Fr.b2 w 49 #[.slice A ls.length c] 65 #[.slice C cs.length d, .int .i64 fl.a, .int .i64 fl.b, .int .i64 mv])
  have HC := Lib.hid hC
  clear hC
  by_cases h1 : cs.length ≠ ls.length
  · have HE : Hid (feE ls cs fl = 10) := Lib.hid (by unfold feE; rw [if_pos h1])
    have ge : ((cs.length : Int) != (ls.length : Int)) = true := by simp; omega
    clear h1
    go_enter Tryd.func40, Tryd.ntmps40
    go_wp2_with fail
    go_ret
    exact ⟨ret_i64 HE.out.symm, F0.out.bl⟩
  · have ge : ((cs.length : Int) != (ls.length : Int)) = false := by simp; omega
    by_cases h2 : vsE cs ≠ 0
    · have HE : Hid (feE ls cs fl = vsE cs) := Lib.hid (by unfold feE; rw [if_neg h1, if_pos h2])
      have gn : (vsE cs != 0) = true := by simp [h2]
      clear h1 h2
      obtain ⟨er, her⟩ : ∃ er, vsE cs = er := ⟨_, rfl⟩
      rw [her] at gn HE
      have HV := Lib.hid her
      clear her
      go_enter Tryd.func40, Tryd.ntmps40
      go_wp2_with fail
      refine (VectorsErr_any cs C d (by unfold maxLen; omega) _ (Fr.lies HC.out F0.out)).mono ?_
      rintro e w1 ⟨rfl, hb1⟩
      rw [HV.out]
      have F1 := Lib.hid (F0.out.call hb1)
      clear hb1 F0
      go_wp2_with fail
      go_ret
      exact ⟨ret_i64 HE.out.symm, F1.out.bl⟩
    · have h3 : vsE cs = 0 := by omega
      have HE : Hid (feE ls cs fl = vE fl) := Lib.hid (by unfold feE; rw [if_neg h1, if_neg h2])
      have HV := Lib.hid h3
      clear h1 h2 h3
      go_enter Tryd.func40, Tryd.ntmps40
      go_wp2_with fail
      refine (VectorsErr_any cs C d (by unfold maxLen; omega) _ (Fr.lies HC.out F0.out)).mono ?_
      rintro e w1 ⟨rfl, hb1⟩
      rw [HV.out]
      have F1 := Lib.hid (F0.out.call hb1)
      obtain ⟨d0, d1, d2, d3⟩ := F1.out.top.four
      have z1 := F1.out.top.lt
      clear hb1 F0
      go_wp2_with fail
      refine (VectorErr_any fl _).mono ?_
      rintro e w2 ⟨rfl, hb2⟩
      have F2 := Lib.hid (F1.out.call hb2)
      clear hb2 F1 d0 d1 d2 d3 z1
      go_wp2_with fail
      go_ret
      exact ⟨ret_i64 HE.out.symm, F2.out.bl⟩

set_option maxHeartbeats 4000000 in
set_option maxRecDepth 100000 in
theorem refForceAt_any (ls : List Int) (A : Option Addr) (c : Nat) (p len : Int) (cs : List T3) (C : Option Addr) (d : Nat) (fl : T3) (mv : Int) (hf : Fed ls p len cs fl) (w : World) (hA : Lies w w.heap.size A (ic ls)) (hC : Lies w w.heap.size C (cs.flatMap tc)) :
    Calls Tryd.prog 41 #[.agg #[.slice A ls.length c], .agg #[.int .i64 p, .int .i64 len], .agg #[.slice C cs.length d, .int .i64 fl.a, .int .i64 fl.b, .int .i64 mv]] w fun e w' => e = .returned (.int .i64 (frcV ls p len cs fl)) ∧ Below w.heap.size w w' := by
  have F0 := Lib.hid (Fr.b3 w 49 #[.slice A ls.length c] 51 #[.int .i64 p, .int .i64 len] 65 #[.slice C cs.length d, .int .i64 fl.a, .int .i64 fl.b, .int .i64 mv])
  have HA := Lib.hid hA
  have HC := Lib.hid hC
  have HF := Lib.hid hf
  have hl : (ls.length : Int) ≤ 12 := by have := hf.q.n1; omega
  have hcl : (cs.length : Int) = ls.length := by rw [hf.n]
  have HCL := Lib.hid hcl
  have hcl2 : (cs.length : Int) ≤ 12 := by omega
  clear hA hC hf hcl
  go_enter Tryd.func41, Tryd.ntmps41
  go_wp2_with fail
  refine (refOverlaps_any ls A c p len HF.out.q _ (Fr.lies HA.out F0.out)).mono ?_
  rintro e w1 ⟨g, rfl, ho, hb1⟩
  obtain ⟨GA, gc⟩ := g
  have F1 := Lib.hid (F0.out.call hb1)
  have HO := Lib.hid ho
  clear ho hb1 F0
  go_wp2_with fail
  go_loopw [7, 9] (fun s i wr => ∃ k : Nat, k ≤ ls.length ∧ i = .int .i64 k ∧ s = .int .i64 (frcT ls p len cs fl k) ∧ Below w1.heap.size w1 wr ∧ Fr w wr [(w.heap.size + 1 + 1, 65, #[.slice C cs.length d, .int .i64 fl.a, .int .i64 fl.b, .int .i64 mv])]) (fun _ i _ => ls.length - (intOf i).toNat)
  case atStart => exact ⟨0, Nat.zero_le _, rfl, rfl, Below.refl _ _, ⟨F1.out.bl, fun b hb => F1.out.bk b (by simp at hb; subst hb; simp)⟩⟩
  case round =>
    obtain ⟨k, hk, rfl, rfl, hfr, hbl⟩ := hrel
    have FK := Lib.hid hbl
    have LK := Lib.hid ((HO.out.below hfr).more hfr.size)
    have CK := Lib.hid (Fr.lies HC.out hbl)
    have BW := Lib.hid hfr
    clear hfr hbl F1
    obtain ⟨t0, t1⟩ := frcT_bound HF.out k (by omega)
    by_cases hlt : k < ls.length
    · have hkc : k < cs.length := by have := HCL.out; omega
      have hkc' : (k : Int) < (cs.length : Int) := by omega
      obtain ⟨a, ha, hab, ca⟩ := LK.out.num (ovL_at ls p len k hlt)
      subst ha
      obtain ⟨b, rfl, hbb, cb0, cb1⟩ := CK.out.third (List.getElem?_eq_getElem hkc)
      have hbb' : (b.add (k * 2)).block < wr.heap.size := by rw [add_blk]; exact hbb
      have haa' : (a.add k).block < wr.heap.size := by rw [add_blk]; exact hab
      obtain ⟨o0, o1⟩ := ovV_bound ls p len k (by have := HF.out.q.l0; omega)
      have hbc := getT_bd HF.out.c k
      have hbf := okT_bd HF.out.f
      obtain ⟨q0, q1⟩ := force_bd hbc hbf
      have HS : Hid (frcT ls p len cs fl (k + 1) = frcT ls p len cs fl k + ovV ls p len k * forceV (getT cs k) fl) := Lib.hid rfl
      obtain ⟨m0, m1⟩ := mulB (A := 1000000) (B := 60000000000) (x := ovV ls p len k) (y := forceV (getT cs k) fl) (by have := HF.out.q.l1; omega) ⟨q0, q1⟩
      have hge := getT_at hkc
      have HP0 : Hid (∀ w, Calls Tryd.prog 88 #[(.agg #[.int .i64 cs[k].a, .int .i64 cs[k].b]), (.agg #[.int .i64 fl.a, .int .i64 fl.b])] w fun e w' => e = .returned (.int .i64 (forceV (getT cs k) fl)) ∧ Below w.heap.size w w') := Lib.hid (fun w => by have := refForceOf_any (getT cs k) fl (hbc.more (by omega)) (hbf.more (by omega)) w; rw [hge] at this ⊢; exact this)
      have HCell : Hid (∀ W, Below wr.heap.size wr W → W.cell? (a.add k) = some (.int .i64 (ovV ls p len k)) ∧ W.cell? (b.add (k * 2)) = some (.int .i64 cs[k].a) ∧ W.cell? ⟨(b.add (k * 2)).block, (b.add (k * 2)).off + 1, none⟩ = some (.int .i64 cs[k].b)) := Lib.hid (fun W hb => ⟨(hb.cell haa').trans ca, (hb.cell hbb').trans cb0, (hb.cell (p := ⟨(b.add (k * 2)).block, (b.add (k * 2)).off + 1, none⟩) hbb').trans cb1⟩)
      generalize forceV (getT cs k) fl = q at *
      generalize ovV ls p len k = o at *
      have W1 := IntWalk.i64_in (o * q) ⟨by omega, by omega⟩
      have W2 := IntWalk.i64_in (frcT ls p len cs fl k + o * q) ⟨by omega, by omega⟩
      clear hge hbc hbf ca cb0 cb1 haa' hbb'
      go_upto_region 6 with fail
      have HALL : Hid (∀ W, Fr wr W [(w.heap.size + 1 + 1, 65, #[.slice (some b) cs.length d, .int .i64 fl.a, .int .i64 fl.b, .int .i64 mv])] → Fr wr W [(w.heap.size + 1 + 1, 65, #[.slice (some b) cs.length d, .int .i64 fl.a, .int .i64 fl.b, .int .i64 mv])] ∧ W.cell? ⟨w.heap.size + 1 + 1, 0, none⟩ = some (.slice (some b) cs.length d) ∧ W.cell? ⟨w.heap.size + 1 + 1, 1, none⟩ = some (.int .i64 fl.a) ∧ W.cell? ⟨w.heap.size + 1 + 1, 2, none⟩ = some (.int .i64 fl.b) ∧ W.cell? (a.add k) = some (.int .i64 o) ∧ W.cell? (b.add (k * 2)) = some (.int .i64 cs[k].a) ∧ W.cell? ⟨(b.add (k * 2)).block, (b.add (k * 2)).off + 1, none⟩ = some (.int .i64 cs[k].b)) := Lib.hid (fun W hW => ⟨hW, hW.top.cell 0, hW.top.cell 1, hW.top.cell 2, HCell.out W hW.bl⟩)
      have F10 : Fr wr _ [(w.heap.size + 1 + 1, 65, #[.slice (some b) cs.length d, .int .i64 fl.a, .int .i64 fl.b, .int .i64 mv])] := ⟨Below.refl _ _, FK.out.bk⟩
      go_region_held3 (fun W => Fr wr W [(w.heap.size + 1 + 1, 65, #[.slice (some b) cs.length d, .int .i64 fl.a, .int .i64 fl.b, .int .i64 mv])] ∧ W.cell? ⟨w.heap.size + 1 + 1, 0, none⟩ = some (.slice (some b) cs.length d) ∧ W.cell? ⟨w.heap.size + 1 + 1, 1, none⟩ = some (.int .i64 fl.a) ∧ W.cell? ⟨w.heap.size + 1 + 1, 2, none⟩ = some (.int .i64 fl.b) ∧ W.cell? (a.add k) = some (.int .i64 o) ∧ W.cell? (b.add (k * 2)) = some (.int .i64 cs[k].a) ∧ W.cell? ⟨(b.add (k * 2)).block, (b.add (k * 2)).off + 1, none⟩ = some (.int .i64 cs[k].b))
        ((go_split_ands; refine HALL.out _ ?_; (first | assumption | (repeat (first | assumption | refine Fr.new ?_ _ | refine Fr.drew ?_ | (refine Fr.set ?_ (by first | exact Nat.le_refl _ | omega | (simp; done) | (simp; omega)) (by first | (simp; done) | (simp; omega)) _))); done)))
        ((first
          | (go_at_call 88; go_split_ands; (with_reducible refine (HP0.out _).mono ?_); rintro e w1 ⟨rfl, hb1⟩; have F4 := Fr.call (by assumption) hb1; clear hb1)
          | fail "arm"))
      all_goals
        go_split_ands
        have FC := Lib.hid (by assumption : Fr wr _ [(w.heap.size + 1 + 1, 65, #[.slice (some b) cs.length d, .int .i64 fl.a, .int .i64 fl.b, .int .i64 mv])])
        go_wp2_with fail
        go_roundw
        case rel => exact ⟨k + 1, by omega, by go_num, by rw [HS.out], BW.out.trans (FC.out.bl.mono BW.out.size), FK.out.call FC.out.bl⟩
        case measure => simp [intOf]; omega
    · obtain rfl : k = ls.length := by omega
      go_wp2_with fail
      go_ret
      exact ⟨rfl, FK.out.bl⟩
end Go.Proofs.YtemjefhfplaibaaDoor
