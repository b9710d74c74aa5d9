/-
  The walk of the reference's ClearAt.
-/
import Derived.Test.YtmnlgeglmkdecaaClr
import Derived.Test.YtmnlgeglmkdecaaDevL
namespace Go.Proofs.Ytmnlgeglmkdecaa
open Go.RowKit

/-- Surely too far away. -/
def noB (c lo hi : Int) : Bool := decide (hi < -c) || decide (c < lo)
/-- The deviations at joints, in their order. -/
def devsL (L : Ll) (v : Lv) (p : Int) (l : List Int) : List (Int × Int) := l.map fun x => (devLo L v p x.toNat, devHi L v p x.toNat)
/-- Whether all is clear, of some deviations. -/
def clrV (c : Int) (l : List (Int × Int)) : Int := if l.any (fun r => noB c r.1 r.2) then 0 else if l.all (fun r => insB c r.1 r.2) then 2 else 1
/-- What has been found so far, none being surely too far away. -/
def accV (c : Int) (l : List (Int × Int)) : Int := if l.all (fun r => insB c r.1 r.2) then 2 else 1
theorem accV_snoc (c : Int) (l : List (Int × Int)) (r : Int × Int) : accV c (l ++ [r]) = if insB c r.1 r.2 then accV c l else 1 := by
  unfold accV
  rw [List.all_append]
  cases h1 : insB c r.1 r.2 <;> cases h2 : l.all (fun r => insB c r.1 r.2) <;> simp [h1, h2]

/-- A line's and a vehicle's box, a list of numbers in memory. -/
structure RC (w W : World) (L : Ll) (H : Hds) (v : Lv) (B : Nat) (gl : Hd) (l : List Int) : Prop where
  q : QV w W L H v
  li : Lies W B gl.A (ic l)
  b1 : w.heap.size + 2 ≤ B
  b2 : B ≤ W.heap.size
section
variable {w W W' : World} {L : Ll} {H : Hds} {v : Lv} {B : Nat} {gl : Hd} {l : List Int}
theorem QV.set (h : QV w W L H v) {p : Addr} (hp : w.heap.size + 2 ≤ p.block) (u : Value) : QV w (W.setCell p u) L H v :=
  ⟨h.box.far (by omega) _, h.veh.far (by omega) _, h.bl.setCell (by omega) _, h.ln.below ((Below.refl _ W).setCell (by omega) _)⟩
theorem RC.from (hb : Below W.heap.size W W') (h : RC w W L H v B gl l) : RC w W' L H v B gl l := ⟨h.q.from hb, h.li.below (hb.mono h.b2), h.b1, Nat.le_trans h.b2 hb.size⟩
theorem RC.alloc (h : RC w W L H v B gl l) (o : Obj) : RC w (W.alloc o) L H v B gl l := h.from ((Below.refl _ W).alloc (Nat.le_refl _) o)
theorem RC.drew (h : RC w W L H v B gl l) : RC w W.drew L H v B gl l := ⟨h.q.drew, h.li.keep (fun _ _ => rfl), h.b1, h.b2⟩
theorem RC.set (h : RC w W L H v B gl l) {p : Addr} (hp : B ≤ p.block) (u : Value) : RC w (W.setCell p u) L H v B gl l :=
  ⟨h.q.set (Nat.le_trans h.b1 hp) _, h.li.below ((Below.refl _ W).setCell hp _), h.b1, by have := h.b2; simpa using this⟩
theorem RC.all (h : RC w W L H v B gl l) {a : Addr} (ha : gl.A = some a) {i : Nat} {x : Int} (hx : l[i]? = some x) : RC w W L H v B gl l ∧ W.cell? ⟨w.heap.size, 0, none⟩ = some (.string L.name) ∧ W.cell? ⟨w.heap.size, 1, none⟩ = some (.slice H.j.A L.js.length H.j.c) ∧ W.cell? ⟨w.heap.size, 2, none⟩ = some (.slice H.b.A L.bs.length H.b.c) ∧ W.cell? ⟨w.heap.size, 3, none⟩ = some (.slice H.s.A L.ss.length H.s.c) ∧ W.cell? ⟨w.heap.size + 1, 0, none⟩ = some (.int .i64 v.len) ∧ W.cell? ⟨w.heap.size + 1, 1, none⟩ = some (.int .i64 v.clear) ∧ W.cell? ⟨w.heap.size + 1, 2, none⟩ = some (.int .i64 v.step) ∧ W.cell? (a.add i) = some (.int .i64 x) := by
  obtain ⟨a', e, _, hc⟩ := h.li.num hx
  rw [ha] at e
  cases e
  exact ⟨h, h.q.box.cell 0, h.q.box.cell 1, h.q.box.cell 2, h.q.box.cell 3, h.q.veh.cell 0, h.q.veh.cell 1, h.q.veh.cell 2, hc⟩
end

set_option maxHeartbeats 8000000 in
set_option maxRecDepth 100000 in
theorem refClearAt_any {L : Ll} (hr : Right L) {v : Lv} (hv : vErr v = 0) {p : Int} (p0 : 0 ≤ p) (hT : p + v.len ≤ placeL L.bs L.bs.length) (H : Hds) (hL : L.ok) (w : World) (hA : LnAt w w.heap.size L H) :
    Calls Try.prog 64 #[(.agg #[.string L.name, .slice H.j.A L.js.length H.j.c, .slice H.b.A L.bs.length H.b.c, .slice H.s.A L.ss.length H.s.c]), (.agg #[.int .i64 v.len, .int .i64 v.clear, .int .i64 v.step]), .int .i64 p] w fun e w' => e = .returned (.int .i64 (clrV v.clear (devsL L v p (benL L v p L.js.length)))) ∧ Below w.heap.size w w' := by
  have Q0 := Lib.hid (QV.start (v := v) hA)
  have HR := Lib.hid hr
  have HV := Lib.hid hv
  have HT := Lib.hid hT
  have pm : p ≤ 2000000 := by have := (placeL_bound L.bs hr.b L.bs.length (Nat.le_refl _)).2; have := hr.most; obtain ⟨⟨l1, l2⟩, _⟩ := vErr_in hv; omega
  have hlen := benL_len L v p L.js.length
  have hnj := hL.nj
  have hll : (benL L v p L.js.length).length ≤ 1000 := by omega
  obtain ⟨_, ⟨k1, k2⟩, _⟩ := vErr_in hv
  have HM : Hid (∀ x ∈ benL L v p L.js.length, benB L v p x = true) := Lib.hid (fun x hx => by rw [← ben_mem hr hv p0 hT x]; exact decide_eq_true hx)
  have tn := IntWalk.i64_in (-v.clear) (by omega)
  clear hr hv hT hA hlen
  obtain ⟨l, hl⟩ : ∃ l, benL L v p L.js.length = l := ⟨_, rfl⟩
  have HLL := Lib.hid hl
  rw [hl] at hll HM ⊢
  clear hl
  go_enter Try.func64, Try.ntmps64
  go_wp2_with fail
  refine (Beneath_any HR.out HV.out p p0 pm H hL _ Q0.out.lnW).mono ?_
  rw [HLL.out]
  rintro e w1 ⟨gl, rfl, hLi, hb1⟩
  have R0 : Hid (RC w w1 L H v w1.heap.size gl l) := Lib.hid ⟨Q0.out.from hb1, hLi, (Q0.out.from hb1).veh.lt, Nat.le_refl _⟩
  clear hb1 hLi Q0
  go_wp2_with fail
  go_loopw [7, 9] (fun s i wr => ∃ k : Nat, k ≤ l.length ∧ i = .int .i64 k ∧ s = .int .i64 (accV v.clear (devsL L v p (l.take k))) ∧ (∀ r ∈ devsL L v p (l.take k), noB v.clear r.1 r.2 = false) ∧ RC w wr L H v w1.heap.size gl l) (fun _ i _ => l.length - (intOf i).toNat)
  case atStart => exact ⟨0, Nat.zero_le _, rfl, rfl, fun r hr => by simp [devsL] at hr, R0.out⟩
  case round =>
    clear R0
    obtain ⟨k, hk, rfl, rfl, hz, hR⟩ := hrel
    have HZ := Lib.hid hz
    have R1 := Lib.hid hR
    clear hz hR
    by_cases hlt : k < l.length
    · have hx0 := List.getElem?_eq_getElem hlt
      have hmem := HM.out l[k] (List.getElem_mem hlt)
      have htk : l.take (k + 1) = l.take k ++ [l[k]] := List.take_succ_eq_append_getElem hlt
      obtain ⟨a, ha, _, _⟩ := R1.out.li.num hx0
      obtain ⟨A, gc⟩ := gl
      obtain rfl : A = some a := ha
      obtain ⟨x, hx⟩ : ∃ x, l[k] = x := ⟨_, rfl⟩
      rw [hx] at hx0 hmem htk
      obtain ⟨lo, hlo⟩ : ∃ r, devLo L v p x.toNat = r := ⟨_, rfl⟩
      obtain ⟨hi, hhi⟩ : ∃ r, devHi L v p x.toNat = r := ⟨_, rfl⟩
      have HX := Lib.hid hx0
      have HB := Lib.hid hmem
      have HLO := Lib.hid hlo
      have HHI := Lib.hid hhi
      have HTK : Hid (devsL L v p (l.take (k + 1)) = devsL L v p (l.take k) ++ [(lo, hi)]) := Lib.hid (by rw [htk]; unfold devsL; rw [List.map_append]; simp [hlo, hhi])
      have HIN : Hid ((lo, hi) ∈ devsL L v p l) := Lib.hid (by unfold devsL; rw [List.mem_map]; exact ⟨x, List.mem_of_getElem? hx0, by rw [hlo, hhi]⟩)
      have hlt' : (k : Int) < (l.length : Int) := by omega
      have tk := IntWalk.i64_in ((k : Int) + 1) (by omega)
      have hsz := R1.out.b1
      have hsz2 := R1.out.b2
      obtain ⟨ac, hac⟩ : ∃ ac, accV v.clear (devsL L v p (l.take k)) = ac := ⟨_, rfl⟩
      simp only [hac]
      have HAC := Lib.hid hac
      clear hx0 hmem htk hx hlo hhi hac
      obtain ⟨_, c0, c1, c2, c3, v0, v1, v2, y0⟩ := R1.out.all rfl HX.out
      go_upto_region 6 with fail
      go_cut [10] from 15 to 45 (fun s10 wx => ∃ g : Nat, s10 = .pointer (some ⟨g, 0, none⟩) ∧ RC w wx L H v w1.heap.size ⟨some a, gc⟩ l ∧ wx.cell? ⟨g, 0, none⟩ = some (.int .i64 lo) ∧ wx.cell? ⟨g, 1, none⟩ = some (.int .i64 hi))
      case first =>
        go_region_held3 (fun W => RC w W L H v w1.heap.size ⟨some a, gc⟩ l ∧ W.cell? ⟨w.heap.size, 0, none⟩ = some (.string L.name) ∧ W.cell? ⟨w.heap.size, 1, none⟩ = some (.slice H.j.A L.js.length H.j.c) ∧ W.cell? ⟨w.heap.size, 2, none⟩ = some (.slice H.b.A L.bs.length H.b.c) ∧ W.cell? ⟨w.heap.size, 3, none⟩ = some (.slice H.s.A L.ss.length H.s.c) ∧ W.cell? ⟨w.heap.size + 1, 0, none⟩ = some (.int .i64 v.len) ∧ W.cell? ⟨w.heap.size + 1, 1, none⟩ = some (.int .i64 v.clear) ∧ W.cell? ⟨w.heap.size + 1, 2, none⟩ = some (.int .i64 v.step) ∧ W.cell? (a.add k) = some (.int .i64 x))
          ((go_split_ands; refine RC.all ?_ rfl HX.out; (first | assumption | exact R1.out.drew | (repeat (first | assumption | exact R1.out | refine RC.alloc ?_ _ | refine RC.drew ?_ | (refine RC.set ?_ (by first | omega | (simp; omega)) _)))); done))
          ((first | (go_at_call 59; go_split_ands; refine (refDeviationAt_at HR.out HV.out p0 HT.out HB.out HLO.out HHI.out H hL _ (QV.lnW (w := w) (v := v) (RC.q (B := w1.heap.size) (gl := ⟨some a, gc⟩) (l := l) (by assumption)))).mono ?_; rintro e w5 ⟨rfl, hb5⟩; have S5 : RC w w5 L H v w1.heap.size ⟨some a, gc⟩ l := RC.from hb5 (by assumption); have z5 := S5.b2; (first | (have M0 : Bk w5 wr.heap.size 54 #[.int .i64 0, .int .i64 0] := Bk.call ((Bk.new wr 54 #[.int .i64 0, .int .i64 0]).drew) hb5; obtain ⟨m0, m1, m2, m3⟩ := M0.two) | skip)) | fail "arm"))
        all_goals
          go_split_ands
          go_wp2_with fail
          go_meet
          refine ⟨_, rfl, by assumption, ?_, ?_⟩
        all_goals (first | (go_simp; done) | (simp [*]; done) | skip)
      case rest =>
        obtain ⟨g, rfl, hR2, d0, d1⟩ := hcut
        have R2 := Lib.hid hR2
        clear hR2 c0 c1 c2 c3 v0 v1 v2 y0 R1
        obtain ⟨_, c0, c1, c2, c3, v0, v1, v2, y0⟩ := R2.out.all rfl HX.out
        have hfin : ∀ b, noB v.clear lo hi = true → b = clrV v.clear (devsL L v p l) → b = 0 := fun b h1 h2 => by
          rw [h2]; unfold clrV; rw [if_pos (List.any_eq_true.2 ⟨(lo, hi), HIN.out, h1⟩)]
        have HF : Hid (noB v.clear lo hi = true → clrV v.clear (devsL L v p l) = 0) := Lib.hid (fun h => hfin _ h rfl)
        clear hfin
        by_cases h1 : hi < -v.clear
        · have HN := Lib.hid (HF.out (by simp [noB, h1]))
          go_wp2_with fail
          go_ret
          exact ⟨ret_i64 HN.out.symm, R2.out.q.bl⟩
        · by_cases h2 : v.clear < lo
          · have HN := Lib.hid (HF.out (by simp [noB, h2]))
            go_wp2_with fail
            go_ret
            exact ⟨ret_i64 HN.out.symm, R2.out.q.bl⟩
          · have HNO : Hid (noB v.clear lo hi = false) := Lib.hid (by simp [noB, h1, h2])
            have HZ2 : Hid (∀ r ∈ devsL L v p (l.take (k + 1)), noB v.clear r.1 r.2 = false) := Lib.hid (fun r hr => by
              rw [HTK.out] at hr
              rcases List.mem_append.1 hr with h | h
              · exact HZ.out r h
              · simp at h; subst h; exact HNO.out)
            have HA2 := Lib.hid (accV_snoc v.clear (devsL L v p (l.take k)) (lo, hi))
            cases hins : insB v.clear lo hi
            all_goals
              have HI := Lib.hid hins
              clear hins
              go_wp2_with fail
              refine (Inside_any v ⟨k1, k2⟩ lo hi _).mono ?_
              rintro e w9 ⟨rfl, hb9⟩
              rw [HI.out]
              have R3 := Lib.hid (RC.from hb9 R2.out)
              go_wp2_with fail
              go_roundw
              case rel => exact ⟨k + 1, by omega, by go_num, (by rw [HTK.out, HA2.out]; simp only [HI.out]; first | rfl | (rw [if_pos trivial, HAC.out])), HZ2.out, R3.out⟩
              case measure => simp [intOf]; omega
    · obtain rfl : k = l.length := by omega
      have HE : Hid (accV v.clear (devsL L v p (l.take l.length)) = clrV v.clear (devsL L v p l)) := Lib.hid (by
        have h := HZ.out
        rw [List.take_length] at h ⊢
        unfold accV clrV
        have hany : (devsL L v p l).any (fun r => noB v.clear r.1 r.2) = false := by
          rw [List.any_eq_false]
          intro r hr
          rw [h r hr]
          simp
        rw [if_neg (c := (devsL L v p l).any (fun r => noB v.clear r.1 r.2) = true) (by rw [hany]; simp)])
      go_wp2_with fail
      go_ret
      exact ⟨ret_i64 HE.out, R1.out.q.bl⟩
end Go.Proofs.Ytmnlgeglmkdecaa
