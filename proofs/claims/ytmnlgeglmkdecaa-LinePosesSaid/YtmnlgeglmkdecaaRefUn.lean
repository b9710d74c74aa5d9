/-
  The walk of the reference's FirstUnclear.
-/
import Derived.Test.YtmnlgeglmkdecaaPosA
namespace Go.Proofs.Ytmnlgeglmkdecaa
open Go.RowKit

/-- The reference's answer. -/
def unRef (L : Ll) (v : Lv) : Value := match unL L v with
  | some (q, j, lo, hi) => .tuple #[.agg #[.int .i64 q, .int .i64 j, .int .i64 lo, .int .i64 hi], .bool true]
  | none => .tuple #[.agg #[.int .i64 0, .int .i64 0, .int .i64 0, .int .i64 0], .bool false]

/-- A line's and a vehicle's box, the result's box, a list of numbers in memory. -/
structure UC (w W : World) (L : Ll) (H : Hds) (v : Lv) (B : Nat) (gl : Hd) (l : List Int) : Prop where
  r : RC w W L H v B gl l
  z : Bk W (w.heap.size + 2) 91 #[.int .i64 0, .int .i64 0, .int .i64 0, .int .i64 0]
  b3 : w.heap.size + 3 ≤ B
section
variable {w W W' : World} {L : Ll} {H : Hds} {v : Lv} {B : Nat} {gl : Hd} {l : List Int}
theorem UC.b2 (h : UC w W L H v B gl l) : B ≤ W.heap.size := h.r.b2
theorem UC.from (hb : Below W.heap.size W W') (h : UC w W L H v B gl l) : UC w W' L H v B gl l := ⟨h.r.from hb, h.z.call hb, h.b3⟩
theorem UC.alloc (h : UC w W L H v B gl l) (o : Obj) : UC w (W.alloc o) L H v B gl l := ⟨h.r.alloc o, h.z.alloc o, h.b3⟩
theorem UC.drew (h : UC w W L H v B gl l) : UC w W.drew L H v B gl l := ⟨h.r.drew, h.z, h.b3⟩
theorem UC.set (h : UC w W L H v B gl l) {p : Addr} (hp : B ≤ p.block) (u : Value) : UC w (W.setCell p u) L H v B gl l :=
  ⟨h.r.set hp u, h.z.far (by have := h.b3; omega) u, h.b3⟩
theorem UC.lnW (h : UC w W L H v B gl l) : LnAt W W.heap.size L H := h.r.q.lnW
theorem UC.all (h : UC w W L H v B gl l) {a : Addr} (ha : gl.A = some a) {i : Nat} {x : Int} (hx : l[i]? = some x) : UC w W L H v B gl l ∧ W.cell? ⟨w.heap.size, 0, none⟩ = some (.string L.name) ∧ W.cell? ⟨w.heap.size, 1, none⟩ = some (.slice H.j.A L.js.length H.j.c) ∧ W.cell? ⟨w.heap.size, 2, none⟩ = some (.slice H.b.A L.bs.length H.b.c) ∧ W.cell? ⟨w.heap.size, 3, none⟩ = some (.slice H.s.A L.ss.length H.s.c) ∧ W.cell? ⟨w.heap.size + 1, 0, none⟩ = some (.int .i64 v.len) ∧ W.cell? ⟨w.heap.size + 1, 1, none⟩ = some (.int .i64 v.clear) ∧ W.cell? ⟨w.heap.size + 1, 2, none⟩ = some (.int .i64 v.step) ∧ W.cell? (a.add i) = some (.int .i64 x) :=
  ⟨h, (h.r.all ha hx).2⟩
end

set_option maxHeartbeats 16000000 in
set_option maxRecDepth 100000 in
theorem refFirstUnclear_any {L : Ll} (hr : Right L) {v : Lv} (hv : vErr v = 0) (H : Hds) (hL : L.ok) (w : World) (hA : LnAt w w.heap.size L H) :
    Calls Try.prog 63 #[(.agg #[.string L.name, .slice H.j.A L.js.length H.j.c, .slice H.b.A L.bs.length H.b.c, .slice H.s.A L.ss.length H.s.c]), (.agg #[.int .i64 v.len, .int .i64 v.clear, .int .i64 v.step])] w fun e w' => e = .returned (unRef L v) ∧ Below w.heap.size w w' := by
  have Q0 := Lib.hid ((QV.start (v := v) hA).alloc (.cells #[.int .i64 0, .int .i64 0, .int .i64 0, .int .i64 0] 91))
  have Z0 := Lib.hid (Bk.new2 w (.cells #[.string L.name, .slice H.j.A L.js.length H.j.c, .slice H.b.A L.bs.length H.b.c, .slice H.s.A L.ss.length H.s.c] 26) (.cells #[.int .i64 v.len, .int .i64 v.clear, .int .i64 v.step] 77) 91 #[.int .i64 0, .int .i64 0, .int .i64 0, .int .i64 0])
  have HR := Lib.hid hr
  have HV := Lib.hid hv
  have h40 := hr.most
  have hjb := hr.jb
  have hnj := hL.nj
  obtain ⟨⟨vl0, vl1⟩, ⟨k1, k2⟩, ⟨vs0, vs1⟩⟩ := vErr_in hv
  have HI := Lib.hid (nPose_iff (L := L) hv)
  obtain ⟨T, hT⟩ : ∃ T, placeL L.bs L.bs.length = T := ⟨_, rfl⟩
  have tb : 0 ≤ T ∧ T ≤ 1200000 := by rw [← hT]; have := placeL_bound L.bs hr.b L.bs.length (Nat.le_refl _); omega
  have HT := Lib.hid hT
  rw [hT] at HI
  have tn := IntWalk.i64_in (-v.clear) (by omega)
  have HL := Lib.hid hL
  clear hr hv hA hT hjb hL
  go_enter Try.func63, Try.ntmps63
  go_wp2_with fail
  go_loopw [6] (fun i wr => ∃ k : Nat, k ≤ nPose L v ∧ i = .int .i64 ((k : Int) * v.step) ∧ unP L v (List.range k) = none ∧ QV w wr L H v ∧ Bk wr (w.heap.size + 2) 91 #[.int .i64 0, .int .i64 0, .int .i64 0, .int .i64 0]) (fun i _ => (T + 30000 - intOf i).toNat)
  case atStart => exact ⟨0, Nat.zero_le _, by simp, rfl, Q0.out, Z0.out⟩
  case round =>
    clear Q0 Z0
    obtain ⟨k, hk, rfl, hun, hQ, hZ⟩ := hrel
    have Q1 := Lib.hid hQ
    have Z1 := Lib.hid hZ
    have HUN := Lib.hid hun
    have hik := HI.out k
    have kb : 0 ≤ (k : Int) * v.step ∧ (k : Int) * v.step ≤ T + 30000 := by
      refine ⟨Int.mul_nonneg (by omega) (by omega), ?_⟩
      by_cases h0 : k = 0
      · subst h0; simp; omega
      · have h1 := (HI.out (k - 1)).1 (by omega)
        have e : ((k - 1 : Nat) : Int) * v.step = (k : Int) * v.step - v.step := by
          rw [show ((k - 1 : Nat) : Int) = (k : Int) - 1 from by omega, Int.sub_mul, Int.one_mul]
        omega
    have e1 : ((k + 1 : Nat) : Int) * v.step = (k : Int) * v.step + v.step := by rw [show ((k + 1 : Nat) : Int) = (k : Int) + 1 from by omega, Int.add_mul, Int.one_mul]
    have HSN := Lib.hid (unP_snoc (i := k) hun)
    obtain ⟨q, hq⟩ : ∃ q, (k : Int) * v.step = q := ⟨_, rfl⟩
    simp only [hq] at hik kb e1 HSN ⊢
    have HE := Lib.hid e1
    have HIK := Lib.hid hik
    obtain ⟨kb0, kb1⟩ := kb
    have t1 := IntWalk.i64_in (q + v.len) (by omega)
    have t2 := IntWalk.i64_in (q + v.step) (by omega)
    have hsz0 := hQ.veh.lt
    obtain ⟨v0, v1, v2⟩ := hQ.veh.three
    obtain ⟨c0, c1, c2, c3⟩ := hQ.box.four
    clear hQ hZ hun hq e1 hik
    by_cases hlt : q + v.len ≤ T
    · have hkb : k < nPose L v := HIK.out.2 hlt
      have HTT := Lib.hid (show q + v.len ≤ placeL L.bs L.bs.length by rw [HT.out]; exact hlt)
      have HKB := Lib.hid hkb
      obtain ⟨ns, hns⟩ : ∃ ns, benN L v q = ns := ⟨_, rfl⟩
      have HNL := Lib.hid (show benL L v q L.js.length = ns.map Int.ofNat by rw [← hns]; exact benL_all HR.out HV.out kb0 HTT.out)
      have hll : ns.length ≤ 1000 := by
        have := benL_len L v q L.js.length
        rw [HNL.out, List.length_map] at this
        omega
      have HMEM : Hid (∀ x ∈ ns, benB L v q (x : Int) = true) := Lib.hid (fun x hx => by
        rw [← ben_mem HR.out HV.out kb0 HTT.out (x : Int), HNL.out]
        exact decide_eq_true (List.mem_map.2 ⟨x, hx, rfl⟩))
      have HNS := Lib.hid hns
      rw [hns] at HSN
      obtain ⟨l, hl⟩ : ∃ l, ns.map Int.ofNat = l := ⟨_, rfl⟩
      have hlen : l.length = ns.length := by rw [← hl, List.length_map]
      have HLL := Lib.hid hl
      have HLN := Lib.hid hlen
      rw [hl] at HNL
      clear hns hl hlen hkb
      go_wp2_with fail
      (first | go_region_with (first | (go_at_call 22; refine (refLengthOf_any HR.out H HL.out _ (QV.lnW (w := w) (v := v) (by first | exact Q1.out.drew | exact Q1.out))).mono ?_; rintro e w2 ⟨rfl, hb2⟩; rw [HT.out]; have Q2 : Hid (QV w w2 L H v) := Lib.hid (QV.from hb2 (by first | exact Q1.out.drew | exact Q1.out)); have Z2 : Hid (Bk w2 (w.heap.size + 2) 91 #[.int .i64 0, .int .i64 0, .int .i64 0, .int .i64 0]) := Lib.hid (Bk.call (by first | exact Z1.out.drew | exact Z1.out) hb2); obtain ⟨q0, q1, q2⟩ := Q2.out.veh.three; obtain ⟨r0, r1, r2, r3⟩ := Q2.out.box.four) | fail "arm") | fail "region")
      all_goals
        clear v0 v1 v2 c0 c1 c2 c3
        go_wp2_with fail
        refine (Beneath_any HR.out HV.out q kb0 (by omega) H HL.out _ Q2.out.lnW).mono ?_
        rw [HNL.out]
        rintro e w3 ⟨gl, rfl, hLi, hb3⟩
        have R0 : Hid (UC w w3 L H v w3.heap.size gl l) := Lib.hid ⟨⟨Q2.out.from hb3, hLi, (Q2.out.from hb3).veh.lt, Nat.le_refl _⟩, Z2.out.call hb3, (Z2.out.call hb3).lt⟩
        clear hb3 hLi q0 q1 q2 r0 r1 r2 r3
        go_wp2_with fail
        go_loopw [8] (fun i wy => ∃ m : Nat, m ≤ l.length ∧ i = .int .i64 m ∧ unN L v q (ns.take m) = none ∧ UC w wy L H v w3.heap.size gl l) (fun i _ => l.length - (intOf i).toNat)
        case atStart => exact ⟨0, Nat.zero_le _, rfl, rfl, R0.out⟩
        case round =>
          clear R0 Q1 Q2 Z1 Z2
          obtain ⟨m, hm, rfl, hu2, hR⟩ := hrel
          have R1 := Lib.hid hR
          have HU2 := Lib.hid hu2
          clear hR hu2
          by_cases hlt2 : m < l.length
          · have hmn : m < ns.length := by rw [← HLN.out]; exact hlt2
            obtain ⟨x, hx⟩ : ∃ x, ns[m] = x := ⟨_, rfl⟩
            have hx0 : l[m]? = some (x : Int) := by rw [← HLL.out, List.getElem?_map, List.getElem?_eq_getElem hmn, hx]; rfl
            have hmem := HMEM.out x (by rw [← hx]; exact List.getElem_mem hmn)
            have HTK : Hid (ns.take (m + 1) = ns.take m ++ [x]) := Lib.hid (by rw [List.take_succ_eq_append_getElem hmn, hx])
            obtain ⟨a, ha, _, _⟩ := R1.out.r.li.num hx0
            obtain ⟨A, gc⟩ := gl
            obtain rfl : A = some a := ha
            obtain ⟨lo, hlo⟩ : ∃ r, devLo L v q x = r := ⟨_, rfl⟩
            obtain ⟨hi, hhi⟩ : ∃ r, devHi L v q x = r := ⟨_, rfl⟩
            have hs2 := unN_snoc L v q (ns.take m) x HU2.out
            rw [hlo, hhi, ← HTK.out] at hs2
            have HS2 := Lib.hid hs2
            have HX := Lib.hid hx0
            have HB := Lib.hid hmem
            have HLO := Lib.hid (show devLo L v q ((x : Int)).toNat = lo from hlo)
            have HHI := Lib.hid (show devHi L v q ((x : Int)).toNat = hi from hhi)
            have hlt' : (m : Int) < (l.length : Int) := by omega
            have tk := IntWalk.i64_in ((m : Int) + 1) (by omega)
            have hsz := R1.out.b3
            have hsz2 := R1.out.b2
            obtain ⟨xi, hxi⟩ : ∃ xi : Int, (x : Int) = xi := ⟨_, rfl⟩
            rw [hxi] at HX HB HLO HHI HS2
            clear hx0 hmem hlo hhi hs2 hmn hx hxi
            obtain ⟨_, c0, c1, c2, c3, v0, v1, v2, y0⟩ := R1.out.all rfl HX.out
            go_upto_region 8 with fail
            go_cut [9] from 25 to 49 (fun s10 wx => ∃ g : Nat, s10 = .pointer (some ⟨g, 0, none⟩) ∧ UC w wx L H v w3.heap.size ⟨some a, gc⟩ l ∧ wx.cell? ⟨g, 0, none⟩ = some (.int .i64 lo) ∧ wx.cell? ⟨g, 1, none⟩ = some (.int .i64 hi))
            case first =>
              go_region_held3 (fun W => UC w W L H v w3.heap.size ⟨some a, gc⟩ l ∧ W.cell? ⟨w.heap.size, 0, none⟩ = some (.string L.name) ∧ W.cell? ⟨w.heap.size, 1, none⟩ = some (.slice H.j.A L.js.length H.j.c) ∧ W.cell? ⟨w.heap.size, 2, none⟩ = some (.slice H.b.A L.bs.length H.b.c) ∧ W.cell? ⟨w.heap.size, 3, none⟩ = some (.slice H.s.A L.ss.length H.s.c) ∧ W.cell? ⟨w.heap.size + 1, 0, none⟩ = some (.int .i64 v.len) ∧ W.cell? ⟨w.heap.size + 1, 1, none⟩ = some (.int .i64 v.clear) ∧ W.cell? ⟨w.heap.size + 1, 2, none⟩ = some (.int .i64 v.step) ∧ W.cell? (a.add m) = some (.int .i64 xi))
                ((go_split_ands; refine UC.all ?_ rfl HX.out; (first | assumption | exact R1.out.drew | (repeat (first | assumption | exact R1.out | refine UC.alloc ?_ _ | refine UC.drew ?_ | (refine UC.set ?_ (by first | omega | (simp; omega)) _)))); done))
                ((first | (go_at_call 59; go_split_ands; refine (refDeviationAt_at HR.out HV.out kb0 HTT.out HB.out HLO.out HHI.out H HL.out _ (UC.lnW (w := w) (v := v) (B := w3.heap.size) (gl := ⟨some a, gc⟩) (l := l) (by assumption))).mono ?_; rintro e w5 ⟨rfl, hb5⟩; have S5 : UC w w5 L H v w3.heap.size ⟨some a, gc⟩ l := UC.from hb5 (by assumption); have z5 := S5.b2; (first | (have M0 : Bk w5 wr.heap.size 54 #[.int .i64 0, .int .i64 0] := Bk.call ((Bk.new wr 54 #[.int .i64 0, .int .i64 0]).drew) hb5; obtain ⟨m0, m1, m2, m3⟩ := M0.two) | skip)) | fail "arm"))
              all_goals
                go_split_ands
                go_wp2_with fail
                go_meet
                refine ⟨_, rfl, by assumption, ?_, ?_⟩
              all_goals (first | (go_simp; done) | (simp [*]; done) | skip)
            case rest =>
              obtain ⟨g, rfl, hR2, d0, d1⟩ := hcut
              have R2 := Lib.hid hR2
              clear hR2 c0 c1 c2 c3 v0 v1 v2 y0 R1
              obtain ⟨_, c0, c1, c2, c3, v0, v1, v2, y0⟩ := R2.out.all rfl HX.out
              cases hins : insB v.clear lo hi with
              | true =>
                have HIN := Lib.hid hins
                clear hins
                go_wp2_with fail
                refine (Inside_any v ⟨k1, k2⟩ lo hi _).mono ?_
                rintro e w9 ⟨rfl, hb9⟩
                rw [HIN.out]
                have R3 := Lib.hid (UC.from hb9 R2.out)
                go_wp2_with fail
                go_roundw
                case rel => exact ⟨m + 1, by omega, by go_num, by rw [HS2.out, if_pos HIN.out], R3.out⟩
                case measure => simp [intOf]; omega
              | false =>
                have HIN := Lib.hid hins
                clear hins
                go_wp2_with fail
                refine (Inside_any v ⟨k1, k2⟩ lo hi _).mono ?_
                rintro e w9 ⟨rfl, hb9⟩
                rw [HIN.out]
                have R3 := Lib.hid (UC.from hb9 R2.out)
                have D0 := Lib.hid ((hb9.cell (p := ⟨g, 0, none⟩) (World.block_lt_of_cell? _ _ d0)).trans d0)
                have D1 := Lib.hid ((hb9.cell (p := ⟨g, 1, none⟩) (World.block_lt_of_cell? _ _ d1)).trans d1)
                clear hb9 c0 c1 c2 c3 v0 v1 v2 y0 d0 d1
                have d0 := D0.out
                have d1 := D1.out
                obtain ⟨_, c0, c1, c2, c3, v0, v1, v2, y0⟩ := R3.out.all rfl HX.out
                obtain ⟨z0, z1, z2, z3⟩ := R3.out.z.four
                obtain ⟨f0, f1, f2, f3⟩ : _ ∧ _ ∧ _ ∧ _ := ⟨R3.out.z.frozen 0, R3.out.z.frozen 1, R3.out.z.frozen 2, R3.out.z.frozen 3⟩
                have HANS : Hid (unRef L v = .tuple #[.agg #[.int .i64 q, .int .i64 xi, .int .i64 lo, .int .i64 hi], .bool true]) := Lib.hid (by
                  have h1 : unN L v q ns = some (xi, lo, hi) := by
                    have h2 := unN_take L v q (ns.take (m + 1)) (ns.drop (m + 1)) (x := (xi, lo, hi)) (by rw [HS2.out, if_neg (by rw [HIN.out]; decide)])
                    rwa [List.take_append_drop] at h2
                  obtain ⟨rs, hrs⟩ := range_split (show k + 1 ≤ nPose L v from HKB.out)
                  unfold unRef unL
                  rw [hrs, List.range_succ, unP_take _ rs (x := (q, xi, lo, hi)) (by rw [HSN.out, h1]; rfl)])
                have BL := Lib.hid R3.out.r.q.bl
                go_wp2_with fail
                (first | go_region | fail "region10")
                all_goals
                  go_wp2_with fail
                  refine bodyPost_ret (v := .tuple #[.agg #[.int .i64 q, .int .i64 xi, .int .i64 lo, .int .i64 hi], .bool true]) (by simp [results, Try.results63, go_sem, z0, z1, z2, z3]) rfl ⟨by rw [HANS.out], ?_⟩
                  (first | exact BL.out.setCell (by simp; omega) _ |>.setCell (by simp; omega) _ |>.setCell (by simp; omega) _ |>.setCell (by simp; omega) _ | exact BL.out.drew.setCell (by simp; omega) _ |>.setCell (by simp; omega) _ |>.setCell (by simp; omega) _ |>.setCell (by simp; omega) _ | fail "bl")
          · obtain rfl : m = l.length := by omega
            have hz : unN L v q ns = none := by
              have h := HU2.out
              rw [HLN.out, List.take_length] at h
              exact h
            have HZ := Lib.hid hz
            clear hz
            obtain ⟨v0, v1, v2⟩ := R1.out.r.q.veh.three
            go_wp2_with fail
            go_roundw
            case rel => exact ⟨k + 1, HKB.out, by rw [HE.out], by rw [List.range_succ, HSN.out, HZ.out]; rfl, R1.out.r.q, R1.out.z⟩
            case measure => simp [intOf]; omega
    · have hke : k = nPose L v := by
        have : ¬ k < nPose L v := fun h => hlt (HIK.out.1 h)
        omega
      have HANS : Hid (unRef L v = .tuple #[.agg #[.int .i64 0, .int .i64 0, .int .i64 0, .int .i64 0], .bool false]) := Lib.hid (by
        unfold unRef unL
        rw [← hke, HUN.out])
      clear hke
      go_wp2_with fail
      (first | go_region_with (first | (go_at_call 22; refine (refLengthOf_any HR.out H HL.out _ (QV.lnW (w := w) (v := v) (by first | exact Q1.out.drew | exact Q1.out))).mono ?_; rintro e w2 ⟨rfl, hb2⟩; rw [HT.out]; have Q2 : Hid (QV w w2 L H v) := Lib.hid (QV.from hb2 (by first | exact Q1.out.drew | exact Q1.out)); have Z2 : Hid (Bk w2 (w.heap.size + 2) 91 #[.int .i64 0, .int .i64 0, .int .i64 0, .int .i64 0]) := Lib.hid (Bk.call (by first | exact Z1.out.drew | exact Z1.out) hb2); obtain ⟨q0, q1, q2⟩ := Q2.out.veh.three; obtain ⟨r0, r1, r2, r3⟩ := Q2.out.box.four) | fail "arm") | fail "region")
      all_goals
        obtain ⟨z0, z1, z2, z3⟩ := Z2.out.four
        obtain ⟨f0, f1, f2, f3⟩ : _ ∧ _ ∧ _ ∧ _ := ⟨Z2.out.frozen 0, Z2.out.frozen 1, Z2.out.frozen 2, Z2.out.frozen 3⟩
        go_wp2_with fail
        refine bodyPost_ret (v := .tuple #[.agg #[.int .i64 0, .int .i64 0, .int .i64 0, .int .i64 0], .bool false]) (by simp [results, Try.results63, go_sem, z0, z1, z2, z3]) rfl ⟨by rw [HANS.out], ?_⟩
        exact Q2.out.bl.setCell (by simp; omega) _ |>.setCell (by simp; omega) _ |>.setCell (by simp; omega) _ |>.setCell (by simp; omega) _
end Go.Proofs.Ytmnlgeglmkdecaa
