
/-
  The walk of StatorRest.
-/
import Derived.Test.YtjpfchhmljkkhaaDoorTAwk
import Derived.Test.YtjpfchhmljkkhaaDoorTRsW
import Derived.Test.YtjpfchhmljkkhaaDoorTRgt
namespace Go.Proofs.YtjpfchhmljkkhaaDoor
open Go.RowKit

/-- Two boxes of two cells are written anew. -/
theorem Fr.store2 {w W : World} {g0 g1 g2 g : Nat} {t0 t1 t2 t : TypeId} {c0 c : Array Value} {a1 b1 a2 b2 x1 y1 x2 y2 : Value} (h : Fr w W [(g0, t0, c0), (g2, t2, #[a2, b2]), (g1, t1, #[a1, b1]), (g, t, c)])
    (h12 : g1 ≠ g2) (h01 : g0 ≠ g1) (h02 : g0 ≠ g2) (hg1 : g ≠ g1) (hg2 : g ≠ g2) (l1 : w.heap.size ≤ g1) (l2 : w.heap.size ≤ g2) :
    Fr w ((((W.setCell ⟨g1, 0, none⟩ x1).setCell ⟨g1, 1, none⟩ y1).setCell ⟨g2, 0, none⟩ x2).setCell ⟨g2, 1, none⟩ y2) [(g0, t0, c0), (g2, t2, #[x2, y2]), (g1, t1, #[x1, y1]), (g, t, c)] :=
  (((((((h.tail.tail.tail.set (p := ⟨g1, 0, none⟩) l1 (by simpa using hg1) x1).set (p := ⟨g1, 1, none⟩) l1 (by simpa using hg1) y1).set (p := ⟨g2, 0, none⟩) l2 (by simpa using hg2) x2).set (p := ⟨g2, 1, none⟩) l2 (by simpa using hg2) y2).more
    (((h.at2.set2 x1 y1).far (p := ⟨g2, 0, none⟩) h12 x2).far (p := ⟨g2, 1, none⟩) h12 y2)).more
    ((((h.at1.far (p := ⟨g1, 0, none⟩) (Ne.symm h12) x1).far (p := ⟨g1, 1, none⟩) (Ne.symm h12) y1)).set2 x2 y2)).more
    ((((h.top.far (p := ⟨g1, 0, none⟩) h01 x1).far (p := ⟨g1, 1, none⟩) h01 y1).far (p := ⟨g2, 0, none⟩) h02 x2).far (p := ⟨g2, 1, none⟩) h02 y2))

theorem Fr.tab {w W : World} {bs : List (Nat × TypeId × Array Value)} (hT : Tab w) (hf : Fr w W bs) : Tab W := hT.call hf.bl

set_option maxHeartbeats 2000000 in
set_option maxRecDepth 100000 in
theorem rest_long (M : Int) (ws : List T3) (g : Hd) (hl : ¬ ws.length ≤ 20) (hm : ws.length ≤ maxLen) (w : World) (hT : Tab w) : Calls Tryd.prog 4 #[.int .i64 M, .slice g.A ws.length g.c] w fun e w' => e = .returned (.bool true) ∧ Below w.heap.size w w' := by
  unfold maxLen at hm
  have gl : (20 : Int) < (ws.length : Int) := by omega
  go_enter Tryd.func4, Tryd.ntmps4
  go_wp2_with fail
  refine (awake_any _ hT).mono ?_
  rintro e w1 ⟨rfl, hb1⟩
  go_wp2_with fail
  go_ret
  exact ⟨rfl, hb1⟩

set_option maxHeartbeats 2000000 in
set_option maxRecDepth 100000 in
theorem rest_bad (M : Int) (ws : List T3) (g : Hd) (hl : ws.length ≤ 20) (er : Int) (he : wntE M ws = er) (hr : er ≠ 0) (w : World) (hT : Tab w) (hA : Lies w w.heap.size g.A (ws.flatMap tc)) : Calls Tryd.prog 4 #[.int .i64 M, .slice g.A ws.length g.c] w fun e w' => e = .returned (.bool true) ∧ Below w.heap.size w w' := by
  have gl : ¬ (20 : Int) < (ws.length : Int) := by omega
  have gn : (er != 0) = true := by simp [hr]
  have HE := Lib.hid he
  clear he hr
  go_enter Tryd.func4, Tryd.ntmps4
  go_wp2_with fail
  refine (awake_any _ hT).mono ?_
  rintro e w1 ⟨rfl, hb1⟩
  have F1 := Lib.hid (Fr.call (Fr.nil w) hb1)
  clear hb1
  go_wp2_with fail
  refine (WantsErr_any M ws g.A g.c hl _ (Fr.lies hA F1.out)).mono ?_
  rintro e w2 ⟨rfl, hb2⟩
  rw [HE.out]
  have F2 := Lib.hid (Fr.call F1.out hb2)
  clear hb2 F1
  go_wp2_with fail
  go_ret
  exact ⟨rfl, F2.out.bl⟩

set_option maxHeartbeats 8000000 in
set_option maxRecDepth 100000 in
theorem rest_ok (M : Int) (ws : List T3) (g : Hd) (hg : HdOk g) (hl : ws.length ≤ 20) (hM : inB M 1 100000 = true) (hx : ∀ x ∈ ws, okT x = true) (w : World) (hT : Tab w) (hA : Lies w w.heap.size g.A (ws.flatMap tc)) : Calls Tryd.prog 4 #[.int .i64 M, .slice g.A ws.length g.c] w fun e w' => e = .returned (.bool true) ∧ Below w.heap.size w w' := by
  have gl : ¬ (20 : Int) < (ws.length : Int) := by omega
  have gl2 : (ws.length : Int) ≤ 20 := by omega
  have HE : Hid (wntE M ws = 0) := Lib.hid (by unfold wntE; rw [if_pos hM]; exact vsE_yes hx)
  have HX := Lib.hid hx
  have HA := Lib.hid hA
  have HG := Lib.hid hg
  have T0 := Lib.hid hT
  have HM := Lib.hid hM
  obtain ⟨m0, m1⟩ := inB_iff.1 hM
  have HAL : Hid (ws.all okT = true) := Lib.hid (by rw [List.all_eq_true]; exact hx)
  clear hx hA hg hT hM
  go_enter Tryd.func4, Tryd.ntmps4
  go_wp2_with fail
  refine (awake_any _ T0.out).mono ?_
  rintro e w1 ⟨rfl, hb1⟩
  have F1 := Lib.hid (Fr.call (Fr.nil w) hb1)
  clear hb1
  go_wp2_with fail
  refine (WantsErr_any M ws g.A g.c hl _ (Fr.lies HA.out F1.out)).mono ?_
  rintro e w2 ⟨rfl, hb2⟩
  rw [HE.out]
  have F2 := Lib.hid (Fr.call F1.out hb2)
  clear hb2 F1
  go_wp2_with fail
  go_loopw [5, 6] (fun s i wr => ∃ k : Nat, k ≤ ws.length ∧ i = .int .i64 k ∧ s = .bool ((ws.take k).all (nearB M)) ∧ Fr w wr []) (fun _ i _ => ws.length - (intOf i).toNat)
  case atStart => exact ⟨0, Nat.zero_le _, rfl, rfl, F2.out⟩
  case round =>
    obtain ⟨k, hk, rfl, rfl, hfr⟩ := hrel
    have FK := Lib.hid hfr
    clear hfr F2
    by_cases hlt : k < ws.length
    · obtain ⟨x, hx⟩ : ∃ x, ws[k]? = some x := ⟨_, List.getElem?_eq_getElem hlt⟩
      obtain ⟨a, ea, hab, ca, cb⟩ := (Fr.lies HA.out FK.out).third hx
      have hlt' : (k : Int) < (ws.length : Int) := by omega
      have HN := Lib.hid (IsNear_ok M x HM.out (HX.out x (List.mem_of_getElem? hx)))
      have HK : Hid ((ws.take (k + 1)).all (nearB M) = ((ws.take k).all (nearB M) && nearB M x)) := Lib.hid (by rw [take_snoc hx, List.all_append]; simp)
      obtain ⟨nb, hnb⟩ : ∃ b, (ws.take k).all (nearB M) = b := ⟨_, rfl⟩
      obtain ⟨xb, hxb⟩ : ∃ b, nearB M x = b := ⟨_, rfl⟩
      rw [hxb] at HN
      rw [hnb, hxb] at HK
      rw [hnb]
      clear hnb hxb hx
      obtain ⟨GA, gc⟩ := g
      simp only at ea
      subst ea
      cases nb <;> cases xb
      all_goals
        go_wp2_with fail
        refine (HN.out _).mono ?_
        rintro e w3 ⟨rfl, hb3⟩
        have F3 := Lib.hid (FK.out.call hb3)
        clear hb3 FK ca cb
        go_wp2_with fail
        go_roundw
        case rel => exact ⟨k + 1, by omega, by go_num, by rw [HK.out] <;> rfl, F3.out⟩
        case measure => simp [intOf]; omega
    · obtain rfl : k = ws.length := by omega
      rw [List.take_length]
      obtain ⟨nr, hnr⟩ : ∃ b, ws.all (nearB M) = b := ⟨_, rfl⟩
      rw [hnr]
      have HNR := Lib.hid hnr
      clear hnr hlt
      go_wp2_with fail
      refine (CopyVectors_any ws g (by omega) HG.out _ (Fr.lies HA.out FK.out)).mono ?_
      rintro e w3 ⟨g2, rfl, hl2, _, _, hb3⟩
      have F3 := Lib.hid (FK.out.call hb3)
      have HL2 := Lib.hid hl2
      clear hb3 hl2 FK
      go_wp2_with fail
      refine (Modulated_any M HM.out ws _ _ (by omega) _ (Fr.tab T0.out F3.out) HL2.out).mono ?_
      rintro e wm ⟨hp, hb4⟩
      have F4 := Lib.hid (F3.out.call hb4)
      rcases hp with ⟨_, A1, c1, A2, c2, rfl, hs, hlf⟩ | ⟨hno, _⟩
      · have LS := Lib.hid hs
        have LL := Lib.hid hlf
        have TM := Lib.hid (Fr.tab T0.out F4.out)
        have LW := Lib.hid (Fr.lies HA.out F4.out)
        have BW := Lib.hid F4.out.bl
        have FM := Lib.hid (Fr.b3 wm 41 #[.slice A1 ws.length c1, .slice A2 ws.length c2] 25 #[.int .i64 0, .int .i64 0] 25 #[.int .i64 0, .int .i64 0])
        have F5 := Lib.hid (Fr.b1 wm 41 #[.slice A1 ws.length c1, .slice A2 ws.length c2])
        obtain ⟨p0, p1, _, _⟩ := F5.out.top.two
        clear hs hlf hb4 F3 F4 HL2
        go_wp2_with fail
        clear p0 p1 F5
        go_loopw [13] (fun i wr => ∃ k : Nat, k ≤ ws.length ∧ i = .int .i64 k ∧ Fr wm wr [(wm.heap.size + 1 + 1, 25, #[.int .i64 (sentV M ws k).a, .int .i64 (sentV M ws k).b]), (wm.heap.size + 1, 25, #[.int .i64 (sumT (ws.take k)).a, .int .i64 (sumT (ws.take k)).b]), (wm.heap.size, 41, #[.slice A1 ws.length c1, .slice A2 ws.length c2])]) (fun i _ => ws.length - (intOf i).toNat)
        case atStart => exact ⟨0, Nat.zero_le _, rfl, FM.out⟩
        case round =>
          obtain ⟨k, hk, rfl, hfr⟩ := hrel
          have FK := Lib.hid hfr
          clear hfr FM
          by_cases hlt : k < ws.length
          · obtain ⟨x, hx⟩ : ∃ x, ws[k]? = some x := ⟨_, List.getElem?_eq_getElem hlt⟩
            have hlt' : (k : Int) < (ws.length : Int) := by omega
            obtain ⟨ax, ex, hxb, xc0, xc1⟩ := LW.out.third hx
            obtain ⟨a1, rfl, h1b, sc0⟩ := (Fr.lies LS.out FK.out).num (sts_at (M := M) hlt)
            obtain ⟨a2, rfl, h2b, lc0, lc1⟩ := LL.out.third (lft_at (M := M) hlt)
            have hxb' : (ax.add (k * 2)).block < wm.heap.size := by rw [add_blk]; exact hxb
            have h2b' : (a2.add (k * 2)).block < wm.heap.size := by rw [add_blk]; exact h2b
            have HX1 : Hid (sumT (ws.take (k + 1)) = (sumT (ws.take k)).add x) := Lib.hid (by rw [take_snoc hx, sumT_snoc])
            have HX2 : Hid (sentV M ws (k + 1) = (sentV M ws k).add ⟨M * (stV (stAt M ws k)).a, M * (stV (stAt M ws k)).b⟩) := Lib.hid rfl
            have HX3 : Hid ((sumT (ws.take (k + 1))).sub (sentV M ws (k + 1)) = leftV M T3.zero (ws.take (k + 1))) := Lib.hid (sent_left M ws (k + 1) (by omega))
            have HX4 : Hid (nr = true → nearB M (leftV M T3.zero (ws.take (k + 1))) = true) := Lib.hid (fun h => left_near (by omega) (by rw [HNR.out]; exact h) (k + 1))
            have bs1 := sumT_bd ws HX.out k (by omega)
            have bs2 := sumT_bd ws HX.out (k + 1) (by omega)
            have bt1 := sent_bd (M := M) ⟨by omega, by omega⟩ ws k
            have bt2 := sent_bd (M := M) ⟨by omega, by omega⟩ ws (k + 1)
            obtain ⟨⟨v0, v1⟩, v2, v3⟩ := stV_in (stAt M ws k)
            have hst := stAt_lt M ws k
            obtain ⟨ka, kb⟩ : (0 : Int) ≤ (k : Int) * 100000 ∧ (k : Int) * 100000 ≤ 2000000 := by omega
            obtain ⟨kc, kd⟩ : (0 : Int) ≤ ((k + 1 : Nat) : Int) * 100000 ∧ ((k + 1 : Nat) : Int) * 100000 ≤ 2000000 := by omega
            have hob := okT_bd (HX.out x (List.mem_of_getElem? hx))
            have HTAB : Hid (∀ w, Tab w → Calls Tryd.prog 6 #[.int .i64 (stAt M ws k : Int)] w fun e w' => e = .returned (.tuple #[.agg #[.int .i64 (stV (stAt M ws k)).a, .int .i64 (stV (stAt M ws k)).b], .int .i64 0]) ∧ Below w.heap.size w w') := Lib.hid (fun w h => StateVector_ok _ hst w h)
            have hsa := TAdd_any (sumT (ws.take k)) x ⟨by omega, by omega, by omega, by omega⟩ (hob.more (by omega))
            have hsm := scl_in (M := M) (by omega) v0 v1
            have hsn := scl_in (M := M) (by omega) v2 v3
            have hsb := TAdd_any (sentV M ws k) ⟨M * (stV (stAt M ws k)).a, M * (stV (stAt M ws k)).b⟩ ⟨by omega, by omega, by omega, by omega⟩ ⟨by simp only; omega, by simp only; omega, by simp only; omega, by simp only; omega⟩
            have hsc := TSub_any (sumT (ws.take (k + 1))) (sentV M ws (k + 1)) ⟨by omega, by omega, by omega, by omega⟩ ⟨by omega, by omega, by omega, by omega⟩
            rw [HX3.out] at hsc
            rw [← HX1.out] at hsa
            rw [← HX2.out] at hsb
            have hwa : inB (stV (stAt M ws k)).a (-2) 2 = true := inB_iff.2 (by omega)
            have hwb : inB (stV (stAt M ws k)).b (-2) 2 = true := inB_iff.2 (by omega)
            have HIS : Hid (nr = true → ∀ w, Calls Tryd.prog 9 #[.int .i64 M, (.agg #[.int .i64 (leftV M T3.zero (ws.take (k + 1))).a, .int .i64 (leftV M T3.zero (ws.take (k + 1))).b])] w fun e w' => e = .returned (.tuple #[.bool true, .int .i64 0]) ∧ Below w.heap.size w w') := Lib.hid (fun h w => by have hn := HX4.out h; have := IsNear_ok M _ HM.out (near_ok m1 hn) w; rw [hn] at this; exact this)
            have HRD : Hid ((sumT (ws.take (k + 1))).a = (sumT (ws.take (k + 1))).a) := Lib.hid rfl
            clear HX3 HX4 bs1 bs2 bt1 bt2 v0 v1 v2 v3 hob hx HX1 HX2 HRD
            obtain ⟨nsa, hnsa⟩ : ∃ z, (sumT (ws.take (k + 1))).a = z := ⟨_, rfl⟩
            obtain ⟨nsb, hnsb⟩ : ∃ z, (sumT (ws.take (k + 1))).b = z := ⟨_, rfl⟩
            obtain ⟨nta, hnta⟩ : ∃ z, (sentV M ws (k + 1)).a = z := ⟨_, rfl⟩
            obtain ⟨ntb, hntb⟩ : ∃ z, (sentV M ws (k + 1)).b = z := ⟨_, rfl⟩
            rw [hnsa, hnsb] at hsa hsc
            rw [hnta, hntb] at hsb hsc
            have HN1 := Lib.hid hnsa
            have HN2 := Lib.hid hnsb
            have HN3 := Lib.hid hnta
            have HN4 := Lib.hid hntb
            clear hnsa hnsb hnta hntb
            simp only at hsb
            generalize (leftV M T3.zero (ws.take (k + 1))).a = la at *
            generalize (leftV M T3.zero (ws.take (k + 1))).b = lb at *
            generalize (stV (stAt M ws k)).a = va at *
            generalize (stV (stAt M ws k)).b = vb at *
            generalize (stAt M ws k : Int) = st at *
            generalize (sumT (ws.take k)).a = sa at *
            generalize (sumT (ws.take k)).b = sb at *
            generalize (sentV M ws k).a = ta at *
            generalize (sentV M ws k).b = tb at *
            have wva : IntKind.i64.wrap (M * va) = M * va := IntWalk.i64_in _ ⟨by omega, by omega⟩
            have wvb : IntKind.i64.wrap (M * vb) = M * vb := IntWalk.i64_in _ ⟨by omega, by omega⟩
            have HTA := Lib.hid hsa
            have HTB := Lib.hid hsb
            have HTS := Lib.hid hsc
            have HCX : Hid (∀ W, Below wm.heap.size wm W → W.cell? (ax.add (k * 2)) = some (.int .i64 x.a) ∧ W.cell? ⟨(ax.add (k * 2)).block, (ax.add (k * 2)).off + 1, none⟩ = some (.int .i64 x.b)) := Lib.hid (fun W hb => ⟨(hb.cell hxb').trans xc0, (hb.cell (p := ⟨(ax.add (k * 2)).block, (ax.add (k * 2)).off + 1, none⟩) hxb').trans xc1⟩)
            have HCL : Hid (∀ W, Below wm.heap.size wm W → W.cell? (a2.add (k * 2)) = some (.int .i64 la) ∧ W.cell? ⟨(a2.add (k * 2)).block, (a2.add (k * 2)).off + 1, none⟩ = some (.int .i64 lb)) := Lib.hid (fun W hb => ⟨(hb.cell h2b').trans lc0, (hb.cell (p := ⟨(a2.add (k * 2)).block, (a2.add (k * 2)).off + 1, none⟩) h2b').trans lc1⟩)
            obtain ⟨GA, gc⟩ := g
            simp only at ex
            subst ex
            obtain ⟨p0, p1, _, _⟩ := FK.out.at2.two
            have hz9 := FK.out.at2.lt
            clear hsa hsb hsc xc0 xc1 lc0 lc1 hxb hxb' h1b h2b h2b'
            go_wp2_with fail
            refine (HTAB.out _ (Fr.tab TM.out FK.out)).mono ?_
            rintro e w5 ⟨rfl, hb5⟩
            have F5 := Lib.hid (Fr.box (FK.out.call hb5) 25 #[.int .i64 va, .int .i64 vb])
            have hz5 := (FK.out.call hb5).top.lt
            clear hb5 FK p0 p1 sc0 hz9
            go_upto_region 23 with (go_at_call 21; refine (Within_any _ _ _ _).mono ?_; rintro e w' ⟨rfl, rfl⟩; (first | rw [hwa] | rw [hwb]))
            have K1 := F5.out.at2
            have K2 := F5.out.at1
            obtain ⟨q0, q1, q2, q3⟩ := K1.two
            obtain ⟨r0, r1, r2, r3⟩ := K2.two
            go_cut [120] from 104 to 120 (fun r W => r = .agg #[.int .i64 nta, .int .i64 ntb] ∧ Fr wm W ((w5.heap.size, 25, #[.int .i64 va, .int .i64 vb]) :: [(wm.heap.size + 1 + 1, 25, #[.int .i64 nta, .int .i64 ntb]), (wm.heap.size + 1, 25, #[.int .i64 nsa, .int .i64 nsb]), (wm.heap.size, 41, #[.slice (some a1) ws.length c1, .slice (some a2) ws.length c2])]))
            case first =>
              have HALL : Hid (∀ W, Fr wm W ((w5.heap.size, 25, #[.int .i64 va, .int .i64 vb]) :: [(wm.heap.size + 1 + 1, 25, #[.int .i64 ta, .int .i64 tb]), (wm.heap.size + 1, 25, #[.int .i64 sa, .int .i64 sb]), (wm.heap.size, 41, #[.slice (some a1) ws.length c1, .slice (some a2) ws.length c2])]) → Fr wm W ((w5.heap.size, 25, #[.int .i64 va, .int .i64 vb]) :: [(wm.heap.size + 1 + 1, 25, #[.int .i64 ta, .int .i64 tb]), (wm.heap.size + 1, 25, #[.int .i64 sa, .int .i64 sb]), (wm.heap.size, 41, #[.slice (some a1) ws.length c1, .slice (some a2) ws.length c2])]) ∧ W.cell? ⟨wm.heap.size + 1, 0, none⟩ = some (.int .i64 sa) ∧ W.cell? ⟨wm.heap.size + 1, 1, none⟩ = some (.int .i64 sb) ∧ W.cell? ⟨wm.heap.size + 1 + 1, 0, none⟩ = some (.int .i64 ta) ∧ W.cell? ⟨wm.heap.size + 1 + 1, 1, none⟩ = some (.int .i64 tb) ∧ W.cell? ⟨w5.heap.size, 0, none⟩ = some (.int .i64 va) ∧ W.cell? ⟨w5.heap.size, 1, none⟩ = some (.int .i64 vb) ∧ W.cell? (ax.add (k * 2)) = some (.int .i64 x.a) ∧ W.cell? ⟨(ax.add (k * 2)).block, (ax.add (k * 2)).off + 1, none⟩ = some (.int .i64 x.b)) := Lib.hid (fun W hW => ⟨hW, hW.at2.cell 0, hW.at2.cell 1, hW.at1.cell 0, hW.at1.cell 1, hW.top.cell 0, hW.top.cell 1, HCX.out W hW.bl⟩)
              have F10 : Fr wm _ ((w5.heap.size, 25, #[.int .i64 va, .int .i64 vb]) :: [(wm.heap.size + 1 + 1, 25, #[.int .i64 ta, .int .i64 tb]), (wm.heap.size + 1, 25, #[.int .i64 sa, .int .i64 sb]), (wm.heap.size, 41, #[.slice (some a1) ws.length c1, .slice (some a2) ws.length c2])]) := F5.out
              clear F5
              refine Tw_start 17 (fun W => Fr wm W ((w5.heap.size, 25, #[.int .i64 va, .int .i64 vb]) :: [(wm.heap.size + 1 + 1, 25, #[.int .i64 ta, .int .i64 tb]), (wm.heap.size + 1, 25, #[.int .i64 sa, .int .i64 sb]), (wm.heap.size, 41, #[.slice (some a1) ws.length c1, .slice (some a2) ws.length c2])]) ∧ W.cell? ⟨wm.heap.size + 1, 0, none⟩ = some (.int .i64 sa) ∧ W.cell? ⟨wm.heap.size + 1, 1, none⟩ = some (.int .i64 sb) ∧ W.cell? ⟨wm.heap.size + 1 + 1, 0, none⟩ = some (.int .i64 ta) ∧ W.cell? ⟨wm.heap.size + 1 + 1, 1, none⟩ = some (.int .i64 tb) ∧ W.cell? ⟨w5.heap.size, 0, none⟩ = some (.int .i64 va) ∧ W.cell? ⟨w5.heap.size, 1, none⟩ = some (.int .i64 vb) ∧ W.cell? (ax.add (k * 2)) = some (.int .i64 x.a) ∧ W.cell? ⟨(ax.add (k * 2)).block, (ax.add (k * 2)).off + 1, none⟩ = some (.int .i64 x.b)) (by kernel_rfl) (by kernel_rfl) rfl ?_ ?_
              · (try dsimp only)
                ((go_split_ands; refine HALL.out _ ?_; (first | assumption | (repeat (first | assumption | refine Fr.new ?_ _ | refine Fr.drew ?_ | (refine Fr.set ?_ (by first | exact Nat.le_refl _ | omega | (simp; done) | (simp; omega)) (by first | (simp; done) | (simp; omega)) _))); done)))
              refine Tw_takeL (i := 0) (v := ?tv1) rfl (by kernel_rfl) (by decide) (by kernel_rfl) (by kernel_rfl) (fun _ _ _ h => h) (by rfl) ?ty1 ?tn1
              case ty1 => (intro w hSw; (try dsimp only at hSw); go_simp <;> with_reducible rfl)
              (try simp only [Act.put, List.setIfInBounds_toArray, List.set_cons_zero, List.set_cons_succ])
              refine Tw_takeL (i := 1) (v := ?tv2) rfl (by kernel_rfl) (by decide) (by kernel_rfl) (by kernel_rfl) (fun _ _ _ h => h) (by rfl) ?ty2 ?tn2
              case ty2 => (intro w hSw; (try dsimp only at hSw); go_simp <;> with_reducible rfl)
              (try simp only [Act.put, List.setIfInBounds_toArray, List.set_cons_zero, List.set_cons_succ])
              refine Tw_takeL (i := 2) (v := ?tv3) rfl (by kernel_rfl) (by decide) (by kernel_rfl) (by kernel_rfl) (fun _ _ _ h => h) (by rfl) ?ty3 ?tn3
              case ty3 => (intro w hSw; (try dsimp only at hSw); go_simp <;> with_reducible rfl)
              (try simp only [Act.put, List.setIfInBounds_toArray, List.set_cons_zero, List.set_cons_succ])
              refine Tw_takeL (i := 3) (v := ?tv4) rfl (by kernel_rfl) (by decide) (by kernel_rfl) (by kernel_rfl) (fun _ _ _ h => h) (by rfl) ?ty4 ?tn4
              case ty4 => (intro w hSw; (try dsimp only at hSw); go_simp <;> with_reducible rfl)
              (try simp only [Act.put, List.setIfInBounds_toArray, List.set_cons_zero, List.set_cons_succ])
              refine Tw_takeL (i := 4) (v := ?tv5) rfl (by kernel_rfl) (by decide) (by kernel_rfl) (by kernel_rfl) (fun _ _ _ h => h) (by rfl) ?ty5 ?tn5
              case ty5 => (intro w hSw; (try dsimp only at hSw); go_simp <;> with_reducible rfl)
              (try simp only [Act.put, List.setIfInBounds_toArray, List.set_cons_zero, List.set_cons_succ])
              refine Tw_takeL (i := 6) (v := ?tv6) rfl (by kernel_rfl) (by decide) (by kernel_rfl) (by kernel_rfl) (fun _ _ _ h => h) (by rfl) ?ty6 ?tn6
              case ty6 => (intro w hSw; (try dsimp only at hSw); go_simp <;> with_reducible rfl)
              (try simp only [Act.put, List.setIfInBounds_toArray, List.set_cons_zero, List.set_cons_succ])
              refine Tw_takeL (i := 7) (v := ?tv7) rfl (by kernel_rfl) (by decide) (by kernel_rfl) (by kernel_rfl) (fun _ _ _ h => h) (by rfl) ?ty7 ?tn7
              case ty7 => (intro w hSw; (try dsimp only at hSw); go_simp <;> with_reducible rfl)
              (try simp only [Act.put, List.setIfInBounds_toArray, List.set_cons_zero, List.set_cons_succ])
              refine Tw_takeL (i := 8) (v := ?tv8) rfl (by kernel_rfl) (by decide) (by kernel_rfl) (by kernel_rfl) (fun _ _ _ h => h) (by rfl) ?ty8 ?tn8
              case ty8 => (intro w hSw; (try dsimp only at hSw); go_simp <;> with_reducible rfl)
              (try simp only [Act.put, List.setIfInBounds_toArray, List.set_cons_zero, List.set_cons_succ])
              refine Tw_takeL (i := 9) (v := ?tv9) rfl (by kernel_rfl) (by decide) (by kernel_rfl) (by kernel_rfl) (fun _ _ _ h => h) (by rfl) ?ty9 ?tn9
              case ty9 => (intro w hSw; (try dsimp only at hSw); go_simp <;> with_reducible rfl)
              (try simp only [Act.put, List.setIfInBounds_toArray, List.set_cons_zero, List.set_cons_succ])
              refine Tw_takeL (i := 10) (v := ?tv10) rfl (by kernel_rfl) (by decide) (by kernel_rfl) (by kernel_rfl) (fun _ _ _ h => h) (by rfl) ?ty10 ?tn10
              case ty10 => (intro w hSw; (try dsimp only at hSw); go_simp <;> with_reducible rfl)
              (try simp only [Act.put, List.setIfInBounds_toArray, List.set_cons_zero, List.set_cons_succ])
              refine Tw_takeL (i := 11) (v := ?tv11) rfl (by kernel_rfl) (by decide) (by kernel_rfl) (by kernel_rfl) (fun _ _ _ h => h) (by rfl) ?ty11 ?tn11
              case ty11 => (intro w hSw; (try dsimp only at hSw); go_simp <;> with_reducible rfl)
              (try simp only [Act.put, List.setIfInBounds_toArray, List.set_cons_zero, List.set_cons_succ])
              refine Tw_takeL (i := 12) (v := ?tv12) rfl (by kernel_rfl) (by decide) (by kernel_rfl) (by kernel_rfl) (fun _ _ _ h => h) (by rfl) ?ty12 ?tn12
              case ty12 => (intro w hSw; (try dsimp only at hSw); go_simp <;> with_reducible rfl)
              (try simp only [Act.put, List.setIfInBounds_toArray, List.set_cons_zero, List.set_cons_succ])
              refine Tw_takeL (i := 13) (v := ?tv13) rfl (by kernel_rfl) (by decide) (by kernel_rfl) (by kernel_rfl) (fun _ _ _ h => h) (by rfl) ?ty13 ?tn13
              case ty13 => (intro w hSw; (try dsimp only at hSw); go_simp <;> with_reducible rfl)
              (try simp only [Act.put, List.setIfInBounds_toArray, List.set_cons_zero, List.set_cons_succ])
              refine Tw_takeL (i := 14) (v := ?tv14) rfl (by kernel_rfl) (by decide) (by kernel_rfl) (by kernel_rfl) (fun _ _ _ h => h) (by rfl) ?ty14 ?tn14
              case ty14 => (intro w hSw; (try dsimp only at hSw); go_simp <;> with_reducible rfl)
              (try simp only [Act.put, List.setIfInBounds_toArray, List.set_cons_zero, List.set_cons_succ])
              refine Tw_takeL (i := 15) (v := ?tv15) rfl (by kernel_rfl) (by decide) (by kernel_rfl) (by kernel_rfl) (fun _ _ _ h => h) (by rfl) ?ty15 ?tn15
              case ty15 => (intro w hSw; (try dsimp only at hSw); go_simp <;> with_reducible rfl)
              (try simp only [Act.put, List.setIfInBounds_toArray, List.set_cons_zero, List.set_cons_succ])
              refine Tw_all (rs := [5]) (by kernel_rfl) (by simp) (by decide) (fun hHeld => ?_)
              refine AllT.consL rfl (fun K hK => ?_) AllT.nil
              go_simp
              ((go_at_call 22; go_split_ands; (with_reducible refine (HTA.out _).mono ?_); rintro e w7 ⟨rfl, hb7⟩; have F4 := Fr.call (by assumption) hb7; have K1 := Bk.call (by first | assumption | exact Bk.drew (by assumption) : Bk _ (wm.heap.size + 1) 25 #[.int .i64 sa, .int .i64 sb]) hb7; have K2 := Bk.call (by first | assumption | exact Bk.drew (by assumption) : Bk _ (wm.heap.size + 1 + 1) 25 #[.int .i64 ta, .int .i64 tb]) hb7; obtain ⟨q0, q1, q2, q3⟩ := K1.two; obtain ⟨r0, r1, r2, r3⟩ := K2.two; clear hb7))
              refine hK.out _ _ ?_ ?_
              · (try dsimp only)
                ((go_split_ands; refine HALL.out _ ?_; (first | assumption | (repeat (first | assumption | refine Fr.new ?_ _ | refine Fr.drew ?_ | (refine Fr.set ?_ (by first | exact Nat.le_refl _ | omega | (simp; done) | (simp; omega)) (by first | (simp; done) | (simp; omega)) _))); done)))
              clear hK K
              (try simp only [Act.put, List.setIfInBounds_toArray, List.set_cons_zero, List.set_cons_succ])
              refine Tw_all (rs := [16]) (by kernel_rfl) (by simp) (by decide) (fun hHeld => ?_)
              refine AllT.consL rfl (fun K hK => ?_) AllT.nil
              go_simp
              ((go_at_call 22; go_split_ands; (with_reducible refine (HTB.out _).mono ?_); rintro e w7 ⟨rfl, hb7⟩; have F4 := Fr.call (by assumption) hb7; have K1 := Bk.call (by first | assumption | exact Bk.drew (by assumption) : Bk _ (wm.heap.size + 1) 25 #[.int .i64 sa, .int .i64 sb]) hb7; have K2 := Bk.call (by first | assumption | exact Bk.drew (by assumption) : Bk _ (wm.heap.size + 1 + 1) 25 #[.int .i64 ta, .int .i64 tb]) hb7; obtain ⟨q0, q1, q2, q3⟩ := K1.two; obtain ⟨r0, r1, r2, r3⟩ := K2.two; clear hb7))
              refine hK.out _ _ ?_ ?_
              · (try dsimp only)
                ((go_split_ands; refine HALL.out _ ?_; (first | assumption | (repeat (first | assumption | refine Fr.new ?_ _ | refine Fr.drew ?_ | (refine Fr.set ?_ (by first | exact Nat.le_refl _ | omega | (simp; done) | (simp; omega)) (by first | (simp; done) | (simp; omega)) _))); done)))
              clear hK K
              (try simp only [Act.put, List.setIfInBounds_toArray, List.set_cons_zero, List.set_cons_succ])
              refine Tw_end (by kernel_rfl) (fun hh => ?_)
              obtain ⟨F11, _⟩ := hh
              clear HALL
              have L1 := F11.at2
              have L2 := F11.at1
              obtain ⟨q0, q1, q2, q3⟩ := L1.two
              obtain ⟨r0, r1, r2, r3⟩ := L2.two
              go_wp2_with fail
              go_meet
              exact ⟨rfl, Fr.store2 F11 (by omega) (by omega) (by omega) (by omega) (by omega) (by omega) (by omega)⟩
            case rest =>
              obtain ⟨wx, rfl⟩ : ∃ W, W = wc := ⟨_, rfl⟩
              obtain ⟨rfl, hx⟩ := hcut
              have F12 : Hid (Fr wm _ ((w5.heap.size, 25, #[.int .i64 va, .int .i64 vb]) :: [(wm.heap.size + 1 + 1, 25, #[.int .i64 nta, .int .i64 ntb]), (wm.heap.size + 1, 25, #[.int .i64 nsa, .int .i64 nsb]), (wm.heap.size, 41, #[.slice (some a1) ws.length c1, .slice (some a2) ws.length c2])])) := Lib.hid hx
              clear hx F5 K1 K2 q0 q1 q2 q3 r0 r1 r2 r3
              have K3 := F12.out.get 3 rfl
              obtain ⟨q0, q1, _, _⟩ := K3.two
              have HALL : Hid (∀ W, Fr wm W ((w5.heap.size, 25, #[.int .i64 va, .int .i64 vb]) :: [(wm.heap.size + 1 + 1, 25, #[.int .i64 nta, .int .i64 ntb]), (wm.heap.size + 1, 25, #[.int .i64 nsa, .int .i64 nsb]), (wm.heap.size, 41, #[.slice (some a1) ws.length c1, .slice (some a2) ws.length c2])]) → Fr wm W ((w5.heap.size, 25, #[.int .i64 va, .int .i64 vb]) :: [(wm.heap.size + 1 + 1, 25, #[.int .i64 nta, .int .i64 ntb]), (wm.heap.size + 1, 25, #[.int .i64 nsa, .int .i64 nsb]), (wm.heap.size, 41, #[.slice (some a1) ws.length c1, .slice (some a2) ws.length c2])]) ∧ W.cell? ⟨wm.heap.size + 1, 0, none⟩ = some (.int .i64 nsa) ∧ W.cell? ⟨wm.heap.size + 1, 1, none⟩ = some (.int .i64 nsb) ∧ W.cell? ⟨wm.heap.size + 1 + 1, 0, none⟩ = some (.int .i64 nta) ∧ W.cell? ⟨wm.heap.size + 1 + 1, 1, none⟩ = some (.int .i64 ntb) ∧ W.cell? ⟨wm.heap.size, 1, none⟩ = some (.slice (some a2) ws.length c2) ∧ W.cell? (a2.add (k * 2)) = some (.int .i64 la) ∧ W.cell? ⟨(a2.add (k * 2)).block, (a2.add (k * 2)).off + 1, none⟩ = some (.int .i64 lb)) := Lib.hid (fun W hW => ⟨hW, hW.at2.cell 0, hW.at2.cell 1, hW.at1.cell 0, hW.at1.cell 1, (hW.get 3 rfl).cell 1, HCL.out W hW.bl⟩)
              go_upto_region 24 with fail
              have F13 : Fr wm _ ((w5.heap.size, 25, #[.int .i64 va, .int .i64 vb]) :: [(wm.heap.size + 1 + 1, 25, #[.int .i64 nta, .int .i64 ntb]), (wm.heap.size + 1, 25, #[.int .i64 nsa, .int .i64 nsb]), (wm.heap.size, 41, #[.slice (some a1) ws.length c1, .slice (some a2) ws.length c2])]) := F12.out
              clear F12
              go_region_held3 (fun W => Fr wm W ((w5.heap.size, 25, #[.int .i64 va, .int .i64 vb]) :: [(wm.heap.size + 1 + 1, 25, #[.int .i64 nta, .int .i64 ntb]), (wm.heap.size + 1, 25, #[.int .i64 nsa, .int .i64 nsb]), (wm.heap.size, 41, #[.slice (some a1) ws.length c1, .slice (some a2) ws.length c2])]) ∧ W.cell? ⟨wm.heap.size + 1, 0, none⟩ = some (.int .i64 nsa) ∧ W.cell? ⟨wm.heap.size + 1, 1, none⟩ = some (.int .i64 nsb) ∧ W.cell? ⟨wm.heap.size + 1 + 1, 0, none⟩ = some (.int .i64 nta) ∧ W.cell? ⟨wm.heap.size + 1 + 1, 1, none⟩ = some (.int .i64 ntb) ∧ W.cell? ⟨wm.heap.size, 1, none⟩ = some (.slice (some a2) ws.length c2) ∧ W.cell? (a2.add (k * 2)) = some (.int .i64 la) ∧ W.cell? ⟨(a2.add (k * 2)).block, (a2.add (k * 2)).off + 1, none⟩ = some (.int .i64 lb))
                ((go_split_ands; refine HALL.out _ ?_; (first | assumption | (repeat (first | assumption | refine Fr.new ?_ _ | refine Fr.drew ?_ | (refine Fr.set ?_ (by first | exact Nat.le_refl _ | omega | (simp; done) | (simp; omega)) (by first | (simp; done) | (simp; omega)) _))); done)))
                ((go_at_call 23; go_split_ands; (with_reducible refine (HTS.out _).mono ?_); rintro e w8 ⟨rfl, hb8⟩; have F14 := Fr.call (by assumption) hb8; clear hb8))
              rename_i hh
              obtain ⟨F15, _⟩ := hh
              have F16 := Lib.hid F15
              clear F15 HALL K3 q0 q1
              cases nr with
              | false =>
                go_wp2_with fail
                go_roundw
                case rel => exact ⟨k + 1, by omega, by go_num, by rw [HN1.out, HN2.out, HN3.out, HN4.out]; exact F16.out.tail⟩
                case measure => simp [intOf]; omega
              | true =>
                have K3 := F16.out.get 3 rfl
                obtain ⟨q0, q1, _, _⟩ := K3.two
                obtain ⟨lc0, lc1⟩ := HCL.out _ F16.out.bl
                go_wp2_with fail
                refine (HIS.out (by simp) _).mono ?_
                rintro e w9 ⟨rfl, hb9⟩
                have F17 := Lib.hid (F16.out.call hb9)
                clear hb9 K3 q0 q1 lc0 lc1 F16
                go_wp2_with fail
                go_roundw
                case rel => exact ⟨k + 1, by omega, by go_num, by rw [HN1.out, HN2.out, HN3.out, HN4.out]; exact F17.out.tail⟩
                case measure => simp [intOf]; omega
          · obtain rfl : k = ws.length := by omega
            go_wp2_with fail
            go_ret
            exact ⟨rfl, Below.step BW.out FK.out.bl⟩
      · rw [HAL.out] at hno
        cases hno

theorem StatorRest_any (M : Int) (ws : List T3) (g : Hd) (hg : HdOk g) (hm : ws.length ≤ maxLen) (w : World) (hT : Tab w) (hA : Lies w w.heap.size g.A (ws.flatMap tc)) : Calls Tryd.prog 4 #[.int .i64 M, .slice g.A ws.length g.c] w fun e w' => e = .returned (.bool true) ∧ Below w.heap.size w w' := by
  by_cases hl : ws.length ≤ 20
  · by_cases he : wntE M ws = 0
    · have hM : inB M 1 100000 = true := by
        cases h : inB M 1 100000 with
        | true => rfl
        | false => unfold wntE at he; rw [if_neg (by rw [h]; simp)] at he; omega
      refine rest_ok M ws g hg hl hM (vsE_iff.1 ?_) w hT hA
      unfold wntE at he
      rwa [if_pos hM] at he
    · exact rest_bad M ws g hl _ rfl he w hT hA
  · exact rest_long M ws g hl hm w hT
end Go.Proofs.YtjpfchhmljkkhaaDoor
