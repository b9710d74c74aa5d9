
/-
  The walk of TopStatorPulsesDrive.
-/
import Derived.Test.YtohldmmfnjfgmaaDoorTTopA
import Derived.Test.YtohldmmfnjfgmaaDoorTRsW
namespace Go.Proofs.YtohldmmfnjfgmaaDoor
open Go.RowKit

theorem forceOf_ok (c f : T3) (hc : okT c = true) (hf : okT f = true) (w : World) : Calls Tryd.prog 48 #[(.agg #[.int .i64 c.a, .int .i64 c.b]), (.agg #[.int .i64 f.a, .int .i64 f.b])] w fun e w' => e = .returned (.tuple #[.int .i64 (forceV c f), .int .i64 0]) ∧ Below w.heap.size w w' := by
  have h := ForceOf_any c f w
  have h0 : vsE [c, f] = 0 := by rw [vs2, if_pos ⟨hc, hf⟩]
  rw [if_pos h0, h0] at h
  exact h
theorem Fr.base {w W W' : World} {bs : List (Nat × TypeId × Array Value)} (h : Fr w W bs) (hb : Below W.heap.size W W') : Fr W W' bs := ⟨hb, fun b hm => (h.bk b hm).call hb⟩

set_option maxHeartbeats 2000000 in
set_option maxRecDepth 100000 in
theorem drive_out (M : Int) (ws : List T3) (g : Hd) (fl : T3) (h : inB M 1 1000 = false ∨ 20 < ws.length ∨ smT fl = false) (hm : ws.length ≤ maxLen) (w : World) (hT : Tab w) : Calls Tryd.prog 8 #[.int .i64 M, .slice g.A ws.length g.c, (.agg #[.int .i64 fl.a, .int .i64 fl.b])] w fun e w' => e = .returned (.bool true) ∧ Below w.heap.size w w' := by
  unfold maxLen at hm
  have F0 := Lib.hid (Fr.b1 w 24 #[.int .i64 fl.a, .int .i64 fl.b])
  have T0 := Lib.hid (hT.new (.cells #[.int .i64 fl.a, .int .i64 fl.b] 24))
  clear hT
  cases hM : inB M 1 1000 with
  | false =>
    have HM := Lib.hid hM
    clear hM h
    go_enter Tryd.func8, Tryd.ntmps8
    go_wp2_with fail
    refine (topAwake_any _ T0.out).mono ?_
    rintro e w1 ⟨rfl, hb1⟩
    have F1 := Lib.hid (F0.out.call hb1)
    obtain ⟨f0, f1, _, _⟩ := F1.out.top.two
    clear hb1 F0
    go_wp2_with (go_at_call 18; refine (Within_any _ _ _ _).mono ?_; rintro e w' ⟨rfl, rfl⟩; rw [HM.out])
    go_ret
    exact ⟨rfl, F1.out.bl⟩
  | true =>
    have HM := Lib.hid hM
    by_cases hl : 20 < ws.length
    · have gl : (20 : Int) < (ws.length : Int) := by omega
      clear hM h
      go_enter Tryd.func8, Tryd.ntmps8
      go_wp2_with fail
      refine (topAwake_any _ T0.out).mono ?_
      rintro e w1 ⟨rfl, hb1⟩
      have F1 := Lib.hid (F0.out.call hb1)
      obtain ⟨f0, f1, _, _⟩ := F1.out.top.two
      clear hb1 F0
      go_wp2_with (go_at_call 18; refine (Within_any _ _ _ _).mono ?_; rintro e w' ⟨rfl, rfl⟩; rw [HM.out])
      go_ret
      exact ⟨rfl, F1.out.bl⟩
    · have gl : ¬ (20 : Int) < (ws.length : Int) := by omega
      have hf : smT fl = false := by
        rcases h with h | h | h
        · rw [hM] at h; cases h
        · exact absurd h hl
        · exact h
      have HF := Lib.hid hf
      clear hM h hf hl
      go_enter Tryd.func8, Tryd.ntmps8
      go_wp2_with fail
      refine (topAwake_any _ T0.out).mono ?_
      rintro e w1 ⟨rfl, hb1⟩
      have F1 := Lib.hid (F0.out.call hb1)
      obtain ⟨f0, f1, _, _⟩ := F1.out.top.two
      clear hb1 F0
      go_wp2_with (go_at_call 18; refine (Within_any _ _ _ _).mono ?_; rintro e w' ⟨rfl, rfl⟩; rw [HM.out])
      refine (statorSmall_any fl _).mono ?_
      rintro e w2 ⟨rfl, hb2⟩
      rw [HF.out]
      have F2 := Lib.hid (F1.out.call hb2)
      clear hb2 F1 f0 f1
      go_wp2_with fail
      go_ret
      exact ⟨rfl, F2.out.bl⟩

set_option maxHeartbeats 8000000 in
set_option maxRecDepth 100000 in
theorem drive_ok (M : Int) (ws : List T3) (g : Hd) (hg : HdOk g) (fl : T3) (hM : inB M 1 1000 = true) (hl : ws.length ≤ 20) (hf : smT fl = true) (w : World) (hT : Tab w) (hA : Lies w w.heap.size g.A (ws.flatMap tc)) : Calls Tryd.prog 8 #[.int .i64 M, .slice g.A ws.length g.c, (.agg #[.int .i64 fl.a, .int .i64 fl.b])] w fun e w' => e = .returned (.bool true) ∧ Below w.heap.size w w' := by
  have gl : ¬ (20 : Int) < (ws.length : Int) := by omega
  have gl2 : (ws.length : Int) ≤ 20 := by omega
  have F0 := Lib.hid (Fr.b1 w 24 #[.int .i64 fl.a, .int .i64 fl.b])
  have T0 := Lib.hid (hT.new (.cells #[.int .i64 fl.a, .int .i64 fl.b] 24))
  have TW := Lib.hid hT
  have HA := Lib.hid hA
  have HG := Lib.hid hg
  have HM := Lib.hid hM
  have HF := Lib.hid hf
  have HFO := Lib.hid (smT_ok hf)
  have HFB := Lib.hid (smT_iff.1 hf)
  obtain ⟨m0, m1⟩ := inB_iff.1 hM
  have HM5 : Hid (inB M 1 100000 = true) := Lib.hid (inB_iff.2 (by omega))
  clear hT hA hg hM hf
  go_enter Tryd.func8, Tryd.ntmps8
  go_wp2_with fail
  refine (topAwake_any _ T0.out).mono ?_
  rintro e w1 ⟨rfl, hb1⟩
  have F1 := Lib.hid (F0.out.call hb1)
  obtain ⟨f0, f1, _, _⟩ := F1.out.top.two
  clear hb1 F0 T0
  go_wp2_with (go_at_call 18; refine (Within_any _ _ _ _).mono ?_; rintro e w' ⟨rfl, rfl⟩; rw [HM.out])
  refine (statorSmall_any fl _).mono ?_
  rintro e w2 ⟨rfl, hb2⟩
  rw [HF.out]
  have F2 := Lib.hid (F1.out.call hb2)
  clear hb2 F1 f0 f1
  go_wp2_with fail
  go_loopw [7, 8] (fun s i wr => ∃ k : Nat, k ≤ ws.length ∧ i = .int .i64 k ∧ s = .bool ((ws.take k).all (nearB M)) ∧ (ws.take k).all smT = true ∧ Fr w wr [(w.heap.size, 24, #[.int .i64 fl.a, .int .i64 fl.b])]) (fun _ i _ => ws.length - (intOf i).toNat)
  case atStart => exact ⟨0, Nat.zero_le _, rfl, rfl, rfl, F2.out⟩
  case round =>
    obtain ⟨k, hk, rfl, rfl, hsm, hfr⟩ := hrel
    have FK := Lib.hid hfr
    have HS := Lib.hid hsm
    clear hfr hsm F2
    by_cases hlt : k < ws.length
    · obtain ⟨x, hx⟩ : ∃ x, ws[k]? = some x := ⟨_, List.getElem?_eq_getElem hlt⟩
      have HX := Lib.hid hx
      have hlt' : (k : Int) < (ws.length : Int) := by omega
      obtain ⟨a, ea, hab, ca, cb⟩ := (Fr.lies HA.out FK.out).third hx
      have HT2 : Hid (∀ W, Fr w W [(w.heap.size, 24, #[.int .i64 fl.a, .int .i64 fl.b])] → W.cell? (a.add (k * 2)) = some (.int .i64 x.a) ∧ W.cell? ⟨(a.add (k * 2)).block, (a.add (k * 2)).off + 1, none⟩ = some (.int .i64 x.b)) := Lib.hid (fun W hW => by
        obtain ⟨a', ea', _, c1, c2⟩ := (Fr.lies HA.out hW).third hx
        rw [ea] at ea'; cases ea'
        exact ⟨c1, c2⟩)
      have HK : Hid ((ws.take (k + 1)).all (nearB M) = ((ws.take k).all (nearB M) && nearB M x)) := Lib.hid (by rw [take_snoc hx, List.all_append]; simp)
      have HK2 : Hid ((ws.take (k + 1)).all smT = ((ws.take k).all smT && smT x)) := Lib.hid (by rw [take_snoc hx, List.all_append]; simp)
      obtain ⟨nb, hnb⟩ : ∃ b, (ws.take k).all (nearB M) = b := ⟨_, rfl⟩
      rw [hnb] at HK
      rw [hnb]
      clear hnb hx hk
      obtain ⟨GA, gc⟩ := g
      simp only at ea
      subst ea
      cases hs : smT x with
      | false =>
        have HSX := Lib.hid hs
        clear hs
        go_wp2_with fail
        refine (statorSmall_any x _).mono ?_
        rintro e w3 ⟨rfl, hb3⟩
        rw [HSX.out]
        have F3 := Lib.hid (FK.out.call hb3)
        clear hb3 FK ca cb
        go_wp2_with fail
        go_ret
        exact ⟨rfl, F3.out.bl⟩
      | true =>
        have HSX := Lib.hid hs
        have HBX := Lib.hid ((okT_bd (smT_ok hs)).more (K := 100000000) (by omega))
        obtain ⟨xb, hxb⟩ : ∃ b, nearB M x = b := ⟨_, rfl⟩
        have HXB := Lib.hid hxb
        rw [hxb] at HK
        clear hs hxb
        cases nb with
        | false =>
          go_wp2_with fail
          refine (statorSmall_any x _).mono ?_
          rintro e w3 ⟨rfl, hb3⟩
          rw [HSX.out]
          have F3 := Lib.hid (FK.out.call hb3)
          clear hb3 FK ca cb
          go_wp2_with fail
          go_roundw
          case rel => exact ⟨k + 1, by omega, by go_num, by rw [HK.out] <;> rfl, by rw [HK2.out, HS.out, HSX.out] <;> rfl, F3.out⟩
          case measure => simp [intOf]; omega
        | true =>
          go_wp2_with fail
          refine (statorSmall_any x _).mono ?_
          rintro e w3 ⟨rfl, hb3⟩
          rw [HSX.out]
          have F3 := Lib.hid (FK.out.call hb3)
          clear hb3 FK ca cb
          obtain ⟨ca, cb⟩ := HT2.out _ F3.out
          go_wp2_with fail
          refine (refIsNear_any M ⟨by omega, by omega⟩ x HBX.out _).mono ?_
          rintro e w4 ⟨rfl, hb4⟩
          rw [HXB.out]
          have F4 := Lib.hid (F3.out.call hb4)
          clear hb4 F3 ca cb
          go_wp2_with fail
          go_roundw
          case rel => exact ⟨k + 1, by omega, by go_num, by rw [HK.out] <;> rfl, by rw [HK2.out, HS.out, HSX.out] <;> rfl, F4.out⟩
          case measure => simp [intOf]; omega
    · obtain rfl : k = ws.length := by omega
      rw [List.take_length]
      obtain ⟨nr, hnr⟩ : ∃ b, ws.all (nearB M) = b := ⟨_, rfl⟩
      rw [hnr]
      have HNR := Lib.hid hnr
      have HS' : Hid (∀ x ∈ ws, smT x = true) := Lib.hid (by have := HS.out; rw [List.take_length, List.all_eq_true] at this; exact this)
      clear hnr hlt HS
      go_wp2_with fail
      refine (CopyVectors_any ws g (by omega) HG.out _ (Fr.lies HA.out FK.out)).mono ?_
      rintro e w3 ⟨g2, rfl, hl2, _, _, hb3⟩
      have F3 := Lib.hid (FK.out.call hb3)
      have HL2 := Lib.hid hl2
      clear hb3 hl2 FK
      go_wp2_with fail
      refine (Modulated_any M HM5.out ws _ _ (by omega) _ (TW.out.call F3.out.bl) HL2.out).mono ?_
      rintro e wm ⟨hp, hb4⟩
      have F4 := Lib.hid (F3.out.call hb4)
      rcases hp with ⟨_, A1, c1, A2, c2, rfl, hs, hlf⟩ | ⟨hno, _⟩
      · have LS := Lib.hid hs
        have LL := Lib.hid hlf
        have TM := Lib.hid (TW.out.call F4.out.bl)
        have LW := Lib.hid (Fr.lies HA.out F4.out)
        have BW := Lib.hid F4.out.bl
        have FM : Hid (Fr wm _ [(wm.heap.size, 56, #[.slice A1 ws.length c1, .slice A2 ws.length c2]), (w.heap.size, 24, #[.int .i64 fl.a, .int .i64 fl.b])]) := Lib.hid ((F4.out.base (Below.refl _ _)).box 56 #[.slice A1 ws.length c1, .slice A2 ws.length c2])
        obtain ⟨p0, p1, _, _⟩ := FM.out.top.two
        clear hs hlf hb4 F3 F4 HL2
        go_wp2_with fail
        clear p0 p1
        go_loopw [11, 12, 13] (fun s d i wr => ∃ k : Nat, k ≤ ws.length ∧ i = .int .i64 k ∧ s = .int .i64 (forceV (sumT (ws.take k)) fl) ∧ d = .int .i64 (forceV (sentV M ws k) fl) ∧ Fr wm wr [(wm.heap.size, 56, #[.slice A1 ws.length c1, .slice A2 ws.length c2]), (w.heap.size, 24, #[.int .i64 fl.a, .int .i64 fl.b])]) (fun _ _ i _ => ws.length - (intOf i).toNat)
        case atStart => exact ⟨0, Nat.zero_le _, rfl, by rw [List.take_zero]; exact congrArg (Value.int .i64) (force_zero fl).symm, congrArg (Value.int .i64) (force_zero fl).symm, FM.out⟩
        case round =>
          obtain ⟨k, hk, rfl, rfl, rfl, hfr⟩ := hrel
          have FK := Lib.hid hfr
          clear hfr FM
          by_cases hlt : k < ws.length
          · obtain ⟨x, hx⟩ : ∃ x, ws[k]? = some x := ⟨_, List.getElem?_eq_getElem hlt⟩
            have hlt' : (k : Int) < (ws.length : Int) := by omega
            obtain ⟨ax, ex, hxb, xc0, xc1⟩ := LW.out.third hx
            obtain ⟨a1, rfl, h1b, sc0⟩ := (Fr.lies LS.out FK.out).num (sts_at (M := M) hlt)
            obtain ⟨a2, rfl, h2b, lc0, lc1⟩ := LL.out.third (lft_at (M := M) hlt)
            have hxb' : (ax.add (k * 2)).block < wm.heap.size := by rw [add_blk]; exact hxb
            have h2b' : (a2.add (k * 2)).block < wm.heap.size := by rw [add_blk]; exact h2b
            have hsx := smT_iff.1 (HS'.out x (List.mem_of_getElem? hx))
            have hox := smT_ok (HS'.out x (List.mem_of_getElem? hx))
            obtain ⟨e1, e2, e3⟩ := drive_step (M := M) (f := fl) (show k + 1 ≤ ws.length by omega) hx
            have bl := left_bd (M := M) ⟨by omega, by omega⟩ HS'.out (by omega) (k + 1)
            have bs1 := sumT_bd ws (fun x hx => smT_ok (HS'.out x hx)) k (by omega)
            have bt1 := sent_bd (M := M) ⟨by omega, by omega⟩ ws k
            obtain ⟨⟨v0, v1⟩, v2, v3⟩ := stV_in (stAt M ws k)
            have hst := stAt_lt M ws k
            have hsm := scl_in (M := M) (by omega) v0 v1
            have hsn := scl_in (M := M) (by omega) v2 v3
            have HST : Hid ((stsV M ws)[k]? = some (stAt M ws k : Int)) := Lib.hid (sts_at hlt)
            have HTAB : Hid (∀ w, Tab w → Calls Tryd.prog 20 #[.int .i64 (stAt M ws k : Int)] w fun e w' => e = .returned (.tuple #[.agg #[.int .i64 (stV (stAt M ws k)).a, .int .i64 (stV (stAt M ws k)).b], .int .i64 0]) ∧ Below w.heap.size w w') := Lib.hid (fun w h => StateVector_ok _ hst w h)
            have HF1 := Lib.hid (forceOf_ok x fl hox HFO.out)
            have hF2 := forceOf_ok ⟨M * (stV (stAt M ws k)).a, M * (stV (stAt M ws k)).b⟩ fl (okT_iff.2 (by simp only; omega)) HFO.out
            simp only at hF2
            have HF2 := Lib.hid hF2
            clear hF2
            have HF3 := Lib.hid (forceOf_ok (leftV M T3.zero (ws.take (k + 1))) fl (okT_iff.2 (by omega)) HFO.out)
            have b1 := force_in (A := 2000000) (B := 1000) (by omega : (-2000000 ≤ (sumT (ws.take k)).a ∧ (sumT (ws.take k)).a ≤ 2000000) ∧ -2000000 ≤ (sumT (ws.take k)).b ∧ (sumT (ws.take k)).b ≤ 2000000) HFB.out
            have b2 := force_in (A := 2000000) (B := 1000) (by omega : (-2000000 ≤ (sentV M ws k).a ∧ (sentV M ws k).a ≤ 2000000) ∧ -2000000 ≤ (sentV M ws k).b ∧ (sentV M ws k).b ≤ 2000000) HFB.out
            have b3 := force_in (A := 1000) (B := 1000) hsx HFB.out
            have b4 := force_in (c := ⟨M * (stV (stAt M ws k)).a, M * (stV (stAt M ws k)).b⟩) (A := 1000) (B := 1000) (by simp only; omega) HFB.out
            have b5 := force_in (A := 40000) (B := 1000) bl HFB.out
            have HNR2 : Hid (nr = true → ((-2000000 ≤ forceV (leftV M T3.zero (ws.take (k + 1))) fl ∧ forceV (leftV M T3.zero (ws.take (k + 1))) fl ≤ 2000000) ∧ 9 * (forceV (leftV M T3.zero (ws.take (k + 1))) fl * forceV (leftV M T3.zero (ws.take (k + 1))) fl) ≤ 4 * (M * M) * fl.nrm)) := Lib.hid (fun h => by
              have hn := left_near (M := M) (xs := ws) (by omega) (by rw [HNR.out]; exact h) (k + 1)
              have hp := near_parts hn
              refine ⟨?_, near_drive hn⟩
              have := force_in (A := 1000) (B := 1000) (by omega : (-1000 ≤ (leftV M T3.zero (ws.take (k + 1))).a ∧ (leftV M T3.zero (ws.take (k + 1))).a ≤ 1000) ∧ -1000 ≤ (leftV M T3.zero (ws.take (k + 1))).b ∧ (leftV M T3.zero (ws.take (k + 1))).b ≤ 1000) HFB.out
              omega)
            have hwa : inB (stV (stAt M ws k)).a (-1) 1 = true := inB_iff.2 (by omega)
            have hwb : inB (stV (stAt M ws k)).b (-1) 1 = true := inB_iff.2 (by omega)
            have hwc : inB (leftV M T3.zero (ws.take (k + 1))).a (-100000) 100000 = true := inB_iff.2 (by omega)
            have hwd : inB (leftV M T3.zero (ws.take (k + 1))).b (-100000) 100000 = true := inB_iff.2 (by omega)
            have HE1 := Lib.hid e1
            have HE2 := Lib.hid e2
            have HE3 := Lib.hid e3
            clear e1 e2 e3 bl bs1 bt1 v0 v1 v2 v3 hx hsx hox
            generalize hQ : forceV (leftV M T3.zero (ws.take (k + 1))) fl = q at *
            generalize hNS : forceV (sumT (ws.take (k + 1))) fl = ns at *
            generalize hND : forceV (sentV M ws (k + 1)) fl = nd at *
            generalize hFX : forceV x fl = fx at *
            generalize hFM : forceV (T3.mk (M * (stV (stAt M ws k)).a) (M * (stV (stAt M ws k)).b)) fl = fm at *
            generalize hFS : forceV (sumT (ws.take k)) fl = fs at *
            generalize hFD : forceV (sentV M ws k) fl = fd at *
            clear hQ hFX hFM hFS hFD
            have HNS := Lib.hid hNS
            have HND := Lib.hid hND
            clear hNS hND
            generalize (leftV M T3.zero (ws.take (k + 1))).a = la at *
            generalize (leftV M T3.zero (ws.take (k + 1))).b = lb at *
            generalize (stV (stAt M ws k)).a = va at *
            generalize (stV (stAt M ws k)).b = vb at *
            generalize (stAt M ws k : Int) = st at *
            have wva : IntKind.i64.wrap (M * va) = M * va := IntWalk.i64_in _ ⟨by omega, by omega⟩
            have wvb : IntKind.i64.wrap (M * vb) = M * vb := IntWalk.i64_in _ ⟨by omega, by omega⟩
            have HCX : Hid (∀ W, Below wm.heap.size wm W → W.cell? (ax.add (k * 2)) = some (.int .i64 x.a) ∧ W.cell? ⟨(ax.add (k * 2)).block, (ax.add (k * 2)).off + 1, none⟩ = some (.int .i64 x.b)) := Lib.hid (fun W hb => ⟨(hb.cell hxb').trans xc0, (hb.cell (p := ⟨(ax.add (k * 2)).block, (ax.add (k * 2)).off + 1, none⟩) hxb').trans xc1⟩)
            have HCL : Hid (∀ W, Below wm.heap.size wm W → W.cell? (a2.add (k * 2)) = some (.int .i64 la) ∧ W.cell? ⟨(a2.add (k * 2)).block, (a2.add (k * 2)).off + 1, none⟩ = some (.int .i64 lb)) := Lib.hid (fun W hb => ⟨(hb.cell h2b').trans lc0, (hb.cell (p := ⟨(a2.add (k * 2)).block, (a2.add (k * 2)).off + 1, none⟩) h2b').trans lc1⟩)
            obtain ⟨GA, gc⟩ := g
            simp only at ex
            subst ex
            have WVA := Lib.hid wva
            have WVB := Lib.hid wvb
            clear xc0 xc1 lc0 lc1 hxb hxb' h1b h2b h2b' sc0 wva wvb
            have f0 := FK.out.at1.cell 0
            have f1 := FK.out.at1.cell 1
            obtain ⟨x0, x1⟩ := HCX.out _ FK.out.bl
            go_upto_region 19 with fail
            go_cut [14, 15] from 89 to 97 (fun r u W => r = .int .i64 fx ∧ u = .int .i64 0 ∧ Fr wm W [(wm.heap.size, 56, #[.slice (some a1) ws.length c1, .slice (some a2) ws.length c2]), (w.heap.size, 24, #[.int .i64 fl.a, .int .i64 fl.b])])
            case first =>
              have HALL : Hid (∀ W, Fr wm W [(wm.heap.size, 56, #[.slice (some a1) ws.length c1, .slice (some a2) ws.length c2]), (w.heap.size, 24, #[.int .i64 fl.a, .int .i64 fl.b])] → Fr wm W [(wm.heap.size, 56, #[.slice (some a1) ws.length c1, .slice (some a2) ws.length c2]), (w.heap.size, 24, #[.int .i64 fl.a, .int .i64 fl.b])] ∧ W.cell? ⟨w.heap.size, 0, none⟩ = some (.int .i64 fl.a) ∧ W.cell? ⟨w.heap.size, 1, none⟩ = some (.int .i64 fl.b) ∧ W.cell? (ax.add (k * 2)) = some (.int .i64 x.a) ∧ W.cell? ⟨(ax.add (k * 2)).block, (ax.add (k * 2)).off + 1, none⟩ = some (.int .i64 x.b)) := Lib.hid (fun W hW => ⟨hW, hW.at1.cell 0, hW.at1.cell 1, HCX.out W hW.bl⟩)
              have F10 : Fr wm _ [(wm.heap.size, 56, #[.slice (some a1) ws.length c1, .slice (some a2) ws.length c2]), (w.heap.size, 24, #[.int .i64 fl.a, .int .i64 fl.b])] := FK.out
              clear FK f0 f1 x0 x1
              go_region_held3 (fun W => Fr wm W [(wm.heap.size, 56, #[.slice (some a1) ws.length c1, .slice (some a2) ws.length c2]), (w.heap.size, 24, #[.int .i64 fl.a, .int .i64 fl.b])] ∧ W.cell? ⟨w.heap.size, 0, none⟩ = some (.int .i64 fl.a) ∧ W.cell? ⟨w.heap.size, 1, none⟩ = some (.int .i64 fl.b) ∧ W.cell? (ax.add (k * 2)) = some (.int .i64 x.a) ∧ W.cell? ⟨(ax.add (k * 2)).block, (ax.add (k * 2)).off + 1, none⟩ = some (.int .i64 x.b))
                ((go_split_ands; refine HALL.out _ ?_; (first | assumption | (repeat (first | assumption | refine Fr.new ?_ _ | refine Fr.drew ?_ | (refine Fr.set ?_ (by first | exact Nat.le_refl _ | omega | (simp; done) | (simp; omega)) (by first | (simp; done) | (simp; omega)) _))); done)))
                ((go_at_call 48; go_split_ands; (with_reducible refine (HF1.out _).mono ?_); rintro e w8 ⟨rfl, hb8⟩; have F14 := Fr.call (by assumption) hb8; clear hb8))
              all_goals
                go_split_ands
                go_wp2_with fail
                go_meet
                exact ⟨rfl, rfl, by assumption⟩
            case rest =>
              obtain ⟨wx, rfl⟩ : ∃ W, W = wc := ⟨_, rfl⟩
              obtain ⟨rfl, rfl, hx⟩ := hcut
              have F12 : Hid (Fr wm _ [(wm.heap.size, 56, #[.slice (some a1) ws.length c1, .slice (some a2) ws.length c2]), (w.heap.size, 24, #[.int .i64 fl.a, .int .i64 fl.b])]) := Lib.hid hx
              clear hx FK f0 f1 x0 x1
              obtain ⟨p0, p1, _, _⟩ := F12.out.top.two
              obtain ⟨a1', ea1, _, sc0⟩ := (Fr.lies LS.out F12.out).num (HST.out)
              cases ea1
              go_wp2_with fail
              refine (HTAB.out _ (TM.out.call F12.out.bl)).mono ?_
              rintro e w5 ⟨rfl, hb5⟩
              have F5 : Hid (Fr wm _ [(w5.heap.size, 24, #[.int .i64 va, .int .i64 vb]), (wm.heap.size, 56, #[.slice (some a1) ws.length c1, .slice (some a2) ws.length c2]), (w.heap.size, 24, #[.int .i64 fl.a, .int .i64 fl.b])]) := Lib.hid (Fr.box (F12.out.call hb5) 24 #[.int .i64 va, .int .i64 vb])
              have hz5 := (F12.out.call hb5).top.lt
              clear hb5 F12 p0 p1 sc0
              have q0 := F5.out.top.cell 0
              have q1 := F5.out.top.cell 1
              have r0 := F5.out.at2.cell 0
              have r1 := F5.out.at2.cell 1
              obtain ⟨p0, p1, _, _⟩ := F5.out.at1.two
              obtain ⟨l0, l1⟩ := HCL.out _ F5.out.bl
              have z5 := F5.out.at2.lt
              go_upto_region 23 with (go_at_call 18; refine (Within_any _ _ _ _).mono ?_; rintro e w' ⟨rfl, rfl⟩; (first | rw [hwa] | rw [hwb] | rw [hwc] | rw [hwd]))
              have wva := WVA.out
              have wvb := WVB.out
              go_wp2_with fail
              refine (HF2.out _).mono ?_
              rintro e w6 ⟨rfl, hb6⟩
              have F6 : Hid (Fr wm _ [(w5.heap.size, 24, #[.int .i64 va, .int .i64 vb]), (wm.heap.size, 56, #[.slice (some a1) ws.length c1, .slice (some a2) ws.length c2]), (w.heap.size, 24, #[.int .i64 fl.a, .int .i64 fl.b])]) := Lib.hid (F5.out.call hb6)
              clear hb6 F5 q0 q1 r0 r1 p0 p1 l0 l1 z5 wva wvb hz5
              have r0 := F6.out.at2.cell 0
              have r1 := F6.out.at2.cell 1
              obtain ⟨p0, p1, _, _⟩ := F6.out.at1.two
              obtain ⟨l0, l1⟩ := HCL.out _ F6.out.bl
              go_upto_region 24 with fail
              go_cut [20, 21] from 159 to 168 (fun r u W => r = .int .i64 q ∧ u = .int .i64 0 ∧ Fr wm W [(w5.heap.size, 24, #[.int .i64 va, .int .i64 vb]), (wm.heap.size, 56, #[.slice (some a1) ws.length c1, .slice (some a2) ws.length c2]), (w.heap.size, 24, #[.int .i64 fl.a, .int .i64 fl.b])])
              case first =>
                have HALL : Hid (∀ W, Fr wm W [(w5.heap.size, 24, #[.int .i64 va, .int .i64 vb]), (wm.heap.size, 56, #[.slice (some a1) ws.length c1, .slice (some a2) ws.length c2]), (w.heap.size, 24, #[.int .i64 fl.a, .int .i64 fl.b])] → Fr wm W [(w5.heap.size, 24, #[.int .i64 va, .int .i64 vb]), (wm.heap.size, 56, #[.slice (some a1) ws.length c1, .slice (some a2) ws.length c2]), (w.heap.size, 24, #[.int .i64 fl.a, .int .i64 fl.b])] ∧ W.cell? ⟨w.heap.size, 0, none⟩ = some (.int .i64 fl.a) ∧ W.cell? ⟨w.heap.size, 1, none⟩ = some (.int .i64 fl.b) ∧ W.cell? ⟨wm.heap.size, 1, none⟩ = some (.slice (some a2) ws.length c2) ∧ W.cell? (a2.add (k * 2)) = some (.int .i64 la) ∧ W.cell? ⟨(a2.add (k * 2)).block, (a2.add (k * 2)).off + 1, none⟩ = some (.int .i64 lb)) := Lib.hid (fun W hW => ⟨hW, hW.at2.cell 0, hW.at2.cell 1, hW.at1.cell 1, HCL.out W hW.bl⟩)
                have F10 : Fr wm _ [(w5.heap.size, 24, #[.int .i64 va, .int .i64 vb]), (wm.heap.size, 56, #[.slice (some a1) ws.length c1, .slice (some a2) ws.length c2]), (w.heap.size, 24, #[.int .i64 fl.a, .int .i64 fl.b])] := F6.out
                clear F6 r0 r1 p0 p1 l0 l1
                go_region_held3 (fun W => Fr wm W [(w5.heap.size, 24, #[.int .i64 va, .int .i64 vb]), (wm.heap.size, 56, #[.slice (some a1) ws.length c1, .slice (some a2) ws.length c2]), (w.heap.size, 24, #[.int .i64 fl.a, .int .i64 fl.b])] ∧ W.cell? ⟨w.heap.size, 0, none⟩ = some (.int .i64 fl.a) ∧ W.cell? ⟨w.heap.size, 1, none⟩ = some (.int .i64 fl.b) ∧ W.cell? ⟨wm.heap.size, 1, none⟩ = some (.slice (some a2) ws.length c2) ∧ W.cell? (a2.add (k * 2)) = some (.int .i64 la) ∧ W.cell? ⟨(a2.add (k * 2)).block, (a2.add (k * 2)).off + 1, none⟩ = some (.int .i64 lb))
                  ((go_split_ands; refine HALL.out _ ?_; (first | assumption | (repeat (first | assumption | refine Fr.new ?_ _ | refine Fr.drew ?_ | (refine Fr.set ?_ (by first | exact Nat.le_refl _ | omega | (simp; done) | (simp; omega)) (by first | (simp; done) | (simp; omega)) _))); done)))
                  ((go_at_call 48; go_split_ands; (with_reducible refine (HF3.out _).mono ?_); rintro e w8 ⟨rfl, hb8⟩; have F14 := Fr.call (by assumption) hb8; clear hb8))
                all_goals
                  go_split_ands
                  go_wp2_with fail
                  go_meet
                  exact ⟨rfl, rfl, by assumption⟩
              case rest =>
                obtain ⟨wx, rfl⟩ : ∃ W, W = wc := ⟨_, rfl⟩
                obtain ⟨rfl, rfl, hx⟩ := hcut
                have F12 : Hid (Fr wm _ [(w5.heap.size, 24, #[.int .i64 va, .int .i64 vb]), (wm.heap.size, 56, #[.slice (some a1) ws.length c1, .slice (some a2) ws.length c2]), (w.heap.size, 24, #[.int .i64 fl.a, .int .i64 fl.b])]) := Lib.hid hx
                clear hx F6 r0 r1 p0 p1 l0 l1
                have e1 : fs + fx = ns := HE1.out.symm
                have e2 : fd + fm = nd := HE2.out.symm
                have e3 : nd + q = ns := HE3.out.symm
                have bns : -9000000000 ≤ ns ∧ ns ≤ 9000000000 := by omega
                have bnd : -9000000000 ≤ nd ∧ nd ≤ 9000000000 := by omega
                obtain ⟨n0, n1⟩ := bns
                obtain ⟨n2, n3⟩ := bnd
                cases nr with
                | false =>
                  go_wp2_with fail
                  clear e1 e2 e3
                  go_roundw
                  case rel => exact ⟨k + 1, by omega, by go_num, congrArg (Value.int .i64) HNS.out.symm, congrArg (Value.int .i64) HND.out.symm, F12.out.tail⟩
                  case measure => simp [intOf]; omega
                | true =>
                  obtain ⟨⟨y0, y1⟩, y2⟩ := HNR2.out rfl
                  have hnm := nrm_in HFB.out
                  have hTN := Lib.hid (TNorm_any fl ((okT_bd HFO.out).more (by omega)))
                  have m3 := mulB ⟨y0, y1⟩ ⟨y0, y1⟩
                  have m4 := mulB (x := M) (y := M) (A := 1000) (B := 1000) ⟨by omega, by omega⟩ ⟨by omega, by omega⟩
                  have m5 := mulB (x := 4 * (M * M)) (y := fl.nrm) (A := 4000000) (B := 3000000) ⟨by omega, by omega⟩ ⟨by omega, by omega⟩
                  have g1 : 9 * q * q = 9 * (q * q) := Int.mul_assoc _ _ _
                  have g2 : 4 * M * M = 4 * (M * M) := Int.mul_assoc _ _ _
                  have HW : Hid (IntKind.i64.wrap (9 * q * q) = 9 * q * q ∧ IntKind.i64.wrap (4 * M * M) = 4 * M * M ∧ IntKind.i64.wrap (4 * M * M * fl.nrm) = 4 * M * M * fl.nrm ∧ ¬ 4 * M * M * fl.nrm < 9 * q * q) := Lib.hid (by
                    rw [g1, g2]
                    exact ⟨IntWalk.i64_in _ ⟨by omega, by omega⟩, IntWalk.i64_in _ ⟨by omega, by omega⟩, IntWalk.i64_in _ ⟨by omega, by omega⟩, by omega⟩)
                  generalize fl.nrm = nn at *
                  have z0 := F12.out.at2.cell 0
                  have z1 := F12.out.at2.cell 1
                  clear y2 hnm m3 m4 m5 g1 g2
                  obtain ⟨wq, wm2, wn, hlt9⟩ := HW.out
                  go_wp2_with fail
                  refine (hTN.out _).mono ?_
                  rintro e w9 ⟨rfl, hb9⟩
                  have F17 : Hid (Fr wm _ [(w5.heap.size, 24, #[.int .i64 va, .int .i64 vb]), (wm.heap.size, 56, #[.slice (some a1) ws.length c1, .slice (some a2) ws.length c2]), (w.heap.size, 24, #[.int .i64 fl.a, .int .i64 fl.b])]) := Lib.hid (F12.out.call hb9)
                  clear hb9 F12 z0 z1
                  go_wp2_with fail
                  clear e1 e2 e3 wq wm2 wn hlt9
                  go_roundw
                  case rel => exact ⟨k + 1, by omega, by go_num, congrArg (Value.int .i64) HNS.out.symm, congrArg (Value.int .i64) HND.out.symm, F17.out.tail⟩
                  case measure => simp [intOf]; omega
          · obtain rfl : k = ws.length := by omega
            go_wp2_with fail
            go_ret
            exact ⟨rfl, Below.step BW.out FK.out.bl⟩
      · exact absurd (List.all_eq_true.2 (fun x hx => smT_ok (HS'.out x hx))) (by rw [hno]; simp)
theorem TopStatorPulsesDrive_any (M : Int) (ws : List T3) (g : Hd) (hg : HdOk g) (hm : ws.length ≤ maxLen) (fl : T3) (w : World) (hT : Tab w) (hA : Lies w w.heap.size g.A (ws.flatMap tc)) : Calls Tryd.prog 8 #[.int .i64 M, .slice g.A ws.length g.c, (.agg #[.int .i64 fl.a, .int .i64 fl.b])] w fun e w' => e = .returned (.bool true) ∧ Below w.heap.size w w' := by
  cases hM : inB M 1 1000 with
  | false => exact drive_out M ws g fl (.inl hM) hm w hT
  | true =>
    by_cases hl : ws.length ≤ 20
    · cases hf : smT fl with
      | false => exact drive_out M ws g fl (.inr (.inr hf)) hm w hT
      | true => exact drive_ok M ws g hg fl hM hl hf w hT hA
    · exact drive_out M ws g fl (.inr (.inl (by omega))) hm w hT
end Go.Proofs.YtohldmmfnjfgmaaDoor
