/-
  The walk of check: a line with the places of its joints.
-/
import Derived.Test.YtmnlgeglmkdecaaSwitches
import Derived.Deep.OwnRows
import Derived.Deep.RegionHeld3
namespace Go.Proofs.Ytmnlgeglmkdecaa
open Go.RowKit

def placesL (L : Ll) : List Int := (List.range L.js.length).map (placeL L.bs)

theorem ck_ok {L : Ll} (h : (ckLine L).2 = 0) : wholeErr L = 0 := by
  by_cases h0 : wholeErr L = 0
  · exact h0
  · rw [ck_whole h0] at h; exact h

set_option maxHeartbeats 1000000 in
theorem check_bad {L : Ll} {m1 m2 er : Int} (hck : ckLine L = ((m1, m2), er)) (h : er ≠ 0) (H : Hds) (hL : L.ok) (w : World) (hA : LnAt w w.heap.size L H) :
    Calls Try.prog 80 #[(.agg #[.string L.name, .slice H.j.A L.js.length H.j.c, .slice H.b.A L.bs.length H.b.c, .slice H.s.A L.ss.length H.s.c])] w fun e w' => e = .returned (.tuple #[.agg #[.string ⟨#[]⟩, .slice none 0 0, .slice none 0 0, .slice none 0 0, .slice none 0 0], .int .i64 er]) ∧ Below w.heap.size w w' := by
  have R0 := Lib.hid (Bk.new1 w (.cells #[.string L.name, .slice H.j.A L.js.length H.j.c, .slice H.b.A L.bs.length H.b.c, .slice H.s.A L.ss.length H.s.c] 26) 119 #[.string ⟨#[]⟩, .slice none 0 0, .slice none 0 0, .slice none 0 0, .slice none 0 0])
  have b0 := ((Below.refl w.heap.size w).alloc (Nat.le_refl _) (.cells #[.string L.name, .slice H.j.A L.js.length H.j.c, .slice H.b.A L.bs.length H.b.c, .slice H.s.A L.ss.length H.s.c] 26)).alloc (by simp) (.cells #[.string ⟨#[]⟩, .slice none 0 0, .slice none 0 0, .slice none 0 0, .slice none 0 0] 119)
  have HA := Lib.hid (hA.below b0)
  have HB := Lib.hid b0
  have g0 : (er != 0) = true := by simp [h]
  have HC := Lib.hid hck
  clear h hA b0 hck
  go_enter Try.func80, Try.ntmps80
  go_wp2_with (go_at_call 17; refine (CheckLine_at HC.out H hL _ (HA.out.more HB.out.size)).mono ?_; rintro e w1 ⟨rfl, hb1⟩; have hR := Lib.hid ((R0.out.call hb1).alloc (.cells #[.int .i64 m1, .int .i64 m2] 30)); obtain ⟨c0, c1, c2, c3, c4⟩ := hR.out.five; obtain ⟨f0, f1, f2, f3, f4⟩ := hR.out.free5)
  refine bodyPost_ret (v := .tuple #[.agg #[.string ⟨#[]⟩, .slice none 0 0, .slice none 0 0, .slice none 0 0, .slice none 0 0], .int .i64 er]) (by simp [results, Try.results80, go_sem, c0, c1, c2, c3, c4]) rfl ⟨rfl, ?_⟩
  exact ((HB.out.trans (hb1.mono HB.out.size)).alloc (by have := HB.out.size; have := hb1.size; simp at *; omega) _).setCell (by simp) _ |>.setCell (by simp) _ |>.setCell (by simp) _ |>.setCell (by simp) _ |>.setCell (by simp) _

theorem placeL_succ (bs : List Lb) (k : Nat) (hk : k < bs.length) : placeL bs (k + 1) = placeL bs k + bs[k].len := by
  unfold placeL
  rw [List.take_succ_eq_append_getElem hk, List.map_append, List.sum_append]; simp
theorem beam_len {b : Lb} (h0 : bErr b = 0) : 1000 ≤ b.len ∧ b.len ≤ 30000 := by
  unfold bErr at h0
  split at h0
  · rename_i h; simp only [Bool.and_eq_true, inB_iff] at h; exact h.1
  · simp at h0
theorem placeL_bound (bs : List Lb) (hb : ∀ b ∈ bs, bErr b = 0) (k : Nat) (hk : k ≤ bs.length) : 1000 * (k : Int) ≤ placeL bs k ∧ placeL bs k ≤ 30000 * k := by
  induction k with
  | zero => simp [placeL]
  | succ k ih =>
    have := ih (by omega)
    rw [placeL_succ bs k (by omega)]
    have h0 := hb bs[k] (List.getElem_mem (by omega))
    have : 1000 ≤ bs[k].len ∧ bs[k].len ≤ 30000 := by
      unfold bErr at h0
      split at h0
      · rename_i h; simp only [Bool.and_eq_true, inB_iff] at h; exact h.1
      · simp at h0
    push_cast; omega
theorem firstErr_zero {α : Type} (f : α → Int) : ∀ (l : List α) (k : Nat), (firstErr f k l).2 = 0 → ∀ a ∈ l, f a = 0
  | [], _, _, a, ha => by simp at ha
  | b :: l, k, h, a, ha => by
    rw [firstErr] at h
    split at h
    · rename_i h0
      rcases List.mem_cons.1 ha with rfl | ha
      · exact h0
      · exact firstErr_zero f l (k + 1) h a ha
    · rename_i h0; exact absurd h h0
/-- What a right line is. -/
structure Right (L : Ll) : Prop where
  one : 1 ≤ L.bs.length
  most : L.bs.length ≤ 40
  jb : L.js.length = L.bs.length + 1
  j : ∀ j ∈ L.js, jErr j = 0
  b : ∀ b ∈ L.bs, bErr b = 0
  s : swMark L = ((0, 0), 0)
  n4 : L.ss.length ≤ 4
  name : nameB L.name.data.toList = true
theorem right_of {L : Ll} (h : (ckLine L).2 = 0) : Right L := by
  have h0 := ck_ok h
  obtain ⟨w1, w2, w3, w4⟩ := whole_ok h0
  unfold ckLine at h
  rw [if_neg (by omega)] at h
  split at h
  · rename_i hj; exact absurd h hj
  · rename_i hj
    split at h
    · rename_i hb; exact absurd h hb
    · rename_i hb
      split at h
      · simp at h
      · rename_i h4
        have hs : swMark L = ((0, 0), 0) := by
          unfold swMark at h ⊢
          split
          · rename_i hh; rw [if_pos hh] at h; exact absurd h hh
          · rfl
        exact ⟨w2, w3, w4, firstErr_zero jErr _ 0 (by omega), firstErr_zero bErr _ 0 (by omega), hs, by omega, w1⟩
theorem ck_right {L : Ll} (h : (ckLine L).2 = 0) : ckLine L = ((0, 0), 0) := by
  have r := right_of h
  have h0 := ck_ok h
  have hj : (firstErr jErr 0 L.js).2 = 0 := by rw [firstErr_none jErr L.js 0 r.j]
  have hb : (firstErr bErr 0 L.bs).2 = 0 := by rw [firstErr_none bErr L.bs 0 r.b]
  have := r.n4
  unfold ckLine
  rw [if_neg (by omega), if_neg (by rw [hj]; simp), if_neg (by rw [hb]; simp), if_neg (by omega), r.s]

def plc (L : Ll) (k i : Nat) : Value := .int .i64 (if i ≤ k then placeL L.bs i else 0)
structure ChkSt (w wr : World) (L : Ll) (H : Hds) (g k : Nat) : Prop where
  box : Bk wr w.heap.size 26 #[.string L.name, .slice H.j.A L.js.length H.j.c, .slice H.b.A L.bs.length H.b.c, .slice H.s.A L.ss.length H.s.c]
  res : Bk wr (w.heap.size + 1) 119 #[.string ⟨#[]⟩, .slice none 0 0, .slice none 0 0, .slice none 0 0, .slice none 0 0]
  row : wr.rowIs g 3 L.js.length (plc L k)
  bl : Below w.heap.size w wr
  new : w.heap.size + 1 < g
theorem ChkSt.alloc {w wr : World} {L : Ll} {H : Hds} {g k : Nat} (h : ChkSt w wr L H g k) (o : Obj) : ChkSt w (wr.alloc o) L H g k :=
  ⟨h.box.alloc o, h.res.alloc o, h.row.alloc _, h.bl.alloc h.bl.size o, h.new⟩

theorem ChkSt.put {w wr : World} {L : Ll} {H : Hds} {g k : Nat} (h : ChkSt w wr L H g k) (hk : k < L.bs.length) : ChkSt w (wr.setCell ⟨g, k + 1, none⟩ (.int .i64 (placeL L.bs k + L.bs[k].len))) L H g (k + 1) :=
  have hn := h.new
  ⟨h.box.far (by simp; omega) _, h.res.far (by simp; omega) _, (h.row.set (k + 1) _).congr (fun i _ => by
    unfold plc
    by_cases e : i = k + 1
    · subst e; rw [if_pos rfl, if_pos (by omega), placeL_succ _ _ hk]
    · rw [if_neg e]
      by_cases e2 : i ≤ k
      · rw [if_pos e2, if_pos (by omega)]
      · rw [if_neg e2, if_neg (by omega)]), h.bl.setCell (by simp; omega) _, hn⟩
theorem ChkSt.drew {w wr : World} {L : Ll} {H : Hds} {g k : Nat} (h : ChkSt w wr L H g k) : ChkSt w wr.drew L H g k := ⟨h.box, h.res, h.row, h.bl.drew, h.new⟩
theorem Lies.of_row {w : World} {g n : Nat} {t : TypeId} {f : Nat → Value} {vs : List Value} (h : w.rowIs g t n f) (hn : vs.length = n) (hv : ∀ i (hi : i < vs.length), vs[i] = f i) : Lies w w.heap.size (some ⟨g, 0, none⟩) vs := by
  intro j u hu
  obtain ⟨hj, rfl⟩ := List.getElem?_eq_some_iff.1 hu
  refine ⟨_, rfl, h.lt, ?_⟩
  have : (⟨g, 0, none⟩ : Addr).add j = ⟨g, j, none⟩ := by unfold Addr.add; split <;> simp_all
  rw [this, h.cell (by omega), hv j hj]

theorem ChkSt.start {w w1 : World} (L : Ll) (H : Hds) (hb : Bk w1 w.heap.size 26 #[.string L.name, .slice H.j.A L.js.length H.j.c, .slice H.b.A L.bs.length H.b.c, .slice H.s.A L.ss.length H.s.c])
    (hr : Bk w1 (w.heap.size + 1) 119 #[.string ⟨#[]⟩, .slice none 0 0, .slice none 0 0, .slice none 0 0, .slice none 0 0]) (bl : Below w.heap.size w w1) (hs : w.heap.size ≤ w1.heap.size) :
    ChkSt w ((w1.alloc (.cells #[.int .i64 0, .int .i64 0] 30)).alloc (.cells (madeCells #[.int .i64 0] L.js.length) 3)) L H (w1.heap.size + 1) 0 := by
  have h := World.rowIs_made (w1.alloc (.cells #[.int .i64 0, .int .i64 0] 30)) (.int .i64 0) L.js.length 3
  rw [World.size_alloc] at h
  exact ⟨(hb.alloc _).alloc _, (hr.alloc _).alloc _, h.congr (fun i _ => by
    unfold plc
    by_cases h0 : i ≤ 0
    · obtain rfl : i = 0 := by omega
      simp [placeL]
    · rw [if_neg h0]), (bl.alloc hs _).alloc (by simp; omega) _, by have := hr.lt; omega⟩

set_option maxHeartbeats 1000000 in
theorem check_good {L : Ll} (hr : Right L) (hck : ckLine L = ((0, 0), 0)) (H : Hds) (hL : L.ok) (w : World) (hA : LnAt w w.heap.size L H) :
    Calls Try.prog 80 #[(.agg #[.string L.name, .slice H.j.A L.js.length H.j.c, .slice H.b.A L.bs.length H.b.c, .slice H.s.A L.ss.length H.s.c])] w fun e w' => ∃ g, e = .returned (.tuple #[.agg #[.string L.name, .slice H.j.A L.js.length H.j.c, .slice H.b.A L.bs.length H.b.c, .slice H.s.A L.ss.length H.s.c, .slice (some ⟨g, 0, none⟩) L.js.length L.js.length], .int .i64 0]) ∧ Below w.heap.size w w' ∧
      Lies w' w'.heap.size (some ⟨g, 0, none⟩) (ic (placesL L)) ∧ w.heap.size ≤ g := by
  obtain ⟨⟨Aj, cj⟩, ⟨Ab, cb⟩, ⟨As, cs⟩, each⟩ := H
  have X0 := Lib.hid ((Bk.new w 26 #[.string L.name, .slice Aj L.js.length cj, .slice Ab L.bs.length cb, .slice As L.ss.length cs]).alloc (.cells #[.string ⟨#[]⟩, .slice none 0 0, .slice none 0 0, .slice none 0 0, .slice none 0 0] 119))
  have R0 := Lib.hid (Bk.new1 w (.cells #[.string L.name, .slice Aj L.js.length cj, .slice Ab L.bs.length cb, .slice As L.ss.length cs] 26) 119 #[.string ⟨#[]⟩, .slice none 0 0, .slice none 0 0, .slice none 0 0, .slice none 0 0])
  have b0 := ((Below.refl w.heap.size w).alloc (Nat.le_refl _) (.cells #[.string L.name, .slice Aj L.js.length cj, .slice Ab L.bs.length cb, .slice As L.ss.length cs] 26)).alloc (by simp) (.cells #[.string ⟨#[]⟩, .slice none 0 0, .slice none 0 0, .slice none 0 0, .slice none 0 0] 119)
  have HA := Lib.hid (hA.below b0)
  have HB := Lib.hid b0
  have HC := Lib.hid hck
  have h40 := hr.most
  have HJ := Lib.hid hr.jb
  have hnj := hL.nj
  have HR := Lib.hid hr
  have hmk := run_make_row' (P := Try.prog) 67 3 (.int .i64 0) 8 Try.underlying67 (by kernel_rfl) rfl .i64 .i64 L.js.length (by omega) (by omega)
  have hA1 := Lib.hid hA
  clear hA b0 hck hr
  go_enter Try.func80, Try.ntmps80
  go_wp2_with (go_at_call 17; refine (CheckLine_at HC.out ⟨⟨Aj, cj⟩, ⟨Ab, cb⟩, ⟨As, cs⟩, each⟩ hL _ (HA.out.more HB.out.size)).mono ?_; rintro e w1 ⟨rfl, hb1⟩; have hS := Lib.hid (ChkSt.start L ⟨⟨Aj, cj⟩, ⟨Ab, cb⟩, ⟨As, cs⟩, each⟩ (X0.out.call hb1) (R0.out.call hb1) (HB.out.trans (hb1.mono HB.out.size)) (by have := hb1.size; simp at this; omega)); obtain ⟨c0, c1, c2, c3⟩ := ((X0.out.call hb1).alloc (.cells #[.int .i64 0, .int .i64 0] 30)).four; obtain ⟨d0, d1, d2, d3⟩ := hS.out.box.four)
  clear c0 c1 c2 c3 d0 d1 d2 d3 X0 R0 hmk
  obtain ⟨g, hg⟩ : ∃ g, w1.heap.size + 1 = g := ⟨_, rfl⟩
  rw [hg] at hS
  simp only [hg]
  clear hg hb1
  go_loopw [25] (fun i wr => ∃ k : Nat, k ≤ L.bs.length ∧ i = .int .i64 k ∧ ChkSt w wr L ⟨⟨Aj, cj⟩, ⟨Ab, cb⟩, ⟨As, cs⟩, each⟩ g k) (fun i _ => L.bs.length - (intOf i).toNat)
  case atStart => exact ⟨0, Nat.zero_le _, rfl, hS.out⟩
  case round =>
    clear hS
    obtain ⟨k, hk, rfl, hS⟩ := hrel
    have HS := Lib.hid hS
    clear hS
    by_cases hlt : k < L.bs.length
    · obtain ⟨a', ha', _, j0, j1⟩ := ((hA1.out.b).below HS.out.bl).beam (List.getElem?_eq_getElem hlt)
      simp only at ha'
      subst ha'
      have hk1 : k + 1 < L.js.length := by have := HJ.out; omega
      obtain ⟨p1, p2⟩ := placeL_bound L.bs HR.out.b k hk
      have p3 : 1000 ≤ L.bs[k].len ∧ L.bs[k].len ≤ 30000 := beam_len (HR.out.b _ (List.getElem_mem hlt))
      obtain ⟨p4, p5⟩ := p3
      have q0 : (wr.alloc (.cells #[.int .i64 L.bs[k].len, .int .i64 L.bs[k].cant] 59)).cell? ⟨g, k, none⟩ = some (.int .i64 (placeL L.bs k)) := by
        have := (HS.out.row.alloc (.cells #[.int .i64 L.bs[k].len, .int .i64 L.bs[k].cant] 59)).cell (i := k) (by omega)
        rw [this]; simp [plc]
      have q1 : (wr.alloc (.cells #[.int .i64 L.bs[k].len, .int .i64 L.bs[k].cant] 59)).cell? ⟨g, k + 1, none⟩ = some (.int .i64 0) := by
        have := (HS.out.row.alloc (.cells #[.int .i64 L.bs[k].len, .int .i64 L.bs[k].cant] 59)).cell (i := k + 1) hk1
        rw [this]; unfold plc; rw [if_neg (by omega)]
      have q2 : (wr.alloc (.cells #[.int .i64 L.bs[k].len, .int .i64 L.bs[k].cant] 59)).frozen? ⟨g, k + 1, none⟩ = false := (HS.out.row.alloc _).frozen _
      go_wp2_with fail
      go_region
      all_goals
        go_wp2_with fail
        go_roundw
        case rel => exact ⟨k + 1, by omega, by go_num, ((HS.out.alloc _).put hlt).drew⟩
        case measure => simp [intOf]; omega
    · obtain rfl : k = L.bs.length := by omega
      obtain ⟨c0, c1, c2, c3⟩ := HS.out.box.four
      obtain ⟨d0, d1, d2, d3, d4⟩ := HS.out.res.five
      obtain ⟨f0, f1, f2, f3, f4⟩ := HS.out.res.free5
      go_wp2_with fail
      refine bodyPost_ret (v := .tuple #[.agg #[.string L.name, .slice Aj L.js.length cj, .slice Ab L.bs.length cb, .slice As L.ss.length cs, .slice (some ⟨g, 0, none⟩) L.js.length L.js.length], .int .i64 0]) (by simp [results, Try.results80, go_sem, d0, d1, d2, d3, d4]) rfl ⟨g, rfl, ?_, ?_, by have := HS.out.new; omega⟩
      · exact HS.out.bl.setCell (by simp) _ |>.setCell (by simp) _ |>.setCell (by simp) _ |>.setCell (by simp) _ |>.setCell (by simp) _
      · refine Lies.of_row (n := L.js.length) (f := plc L L.bs.length) (t := 3) ?_ (by simp [ic, placesL]) (fun i hi => ?_)
        · have hne : ∀ i : Nat, g ≠ (⟨w.heap.size + 1, i, none⟩ : Addr).block := fun i => by have := HS.out.new; simp; omega
          exact ((((HS.out.row.setOther (hne 0) _).setOther (hne 1) _).setOther (hne 2) _).setOther (hne 3) _).setOther (hne 4) _
        · have hi' : i < L.js.length := by simpa [ic, placesL] using hi
          have hi2 : i ≤ L.bs.length := by have := HJ.out; omega
          simp [ic, placesL, plc, hi2]
end Go.Proofs.Ytmnlgeglmkdecaa
