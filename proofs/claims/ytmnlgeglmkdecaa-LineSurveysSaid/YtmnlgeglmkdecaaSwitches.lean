/-
  The walk of checkSwitches.
-/
import Derived.Test.YtmnlgeglmkdecaaSwitch
import Derived.Test.YtmnlgeglmkdecaaCkLine
namespace Go.Proofs.Ytmnlgeglmkdecaa
open Go.RowKit

theorem ssErr_hit {n : Int} : ∀ (l : List Ls) (b : List Ls) (k : Nat) (hk : k < l.length), (∀ (i : Nat) (hi : i < k), sErr n (b ++ l.take i) (l[i]'(by omega)) = 0) → sErr n (b ++ l.take k) l[k] ≠ 0 → ssErr n b l = (b.length + k, sErr n (b ++ l.take k) l[k])
  | s :: l, b, 0, _, _, h => by simp at h ⊢; simp [ssErr, h]
  | s :: l, b, k + 1, hk, hz, h => by
    have h0 : sErr n b s = 0 := by simpa using hz 0 (by omega)
    rw [ssErr, if_pos h0]
    have := ssErr_hit l (b ++ [s]) k (by simpa using hk) (fun i hi => by simpa using hz (i + 1) (by omega)) (by simpa using h)
    rw [this]
    simp; omega
theorem ssErr_none {n : Int} : ∀ (l : List Ls) (b : List Ls), (∀ (i : Nat) (hi : i < l.length), sErr n (b ++ l.take i) l[i] = 0) → ssErr n b l = (b.length + l.length, 0)
  | [], b, _ => by simp [ssErr]
  | s :: l, b, hz => by
    have h0 : sErr n b s = 0 := by
      have := hz 0 (by simp)
      simp only [List.take_zero, List.append_nil, List.getElem_cons_zero] at this
      exact this
    have h1 : ∀ (i : Nat) (hi : i < l.length), sErr n ((b ++ [s]) ++ l.take i) l[i] = 0 := fun i hi => by
      have := hz (i + 1) (by simpa using hi)
      simp only [List.take_succ_cons, List.getElem_cons_succ] at this
      simpa using this
    rw [ssErr, if_pos h0, ssErr_none l (b ++ [s]) h1]
    simp; omega
theorem sw_hit {L : Ll} {k : Nat} (hk : k < L.ss.length) (hz : ∀ (i : Nat) (hi : i < k), sErr L.bs.length (L.ss.take i) (L.ss[i]'(by omega)) = 0) (h : sErr L.bs.length (L.ss.take k) L.ss[k] ≠ 0) :
    swMark L = ((3, (k : Int)), sErr L.bs.length (L.ss.take k) L.ss[k]) := by
  have f := ssErr_hit L.ss [] k hk (by simpa using hz) (by simpa using h)
  simp only [List.length_nil, Nat.zero_add, List.nil_append] at f
  unfold swMark; rw [f, if_pos h]
theorem sw_none {L : Ll} (hz : ∀ (i : Nat) (hi : i < L.ss.length), sErr L.bs.length (L.ss.take i) L.ss[i] = 0) : swMark L = ((0, 0), 0) := by
  have f := ssErr_none L.ss [] (by simpa using hz)
  unfold swMark; rw [f, if_neg (by simp)]

theorem sErr_zero {n : Int} {b : List Ls} {s : Ls} (h : sErr n b s = 0) : Fit n s := by
  unfold sErr at h
  split at h
  · simp at h
  · split at h
    · simp at h
    · split at h
      · simp at h
      · split at h
        · simp at h
        · rename_i h1 h2 h3 h4
          have h5 := Classical.not_not.1 h4
          exact ⟨h5.1, h5.2, by omega⟩
theorem fit_take {n : Int} {ss : List Ls} {k : Nat} (hk : k ≤ ss.length) (hz : ∀ (i : Nat) (hi : i < k), sErr n (ss.take i) (ss[i]'(by omega)) = 0) : ∀ t ∈ ss.take k, Fit n t := by
  intro t ht
  obtain ⟨i, hi, rfl⟩ := List.getElem_of_mem ht
  rw [List.length_take] at hi
  rw [List.getElem_take]
  exact sErr_zero (hz i (by omega))
theorem sNames_snoc (b : List Ls) (s : Ls) (l : Lit) : sNames (b ++ [s]) l = (l.sameKey (.string s.name.data.toList) || sNames b l) := by
  simp [sNames, Bool.or_comm]
theorem sBent_snoc (b : List Ls) (s : Ls) (l : Lit) : sBent (b ++ [s]) l = ((List.range s.across.length).any (fun k => l.sameKey (.int .i64 (s.first + k))) || sBent b l) := by
  simp [sBent, Bool.or_comm]

/-- What the loop keeps: the box of the line, that of the mark, both maps. -/
structure SwSt (w wr : World) (C : Array Value) (N M : Nat) (S T : Lit → Bool) : Prop where
  box : Bk wr w.heap.size 26 C
  res : Bk wr (w.heap.size + 1) 30 #[.int .i64 0, .int .i64 0]
  nm : SetAt wr 9 4 (w.heap.size + 2) N S
  bt : SetAt wr 3 4 (w.heap.size + 3) M T
  bl : Below w.heap.size w wr
section
variable {w wr w1 : World} {C : Array Value} {N M : Nat} {S T S' T' : Lit → Bool}
theorem SwSt.size (h : SwSt w wr C N M S T) : w.heap.size + 3 < wr.heap.size := h.bt.lt
theorem SwSt.call (h : SwSt w wr C N M S T) (hb : Below wr.heap.size wr w1) : SwSt w w1 C N M S T :=
  ⟨h.box.call hb, h.res.call hb, h.nm.call hb, h.bt.call hb, h.bl.trans (hb.mono h.bl.size)⟩
theorem SwSt.alloc (h : SwSt w wr C N M S T) (o : Obj) : SwSt w (wr.alloc o) C N M S T := h.call ((Below.refl _ _).alloc (Nat.le_refl _) o)
theorem SwSt.names (h : SwSt w wr C N M S T) (hn : SetAt w1 9 4 (w.heap.size + 2) (N + 1) S') (hg : wr.grownBy w1 (some (w.heap.size + 2))) : SwSt w w1 C (N + 1) M S' T :=
  have hs := h.size
  ⟨(hg.block _ (by omega) (by simp)).trans h.box, (hg.block _ (by omega) (by simp)).trans h.res, hn, h.bt.grown hg (by simp), h.bl.grown hg h.bl.size (fun k e => by cases e; omega)⟩
theorem SwSt.bent (h : SwSt w wr C N M S T) (hn : SetAt w1 3 4 (w.heap.size + 3) (M + 1) T') (hg : wr.grownBy w1 (some (w.heap.size + 3))) : SwSt w w1 C N (M + 1) S T' :=
  have hs := h.size
  ⟨(hg.block _ (by omega) (by simp)).trans h.box, (hg.block _ (by omega) (by simp)).trans h.res, h.nm.grown hg (by simp), hn, h.bl.grown hg h.bl.size (fun k e => by cases e; omega)⟩
theorem SwSt.start (w : World) (C : Array Value) : SwSt w ((((w.alloc (.cells C 26)).alloc (.cells #[.int .i64 0, .int .i64 0] 30)).alloc (.map #[] 0)).alloc (.map #[] 0)) C 0 0 (sNames []) (sBent []) := by
  have h2 := SetAt.made ((w.alloc (.cells C 26)).alloc (.cells #[.int .i64 0, .int .i64 0] 30)) 9 4
  have h3 := SetAt.made (((w.alloc (.cells C 26)).alloc (.cells #[.int .i64 0, .int .i64 0] 30)).alloc (.map #[] 0)) 3 4
  simp only [World.size_alloc] at h2 h3
  exact ⟨((Bk.new w _ C).alloc _).alloc _ |>.alloc _, ((Bk.new1 w _ _ _).alloc _).alloc _, (h2.alloc _).congr (fun l => by simp [sNames]), h3.congr (fun l => by simp [sBent]),
    ((((Below.refl _ w).alloc (Nat.le_refl _) _).alloc (by simp) _).alloc (by simp; omega) _).alloc (by simp; omega) _⟩
end
theorem Bk.grown {w w' : World} {g : Nat} {t : TypeId} {cs : Array Value} {row : Option Nat} (h : Bk w g t cs) (hg : w.grownBy w' row) (hne : some g ≠ row) : Bk w' g t cs := (hg.block g h.lt hne).trans h

set_option maxHeartbeats 4000000 in
set_option maxRecDepth 100000 in
theorem checkSwitches_any : SwitchesSaid := by
  intro L H w hL hA hj2 hjb h4
  obtain ⟨⟨Aj, cj⟩, ⟨Ab, cb⟩, ⟨As, cs⟩, each⟩ := H
  have hnj := hL.nj
  have S0 := Lib.hid (SwSt.start w #[.string L.name, .slice Aj L.js.length cj, .slice Ab L.bs.length cb, .slice As L.ss.length cs])
  have HA := Lib.hid hA
  have HL := Lib.hid hL
  have HJ := Lib.hid hjb
  have hnb := hL.nb
  have hmm := @run_makeMap Try.prog
  clear hA hL hjb
  go_enter Try.func78, Try.ntmps78
  obtain ⟨c0, c1, c2, c3⟩ := S0.out.box.four
  go_wp2_with fail
  clear c0 c1 c2 c3
  go_loopw [15] (fun i wr => ∃ k : Nat, k ≤ L.ss.length ∧ i = .int .i64 k ∧ (∀ (i : Nat) (hi : i < k) (hl : i < L.ss.length), sErr L.bs.length (L.ss.take i) L.ss[i] = 0) ∧ SwSt w wr #[.string L.name, .slice Aj L.js.length cj, .slice Ab L.bs.length cb, .slice As L.ss.length cs] k (1000 * k) (sNames (L.ss.take k)) (sBent (L.ss.take k)))
    (fun i _ => L.ss.length - (intOf i).toNat)
  case atStart => exact ⟨0, Nat.zero_le _, rfl, fun i hi => absurd hi (by omega), S0.out⟩
  case round =>
    clear S0
    obtain ⟨k, hk, rfl, hz, hS⟩ := hrel
    have HZ := Lib.hid hz
    have HS := Lib.hid hS
    clear hz hS
    by_cases hlt : k < L.ss.length
    · have hp : k < (L.ss.zip each).length := by rw [List.length_zip, HA.out.n]; simpa using hlt
      have he : (L.ss.zip each)[k]? = some (L.ss[k], each[k]'(by have := HA.out.n; simp only at this; omega)) := by rw [List.getElem?_eq_getElem hp, List.getElem_zip]
      have hH : each[k]? = some (each[k]'(by have := HA.out.n; simp only at this; omega)) := List.getElem?_eq_getElem _
      obtain ⟨hd, hhd⟩ : ∃ h, each[k]'(by have := HA.out.n; simp only at this; omega) = h := ⟨_, rfl⟩
      rw [hhd] at he hH
      obtain ⟨a', ha', hab, j0, j1, j2⟩ := (HA.out.s.below HS.out.bl).switch he
      have HLi := Lib.hid (((HA.out.a k _ hd (List.getElem?_eq_getElem hlt) hH).below HS.out.bl).more HS.out.bl.size)
      simp only at ha'
      subst ha'
      clear hp he hH hhd
      simp only at j0 j1 j2
      obtain ⟨s, hs⟩ : ∃ s, L.ss[k] = s := ⟨_, rfl⟩
      have hsl := (HL.out.na s (by rw [← hs]; exact List.getElem_mem hlt)).1
      have hsn := (HL.out.na s (by rw [← hs]; exact List.getElem_mem hlt)).2
      rw [hs] at j0 j1 j2 HLi
      have HSS := Lib.hid hs
      clear hs
      obtain ⟨c0, c1, c2, c3⟩ := (HS.out.alloc (.cells #[.string s.name, .int .i64 s.first, .slice hd.A s.across.length hd.c] 113)).box.four
      have b1 := (Below.refl wr.heap.size wr).alloc (Nat.le_refl _) (.cells #[.string s.name, .int .i64 s.first, .slice hd.A s.across.length hd.c] 113)
      have HB1 := Lib.hid b1
      have hv1 := Bk.new wr 113 #[.string s.name, .int .i64 s.first, .slice hd.A s.across.length hd.c]
      have HV1 := Lib.hid hv1
      clear b1 hv1
      have hlast : ((L.js.length : Int) - 2) + 1 = L.bs.length := by have := HJ.out; omega
      have HLA := Lib.hid hlast
      clear hlast
      by_cases he : sErr L.bs.length (L.ss.take k) s = 0
      · have ge : (sErr ((L.js.length : Int) - 2 + 1) (L.ss.take k) s != 0) = false := by rw [HLA.out]; simp [he]
        have hz1 : ∀ (i : Nat) (hi : i < k + 1) (hl : i < L.ss.length), sErr L.bs.length (L.ss.take i) L.ss[i] = 0 := fun i hi hl => if h : i = k then (by subst h; rw [HSS.out]; exact he) else HZ.out i (by omega) hl
        have HZ1 := Lib.hid hz1
        obtain ⟨f1, f2, f3⟩ := sErr_zero he
        have htk : L.ss.take (k + 1) = L.ss.take k ++ [s] := by rw [List.take_succ_eq_append_getElem hlt, HSS.out]
        have HTK := Lib.hid htk
        have HK1 := Lib.hid (WideMaps.keyOf_string_mk (P := Try.prog) Try.underlying9 (small_max hsn))
        clear hz1 he htk HZ
        go_wp2_with (first | (go_at_call 127; refine (checkSwitch_any s hd hsn hsl _ (by omega) (by omega) (L.ss.take k) (by rw [HLA.out]; exact fit_take hk (fun i hi => HZ1.out i (by omega) (by omega))) _ _ _ _ _ (HS.out.alloc _).nm (HS.out.alloc _).bt ((HLi.out.below HB1.out).more HB1.out.size)).mono ?_; rintro e w2 ⟨rfl, hb2⟩; have hS2 := Lib.hid ((HS.out.alloc _).call hb2); have hV2 := Lib.hid (HV1.out.call hb2); obtain ⟨v0, v1, v2⟩ := hV2.out.three) | (at_mapUpdate; refine wpList_update_set _ rfl _ _ _ 155 rfl 9 4 skeys Try.underlying155 Try.underlying4 _ _ _ rfl hS2.out.nm (by unfold maxLen; omega) _ _ rfl rfl HK1.out ?_; intro w3 hs3 hg3; have hS3 := Lib.hid (hS2.out.names hs3 hg3); have hV3 := Lib.hid (hV2.out.grown hg3 (by have := hS2.out.size; have := HS.out.size; simp; omega)); obtain ⟨v0, v1, v2⟩ := hV3.out.three))
        obtain ⟨wo, hwo⟩ : ∃ wo : World, wo = wr := ⟨_, rfl⟩
        subst hwo
        clear hS2 hV2 v0 v1 v2 c0 c1 c2 c3 j0 j1 j2 hs3 hg3 hb2
        go_loopw [39] (fun i wq => ∃ q : Nat, q ≤ s.across.length ∧ i = .int .i64 q ∧ Bk wq wo.heap.size 113 #[.string s.name, .int .i64 s.first, .slice hd.A s.across.length hd.c] ∧
            SwSt w wq #[.string L.name, .slice Aj L.js.length cj, .slice Ab L.bs.length cb, .slice (some a') L.ss.length cs] (k + 1) (1000 * k + q) (fun l => l.sameKey (.string s.name.data.toList) || sNames (L.ss.take k) l) (fun l => (List.range q).any (fun j => l.sameKey (.int .i64 (s.first + j))) || sBent (L.ss.take k) l))
          (fun i _ => s.across.length - (intOf i).toNat)
        case atStart => exact ⟨0, Nat.zero_le _, rfl, hV3.out, ⟨hS3.out.box, hS3.out.res, hS3.out.nm, hS3.out.bt.congr (fun l => by simp), hS3.out.bl⟩⟩
        case round =>
          clear hS3 hV3
          obtain ⟨q, hq, rfl, hV, hQ⟩ := hrel
          have HV := Lib.hid hV
          have HQ := Lib.hid hQ
          clear hV hQ
          obtain ⟨v0, v1, v2⟩ := HV.out.three
          by_cases hlq : q < s.across.length
          · have HK2 := Lib.hid (Maps.keyOf_int_mk (P := Try.prog) Try.underlying3 (a := s.first + q) (q := .i64) (WalkArith.wf_i64 (by omega)))
            go_wp2_with (at_mapUpdate; refine wpList_update_set _ rfl _ _ _ 156 rfl 3 4 ikeys Try.underlying156 Try.underlying4 _ _ _ rfl HQ.out.bt (by unfold maxLen; omega) _ _ rfl rfl HK2.out ?_; intro w5 hs5 hg5)
            go_roundw
            case rel => exact ⟨q + 1, by omega, by go_num, HV.out.grown hg5 (by have := HS.out.size; simp; omega), let r := HQ.out.bent hs5 hg5; ⟨r.box, r.res, r.nm, r.bt.congr (fun l => by simp only [List.range_succ, List.any_append, List.any_cons, List.any_nil, Bool.or_false]; rw [Bool.or_comm ((List.range q).any _), Bool.or_assoc]), r.bl⟩⟩
            case measure => simp [intOf]; omega
          · obtain rfl : q = s.across.length := by omega
            go_wp2_with fail
            go_roundw
            case rel => exact ⟨k + 1, by omega, by go_num, HZ1.out, HQ.out.box, HQ.out.res, (HQ.out.nm.congr (fun l => by rw [HTK.out, sNames_snoc])), ((HQ.out.bt.congr (fun l => by rw [HTK.out, sBent_snoc])).more (by omega)), HQ.out.bl⟩
            case measure => simp [intOf]; omega
      · have ge : (sErr ((L.js.length : Int) - 2 + 1) (L.ss.take k) s != 0) = true := by rw [HLA.out]; simp [he]
        have hr := Lib.hid (sw_hit hlt (fun i hi => HZ.out i hi (by omega)) (by rw [HSS.out]; exact he))
        clear he
        go_wp2_with (go_at_call 127; refine (checkSwitch_any s hd hsn hsl _ (by omega) (by omega) (L.ss.take k) (by rw [HLA.out]; exact fit_take hk (fun i hi => HZ.out i hi (by omega))) _ _ _ _ _ (HS.out.alloc _).nm (HS.out.alloc _).bt ((HLi.out.below HB1.out).more HB1.out.size)).mono ?_; rintro e w2 ⟨rfl, hb2⟩; obtain ⟨d0, d1, f0, f1⟩ := ((HS.out.alloc _).call hb2).res.two)
        refine bodyPost_ret (v := .tuple #[.agg #[.int .i64 3, .int .i64 k], .int .i64 (sErr ((L.js.length : Int) - 2 + 1) (L.ss.take k) s)]) (by clear hr HZ; simp [results, Try.results78, go_sem, d0, d1]) rfl ⟨by rw [hr.out, HLA.out, HSS.out], ?_⟩
        exact ((HS.out.alloc _).call hb2).bl.setCell (by simp) _ |>.setCell (by simp) _
    · have hr := Lib.hid (sw_none (L := L) (fun i hi => HZ.out i (by omega) hi))
      obtain ⟨d0, d1, f0, f1⟩ := HS.out.res.two
      clear HZ
      go_wp2_with fail
      refine bodyPost_ret (v := .tuple #[.agg #[.int .i64 0, .int .i64 0], .int .i64 0]) (by clear hr; simp [results, Try.results78, go_sem, d0, d1]) rfl ⟨by rw [hr.out], ?_⟩
      exact HS.out.bl.setCell (by simp) _ |>.setCell (by simp) _

theorem CheckLine_any (L : Ll) (H : Hds) (hL : L.ok) (w : World) (hA : LnAt w w.heap.size L H) :
    Calls Try.prog 17 #[(.agg #[.string L.name, .slice H.j.A L.js.length H.j.c, .slice H.b.A L.bs.length H.b.c, .slice H.s.A L.ss.length H.s.c])] w fun e w' => e = .returned (.tuple #[.agg #[.int .i64 (ckLine L).1.1, .int .i64 (ckLine L).1.2], .int .i64 (ckLine L).2]) ∧ Below w.heap.size w w' := by
  by_cases h0 : wholeErr L = 0
  · exact CheckLine_on checkSwitches_any L H hL w hA h0
  · exact CheckLine_whole L H hL w h0

theorem CheckLine_at {L : Ll} {m1 m2 er : Int} (hck : ckLine L = ((m1, m2), er)) (H : Hds) (hL : L.ok) (w : World) (hA : LnAt w w.heap.size L H) :
    Calls Try.prog 17 #[(.agg #[.string L.name, .slice H.j.A L.js.length H.j.c, .slice H.b.A L.bs.length H.b.c, .slice H.s.A L.ss.length H.s.c])] w fun e w' => e = .returned (.tuple #[.agg #[.int .i64 m1, .int .i64 m2], .int .i64 er]) ∧ Below w.heap.size w w' := by
  have := CheckLine_any L H hL w hA
  rw [hck] at this
  exact this
theorem Bk.five {w : World} {g : Nat} {t : TypeId} {a b c d x : Value} (h : Bk w g t #[a, b, c, d, x]) : w.cell? ⟨g, 0, none⟩ = some a ∧ w.cell? ⟨g, 1, none⟩ = some b ∧ w.cell? ⟨g, 2, none⟩ = some c ∧ w.cell? ⟨g, 3, none⟩ = some d ∧ w.cell? ⟨g, 4, none⟩ = some x := ⟨h.cell 0, h.cell 1, h.cell 2, h.cell 3, h.cell 4⟩
theorem Bk.free5 {w : World} {g : Nat} {t : TypeId} {cs : Array Value} (h : Bk w g t cs) : w.frozen? ⟨g, 0, none⟩ = false ∧ w.frozen? ⟨g, 1, none⟩ = false ∧ w.frozen? ⟨g, 2, none⟩ = false ∧ w.frozen? ⟨g, 3, none⟩ = false ∧ w.frozen? ⟨g, 4, none⟩ = false := ⟨h.frozen 0, h.frozen 1, h.frozen 2, h.frozen 3, h.frozen 4⟩
theorem Bk.set_ {w : World} {g : Nat} {t : TypeId} {cs : Array Value} (h : Bk w g t cs) (i : Nat) (u : Value) : Bk (w.setCell ⟨g, i, none⟩ u) g t (cs.setIfInBounds i u) := by
  unfold Bk at h ⊢
  simp [World.setCell, Array.getElem?_modify, h]
end Go.Proofs.Ytmnlgeglmkdecaa
