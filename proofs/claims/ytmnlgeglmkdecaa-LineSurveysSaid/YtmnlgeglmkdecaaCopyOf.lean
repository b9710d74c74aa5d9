/-
  The walk of copyOf: a line's copy, in rows of its own.
-/
import Derived.Test.YtmnlgeglmkdecaaClone
import Derived.Test.YtmnlgeglmkdecaaInnA
namespace Go.Proofs.Ytmnlgeglmkdecaa
open Go.RowKit

theorem flat_setS : ∀ (xs : List (Ls × Hd)) (k : Nat) (p : Ls × Hd) (g : Hd), xs[k]? = some p → (xs.flatMap sc).set (k * 3 + 2) (.slice g.A p.1.across.length g.c) = (xs.set k (p.1, g)).flatMap sc
  | [], k, p, g, h => by simp at h
  | x :: l, 0, p, g, h => by
    simp at h
    subst h
    simp [sc]
  | x :: l, k + 1, p, g, h => by
    have ih := flat_setS l k p g (by simpa using h)
    rw [List.flatMap_cons, List.set_cons_succ, List.flatMap_cons, ← ih]
    have e2 : (k + 1) * 3 + 2 = (sc x).length + (k * 3 + 2) := by simp [sc]; omega
    rw [e2, List.set_append_right _ _ (by omega)]
    congr 1
    congr 1
    omega
theorem zip_set {α β : Type} : ∀ (l : List α) (m : List β) (k : Nat) (a : α) (b : β), l[k]? = some a → (l.zip m).set k (a, b) = l.zip (m.set k b)
  | [], m, k, a, b, h => by simp at h
  | x :: l, [], k, a, b, h => by simp
  | x :: l, y :: m, 0, a, b, h => by simp at h; subst h; simp
  | x :: l, y :: m, k + 1, a, b, h => by
    have ih := zip_set l m k a b (by simpa using h)
    simp [ih]

/-- What copyOf's walk holds: the copy's box, its rows, the first so many switches' rows. -/
structure CO (w W : World) (L : Ll) (H G : Hds) (k : Nat) : Prop where
  box : Bk W w.heap.size 26 #[.string L.name, .slice G.j.A L.js.length G.j.c, .slice G.b.A L.bs.length G.b.c, .slice G.s.A L.ss.length G.s.c]
  res : Bk W (w.heap.size + 1) 26 #[.string ⟨#[]⟩, .slice none 0 0, .slice none 0 0, .slice none 0 0]
  j : W.ownsRow (w.heap.size + 2) 56 4 (.slice G.j.A L.js.length G.j.c) L.js.length (L.js.flatMap jc)
  b : W.ownsRow (w.heap.size + 2) 59 2 (.slice G.b.A L.bs.length G.b.c) L.bs.length (L.bs.flatMap bc)
  n : G.each.length = L.ss.length
  s : W.ownsRow (w.heap.size + 2) 113 3 (.slice G.s.A L.ss.length G.s.c) L.ss.length ((L.ss.zip G.each).flatMap sc)
  yes : ∀ (i : Nat) (t : Ls) (h : Hd), i < k → L.ss[i]? = some t → G.each[i]? = some h → W.ownsRow (w.heap.size + 2) 3 1 (.slice h.A t.across.length h.c) t.across.length (ic t.across)
  no : ∀ i, k ≤ i → G.each[i]? = H.each[i]?
  bl : Below w.heap.size w W
  ln : LnAt W w.heap.size L H
section
variable {w W W' : World} {L : Ll} {H G : Hds} {k : Nat}
theorem CO.from (hb : Below W.heap.size W W') (h : CO w W L H G k) : CO w W' L H G k :=
  ⟨h.box.call hb, h.res.call hb, own_below h.j hb, own_below h.b hb, h.n, own_below h.s hb, fun i t x h0 h1 h2 => own_below (h.yes i t x h0 h1 h2) hb, h.no, Below.step h.bl hb, h.ln.below (hb.mono h.bl.size)⟩
theorem CO.row (h : CO w W L H G k) (hn : 0 < L.ss.length) : ∃ g, G.s.A = some ⟨g, 0, none⟩ ∧ w.heap.size + 2 ≤ g ∧ g < W.heap.size := by
  rcases h.s.2 with ⟨_, h0⟩ | ⟨g, cap, cur, e, hb, hg, _⟩
  · omega
  · injection e with e _ _
    exact ⟨g, e, hb, (Array.getElem?_eq_some_iff.1 hg).1⟩
/-- One more switch with a row of its own. -/
theorem CO.put (h : CO w W L H G k) {q : Nat} (hq : G.s.A = some ⟨q, 0, none⟩) (hqB : w.heap.size + 2 ≤ q) {s : Ls} (hs : L.ss[k]? = some s) {x : Hd} (hx : W.ownsRow (w.heap.size + 2) 3 1 (.slice x.A s.across.length x.c) s.across.length (ic s.across)) :
    CO w (W.setCell ⟨q, k * 3 + 2, none⟩ (.slice x.A s.across.length x.c)) L H { G with each := G.each.set k x } (k + 1) := by
  obtain ⟨Gj, Gb, ⟨As, cs⟩, each⟩ := G
  simp only at hq
  subst hq
  have h0 := h.s
  obtain ⟨h1, g1⟩ := h0.stored (k * 3 + 2) (.slice x.A s.across.length x.c)
  have hk : k < L.ss.length := (List.getElem?_eq_some_iff.1 hs).1
  have hke : k < each.length := by have := h.n; simp only at this; omega
  have hz : (L.ss.zip each)[k]? = some (s, each[k]) := by
    rw [List.getElem?_eq_getElem (by rw [List.length_zip]; omega), List.getElem_zip]
    have : L.ss[k] = s := by rw [List.getElem?_eq_getElem hk] at hs; injection hs
    rw [this]
  have hf := flat_setS (L.ss.zip each) k (s, each[k]) x hz
  simp only at hf
  rw [hf, zip_set L.ss each k s x hs] at h1
  have other : ∀ {b n z : Nat} {e : TypeId} {v : Value} {xs : List Value}, e ≠ 113 → W.ownsRow b e z v n xs → (W.setCell ⟨q, k * 3 + 2, none⟩ (.slice x.A s.across.length x.c)).ownsRow b e z v n xs := fun he ho => own_grown ho h0 he g1
  refine ⟨h.box.far (by show w.heap.size ≠ q; omega) _, h.res.far (by show w.heap.size + 1 ≠ q; omega) _, other (by decide) h.j, other (by decide) h.b, by simpa using h.n, h1, ?_, ?_, h.bl.setCell (by show w.heap.size ≤ q; omega) _, h.ln.below (Below.of_set (by show w.heap.size ≤ q; omega))⟩
  · intro i t y hi ht hy
    by_cases e : i = k
    · subst e
      rw [hs] at ht
      injection ht with ht
      subst ht
      rw [List.getElem?_set_self hke] at hy
      injection hy with hy
      subst hy
      exact other (by decide) hx
    · rw [List.getElem?_set_ne (by omega)] at hy
      exact other (by decide) (h.yes i t y (by omega) ht hy)
  · intro i hi
    show (each.set k x)[i]? = _
    rw [List.getElem?_set_ne (by omega)]
    exact h.no i (by omega)
end

set_option maxHeartbeats 8000000 in
set_option maxRecDepth 100000 in
theorem copyOf_own (L : Ll) (H : Hds) (hL : L.ok) (hH : HdsOk H) (w : World) (hA : LnAt w w.heap.size L H) :
    Calls Try.prog 121 #[(.agg #[.string L.name, .slice H.j.A L.js.length H.j.c, .slice H.b.A L.bs.length H.b.c, .slice H.s.A L.ss.length H.s.c])] w fun e w' => ∃ G : Hds, e = .returned (.agg #[.string L.name, .slice G.j.A L.js.length G.j.c, .slice G.b.A L.bs.length G.b.c, .slice G.s.A L.ss.length G.s.c]) ∧ OLn w' w.heap.size L G ∧ Below w.heap.size w w' := by
  have b0 := ((Below.refl w.heap.size w).alloc (Nat.le_refl _) (.cells #[.string L.name, .slice H.j.A L.js.length H.j.c, .slice H.b.A L.bs.length H.b.c, .slice H.s.A L.ss.length H.s.c] 26)).alloc (by simp) (.cells #[.string ⟨#[]⟩, .slice none 0 0, .slice none 0 0, .slice none 0 0] 26)
  have X0 := Lib.hid ((Bk.new w 26 #[.string L.name, .slice H.j.A L.js.length H.j.c, .slice H.b.A L.bs.length H.b.c, .slice H.s.A L.ss.length H.s.c]).alloc (.cells #[.string ⟨#[]⟩, .slice none 0 0, .slice none 0 0, .slice none 0 0] 26))
  have R0 := Lib.hid (Bk.new1 w (.cells #[.string L.name, .slice H.j.A L.js.length H.j.c, .slice H.b.A L.bs.length H.b.c, .slice H.s.A L.ss.length H.s.c] 26) 26 #[.string ⟨#[]⟩, .slice none 0 0, .slice none 0 0, .slice none 0 0])
  have B0 := Lib.hid b0
  have A0 := Lib.hid (hA.below b0)
  have HH := Lib.hid hH
  have HL := Lib.hid hL
  have hns := hL.ns
  have hzn : (L.ss.zip H.each).length = L.ss.length := by rw [List.length_zip, hA.n]; omega
  have HZN := Lib.hid hzn
  have HEN := Lib.hid hA.n
  clear b0 hA hH hL hzn
  go_enter Try.func121, Try.ntmps121
  obtain ⟨x0, x1, x2, x3⟩ := X0.out.four
  go_wp2_with fail
  refine (CloneJ_any L.js H.j HL.out.nj HH.out.j _ (A0.out.j.more B0.out.size)).mono ?_
  rintro e w1 ⟨gj, rfl, oj, bj⟩
  have X1 := Lib.hid (X0.out.call bj)
  have R1 := Lib.hid (R0.out.call bj)
  have B1 := Lib.hid (Below.step B0.out bj)
  have A1 := Lib.hid (A0.out.below (bj.mono B0.out.size))
  have OJ1 : Hid (w1.ownsRow (w.heap.size + 2) 56 4 (.slice gj.A L.js.length gj.c) L.js.length (L.js.flatMap jc)) := Lib.hid (by have h := oj; simp at h; exact h)
  have hz1 : w.heap.size + 2 ≤ w1.heap.size := R1.out.lt
  clear bj oj x0 x1 x2 x3 X0 R0 B0 A0
  obtain ⟨x0, x1, x2, x3⟩ := X1.out.four
  have f1 := X1.out.frozen 1
  have X2 := Lib.hid (X1.out.put 1 (.slice gj.A L.js.length gj.c))
  have R2 := Lib.hid (R1.out.far (p := ⟨w.heap.size, 1, none⟩) (by simp) (.slice gj.A L.js.length gj.c))
  have B2 := Lib.hid (B1.out.setCell (p := ⟨w.heap.size, 1, none⟩) (Nat.le_refl _) (.slice gj.A L.js.length gj.c))
  have A2 := Lib.hid (A1.out.below (Below.of_set (p := ⟨w.heap.size, 1, none⟩) (u := .slice gj.A L.js.length gj.c) (Nat.le_refl _)))
  have OJ2 := Lib.hid (own_far (p := ⟨w.heap.size, 1, none⟩) (u := .slice gj.A L.js.length gj.c) OJ1.out (by show w.heap.size < _; omega))
  obtain ⟨y0, y1, y2, y3⟩ := X2.out.four
  go_wp2_with fail
  clear x0 x1 x2 x3 f1 X1 R1 B1 A1 OJ1
  generalize w1.setCell ⟨w.heap.size, 1, none⟩ (.slice gj.A L.js.length gj.c) = w2 at *
  refine (CloneB_any L.bs H.b HL.out.nb HH.out.b _ (A2.out.b.more B2.out.size)).mono ?_
  rintro e w3 ⟨gb, rfl, ob, bb⟩
  have X3 := Lib.hid (X2.out.call bb)
  have R3 := Lib.hid (R2.out.call bb)
  have B3 := Lib.hid (Below.step B2.out bb)
  have A3 := Lib.hid (A2.out.below (bb.mono B2.out.size))
  have OJ3 := Lib.hid (own_below OJ2.out bb)
  have hz2 : w.heap.size + 2 ≤ w2.heap.size := R2.out.lt
  have OB3 : Hid (w3.ownsRow (w.heap.size + 2) 59 2 (.slice gb.A L.bs.length gb.c) L.bs.length (L.bs.flatMap bc)) := Lib.hid (own_more ob hz2)
  clear bb ob y0 y1 y2 y3 X2 R2 B2 A2 OJ2
  obtain ⟨x0, x1, x2, x3⟩ := X3.out.four
  have f2 := X3.out.frozen 2
  have X4 := Lib.hid (X3.out.put 2 (.slice gb.A L.bs.length gb.c))
  have R4 := Lib.hid (R3.out.far (p := ⟨w.heap.size, 2, none⟩) (by simp) (.slice gb.A L.bs.length gb.c))
  have B4 := Lib.hid (B3.out.setCell (p := ⟨w.heap.size, 2, none⟩) (Nat.le_refl _) (.slice gb.A L.bs.length gb.c))
  have A4 := Lib.hid (A3.out.below (Below.of_set (p := ⟨w.heap.size, 2, none⟩) (u := .slice gb.A L.bs.length gb.c) (Nat.le_refl _)))
  have OJ4 := Lib.hid (own_far (p := ⟨w.heap.size, 2, none⟩) (u := .slice gb.A L.bs.length gb.c) OJ3.out (by show w.heap.size < _; omega))
  have OB4 := Lib.hid (own_far (p := ⟨w.heap.size, 2, none⟩) (u := .slice gb.A L.bs.length gb.c) OB3.out (by show w.heap.size < _; omega))
  obtain ⟨y0, y1, y2, y3⟩ := X4.out.four
  go_wp2_with fail
  clear x0 x1 x2 x3 f2 X3 R3 B3 A3 OJ3 OB3
  generalize w3.setCell ⟨w.heap.size, 2, none⟩ (.slice gb.A L.bs.length gb.c) = w4 at *
  have hcs := CloneS_any (L.ss.zip H.each) H.s (by rw [HZN.out]; exact HL.out.ns) HH.out.s w4 (A4.out.s.more B4.out.size)
  rw [HZN.out] at hcs
  refine hcs.mono ?_
  rintro e w5 ⟨gs, rfl, os, bs⟩
  have hz4 : w.heap.size + 2 ≤ w4.heap.size := R4.out.lt
  have X5 := Lib.hid (X4.out.call bs)
  have R5 := Lib.hid (R4.out.call bs)
  have B5 := Lib.hid (Below.step B4.out bs)
  have A5 := Lib.hid (A4.out.below (bs.mono B4.out.size))
  have OJ5 := Lib.hid (own_below OJ4.out bs)
  have OB5 := Lib.hid (own_below OB4.out bs)
  have OS5 : Hid (w5.ownsRow (w.heap.size + 2) 113 3 (.slice gs.A L.ss.length gs.c) L.ss.length ((L.ss.zip H.each).flatMap sc)) := Lib.hid (own_more os hz4)
  clear bs os hcs y0 y1 y2 y3 X4 R4 B4 A4 OJ4 OB4
  obtain ⟨x0, x1, x2, x3⟩ := X5.out.four
  have f3 := X5.out.frozen 3
  have C0 : Hid (CO w (w5.setCell ⟨w.heap.size, 3, none⟩ (.slice gs.A L.ss.length gs.c)) L H ⟨gj, gb, gs, H.each⟩ 0) := Lib.hid
    ⟨X5.out.put 3 _, R5.out.far (by simp) _, own_far OJ5.out (by show w.heap.size < _; omega), own_far OB5.out (by show w.heap.size < _; omega), HEN.out, own_far OS5.out (by show w.heap.size < _; omega), fun i t h hi => by omega, fun i _ => rfl,
      B5.out.setCell (Nat.le_refl _) _, A5.out.below (Below.of_set (Nat.le_refl _))⟩
  obtain ⟨y0, y1, y2, y3⟩ := C0.out.box.four
  go_wp2_with fail
  clear x0 x1 x2 x3 f3 X5 R5 B5 A5 OJ5 OB5 OS5
  generalize w5.setCell ⟨w.heap.size, 3, none⟩ (.slice gs.A L.ss.length gs.c) = w6 at *
  clear y0 y1 y2 y3
  go_loopw [19] (fun i wr => ∃ (k : Nat) (each : List Hd), k ≤ L.ss.length ∧ i = .int .i64 k ∧ CO w wr L H ⟨gj, gb, gs, each⟩ k) (fun i _ => L.ss.length - (intOf i).toNat)
  case atStart => exact ⟨0, _, Nat.zero_le _, rfl, C0.out⟩
  case round =>
    clear C0
    obtain ⟨k, each, hk, rfl, hC⟩ := hrel
    have C1 := Lib.hid hC
    obtain ⟨x0, x1, x2, x3⟩ := hC.box.four
    clear hC
    by_cases hlt : k < L.ss.length
    · have hlt' : (k : Int) < (L.ss.length : Int) := by omega
      have t1 := IntWalk.i64_in ((k : Int) + 1) (by omega)
      obtain ⟨s, hs⟩ : ∃ s, L.ss[k] = s := ⟨_, rfl⟩
      have hs0 : L.ss[k]? = some s := by rw [List.getElem?_eq_getElem hlt, hs]
      have hke : k < each.length := by have := C1.out.n; simp only at this; omega
      have hkh : k < H.each.length := by rw [HEN.out]; exact hlt
      obtain ⟨hd, hhd⟩ : ∃ hd, H.each[k]? = some hd := ⟨_, List.getElem?_eq_getElem hkh⟩
      have hee : each[k]? = some hd := (C1.out.no k (Nat.le_refl _)).trans hhd
      have hze : (L.ss.zip each)[k]? = some (s, hd) := by
        rw [List.getElem?_eq_getElem (by rw [List.length_zip]; omega), List.getElem_zip, hs]
        rw [List.getElem?_eq_getElem hke] at hee
        injection hee with hee
        rw [hee]
      have HLI := Lib.hid (C1.out.ln.a k s hd hs0 hhd)
      have HDK := Lib.hid (HH.out.each hd (List.mem_of_getElem? hhd))
      have hsl := (HL.out.na s (by rw [← hs]; exact List.getElem_mem hlt)).1
      obtain ⟨q, hq, hqB, hql⟩ := C1.out.row (by omega)
      obtain ⟨a, ha, hab, j0, j1, j2⟩ := (own_lies C1.out.s).1.switch hze
      have hag : a = ⟨q, 0, none⟩ := by rw [hq] at ha; injection ha with ha; exact ha.symm
      obtain ⟨As, cs⟩ := gs
      simp only at ha hq j0 j1 j2
      subst ha
      have HAG := Lib.hid hag
      have HQ := Lib.hid hq
      have HZE := Lib.hid hze
      have HS0 := Lib.hid hs0
      have FZ : Hid (∀ i, wr.frozen? ⟨q, i, none⟩ = false) := Lib.hid (fun i => by
        have h := C1.out.s
        simp only at h
        rw [hag] at h
        exact h.frozenAt i)
      have hsz := C1.out.bl.size
      have hrs := C1.out.res.lt
      clear hs hs0 hke hkh hhd hee hze hag hq
      go_wp2_with fail
      (first | go_region_with (first | (go_at_call 143; refine (CloneI_any s.across hd hsl HDK.out _ (by first | exact HLI.out.more (by omega) | exact (HLI.out.below (Below.refl _ wr).drew).more (by simp; omega))).mono ?_; rintro e w7 ⟨g, rfl, og, b7⟩; have C7 : Hid (CO w w7 L H ⟨gj, gb, ⟨some a, cs⟩, each⟩ k) := Lib.hid (C1.out.from (by first | exact b7 | exact (Below.refl _ wr).drew.trans (b7.mono (by simp)))); have OG : Hid (w7.ownsRow (w.heap.size + 2) 3 1 (.slice g.A s.across.length g.c) s.across.length (ic s.across)) := Lib.hid (own_more og (by first | omega | (simp; omega))); obtain ⟨z0, z1, z2, z3⟩ := C7.out.box.four; have FZ7 : Hid (∀ i, w7.frozen? ⟨q, i, none⟩ = false) := Lib.hid (fun i => by (have h := C7.out.s); (simp only at h); (rw [HAG.out] at h); exact h.frozenAt i); have fz : w7.frozen? ⟨(a.add (k * 3)).block, (a.add (k * 3)).off + 2, none⟩ = false := (by rw [HAG.out, add_zero]; exact FZ7.out _); obtain ⟨a', ha', _, l0, l1, l2⟩ := (own_lies C7.out.s).1.switch HZE.out; (have haa : a = a' := by injection ha'); subst haa; simp only at l0 l1 l2) | fail "arm") | fail "region7")
      all_goals
        go_wp2_with fail
        go_roundw
        case rel =>
          refine ⟨k + 1, each.set k g, by omega, by go_num, ?_⟩
          have h := CO.put C7.out HQ.out hqB HS0.out OG.out
          rw [HAG.out, add_zero]
          rw [HAG.out] at h
          first | exact h | exact h.from (Below.refl _ _).drew | exact (h.from (Below.refl _ _).drew).from (Below.refl _ _).drew
        case measure => simp [intOf]; omega
    · obtain rfl : k = L.ss.length := by omega
      obtain ⟨r0, r1, r2, r3⟩ := C1.out.res.four
      obtain ⟨f0, f1, f2, f3⟩ : _ ∧ _ ∧ _ ∧ _ := ⟨C1.out.res.frozen 0, C1.out.res.frozen 1, C1.out.res.frozen 2, C1.out.res.frozen 3⟩
      have hs : ∀ u : Nat, (⟨w.heap.size + 1, u, none⟩ : Addr).block < w.heap.size + 2 := fun u => by show w.heap.size + 1 < _; omega
      have hs2 : ∀ u : Nat, w.heap.size ≤ (⟨w.heap.size + 1, u, none⟩ : Addr).block := fun u => by show _ ≤ w.heap.size + 1; omega
      have HS := Lib.hid hs
      have HS2 := Lib.hid hs2
      clear hs hs2
      go_wp2_with fail
      refine bodyPost_ret (v := .agg #[.string L.name, .slice gj.A L.js.length gj.c, .slice gb.A L.bs.length gb.c, .slice gs.A L.ss.length gs.c]) (by simp [results, Try.results121, go_sem, r0, r1, r2, r3]) rfl ⟨⟨gj, gb, gs, each⟩, rfl, ?_, ?_⟩
      · have o : OLn wr (w.heap.size + 2) L ⟨gj, gb, gs, each⟩ := ⟨C1.out.j, C1.out.b, C1.out.n, C1.out.s, fun i t x h1 h2 => C1.out.yes i t x (List.getElem?_eq_some_iff.1 h1).1 h1 h2⟩
        have o2 := (((o.far (p := ⟨w.heap.size + 1, 0, none⟩) (HS.out 0) (.string L.name)).far (p := ⟨w.heap.size + 1, 1, none⟩) (HS.out 1) (.slice gj.A L.js.length gj.c)).far (p := ⟨w.heap.size + 1, 2, none⟩) (HS.out 2) (.slice gb.A L.bs.length gb.c)).far (p := ⟨w.heap.size + 1, 3, none⟩) (HS.out 3) (.slice gs.A L.ss.length gs.c)
        exact ⟨own_more o2.j (by omega), own_more o2.b (by omega), o2.n, own_more o2.s (by omega), fun i t x h1 h2 => own_more (o2.a i t x h1 h2) (by omega)⟩
      · exact (((C1.out.bl.setCell (p := ⟨w.heap.size + 1, 0, none⟩) (HS2.out 0) _).setCell (p := ⟨w.heap.size + 1, 1, none⟩) (HS2.out 1) _).setCell (p := ⟨w.heap.size + 1, 2, none⟩) (HS2.out 2) _).setCell (p := ⟨w.heap.size + 1, 3, none⟩) (HS2.out 3) _
end Go.Proofs.Ytmnlgeglmkdecaa
