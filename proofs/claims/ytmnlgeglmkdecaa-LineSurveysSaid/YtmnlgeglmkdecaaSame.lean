/-
  The walks of Ints and Same where both are the same.
-/
import Derived.Test.YtmnlgeglmkdecaaCopyOf
import Derived.Test.YtmnlgeglmkdecaaOpen
import Derived.Deep.DeepCutAuto
import Derived.Deep.CutRange
namespace Go.Proofs.Ytmnlgeglmkdecaa
open Go.RowKit

set_option maxRecDepth 100000 in
set_option maxHeartbeats 2000000 in
theorem Ints_same (l : List Int) (h h' : Hd) (hl : l.length ≤ 1000) (w : World) (hA : Lies w w.heap.size h.A (ic l)) (hA' : Lies w w.heap.size h'.A (ic l)) :
    Calls Try.prog 49 #[.slice h.A l.length h.c, .slice h'.A l.length h'.c] w fun e w' => e = .returned (.bool true) ∧ Below w.heap.size w w' := by
  have HA := Lib.hid hA
  have HA' := Lib.hid hA'
  clear hA hA'
  go_enter Try.func49, Try.ntmps49
  go_wp2_with fail
  go_loopw [5] (fun i wr => ∃ k : Nat, k ≤ l.length ∧ i = .int .i64 k ∧ Below w.heap.size w wr) (fun i _ => l.length - (intOf i).toNat)
  case atStart => exact ⟨0, Nat.zero_le _, rfl, Below.refl _ _⟩
  case round =>
    obtain ⟨k, hk, rfl, hb⟩ := hrel
    have HB := Lib.hid hb
    clear hb
    by_cases hlt : k < l.length
    · have hlt' : (k : Int) < (l.length : Int) := by omega
      have t1 := IntWalk.i64_in ((k : Int) + 1) (by omega)
      obtain ⟨x, hx⟩ : ∃ x, l[k]? = some x := ⟨_, List.getElem?_eq_getElem hlt⟩
      obtain ⟨a, ha, _, y⟩ := (HA.out.below HB.out).num hx
      obtain ⟨a', ha', _, y'⟩ := (HA'.out.below HB.out).num hx
      obtain ⟨A, c⟩ := h
      obtain ⟨A', c'⟩ := h'
      simp only at ha ha'
      subst ha
      subst ha'
      clear hx
      go_wp2_with fail
      (first | go_region | fail "region")
      all_goals
        go_wp2_with fail
        go_roundw
        case rel => exact ⟨k + 1, by omega, by go_num, by first | exact HB.out | exact HB.out.drew | exact HB.out.drew.drew | exact below_drewN HB.out _⟩
        case measure => simp [intOf]; omega
    · obtain rfl : k = l.length := by omega
      go_wp2_with fail
      go_ret
      exact ⟨rfl, HB.out⟩

/-- A line of few parts. -/
structure Ll.small (L : Ll) : Prop where
  nj : L.js.length ≤ 1000
  nb : L.bs.length ≤ 1000
  ns : L.ss.length ≤ 1000
  na : ∀ s ∈ L.ss, s.across.length ≤ 1000 ∧ s.name.size ≤ 1000
/-- Two lines' boxes, and the lines in memory: the same line. -/
structure SM (w W : World) (L : Ll) (H G : Hds) : Prop where
  b1 : Bk W w.heap.size 26 #[.string L.name, .slice H.j.A L.js.length H.j.c, .slice H.b.A L.bs.length H.b.c, .slice H.s.A L.ss.length H.s.c]
  b2 : Bk W (w.heap.size + 1) 26 #[.string L.name, .slice G.j.A L.js.length G.j.c, .slice G.b.A L.bs.length G.b.c, .slice G.s.A L.ss.length G.s.c]
  l1 : LnAt W w.heap.size L H
  l2 : LnAt W w.heap.size L G
  bl : Below w.heap.size w W
section
variable {w W W' : World} {L : Ll} {H G : Hds}
theorem SM.from (hb : Below W.heap.size W W') (h : SM w W L H G) : SM w W' L H G := ⟨h.b1.call hb, h.b2.call hb, h.l1.below (hb.mono h.bl.size), h.l2.below (hb.mono h.bl.size), Below.step h.bl hb⟩
theorem SM.drew (h : SM w W L H G) : SM w W.drew L H G := h.from (Below.refl _ W).drew
theorem SM.alloc (h : SM w W L H G) (o : Obj) : SM w (W.alloc o) L H G := h.from ((Below.refl _ W).alloc (Nat.le_refl _) o)
theorem SM.set (h : SM w W L H G) {p : Addr} (hp : w.heap.size + 2 ≤ p.block) (u : Value) : SM w (W.setCell p u) L H G :=
  ⟨h.b1.far (by omega) u, h.b2.far (by omega) u, h.l1.below ((Below.refl _ W).setCell (by omega) u), h.l2.below ((Below.refl _ W).setCell (by omega) u), h.bl.setCell (by omega) u⟩
end

set_option maxRecDepth 100000 in
set_option maxHeartbeats 8000000 in
theorem Same_any {L : Ll} (hL : L.small) (H G : Hds) (w : World) (hA : LnAt w w.heap.size L H) (hA' : LnAt w w.heap.size L G) :
    Calls Try.prog 68 #[(.agg #[.string L.name, .slice H.j.A L.js.length H.j.c, .slice H.b.A L.bs.length H.b.c, .slice H.s.A L.ss.length H.s.c]), .agg #[.string L.name, .slice G.j.A L.js.length G.j.c, .slice G.b.A L.bs.length G.b.c, .slice G.s.A L.ss.length G.s.c]] w fun e w' => e = .returned (.bool true) ∧ Below w.heap.size w w' := by
  have b0 := ((Below.refl w.heap.size w).alloc (Nat.le_refl _) (.cells #[.string L.name, .slice H.j.A L.js.length H.j.c, .slice H.b.A L.bs.length H.b.c, .slice H.s.A L.ss.length H.s.c] 26)).alloc (by simp) (.cells #[.string L.name, .slice G.j.A L.js.length G.j.c, .slice G.b.A L.bs.length G.b.c, .slice G.s.A L.ss.length G.s.c] 26)
  have S0 : Hid (SM w ((w.alloc (.cells #[.string L.name, .slice H.j.A L.js.length H.j.c, .slice H.b.A L.bs.length H.b.c, .slice H.s.A L.ss.length H.s.c] 26)).alloc (.cells #[.string L.name, .slice G.j.A L.js.length G.j.c, .slice G.b.A L.bs.length G.b.c, .slice G.s.A L.ss.length G.s.c] 26)) L H G) := Lib.hid ⟨(Bk.new w _ _).alloc _, Bk.new1 w _ _ _, hA.below b0, hA'.below b0, b0⟩
  have HL := Lib.hid hL
  have nj := hL.nj
  have nb := hL.nb
  have ns := hL.ns
  clear b0 hA hA' hL
  go_enter Try.func68, Try.ntmps68
  obtain ⟨x0, x1, x2, x3⟩ := S0.out.b1.four
  obtain ⟨y0, y1, y2, y3⟩ := S0.out.b2.four
  go_wp2_with fail
  clear x0 x1 x2 x3 y0 y1 y2 y3
  go_loopw [5] (fun i wr => ∃ k : Nat, k ≤ L.js.length ∧ i = .int .i64 k ∧ SM w wr L H G) (fun i _ => L.js.length - (intOf i).toNat)
  case atStart => exact ⟨0, Nat.zero_le _, rfl, S0.out⟩
  case round =>
    clear S0
    obtain ⟨k, hk, rfl, hS⟩ := hrel
    have S1 := Lib.hid hS
    clear hS
    obtain ⟨x0, x1, x2, x3⟩ := S1.out.b1.four
    obtain ⟨y0, y1, y2, y3⟩ := S1.out.b2.four
    by_cases hlt : k < L.js.length
    · have hlt' : (k : Int) < (L.js.length : Int) := by omega
      have t1 := IntWalk.i64_in ((k : Int) + 1) (by omega)
      obtain ⟨x, hx⟩ : ∃ x, L.js[k]? = some x := ⟨_, List.getElem?_eq_getElem hlt⟩
      obtain ⟨a, ha, _, u0, u1, u2, u3⟩ := S1.out.l1.j.joint hx
      obtain ⟨a', ha', _, z0, z1, z2, z3⟩ := S1.out.l2.j.joint hx
      obtain ⟨⟨A, c⟩, Hb, Hs, each⟩ := H
      obtain ⟨⟨A', c'⟩, Gb, Gs, each'⟩ := G
      simp only at ha ha'
      subst ha
      subst ha'
      clear hx
      go_wp2_with fail
      (first | go_region | fail "region")
      all_goals
        go_wp2_with fail
        go_roundw
        case rel => exact ⟨k + 1, by omega, by go_num, by first | exact S1.out | exact S1.out.drew | exact S1.out.drew.drew⟩
        case measure => simp [intOf]; omega
    · obtain rfl : k = L.js.length := by omega
      go_wp2_with fail
      clear x0 x1 x2 x3 y0 y1 y2 y3
      go_loopw [6] (fun i wr => ∃ k : Nat, k ≤ L.bs.length ∧ i = .int .i64 k ∧ SM w wr L H G) (fun i _ => L.bs.length - (intOf i).toNat)
      case atStart => exact ⟨0, Nat.zero_le _, rfl, S1.out⟩
      case round =>
        clear S1
        obtain ⟨k, hk, rfl, hS⟩ := hrel
        have S1 := Lib.hid hS
        clear hS
        obtain ⟨x0, x1, x2, x3⟩ := S1.out.b1.four
        obtain ⟨y0, y1, y2, y3⟩ := S1.out.b2.four
        by_cases hlt : k < L.bs.length
        · have hlt' : (k : Int) < (L.bs.length : Int) := by omega
          have t1 := IntWalk.i64_in ((k : Int) + 1) (by omega)
          obtain ⟨x, hx⟩ : ∃ x, L.bs[k]? = some x := ⟨_, List.getElem?_eq_getElem hlt⟩
          obtain ⟨a, ha, _, u0, u1⟩ := S1.out.l1.b.beam hx
          obtain ⟨a', ha', _, z0, z1⟩ := S1.out.l2.b.beam hx
          obtain ⟨Hj, ⟨A, c⟩, Hs, each⟩ := H
          obtain ⟨Gj, ⟨A', c'⟩, Gs, each'⟩ := G
          simp only at ha ha'
          subst ha
          subst ha'
          clear hx
          go_wp2_with fail
          (first | go_region | fail "region")
          all_goals
            go_wp2_with fail
            go_roundw
            case rel => exact ⟨k + 1, by omega, by go_num, by first | exact S1.out | exact S1.out.drew | exact S1.out.drew.drew⟩
            case measure => simp [intOf]; omega
        · obtain rfl : k = L.bs.length := by omega
          go_wp2_with fail
          clear x0 x1 x2 x3 y0 y1 y2 y3
          go_loopw [7] (fun i wr => ∃ k : Nat, k ≤ L.ss.length ∧ i = .int .i64 k ∧ SM w wr L H G) (fun i _ => L.ss.length - (intOf i).toNat)
          case atStart => exact ⟨0, Nat.zero_le _, rfl, S1.out⟩
          case round =>
            clear S1
            obtain ⟨k, hk, rfl, hS⟩ := hrel
            have S1 := Lib.hid hS
            clear hS
            obtain ⟨x0, x1, x2, x3⟩ := S1.out.b1.four
            obtain ⟨y0, y1, y2, y3⟩ := S1.out.b2.four
            by_cases hlt : k < L.ss.length
            · have hlt' : (k : Int) < (L.ss.length : Int) := by omega
              have t1 := IntWalk.i64_in ((k : Int) + 1) (by omega)
              obtain ⟨s, hs⟩ : ∃ s, L.ss[k]? = some s := ⟨_, List.getElem?_eq_getElem hlt⟩
              have he1 : k < H.each.length := by rw [S1.out.l1.n]; exact hlt
              have he2 : k < G.each.length := by rw [S1.out.l2.n]; exact hlt
              obtain ⟨h1, hh1⟩ : ∃ x, H.each[k]? = some x := ⟨_, List.getElem?_eq_getElem he1⟩
              obtain ⟨h2, hh2⟩ : ∃ x, G.each[k]? = some x := ⟨_, List.getElem?_eq_getElem he2⟩
              have zz : ∀ (ee : List Hd) (x : Hd), ee[k]? = some x → (L.ss.zip ee)[k]? = some (s, x) := fun ee x hx => by
                rw [List.getElem?_zip_eq_some]
                exact ⟨hs, hx⟩
              obtain ⟨a, ha, _, u0, u1, u2⟩ := S1.out.l1.s.switch (zz _ _ hh1)
              obtain ⟨a', ha', _, z0, z1, z2⟩ := S1.out.l2.s.switch (zz _ _ hh2)
              have hsl := (HL.out.na s (List.mem_of_getElem? hs)).1
              obtain ⟨Hj, Hb, ⟨A, c⟩, each⟩ := H
              obtain ⟨Gj, Gb, ⟨A', c'⟩, each'⟩ := G
              simp only at ha ha' u0 u1 u2 z0 z1 z2
              subst ha
              subst ha'
              have hsz := S1.out.b2.lt
              have HS := Lib.hid hs
              have HH1 : Hid (each[k]? = some h1) := Lib.hid hh1
              have HH2 : Hid (each'[k]? = some h2) := Lib.hid hh2
              have HALL : Hid (∀ W : World, SM w W L ⟨Hj, Hb, ⟨some a, c⟩, each⟩ ⟨Gj, Gb, ⟨some a', c'⟩, each'⟩ → SM w W L ⟨Hj, Hb, ⟨some a, c⟩, each⟩ ⟨Gj, Gb, ⟨some a', c'⟩, each'⟩ ∧ W.cell? ⟨w.heap.size, 3, none⟩ = some (.slice (some a) L.ss.length c) ∧ W.cell? ⟨w.heap.size + 1, 3, none⟩ = some (.slice (some a') L.ss.length c') ∧ W.cell? (a.add (k * 3)) = some (.string s.name) ∧ W.cell? ⟨(a.add (k * 3)).block, (a.add (k * 3)).off + 1, none⟩ = some (.int .i64 s.first) ∧ W.cell? ⟨(a.add (k * 3)).block, (a.add (k * 3)).off + 2, none⟩ = some (.slice h1.A s.across.length h1.c) ∧ W.cell? (a'.add (k * 3)) = some (.string s.name) ∧ W.cell? ⟨(a'.add (k * 3)).block, (a'.add (k * 3)).off + 1, none⟩ = some (.int .i64 s.first) ∧ W.cell? ⟨(a'.add (k * 3)).block, (a'.add (k * 3)).off + 2, none⟩ = some (.slice h2.A s.across.length h2.c)) := Lib.hid (fun W h => by
                obtain ⟨b, hb, _, i0, i1, i2⟩ := h.l1.s.switch (zz _ _ hh1)
                obtain ⟨b', hb', _, j0, j1, j2⟩ := h.l2.s.switch (zz _ _ hh2)
                simp only at hb hb' i0 i1 i2 j0 j1 j2
                injection hb with hb
                injection hb' with hb'
                subst hb
                subst hb'
                exact ⟨h, h.b1.cell 3, h.b2.cell 3, i0, i1, i2, j0, j1, j2⟩)
              clear hs hh1 hh2 zz he1 he2
              go_upto_region 16 with fail
              go_cut [8, 9] from 78 to 114 (fun s8 s9 wx => ∃ g8 g9 : Nat, s8 = .pointer (some ⟨g8, 0, none⟩) ∧ s9 = .pointer (some ⟨g9, 0, none⟩) ∧ SM w wx L ⟨Hj, Hb, ⟨some a, c⟩, each⟩ ⟨Gj, Gb, ⟨some a', c'⟩, each'⟩ ∧
                wx.cell? ⟨g8, 0, none⟩ = some (.string s.name) ∧ wx.cell? ⟨g8, 1, none⟩ = some (.int .i64 s.first) ∧ wx.cell? ⟨g8, 2, none⟩ = some (.slice h1.A s.across.length h1.c) ∧
                wx.cell? ⟨g9, 0, none⟩ = some (.string s.name) ∧ wx.cell? ⟨g9, 1, none⟩ = some (.int .i64 s.first) ∧ wx.cell? ⟨g9, 2, none⟩ = some (.slice h2.A s.across.length h2.c))
              case first =>
                go_region_held3 (fun W => SM w W L ⟨Hj, Hb, ⟨some a, c⟩, each⟩ ⟨Gj, Gb, ⟨some a', c'⟩, each'⟩ ∧ W.cell? ⟨w.heap.size, 3, none⟩ = some (.slice (some a) L.ss.length c) ∧ W.cell? ⟨w.heap.size + 1, 3, none⟩ = some (.slice (some a') L.ss.length c') ∧ W.cell? (a.add (k * 3)) = some (.string s.name) ∧ W.cell? ⟨(a.add (k * 3)).block, (a.add (k * 3)).off + 1, none⟩ = some (.int .i64 s.first) ∧ W.cell? ⟨(a.add (k * 3)).block, (a.add (k * 3)).off + 2, none⟩ = some (.slice h1.A s.across.length h1.c) ∧ W.cell? (a'.add (k * 3)) = some (.string s.name) ∧ W.cell? ⟨(a'.add (k * 3)).block, (a'.add (k * 3)).off + 1, none⟩ = some (.int .i64 s.first) ∧ W.cell? ⟨(a'.add (k * 3)).block, (a'.add (k * 3)).off + 2, none⟩ = some (.slice h2.A s.across.length h2.c))
                  ((go_split_ands; refine HALL.out _ ?_; (first | assumption | exact S1.out.drew | (repeat (first | assumption | exact S1.out | refine SM.alloc ?_ _ | refine SM.drew ?_ | (refine SM.set ?_ (by first | omega | (simp; done) | (simp; omega)) _)))); done))
                  (fail "arm")
                all_goals
                  go_split_ands
                  go_wp2_with fail
                  go_meet
                  refine ⟨_, _, rfl, rfl, by assumption, ?_, ?_, ?_, ?_, ?_, ?_⟩
                all_goals (first | (go_simp; done) | (simp [*]; done) | skip)
              case rest =>
                obtain ⟨g8, g9, rfl, rfl, hS2, p0, p1, p2, q0, q1, q2⟩ := hcut
                have S2 := Lib.hid hS2
                clear hS2 x0 x1 x2 x3 y0 y1 y2 y3 u0 u1 u2 z0 z1 z2 S1
                have J1 := Lib.hid ((S2.out.l1.a k s h1 HS.out HH1.out).more S2.out.bl.size)
                have J2 := Lib.hid ((S2.out.l2.a k s h2 HS.out HH2.out).more S2.out.bl.size)
                go_wp2_with fail
                refine (Ints_same s.across h1 h2 hsl _ J1.out J2.out).mono ?_
                rintro e w5 ⟨rfl, hb5⟩
                have S3 := Lib.hid (SM.from hb5 S2.out)
                clear hb5
                go_wp2_with fail
                go_roundw
                case rel => exact ⟨k + 1, by omega, by go_num, S3.out⟩
                case measure => simp [intOf]; omega
            · obtain rfl : k = L.ss.length := by omega
              go_wp2_with fail
              go_ret
              exact ⟨rfl, S1.out.bl⟩
end Go.Proofs.Ytmnlgeglmkdecaa
