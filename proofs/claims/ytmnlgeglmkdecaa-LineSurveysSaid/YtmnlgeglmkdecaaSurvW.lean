/-
  The walks of Warmed, the reference's and the program's.
-/
import Derived.Test.YtmnlgeglmkdecaaSurv
namespace Go.Proofs.Ytmnlgeglmkdecaa
open Go.RowKit

theorem warm_step {w W : World} {L : Ll} {G : Hds} {gp : Hd} {bs : List Int} {by_ : Int} {k g : Nat} {j : Lj} (h : IF w W L (warmS by_ L.js k) G gp bs) (hg : G.j.A = some ⟨g, 0, none⟩) (hgB : w.heap.size + 2 ≤ g) (hj : L.js[k]? = some j) (lo hi : Int)
    (e1 : lo = max (j.lo - by_) (-100)) (e2 : hi = min (j.hi + by_) 100) :
    IF w ((W.setCell ⟨g, k * 4 + 2, none⟩ (.int .i64 lo)).setCell ⟨g, k * 4 + 3, none⟩ (.int .i64 hi)) L (warmS by_ L.js (k + 1)) G gp bs := by
  have hjs : (warmS by_ L.js k)[k]? = some j := (warmS_far by_ L.js k k (Nat.le_refl _)).trans hj
  have h1 := h.setG hg hgB hjs lo hi
  rw [warmS_succ hj]
  unfold warmJ
  rw [← e1, ← e2]
  exact h1

set_option maxHeartbeats 8000000 in
set_option maxRecDepth 100000 in
theorem refWarmed_any {L : Ll} (hr : Right L) (H : Hds) (hL : L.ok) (hH : HdsOk H) (by_ : Int) (hy : 0 ≤ by_ ∧ by_ ≤ 100) (w : World) (hA : LnAt w w.heap.size L H) :
    Calls Try.prog 69 #[(.agg #[.string L.name, .slice H.j.A L.js.length H.j.c, .slice H.b.A L.bs.length H.b.c, .slice H.s.A L.ss.length H.s.c]), .int .i64 by_] w fun e w' => ∃ G : Hds, e = .returned (.agg #[.string L.name, .slice G.j.A L.js.length G.j.c, .slice G.b.A L.bs.length G.b.c, .slice G.s.A L.ss.length G.s.c]) ∧ LnAt w' w'.heap.size (withJ L (warmS by_ L.js L.js.length)) G ∧ Below w.heap.size w w' := by
  have b0 := ((Below.refl w.heap.size w).alloc (Nat.le_refl _) (.cells #[.string L.name, .slice H.j.A L.js.length H.j.c, .slice H.b.A L.bs.length H.b.c, .slice H.s.A L.ss.length H.s.c] 26)).alloc (by simp) (.cells #[.string ⟨#[]⟩, .slice none 0 0, .slice none 0 0, .slice none 0 0] 26)
  have X0 := Lib.hid ((Bk.new w 26 #[.string L.name, .slice H.j.A L.js.length H.j.c, .slice H.b.A L.bs.length H.b.c, .slice H.s.A L.ss.length H.s.c]).alloc (.cells #[.string ⟨#[]⟩, .slice none 0 0, .slice none 0 0, .slice none 0 0] 26))
  have R0 := Lib.hid (Bk.new1 w (.cells #[.string L.name, .slice H.j.A L.js.length H.j.c, .slice H.b.A L.bs.length H.b.c, .slice H.s.A L.ss.length H.s.c] 26) 26 #[.string ⟨#[]⟩, .slice none 0 0, .slice none 0 0, .slice none 0 0])
  have B0 := Lib.hid b0
  have HA := Lib.hid ((hA.below b0).more b0.size)
  have HR := Lib.hid hr
  have HH := Lib.hid hH
  have HL := Lib.hid hL
  have h40 := hr.most
  have h1 := hr.one
  have hjb := hr.jb
  have hjl : 0 < L.js.length ∧ L.js.length ≤ 41 := by omega
  obtain ⟨hy0, hy1⟩ := hy
  clear b0 hA hr hH hL hjb h40 h1
  go_enter Try.func69, Try.ntmps69
  obtain ⟨x0, x1, x2, x3⟩ := X0.out.four
  go_wp2_with fail
  refine (Copy_own L H HL.out HH.out _ HA.out).mono ?_
  rintro e w1 ⟨G, rfl, ho, hb1⟩
  have X1 := Lib.hid (X0.out.call hb1)
  have R1 := Lib.hid (R0.out.call hb1)
  have O1 := Lib.hid ho
  have B1 := Lib.hid (Below.step B0.out hb1)
  clear hb1 ho x0 x1 x2 x3 X0 R0 B0 HA
  obtain ⟨x0, x1, x2, x3⟩ := X1.out.four
  obtain ⟨f0, f1, f2, f3⟩ : _ ∧ _ ∧ _ ∧ _ := ⟨X1.out.frozen 0, X1.out.frozen 1, X1.out.frozen 2, X1.out.frozen 3⟩
  have S1 : Hid (IF w ((((w1.setCell ⟨w.heap.size, 0, none⟩ (.string L.name)).setCell ⟨w.heap.size, 1, none⟩ (.slice G.j.A L.js.length G.j.c)).setCell ⟨w.heap.size, 2, none⟩ (.slice G.b.A L.bs.length G.b.c)).setCell ⟨w.heap.size, 3, none⟩ (.slice G.s.A L.ss.length G.s.c)) L L.js G ⟨none, 0⟩ []) := Lib.hid (by
    have o : OLn w1 (w.heap.size + 2) L G := by have h := O1.out; simp at h; exact h
    exact ⟨(((X1.out.put 0 _).put 1 _).put 2 _).put 3 _, (((R1.out.far (by simp) _).far (by simp) _).far (by simp) _).far (by simp) _,
      (((o.far (by show w.heap.size < _; omega) _).far (by show w.heap.size < _; omega) _).far (by show w.heap.size < _; omega) _).far (by show w.heap.size < _; omega) _,
      (((B1.out.setCell (Nat.le_refl _) _).setCell (Nat.le_refl _) _).setCell (Nat.le_refl _) _).setCell (Nat.le_refl _) _, Lies.nil, rfl⟩)
  go_wp2_with fail
  generalize ((((w1.setCell ⟨w.heap.size, 0, none⟩ (.string L.name)).setCell ⟨w.heap.size, 1, none⟩ (.slice G.j.A L.js.length G.j.c)).setCell ⟨w.heap.size, 2, none⟩ (.slice G.b.A L.bs.length G.b.c)).setCell ⟨w.heap.size, 3, none⟩ (.slice G.s.A L.ss.length G.s.c)) = w2 at *
  clear x0 x1 x2 x3 f0 f1 f2 f3 X1 R1 O1 B1
  go_loopw [5] (fun i wr => ∃ k : Nat, k ≤ L.js.length ∧ i = .int .i64 k ∧ IF w wr L (warmS by_ L.js k) G ⟨none, 0⟩ []) (fun i _ => L.js.length - (intOf i).toNat)
  case atStart => exact ⟨0, Nat.zero_le _, rfl, S1.out⟩
  case round =>
    clear S1
    obtain ⟨k, hk, rfl, hS⟩ := hrel
    have S2 := Lib.hid hS
    obtain ⟨x0, x1, x2, x3⟩ := hS.box.four
    clear hS
    by_cases hlt : k < L.js.length
    · have hlt' : (k : Int) < (L.js.length : Int) := by omega
      obtain ⟨j, hj⟩ : ∃ j, L.js[k]? = some j := ⟨_, List.getElem?_eq_getElem hlt⟩
      have hjs : (warmS by_ L.js k)[k]? = some j := (warmS_far by_ L.js k k (Nat.le_refl _)).trans hj
      obtain ⟨j0, j1, j2, j3, j4, j5, j6⟩ := joint_in (HR.out.j j (List.mem_of_getElem? hj))
      obtain ⟨g, hg, hgB, hgl⟩ := S2.out.own.row (by show 0 < (warmS by_ L.js k).length; rw [warmS_len]; exact hjl.1)
      obtain ⟨a, ha, hab, y0, y1, y2, y3⟩ := S2.out.own.at_.j.joint hjs
      have hag : a = ⟨g, 0, none⟩ := by rw [hg] at ha; injection ha with ha; exact ha.symm
      obtain ⟨⟨Aj, cj⟩, Gb, Gs, each⟩ := G
      simp only at ha hg
      subst ha
      have HAG := Lib.hid hag
      have HG := Lib.hid hg
      have HJ := Lib.hid hj
      have HJS := Lib.hid hjs
      obtain ⟨x, hx⟩ : ∃ m, j.lo - by_ = m := ⟨_, rfl⟩
      obtain ⟨y, hyy⟩ : ∃ m, j.hi + by_ = m := ⟨_, rfl⟩
      obtain ⟨jl, hjlo⟩ : ∃ m, j.lo = m := ⟨_, rfl⟩
      obtain ⟨jh, hjhi⟩ : ∃ m, j.hi = m := ⟨_, rfl⟩
      rw [hjlo] at hx y2
      rw [hjhi] at hyy y3
      have t1 : IntKind.i64.wrap (jl - by_) = x := (IntWalk.i64_in _ (by omega)).trans hx
      have t2 : IntKind.i64.wrap (jh + by_) = y := (IntWalk.i64_in _ (by omega)).trans hyy
      have t3 := IntWalk.i64_in ((k : Int) + 1) (by omega)
      have HX := Lib.hid hx
      have HY := Lib.hid hyy
      have HJL := Lib.hid hjlo
      have HJH := Lib.hid hjhi
      clear hjlo hjhi hj hjs hag hg j0 j1 j2 j3 j4 j5 j6 hx hyy
      have S3 : Hid (IF w (wr.alloc (.cells #[.int .i64 jl, .int .i64 jh] 54)) L (warmS by_ L.js k) ⟨⟨some a, cj⟩, Gb, Gs, each⟩ ⟨none, 0⟩ []) := Lib.hid (S2.out.from ((Below.refl _ wr).alloc (Nat.le_refl _) _))
      have D3 := Lib.hid (Bk.new wr 54 #[.int .i64 jl, .int .i64 jh])
      obtain ⟨a', ha', _, _, _, z2, z3⟩ := S3.out.own.at_.j.joint HJS.out
      simp only at ha'
      injection ha' with ha'
      subst ha'
      have FZ3 : Hid (∀ i, (wr.alloc (.cells #[.int .i64 jl, .int .i64 jh] 54)).frozen? ⟨g, i, none⟩ = false) := Lib.hid (fun i => by
        have h := S3.out.own.j
        simp only at h
        rw [HAG.out] at h
        exact h.frozenAt i)
      obtain ⟨fz2, fz3⟩ : (wr.alloc (.cells #[.int .i64 jl, .int .i64 jh] 54)).frozen? ⟨(a.add (k * 4)).block, (a.add (k * 4)).off + 2, none⟩ = false ∧ (wr.alloc (.cells #[.int .i64 jl, .int .i64 jh] 54)).frozen? ⟨(a.add (k * 4)).block, (a.add (k * 4)).off + 3, none⟩ = false := by
        rw [HAG.out, add_zero]
        exact ⟨FZ3.out _, FZ3.out _⟩
      obtain ⟨w0, w1', w2', w3'⟩ := S3.out.box.four
      obtain ⟨d0, d1', _, _⟩ := D3.out.two
      rcases (show (-100 < x ∧ ¬ x < -100) ∨ (x < -100 ∧ ¬ -100 < x) ∨ (¬ -100 < x ∧ ¬ x < -100) by omega) with ⟨h1, h2⟩ | ⟨h1, h2⟩ | ⟨h1, h2⟩ <;> rcases (show (100 < y ∧ ¬ y < 100) ∨ (y < 100 ∧ ¬ 100 < y) ∨ (¬ 100 < y ∧ ¬ y < 100) by omega) with ⟨h3, h4⟩ | ⟨h3, h4⟩ | ⟨h3, h4⟩
      all_goals
        have Q1 := Lib.hid h1
        have Q2 := Lib.hid h2
        have Q3 := Lib.hid h3
        have Q4 := Lib.hid h4
        go_wp2_with fail
        go_roundw
        case rel =>
          refine ⟨k + 1, by omega, by go_num, ?_⟩
          have hE := fun lo hi => warm_step (by_ := by_) S3.out HG.out hgB HJ.out lo hi
          rw [HAG.out] at hE
          rw [HAG.out, add_zero]
          exact hE _ _ (by have := HX.out; have := HJL.out; have := Q1.out; have := Q2.out; omega) (by have := HY.out; have := HJH.out; have := Q3.out; have := Q4.out; omega)
        case measure => simp [intOf]; omega
    · obtain rfl : k = L.js.length := by omega
      obtain ⟨r0, r1, r2, r3⟩ := S2.out.res.four
      obtain ⟨f0, f1, f2, f3⟩ : _ ∧ _ ∧ _ ∧ _ := ⟨S2.out.res.frozen 0, S2.out.res.frozen 1, S2.out.res.frozen 2, S2.out.res.frozen 3⟩
      have hs : ∀ u : Nat, (⟨w.heap.size + 1, u, none⟩ : Addr).block < w.heap.size + 2 := fun u => by show w.heap.size + 1 < _; omega
      have hs2 : ∀ u : Nat, w.heap.size ≤ (⟨w.heap.size + 1, u, none⟩ : Addr).block := fun u => by show _ ≤ w.heap.size + 1; omega
      have HS := Lib.hid hs
      have HS2 := Lib.hid hs2
      clear hs hs2
      go_wp2_with fail
      refine bodyPost_ret (v := .agg #[.string L.name, .slice G.j.A L.js.length G.j.c, .slice G.b.A L.bs.length G.b.c, .slice G.s.A L.ss.length G.s.c]) (by simp [results, Try.results69, go_sem, r0, r1, r2, r3]) rfl ⟨G, rfl, ?_, ?_⟩
      · have o2 := (((S2.out.own.far (p := ⟨w.heap.size + 1, 0, none⟩) (HS.out 0) (.string L.name)).far (p := ⟨w.heap.size + 1, 1, none⟩) (HS.out 1) (.slice G.j.A L.js.length G.j.c)).far (p := ⟨w.heap.size + 1, 2, none⟩) (HS.out 2) (.slice G.b.A L.bs.length G.b.c)).far (p := ⟨w.heap.size + 1, 3, none⟩) (HS.out 3) (.slice G.s.A L.ss.length G.s.c)
        exact o2.at_
      · exact (((S2.out.bl.setCell (p := ⟨w.heap.size + 1, 0, none⟩) (HS2.out 0) _).setCell (p := ⟨w.heap.size + 1, 1, none⟩) (HS2.out 1) _).setCell (p := ⟨w.heap.size + 1, 2, none⟩) (HS2.out 2) _).setCell (p := ⟨w.heap.size + 1, 3, none⟩) (HS2.out 3) _
end Go.Proofs.Ytmnlgeglmkdecaa
