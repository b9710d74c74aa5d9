
/-
  The walks of the books of steps: the program's.
-/
import Derived.Test.YtohldmmfnjfgmaaDoorTBkA
import Derived.Test.YtohldmmfnjfgmaaDoorTCp
import Derived.Test.YtohldmmfnjfgmaaDoorTRgt
namespace Go.Proofs.YtohldmmfnjfgmaaDoor
open Go.RowKit

section
variable {w W : World} {bs : List (Nat × TypeId × Array Value)} {g : Nat} {t : TypeId} {cs : Array Value}
theorem Fr.put (h : Fr w W ((g, t, cs) :: bs)) (i : Nat) (u : Value) (hg : w.heap.size ≤ g) (hn : ∀ b ∈ bs, b.1 ≠ g) : Fr w (W.setCell ⟨g, i, none⟩ u) ((g, t, cs.setIfInBounds i u) :: bs) :=
  (h.tail.set (p := ⟨g, i, none⟩) hg hn u).more (h.top.set_ i u)
theorem Fr.swap {a b : Nat × TypeId × Array Value} (h : Fr w W (a :: b :: bs)) : Fr w W (b :: a :: bs) :=
  ⟨h.bl, fun c hc => h.bk c (by
    rcases List.mem_cons.1 hc with rfl | hc
    · simp
    · rcases List.mem_cons.1 hc with rfl | hc
      · simp
      · simp [hc])⟩
end
theorem Bk.of_alloc {W wA : World} {t : TypeId} {cs : Array Value} (h : W.alloc (.cells cs t) = wA) : Bk wA W.heap.size t cs := by subst h; exact Bk.new _ _ _
theorem Bk.of_alloc_drew {W wA : World} {t : TypeId} {cs : Array Value} (h : (W.alloc (.cells cs t)).drew = wA) : Bk wA W.heap.size t cs := by subst h; exact (Bk.new W t cs).drew
theorem Bk.over_alloc_drew {W wA : World} {o : Obj} {g : Nat} {t : TypeId} {cs : Array Value} (h : (W.alloc o).drew = wA) (hb : Bk W g t cs) : Bk wA g t cs := by subst h; exact (hb.alloc o).drew
theorem Bk.over_alloc {W wA : World} {o : Obj} {g : Nat} {t : TypeId} {cs : Array Value} (h : W.alloc o = wA) (hb : Bk W g t cs) : Bk wA g t cs := by subst h; exact hb.alloc o
theorem Lies.step {w : World} {B : Nat} {A : Option Addr} {l : List Stp} {i : Nat} {s : Stp} (h : Lies w B A (l.flatMap stc)) (hj : l[i]? = some s) :
    ∃ a, A = some a ∧ a.block < B ∧ w.cell? (a.add (i * 7)) = some (.int .i64 s.v.x) ∧ w.cell? ⟨(a.add (i * 7)).block, (a.add (i * 7)).off + 1, none⟩ = some (.int .i64 s.v.y) ∧ w.cell? ⟨(a.add (i * 7)).block, (a.add (i * 7)).off + 2, none⟩ = some (.int .i64 s.v.z) ∧
      w.cell? ⟨(a.add (i * 7)).block, (a.add (i * 7)).off + 3, none⟩ = some (.int .i64 s.c.x) ∧ w.cell? ⟨(a.add (i * 7)).block, (a.add (i * 7)).off + 4, none⟩ = some (.int .i64 s.c.y) ∧ w.cell? ⟨(a.add (i * 7)).block, (a.add (i * 7)).off + 5, none⟩ = some (.int .i64 s.c.z) ∧ w.cell? ⟨(a.add (i * 7)).block, (a.add (i * 7)).off + 6, none⟩ = some (.int .i64 s.ohm) := by
  have f := fun k (hk : k < 7) => flat_at stc 7 (fun _ => rfl) l i k hk
  simp only [hj, Option.bind_some] at f
  obtain ⟨a, e, hb, h0⟩ := h _ _ (f 0 (by omega))
  have g := fun k (hk : k < 7) (h0 : 0 < k) u (hu : (stc s)[k]? = some u) => (show w.cell? ⟨(a.add (i * 7)).block, (a.add (i * 7)).off + k, none⟩ = some u from by
    obtain ⟨a1, e1, _, h1⟩ := h _ _ ((f k hk).trans hu)
    obtain rfl : a = a1 := by rw [e] at e1; injection e1
    rwa [add_off _ _ _ h0] at h1)
  exact ⟨a, e, hb, h0, g 1 (by omega) (by omega) _ rfl, g 2 (by omega) (by omega) _ rfl, g 3 (by omega) (by omega) _ rfl, g 4 (by omega) (by omega) _ rfl, g 5 (by omega) (by omega) _ rfl, g 6 (by omega) (by omega) _ rfl⟩
theorem fed_next {l : List Stp} {k : Nat} {s : Stp} (h : l[k]? = some s) : fedV (l.take (k + 1)) = fedV (l.take k) + pwV s.v s.c ∧ lostV (l.take (k + 1)) = lostV (l.take k) + s.ohm * pwV s.c s.c := by
  have e : l.take (k + 1) = l.take k ++ [s] := by rw [List.take_add_one, h]; rfl
  rw [e]
  exact ⟨fedV_snoc _ _, lostV_snoc _ _⟩
/-- The bounds of the books of a list's beginning. -/
theorem book_take {l : List Stp} (h : ∀ s ∈ l, s.ok = true) (hl : l.length ≤ 60) (k : Nat) : (-1800000000000 ≤ fedV (l.take k) ∧ fedV (l.take k) ≤ 1800000000000) ∧ -1800000000000000 ≤ lostV (l.take k) ∧ lostV (l.take k) ≤ 1800000000000000 := by
  have h1 := book_in (l.take k) (fun s hs => h s (List.mem_of_mem_take hs))
  have h2 : (l.take k).length ≤ 60 := by rw [List.length_take]; omega
  omega

set_option maxHeartbeats 2000000 in
set_option maxRecDepth 100000 in
theorem BookOf_long (l : List Stp) (A : Option Addr) (c : Nat) (hl : 60 < l.length) (hm : l.length ≤ 1000) (w : World) : Calls Tryd.prog 35 #[.slice A l.length c] w fun e w' => e = .returned (.tuple #[.agg #[.int .i64 0, .int .i64 0, .int .i64 0], .int .i64 8]) ∧ Below w.heap.size w w' := by
  have gl : (60 : Int) < (l.length : Int) := by omega
  have BL := Lib.hid (box1 w #[.int .i64 0, .int .i64 0, .int .i64 0] 67)
  go_enter Tryd.func35, Tryd.ntmps35
  go_wp2_with fail
  exact bodyPost_ret (v := .tuple #[.agg #[.int .i64 0, .int .i64 0, .int .i64 0], .int .i64 8]) (by simp [results, Tryd.results35, go_sem]) rfl ⟨rfl, (by repeat (first | exact BL.out | refine Below.drew ?_ | refine Below.setCell ?_ (by first | (simp; done) | (simp; omega) | omega) _ | refine Below.alloc ?_ (by first | (simp; done) | (simp; omega) | omega) _ | exact Below.refl _ _))⟩

/-- What BookOf comes to. -/
def BkPost (w : World) (l : List Stp) (e : Ending) (w' : World) : Prop :=
  ((l.all Stp.ok = true ∧ e = .returned (.tuple #[.agg #[.int .i64 (fedV l), .int .i64 (lostV l), .int .i64 (fedV l - lostV l)], .int .i64 0])) ∨
    (l.all Stp.ok = false ∧ e = .returned (.tuple #[.agg #[.int .i64 0, .int .i64 0, .int .i64 0], .int .i64 2]))) ∧ Below w.heap.size w w'
theorem all_false {l : List Stp} {k : Nat} {s : Stp} (h : l[k]? = some s) (hs : s.ok = false) : l.all Stp.ok = false := by
  cases ha : l.all Stp.ok with
  | false => rfl
  | true => rw [List.all_eq_true] at ha; rw [ha s (List.mem_of_getElem? h)] at hs; cases hs

set_option maxHeartbeats 8000000 in
set_option maxRecDepth 100000 in
theorem BookOf_any (l : List Stp) (A : Option Addr) (c : Nat) (hl : l.length ≤ 60) (w : World) (hA : Lies w w.heap.size A (l.flatMap stc)) : Calls Tryd.prog 35 #[.slice A l.length c] w (BkPost w l) := by
  have gl : ¬ (60 : Int) < (l.length : Int) := by omega
  have gl2 : (l.length : Int) ≤ 60 := by omega
  have HA := Lib.hid hA
  have F0 := Fr.b2 w 67 #[.int .i64 0, .int .i64 0, .int .i64 0] 67 #[.int .i64 0, .int .i64 0, .int .i64 0]
  clear hA
  go_enter Tryd.func35, Tryd.ntmps35
  go_wp2_with fail
  go_loopw [14] (fun i wr => ∃ k : Nat, k ≤ l.length ∧ i = .int .i64 k ∧ (∀ j s, j < k → l[j]? = some s → s.ok = true) ∧ Fr w wr [(w.heap.size + 1, 67, #[.int .i64 (fedV (l.take k)), .int .i64 (lostV (l.take k)), .int .i64 0]), (w.heap.size, 67, #[.int .i64 0, .int .i64 0, .int .i64 0])]) (fun i _ => l.length - (intOf i).toNat)
  case atStart => exact ⟨0, Nat.zero_le _, rfl, fun j s h => by omega, F0⟩
  case round =>
    obtain ⟨k, hk, rfl, hpre, hfr⟩ := hrel
    have FK := Lib.hid hfr
    have HPRE := Lib.hid hpre
    clear hfr hpre F0
    by_cases hlt : k < l.length
    · obtain ⟨s, hs⟩ : ∃ s, l[k]? = some s := ⟨_, List.getElem?_eq_getElem hlt⟩
      have HSK := Lib.hid hs
      obtain ⟨a, rfl, hab, c0, c1, c2, c3, c4, c5, c6⟩ := ((HA.out.below FK.out.bl).more FK.out.size).step hs
      have z0 := FK.out.top.lt
      cases hve : s.v.ok && s.c.ok with
      | false =>
        have HE := Lib.hid (elE_bad hve)
        have HAL : Hid (l.all Stp.ok = false) := Lib.hid (all_false hs (by simp only [Stp.ok, hve, Bool.false_and]))
        clear hs hve
        go_wp2_with fail
        refine (checkElectric_any s.v s.c _).mono ?_
        rintro e w1 ⟨rfl, hb1⟩
        rw [HE.out]
        have F1 := Lib.hid ((FK.out.box 75 #[.int .i64 s.v.x, .int .i64 s.v.y, .int .i64 s.v.z, .int .i64 s.c.x, .int .i64 s.c.y, .int .i64 s.c.z, .int .i64 s.ohm]).call hb1)
        clear hb1 FK c0 c1 c2 c3 c4 c5 c6
        have d0 := F1.out.at2.cell 0
        have d1 := F1.out.at2.cell 1
        have d2 := F1.out.at2.cell 2
        have f0 := F1.out.at2.frozen 0
        have f1 := F1.out.at2.frozen 1
        have f2 := F1.out.at2.frozen 2
        go_wp2_with fail
        exact bodyPost_ret (v := .tuple #[.agg #[.int .i64 0, .int .i64 0, .int .i64 0], .int .i64 2]) (by simp [results, Tryd.results35, go_sem, d0, d1, d2]) rfl ⟨.inr ⟨HAL.out, rfl⟩, (by repeat (first | exact F1.out.bl | refine Below.drew ?_ | refine Below.setCell ?_ (by first | (simp; done) | (simp; omega) | omega) _ | refine Below.alloc ?_ (by first | (simp; done) | (simp; omega) | omega) _ | exact Below.refl _ _))⟩
      | true =>
        simp only [Bool.and_eq_true] at hve
        have HE := Lib.hid (elE_ok hve.1 hve.2)
        cases hoh : inB s.ohm 0 1000 with
        | false =>
          have HO := Lib.hid hoh
          have HAL : Hid (l.all Stp.ok = false) := Lib.hid (all_false hs (by simp only [Stp.ok, hoh, Bool.and_false]))
          clear hs hve hoh
          go_wp2_with fail
          refine (checkElectric_any s.v s.c _).mono ?_
          rintro e w1 ⟨rfl, hb1⟩
          rw [HE.out]
          have F1 := Lib.hid ((FK.out.box 75 #[.int .i64 s.v.x, .int .i64 s.v.y, .int .i64 s.v.z, .int .i64 s.c.x, .int .i64 s.c.y, .int .i64 s.c.z, .int .i64 s.ohm]).call hb1)
          clear hb1 FK c0 c1 c2 c3 c4 c5 c6
          have d0 := F1.out.at2.cell 0
          have d1 := F1.out.at2.cell 1
          have d2 := F1.out.at2.cell 2
          have f0 := F1.out.at2.frozen 0
          have f1 := F1.out.at2.frozen 1
          have f2 := F1.out.at2.frozen 2
          have e6 := F1.out.top.cell 6
          go_wp2_with (go_at_call 60; refine (within_any _ _ _ _).mono ?_; rintro e w' ⟨rfl, rfl⟩; rw [HO.out])
          exact bodyPost_ret (v := .tuple #[.agg #[.int .i64 0, .int .i64 0, .int .i64 0], .int .i64 2]) (by simp [results, Tryd.results35, go_sem, d0, d1, d2]) rfl ⟨.inr ⟨HAL.out, rfl⟩, (by repeat (first | exact F1.out.bl | refine Below.drew ?_ | refine Below.setCell ?_ (by first | (simp; done) | (simp; omega) | omega) _ | refine Below.alloc ?_ (by first | (simp; done) | (simp; omega) | omega) _ | exact Below.refl _ _))⟩
        | true =>
          have HO := Lib.hid hoh
          have hsk : s.ok = true := by simp only [Stp.ok, hve.1, hve.2, hoh, Bool.and_self]
          have HSO := Lib.hid hsk
          have HS1 := Lib.hid (sumOfProducts_any s.v s.c hve.1 hve.2)
          have HS2 := Lib.hid (sumOfProducts_any s.c s.c hve.2 hve.2)
          have p1 := pw_in hve.1 hve.2
          have p2 := pw_in hve.2 hve.2
          have p3 := ohm_in hsk
          obtain ⟨n1, n2⟩ := fed_next hs
          have hpk : ∀ t ∈ l.take k, t.ok = true := fun t ht => by
            obtain ⟨j, hj, rfl⟩ := List.mem_iff_getElem.1 ht
            rw [List.length_take] at hj
            exact HPRE.out j _ (by omega) (by rw [List.getElem?_eq_getElem (by omega), List.getElem_take])
          have b1 := book_in (l.take k) hpk
          have hlk : (l.take k).length ≤ 60 := by rw [List.length_take]; omega
          have N1 := Lib.hid n1
          have N2 := Lib.hid n2
          generalize fedV (l.take k) = fk at *
          generalize lostV (l.take k) = lk at *
          generalize pwV s.v s.c = pa at *
          generalize pwV s.c s.c = pb at *
          have W1 : Hid (IntKind.i64.wrap (fk + pa) = fk + pa) := Lib.hid (IntWalk.i64_in _ ⟨by omega, by omega⟩)
          have W2 : Hid (IntKind.i64.wrap (s.ohm * pb) = s.ohm * pb) := Lib.hid (IntWalk.i64_in _ ⟨by omega, by omega⟩)
          have W3 : Hid (IntKind.i64.wrap (lk + s.ohm * pb) = lk + s.ohm * pb) := Lib.hid (IntWalk.i64_in _ ⟨by omega, by omega⟩)
          clear hs hve hoh hsk p1 p2 p3 n1 n2 b1 hpk hlk
          go_wp2_with fail
          refine (checkElectric_any s.v s.c _).mono ?_
          rintro e w1 ⟨rfl, hb1⟩
          rw [HE.out]
          have F1 : Hid (Fr w _ [(w.heap.size + 1, 67, #[.int .i64 fk, .int .i64 lk, .int .i64 0]), (wr.heap.size, 75, #[.int .i64 s.v.x, .int .i64 s.v.y, .int .i64 s.v.z, .int .i64 s.c.x, .int .i64 s.c.y, .int .i64 s.c.z, .int .i64 s.ohm]), (w.heap.size, 67, #[.int .i64 0, .int .i64 0, .int .i64 0])]) := Lib.hid ((FK.out.box 75 #[.int .i64 s.v.x, .int .i64 s.v.y, .int .i64 s.v.z, .int .i64 s.c.x, .int .i64 s.c.y, .int .i64 s.c.z, .int .i64 s.ohm]).call hb1).swap
          have zz : w.heap.size + 1 < wr.heap.size := z0
          clear hb1 FK c0 c1 c2 c3 c4 c5 c6 z0
          have d0 := F1.out.top.cell 0
          have f0 := F1.out.top.frozen 0
          have e0 := F1.out.at1.cell 0
          have e1 := F1.out.at1.cell 1
          have e2 := F1.out.at1.cell 2
          have e3 := F1.out.at1.cell 3
          have e4 := F1.out.at1.cell 4
          have e5 := F1.out.at1.cell 5
          have e6 := F1.out.at1.cell 6
          go_upto_region 12 with (go_at_call 60; refine (within_any _ _ _ _).mono ?_; rintro e w' ⟨rfl, rfl⟩; rw [HO.out])
          go_cut [40] from 32 to 40 (fun r W => r = .pointer (some ⟨w.heap.size + 1, 0, none⟩) ∧ Fr w W [(w.heap.size + 1, 67, #[.int .i64 (fk + pa), .int .i64 lk, .int .i64 0]), (wr.heap.size, 75, #[.int .i64 s.v.x, .int .i64 s.v.y, .int .i64 s.v.z, .int .i64 s.c.x, .int .i64 s.c.y, .int .i64 s.c.z, .int .i64 s.ohm]), (w.heap.size, 67, #[.int .i64 0, .int .i64 0, .int .i64 0])])
          case first =>
            have hw1 := W1.out
            have HALL : Hid (∀ W, Fr w W [(w.heap.size + 1, 67, #[.int .i64 fk, .int .i64 lk, .int .i64 0]), (wr.heap.size, 75, #[.int .i64 s.v.x, .int .i64 s.v.y, .int .i64 s.v.z, .int .i64 s.c.x, .int .i64 s.c.y, .int .i64 s.c.z, .int .i64 s.ohm]), (w.heap.size, 67, #[.int .i64 0, .int .i64 0, .int .i64 0])] → Fr w W [(w.heap.size + 1, 67, #[.int .i64 fk, .int .i64 lk, .int .i64 0]), (wr.heap.size, 75, #[.int .i64 s.v.x, .int .i64 s.v.y, .int .i64 s.v.z, .int .i64 s.c.x, .int .i64 s.c.y, .int .i64 s.c.z, .int .i64 s.ohm]), (w.heap.size, 67, #[.int .i64 0, .int .i64 0, .int .i64 0])] ∧ W.cell? ⟨w.heap.size + 1, 0, none⟩ = some (.int .i64 fk) ∧ W.cell? ⟨wr.heap.size, 0, none⟩ = some (.int .i64 s.v.x) ∧ W.cell? ⟨wr.heap.size, 1, none⟩ = some (.int .i64 s.v.y) ∧ W.cell? ⟨wr.heap.size, 2, none⟩ = some (.int .i64 s.v.z) ∧ W.cell? ⟨wr.heap.size, 3, none⟩ = some (.int .i64 s.c.x) ∧ W.cell? ⟨wr.heap.size, 4, none⟩ = some (.int .i64 s.c.y) ∧ W.cell? ⟨wr.heap.size, 5, none⟩ = some (.int .i64 s.c.z) ∧ W.cell? ⟨wr.heap.size, 6, none⟩ = some (.int .i64 s.ohm)) := Lib.hid (fun W hW => ⟨hW, hW.top.cell 0, hW.at1.cell 0, hW.at1.cell 1, hW.at1.cell 2, hW.at1.cell 3, hW.at1.cell 4, hW.at1.cell 5, hW.at1.cell 6⟩)
            have F10 : Fr w _ [(w.heap.size + 1, 67, #[.int .i64 fk, .int .i64 lk, .int .i64 0]), (wr.heap.size, 75, #[.int .i64 s.v.x, .int .i64 s.v.y, .int .i64 s.v.z, .int .i64 s.c.x, .int .i64 s.c.y, .int .i64 s.c.z, .int .i64 s.ohm]), (w.heap.size, 67, #[.int .i64 0, .int .i64 0, .int .i64 0])] := F1.out
            clear F1 d0 f0 e0 e1 e2 e3 e4 e5 e6
            refine Tw_start 8 (fun W => Fr w W [(w.heap.size + 1, 67, #[.int .i64 fk, .int .i64 lk, .int .i64 0]), (wr.heap.size, 75, #[.int .i64 s.v.x, .int .i64 s.v.y, .int .i64 s.v.z, .int .i64 s.c.x, .int .i64 s.c.y, .int .i64 s.c.z, .int .i64 s.ohm]), (w.heap.size, 67, #[.int .i64 0, .int .i64 0, .int .i64 0])] ∧ W.cell? ⟨w.heap.size + 1, 0, none⟩ = some (.int .i64 fk) ∧ W.cell? ⟨wr.heap.size, 0, none⟩ = some (.int .i64 s.v.x) ∧ W.cell? ⟨wr.heap.size, 1, none⟩ = some (.int .i64 s.v.y) ∧ W.cell? ⟨wr.heap.size, 2, none⟩ = some (.int .i64 s.v.z) ∧ W.cell? ⟨wr.heap.size, 3, none⟩ = some (.int .i64 s.c.x) ∧ W.cell? ⟨wr.heap.size, 4, none⟩ = some (.int .i64 s.c.y) ∧ W.cell? ⟨wr.heap.size, 5, none⟩ = some (.int .i64 s.c.z) ∧ W.cell? ⟨wr.heap.size, 6, none⟩ = some (.int .i64 s.ohm)) (by kernel_rfl) (by kernel_rfl) rfl ?_ ?_
            · (try dsimp only)
              ((go_split_ands; refine HALL.out _ ?_; (first | assumption | (repeat (first | assumption | refine Fr.new ?_ _ | refine Fr.drew ?_ | (refine Fr.set ?_ (by first | exact Nat.le_refl _ | omega | (simp; done) | (simp; omega)) (by first | (simp; done) | (simp; omega)) _))); done)))
            refine Tw_takeL (i := 0) (v := ?tv1) rfl (by kernel_rfl) (by decide) (by kernel_rfl) (by kernel_rfl) (fun _ _ _ h => h) (by rfl) ?ty1 ?tn1
            case ty1 => (intro w hSw; (try dsimp only at hSw); go_simp <;> with_reducible rfl)
            (try simp only [Act.put, List.setIfInBounds_toArray, List.set_cons_zero, List.set_cons_succ])
            refine Tw_takeL (i := 1) (v := ?tv2) rfl (by kernel_rfl) (by decide) (by kernel_rfl) (by kernel_rfl) (fun _ _ _ h => h) (by rfl) ?ty2 ?tn2
            case ty2 => (intro w hSw; (try dsimp only at hSw); go_simp <;> with_reducible rfl)
            (try simp only [Act.put, List.setIfInBounds_toArray, List.set_cons_zero, List.set_cons_succ])
            refine Tw_takeL (i := 2) (v := ?tv3) rfl (by kernel_rfl) (by decide) (by kernel_rfl) (by kernel_rfl) (fun _ _ _ h => h) (by rfl) ?ty3 ?tn3
            case ty3 => (intro w hSw; (try dsimp only at hSw); go_simp <;> with_reducible rfl)
            (try simp only [Act.put, List.setIfInBounds_toArray, List.set_cons_zero, List.set_cons_succ])
            refine Tw_takeL (i := 3) (v := ?tv4) rfl (by kernel_rfl) (by decide) (by kernel_rfl) (by kernel_rfl) (fun _ _ _ h => h) (by rfl) ?ty4 ?tn4
            case ty4 => (intro w hSw; (try dsimp only at hSw); go_simp <;> with_reducible rfl)
            (try simp only [Act.put, List.setIfInBounds_toArray, List.set_cons_zero, List.set_cons_succ])
            refine Tw_takeL (i := 4) (v := ?tv5) rfl (by kernel_rfl) (by decide) (by kernel_rfl) (by kernel_rfl) (fun _ _ _ h => h) (by rfl) ?ty5 ?tn5
            case ty5 => (intro w hSw; (try dsimp only at hSw); go_simp <;> with_reducible rfl)
            (try simp only [Act.put, List.setIfInBounds_toArray, List.set_cons_zero, List.set_cons_succ])
            refine Tw_takeL (i := 5) (v := ?tv6) rfl (by kernel_rfl) (by decide) (by kernel_rfl) (by kernel_rfl) (fun _ _ _ h => h) (by rfl) ?ty6 ?tn6
            case ty6 => (intro w hSw; (try dsimp only at hSw); go_simp <;> with_reducible rfl)
            (try simp only [Act.put, List.setIfInBounds_toArray, List.set_cons_zero, List.set_cons_succ])
            refine Tw_all (rs := [6]) (by kernel_rfl) (by simp) (by decide) (fun hHeld => ?_)
            refine AllT.consL rfl (fun K hK => ?_) AllT.nil
            go_simp
            (go_at_call 73; go_split_ands; (with_reducible refine (HS1.out _).mono ?_); rintro e w7 ⟨rfl, hb7⟩; have F4 := Fr.call (by assumption) hb7; clear hb7)
            refine hK.out _ _ ?_ ?_
            · (try dsimp only)
              ((go_split_ands; refine HALL.out _ ?_; (first | assumption | (repeat (first | assumption | refine Fr.new ?_ _ | refine Fr.drew ?_ | (refine Fr.set ?_ (by first | exact Nat.le_refl _ | omega | (simp; done) | (simp; omega)) (by first | (simp; done) | (simp; omega)) _))); done)))
            clear hK K
            (try simp only [Act.put, List.setIfInBounds_toArray, List.set_cons_zero, List.set_cons_succ])
            refine Tw_takeL (i := 7) (v := ?tv7) rfl (by kernel_rfl) (by decide) (by kernel_rfl) (by kernel_rfl) (fun _ _ _ h => h) (by rfl) ?ty7 ?tn7
            case ty7 => (intro w hSw; (try dsimp only at hSw); go_simp <;> with_reducible rfl)
            (try simp only [Act.put, List.setIfInBounds_toArray, List.set_cons_zero, List.set_cons_succ])
            refine Tw_end (by kernel_rfl) (fun hh => ?_)
            obtain ⟨F11, _⟩ := hh
            clear HALL
            have d0 := F11.top.cell 0
            have f0 := F11.top.frozen 0
            go_wp2_with fail
            go_meet
            exact ⟨rfl, by have := F11.put 0 (.int .i64 (fk + pa)) (by omega) (by simp; omega); simpa using this⟩
          case rest =>
            obtain ⟨wx, rfl⟩ : ∃ W, W = wc := ⟨_, rfl⟩
            obtain ⟨rfl, hx⟩ := hcut
            have F2 := Lib.hid hx
            clear hx F1 d0 f0 e0 e1 e2 e3 e4 e5 e6
            have d1 := F2.out.top.cell 1
            have f1 := F2.out.top.frozen 1
            have e3 := F2.out.at1.cell 3
            have e4 := F2.out.at1.cell 4
            have e5 := F2.out.at1.cell 5
            have e6 := F2.out.at1.cell 6
            go_upto_region 13 with fail
            have hw2 := W2.out
            have hw3 := W3.out
            have HALL : Hid (∀ W, Fr w W [(w.heap.size + 1, 67, #[.int .i64 (fk + pa), .int .i64 lk, .int .i64 0]), (wr.heap.size, 75, #[.int .i64 s.v.x, .int .i64 s.v.y, .int .i64 s.v.z, .int .i64 s.c.x, .int .i64 s.c.y, .int .i64 s.c.z, .int .i64 s.ohm]), (w.heap.size, 67, #[.int .i64 0, .int .i64 0, .int .i64 0])] → Fr w W [(w.heap.size + 1, 67, #[.int .i64 (fk + pa), .int .i64 lk, .int .i64 0]), (wr.heap.size, 75, #[.int .i64 s.v.x, .int .i64 s.v.y, .int .i64 s.v.z, .int .i64 s.c.x, .int .i64 s.c.y, .int .i64 s.c.z, .int .i64 s.ohm]), (w.heap.size, 67, #[.int .i64 0, .int .i64 0, .int .i64 0])] ∧ W.cell? ⟨w.heap.size + 1, 1, none⟩ = some (.int .i64 lk) ∧ W.cell? ⟨wr.heap.size, 0, none⟩ = some (.int .i64 s.v.x) ∧ W.cell? ⟨wr.heap.size, 1, none⟩ = some (.int .i64 s.v.y) ∧ W.cell? ⟨wr.heap.size, 2, none⟩ = some (.int .i64 s.v.z) ∧ W.cell? ⟨wr.heap.size, 3, none⟩ = some (.int .i64 s.c.x) ∧ W.cell? ⟨wr.heap.size, 4, none⟩ = some (.int .i64 s.c.y) ∧ W.cell? ⟨wr.heap.size, 5, none⟩ = some (.int .i64 s.c.z) ∧ W.cell? ⟨wr.heap.size, 6, none⟩ = some (.int .i64 s.ohm)) := Lib.hid (fun W hW => ⟨hW, hW.top.cell 1, hW.at1.cell 0, hW.at1.cell 1, hW.at1.cell 2, hW.at1.cell 3, hW.at1.cell 4, hW.at1.cell 5, hW.at1.cell 6⟩)
            have F10 : Fr w _ [(w.heap.size + 1, 67, #[.int .i64 (fk + pa), .int .i64 lk, .int .i64 0]), (wr.heap.size, 75, #[.int .i64 s.v.x, .int .i64 s.v.y, .int .i64 s.v.z, .int .i64 s.c.x, .int .i64 s.c.y, .int .i64 s.c.z, .int .i64 s.ohm]), (w.heap.size, 67, #[.int .i64 0, .int .i64 0, .int .i64 0])] := F2.out
            clear F2 d1 f1 e3 e4 e5 e6
            refine Tw_start 11 (fun W => Fr w W [(w.heap.size + 1, 67, #[.int .i64 (fk + pa), .int .i64 lk, .int .i64 0]), (wr.heap.size, 75, #[.int .i64 s.v.x, .int .i64 s.v.y, .int .i64 s.v.z, .int .i64 s.c.x, .int .i64 s.c.y, .int .i64 s.c.z, .int .i64 s.ohm]), (w.heap.size, 67, #[.int .i64 0, .int .i64 0, .int .i64 0])] ∧ W.cell? ⟨w.heap.size + 1, 1, none⟩ = some (.int .i64 lk) ∧ W.cell? ⟨wr.heap.size, 0, none⟩ = some (.int .i64 s.v.x) ∧ W.cell? ⟨wr.heap.size, 1, none⟩ = some (.int .i64 s.v.y) ∧ W.cell? ⟨wr.heap.size, 2, none⟩ = some (.int .i64 s.v.z) ∧ W.cell? ⟨wr.heap.size, 3, none⟩ = some (.int .i64 s.c.x) ∧ W.cell? ⟨wr.heap.size, 4, none⟩ = some (.int .i64 s.c.y) ∧ W.cell? ⟨wr.heap.size, 5, none⟩ = some (.int .i64 s.c.z) ∧ W.cell? ⟨wr.heap.size, 6, none⟩ = some (.int .i64 s.ohm)) (by kernel_rfl) (by kernel_rfl) rfl ?_ ?_
            · (try dsimp only)
              ((go_split_ands; refine HALL.out _ ?_; (first | assumption | (repeat (first | assumption | refine Fr.new ?_ _ | refine Fr.drew ?_ | (refine Fr.set ?_ (by first | exact Nat.le_refl _ | omega | (simp; done) | (simp; omega)) (by first | (simp; done) | (simp; omega)) _))); done)))
            refine Tw_takeL (i := 0) (v := ?tv8) rfl (by kernel_rfl) (by decide) (by kernel_rfl) (by kernel_rfl) (fun _ _ _ h => h) (by rfl) ?ty8 ?tn8
            case ty8 => (intro w hSw; (try dsimp only at hSw); go_simp <;> with_reducible rfl)
            (try simp only [Act.put, List.setIfInBounds_toArray, List.set_cons_zero, List.set_cons_succ])
            refine Tw_takeL (i := 1) (v := ?tv9) rfl (by kernel_rfl) (by decide) (by kernel_rfl) (by kernel_rfl) (fun _ _ _ h => h) (by rfl) ?ty9 ?tn9
            case ty9 => (intro w hSw; (try dsimp only at hSw); go_simp <;> with_reducible rfl)
            (try simp only [Act.put, List.setIfInBounds_toArray, List.set_cons_zero, List.set_cons_succ])
            refine Tw_takeL (i := 2) (v := ?tv10) rfl (by kernel_rfl) (by decide) (by kernel_rfl) (by kernel_rfl) (fun _ _ _ h => h) (by rfl) ?ty10 ?tn10
            case ty10 => (intro w hSw; (try dsimp only at hSw); go_simp <;> with_reducible rfl)
            (try simp only [Act.put, List.setIfInBounds_toArray, List.set_cons_zero, List.set_cons_succ])
            refine Tw_takeL (i := 3) (v := ?tv11) rfl (by kernel_rfl) (by decide) (by kernel_rfl) (by kernel_rfl) (fun _ _ _ h => h) (by rfl) ?ty11 ?tn11
            case ty11 => (intro w hSw; (try dsimp only at hSw); go_simp <;> with_reducible rfl)
            (try simp only [Act.put, List.setIfInBounds_toArray, List.set_cons_zero, List.set_cons_succ])
            refine Tw_takeL (i := 4) (v := ?tv12) rfl (by kernel_rfl) (by decide) (by kernel_rfl) (by kernel_rfl) (fun _ _ _ h => h) (by rfl) ?ty12 ?tn12
            case ty12 => (intro w hSw; (try dsimp only at hSw); go_simp <;> with_reducible rfl)
            (try simp only [Act.put, List.setIfInBounds_toArray, List.set_cons_zero, List.set_cons_succ])
            refine Tw_takeL (i := 5) (v := ?tv13) rfl (by kernel_rfl) (by decide) (by kernel_rfl) (by kernel_rfl) (fun _ _ _ h => h) (by rfl) ?ty13 ?tn13
            case ty13 => (intro w hSw; (try dsimp only at hSw); go_simp <;> with_reducible rfl)
            (try simp only [Act.put, List.setIfInBounds_toArray, List.set_cons_zero, List.set_cons_succ])
            refine Tw_takeL (i := 6) (v := ?tv14) rfl (by kernel_rfl) (by decide) (by kernel_rfl) (by kernel_rfl) (fun _ _ _ h => h) (by rfl) ?ty14 ?tn14
            case ty14 => (intro w hSw; (try dsimp only at hSw); go_simp <;> with_reducible rfl)
            (try simp only [Act.put, List.setIfInBounds_toArray, List.set_cons_zero, List.set_cons_succ])
            refine Tw_takeL (i := 7) (v := ?tv15) rfl (by kernel_rfl) (by decide) (by kernel_rfl) (by kernel_rfl) (fun _ _ _ h => h) (by rfl) ?ty15 ?tn15
            case ty15 => (intro w hSw; (try dsimp only at hSw); go_simp <;> with_reducible rfl)
            (try simp only [Act.put, List.setIfInBounds_toArray, List.set_cons_zero, List.set_cons_succ])
            refine Tw_all (rs := [8]) (by kernel_rfl) (by simp) (by decide) (fun hHeld => ?_)
            refine AllT.consL rfl (fun K hK => ?_) AllT.nil
            go_simp
            (go_at_call 73; go_split_ands; (with_reducible refine (HS2.out _).mono ?_); rintro e w7 ⟨rfl, hb7⟩; have F4 := Fr.call (by assumption) hb7; clear hb7)
            refine hK.out _ _ ?_ ?_
            · (try dsimp only)
              ((go_split_ands; refine HALL.out _ ?_; (first | assumption | (repeat (first | assumption | refine Fr.new ?_ _ | refine Fr.drew ?_ | (refine Fr.set ?_ (by first | exact Nat.le_refl _ | omega | (simp; done) | (simp; omega)) (by first | (simp; done) | (simp; omega)) _))); done)))
            clear hK K
            (try simp only [Act.put, List.setIfInBounds_toArray, List.set_cons_zero, List.set_cons_succ])
            refine Tw_takeL (i := 9) (v := ?tv16) rfl (by kernel_rfl) (by decide) (by kernel_rfl) (by kernel_rfl) (fun _ _ _ h => h) (by rfl) ?ty16 ?tn16
            case ty16 => (intro w hSw; (try dsimp only at hSw); go_simp <;> with_reducible rfl)
            (try simp only [Act.put, List.setIfInBounds_toArray, List.set_cons_zero, List.set_cons_succ])
            refine Tw_takeL (i := 10) (v := ?tv17) rfl (by kernel_rfl) (by decide) (by kernel_rfl) (by kernel_rfl) (fun _ _ _ h => h) (by rfl) ?ty17 ?tn17
            case ty17 => (intro w hSw; (try dsimp only at hSw); go_simp <;> with_reducible rfl)
            (try simp only [Act.put, List.setIfInBounds_toArray, List.set_cons_zero, List.set_cons_succ])
            refine Tw_end (by kernel_rfl) (fun hh => ?_)
            obtain ⟨F11, _⟩ := hh
            clear HALL hw2 hw3
            have F3 := Lib.hid F11
            clear F11
            have d1 := F3.out.top.cell 1
            have f1 := F3.out.top.frozen 1
            go_wp2_with fail
            go_roundw
            case rel => exact ⟨k + 1, by omega, by go_num, fun j t hj ht => by
              by_cases e : j = k
              · subst e; rw [HSK.out] at ht; cases ht; exact HSO.out
              · exact HPRE.out j t (by omega) ht, by have h := F3.out.put 1 (.int .i64 (lk + s.ohm * pb)) (by omega) (by simp; omega); rw [N1.out, N2.out]; exact (by simpa using h.swap.tail)⟩
            case measure => simp [intOf]; omega
    · obtain rfl : k = l.length := by omega
      have hall : l.all Stp.ok = true := by
        rw [List.all_eq_true]
        intro t ht
        obtain ⟨j, hj, rfl⟩ := List.mem_iff_getElem.1 ht
        exact HPRE.out j _ hj (List.getElem?_eq_getElem hj)
      have hb := book_in l (List.all_eq_true.1 hall)
      have HAL := Lib.hid hall
      rw [List.take_length] at FK
      have F1 := FK
      generalize hfv : fedV l = fk at *
      generalize hlv : lostV l = lk at *
      have HF := Lib.hid hfv
      have HL := Lib.hid hlv
      have b1 : -9000000000000000 ≤ fk ∧ fk ≤ 9000000000000000 := by omega
      have b2 : -9000000000000000 ≤ lk ∧ lk ≤ 9000000000000000 := by omega
      have c0 := F1.out.top.cell 0
      have c1 := F1.out.top.cell 1
      have c2 := F1.out.top.cell 2
      have f2 := F1.out.top.frozen 2
      have d0 := F1.out.at1.cell 0
      have d1 := F1.out.at1.cell 1
      have d2 := F1.out.at1.cell 2
      have g0 := F1.out.at1.frozen 0
      have g1 := F1.out.at1.frozen 1
      have g2 := F1.out.at1.frozen 2
      obtain ⟨b3, b4⟩ := b1
      obtain ⟨b5, b6⟩ := b2
      clear hall hb hfv hlv FK
      go_wp2_with fail
      refine bodyPost_ret (v := .tuple #[.agg #[.int .i64 fk, .int .i64 lk, .int .i64 (fk - lk)], .int .i64 0]) (by simp [results, Tryd.results35, go_sem, c0, c1, c2, d0, d1, d2]) rfl ⟨.inl ⟨HAL.out, ?_⟩, (by repeat (first | exact F1.out.bl | refine Below.drew ?_ | refine Below.setCell ?_ (by first | (simp; done) | (simp; omega) | omega) _ | refine Below.alloc ?_ (by first | (simp; done) | (simp; omega) | omega) _ | exact Below.refl _ _))⟩
      rw [HF.out, HL.out]
end Go.Proofs.YtohldmmfnjfgmaaDoor
