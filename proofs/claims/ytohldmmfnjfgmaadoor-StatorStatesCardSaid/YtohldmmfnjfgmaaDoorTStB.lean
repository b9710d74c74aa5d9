
/-
  The walk of the reference's Modulated.
-/
import Derived.Test.YtohldmmfnjfgmaaDoorTStA
import Derived.Test.YtohldmmfnjfgmaaDoorTRgt
import Derived.Test.YtohldmmfnjfgmaaDoorTFrx
import Derived.Test.YtohldmmfnjfgmaaDoorTMod
import Derived.Deep.AppendLies
namespace Go.Proofs.YtohldmmfnjfgmaaDoor
open Go.RowKit

theorem own_of_alloc {W wA : World} {o : Obj} {base n size : Nat} {e : TypeId} {v : Value} {xs : List Value} (h : W.alloc o = wA) (ho : W.ownsRow base e size v n xs) : wA.ownsRow base e size v n xs := by subst h; exact own_below ho ((Below.refl _ _).alloc (Nat.le_refl _) o)
theorem own_of_alloc_drew {W wA : World} {o : Obj} {base n size : Nat} {e : TypeId} {v : Value} {xs : List Value} (h : (W.alloc o).drew = wA) (ho : W.ownsRow base e size v n xs) : wA.ownsRow base e size v n xs := by subst h; exact own_below ho ((Below.refl _ _).alloc (Nat.le_refl _) o).drew
theorem Bk.grown_own {W W' : World} {g : Nat} {t e : TypeId} {cs : Array Value} {base n size : Nat} {v : Value} {xs : List Value} (hb : Bk W g t cs) (ho : W.ownsRow base e size v n xs) (hne : t ≠ e) (hg : W.grownBy W' v.ownBlock) : Bk W' g t cs := by
  refine (hg.block g hb.lt fun he => ?_).trans hb
  rcases ho.2 with ⟨rfl, _⟩ | ⟨g1, c1, cur1, rfl, _, hh1, _⟩
  · simp [Value.ownBlock] at he
  · simp [Value.ownBlock] at he
    subst he
    unfold Bk at hb
    rw [hb] at hh1
    simp at hh1
    exact hne hh1.2
theorem Fr.mid2 {w W : World} {g0 g : Nat} {t0 t : TypeId} {c0 : Array Value} {a b x y : Value} {bs : List (Nat × TypeId × Array Value)} (h : Fr w W ((g0, t0, c0) :: (g, t, #[a, b]) :: bs)) (hg : w.heap.size ≤ g) (h0 : g0 ≠ g) (hn : ∀ b ∈ bs, b.1 ≠ g) : Fr w ((W.setCell ⟨g, 0, none⟩ x).setCell ⟨g, 1, none⟩ y) ((g0, t0, c0) :: (g, t, #[x, y]) :: bs) := by
  have hn' : ∀ b ∈ (g0, t0, c0) :: bs, b.1 ≠ g := fun b hb => by
    rcases List.mem_cons.1 hb with rfl | hb
    · exact h0
    · exact hn b hb
  have k := ((h.swap.put 0 x hg hn').put 1 y hg hn').swap
  simpa using k
theorem own_drew {W : World} {base n size : Nat} {e : TypeId} {v : Value} {xs : List Value} (h : W.ownsRow base e size v n xs) : W.drew.ownsRow base e size v n xs := own_below h (Below.refl _ W).drew
/-- What the reference's Modulated comes to. -/
def RModPost (w : World) (M : Int) (xs : List T3) (e : Ending) (w' : World) : Prop :=
  ∃ (A1 : Option Addr) (c1 : Nat) (A2 : Option Addr) (c2 : Nat), e = .returned (.agg #[.slice A1 xs.length c1, .slice A2 xs.length c2]) ∧ Lies w' w'.heap.size A1 (ic (stsV M xs)) ∧ Lies w' w'.heap.size A2 ((lftV M xs).flatMap tc) ∧ Below w.heap.size w w'
theorem left_big {M : Int} (hM : 0 ≤ M ∧ M ≤ 100000) {xs : List T3} (h : ∀ x ∈ xs, okT x = true) (hl : xs.length ≤ 60) (k : Nat) : (leftV M T3.zero (xs.take k)).Bd 20000000 := by
  have h1 := leftV_in (M := M) (W := 100000) hM.1 (xs.take k) T3.zero 0 (fun x hx => by have := okT_iff.1 (h x (List.mem_of_mem_take hx)); omega) (by simp [T3.zero])
  have h2 : ((xs.take k).length : Int) * (100000 + M) ≤ 60 * 200000 := Int.mul_le_mul (by have : (xs.take k).length ≤ 60 := by rw [List.length_take]; omega
                                                                                          omega) (by omega) (by omega) (by omega)
  exact ⟨by omega, by omega, by omega, by omega⟩
set_option maxHeartbeats 8000000 in
set_option maxRecDepth 100000 in
theorem refModulated_any (M : Int) (hM : 0 ≤ M ∧ M ≤ 100000) (xs : List T3) (A : Option Addr) (c : Nat) (hl : xs.length ≤ 60) (hx : ∀ x ∈ xs, okT x = true) (w : World) (hA : Lies w w.heap.size A (xs.flatMap tc)) :
    Calls Tryd.prog 32 #[.int .i64 M, .slice A xs.length c] w (RModPost w M xs) := by
  have gl2 : (xs.length : Int) ≤ 60 := by omega
  have HM := Lib.hid hM
  have HA := Lib.hid hA
  have HX := Lib.hid hx
  obtain ⟨i0, hi0, hiz0, his0, hib0⟩ := info_parts info_int
  obtain ⟨i1, hi1, hiz1, his1, hib1⟩ := info_parts info_third
  have F0 := Lib.hid (Fr.b3 w 56 #[.slice none 0 0, .slice none 0 0] 56 #[.slice none 0 0, .slice none 0 0] 24 #[.int .i64 0, .int .i64 0])
  clear hM hA hx
  go_enter Tryd.func32, Tryd.ntmps32
  go_wp2_with fail
  go_loopw [7] (fun i wr => ∃ k : Nat, k ≤ xs.length ∧ i = .int .i64 k ∧ ∃ v1 v2, wr.ownsRow (w.heap.size + 3) 3 1 v1 k (ic (stsV M (xs.take k))) ∧ wr.ownsRow (w.heap.size + 3) 24 2 v2 k ((lftV M (xs.take k)).flatMap tc) ∧ Fr w wr [(w.heap.size + 1 + 1, 24, #[.int .i64 (leftV M T3.zero (xs.take k)).a, .int .i64 (leftV M T3.zero (xs.take k)).b]), (w.heap.size + 1, 56, #[v1, v2]), (w.heap.size, 56, #[.slice none 0 0, .slice none 0 0])]) (fun i _ => xs.length - (intOf i).toNat)
  case atStart => exact ⟨0, Nat.zero_le _, rfl, _, _, World.ownsRow_nil _ _ _ _, World.ownsRow_nil _ _ _ _, F0.out⟩
  case round =>
    obtain ⟨k, hk, rfl, v1, v2, ho1, ho2, hfr⟩ := hrel
    have FK := Lib.hid hfr
    have O1 := Lib.hid ho1
    have O2 := Lib.hid ho2
    clear hfr ho1 ho2 F0
    by_cases hlt : k < xs.length
    · obtain ⟨x, hx⟩ : ∃ x, xs[k]? = some x := ⟨_, List.getElem?_eq_getElem hlt⟩
      have hlt' : (k : Int) < (xs.length : Int) := by omega
      obtain ⟨a, ea, _, _, _⟩ := HA.out.third hx
      have HCX : Hid (∀ W, Below w.heap.size w W → W.cell? (a.add (k * 2)) = some (.int .i64 x.a) ∧ W.cell? ⟨(a.add (k * 2)).block, (a.add (k * 2)).off + 1, none⟩ = some (.int .i64 x.b)) := Lib.hid (fun W hb => by
        obtain ⟨a', ea', _, c0, c1⟩ := (HA.out.below hb).third hx
        rw [ea] at ea'
        cases ea'
        exact ⟨c0, c1⟩)
      subst ea
      have hbl := left_big HM.out HX.out hl k
      have hbx := okT_bd (HX.out x (List.mem_of_getElem? hx))
      obtain ⟨lv, hlv⟩ : ∃ lv, leftV M T3.zero (xs.take k) = lv := ⟨_, rfl⟩
      rw [hlv] at FK hbl
      obtain ⟨t, ht⟩ : ∃ t, lv.add x = t := ⟨_, rfl⟩
      have htb : t.Bd 21000000 := by
        obtain ⟨a0, a1, b0, b1⟩ := hbl
        obtain ⟨d0, d1, e0, e1⟩ := hbx
        rw [← ht]
        exact ⟨by simp only [T3.add]; omega, by simp only [T3.add]; omega, by simp only [T3.add]; omega, by simp only [T3.add]; omega⟩
      have HAD : Hid (∀ w, Calls Tryd.prog 57 #[(.agg #[.int .i64 lv.a, .int .i64 lv.b]), (.agg #[.int .i64 x.a, .int .i64 x.b])] w fun e w' => e = .returned (.agg #[.int .i64 t.a, .int .i64 t.b]) ∧ Below w.heap.size w w') := Lib.hid (fun w => by rw [← ht]; exact TAdd_any lv x (hbl.more (by omega)) (hbx.more (by omega)) w)
      have hn8 := nearV_lt M t
      have HNE := Lib.hid (refNearest_any M HM.out t (htb.more (by omega)))
      obtain ⟨n, hn⟩ : ∃ n, nearV M t = n := ⟨_, rfl⟩
      rw [hn] at HNE hn8
      obtain ⟨u, hu⟩ : ∃ u, wout M t n = u := ⟨_, rfl⟩
      have HRE : Hid (∀ w, Calls Tryd.prog 66 #[.int .i64 M, (.agg #[.int .i64 t.a, .int .i64 t.b]), .int .i64 (n : Int)] w fun e w' => e = .returned (.agg #[.int .i64 u.a, .int .i64 u.b]) ∧ Below w.heap.size w w') := Lib.hid (fun w => by rw [← hu]; exact rest_any M HM.out t (htb.more (by omega)) (n : Int) n rfl hn8 w)
      have hts := take_snoc hx
      have HS1 : Hid (ic (stsV M (xs.take (k + 1))) = ic (stsV M (xs.take k)) ++ [.int .i64 (n : Int)]) := Lib.hid (by rw [hts, stsV_snoc, hlv, ht, hn]; simp [ic])
      have HS2 : Hid ((lftV M (xs.take (k + 1))).flatMap tc = (lftV M (xs.take k)).flatMap tc ++ [.int .i64 u.a, .int .i64 u.b]) := Lib.hid (by rw [hts, lftV_snoc, hlv, ht, hn, hu]; simp [tc])
      have HS3 : Hid (leftV M T3.zero (xs.take (k + 1)) = u) := Lib.hid (by rw [hts, leftV_snoc, hlv, ht, hn, hu])
      have hz3 := FK.out.top.lt
      clear hx hbl hbx hlv ht htb hn hu hts hn8
      obtain ⟨st, hst⟩ : ∃ st : Int, (n : Int) = st := ⟨_, rfl⟩
      rw [hst] at HNE HRE HS1
      clear hst
      go_upto_region 6 with fail
      go_cut [20] from 15 to 20 (fun r W => r = (.agg #[.int .i64 t.a, .int .i64 t.b]) ∧ W.ownsRow (w.heap.size + 3) 3 1 v1 k (ic (stsV M (xs.take k))) ∧ W.ownsRow (w.heap.size + 3) 24 2 v2 k ((lftV M (xs.take k)).flatMap tc) ∧ Fr w W [(w.heap.size + 1 + 1, 24, #[.int .i64 t.a, .int .i64 t.b]), (w.heap.size + 1, 56, #[v1, v2]), (w.heap.size, 56, #[.slice none 0 0, .slice none 0 0])])
      case first =>
        have HALL : Hid (∀ W, Fr w W [(w.heap.size + 1 + 1, 24, #[.int .i64 lv.a, .int .i64 lv.b]), (w.heap.size + 1, 56, #[v1, v2]), (w.heap.size, 56, #[.slice none 0 0, .slice none 0 0])] → Fr w W [(w.heap.size + 1 + 1, 24, #[.int .i64 lv.a, .int .i64 lv.b]), (w.heap.size + 1, 56, #[v1, v2]), (w.heap.size, 56, #[.slice none 0 0, .slice none 0 0])] ∧ W.cell? ⟨w.heap.size + 1 + 1, 0, none⟩ = some (.int .i64 lv.a) ∧ W.cell? ⟨w.heap.size + 1 + 1, 1, none⟩ = some (.int .i64 lv.b) ∧ W.cell? (a.add (k * 2)) = some (.int .i64 x.a) ∧ W.cell? ⟨(a.add (k * 2)).block, (a.add (k * 2)).off + 1, none⟩ = some (.int .i64 x.b)) := Lib.hid (fun W hW => ⟨hW, hW.top.cell 0, hW.top.cell 1, HCX.out W hW.bl⟩)
        have F10 : Fr w _ [(w.heap.size + 1 + 1, 24, #[.int .i64 lv.a, .int .i64 lv.b]), (w.heap.size + 1, 56, #[v1, v2]), (w.heap.size, 56, #[.slice none 0 0, .slice none 0 0])] := FK.out
        clear FK
        refine Tw_start 6 (fun W => Fr w W [(w.heap.size + 1 + 1, 24, #[.int .i64 lv.a, .int .i64 lv.b]), (w.heap.size + 1, 56, #[v1, v2]), (w.heap.size, 56, #[.slice none 0 0, .slice none 0 0])] ∧ W.cell? ⟨w.heap.size + 1 + 1, 0, none⟩ = some (.int .i64 lv.a) ∧ W.cell? ⟨w.heap.size + 1 + 1, 1, none⟩ = some (.int .i64 lv.b) ∧ W.cell? (a.add (k * 2)) = some (.int .i64 x.a) ∧ W.cell? ⟨(a.add (k * 2)).block, (a.add (k * 2)).off + 1, none⟩ = some (.int .i64 x.b)) (by kernel_rfl) (by kernel_rfl) rfl ?_ ?_
        · (try dsimp only)
          ((go_split_ands; refine HALL.out _ ?_; (first | assumption | (repeat (first | assumption | refine Fr.new ?_ _ | refine Fr.drew ?_ | (refine Fr.set ?_ (by first | exact Nat.le_refl _ | omega | (simp; done) | (simp; omega)) (by first | (simp; done) | (simp; omega)) _))); done)))
        refine Tw_takeL (i := 0) (v := ?tv1) rfl (by kernel_rfl) (by decide) (by kernel_rfl) (by kernel_rfl) (fun _ _ _ h => h) (by rfl) ?ty1 ?tn1
        case ty1 => (intro w hSw; (try dsimp only at hSw); go_simp <;> with_reducible rfl)
        (try simp only [Act.put, List.setIfInBounds_toArray, List.set_cons_zero, List.set_cons_succ])
        refine Tw_takeL (i := 1) (v := ?tv2) rfl (by kernel_rfl) (by decide) (by kernel_rfl) (by kernel_rfl) (fun _ _ _ h => h) (by rfl) ?ty2 ?tn2
        case ty2 => (intro w hSw; (try dsimp only at hSw); go_simp <;> with_reducible rfl)
        (try simp only [Act.put, List.setIfInBounds_toArray, List.set_cons_zero, List.set_cons_succ])
        refine Tw_takeL (i := 2) (v := ?tv3) rfl (by kernel_rfl) (by decide) (by kernel_rfl) (by kernel_rfl) (fun _ _ _ h => h) (by rfl) ?ty3 ?tn3
        case ty3 => (intro w hSw; (try dsimp only at hSw); go_simp <;> with_reducible rfl)
        (try simp only [Act.put, List.setIfInBounds_toArray, List.set_cons_zero, List.set_cons_succ])
        refine Tw_takeL (i := 3) (v := ?tv4) rfl (by kernel_rfl) (by decide) (by kernel_rfl) (by kernel_rfl) (fun _ _ _ h => h) (by rfl) ?ty4 ?tn4
        case ty4 => (intro w hSw; (try dsimp only at hSw); go_simp <;> with_reducible rfl)
        (try simp only [Act.put, List.setIfInBounds_toArray, List.set_cons_zero, List.set_cons_succ])
        refine Tw_takeL (i := 4) (v := ?tv5) rfl (by kernel_rfl) (by decide) (by kernel_rfl) (by kernel_rfl) (fun _ _ _ h => h) (by rfl) ?ty5 ?tn5
        case ty5 => (intro w hSw; (try dsimp only at hSw); go_simp <;> with_reducible rfl)
        (try simp only [Act.put, List.setIfInBounds_toArray, List.set_cons_zero, List.set_cons_succ])
        refine Tw_all (rs := [5]) (by kernel_rfl) (by simp) (by decide) (fun hHeld => ?_)
        refine AllT.consL rfl (fun K hK => ?_) AllT.nil
        go_simp
        (go_at_call 57; go_split_ands; (with_reducible refine (HAD.out _).mono ?_); rintro e w7 ⟨rfl, hb7⟩; have F4 := Fr.call (by assumption) hb7; have O1 := Lib.hid (own_below (own_drew O1.out) hb7); have O2 := Lib.hid (own_below (own_drew O2.out) hb7); clear hb7)
        refine hK.out _ _ ?_ ?_
        · (try dsimp only)
          ((go_split_ands; refine HALL.out _ ?_; (first | assumption | (repeat (first | assumption | refine Fr.new ?_ _ | refine Fr.drew ?_ | (refine Fr.set ?_ (by first | exact Nat.le_refl _ | omega | (simp; done) | (simp; omega)) (by first | (simp; done) | (simp; omega)) _))); done)))
        clear hK K
        (try simp only [Act.put, List.setIfInBounds_toArray, List.set_cons_zero, List.set_cons_succ])
        refine Tw_end (by kernel_rfl) (fun hh => ?_)
        obtain ⟨F11, _⟩ := hh
        clear HALL
        have c0 := F11.top.cell 0
        have c1 := F11.top.cell 1
        have f0 := F11.top.frozen 0
        have f1 := F11.top.frozen 1
        go_wp2_with fail
        go_meet
        exact ⟨rfl, own_far (own_far O1.out (by simp)) (by simp), own_far (own_far O2.out (by simp)) (by simp), by have h := (F11.put 0 (.int .i64 t.a) (by omega) (by simp; omega)).put 1 (.int .i64 t.b) (by omega) (by simp; omega); exact (by simpa using h)⟩
      case rest =>
        obtain ⟨wx, rfl⟩ : ∃ W, W = wc := ⟨_, rfl⟩
        obtain ⟨rfl, ho1, ho2, hx⟩ := hcut
        clear O1 O2 FK
        have F2 := Lib.hid hx
        have O1 := Lib.hid ho1
        have O2 := Lib.hid ho2
        clear hx ho1 ho2
        obtain ⟨c0, c1, _, _⟩ := F2.out.top.two
        go_wp2_with fail
        refine (HNE.out _).mono ?_
        rintro e w8 ⟨rfl, hb8⟩
        have F3 := Lib.hid (F2.out.call hb8)
        have O1 := Lib.hid (own_below O1.out hb8)
        have O2 := Lib.hid (own_below O2.out hb8)
        clear hb8 F2 c0 c1
        obtain ⟨c0, c1, _, _⟩ := F3.out.top.two
        go_wp2_with fail
        refine (HRE.out _).mono ?_
        rintro e w9 ⟨rfl, hb9⟩
        have F4 := Lib.hid (F3.out.call hb9)
        have O1 := Lib.hid (own_below O1.out hb9)
        have O2 := Lib.hid (own_below O2.out hb9)
        clear hb9 F3 c0 c1
        obtain ⟨c0, c1, f0, f1⟩ := F4.out.top.two
        go_upto_region 9 with fail
        refine wp_abs ?_
        intro w10 hw10
        have F10 : Fr w w10 [(w.heap.size + 1 + 1, 24, #[.int .i64 u.a, .int .i64 u.b]), (w.heap.size + 1, 56, #[v1, v2]), (w.heap.size, 56, #[.slice none 0 0, .slice none 0 0])] := by
          subst hw10
          have h := (F4.out.put 0 (.int .i64 u.a) (by omega) (by simp; omega)).put 1 (.int .i64 u.b) (by omega) (by simp; omega)
          exact (by simpa using h)
        have O1 := Lib.hid (show w10.ownsRow (w.heap.size + 3) 3 1 v1 k (ic (stsV M (xs.take k))) by subst hw10; exact own_far (own_far O1.out (by simp)) (by simp))
        have O2 := Lib.hid (show w10.ownsRow (w.heap.size + 3) 24 2 v2 k ((lftV M (xs.take k)).flatMap tc) by subst hw10; exact own_far (own_far O2.out (by simp)) (by simp))
        clear hw10 F4 c0 c1 f0 f1
        have HALL : Hid (∀ W, Fr w W [(w.heap.size + 1 + 1, 24, #[.int .i64 u.a, .int .i64 u.b]), (w.heap.size + 1, 56, #[v1, v2]), (w.heap.size, 56, #[.slice none 0 0, .slice none 0 0])] → Fr w W [(w.heap.size + 1 + 1, 24, #[.int .i64 u.a, .int .i64 u.b]), (w.heap.size + 1, 56, #[v1, v2]), (w.heap.size, 56, #[.slice none 0 0, .slice none 0 0])] ∧ W.cell? ⟨w.heap.size + 1 + 1, 0, none⟩ = some (.int .i64 u.a) ∧ W.cell? ⟨w.heap.size + 1 + 1, 1, none⟩ = some (.int .i64 u.b) ∧ W.cell? ⟨w.heap.size + 1, 0, none⟩ = some v1 ∧ W.cell? ⟨w.heap.size + 1, 1, none⟩ = some v2) := Lib.hid (fun W hW => ⟨hW, hW.top.cell 0, hW.top.cell 1, hW.at1.cell 0, hW.at1.cell 1⟩)
        refine Tw_start 11 (fun W => Fr w W [(w.heap.size + 1 + 1, 24, #[.int .i64 u.a, .int .i64 u.b]), (w.heap.size + 1, 56, #[v1, v2]), (w.heap.size, 56, #[.slice none 0 0, .slice none 0 0])] ∧ W.cell? ⟨w.heap.size + 1 + 1, 0, none⟩ = some (.int .i64 u.a) ∧ W.cell? ⟨w.heap.size + 1 + 1, 1, none⟩ = some (.int .i64 u.b) ∧ W.cell? ⟨w.heap.size + 1, 0, none⟩ = some v1 ∧ W.cell? ⟨w.heap.size + 1, 1, none⟩ = some v2) (by kernel_rfl) (by kernel_rfl) rfl ?_ ?_
        · (try dsimp only)
          ((go_split_ands; refine HALL.out _ ?_; (first | assumption | (repeat (first | assumption | refine Fr.new ?_ _ | refine Fr.drew ?_ | (refine Fr.set ?_ (by first | exact Nat.le_refl _ | omega | (simp; done) | (simp; omega)) (by first | (simp; done) | (simp; omega)) _))); done)))
        refine Tw_takeL (i := 0) (v := ?tv6) rfl (by kernel_rfl) (by decide) (by kernel_rfl) (by kernel_rfl) (fun _ _ _ h => h) (by rfl) ?ty6 ?tn6
        case ty6 => (intro w hSw; (try dsimp only at hSw); go_simp <;> with_reducible rfl)
        (try simp only [Act.put, List.setIfInBounds_toArray, List.set_cons_zero, List.set_cons_succ])
        refine Tw_takeL (i := 2) (v := ?tv7) rfl (by kernel_rfl) (by decide) (by kernel_rfl) (by kernel_rfl) (fun _ _ _ h => h) (by rfl) ?ty7 ?tn7
        case ty7 => (intro w hSw; (try dsimp only at hSw); go_simp <;> with_reducible rfl)
        (try simp only [Act.put, List.setIfInBounds_toArray, List.set_cons_zero, List.set_cons_succ])
        refine Tw_takeL (i := 5) (v := ?tv8) rfl (by kernel_rfl) (by decide) (by kernel_rfl) (by kernel_rfl) (fun _ _ _ h => h) (by rfl) ?ty8 ?tn8
        case ty8 => (intro w hSw; (try dsimp only at hSw); go_simp <;> with_reducible rfl)
        (try simp only [Act.put, List.setIfInBounds_toArray, List.set_cons_zero, List.set_cons_succ])
        refine Tw_takeL (i := 7) (v := ?tv9) rfl (by kernel_rfl) (by decide) (by kernel_rfl) (by kernel_rfl) (fun _ _ _ h => h) (by rfl) ?ty9 ?tn9
        case ty9 => (intro w hSw; (try dsimp only at hSw); go_simp <;> with_reducible rfl)
        (try simp only [Act.put, List.setIfInBounds_toArray, List.set_cons_zero, List.set_cons_succ])
        refine Tw_takeL (i := 1) (v := ?tv10) rfl (by kernel_rfl) (by decide) (by kernel_rfl) (by kernel_rfl) (fun _ _ _ h => h) (by rfl) ?ty10 ?tn10
        case ty10 => (intro w hSw; (try dsimp only at hSw); go_simp <;> with_reducible rfl)
        (try simp only [Act.put, List.setIfInBounds_toArray, List.set_cons_zero, List.set_cons_succ])
        refine Tw_takeL (i := 6) (v := ?tv11) rfl (by kernel_rfl) (by decide) (by kernel_rfl) (by kernel_rfl) (fun _ _ _ h => h) (by rfl) ?ty11 ?tn11
        case ty11 => (intro w hSw; (try dsimp only at hSw); go_simp <;> with_reducible rfl)
        (try simp only [Act.put, List.setIfInBounds_toArray, List.set_cons_zero, List.set_cons_succ])
        refine Tw_all (rs := [3, 8]) (by kernel_rfl) (by simp) (by decide) (fun hHeld => ?_)
        refine AllT.consL rfl (fun K hK => ?_) (AllT.consL rfl (fun K hK => ?_) (AllT.nil))
        · go_simp
          refine hK.out _ _ ?_ ?_
          · (try dsimp only)
            ((go_split_ands; refine HALL.out _ ?_; (first | assumption | (repeat (first | assumption | refine Fr.new ?_ _ | refine Fr.drew ?_ | (refine Fr.set ?_ (by first | exact Nat.le_refl _ | omega | (simp; done) | (simp; omega)) (by first | (simp; done) | (simp; omega)) _))); done)))
          clear hK K
          (try simp only [Act.put, List.setIfInBounds_toArray, List.set_cons_zero, List.set_cons_succ])
          refine Tw_abs ?_
          intro wA1 hA1
          (first | (have N8 := Lib.hid (Bk.over_alloc hA1 N8.out)) | (have N8 := Lib.hid (Bk.over_alloc_drew hA1 N8.out)) | skip)
          (first | (have N3 := Lib.hid (Bk.of_alloc hA1)) | (have N3 := Lib.hid (Bk.of_alloc_drew hA1)))
          (first | (have O1 := Lib.hid (own_of_alloc hA1 O1.out); have O2 := Lib.hid (own_of_alloc hA1 O2.out)) | (have O1 := Lib.hid (own_of_alloc_drew hA1 O1.out); have O2 := Lib.hid (own_of_alloc_drew hA1 O2.out)))
          clear hA1
          refine Tw_all (rs := [4, 8]) (by kernel_rfl) (by simp) (by decide) (fun hHeld => ?_)
          refine AllT.consL rfl (fun K hK => ?_) (AllT.consL rfl (fun K hK => ?_) (AllT.nil))
          · rw [if_pos (by rfl)]
            refine wp_append_lies _ _ _ 54 rfl (w.heap.size + 3) 3 i0 (.int .i64 0) 1 8 Tryd.underlying54 hi0 hiz0 his0 hib0 rfl (by decide) v1 k (ic (stsV M (xs.take k))) rfl O1.out ⟨_, 0, none⟩ 1 1 [.int .i64 st] rfl rfl N3.out.adds (by simp [Value.oneCell']) (by decide) (by unfold maxLen; omega) (by omega) (by have := hHeld.1.top.lt; omega) _ rfl ?_
            intro g2 cap2 wC2 ho2 hg2 _ _
            have F52 := Fr.grown2 hHeld.1 hg2 (fun q e => (O1.out.lt q e).1) (by omega) (by first | (simp; done) | (simp; omega))
            have O2 := Lib.hid (own_grown O2.out O1.out (by decide) hg2)
            (first | (have N8 := Lib.hid (Bk.grown_own N8.out O1.out (by decide) hg2)) | skip)
            have O1 := Lib.hid ho2
            clear ho2 hg2
            refine hK.out _ _ ?_ ?_
            · (try dsimp only)
              ((go_split_ands; refine HALL.out _ ?_; (first | assumption | (repeat (first | assumption | refine Fr.new ?_ _ | refine Fr.drew ?_ | (refine Fr.set ?_ (by first | exact Nat.le_refl _ | omega | (simp; done) | (simp; omega)) (by first | (simp; done) | (simp; omega)) _))); done)))
            clear hK K
            (try simp only [Act.put, List.setIfInBounds_toArray, List.set_cons_zero, List.set_cons_succ])
            refine Tw_takeL (i := 10) (v := ?tv12) rfl (by kernel_rfl) (by decide) (by kernel_rfl) (by kernel_rfl) (fun _ _ _ h => h) (by rfl) ?ty12 ?tn12
            case ty12 => (intro w hSw; (try dsimp only at hSw); go_simp <;> with_reducible rfl)
            (try simp only [Act.put, List.setIfInBounds_toArray, List.set_cons_zero, List.set_cons_succ])
            refine Tw_all (rs := [8]) (by kernel_rfl) (by simp) (by decide) (fun hHeld => ?_)
            refine AllT.consL rfl (fun K hK => ?_) (AllT.nil)
            · go_simp
              refine hK.out _ _ ?_ ?_
              · (try dsimp only)
                ((go_split_ands; refine HALL.out _ ?_; (first | assumption | (repeat (first | assumption | refine Fr.new ?_ _ | refine Fr.drew ?_ | (refine Fr.set ?_ (by first | exact Nat.le_refl _ | omega | (simp; done) | (simp; omega)) (by first | (simp; done) | (simp; omega)) _))); done)))
              clear hK K
              (try simp only [Act.put, List.setIfInBounds_toArray, List.set_cons_zero, List.set_cons_succ])
              refine Tw_abs ?_
              intro wA3 hA3
              (first | (have N3 := Lib.hid (Bk.over_alloc hA3 N3.out)) | (have N3 := Lib.hid (Bk.over_alloc_drew hA3 N3.out)) | skip)
              (first | (have N8 := Lib.hid (Bk.of_alloc hA3)) | (have N8 := Lib.hid (Bk.of_alloc_drew hA3)))
              (first | (have O1 := Lib.hid (own_of_alloc hA3 O1.out); have O2 := Lib.hid (own_of_alloc hA3 O2.out)) | (have O1 := Lib.hid (own_of_alloc_drew hA3 O1.out); have O2 := Lib.hid (own_of_alloc_drew hA3 O2.out)))
              clear hA3
              refine Tw_all (rs := [9]) (by kernel_rfl) (by simp) (by decide) (fun hHeld => ?_)
              refine AllT.consL rfl (fun K hK => ?_) (AllT.nil)
              · rw [if_pos (by rfl)]
                refine wp_append_lies _ _ _ 43 rfl (w.heap.size + 3) 24 i1 (.agg #[.int .i64 0, .int .i64 0]) 2 16 Tryd.underlying43 hi1 hiz1 his1 hib1 rfl (by decide) v2 k ((lftV M (xs.take k)).flatMap tc) rfl O2.out ⟨_, 0, none⟩ 1 1 [.int .i64 u.a, .int .i64 u.b] rfl rfl N8.out.adds (by simp [Value.oneCell']) (by decide) (by unfold maxLen; omega) (by omega) (by have := hHeld.1.top.lt; omega) _ rfl ?_
                intro g4 cap4 wC4 ho4 hg4 _ _
                have F54 := Fr.grown2 hHeld.1 hg4 (fun q e => (O2.out.lt q e).1) (by omega) (by first | (simp; done) | (simp; omega))
                have O1 := Lib.hid (own_grown O1.out O2.out (by decide) hg4)
                have O2 := Lib.hid ho4
                clear ho4 hg4
                refine hK.out _ _ ?_ ?_
                · (try dsimp only)
                  ((go_split_ands; refine HALL.out _ ?_; (first | assumption | (repeat (first | assumption | refine Fr.new ?_ _ | refine Fr.drew ?_ | (refine Fr.set ?_ (by first | exact Nat.le_refl _ | omega | (simp; done) | (simp; omega)) (by first | (simp; done) | (simp; omega)) _))); done)))
                clear hK K
                (try simp only [Act.put, List.setIfInBounds_toArray, List.set_cons_zero, List.set_cons_succ])
                refine Tw_end (by kernel_rfl) (fun hh => ?_)
                obtain ⟨F11, _⟩ := hh
                clear HALL
                have F12 := Lib.hid F11
                clear F11
                have c0 := F12.out.at1.cell 0
                have c1 := F12.out.at1.cell 1
                have f0 := F12.out.at1.frozen 0
                have f1 := F12.out.at1.frozen 1
                go_wp2_with fail
                go_roundw
                case rel => exact ⟨k + 1, by omega, by go_num, _, _, by rw [HS1.out]; exact own_far (own_far O1.out (by first | (simp; done) | (simp; omega))) (by first | (simp; done) | (simp; omega)), by rw [HS2.out]; exact own_far (own_far O2.out (by first | (simp; done) | (simp; omega))) (by first | (simp; done) | (simp; omega)), by rw [HS3.out]; exact F12.out.mid2 (by omega) (by first | (simp; done) | (simp; omega)) (by first | (simp; done) | (simp; omega))⟩
                case measure => simp [intOf]; omega
          · go_simp
            refine hK.out _ _ ?_ ?_
            · (try dsimp only)
              ((go_split_ands; refine HALL.out _ ?_; (first | assumption | (repeat (first | assumption | refine Fr.new ?_ _ | refine Fr.drew ?_ | (refine Fr.set ?_ (by first | exact Nat.le_refl _ | omega | (simp; done) | (simp; omega)) (by first | (simp; done) | (simp; omega)) _))); done)))
            clear hK K
            (try simp only [Act.put, List.setIfInBounds_toArray, List.set_cons_zero, List.set_cons_succ])
            refine Tw_abs ?_
            intro wA5 hA5
            (first | (have N3 := Lib.hid (Bk.over_alloc hA5 N3.out)) | (have N3 := Lib.hid (Bk.over_alloc_drew hA5 N3.out)) | skip)
            (first | (have N8 := Lib.hid (Bk.of_alloc hA5)) | (have N8 := Lib.hid (Bk.of_alloc_drew hA5)))
            (first | (have O1 := Lib.hid (own_of_alloc hA5 O1.out); have O2 := Lib.hid (own_of_alloc hA5 O2.out)) | (have O1 := Lib.hid (own_of_alloc_drew hA5 O1.out); have O2 := Lib.hid (own_of_alloc_drew hA5 O2.out)))
            clear hA5
            refine Tw_all (rs := [4]) (by kernel_rfl) (by simp) (by decide) (fun hHeld => ?_)
            refine AllT.consL rfl (fun K hK => ?_) (AllT.nil)
            · rw [if_pos (by rfl)]
              refine wp_append_lies _ _ _ 54 rfl (w.heap.size + 3) 3 i0 (.int .i64 0) 1 8 Tryd.underlying54 hi0 hiz0 his0 hib0 rfl (by decide) v1 k (ic (stsV M (xs.take k))) rfl O1.out ⟨_, 0, none⟩ 1 1 [.int .i64 st] rfl rfl N3.out.adds (by simp [Value.oneCell']) (by decide) (by unfold maxLen; omega) (by omega) (by have := hHeld.1.top.lt; omega) _ rfl ?_
              intro g6 cap6 wC6 ho6 hg6 _ _
              have F56 := Fr.grown2 hHeld.1 hg6 (fun q e => (O1.out.lt q e).1) (by omega) (by first | (simp; done) | (simp; omega))
              have O2 := Lib.hid (own_grown O2.out O1.out (by decide) hg6)
              (first | (have N8 := Lib.hid (Bk.grown_own N8.out O1.out (by decide) hg6)) | skip)
              have O1 := Lib.hid ho6
              clear ho6 hg6
              refine hK.out _ _ ?_ ?_
              · (try dsimp only)
                ((go_split_ands; refine HALL.out _ ?_; (first | assumption | (repeat (first | assumption | refine Fr.new ?_ _ | refine Fr.drew ?_ | (refine Fr.set ?_ (by first | exact Nat.le_refl _ | omega | (simp; done) | (simp; omega)) (by first | (simp; done) | (simp; omega)) _))); done)))
              clear hK K
              (try simp only [Act.put, List.setIfInBounds_toArray, List.set_cons_zero, List.set_cons_succ])
              refine Tw_takeL (i := 10) (v := ?tv13) rfl (by kernel_rfl) (by decide) (by kernel_rfl) (by kernel_rfl) (fun _ _ _ h => h) (by rfl) ?ty13 ?tn13
              case ty13 => (intro w hSw; (try dsimp only at hSw); go_simp <;> with_reducible rfl)
              (try simp only [Act.put, List.setIfInBounds_toArray, List.set_cons_zero, List.set_cons_succ])
              refine Tw_all (rs := [9]) (by kernel_rfl) (by simp) (by decide) (fun hHeld => ?_)
              refine AllT.consL rfl (fun K hK => ?_) (AllT.nil)
              · rw [if_pos (by rfl)]
                refine wp_append_lies _ _ _ 43 rfl (w.heap.size + 3) 24 i1 (.agg #[.int .i64 0, .int .i64 0]) 2 16 Tryd.underlying43 hi1 hiz1 his1 hib1 rfl (by decide) v2 k ((lftV M (xs.take k)).flatMap tc) rfl O2.out ⟨_, 0, none⟩ 1 1 [.int .i64 u.a, .int .i64 u.b] rfl rfl N8.out.adds (by simp [Value.oneCell']) (by decide) (by unfold maxLen; omega) (by omega) (by have := hHeld.1.top.lt; omega) _ rfl ?_
                intro g7 cap7 wC7 ho7 hg7 _ _
                have F57 := Fr.grown2 hHeld.1 hg7 (fun q e => (O2.out.lt q e).1) (by omega) (by first | (simp; done) | (simp; omega))
                have O1 := Lib.hid (own_grown O1.out O2.out (by decide) hg7)
                have O2 := Lib.hid ho7
                clear ho7 hg7
                refine hK.out _ _ ?_ ?_
                · (try dsimp only)
                  ((go_split_ands; refine HALL.out _ ?_; (first | assumption | (repeat (first | assumption | refine Fr.new ?_ _ | refine Fr.drew ?_ | (refine Fr.set ?_ (by first | exact Nat.le_refl _ | omega | (simp; done) | (simp; omega)) (by first | (simp; done) | (simp; omega)) _))); done)))
                clear hK K
                (try simp only [Act.put, List.setIfInBounds_toArray, List.set_cons_zero, List.set_cons_succ])
                refine Tw_end (by kernel_rfl) (fun hh => ?_)
                obtain ⟨F11, _⟩ := hh
                clear HALL
                have F12 := Lib.hid F11
                clear F11
                have c0 := F12.out.at1.cell 0
                have c1 := F12.out.at1.cell 1
                have f0 := F12.out.at1.frozen 0
                have f1 := F12.out.at1.frozen 1
                go_wp2_with fail
                go_roundw
                case rel => exact ⟨k + 1, by omega, by go_num, _, _, by rw [HS1.out]; exact own_far (own_far O1.out (by first | (simp; done) | (simp; omega))) (by first | (simp; done) | (simp; omega)), by rw [HS2.out]; exact own_far (own_far O2.out (by first | (simp; done) | (simp; omega))) (by first | (simp; done) | (simp; omega)), by rw [HS3.out]; exact F12.out.mid2 (by omega) (by first | (simp; done) | (simp; omega)) (by first | (simp; done) | (simp; omega))⟩
                case measure => simp [intOf]; omega
        · go_simp
          refine hK.out _ _ ?_ ?_
          · (try dsimp only)
            ((go_split_ands; refine HALL.out _ ?_; (first | assumption | (repeat (first | assumption | refine Fr.new ?_ _ | refine Fr.drew ?_ | (refine Fr.set ?_ (by first | exact Nat.le_refl _ | omega | (simp; done) | (simp; omega)) (by first | (simp; done) | (simp; omega)) _))); done)))
          clear hK K
          (try simp only [Act.put, List.setIfInBounds_toArray, List.set_cons_zero, List.set_cons_succ])
          refine Tw_abs ?_
          intro wA8 hA8
          (first | (have N3 := Lib.hid (Bk.over_alloc hA8 N3.out)) | (have N3 := Lib.hid (Bk.over_alloc_drew hA8 N3.out)) | skip)
          (first | (have N8 := Lib.hid (Bk.of_alloc hA8)) | (have N8 := Lib.hid (Bk.of_alloc_drew hA8)))
          (first | (have O1 := Lib.hid (own_of_alloc hA8 O1.out); have O2 := Lib.hid (own_of_alloc hA8 O2.out)) | (have O1 := Lib.hid (own_of_alloc_drew hA8 O1.out); have O2 := Lib.hid (own_of_alloc_drew hA8 O2.out)))
          clear hA8
          refine Tw_all (rs := [3]) (by kernel_rfl) (by simp) (by decide) (fun hHeld => ?_)
          refine AllT.consL rfl (fun K hK => ?_) (AllT.nil)
          · go_simp
            refine hK.out _ _ ?_ ?_
            · (try dsimp only)
              ((go_split_ands; refine HALL.out _ ?_; (first | assumption | (repeat (first | assumption | refine Fr.new ?_ _ | refine Fr.drew ?_ | (refine Fr.set ?_ (by first | exact Nat.le_refl _ | omega | (simp; done) | (simp; omega)) (by first | (simp; done) | (simp; omega)) _))); done)))
            clear hK K
            (try simp only [Act.put, List.setIfInBounds_toArray, List.set_cons_zero, List.set_cons_succ])
            refine Tw_abs ?_
            intro wA9 hA9
            (first | (have N8 := Lib.hid (Bk.over_alloc hA9 N8.out)) | (have N8 := Lib.hid (Bk.over_alloc_drew hA9 N8.out)) | skip)
            (first | (have N3 := Lib.hid (Bk.of_alloc hA9)) | (have N3 := Lib.hid (Bk.of_alloc_drew hA9)))
            (first | (have O1 := Lib.hid (own_of_alloc hA9 O1.out); have O2 := Lib.hid (own_of_alloc hA9 O2.out)) | (have O1 := Lib.hid (own_of_alloc_drew hA9 O1.out); have O2 := Lib.hid (own_of_alloc_drew hA9 O2.out)))
            clear hA9
            refine Tw_all (rs := [4]) (by kernel_rfl) (by simp) (by decide) (fun hHeld => ?_)
            refine AllT.consL rfl (fun K hK => ?_) (AllT.nil)
            · rw [if_pos (by rfl)]
              refine wp_append_lies _ _ _ 54 rfl (w.heap.size + 3) 3 i0 (.int .i64 0) 1 8 Tryd.underlying54 hi0 hiz0 his0 hib0 rfl (by decide) v1 k (ic (stsV M (xs.take k))) rfl O1.out ⟨_, 0, none⟩ 1 1 [.int .i64 st] rfl rfl N3.out.adds (by simp [Value.oneCell']) (by decide) (by unfold maxLen; omega) (by omega) (by have := hHeld.1.top.lt; omega) _ rfl ?_
              intro g10 cap10 wC10 ho10 hg10 _ _
              have F510 := Fr.grown2 hHeld.1 hg10 (fun q e => (O1.out.lt q e).1) (by omega) (by first | (simp; done) | (simp; omega))
              have O2 := Lib.hid (own_grown O2.out O1.out (by decide) hg10)
              (first | (have N8 := Lib.hid (Bk.grown_own N8.out O1.out (by decide) hg10)) | skip)
              have O1 := Lib.hid ho10
              clear ho10 hg10
              refine hK.out _ _ ?_ ?_
              · (try dsimp only)
                ((go_split_ands; refine HALL.out _ ?_; (first | assumption | (repeat (first | assumption | refine Fr.new ?_ _ | refine Fr.drew ?_ | (refine Fr.set ?_ (by first | exact Nat.le_refl _ | omega | (simp; done) | (simp; omega)) (by first | (simp; done) | (simp; omega)) _))); done)))
              clear hK K
              (try simp only [Act.put, List.setIfInBounds_toArray, List.set_cons_zero, List.set_cons_succ])
              refine Tw_takeL (i := 10) (v := ?tv14) rfl (by kernel_rfl) (by decide) (by kernel_rfl) (by kernel_rfl) (fun _ _ _ h => h) (by rfl) ?ty14 ?tn14
              case ty14 => (intro w hSw; (try dsimp only at hSw); go_simp <;> with_reducible rfl)
              (try simp only [Act.put, List.setIfInBounds_toArray, List.set_cons_zero, List.set_cons_succ])
              refine Tw_all (rs := [9]) (by kernel_rfl) (by simp) (by decide) (fun hHeld => ?_)
              refine AllT.consL rfl (fun K hK => ?_) (AllT.nil)
              · rw [if_pos (by rfl)]
                refine wp_append_lies _ _ _ 43 rfl (w.heap.size + 3) 24 i1 (.agg #[.int .i64 0, .int .i64 0]) 2 16 Tryd.underlying43 hi1 hiz1 his1 hib1 rfl (by decide) v2 k ((lftV M (xs.take k)).flatMap tc) rfl O2.out ⟨_, 0, none⟩ 1 1 [.int .i64 u.a, .int .i64 u.b] rfl rfl N8.out.adds (by simp [Value.oneCell']) (by decide) (by unfold maxLen; omega) (by omega) (by have := hHeld.1.top.lt; omega) _ rfl ?_
                intro g11 cap11 wC11 ho11 hg11 _ _
                have F511 := Fr.grown2 hHeld.1 hg11 (fun q e => (O2.out.lt q e).1) (by omega) (by first | (simp; done) | (simp; omega))
                have O1 := Lib.hid (own_grown O1.out O2.out (by decide) hg11)
                have O2 := Lib.hid ho11
                clear ho11 hg11
                refine hK.out _ _ ?_ ?_
                · (try dsimp only)
                  ((go_split_ands; refine HALL.out _ ?_; (first | assumption | (repeat (first | assumption | refine Fr.new ?_ _ | refine Fr.drew ?_ | (refine Fr.set ?_ (by first | exact Nat.le_refl _ | omega | (simp; done) | (simp; omega)) (by first | (simp; done) | (simp; omega)) _))); done)))
                clear hK K
                (try simp only [Act.put, List.setIfInBounds_toArray, List.set_cons_zero, List.set_cons_succ])
                refine Tw_end (by kernel_rfl) (fun hh => ?_)
                obtain ⟨F11, _⟩ := hh
                clear HALL
                have F12 := Lib.hid F11
                clear F11
                have c0 := F12.out.at1.cell 0
                have c1 := F12.out.at1.cell 1
                have f0 := F12.out.at1.frozen 0
                have f1 := F12.out.at1.frozen 1
                go_wp2_with fail
                go_roundw
                case rel => exact ⟨k + 1, by omega, by go_num, _, _, by rw [HS1.out]; exact own_far (own_far O1.out (by first | (simp; done) | (simp; omega))) (by first | (simp; done) | (simp; omega)), by rw [HS2.out]; exact own_far (own_far O2.out (by first | (simp; done) | (simp; omega))) (by first | (simp; done) | (simp; omega)), by rw [HS3.out]; exact F12.out.mid2 (by omega) (by first | (simp; done) | (simp; omega)) (by first | (simp; done) | (simp; omega))⟩
                case measure => simp [intOf]; omega
    · obtain rfl : k = xs.length := by omega
      rw [List.take_length] at FK O1 O2
      obtain ⟨g1, rfl, L1, _, _⟩ := own_slice O1.out
      obtain ⟨g2, rfl, L2, _, _⟩ := own_slice O2.out
      have c0 := FK.out.at1.cell 0
      have c1 := FK.out.at1.cell 1
      have d0 := FK.out.at2.cell 0
      have d1 := FK.out.at2.cell 1
      have f0 := FK.out.at2.frozen 0
      have f1 := FK.out.at2.frozen 1
      have L3 := Lib.hid L1
      have L4 := Lib.hid L2
      have LF1 := Lib.hid (own_far (p := ⟨w.heap.size, 1, none⟩) (u := .slice g2.A xs.length g2.c) (own_far (p := ⟨w.heap.size, 0, none⟩) (u := .slice g1.A xs.length g1.c) O1.out (by simp)) (by simp))
      have LF2 := Lib.hid (own_far (p := ⟨w.heap.size, 1, none⟩) (u := .slice g2.A xs.length g2.c) (own_far (p := ⟨w.heap.size, 0, none⟩) (u := .slice g1.A xs.length g1.c) O2.out (by simp)) (by simp))
      clear L1 L2
      go_wp2_with fail
      exact bodyPost_ret (v := .agg #[.slice g1.A xs.length g1.c, .slice g2.A xs.length g2.c]) (by simp [results, Tryd.results32, go_sem, c0, c1, d0, d1]) rfl ⟨_, _, _, _, rfl, (own_lies LF1.out).1, (own_lies LF2.out).1, (by repeat (first | exact FK.out.bl | refine Below.drew ?_ | refine Below.setCell ?_ (by first | (simp; done) | (simp; omega) | omega) _ | refine Below.alloc ?_ (by first | (simp; done) | (simp; omega) | omega) _ | exact Below.refl _ _))⟩
end Go.Proofs.YtohldmmfnjfgmaaDoor
