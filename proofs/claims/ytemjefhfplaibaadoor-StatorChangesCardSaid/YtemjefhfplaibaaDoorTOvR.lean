
/-
  The walks of Overlaps and of the reference's, and what overlaps come to.
-/
import Derived.Test.YtemjefhfplaibaaDoorTFed
import Derived.Test.YtemjefhfplaibaaDoorTOv
import Derived.Test.YtemjefhfplaibaaDoorTEven
namespace Go.Proofs.YtemjefhfplaibaaDoor
open Go.RowKit

theorem Fr.grown {w W W' : World} {bs : List (Nat × TypeId × Array Value)} {row : Option Nat} {n0 : Nat} (h : Fr w W bs) (hg : W.grownBy W' row) (hr : ∀ q, row = some q → n0 ≤ q) (hn : w.heap.size ≤ n0) (hb : ∀ b ∈ bs, b.1 < n0) : Fr w W' bs :=
  ⟨h.bl.grown hg h.bl.size (fun q e => by have := hr q e; omega), fun b hm => by
    have h1 := h.bk b hm
    exact (hg.block _ h1.lt (fun e => by have := hr _ e.symm; have := hb b hm; omega)).trans h1⟩

/-- All overlaps together are how much of the train lies so far. -/
theorem ov_sum {ls : List Int} {p len : Int} (hp : Plc ls p len) : ∀ k : Nat, k ≤ ls.length → upTo (ovV ls p len) k = max 0 (min (begV ls k) (p + len) - p)
  | 0, _ => by
    have := hp.p0
    have := hp.l0
    show (0 : Int) = max 0 (min 0 (p + len) - p)
    omega
  | k + 1, h => by
    have ih := ov_sum hp k (by omega)
    have hs := begV_succ ls k (by omega)
    obtain ⟨y0, y1⟩ := inB_iff.1 (hp.x _ (List.getElem_mem (h := (by omega : k < ls.length))))
    have := hp.p0
    have := hp.l0
    rw [upTo, ih]
    unfold ovV
    omega
theorem ov_all {ls : List Int} {p len : Int} (hp : Plc ls p len) : upTo (ovV ls p len) ls.length = len := by
  rw [ov_sum hp ls.length (Nat.le_refl _)]
  have := hp.p0
  have := hp.p1
  have := hp.l0
  omega

theorem own_val {w : World} {base n size : Nat} {e : TypeId} {v : Value} {xs : List Value} {x y : Int} (h : w.ownsRow base e size v n (xs ++ [.int .i64 x])) (hxy : x = y) : w.ownsRow base e size v n (xs ++ [.int .i64 y]) := hxy ▸ h
/-- A slice that holds the overlaps. -/
def OvAt (w : World) (ls : List Int) (p len : Int) (W : World) (v : Value) : Prop := ∃ g : Hd, v = .slice g.A ls.length g.c ∧ Lies W W.heap.size g.A (ic (ovL ls p len)) ∧ Below w.heap.size w W

set_option maxHeartbeats 2000000 in
theorem Overlaps_ok (ls : List Int) (A : Option Addr) (c : Nat) (p len : Int) (hp : Plc ls p len) (w : World) (hA : Lies w w.heap.size A (ic ls)) :
    Calls Tryd.prog 31 #[.agg #[.slice A ls.length c], .agg #[.int .i64 p, .int .i64 len]] w fun e w' => ∃ g : Hd, e = .returned (.tuple #[.slice g.A ls.length g.c, .int .i64 0]) ∧ Lies w' w'.heap.size g.A (ic (ovL ls p len)) ∧ Below w.heap.size w w' := by
  have F0 := Lib.hid (Fr.b2 w 49 #[.slice A ls.length c] 51 #[.int .i64 p, .int .i64 len])
  have HP := Lib.hid hp
  have HA := Lib.hid hA
  clear hA hp
  go_enter Tryd.func31, Tryd.ntmps31
  go_wp2_with fail
  refine (checkPlaced_ok ls A c p len HP.out _ (Fr.lies HA.out F0.out)).mono ?_
  rintro e w1 ⟨rfl, hb1⟩
  have F1 := Lib.hid (Fr.box (F0.out.call hb1) 114 #[.slice A ls.length c, .int .i64 (begV ls ls.length)])
  have G1 := F0.out.call hb1
  obtain ⟨d0, d1, _, _⟩ := G1.top.two
  have z1 := G1.top.lt
  clear hb1 F0 G1
  go_wp2_with fail
  refine (overlaps_any ls A c p len HP.out _ (Fr.lies HA.out F1.out)).mono ?_
  rintro e w2 ⟨g, rfl, hl2, hb2⟩
  have F2 := Lib.hid (F1.out.call hb2)
  have HL := Lib.hid hl2
  clear hb2 F1 hl2
  go_wp2_with fail
  go_ret2
  exact ⟨⟨some ⟨g, 0, none⟩, ls.length⟩, rfl, HL.out, F2.out.bl⟩

set_option maxHeartbeats 2000000 in
theorem Overlaps_bad (ls : List Int) (A : Option Addr) (c : Nat) (hl : ls.length ≤ maxLen) (p len er : Int) (he : plcE ls p len = er) (hr : er ≠ 0) (w : World) (hA : Lies w w.heap.size A (ic ls)) :
    Calls Tryd.prog 31 #[.agg #[.slice A ls.length c], .agg #[.int .i64 p, .int .i64 len]] w fun e w' => e = .returned (.tuple #[.slice none 0 0, .int .i64 er]) ∧ Below w.heap.size w w' := by
  have F0 := Lib.hid (Fr.b2 w 49 #[.slice A ls.length c] 51 #[.int .i64 p, .int .i64 len])
  have HA := Lib.hid hA
  have HE := Lib.hid he
  have HR := Lib.hid hr
  have ge : (er != 0) = true := by simp [hr]
  clear hA he hr
  go_enter Tryd.func31, Tryd.ntmps31
  go_wp2_with fail
  refine (checkPlaced_bad ls A c hl p len er HE.out HR.out _ (Fr.lies HA.out F0.out)).mono ?_
  rintro e w1 ⟨rfl, hb1⟩
  have F1 := Lib.hid (Fr.box (F0.out.call hb1) 114 #[.slice none 0 0, .int .i64 0])
  have G1 := F0.out.call hb1
  obtain ⟨d0, d1, _, _⟩ := G1.top.two
  have z1 := G1.top.lt
  clear hb1 F0 G1
  go_wp2_with fail
  go_ret2
  exact ⟨rfl, F1.out.bl⟩

set_option maxHeartbeats 4000000 in
set_option maxRecDepth 100000 in
theorem refOverlaps_any (ls : List Int) (A : Option Addr) (c : Nat) (p len : Int) (hp : Plc ls p len) (w : World) (hA : Lies w w.heap.size A (ic ls)) :
    Calls Tryd.prog 35 #[.agg #[.slice A ls.length c], .agg #[.int .i64 p, .int .i64 len]] w fun e w' => ∃ g : Hd, e = .returned (.slice g.A ls.length g.c) ∧ Lies w' w'.heap.size g.A (ic (ovL ls p len)) ∧ Below w.heap.size w w' := by
  have F0 := Lib.hid (Fr.b2 w 49 #[.slice A ls.length c] 51 #[.int .i64 p, .int .i64 len])
  have HP := Lib.hid hp
  have HA := Lib.hid hA
  have hl : (ls.length : Int) ≤ 12 := by have := hp.n1; omega
  clear hA hp
  go_enter Tryd.func35, Tryd.ntmps35
  go_wp2_with fail
  go_loopw [5, 6, 7] (fun v s i wr => ∃ k : Nat, k ≤ ls.length ∧ i = .int .i64 k ∧ s = .int .i64 (begV ls k) ∧ wr.ownsRow (w.heap.size + 1 + 1) 3 1 v k (ic ((List.range k).map (ovV ls p len))) ∧ Fr w wr [(w.heap.size + 1, 51, #[.int .i64 p, .int .i64 len]), (w.heap.size, 49, #[.slice A ls.length c])]) (fun _ _ i _ => ls.length - (intOf i).toNat)
  case atStart => exact ⟨0, Nat.zero_le _, rfl, rfl, World.ownsRow_nil _ _ _ _, F0.out⟩
  case round =>
    clear F0
    obtain ⟨k, hk, rfl, rfl, hown, hf⟩ := hrel
    obtain ⟨gs, rfl, _, _, _⟩ := own_slice hown
    have HO := Lib.hid hown
    have FK := Lib.hid hf
    obtain ⟨c0, _⟩ := hf.at1.one
    obtain ⟨x0, x1, _, _⟩ := hf.top.two
    have hsz := hf.top.lt
    clear hown hf
    obtain ⟨b0, b1⟩ := begV_bound HP.out.x k (by omega)
    obtain ⟨l0, l1⟩ := And.intro HP.out.l0 HP.out.l1
    by_cases hlt : k < ls.length
    · obtain ⟨a, rfl, hab, ca⟩ := (Fr.lies HA.out FK.out).num (List.getElem?_eq_getElem hlt)
      have hs := Lib.hid (begV_succ ls k hlt)
      obtain ⟨y0, y1⟩ := inB_iff.1 (HP.out.x _ (List.getElem_mem hlt))
      obtain ⟨e0, e1⟩ := begV_bound HP.out.x ls.length (by omega)
      have p0 := HP.out.p0
      have p1 : p ≤ 14000000 := by have := HP.out.p1; omega
      have ho : Hid (ovV ls p len k = max 0 (min (begV ls k + ls[k]) (p + len) - max (begV ls k) p)) := Lib.hid (by unfold ovV; rw [hs.out])
      obtain ⟨i1, hi, hz0, hz1, hz2⟩ := info_parts info_int
      go_wp2_with (at_builtin; refine wpList_append_own _ rfl _ _ 47 rfl (w.heap.size + 1 + 1) 3 i1 (.int .i64 0) 1 8 Tryd.underlying47 hi hz0 hz1 hz2 rfl (by decide) _ _ _ rfl (own_below HO.out ((Below.refl _ _).alloc (Nat.le_refl _) _)) _ _ _ [.int .i64 _] rfl rfl (Bk.new _ _ _).adds (fun u hu => by simp at hu; subst hu; rfl) (by unfold maxLen; omega) (by omega) (by simp; omega) ?_)
      all_goals
        intro v' w7 o7 g7 _
        have q7 := Lib.hid (Fr.grown (FK.out.new _) g7 (fun q e => (HO.out.lt q e).1) (by omega) (fun b hb => by simp at hb; rcases hb with rfl | rfl <;> (dsimp only; omega)))
        have o8 : Hid (w7.ownsRow (w.heap.size + 1 + 1) 3 1 v' (k + 1) (ic ((List.range (k + 1)).map (ovV ls p len)))) := Lib.hid (by rw [List.range_succ, List.map_append, ic, List.map_append, List.map_singleton, List.map_singleton]; exact own_val o7 (by rw [ho.out]; first | omega | ((repeat' split) <;> omega)))
        clear o7 g7
        go_wp2_with fail
        go_roundw
        case rel => exact ⟨k + 1, by omega, by go_num, by rw [hs.out], o8.out, q7.out⟩
        case measure => simp [intOf]; omega
    · obtain rfl : k = ls.length := by omega
      have HLs := Lib.hid (own_lies HO.out).1
      go_wp2_with fail
      go_ret
      exact ⟨gs, rfl, HLs.out, FK.out.bl⟩
end Go.Proofs.YtemjefhfplaibaaDoor
