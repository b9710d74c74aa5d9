
/-
  The walk of overlaps.
-/
import Derived.Test.YtohldmmfnjfgmaaDoorTFed2
namespace Go.Proofs.YtohldmmfnjfgmaaDoor
open Go.RowKit

/-- The overlap of section i. -/
def ovV (ls : List Int) (p len : Int) (i : Nat) : Int := max 0 (min (begV ls (i + 1)) (p + len) - max (begV ls i) p)
def ovL (ls : List Int) (p len : Int) : List Int := (List.range ls.length).map (ovV ls p len)
theorem ovL_len (ls : List Int) (p len : Int) : (ovL ls p len).length = ls.length := by simp [ovL]
theorem ovL_at (ls : List Int) (p len : Int) (i : Nat) (hi : i < ls.length) : (ovL ls p len)[i]? = some (ovV ls p len i) := by simp [ovL, hi]
theorem ovV_bound (ls : List Int) (p len : Int) (i : Nat) (hl : 0 ≤ len) : 0 ≤ ovV ls p len i ∧ ovV ls p len i ≤ len := by unfold ovV; omega

theorem bk_val {w : World} {p : Addr} {x y : Int} {g : Nat} {t : TypeId} {cs : Array Value} (h : Bk (w.setCell p (.int .i64 x)) g t cs) (e : x = y) : Bk (w.setCell p (.int .i64 y)) g t cs := e ▸ h
set_option maxHeartbeats 2000000 in
set_option maxRecDepth 100000 in
theorem overlaps_any (ls : List Int) (A : Option Addr) (c : Nat) (p len : Int) (hp : Plc ls p len) (w : World) (hA : Lies w w.heap.size A (ic ls)) :
    Calls Tryd.prog 91 #[.agg #[.slice A ls.length c, .int .i64 (begV ls ls.length)], .agg #[.int .i64 p, .int .i64 len]] w fun e w' => ∃ g, e = .returned (.slice (some ⟨g, 0, none⟩) ls.length ls.length) ∧ Lies w' w'.heap.size (some ⟨g, 0, none⟩) (ic (ovL ls p len)) ∧ Below w.heap.size w w' := by
  have HP := Lib.hid hp
  have hl : (ls.length : Int) ≤ 12 := by have := hp.n1; omega
  have hl0 : 0 < ls.length := by have := hp.n0; omega
  clear hp
  have HL0 := Lib.hid hA
  have HA := Lib.hid (Lies.new (Lies.new hA (.cells #[.slice A ls.length c, .int .i64 (begV ls ls.length)] 123)) (.cells #[.int .i64 p, .int .i64 len] 96))
  have HL := Lib.hid hA
  have F0 := Lib.hid (Fr.b2 w 123 #[.slice A ls.length c, .int .i64 (begV ls ls.length)] 96 #[.int .i64 p, .int .i64 len])
  obtain ⟨i0, hi0, hz0, hs0, hb0⟩ := info_parts info_int
  clear hA
  go_enter Tryd.func91, Tryd.ntmps91
  go_wp2_with (at_make; refine wpList_make_full _ rfl _ _ 54 rfl w.heap.size 3 i0 (.int .i64 0) 1 Tryd.underlying54 hi0 hz0 hs0 .i64 .i64 _ _ ls.length rfl rfl rfl rfl (by rw [hb0]; omega) (by unfold maxLen; omega) (by simp; omega) ?_; intro w1 ho1 hg1; have F1 := Lib.hid (F0.out.call (below_of_grown hg1)); have HA1 := Lib.hid (Lies.call HA.out (below_of_grown hg1)); have N1 : Hid (Bk w1 (w.heap.size + 1 + 1) 3 (rowF ls.length fun _ => 0)) := Lib.hid (by have := made_bk ho1; simpa using this); obtain ⟨c0, c1, _, _⟩ := F1.out.at1.two; obtain ⟨x0, x1, _, _⟩ := F1.out.top.two; clear ho1 hg1)
  have HL1 := Lib.hid (HL0.out.below F1.out.bl)
  clear F0 HA HL HL0
  go_loopw [6, 19] (fun s i wr => ∃ k : Nat, k ≤ ls.length ∧ i = .int .i64 k ∧ s = .int .i64 (begV ls k) ∧ Fr w wr [(w.heap.size + 1, 96, #[.int .i64 p, .int .i64 len]), (w.heap.size, 123, #[.slice A ls.length c, .int .i64 (begV ls ls.length)])] ∧ Bk wr (w.heap.size + 1 + 1) 3 (rowF ls.length fun i => if i < k then ovV ls p len i else 0) ∧ Lies wr w.heap.size A (ic ls)) (fun _ i _ => ls.length - (intOf i).toNat)
  case atStart => exact ⟨0, Nat.zero_le _, rfl, rfl, F1.out, by simpa using N1.out, HL1.out⟩
  case round =>
    obtain ⟨k, hk, rfl, rfl, hf, hn, hla⟩ := hrel
    clear F1 N1 HA1 c0 c1 x0 x1 HL1
    have FK := Lib.hid hf
    have NK := Lib.hid hn
    have LK := Lib.hid hla
    obtain ⟨c0, c1, _, _⟩ := hf.at1.two
    obtain ⟨x0, x1, _, _⟩ := hf.top.two
    have hz := hn.lt
    clear hf hn hla
    obtain ⟨b0, b1⟩ := begV_bound HP.out.x k (by omega)
    obtain ⟨l0, l1⟩ := And.intro HP.out.l0 HP.out.l1
    by_cases hlt : k < ls.length
    · obtain ⟨a, rfl, hab, ca⟩ := LK.out.num (List.getElem?_eq_getElem hlt)
      have hs := Lib.hid (begV_succ ls k hlt)
      obtain ⟨y0, y1⟩ := inB_iff.1 (HP.out.x _ (List.getElem_mem hlt))
      obtain ⟨e0, e1⟩ := begV_bound HP.out.x ls.length (by omega)
      have p0 := HP.out.p0
      have p1 : p ≤ 14000000 := by have := HP.out.p1; omega
      have n0 := NK.out.rowF_at hlt
      have n1 := NK.out.frozen k
      have ho : Hid (ovV ls p len k = max 0 (min (begV ls k + ls[k]) (p + len) - max (begV ls k) p)) := Lib.hid (by unfold ovV; rw [hs.out])
      go_wp2_with fail
      go_roundw
      case rel =>
        refine ⟨k + 1, by omega, by go_num, by rw [hs.out], FK.out.set (by simp; omega) (by first | (simp; done) | (simp; omega)) _, ?_, LK.out.keep (fun q hq => Below.cell (Below.setCell (Below.refl w.heap.size wr) (by simp; omega) _) hq)⟩
        have h := NK.out.rowF_set k (max 0 (min (begV ls k + ls[k]) (p + len) - max (begV ls k) p))
        rw [rowF_congr (g := fun i => if i < k + 1 then ovV ls p len i else 0) (fun i hi => by
          by_cases e1 : i = k
          · rw [if_pos e1, if_pos (by omega), e1, ho.out]
          · rw [if_neg e1]
            by_cases e2 : i < k
            · rw [if_pos e2, if_pos (by omega)]
            · rw [if_neg e2, if_neg (by omega)])] at h
        exact bk_val h (by first | omega | ((repeat' split) <;> omega))
      case measure => simp [intOf]; omega
    · obtain rfl : k = ls.length := by omega
      go_wp2_with fail
      go_ret
      refine ⟨_, rfl, ?_, FK.out.bl⟩
      have : rowF ls.length (fun i => if i < ls.length then ovV ls p len i else 0) = rowF ls.length (ovV ls p len) := rowF_congr (fun i hi => by rw [if_pos hi])
      exact rowF_lies (by have h := NK.out; rwa [this] at h)
end Go.Proofs.YtohldmmfnjfgmaaDoor
