
/-
  The walks of check and checkRide: a track, a system, and further errors.
-/
import Derived.Test.YtaghpemdcmjchaaBTr
import Derived.Test.YtaghpemdcmjchaaTRgt
import Derived.Test.YtaghpemdcmjchaaTFrx
import Derived.Deep.AppendLies
import Derived.Deep.DeepCutAuto
import Derived.Deep.CutRange
import Derived.Deep.CutBlock
import Derived.Deep.RegionWith
import Derived.Deep.RegionLaw
import Derived.Stop.RegionWithIn
namespace Go.Proofs.Ytaghpemdcmjchaa
open Go.RowKit

/-- The first error of several that is one. -/
def nz : List Int → Int
  | [] => 0
  | e :: l => if e = 0 then nz l else e
theorem nz_zero {l : List Int} : nz l = 0 ↔ ∀ x ∈ l, x = 0 := by
  induction l with
  | nil => simp [nz]
  | cons e l ih =>
    rw [nz]
    split
    · rename_i h; rw [ih]; simp [h]
    · rename_i h; simp [h]
theorem nz_app (a b : List Int) : nz (a ++ b) = if nz a = 0 then nz b else nz a := by
  induction a with
  | nil => simp [nz]
  | cons e l ih =>
    rw [List.cons_append, nz, nz, ih]
    split
    · rfl
    · rfl
theorem nz_one (e : Int) : nz [e] = e := by simp only [nz]; split <;> simp_all
theorem nz_take_succ {r : Int} {l : List Int} {k : Nat} (hk : k < l.length) (h : nz (r :: l.take k) = 0) : nz (r :: l.take (k + 1)) = l[k] := by
  rw [List.take_succ_eq_append_getElem hk, ← List.cons_append, nz_app, if_pos h, nz_one]
theorem nz_take_ne {r : Int} {l : List Int} {k : Nat} (h : nz (r :: l.take k) ≠ 0) : nz (r :: l) = nz (r :: l.take k) := by
  have e : r :: l = (r :: l.take k) ++ l.drop k := by rw [List.cons_append, List.take_append_drop]
  rw [e, nz_app, if_neg h]
theorem own_one {w : World} {base : Nat} {e : TypeId} {x : Value} (hb : base ≤ w.heap.size) : (w.alloc (.cells #[x] e)).ownsRow base e 1 (.slice (some ⟨w.heap.size, 0, none⟩) 1 1) 1 [x] :=
  ⟨by simp, .inr ⟨w.heap.size, 1, #[x], rfl, hb, heap_alloc_new w _, Nat.le_refl _, by unfold maxLen; omega, by simp, by simp⟩⟩
theorem own_one_alloc {W wA : World} {base : Nat} {e : TypeId} {x : Value} (h : W.alloc (.cells #[x] e) = wA) (hb : base ≤ W.heap.size) : wA.ownsRow base e 1 (.slice (some ⟨W.heap.size, 0, none⟩) 1 1) 1 [x] := by subst h; exact own_one hb
theorem own_one_drew {W wA : World} {base : Nat} {e : TypeId} {x : Value} (h : (W.alloc (.cells #[x] e)).drew = wA) (hb : base ≤ W.heap.size) : wA.ownsRow base e 1 (.slice (some ⟨W.heap.size, 0, none⟩) 1 1) 1 [x] := by subst h; exact own_below (own_one hb) (Below.refl _ _).drew
theorem own_of_alloc {W wA : World} {o : Obj} {base n size : Nat} {e : TypeId} {v : Value} {xs : List Value} (h : W.alloc o = wA) (ho : W.ownsRow base e size v n xs) : wA.ownsRow base e size v n xs := by subst h; exact own_below ho ((Below.refl _ _).alloc (Nat.le_refl _) o)
theorem own_of_alloc_drew {W wA : World} {o : Obj} {base n size : Nat} {e : TypeId} {v : Value} {xs : List Value} (h : (W.alloc o).drew = wA) (ho : W.ownsRow base e size v n xs) : wA.ownsRow base e size v n xs := by subst h; exact own_below ho ((Below.refl _ _).alloc (Nat.le_refl _) o).drew
theorem Bk.grown_own {W W' : World} {g : Nat} {t e : TypeId} {cs : Array Value} {base n size : Nat} {v : Value} {xs : List Value} (hb : Bk W g t cs) (ho : W.ownsRow base e size v n xs) (hne : t ≠ e) (hg : W.grownBy W' v.ownBlock) : Bk W' g t cs := by
  refine (hg.block g hb.lt fun he => ?_).trans hb
  rcases ho.2 with ⟨rfl, _⟩ | ⟨g1, c1, cur1, rfl, _, hh1, _⟩
  · simp [Value.ownBlock] at he
  · simp [Value.ownBlock] at he
    subst he
    unfold Bk at hb
    rw [hb] at hh1
    simp at hh1
    exact hne hh1.2
theorem info_errno : (Try.prog.info? 37).map (fun i => (i.zero, i.size, i.bytes)) = some (some (.int .i64 0), 1, 8) := by kernel_rfl

/-- What check comes to: the track, or nothing, and the first error. -/
def ckCells (E : Int) (s : ByteArray) (A : Option Addr) (n c : Nat) : Array Value := if E = 0 then #[.string s, .slice A n c] else #[.string ⟨#[]⟩, .slice none 0 0]

set_option maxHeartbeats 2000000 in
set_option maxRecDepth 100000 in
theorem check_ok (s : ByteArray) (hs : s.size ≤ maxLen) (ps : List Bp) (A : Option Addr) (c : Nat) (hl : ps.length ≤ maxLen) (fs : List Int) (F : Option Addr) (d : Nat) (hf : fs.length ≤ maxLen) (hE : nz ((trE s ps).2 :: fs) = 0) (w : World) (hA : Lies w w.heap.size A (ps.flatMap pc)) (hF : Lies w w.heap.size F (ic fs)) :
    Calls Try.prog 19 #[.agg #[.string s, .slice A ps.length c], .slice F fs.length d] w fun e w' => e = .returned (.tuple #[.agg #[.string s, .slice A ps.length c], .int .i64 0]) ∧ Below w.heap.size w w' := by
  have hf' := hf
  unfold maxLen at hf'
  have F0 := Lib.hid (Fr.b2 w 24 #[.string s, .slice A ps.length c] 57 #[.string ⟨#[]⟩, .slice none 0 0])
  have HA := Lib.hid hA
  have HF := Lib.hid hF
  obtain ⟨r, hr⟩ : ∃ r, (trE s ps).2 = r := ⟨_, rfl⟩
  obtain ⟨q, hq⟩ : ∃ q, (trE s ps).1 = q := ⟨_, rfl⟩
  rw [hr] at hE
  have HR := Lib.hid hr
  have HQ := Lib.hid hq
  have HE := Lib.hid hE
  clear hA hF hr hq hE
  go_enter Try.func19, Try.ntmps19
  go_wp2_with fail
  refine (CheckTrack_any s hs ps A c hl _ (Fr.lies HA.out F0.out)).mono ?_
  rintro e w1 ⟨rfl, hb1⟩
  rw [HR.out, HQ.out]
  have F1 := Lib.hid (F0.out.call hb1)
  have HF1 := Lib.hid (Fr.lies HF.out F1.out)
  obtain ⟨x0, x1, _, _⟩ := F1.out.at1.two
  obtain ⟨d0, d1, f0, f1⟩ := F1.out.top.two
  have z1 := F1.out.top.lt
  clear hb1 F0
  go_wp2_with fail
  go_loop [7, 17] (fun e i => ∃ k : Nat, k ≤ fs.length ∧ i = .int .i64 k ∧ e = .int .i64 (nz (r :: fs.take k))) (fun _ i => fs.length - (intOf i).toNat)
  case atStart => exact ⟨0, Nat.zero_le _, rfl, by simp [nz_one]⟩
  case round =>
    obtain ⟨k, hk, rfl, rfl⟩ := hrel
    obtain ⟨z, hz⟩ : ∃ z, nz (r :: fs.take k) = z := ⟨_, rfl⟩
    rw [hz]
    have HZ := Lib.hid hz
    clear hz
    by_cases hlt : k < fs.length
    · obtain ⟨a, rfl, _, ca⟩ := HF1.out.num (List.getElem?_eq_getElem hlt)
      by_cases h0 : z = 0
      · subst h0
        go_wp2_with fail
        go_round
        case rel => exact ⟨k + 1, by omega, by go_num, by rw [nz_take_succ hlt HZ.out]⟩
        case measure => simp [intOf]; omega
      · exfalso
        have := HE.out
        rw [nz_take_ne (by rw [HZ.out]; exact h0), HZ.out] at this
        exact h0 this
    · obtain rfl : k = fs.length := by omega
      obtain rfl : z = 0 := by rw [← HZ.out, List.take_length]; exact HE.out
      go_wp2_with fail
      exact bodyPost_ret (v := .tuple #[.agg #[.string s, .slice A ps.length c], .int .i64 0]) (by simp [results, Try.results19, go_sem, d0, d1]) rfl ⟨rfl, (by repeat (first | exact F1.out.bl | refine Below.drew ?_ | refine Below.setCell ?_ (by first | (simp; done) | (simp; omega) | omega) _ | refine Below.alloc ?_ (by first | (simp; done) | (simp; omega) | omega) _ | exact Below.refl _ _))⟩

set_option maxHeartbeats 2000000 in
set_option maxRecDepth 100000 in
theorem check_bad (s : ByteArray) (hs : s.size ≤ maxLen) (ps : List Bp) (A : Option Addr) (c : Nat) (hl : ps.length ≤ maxLen) (fs : List Int) (F : Option Addr) (d : Nat) (hf : fs.length ≤ maxLen) (E : Int) (hE : nz ((trE s ps).2 :: fs) = E) (hE0 : E ≠ 0) (w : World) (hA : Lies w w.heap.size A (ps.flatMap pc)) (hF : Lies w w.heap.size F (ic fs)) :
    Calls Try.prog 19 #[.agg #[.string s, .slice A ps.length c], .slice F fs.length d] w fun e w' => e = .returned (.tuple #[.agg #[.string ⟨#[]⟩, .slice none 0 0], .int .i64 E]) ∧ Below w.heap.size w w' := by
  have hf' := hf
  unfold maxLen at hf'
  have F0 := Lib.hid (Fr.b2 w 24 #[.string s, .slice A ps.length c] 57 #[.string ⟨#[]⟩, .slice none 0 0])
  have HA := Lib.hid hA
  have HF := Lib.hid hF
  obtain ⟨r, hr⟩ : ∃ r, (trE s ps).2 = r := ⟨_, rfl⟩
  obtain ⟨q, hq⟩ : ∃ q, (trE s ps).1 = q := ⟨_, rfl⟩
  rw [hr] at hE
  have HR := Lib.hid hr
  have HQ := Lib.hid hq
  have HE := Lib.hid hE
  have HE0 := Lib.hid hE0
  have gE : (E != 0) = true := by simp [hE0]
  clear hE0
  clear hA hF hr hq hE
  go_enter Try.func19, Try.ntmps19
  go_wp2_with fail
  refine (CheckTrack_any s hs ps A c hl _ (Fr.lies HA.out F0.out)).mono ?_
  rintro e w1 ⟨rfl, hb1⟩
  rw [HR.out, HQ.out]
  have F1 := Lib.hid (F0.out.call hb1)
  have HF1 := Lib.hid (Fr.lies HF.out F1.out)
  obtain ⟨x0, x1, _, _⟩ := F1.out.at1.two
  obtain ⟨d0, d1, f0, f1⟩ := F1.out.top.two
  have z1 := F1.out.top.lt
  clear hb1 F0
  go_wp2_with fail
  go_loop [7, 17] (fun e i => ∃ k : Nat, k ≤ fs.length ∧ i = .int .i64 k ∧ e = .int .i64 (nz (r :: fs.take k))) (fun _ i => fs.length - (intOf i).toNat)
  case atStart => exact ⟨0, Nat.zero_le _, rfl, by simp [nz_one]⟩
  case round =>
    obtain ⟨k, hk, rfl, rfl⟩ := hrel
    obtain ⟨z, hz⟩ : ∃ z, nz (r :: fs.take k) = z := ⟨_, rfl⟩
    rw [hz]
    have HZ := Lib.hid hz
    clear hz
    by_cases hlt : k < fs.length
    · obtain ⟨a, rfl, _, ca⟩ := HF1.out.num (List.getElem?_eq_getElem hlt)
      by_cases h0 : z = 0
      · subst h0
        go_wp2_with fail
        go_round
        case rel => exact ⟨k + 1, by omega, by go_num, by rw [nz_take_succ hlt HZ.out]⟩
        case measure => simp [intOf]; omega
      · have ge : (z != 0) = true := by simp [h0]
        have hzE : z = E := by rw [← HE.out, ← HZ.out]; exact (nz_take_ne (by rw [HZ.out]; exact h0)).symm
        clear h0
        subst hzE
        go_wp2_with fail
        exact bodyPost_ret (v := .tuple #[.agg #[.string ⟨#[]⟩, .slice none 0 0], .int .i64 z]) (by simp [results, Try.results19, go_sem, d0, d1]) rfl ⟨rfl, (by repeat (first | exact F1.out.bl | refine Below.drew ?_ | refine Below.setCell ?_ (by first | (simp; done) | (simp; omega) | omega) _ | refine Below.alloc ?_ (by first | (simp; done) | (simp; omega) | omega) _ | exact Below.refl _ _))⟩
    · obtain rfl : k = fs.length := by omega
      have hzE : z = E := by rw [← HE.out, ← HZ.out, List.take_length]
      subst hzE
      go_wp2_with fail
      exact bodyPost_ret (v := .tuple #[.agg #[.string ⟨#[]⟩, .slice none 0 0], .int .i64 z]) (by simp [results, Try.results19, go_sem, d0, d1]) rfl ⟨rfl, (by repeat (first | exact F1.out.bl | refine Below.drew ?_ | refine Below.setCell ?_ (by first | (simp; done) | (simp; omega) | omega) _ | refine Below.alloc ?_ (by first | (simp; done) | (simp; omega) | omega) _ | exact Below.refl _ _))⟩

theorem far3 {n g : Nat} {t1 t2 t3 : TypeId} {c1 c2 c3 : Array Value} (h : n + 3 ≤ g) : ∀ b ∈ [(n + 1 + 1, t1, c1), (n + 1, t2, c2), (n, t3, c3)], b.1 ≠ g := by
  intro b hb
  simp only [List.mem_cons, List.not_mem_nil, or_false] at hb
  rcases hb with rfl | rfl | rfl <;> (dsimp only; omega)
theorem Fr.off2 {w W : World} {g : Nat} {t1 t2 t3 : TypeId} {c1 c2 c3 : Array Value} (h : Fr w W [(w.heap.size + 1 + 1, t1, c1), (w.heap.size + 1, t2, c2), (w.heap.size, t3, c3)]) (hg : w.heap.size + 3 ≤ g) (u v : Value) :
    Fr w ((W.setCell ⟨g, 0, none⟩ u).setCell ⟨g, 1, none⟩ v) [(w.heap.size + 1 + 1, t1, c1), (w.heap.size + 1, t2, c2), (w.heap.size, t3, c3)] :=
  (h.set (p := ⟨g, 0, none⟩) (Nat.le_trans (Nat.le_add_right _ 3) hg) (far3 hg) u).set (p := ⟨g, 1, none⟩) (Nat.le_trans (Nat.le_add_right _ 3) hg) (far3 hg) v
theorem Fr.put2a {w W : World} {bs : List (Nat × TypeId × Array Value)} {g : Nat} {t : TypeId} {a b : Value} (h : Fr w W ((g, t, #[a, b]) :: bs)) (hg : w.heap.size ≤ g) (hn : ∀ b ∈ bs, b.1 ≠ g) (x y : Value) : Fr w ((W.setCell ⟨g, 0, none⟩ x).setCell ⟨g, 1, none⟩ y) ((g, t, #[x, y]) :: bs) := by
  have := (h.put 0 x hg hn).put 1 y hg hn
  simpa using this

set_option maxHeartbeats 4000000 in
set_option maxRecDepth 100000 in
theorem checkRide_ok (s : ByteArray) (hs : s.size ≤ maxLen) (ps : List Bp) (A : Option Addr) (c : Nat) (hl : ps.length ≤ maxLen) (b : Bs) (fs : List Int) (fa : Addr) (d : Nat) (hm0 : 0 < fs.length) (hf : fs.length ≤ 100) (hE : nz ((trE s ps).2 :: sE b :: fs) = 0) (w : World) (hA : Lies w w.heap.size A (ps.flatMap pc)) (hF : Lies w w.heap.size (some fa) (ic fs)) :
    Calls Try.prog 22 #[.agg #[.string s, .slice A ps.length c], .agg #[.int .i64 b.brk, .int .i64 b.drag, .int .i64 b.drv], .slice (some fa) fs.length d] w fun e w' => e = .returned (.tuple #[.agg #[.string s, .slice A ps.length c, .int .i64 b.brk, .int .i64 b.drag, .int .i64 b.drv], .int .i64 0]) ∧ Below w.heap.size w w' := by
  have F0 := Lib.hid (Fr.b3 w 24 #[.string s, .slice A ps.length c] 26 #[.int .i64 b.brk, .int .i64 b.drag, .int .i64 b.drv] 64 #[.string ⟨#[]⟩, .slice none 0 0, .int .i64 0, .int .i64 0, .int .i64 0])
  have HA := Lib.hid hA
  have HF := Lib.hid hF
  obtain ⟨i0, hi0, hiz0, his0, hib0⟩ := info_parts info_errno
  have k1 : Hid ((ic fs).length = fs.length * 1) := Lib.hid (by simp [ic])
  obtain ⟨se, hse⟩ : ∃ se, sE b = se := ⟨_, rfl⟩
  rw [hse] at hE
  have HSE := Lib.hid hse
  have HCA : Hid (∀ (g : Nat) (cap : Nat) (W : World), Lies W W.heap.size A (ps.flatMap pc) → Lies W W.heap.size (some ⟨g, 0, none⟩) (.int .i64 se :: ic fs) → Calls Try.prog 19 #[.agg #[.string s, .slice A ps.length c], .slice (some ⟨g, 0, none⟩) (1 + fs.length) cap] W fun e w' => e = .returned (.tuple #[.agg #[.string s, .slice A ps.length c], .int .i64 0]) ∧ Below W.heap.size W w') := Lib.hid (fun g cap W h1 h2 => by
    have := check_ok s hs ps A c hl (se :: fs) (some ⟨g, 0, none⟩) cap (by simp; unfold maxLen; omega) hE W h1 h2
    rw [List.length_cons, Nat.add_comm] at this
    exact this)
  clear hA hF hE hse
  go_enter Try.func22, Try.ntmps22
  go_upto_region 1 with fail
  go_cut [8, 9] from 8 to 19 (fun p r W => ∃ g : Nat, p = .pointer (some ⟨g, 0, none⟩) ∧ r = .int .i64 0 ∧ Fr w W ((g, 57, #[.string s, .slice A ps.length c]) :: [(w.heap.size + 1 + 1, 64, #[.string ⟨#[]⟩, .slice none 0 0, .int .i64 0, .int .i64 0, .int .i64 0]), (w.heap.size + 1, 26, #[.int .i64 b.brk, .int .i64 b.drag, .int .i64 b.drv]), (w.heap.size, 24, #[.string s, .slice A ps.length c])]))
  case first =>
    have HALL : Hid (∀ W, Fr w W [(w.heap.size + 1 + 1, 64, #[.string ⟨#[]⟩, .slice none 0 0, .int .i64 0, .int .i64 0, .int .i64 0]), (w.heap.size + 1, 26, #[.int .i64 b.brk, .int .i64 b.drag, .int .i64 b.drv]), (w.heap.size, 24, #[.string s, .slice A ps.length c])] → Fr w W [(w.heap.size + 1 + 1, 64, #[.string ⟨#[]⟩, .slice none 0 0, .int .i64 0, .int .i64 0, .int .i64 0]), (w.heap.size + 1, 26, #[.int .i64 b.brk, .int .i64 b.drag, .int .i64 b.drv]), (w.heap.size, 24, #[.string s, .slice A ps.length c])] ∧ W.cell? ⟨w.heap.size, 0, none⟩ = some (.string s) ∧ W.cell? ⟨w.heap.size, 1, none⟩ = some (.slice A ps.length c) ∧ W.cell? ⟨w.heap.size + 1, 0, none⟩ = some (.int .i64 b.brk) ∧ W.cell? ⟨w.heap.size + 1, 1, none⟩ = some (.int .i64 b.drag) ∧ W.cell? ⟨w.heap.size + 1, 2, none⟩ = some (.int .i64 b.drv)) := Lib.hid (fun W hW => ⟨hW, hW.at2.cell 0, hW.at2.cell 1, hW.at1.cell 0, hW.at1.cell 1, hW.at1.cell 2⟩)
    refine wp_abs ?_
    intro w5 h5
    have F10 : Fr w w5 [(w.heap.size + 1 + 1, 64, #[.string ⟨#[]⟩, .slice none 0 0, .int .i64 0, .int .i64 0, .int .i64 0]), (w.heap.size + 1, 26, #[.int .i64 b.brk, .int .i64 b.drag, .int .i64 b.drv]), (w.heap.size, 24, #[.string s, .slice A ps.length c])] := by subst h5; exact F0.out
    clear F0 h5
    refine Tw_start 12 (fun W => Fr w W [(w.heap.size + 1 + 1, 64, #[.string ⟨#[]⟩, .slice none 0 0, .int .i64 0, .int .i64 0, .int .i64 0]), (w.heap.size + 1, 26, #[.int .i64 b.brk, .int .i64 b.drag, .int .i64 b.drv]), (w.heap.size, 24, #[.string s, .slice A ps.length c])] ∧ W.cell? ⟨w.heap.size, 0, none⟩ = some (.string s) ∧ W.cell? ⟨w.heap.size, 1, none⟩ = some (.slice A ps.length c) ∧ W.cell? ⟨w.heap.size + 1, 0, none⟩ = some (.int .i64 b.brk) ∧ W.cell? ⟨w.heap.size + 1, 1, none⟩ = some (.int .i64 b.drag) ∧ W.cell? ⟨w.heap.size + 1, 2, none⟩ = some (.int .i64 b.drv)) (by kernel_rfl) (by kernel_rfl) rfl ?_ ?_
    · (try dsimp only)
      ((go_split_ands; refine HALL.out _ ?_; (first | assumption | (repeat (first | assumption | refine Fr.new ?_ _ | refine Fr.drew ?_ | (refine Fr.set ?_ (by first | exact Nat.le_refl _ | omega | (simp; done) | (simp; omega)) (by first | (simp; done) | (simp; omega)) _))); done)))
    refine Tw_takeL (i := 0) (v := ?tv1) rfl (by kernel_rfl) (by decide) (by kernel_rfl) (by kernel_rfl) (fun _ _ _ h => h) (by rfl) ?ty1 ?tn1
    case ty1 => (intro w hSw; (try dsimp only at hSw); go_simp <;> with_reducible rfl)
    (try simp only [Act.put, List.setIfInBounds_toArray, List.set_cons_zero, List.set_cons_succ])
    refine Tw_takeL (i := 1) (v := ?tv2) rfl (by kernel_rfl) (by decide) (by kernel_rfl) (by kernel_rfl) (fun _ _ _ h => h) (by rfl) ?ty2 ?tn2
    case ty2 => (intro w hSw; (try dsimp only at hSw); go_simp <;> with_reducible rfl)
    (try simp only [Act.put, List.setIfInBounds_toArray, List.set_cons_zero, List.set_cons_succ])
    refine Tw_takeL (i := 4) (v := ?tv3) rfl (by kernel_rfl) (by decide) (by kernel_rfl) (by kernel_rfl) (fun _ _ _ h => h) (by rfl) ?ty3 ?tn3
    case ty3 => (intro w hSw; (try dsimp only at hSw); go_simp <;> with_reducible rfl)
    (try simp only [Act.put, List.setIfInBounds_toArray, List.set_cons_zero, List.set_cons_succ])
    refine Tw_all (rs := [2, 10]) (by kernel_rfl) (by simp) (by decide) (fun hHeld => ?_)
    refine AllT.consL rfl (fun K hK => ?_) (AllT.consL rfl (fun K hK => ?_) (AllT.nil))
    · go_simp
      (go_at_call 35; go_split_ands; (with_reducible refine (CheckSystem_any b _).mono ?_); rintro e w7 ⟨rfl, hb7⟩; rw [HSE.out]; have F4 := Fr.call (by assumption) hb7; (first | (have N1 := Lib.hid (Bk.call N1.out hb7)) | skip); clear hb7)
      refine hK.out _ _ ?_ ?_
      · (try dsimp only)
        ((go_split_ands; refine HALL.out _ ?_; (first | assumption | (repeat (first | assumption | refine Fr.new ?_ _ | refine Fr.drew ?_ | (refine Fr.set ?_ (by first | exact Nat.le_refl _ | omega | (simp; done) | (simp; omega)) (by first | (simp; done) | (simp; omega)) _))); done)))
      clear hK K
      (try simp only [Act.put, List.setIfInBounds_toArray, List.set_cons_zero, List.set_cons_succ])
      refine Tw_all (rs := [3, 10]) (by kernel_rfl) (by simp) (by decide) (fun hHeld => ?_)
      refine AllT.consL rfl (fun K hK => ?_) (AllT.consL rfl (fun K hK => ?_) (AllT.nil))
      · go_simp
        refine hK.out _ _ ?_ ?_
        · (try dsimp only)
          ((go_split_ands; refine HALL.out _ ?_; (first | assumption | (repeat (first | assumption | refine Fr.new ?_ _ | refine Fr.drew ?_ | (refine Fr.set ?_ (by first | exact Nat.le_refl _ | omega | (simp; done) | (simp; omega)) (by first | (simp; done) | (simp; omega)) _))); done)))
        clear hK K
        (try simp only [Act.put, List.setIfInBounds_toArray, List.set_cons_zero, List.set_cons_succ])
        refine Tw_abs ?_
        intro wA2 hA2
        (first | (have N1 := Lib.hid (Bk.over_alloc hA2 N1.out)) | (have N1 := Lib.hid (Bk.over_alloc_drew hA2 N1.out)) | skip)
        (first | (have O1 := Lib.hid (own_one_alloc (base := w.heap.size + 3) hA2 (by have := hHeld.1.top.lt; omega))) | (have O1 := Lib.hid (own_one_drew (base := w.heap.size + 3) hA2 (by have := hHeld.1.top.lt; omega))))
        clear hA2
        refine Tw_all (rs := [5, 10]) (by kernel_rfl) (by simp) (by decide) (fun hHeld => ?_)
        refine AllT.consL rfl (fun K hK => ?_) (AllT.consL rfl (fun K hK => ?_) (AllT.nil))
        · rw [if_pos (by rfl)]
          refine wp_append_lies _ _ _ 75 rfl (w.heap.size + 3) 37 i0 (.int .i64 0) 1 8 Try.underlying75 hi0 hiz0 his0 hib0 rfl (by decide) _ 1 [.int .i64 se] rfl O1.out fa fs.length d (ic fs) rfl k1.out (Lies.adds (HF.out.below hHeld.1.bl)) (ic_one fs) hm0 (by unfold maxLen; omega) (by omega) (by have := hHeld.1.top.lt; omega) _ rfl ?_
          intro g3 cap3 wC3 ho3 hg3 _ _
          have F53 := Fr.grown2 hHeld.1 hg3 (fun q e => (O1.out.lt q e).1) (by omega) (by first | (simp; done) | (simp; omega))
          (first | (have N1 := Lib.hid (Bk.grown_own N1.out O1.out (by decide) hg3)) | skip)
          have O1 := Lib.hid ho3
          clear ho3 hg3
          refine hK.out _ _ ?_ ?_
          · (try dsimp only)
            ((go_split_ands; refine HALL.out _ ?_; (first | assumption | (repeat (first | assumption | refine Fr.new ?_ _ | refine Fr.drew ?_ | (refine Fr.set ?_ (by first | exact Nat.le_refl _ | omega | (simp; done) | (simp; omega)) (by first | (simp; done) | (simp; omega)) _))); done)))
          clear hK K
          (try simp only [Act.put, List.setIfInBounds_toArray, List.set_cons_zero, List.set_cons_succ])
          refine Tw_all (rs := [6, 10]) (by kernel_rfl) (by simp) (by decide) (fun hHeld => ?_)
          refine AllT.consL rfl (fun K hK => ?_) (AllT.consL rfl (fun K hK => ?_) (AllT.nil))
          · go_simp
            (go_at_call 19; go_split_ands; have HCK := Lib.hid (own_lies (g := ⟨some ⟨_, 0, none⟩, _⟩) O1.out).1; (refine (HCA.out _ _ _ (Fr.lies HA.out (by assumption)) (HCK.out)).mono ?_); rintro e w7 ⟨rfl, hb7⟩; have F6 := Fr.call (by assumption) hb7; (first | (have N1 := Lib.hid (Bk.call N1.out hb7)) | skip); clear hb7 HCK)
            refine hK.out _ _ ?_ ?_
            · (try dsimp only)
              ((go_split_ands; refine HALL.out _ ?_; (first | assumption | (repeat (first | assumption | refine Fr.new ?_ _ | refine Fr.drew ?_ | (refine Fr.set ?_ (by first | exact Nat.le_refl _ | omega | (simp; done) | (simp; omega)) (by first | (simp; done) | (simp; omega)) _))); done)))
            clear hK K
            (try simp only [Act.put, List.setIfInBounds_toArray, List.set_cons_zero, List.set_cons_succ])
            refine Tw_takeL (i := 7) (v := ?tv4) rfl (by kernel_rfl) (by decide) (by kernel_rfl) (by kernel_rfl) (fun _ _ _ h => h) (by rfl) ?ty4 ?tn4
            case ty4 => (intro w hSw; (try dsimp only at hSw); go_simp <;> with_reducible rfl)
            (try simp only [Act.put, List.setIfInBounds_toArray, List.set_cons_zero, List.set_cons_succ])
            refine Tw_takeL (i := 8) (v := ?tv5) rfl (by kernel_rfl) (by decide) (by kernel_rfl) (by kernel_rfl) (fun _ _ _ h => h) (by rfl) ?ty5 ?tn5
            case ty5 => (intro w hSw; (try dsimp only at hSw); go_simp <;> with_reducible rfl)
            (try simp only [Act.put, List.setIfInBounds_toArray, List.set_cons_zero, List.set_cons_succ])
            refine Tw_takeL (i := 9) (v := ?tv6) rfl (by kernel_rfl) (by decide) (by kernel_rfl) (by kernel_rfl) (fun _ _ _ h => h) (by rfl) ?ty6 ?tn6
            case ty6 => (intro w hSw; (try dsimp only at hSw); go_simp <;> with_reducible rfl)
            (try simp only [Act.put, List.setIfInBounds_toArray, List.set_cons_zero, List.set_cons_succ])
            refine Tw_all (rs := [10]) (by kernel_rfl) (by simp) (by decide) (fun hHeld => ?_)
            refine AllT.consL rfl (fun K hK => ?_) (AllT.nil)
            · go_simp
              refine hK.out _ _ ?_ ?_
              · (try dsimp only)
                ((go_split_ands; refine HALL.out _ ?_; (first | assumption | (repeat (first | assumption | refine Fr.new ?_ _ | refine Fr.drew ?_ | (refine Fr.set ?_ (by first | exact Nat.le_refl _ | omega | (simp; done) | (simp; omega)) (by first | (simp; done) | (simp; omega)) _))); done)))
              clear hK K
              (try simp only [Act.put, List.setIfInBounds_toArray, List.set_cons_zero, List.set_cons_succ])
              refine Tw_abs ?_
              intro wA5 hA5
              (first | (have N1 := Lib.hid (Bk.of_alloc hA5)) | (have N1 := Lib.hid (Bk.of_alloc_drew hA5)))
              have zg := Lib.hid (show w.heap.size + 3 ≤ _ from hHeld.1.top.lt)
              (first | (have O1 := Lib.hid (own_of_alloc hA5 O1.out)) | (have O1 := Lib.hid (own_of_alloc_drew hA5 O1.out)) | skip)
              clear hA5
              refine Tw_all (rs := [11]) (by kernel_rfl) (by simp) (by decide) (fun hHeld => ?_)
              refine AllT.consL rfl (fun K hK => ?_) (AllT.nil)
              · have c0 := N1.out.cell 0
                have c1 := N1.out.cell 1
                have f0 := N1.out.frozen 0
                have f1 := N1.out.frozen 1
                have zN := N1.out.lt
                go_simp
                refine hK.out _ _ ?_ ?_
                · exact HALL.out _ (Fr.off2 hHeld.1 zg.out _ _)
                clear hK K c0 c1 f0 f1 zN
                have N1 := Lib.hid (Bk.set2 N1.out (.string s) (.slice A ps.length c))
                (try simp only [Act.put, List.setIfInBounds_toArray, List.set_cons_zero, List.set_cons_succ])
                refine Tw_end (by kernel_rfl) (fun hh => ?_)
                obtain ⟨F11, _⟩ := hh
                clear HALL
                go_wp2_with fail
                go_meet
                exact ⟨_, rfl, rfl, F11.more N1.out⟩
          · go_simp
            refine hK.out _ _ ?_ ?_
            · (try dsimp only)
              ((go_split_ands; refine HALL.out _ ?_; (first | assumption | (repeat (first | assumption | refine Fr.new ?_ _ | refine Fr.drew ?_ | (refine Fr.set ?_ (by first | exact Nat.le_refl _ | omega | (simp; done) | (simp; omega)) (by first | (simp; done) | (simp; omega)) _))); done)))
            clear hK K
            (try simp only [Act.put, List.setIfInBounds_toArray, List.set_cons_zero, List.set_cons_succ])
            refine Tw_abs ?_
            intro wA7 hA7
            (first | (have N1 := Lib.hid (Bk.of_alloc hA7)) | (have N1 := Lib.hid (Bk.of_alloc_drew hA7)))
            have zg := Lib.hid (show w.heap.size + 3 ≤ _ from hHeld.1.top.lt)
            (first | (have O1 := Lib.hid (own_of_alloc hA7 O1.out)) | (have O1 := Lib.hid (own_of_alloc_drew hA7 O1.out)) | skip)
            clear hA7
            refine Tw_all (rs := [6]) (by kernel_rfl) (by simp) (by decide) (fun hHeld => ?_)
            refine AllT.consL rfl (fun K hK => ?_) (AllT.nil)
            · go_simp
              (go_at_call 19; go_split_ands; have HCK := Lib.hid (own_lies (g := ⟨some ⟨_, 0, none⟩, _⟩) O1.out).1; (refine (HCA.out _ _ _ (Fr.lies HA.out (by assumption)) (HCK.out)).mono ?_); rintro e w7 ⟨rfl, hb7⟩; have F6 := Fr.call (by assumption) hb7; (first | (have N1 := Lib.hid (Bk.call N1.out hb7)) | skip); clear hb7 HCK)
              refine hK.out _ _ ?_ ?_
              · (try dsimp only)
                ((go_split_ands; refine HALL.out _ ?_; (first | assumption | (repeat (first | assumption | refine Fr.new ?_ _ | refine Fr.drew ?_ | (refine Fr.set ?_ (by first | exact Nat.le_refl _ | omega | (simp; done) | (simp; omega)) (by first | (simp; done) | (simp; omega)) _))); done)))
              clear hK K
              (try simp only [Act.put, List.setIfInBounds_toArray, List.set_cons_zero, List.set_cons_succ])
              refine Tw_takeL (i := 7) (v := ?tv7) rfl (by kernel_rfl) (by decide) (by kernel_rfl) (by kernel_rfl) (fun _ _ _ h => h) (by rfl) ?ty7 ?tn7
              case ty7 => (intro w hSw; (try dsimp only at hSw); go_simp <;> with_reducible rfl)
              (try simp only [Act.put, List.setIfInBounds_toArray, List.set_cons_zero, List.set_cons_succ])
              refine Tw_takeL (i := 8) (v := ?tv8) rfl (by kernel_rfl) (by decide) (by kernel_rfl) (by kernel_rfl) (fun _ _ _ h => h) (by rfl) ?ty8 ?tn8
              case ty8 => (intro w hSw; (try dsimp only at hSw); go_simp <;> with_reducible rfl)
              (try simp only [Act.put, List.setIfInBounds_toArray, List.set_cons_zero, List.set_cons_succ])
              refine Tw_takeL (i := 9) (v := ?tv9) rfl (by kernel_rfl) (by decide) (by kernel_rfl) (by kernel_rfl) (fun _ _ _ h => h) (by rfl) ?ty9 ?tn9
              case ty9 => (intro w hSw; (try dsimp only at hSw); go_simp <;> with_reducible rfl)
              (try simp only [Act.put, List.setIfInBounds_toArray, List.set_cons_zero, List.set_cons_succ])
              refine Tw_all (rs := [11]) (by kernel_rfl) (by simp) (by decide) (fun hHeld => ?_)
              refine AllT.consL rfl (fun K hK => ?_) (AllT.nil)
              · have c0 := N1.out.cell 0
                have c1 := N1.out.cell 1
                have f0 := N1.out.frozen 0
                have f1 := N1.out.frozen 1
                have zN := N1.out.lt
                go_simp
                refine hK.out _ _ ?_ ?_
                · exact HALL.out _ (Fr.off2 hHeld.1 zg.out _ _)
                clear hK K c0 c1 f0 f1 zN
                have N1 := Lib.hid (Bk.set2 N1.out (.string s) (.slice A ps.length c))
                (try simp only [Act.put, List.setIfInBounds_toArray, List.set_cons_zero, List.set_cons_succ])
                refine Tw_end (by kernel_rfl) (fun hh => ?_)
                obtain ⟨F11, _⟩ := hh
                clear HALL
                go_wp2_with fail
                go_meet
                exact ⟨_, rfl, rfl, F11.more N1.out⟩
        · go_simp
          refine hK.out _ _ ?_ ?_
          · (try dsimp only)
            ((go_split_ands; refine HALL.out _ ?_; (first | assumption | (repeat (first | assumption | refine Fr.new ?_ _ | refine Fr.drew ?_ | (refine Fr.set ?_ (by first | exact Nat.le_refl _ | omega | (simp; done) | (simp; omega)) (by first | (simp; done) | (simp; omega)) _))); done)))
          clear hK K
          (try simp only [Act.put, List.setIfInBounds_toArray, List.set_cons_zero, List.set_cons_succ])
          refine Tw_abs ?_
          intro wA10 hA10
          (first | (have N1 := Lib.hid (Bk.of_alloc hA10)) | (have N1 := Lib.hid (Bk.of_alloc_drew hA10)))
          have zg := Lib.hid (show w.heap.size + 3 ≤ _ from hHeld.1.top.lt)
          (first | (have O1 := Lib.hid (own_of_alloc hA10 O1.out)) | (have O1 := Lib.hid (own_of_alloc_drew hA10 O1.out)) | skip)
          clear hA10
          refine Tw_all (rs := [5]) (by kernel_rfl) (by simp) (by decide) (fun hHeld => ?_)
          refine AllT.consL rfl (fun K hK => ?_) (AllT.nil)
          · rw [if_pos (by rfl)]
            refine wp_append_lies _ _ _ 75 rfl (w.heap.size + 3) 37 i0 (.int .i64 0) 1 8 Try.underlying75 hi0 hiz0 his0 hib0 rfl (by decide) _ 1 [.int .i64 se] rfl O1.out fa fs.length d (ic fs) rfl k1.out (Lies.adds (HF.out.below hHeld.1.bl)) (ic_one fs) hm0 (by unfold maxLen; omega) (by omega) (by have := hHeld.1.top.lt; omega) _ rfl ?_
            intro g11 cap11 wC11 ho11 hg11 _ _
            have F511 := Fr.grown2 hHeld.1 hg11 (fun q e => (O1.out.lt q e).1) (by omega) (by first | (simp; done) | (simp; omega))
            (first | (have N1 := Lib.hid (Bk.grown_own N1.out O1.out (by decide) hg11)) | skip)
            have O1 := Lib.hid ho11
            clear ho11 hg11
            refine hK.out _ _ ?_ ?_
            · (try dsimp only)
              ((go_split_ands; refine HALL.out _ ?_; (first | assumption | (repeat (first | assumption | refine Fr.new ?_ _ | refine Fr.drew ?_ | (refine Fr.set ?_ (by first | exact Nat.le_refl _ | omega | (simp; done) | (simp; omega)) (by first | (simp; done) | (simp; omega)) _))); done)))
            clear hK K
            (try simp only [Act.put, List.setIfInBounds_toArray, List.set_cons_zero, List.set_cons_succ])
            refine Tw_all (rs := [6]) (by kernel_rfl) (by simp) (by decide) (fun hHeld => ?_)
            refine AllT.consL rfl (fun K hK => ?_) (AllT.nil)
            · go_simp
              (go_at_call 19; go_split_ands; have HCK := Lib.hid (own_lies (g := ⟨some ⟨_, 0, none⟩, _⟩) O1.out).1; (refine (HCA.out _ _ _ (Fr.lies HA.out (by assumption)) (HCK.out)).mono ?_); rintro e w7 ⟨rfl, hb7⟩; have F6 := Fr.call (by assumption) hb7; (first | (have N1 := Lib.hid (Bk.call N1.out hb7)) | skip); clear hb7 HCK)
              refine hK.out _ _ ?_ ?_
              · (try dsimp only)
                ((go_split_ands; refine HALL.out _ ?_; (first | assumption | (repeat (first | assumption | refine Fr.new ?_ _ | refine Fr.drew ?_ | (refine Fr.set ?_ (by first | exact Nat.le_refl _ | omega | (simp; done) | (simp; omega)) (by first | (simp; done) | (simp; omega)) _))); done)))
              clear hK K
              (try simp only [Act.put, List.setIfInBounds_toArray, List.set_cons_zero, List.set_cons_succ])
              refine Tw_takeL (i := 7) (v := ?tv10) rfl (by kernel_rfl) (by decide) (by kernel_rfl) (by kernel_rfl) (fun _ _ _ h => h) (by rfl) ?ty10 ?tn10
              case ty10 => (intro w hSw; (try dsimp only at hSw); go_simp <;> with_reducible rfl)
              (try simp only [Act.put, List.setIfInBounds_toArray, List.set_cons_zero, List.set_cons_succ])
              refine Tw_takeL (i := 8) (v := ?tv11) rfl (by kernel_rfl) (by decide) (by kernel_rfl) (by kernel_rfl) (fun _ _ _ h => h) (by rfl) ?ty11 ?tn11
              case ty11 => (intro w hSw; (try dsimp only at hSw); go_simp <;> with_reducible rfl)
              (try simp only [Act.put, List.setIfInBounds_toArray, List.set_cons_zero, List.set_cons_succ])
              refine Tw_takeL (i := 9) (v := ?tv12) rfl (by kernel_rfl) (by decide) (by kernel_rfl) (by kernel_rfl) (fun _ _ _ h => h) (by rfl) ?ty12 ?tn12
              case ty12 => (intro w hSw; (try dsimp only at hSw); go_simp <;> with_reducible rfl)
              (try simp only [Act.put, List.setIfInBounds_toArray, List.set_cons_zero, List.set_cons_succ])
              refine Tw_all (rs := [11]) (by kernel_rfl) (by simp) (by decide) (fun hHeld => ?_)
              refine AllT.consL rfl (fun K hK => ?_) (AllT.nil)
              · have c0 := N1.out.cell 0
                have c1 := N1.out.cell 1
                have f0 := N1.out.frozen 0
                have f1 := N1.out.frozen 1
                have zN := N1.out.lt
                go_simp
                refine hK.out _ _ ?_ ?_
                · exact HALL.out _ (Fr.off2 hHeld.1 zg.out _ _)
                clear hK K c0 c1 f0 f1 zN
                have N1 := Lib.hid (Bk.set2 N1.out (.string s) (.slice A ps.length c))
                (try simp only [Act.put, List.setIfInBounds_toArray, List.set_cons_zero, List.set_cons_succ])
                refine Tw_end (by kernel_rfl) (fun hh => ?_)
                obtain ⟨F11, _⟩ := hh
                clear HALL
                go_wp2_with fail
                go_meet
                exact ⟨_, rfl, rfl, F11.more N1.out⟩
      · go_simp
        refine hK.out _ _ ?_ ?_
        · (try dsimp only)
          ((go_split_ands; refine HALL.out _ ?_; (first | assumption | (repeat (first | assumption | refine Fr.new ?_ _ | refine Fr.drew ?_ | (refine Fr.set ?_ (by first | exact Nat.le_refl _ | omega | (simp; done) | (simp; omega)) (by first | (simp; done) | (simp; omega)) _))); done)))
        clear hK K
        (try simp only [Act.put, List.setIfInBounds_toArray, List.set_cons_zero, List.set_cons_succ])
        refine Tw_abs ?_
        intro wA14 hA14
        (first | (have N1 := Lib.hid (Bk.of_alloc hA14)) | (have N1 := Lib.hid (Bk.of_alloc_drew hA14)))
        have zg := Lib.hid (show w.heap.size + 3 ≤ _ from hHeld.1.top.lt)
        (first | (have O1 := Lib.hid (own_of_alloc hA14 O1.out)) | (have O1 := Lib.hid (own_of_alloc_drew hA14 O1.out)) | skip)
        clear hA14
        refine Tw_all (rs := [3]) (by kernel_rfl) (by simp) (by decide) (fun hHeld => ?_)
        refine AllT.consL rfl (fun K hK => ?_) (AllT.nil)
        · go_simp
          refine hK.out _ _ ?_ ?_
          · (try dsimp only)
            ((go_split_ands; refine HALL.out _ ?_; (first | assumption | (repeat (first | assumption | refine Fr.new ?_ _ | refine Fr.drew ?_ | (refine Fr.set ?_ (by first | exact Nat.le_refl _ | omega | (simp; done) | (simp; omega)) (by first | (simp; done) | (simp; omega)) _))); done)))
          clear hK K
          (try simp only [Act.put, List.setIfInBounds_toArray, List.set_cons_zero, List.set_cons_succ])
          refine Tw_abs ?_
          intro wA15 hA15
          (first | (have N1 := Lib.hid (Bk.over_alloc hA15 N1.out)) | (have N1 := Lib.hid (Bk.over_alloc_drew hA15 N1.out)) | skip)
          (first | (have O1 := Lib.hid (own_one_alloc (base := w.heap.size + 3) hA15 (by have := hHeld.1.top.lt; omega))) | (have O1 := Lib.hid (own_one_drew (base := w.heap.size + 3) hA15 (by have := hHeld.1.top.lt; omega))))
          clear hA15
          refine Tw_all (rs := [5]) (by kernel_rfl) (by simp) (by decide) (fun hHeld => ?_)
          refine AllT.consL rfl (fun K hK => ?_) (AllT.nil)
          · rw [if_pos (by rfl)]
            refine wp_append_lies _ _ _ 75 rfl (w.heap.size + 3) 37 i0 (.int .i64 0) 1 8 Try.underlying75 hi0 hiz0 his0 hib0 rfl (by decide) _ 1 [.int .i64 se] rfl O1.out fa fs.length d (ic fs) rfl k1.out (Lies.adds (HF.out.below hHeld.1.bl)) (ic_one fs) hm0 (by unfold maxLen; omega) (by omega) (by have := hHeld.1.top.lt; omega) _ rfl ?_
            intro g16 cap16 wC16 ho16 hg16 _ _
            have F516 := Fr.grown2 hHeld.1 hg16 (fun q e => (O1.out.lt q e).1) (by omega) (by first | (simp; done) | (simp; omega))
            (first | (have N1 := Lib.hid (Bk.grown_own N1.out O1.out (by decide) hg16)) | skip)
            have O1 := Lib.hid ho16
            clear ho16 hg16
            refine hK.out _ _ ?_ ?_
            · (try dsimp only)
              ((go_split_ands; refine HALL.out _ ?_; (first | assumption | (repeat (first | assumption | refine Fr.new ?_ _ | refine Fr.drew ?_ | (refine Fr.set ?_ (by first | exact Nat.le_refl _ | omega | (simp; done) | (simp; omega)) (by first | (simp; done) | (simp; omega)) _))); done)))
            clear hK K
            (try simp only [Act.put, List.setIfInBounds_toArray, List.set_cons_zero, List.set_cons_succ])
            refine Tw_all (rs := [6]) (by kernel_rfl) (by simp) (by decide) (fun hHeld => ?_)
            refine AllT.consL rfl (fun K hK => ?_) (AllT.nil)
            · go_simp
              (go_at_call 19; go_split_ands; have HCK := Lib.hid (own_lies (g := ⟨some ⟨_, 0, none⟩, _⟩) O1.out).1; (refine (HCA.out _ _ _ (Fr.lies HA.out (by assumption)) (HCK.out)).mono ?_); rintro e w7 ⟨rfl, hb7⟩; have F6 := Fr.call (by assumption) hb7; (first | (have N1 := Lib.hid (Bk.call N1.out hb7)) | skip); clear hb7 HCK)
              refine hK.out _ _ ?_ ?_
              · (try dsimp only)
                ((go_split_ands; refine HALL.out _ ?_; (first | assumption | (repeat (first | assumption | refine Fr.new ?_ _ | refine Fr.drew ?_ | (refine Fr.set ?_ (by first | exact Nat.le_refl _ | omega | (simp; done) | (simp; omega)) (by first | (simp; done) | (simp; omega)) _))); done)))
              clear hK K
              (try simp only [Act.put, List.setIfInBounds_toArray, List.set_cons_zero, List.set_cons_succ])
              refine Tw_takeL (i := 7) (v := ?tv13) rfl (by kernel_rfl) (by decide) (by kernel_rfl) (by kernel_rfl) (fun _ _ _ h => h) (by rfl) ?ty13 ?tn13
              case ty13 => (intro w hSw; (try dsimp only at hSw); go_simp <;> with_reducible rfl)
              (try simp only [Act.put, List.setIfInBounds_toArray, List.set_cons_zero, List.set_cons_succ])
              refine Tw_takeL (i := 8) (v := ?tv14) rfl (by kernel_rfl) (by decide) (by kernel_rfl) (by kernel_rfl) (fun _ _ _ h => h) (by rfl) ?ty14 ?tn14
              case ty14 => (intro w hSw; (try dsimp only at hSw); go_simp <;> with_reducible rfl)
              (try simp only [Act.put, List.setIfInBounds_toArray, List.set_cons_zero, List.set_cons_succ])
              refine Tw_takeL (i := 9) (v := ?tv15) rfl (by kernel_rfl) (by decide) (by kernel_rfl) (by kernel_rfl) (fun _ _ _ h => h) (by rfl) ?ty15 ?tn15
              case ty15 => (intro w hSw; (try dsimp only at hSw); go_simp <;> with_reducible rfl)
              (try simp only [Act.put, List.setIfInBounds_toArray, List.set_cons_zero, List.set_cons_succ])
              refine Tw_all (rs := [11]) (by kernel_rfl) (by simp) (by decide) (fun hHeld => ?_)
              refine AllT.consL rfl (fun K hK => ?_) (AllT.nil)
              · have c0 := N1.out.cell 0
                have c1 := N1.out.cell 1
                have f0 := N1.out.frozen 0
                have f1 := N1.out.frozen 1
                have zN := N1.out.lt
                go_simp
                refine hK.out _ _ ?_ ?_
                · exact HALL.out _ (Fr.off2 hHeld.1 zg.out _ _)
                clear hK K c0 c1 f0 f1 zN
                have N1 := Lib.hid (Bk.set2 N1.out (.string s) (.slice A ps.length c))
                (try simp only [Act.put, List.setIfInBounds_toArray, List.set_cons_zero, List.set_cons_succ])
                refine Tw_end (by kernel_rfl) (fun hh => ?_)
                obtain ⟨F11, _⟩ := hh
                clear HALL
                go_wp2_with fail
                go_meet
                exact ⟨_, rfl, rfl, F11.more N1.out⟩
    · go_simp
      refine hK.out _ _ ?_ ?_
      · (try dsimp only)
        ((go_split_ands; refine HALL.out _ ?_; (first | assumption | (repeat (first | assumption | refine Fr.new ?_ _ | refine Fr.drew ?_ | (refine Fr.set ?_ (by first | exact Nat.le_refl _ | omega | (simp; done) | (simp; omega)) (by first | (simp; done) | (simp; omega)) _))); done)))
      clear hK K
      (try simp only [Act.put, List.setIfInBounds_toArray, List.set_cons_zero, List.set_cons_succ])
      refine Tw_abs ?_
      intro wA19 hA19
      (first | (have N1 := Lib.hid (Bk.of_alloc hA19)) | (have N1 := Lib.hid (Bk.of_alloc_drew hA19)))
      have zg := Lib.hid (show w.heap.size + 3 ≤ _ from hHeld.1.top.lt)
      (first | (have O1 := Lib.hid (own_of_alloc hA19 O1.out)) | (have O1 := Lib.hid (own_of_alloc_drew hA19 O1.out)) | skip)
      clear hA19
      refine Tw_all (rs := [2]) (by kernel_rfl) (by simp) (by decide) (fun hHeld => ?_)
      refine AllT.consL rfl (fun K hK => ?_) (AllT.nil)
      · go_simp
        (go_at_call 35; go_split_ands; (with_reducible refine (CheckSystem_any b _).mono ?_); rintro e w7 ⟨rfl, hb7⟩; rw [HSE.out]; have F4 := Fr.call (by assumption) hb7; (first | (have N1 := Lib.hid (Bk.call N1.out hb7)) | skip); clear hb7)
        refine hK.out _ _ ?_ ?_
        · (try dsimp only)
          ((go_split_ands; refine HALL.out _ ?_; (first | assumption | (repeat (first | assumption | refine Fr.new ?_ _ | refine Fr.drew ?_ | (refine Fr.set ?_ (by first | exact Nat.le_refl _ | omega | (simp; done) | (simp; omega)) (by first | (simp; done) | (simp; omega)) _))); done)))
        clear hK K
        (try simp only [Act.put, List.setIfInBounds_toArray, List.set_cons_zero, List.set_cons_succ])
        refine Tw_all (rs := [3]) (by kernel_rfl) (by simp) (by decide) (fun hHeld => ?_)
        refine AllT.consL rfl (fun K hK => ?_) (AllT.nil)
        · go_simp
          refine hK.out _ _ ?_ ?_
          · (try dsimp only)
            ((go_split_ands; refine HALL.out _ ?_; (first | assumption | (repeat (first | assumption | refine Fr.new ?_ _ | refine Fr.drew ?_ | (refine Fr.set ?_ (by first | exact Nat.le_refl _ | omega | (simp; done) | (simp; omega)) (by first | (simp; done) | (simp; omega)) _))); done)))
          clear hK K
          (try simp only [Act.put, List.setIfInBounds_toArray, List.set_cons_zero, List.set_cons_succ])
          refine Tw_abs ?_
          intro wA21 hA21
          (first | (have N1 := Lib.hid (Bk.over_alloc hA21 N1.out)) | (have N1 := Lib.hid (Bk.over_alloc_drew hA21 N1.out)) | skip)
          (first | (have O1 := Lib.hid (own_one_alloc (base := w.heap.size + 3) hA21 (by have := hHeld.1.top.lt; omega))) | (have O1 := Lib.hid (own_one_drew (base := w.heap.size + 3) hA21 (by have := hHeld.1.top.lt; omega))))
          clear hA21
          refine Tw_all (rs := [5]) (by kernel_rfl) (by simp) (by decide) (fun hHeld => ?_)
          refine AllT.consL rfl (fun K hK => ?_) (AllT.nil)
          · rw [if_pos (by rfl)]
            refine wp_append_lies _ _ _ 75 rfl (w.heap.size + 3) 37 i0 (.int .i64 0) 1 8 Try.underlying75 hi0 hiz0 his0 hib0 rfl (by decide) _ 1 [.int .i64 se] rfl O1.out fa fs.length d (ic fs) rfl k1.out (Lies.adds (HF.out.below hHeld.1.bl)) (ic_one fs) hm0 (by unfold maxLen; omega) (by omega) (by have := hHeld.1.top.lt; omega) _ rfl ?_
            intro g22 cap22 wC22 ho22 hg22 _ _
            have F522 := Fr.grown2 hHeld.1 hg22 (fun q e => (O1.out.lt q e).1) (by omega) (by first | (simp; done) | (simp; omega))
            (first | (have N1 := Lib.hid (Bk.grown_own N1.out O1.out (by decide) hg22)) | skip)
            have O1 := Lib.hid ho22
            clear ho22 hg22
            refine hK.out _ _ ?_ ?_
            · (try dsimp only)
              ((go_split_ands; refine HALL.out _ ?_; (first | assumption | (repeat (first | assumption | refine Fr.new ?_ _ | refine Fr.drew ?_ | (refine Fr.set ?_ (by first | exact Nat.le_refl _ | omega | (simp; done) | (simp; omega)) (by first | (simp; done) | (simp; omega)) _))); done)))
            clear hK K
            (try simp only [Act.put, List.setIfInBounds_toArray, List.set_cons_zero, List.set_cons_succ])
            refine Tw_all (rs := [6]) (by kernel_rfl) (by simp) (by decide) (fun hHeld => ?_)
            refine AllT.consL rfl (fun K hK => ?_) (AllT.nil)
            · go_simp
              (go_at_call 19; go_split_ands; have HCK := Lib.hid (own_lies (g := ⟨some ⟨_, 0, none⟩, _⟩) O1.out).1; (refine (HCA.out _ _ _ (Fr.lies HA.out (by assumption)) (HCK.out)).mono ?_); rintro e w7 ⟨rfl, hb7⟩; have F6 := Fr.call (by assumption) hb7; (first | (have N1 := Lib.hid (Bk.call N1.out hb7)) | skip); clear hb7 HCK)
              refine hK.out _ _ ?_ ?_
              · (try dsimp only)
                ((go_split_ands; refine HALL.out _ ?_; (first | assumption | (repeat (first | assumption | refine Fr.new ?_ _ | refine Fr.drew ?_ | (refine Fr.set ?_ (by first | exact Nat.le_refl _ | omega | (simp; done) | (simp; omega)) (by first | (simp; done) | (simp; omega)) _))); done)))
              clear hK K
              (try simp only [Act.put, List.setIfInBounds_toArray, List.set_cons_zero, List.set_cons_succ])
              refine Tw_takeL (i := 7) (v := ?tv16) rfl (by kernel_rfl) (by decide) (by kernel_rfl) (by kernel_rfl) (fun _ _ _ h => h) (by rfl) ?ty16 ?tn16
              case ty16 => (intro w hSw; (try dsimp only at hSw); go_simp <;> with_reducible rfl)
              (try simp only [Act.put, List.setIfInBounds_toArray, List.set_cons_zero, List.set_cons_succ])
              refine Tw_takeL (i := 8) (v := ?tv17) rfl (by kernel_rfl) (by decide) (by kernel_rfl) (by kernel_rfl) (fun _ _ _ h => h) (by rfl) ?ty17 ?tn17
              case ty17 => (intro w hSw; (try dsimp only at hSw); go_simp <;> with_reducible rfl)
              (try simp only [Act.put, List.setIfInBounds_toArray, List.set_cons_zero, List.set_cons_succ])
              refine Tw_takeL (i := 9) (v := ?tv18) rfl (by kernel_rfl) (by decide) (by kernel_rfl) (by kernel_rfl) (fun _ _ _ h => h) (by rfl) ?ty18 ?tn18
              case ty18 => (intro w hSw; (try dsimp only at hSw); go_simp <;> with_reducible rfl)
              (try simp only [Act.put, List.setIfInBounds_toArray, List.set_cons_zero, List.set_cons_succ])
              refine Tw_all (rs := [11]) (by kernel_rfl) (by simp) (by decide) (fun hHeld => ?_)
              refine AllT.consL rfl (fun K hK => ?_) (AllT.nil)
              · have c0 := N1.out.cell 0
                have c1 := N1.out.cell 1
                have f0 := N1.out.frozen 0
                have f1 := N1.out.frozen 1
                have zN := N1.out.lt
                go_simp
                refine hK.out _ _ ?_ ?_
                · exact HALL.out _ (Fr.off2 hHeld.1 zg.out _ _)
                clear hK K c0 c1 f0 f1 zN
                have N1 := Lib.hid (Bk.set2 N1.out (.string s) (.slice A ps.length c))
                (try simp only [Act.put, List.setIfInBounds_toArray, List.set_cons_zero, List.set_cons_succ])
                refine Tw_end (by kernel_rfl) (fun hh => ?_)
                obtain ⟨F11, _⟩ := hh
                clear HALL
                go_wp2_with fail
                go_meet
                exact ⟨_, rfl, rfl, F11.more N1.out⟩
  case rest =>
    obtain ⟨wx, rfl⟩ : ∃ W, W = wc := ⟨_, rfl⟩
    obtain ⟨g, rfl, rfl, hx⟩ := hcut
    have FC := Lib.hid hx
    clear hx F0
    have q0 := FC.out.top.cell 0
    have q1 := FC.out.top.cell 1
    have y0 := FC.out.at2.cell 0
    have y1 := FC.out.at2.cell 1
    have y2 := FC.out.at2.cell 2
    have r0 := FC.out.at1.cell 0
    have r1 := FC.out.at1.cell 1
    have r2 := FC.out.at1.cell 2
    have r3 := FC.out.at1.cell 3
    have r4 := FC.out.at1.cell 4
    have rf0 := FC.out.at1.frozen 0
    have rf1 := FC.out.at1.frozen 1
    have rf2 := FC.out.at1.frozen 2
    have rf3 := FC.out.at1.frozen 3
    have rf4 := FC.out.at1.frozen 4
    have rz := FC.out.at1.lt
    go_wp2_with fail
    exact bodyPost_ret (v := .tuple #[.agg #[.string s, .slice A ps.length c, .int .i64 b.brk, .int .i64 b.drag, .int .i64 b.drv], .int .i64 0]) (by simp [results, Try.results22, go_sem, r0, r1, r2, r3, r4]) rfl ⟨rfl, (by repeat (first | exact FC.out.bl | refine Below.drew ?_ | refine Below.setCell ?_ (by first | (simp; done) | (simp; omega) | omega) _ | refine Below.alloc ?_ (by first | (simp; done) | (simp; omega) | omega) _ | exact Below.refl _ _))⟩

set_option maxHeartbeats 4000000 in
set_option maxRecDepth 100000 in
theorem checkRide_bad (s : ByteArray) (hs : s.size ≤ maxLen) (ps : List Bp) (A : Option Addr) (c : Nat) (hl : ps.length ≤ maxLen) (b : Bs) (fs : List Int) (fa : Addr) (d : Nat) (hm0 : 0 < fs.length) (hf : fs.length ≤ 100) (E : Int) (hE : nz ((trE s ps).2 :: sE b :: fs) = E) (hE0 : E ≠ 0) (w : World) (hA : Lies w w.heap.size A (ps.flatMap pc)) (hF : Lies w w.heap.size (some fa) (ic fs)) :
    Calls Try.prog 22 #[.agg #[.string s, .slice A ps.length c], .agg #[.int .i64 b.brk, .int .i64 b.drag, .int .i64 b.drv], .slice (some fa) fs.length d] w fun e w' => e = .returned (.tuple #[.agg #[.string ⟨#[]⟩, .slice none 0 0, .int .i64 0, .int .i64 0, .int .i64 0], .int .i64 E]) ∧ Below w.heap.size w w' := by
  have F0 := Lib.hid (Fr.b3 w 24 #[.string s, .slice A ps.length c] 26 #[.int .i64 b.brk, .int .i64 b.drag, .int .i64 b.drv] 64 #[.string ⟨#[]⟩, .slice none 0 0, .int .i64 0, .int .i64 0, .int .i64 0])
  have HA := Lib.hid hA
  have HF := Lib.hid hF
  obtain ⟨i0, hi0, hiz0, his0, hib0⟩ := info_parts info_errno
  have k1 : Hid ((ic fs).length = fs.length * 1) := Lib.hid (by simp [ic])
  obtain ⟨se, hse⟩ : ∃ se, sE b = se := ⟨_, rfl⟩
  rw [hse] at hE
  have HSE := Lib.hid hse
  have gE : (E != 0) = true := by simp [hE0]
  have HCA : Hid (∀ (g : Nat) (cap : Nat) (W : World), Lies W W.heap.size A (ps.flatMap pc) → Lies W W.heap.size (some ⟨g, 0, none⟩) (.int .i64 se :: ic fs) → Calls Try.prog 19 #[.agg #[.string s, .slice A ps.length c], .slice (some ⟨g, 0, none⟩) (1 + fs.length) cap] W fun e w' => e = .returned (.tuple #[.agg #[.string ⟨#[]⟩, .slice none 0 0], .int .i64 E]) ∧ Below W.heap.size W w') := Lib.hid (fun g cap W h1 h2 => by
    have := check_bad s hs ps A c hl (se :: fs) (some ⟨g, 0, none⟩) cap (by simp; unfold maxLen; omega) E hE hE0 W h1 h2
    rw [List.length_cons, Nat.add_comm] at this
    exact this)
  clear hA hF hE hse hE0
  go_enter Try.func22, Try.ntmps22
  go_upto_region 1 with fail
  go_cut [8, 9] from 8 to 19 (fun p r W => ∃ g : Nat, p = .pointer (some ⟨g, 0, none⟩) ∧ r = .int .i64 E ∧ Fr w W ((g, 57, #[.string ⟨#[]⟩, .slice none 0 0]) :: [(w.heap.size + 1 + 1, 64, #[.string ⟨#[]⟩, .slice none 0 0, .int .i64 0, .int .i64 0, .int .i64 0]), (w.heap.size + 1, 26, #[.int .i64 b.brk, .int .i64 b.drag, .int .i64 b.drv]), (w.heap.size, 24, #[.string s, .slice A ps.length c])]))
  case first =>
    have HALL : Hid (∀ W, Fr w W [(w.heap.size + 1 + 1, 64, #[.string ⟨#[]⟩, .slice none 0 0, .int .i64 0, .int .i64 0, .int .i64 0]), (w.heap.size + 1, 26, #[.int .i64 b.brk, .int .i64 b.drag, .int .i64 b.drv]), (w.heap.size, 24, #[.string s, .slice A ps.length c])] → Fr w W [(w.heap.size + 1 + 1, 64, #[.string ⟨#[]⟩, .slice none 0 0, .int .i64 0, .int .i64 0, .int .i64 0]), (w.heap.size + 1, 26, #[.int .i64 b.brk, .int .i64 b.drag, .int .i64 b.drv]), (w.heap.size, 24, #[.string s, .slice A ps.length c])] ∧ W.cell? ⟨w.heap.size, 0, none⟩ = some (.string s) ∧ W.cell? ⟨w.heap.size, 1, none⟩ = some (.slice A ps.length c) ∧ W.cell? ⟨w.heap.size + 1, 0, none⟩ = some (.int .i64 b.brk) ∧ W.cell? ⟨w.heap.size + 1, 1, none⟩ = some (.int .i64 b.drag) ∧ W.cell? ⟨w.heap.size + 1, 2, none⟩ = some (.int .i64 b.drv)) := Lib.hid (fun W hW => ⟨hW, hW.at2.cell 0, hW.at2.cell 1, hW.at1.cell 0, hW.at1.cell 1, hW.at1.cell 2⟩)
    refine wp_abs ?_
    intro w5 h5
    have F10 : Fr w w5 [(w.heap.size + 1 + 1, 64, #[.string ⟨#[]⟩, .slice none 0 0, .int .i64 0, .int .i64 0, .int .i64 0]), (w.heap.size + 1, 26, #[.int .i64 b.brk, .int .i64 b.drag, .int .i64 b.drv]), (w.heap.size, 24, #[.string s, .slice A ps.length c])] := by subst h5; exact F0.out
    clear F0 h5
    refine Tw_start 12 (fun W => Fr w W [(w.heap.size + 1 + 1, 64, #[.string ⟨#[]⟩, .slice none 0 0, .int .i64 0, .int .i64 0, .int .i64 0]), (w.heap.size + 1, 26, #[.int .i64 b.brk, .int .i64 b.drag, .int .i64 b.drv]), (w.heap.size, 24, #[.string s, .slice A ps.length c])] ∧ W.cell? ⟨w.heap.size, 0, none⟩ = some (.string s) ∧ W.cell? ⟨w.heap.size, 1, none⟩ = some (.slice A ps.length c) ∧ W.cell? ⟨w.heap.size + 1, 0, none⟩ = some (.int .i64 b.brk) ∧ W.cell? ⟨w.heap.size + 1, 1, none⟩ = some (.int .i64 b.drag) ∧ W.cell? ⟨w.heap.size + 1, 2, none⟩ = some (.int .i64 b.drv)) (by kernel_rfl) (by kernel_rfl) rfl ?_ ?_
    · (try dsimp only)
      ((go_split_ands; refine HALL.out _ ?_; (first | assumption | (repeat (first | assumption | refine Fr.new ?_ _ | refine Fr.drew ?_ | (refine Fr.set ?_ (by first | exact Nat.le_refl _ | omega | (simp; done) | (simp; omega)) (by first | (simp; done) | (simp; omega)) _))); done)))
    refine Tw_takeL (i := 0) (v := ?tv19) rfl (by kernel_rfl) (by decide) (by kernel_rfl) (by kernel_rfl) (fun _ _ _ h => h) (by rfl) ?ty19 ?tn19
    case ty19 => (intro w hSw; (try dsimp only at hSw); go_simp <;> with_reducible rfl)
    (try simp only [Act.put, List.setIfInBounds_toArray, List.set_cons_zero, List.set_cons_succ])
    refine Tw_takeL (i := 1) (v := ?tv20) rfl (by kernel_rfl) (by decide) (by kernel_rfl) (by kernel_rfl) (fun _ _ _ h => h) (by rfl) ?ty20 ?tn20
    case ty20 => (intro w hSw; (try dsimp only at hSw); go_simp <;> with_reducible rfl)
    (try simp only [Act.put, List.setIfInBounds_toArray, List.set_cons_zero, List.set_cons_succ])
    refine Tw_takeL (i := 4) (v := ?tv21) rfl (by kernel_rfl) (by decide) (by kernel_rfl) (by kernel_rfl) (fun _ _ _ h => h) (by rfl) ?ty21 ?tn21
    case ty21 => (intro w hSw; (try dsimp only at hSw); go_simp <;> with_reducible rfl)
    (try simp only [Act.put, List.setIfInBounds_toArray, List.set_cons_zero, List.set_cons_succ])
    refine Tw_all (rs := [2, 10]) (by kernel_rfl) (by simp) (by decide) (fun hHeld => ?_)
    refine AllT.consL rfl (fun K hK => ?_) (AllT.consL rfl (fun K hK => ?_) (AllT.nil))
    · go_simp
      (go_at_call 35; go_split_ands; (with_reducible refine (CheckSystem_any b _).mono ?_); rintro e w7 ⟨rfl, hb7⟩; rw [HSE.out]; have F4 := Fr.call (by assumption) hb7; (first | (have N1 := Lib.hid (Bk.call N1.out hb7)) | skip); clear hb7)
      refine hK.out _ _ ?_ ?_
      · (try dsimp only)
        ((go_split_ands; refine HALL.out _ ?_; (first | assumption | (repeat (first | assumption | refine Fr.new ?_ _ | refine Fr.drew ?_ | (refine Fr.set ?_ (by first | exact Nat.le_refl _ | omega | (simp; done) | (simp; omega)) (by first | (simp; done) | (simp; omega)) _))); done)))
      clear hK K
      (try simp only [Act.put, List.setIfInBounds_toArray, List.set_cons_zero, List.set_cons_succ])
      refine Tw_all (rs := [3, 10]) (by kernel_rfl) (by simp) (by decide) (fun hHeld => ?_)
      refine AllT.consL rfl (fun K hK => ?_) (AllT.consL rfl (fun K hK => ?_) (AllT.nil))
      · go_simp
        refine hK.out _ _ ?_ ?_
        · (try dsimp only)
          ((go_split_ands; refine HALL.out _ ?_; (first | assumption | (repeat (first | assumption | refine Fr.new ?_ _ | refine Fr.drew ?_ | (refine Fr.set ?_ (by first | exact Nat.le_refl _ | omega | (simp; done) | (simp; omega)) (by first | (simp; done) | (simp; omega)) _))); done)))
        clear hK K
        (try simp only [Act.put, List.setIfInBounds_toArray, List.set_cons_zero, List.set_cons_succ])
        refine Tw_abs ?_
        intro wA26 hA26
        (first | (have N1 := Lib.hid (Bk.over_alloc hA26 N1.out)) | (have N1 := Lib.hid (Bk.over_alloc_drew hA26 N1.out)) | skip)
        (first | (have O1 := Lib.hid (own_one_alloc (base := w.heap.size + 3) hA26 (by have := hHeld.1.top.lt; omega))) | (have O1 := Lib.hid (own_one_drew (base := w.heap.size + 3) hA26 (by have := hHeld.1.top.lt; omega))))
        clear hA26
        refine Tw_all (rs := [5, 10]) (by kernel_rfl) (by simp) (by decide) (fun hHeld => ?_)
        refine AllT.consL rfl (fun K hK => ?_) (AllT.consL rfl (fun K hK => ?_) (AllT.nil))
        · rw [if_pos (by rfl)]
          refine wp_append_lies _ _ _ 75 rfl (w.heap.size + 3) 37 i0 (.int .i64 0) 1 8 Try.underlying75 hi0 hiz0 his0 hib0 rfl (by decide) _ 1 [.int .i64 se] rfl O1.out fa fs.length d (ic fs) rfl k1.out (Lies.adds (HF.out.below hHeld.1.bl)) (ic_one fs) hm0 (by unfold maxLen; omega) (by omega) (by have := hHeld.1.top.lt; omega) _ rfl ?_
          intro g27 cap27 wC27 ho27 hg27 _ _
          have F527 := Fr.grown2 hHeld.1 hg27 (fun q e => (O1.out.lt q e).1) (by omega) (by first | (simp; done) | (simp; omega))
          (first | (have N1 := Lib.hid (Bk.grown_own N1.out O1.out (by decide) hg27)) | skip)
          have O1 := Lib.hid ho27
          clear ho27 hg27
          refine hK.out _ _ ?_ ?_
          · (try dsimp only)
            ((go_split_ands; refine HALL.out _ ?_; (first | assumption | (repeat (first | assumption | refine Fr.new ?_ _ | refine Fr.drew ?_ | (refine Fr.set ?_ (by first | exact Nat.le_refl _ | omega | (simp; done) | (simp; omega)) (by first | (simp; done) | (simp; omega)) _))); done)))
          clear hK K
          (try simp only [Act.put, List.setIfInBounds_toArray, List.set_cons_zero, List.set_cons_succ])
          refine Tw_all (rs := [6, 10]) (by kernel_rfl) (by simp) (by decide) (fun hHeld => ?_)
          refine AllT.consL rfl (fun K hK => ?_) (AllT.consL rfl (fun K hK => ?_) (AllT.nil))
          · go_simp
            (go_at_call 19; go_split_ands; have HCK := Lib.hid (own_lies (g := ⟨some ⟨_, 0, none⟩, _⟩) O1.out).1; (refine (HCA.out _ _ _ (Fr.lies HA.out (by assumption)) (HCK.out)).mono ?_); rintro e w7 ⟨rfl, hb7⟩; have F6 := Fr.call (by assumption) hb7; (first | (have N1 := Lib.hid (Bk.call N1.out hb7)) | skip); clear hb7 HCK)
            refine hK.out _ _ ?_ ?_
            · (try dsimp only)
              ((go_split_ands; refine HALL.out _ ?_; (first | assumption | (repeat (first | assumption | refine Fr.new ?_ _ | refine Fr.drew ?_ | (refine Fr.set ?_ (by first | exact Nat.le_refl _ | omega | (simp; done) | (simp; omega)) (by first | (simp; done) | (simp; omega)) _))); done)))
            clear hK K
            (try simp only [Act.put, List.setIfInBounds_toArray, List.set_cons_zero, List.set_cons_succ])
            refine Tw_takeL (i := 7) (v := ?tv22) rfl (by kernel_rfl) (by decide) (by kernel_rfl) (by kernel_rfl) (fun _ _ _ h => h) (by rfl) ?ty22 ?tn22
            case ty22 => (intro w hSw; (try dsimp only at hSw); go_simp <;> with_reducible rfl)
            (try simp only [Act.put, List.setIfInBounds_toArray, List.set_cons_zero, List.set_cons_succ])
            refine Tw_takeL (i := 8) (v := ?tv23) rfl (by kernel_rfl) (by decide) (by kernel_rfl) (by kernel_rfl) (fun _ _ _ h => h) (by rfl) ?ty23 ?tn23
            case ty23 => (intro w hSw; (try dsimp only at hSw); go_simp <;> with_reducible rfl)
            (try simp only [Act.put, List.setIfInBounds_toArray, List.set_cons_zero, List.set_cons_succ])
            refine Tw_takeL (i := 9) (v := ?tv24) rfl (by kernel_rfl) (by decide) (by kernel_rfl) (by kernel_rfl) (fun _ _ _ h => h) (by rfl) ?ty24 ?tn24
            case ty24 => (intro w hSw; (try dsimp only at hSw); go_simp <;> with_reducible rfl)
            (try simp only [Act.put, List.setIfInBounds_toArray, List.set_cons_zero, List.set_cons_succ])
            refine Tw_all (rs := [10]) (by kernel_rfl) (by simp) (by decide) (fun hHeld => ?_)
            refine AllT.consL rfl (fun K hK => ?_) (AllT.nil)
            · go_simp
              refine hK.out _ _ ?_ ?_
              · (try dsimp only)
                ((go_split_ands; refine HALL.out _ ?_; (first | assumption | (repeat (first | assumption | refine Fr.new ?_ _ | refine Fr.drew ?_ | (refine Fr.set ?_ (by first | exact Nat.le_refl _ | omega | (simp; done) | (simp; omega)) (by first | (simp; done) | (simp; omega)) _))); done)))
              clear hK K
              (try simp only [Act.put, List.setIfInBounds_toArray, List.set_cons_zero, List.set_cons_succ])
              refine Tw_abs ?_
              intro wA29 hA29
              (first | (have N1 := Lib.hid (Bk.of_alloc hA29)) | (have N1 := Lib.hid (Bk.of_alloc_drew hA29)))
              have zg := Lib.hid (show w.heap.size + 3 ≤ _ from hHeld.1.top.lt)
              (first | (have O1 := Lib.hid (own_of_alloc hA29 O1.out)) | (have O1 := Lib.hid (own_of_alloc_drew hA29 O1.out)) | skip)
              clear hA29
              refine Tw_all (rs := [11]) (by kernel_rfl) (by simp) (by decide) (fun hHeld => ?_)
              refine AllT.consL rfl (fun K hK => ?_) (AllT.nil)
              · have c0 := N1.out.cell 0
                have c1 := N1.out.cell 1
                have f0 := N1.out.frozen 0
                have f1 := N1.out.frozen 1
                have zN := N1.out.lt
                go_simp
                refine hK.out _ _ ?_ ?_
                · exact HALL.out _ (Fr.off2 hHeld.1 zg.out _ _)
                clear hK K c0 c1 f0 f1 zN
                have N1 := Lib.hid (Bk.set2 N1.out (.string ⟨#[]⟩) (.slice none 0 0))
                (try simp only [Act.put, List.setIfInBounds_toArray, List.set_cons_zero, List.set_cons_succ])
                refine Tw_end (by kernel_rfl) (fun hh => ?_)
                obtain ⟨F11, _⟩ := hh
                clear HALL
                go_wp2_with fail
                go_meet
                exact ⟨_, rfl, rfl, F11.more N1.out⟩
          · go_simp
            refine hK.out _ _ ?_ ?_
            · (try dsimp only)
              ((go_split_ands; refine HALL.out _ ?_; (first | assumption | (repeat (first | assumption | refine Fr.new ?_ _ | refine Fr.drew ?_ | (refine Fr.set ?_ (by first | exact Nat.le_refl _ | omega | (simp; done) | (simp; omega)) (by first | (simp; done) | (simp; omega)) _))); done)))
            clear hK K
            (try simp only [Act.put, List.setIfInBounds_toArray, List.set_cons_zero, List.set_cons_succ])
            refine Tw_abs ?_
            intro wA31 hA31
            (first | (have N1 := Lib.hid (Bk.of_alloc hA31)) | (have N1 := Lib.hid (Bk.of_alloc_drew hA31)))
            have zg := Lib.hid (show w.heap.size + 3 ≤ _ from hHeld.1.top.lt)
            (first | (have O1 := Lib.hid (own_of_alloc hA31 O1.out)) | (have O1 := Lib.hid (own_of_alloc_drew hA31 O1.out)) | skip)
            clear hA31
            refine Tw_all (rs := [6]) (by kernel_rfl) (by simp) (by decide) (fun hHeld => ?_)
            refine AllT.consL rfl (fun K hK => ?_) (AllT.nil)
            · go_simp
              (go_at_call 19; go_split_ands; have HCK := Lib.hid (own_lies (g := ⟨some ⟨_, 0, none⟩, _⟩) O1.out).1; (refine (HCA.out _ _ _ (Fr.lies HA.out (by assumption)) (HCK.out)).mono ?_); rintro e w7 ⟨rfl, hb7⟩; have F6 := Fr.call (by assumption) hb7; (first | (have N1 := Lib.hid (Bk.call N1.out hb7)) | skip); clear hb7 HCK)
              refine hK.out _ _ ?_ ?_
              · (try dsimp only)
                ((go_split_ands; refine HALL.out _ ?_; (first | assumption | (repeat (first | assumption | refine Fr.new ?_ _ | refine Fr.drew ?_ | (refine Fr.set ?_ (by first | exact Nat.le_refl _ | omega | (simp; done) | (simp; omega)) (by first | (simp; done) | (simp; omega)) _))); done)))
              clear hK K
              (try simp only [Act.put, List.setIfInBounds_toArray, List.set_cons_zero, List.set_cons_succ])
              refine Tw_takeL (i := 7) (v := ?tv25) rfl (by kernel_rfl) (by decide) (by kernel_rfl) (by kernel_rfl) (fun _ _ _ h => h) (by rfl) ?ty25 ?tn25
              case ty25 => (intro w hSw; (try dsimp only at hSw); go_simp <;> with_reducible rfl)
              (try simp only [Act.put, List.setIfInBounds_toArray, List.set_cons_zero, List.set_cons_succ])
              refine Tw_takeL (i := 8) (v := ?tv26) rfl (by kernel_rfl) (by decide) (by kernel_rfl) (by kernel_rfl) (fun _ _ _ h => h) (by rfl) ?ty26 ?tn26
              case ty26 => (intro w hSw; (try dsimp only at hSw); go_simp <;> with_reducible rfl)
              (try simp only [Act.put, List.setIfInBounds_toArray, List.set_cons_zero, List.set_cons_succ])
              refine Tw_takeL (i := 9) (v := ?tv27) rfl (by kernel_rfl) (by decide) (by kernel_rfl) (by kernel_rfl) (fun _ _ _ h => h) (by rfl) ?ty27 ?tn27
              case ty27 => (intro w hSw; (try dsimp only at hSw); go_simp <;> with_reducible rfl)
              (try simp only [Act.put, List.setIfInBounds_toArray, List.set_cons_zero, List.set_cons_succ])
              refine Tw_all (rs := [11]) (by kernel_rfl) (by simp) (by decide) (fun hHeld => ?_)
              refine AllT.consL rfl (fun K hK => ?_) (AllT.nil)
              · have c0 := N1.out.cell 0
                have c1 := N1.out.cell 1
                have f0 := N1.out.frozen 0
                have f1 := N1.out.frozen 1
                have zN := N1.out.lt
                go_simp
                refine hK.out _ _ ?_ ?_
                · exact HALL.out _ (Fr.off2 hHeld.1 zg.out _ _)
                clear hK K c0 c1 f0 f1 zN
                have N1 := Lib.hid (Bk.set2 N1.out (.string ⟨#[]⟩) (.slice none 0 0))
                (try simp only [Act.put, List.setIfInBounds_toArray, List.set_cons_zero, List.set_cons_succ])
                refine Tw_end (by kernel_rfl) (fun hh => ?_)
                obtain ⟨F11, _⟩ := hh
                clear HALL
                go_wp2_with fail
                go_meet
                exact ⟨_, rfl, rfl, F11.more N1.out⟩
        · go_simp
          refine hK.out _ _ ?_ ?_
          · (try dsimp only)
            ((go_split_ands; refine HALL.out _ ?_; (first | assumption | (repeat (first | assumption | refine Fr.new ?_ _ | refine Fr.drew ?_ | (refine Fr.set ?_ (by first | exact Nat.le_refl _ | omega | (simp; done) | (simp; omega)) (by first | (simp; done) | (simp; omega)) _))); done)))
          clear hK K
          (try simp only [Act.put, List.setIfInBounds_toArray, List.set_cons_zero, List.set_cons_succ])
          refine Tw_abs ?_
          intro wA34 hA34
          (first | (have N1 := Lib.hid (Bk.of_alloc hA34)) | (have N1 := Lib.hid (Bk.of_alloc_drew hA34)))
          have zg := Lib.hid (show w.heap.size + 3 ≤ _ from hHeld.1.top.lt)
          (first | (have O1 := Lib.hid (own_of_alloc hA34 O1.out)) | (have O1 := Lib.hid (own_of_alloc_drew hA34 O1.out)) | skip)
          clear hA34
          refine Tw_all (rs := [5]) (by kernel_rfl) (by simp) (by decide) (fun hHeld => ?_)
          refine AllT.consL rfl (fun K hK => ?_) (AllT.nil)
          · rw [if_pos (by rfl)]
            refine wp_append_lies _ _ _ 75 rfl (w.heap.size + 3) 37 i0 (.int .i64 0) 1 8 Try.underlying75 hi0 hiz0 his0 hib0 rfl (by decide) _ 1 [.int .i64 se] rfl O1.out fa fs.length d (ic fs) rfl k1.out (Lies.adds (HF.out.below hHeld.1.bl)) (ic_one fs) hm0 (by unfold maxLen; omega) (by omega) (by have := hHeld.1.top.lt; omega) _ rfl ?_
            intro g35 cap35 wC35 ho35 hg35 _ _
            have F535 := Fr.grown2 hHeld.1 hg35 (fun q e => (O1.out.lt q e).1) (by omega) (by first | (simp; done) | (simp; omega))
            (first | (have N1 := Lib.hid (Bk.grown_own N1.out O1.out (by decide) hg35)) | skip)
            have O1 := Lib.hid ho35
            clear ho35 hg35
            refine hK.out _ _ ?_ ?_
            · (try dsimp only)
              ((go_split_ands; refine HALL.out _ ?_; (first | assumption | (repeat (first | assumption | refine Fr.new ?_ _ | refine Fr.drew ?_ | (refine Fr.set ?_ (by first | exact Nat.le_refl _ | omega | (simp; done) | (simp; omega)) (by first | (simp; done) | (simp; omega)) _))); done)))
            clear hK K
            (try simp only [Act.put, List.setIfInBounds_toArray, List.set_cons_zero, List.set_cons_succ])
            refine Tw_all (rs := [6]) (by kernel_rfl) (by simp) (by decide) (fun hHeld => ?_)
            refine AllT.consL rfl (fun K hK => ?_) (AllT.nil)
            · go_simp
              (go_at_call 19; go_split_ands; have HCK := Lib.hid (own_lies (g := ⟨some ⟨_, 0, none⟩, _⟩) O1.out).1; (refine (HCA.out _ _ _ (Fr.lies HA.out (by assumption)) (HCK.out)).mono ?_); rintro e w7 ⟨rfl, hb7⟩; have F6 := Fr.call (by assumption) hb7; (first | (have N1 := Lib.hid (Bk.call N1.out hb7)) | skip); clear hb7 HCK)
              refine hK.out _ _ ?_ ?_
              · (try dsimp only)
                ((go_split_ands; refine HALL.out _ ?_; (first | assumption | (repeat (first | assumption | refine Fr.new ?_ _ | refine Fr.drew ?_ | (refine Fr.set ?_ (by first | exact Nat.le_refl _ | omega | (simp; done) | (simp; omega)) (by first | (simp; done) | (simp; omega)) _))); done)))
              clear hK K
              (try simp only [Act.put, List.setIfInBounds_toArray, List.set_cons_zero, List.set_cons_succ])
              refine Tw_takeL (i := 7) (v := ?tv28) rfl (by kernel_rfl) (by decide) (by kernel_rfl) (by kernel_rfl) (fun _ _ _ h => h) (by rfl) ?ty28 ?tn28
              case ty28 => (intro w hSw; (try dsimp only at hSw); go_simp <;> with_reducible rfl)
              (try simp only [Act.put, List.setIfInBounds_toArray, List.set_cons_zero, List.set_cons_succ])
              refine Tw_takeL (i := 8) (v := ?tv29) rfl (by kernel_rfl) (by decide) (by kernel_rfl) (by kernel_rfl) (fun _ _ _ h => h) (by rfl) ?ty29 ?tn29
              case ty29 => (intro w hSw; (try dsimp only at hSw); go_simp <;> with_reducible rfl)
              (try simp only [Act.put, List.setIfInBounds_toArray, List.set_cons_zero, List.set_cons_succ])
              refine Tw_takeL (i := 9) (v := ?tv30) rfl (by kernel_rfl) (by decide) (by kernel_rfl) (by kernel_rfl) (fun _ _ _ h => h) (by rfl) ?ty30 ?tn30
              case ty30 => (intro w hSw; (try dsimp only at hSw); go_simp <;> with_reducible rfl)
              (try simp only [Act.put, List.setIfInBounds_toArray, List.set_cons_zero, List.set_cons_succ])
              refine Tw_all (rs := [11]) (by kernel_rfl) (by simp) (by decide) (fun hHeld => ?_)
              refine AllT.consL rfl (fun K hK => ?_) (AllT.nil)
              · have c0 := N1.out.cell 0
                have c1 := N1.out.cell 1
                have f0 := N1.out.frozen 0
                have f1 := N1.out.frozen 1
                have zN := N1.out.lt
                go_simp
                refine hK.out _ _ ?_ ?_
                · exact HALL.out _ (Fr.off2 hHeld.1 zg.out _ _)
                clear hK K c0 c1 f0 f1 zN
                have N1 := Lib.hid (Bk.set2 N1.out (.string ⟨#[]⟩) (.slice none 0 0))
                (try simp only [Act.put, List.setIfInBounds_toArray, List.set_cons_zero, List.set_cons_succ])
                refine Tw_end (by kernel_rfl) (fun hh => ?_)
                obtain ⟨F11, _⟩ := hh
                clear HALL
                go_wp2_with fail
                go_meet
                exact ⟨_, rfl, rfl, F11.more N1.out⟩
      · go_simp
        refine hK.out _ _ ?_ ?_
        · (try dsimp only)
          ((go_split_ands; refine HALL.out _ ?_; (first | assumption | (repeat (first | assumption | refine Fr.new ?_ _ | refine Fr.drew ?_ | (refine Fr.set ?_ (by first | exact Nat.le_refl _ | omega | (simp; done) | (simp; omega)) (by first | (simp; done) | (simp; omega)) _))); done)))
        clear hK K
        (try simp only [Act.put, List.setIfInBounds_toArray, List.set_cons_zero, List.set_cons_succ])
        refine Tw_abs ?_
        intro wA38 hA38
        (first | (have N1 := Lib.hid (Bk.of_alloc hA38)) | (have N1 := Lib.hid (Bk.of_alloc_drew hA38)))
        have zg := Lib.hid (show w.heap.size + 3 ≤ _ from hHeld.1.top.lt)
        (first | (have O1 := Lib.hid (own_of_alloc hA38 O1.out)) | (have O1 := Lib.hid (own_of_alloc_drew hA38 O1.out)) | skip)
        clear hA38
        refine Tw_all (rs := [3]) (by kernel_rfl) (by simp) (by decide) (fun hHeld => ?_)
        refine AllT.consL rfl (fun K hK => ?_) (AllT.nil)
        · go_simp
          refine hK.out _ _ ?_ ?_
          · (try dsimp only)
            ((go_split_ands; refine HALL.out _ ?_; (first | assumption | (repeat (first | assumption | refine Fr.new ?_ _ | refine Fr.drew ?_ | (refine Fr.set ?_ (by first | exact Nat.le_refl _ | omega | (simp; done) | (simp; omega)) (by first | (simp; done) | (simp; omega)) _))); done)))
          clear hK K
          (try simp only [Act.put, List.setIfInBounds_toArray, List.set_cons_zero, List.set_cons_succ])
          refine Tw_abs ?_
          intro wA39 hA39
          (first | (have N1 := Lib.hid (Bk.over_alloc hA39 N1.out)) | (have N1 := Lib.hid (Bk.over_alloc_drew hA39 N1.out)) | skip)
          (first | (have O1 := Lib.hid (own_one_alloc (base := w.heap.size + 3) hA39 (by have := hHeld.1.top.lt; omega))) | (have O1 := Lib.hid (own_one_drew (base := w.heap.size + 3) hA39 (by have := hHeld.1.top.lt; omega))))
          clear hA39
          refine Tw_all (rs := [5]) (by kernel_rfl) (by simp) (by decide) (fun hHeld => ?_)
          refine AllT.consL rfl (fun K hK => ?_) (AllT.nil)
          · rw [if_pos (by rfl)]
            refine wp_append_lies _ _ _ 75 rfl (w.heap.size + 3) 37 i0 (.int .i64 0) 1 8 Try.underlying75 hi0 hiz0 his0 hib0 rfl (by decide) _ 1 [.int .i64 se] rfl O1.out fa fs.length d (ic fs) rfl k1.out (Lies.adds (HF.out.below hHeld.1.bl)) (ic_one fs) hm0 (by unfold maxLen; omega) (by omega) (by have := hHeld.1.top.lt; omega) _ rfl ?_
            intro g40 cap40 wC40 ho40 hg40 _ _
            have F540 := Fr.grown2 hHeld.1 hg40 (fun q e => (O1.out.lt q e).1) (by omega) (by first | (simp; done) | (simp; omega))
            (first | (have N1 := Lib.hid (Bk.grown_own N1.out O1.out (by decide) hg40)) | skip)
            have O1 := Lib.hid ho40
            clear ho40 hg40
            refine hK.out _ _ ?_ ?_
            · (try dsimp only)
              ((go_split_ands; refine HALL.out _ ?_; (first | assumption | (repeat (first | assumption | refine Fr.new ?_ _ | refine Fr.drew ?_ | (refine Fr.set ?_ (by first | exact Nat.le_refl _ | omega | (simp; done) | (simp; omega)) (by first | (simp; done) | (simp; omega)) _))); done)))
            clear hK K
            (try simp only [Act.put, List.setIfInBounds_toArray, List.set_cons_zero, List.set_cons_succ])
            refine Tw_all (rs := [6]) (by kernel_rfl) (by simp) (by decide) (fun hHeld => ?_)
            refine AllT.consL rfl (fun K hK => ?_) (AllT.nil)
            · go_simp
              (go_at_call 19; go_split_ands; have HCK := Lib.hid (own_lies (g := ⟨some ⟨_, 0, none⟩, _⟩) O1.out).1; (refine (HCA.out _ _ _ (Fr.lies HA.out (by assumption)) (HCK.out)).mono ?_); rintro e w7 ⟨rfl, hb7⟩; have F6 := Fr.call (by assumption) hb7; (first | (have N1 := Lib.hid (Bk.call N1.out hb7)) | skip); clear hb7 HCK)
              refine hK.out _ _ ?_ ?_
              · (try dsimp only)
                ((go_split_ands; refine HALL.out _ ?_; (first | assumption | (repeat (first | assumption | refine Fr.new ?_ _ | refine Fr.drew ?_ | (refine Fr.set ?_ (by first | exact Nat.le_refl _ | omega | (simp; done) | (simp; omega)) (by first | (simp; done) | (simp; omega)) _))); done)))
              clear hK K
              (try simp only [Act.put, List.setIfInBounds_toArray, List.set_cons_zero, List.set_cons_succ])
              refine Tw_takeL (i := 7) (v := ?tv31) rfl (by kernel_rfl) (by decide) (by kernel_rfl) (by kernel_rfl) (fun _ _ _ h => h) (by rfl) ?ty31 ?tn31
              case ty31 => (intro w hSw; (try dsimp only at hSw); go_simp <;> with_reducible rfl)
              (try simp only [Act.put, List.setIfInBounds_toArray, List.set_cons_zero, List.set_cons_succ])
              refine Tw_takeL (i := 8) (v := ?tv32) rfl (by kernel_rfl) (by decide) (by kernel_rfl) (by kernel_rfl) (fun _ _ _ h => h) (by rfl) ?ty32 ?tn32
              case ty32 => (intro w hSw; (try dsimp only at hSw); go_simp <;> with_reducible rfl)
              (try simp only [Act.put, List.setIfInBounds_toArray, List.set_cons_zero, List.set_cons_succ])
              refine Tw_takeL (i := 9) (v := ?tv33) rfl (by kernel_rfl) (by decide) (by kernel_rfl) (by kernel_rfl) (fun _ _ _ h => h) (by rfl) ?ty33 ?tn33
              case ty33 => (intro w hSw; (try dsimp only at hSw); go_simp <;> with_reducible rfl)
              (try simp only [Act.put, List.setIfInBounds_toArray, List.set_cons_zero, List.set_cons_succ])
              refine Tw_all (rs := [11]) (by kernel_rfl) (by simp) (by decide) (fun hHeld => ?_)
              refine AllT.consL rfl (fun K hK => ?_) (AllT.nil)
              · have c0 := N1.out.cell 0
                have c1 := N1.out.cell 1
                have f0 := N1.out.frozen 0
                have f1 := N1.out.frozen 1
                have zN := N1.out.lt
                go_simp
                refine hK.out _ _ ?_ ?_
                · exact HALL.out _ (Fr.off2 hHeld.1 zg.out _ _)
                clear hK K c0 c1 f0 f1 zN
                have N1 := Lib.hid (Bk.set2 N1.out (.string ⟨#[]⟩) (.slice none 0 0))
                (try simp only [Act.put, List.setIfInBounds_toArray, List.set_cons_zero, List.set_cons_succ])
                refine Tw_end (by kernel_rfl) (fun hh => ?_)
                obtain ⟨F11, _⟩ := hh
                clear HALL
                go_wp2_with fail
                go_meet
                exact ⟨_, rfl, rfl, F11.more N1.out⟩
    · go_simp
      refine hK.out _ _ ?_ ?_
      · (try dsimp only)
        ((go_split_ands; refine HALL.out _ ?_; (first | assumption | (repeat (first | assumption | refine Fr.new ?_ _ | refine Fr.drew ?_ | (refine Fr.set ?_ (by first | exact Nat.le_refl _ | omega | (simp; done) | (simp; omega)) (by first | (simp; done) | (simp; omega)) _))); done)))
      clear hK K
      (try simp only [Act.put, List.setIfInBounds_toArray, List.set_cons_zero, List.set_cons_succ])
      refine Tw_abs ?_
      intro wA43 hA43
      (first | (have N1 := Lib.hid (Bk.of_alloc hA43)) | (have N1 := Lib.hid (Bk.of_alloc_drew hA43)))
      have zg := Lib.hid (show w.heap.size + 3 ≤ _ from hHeld.1.top.lt)
      (first | (have O1 := Lib.hid (own_of_alloc hA43 O1.out)) | (have O1 := Lib.hid (own_of_alloc_drew hA43 O1.out)) | skip)
      clear hA43
      refine Tw_all (rs := [2]) (by kernel_rfl) (by simp) (by decide) (fun hHeld => ?_)
      refine AllT.consL rfl (fun K hK => ?_) (AllT.nil)
      · go_simp
        (go_at_call 35; go_split_ands; (with_reducible refine (CheckSystem_any b _).mono ?_); rintro e w7 ⟨rfl, hb7⟩; rw [HSE.out]; have F4 := Fr.call (by assumption) hb7; (first | (have N1 := Lib.hid (Bk.call N1.out hb7)) | skip); clear hb7)
        refine hK.out _ _ ?_ ?_
        · (try dsimp only)
          ((go_split_ands; refine HALL.out _ ?_; (first | assumption | (repeat (first | assumption | refine Fr.new ?_ _ | refine Fr.drew ?_ | (refine Fr.set ?_ (by first | exact Nat.le_refl _ | omega | (simp; done) | (simp; omega)) (by first | (simp; done) | (simp; omega)) _))); done)))
        clear hK K
        (try simp only [Act.put, List.setIfInBounds_toArray, List.set_cons_zero, List.set_cons_succ])
        refine Tw_all (rs := [3]) (by kernel_rfl) (by simp) (by decide) (fun hHeld => ?_)
        refine AllT.consL rfl (fun K hK => ?_) (AllT.nil)
        · go_simp
          refine hK.out _ _ ?_ ?_
          · (try dsimp only)
            ((go_split_ands; refine HALL.out _ ?_; (first | assumption | (repeat (first | assumption | refine Fr.new ?_ _ | refine Fr.drew ?_ | (refine Fr.set ?_ (by first | exact Nat.le_refl _ | omega | (simp; done) | (simp; omega)) (by first | (simp; done) | (simp; omega)) _))); done)))
          clear hK K
          (try simp only [Act.put, List.setIfInBounds_toArray, List.set_cons_zero, List.set_cons_succ])
          refine Tw_abs ?_
          intro wA45 hA45
          (first | (have N1 := Lib.hid (Bk.over_alloc hA45 N1.out)) | (have N1 := Lib.hid (Bk.over_alloc_drew hA45 N1.out)) | skip)
          (first | (have O1 := Lib.hid (own_one_alloc (base := w.heap.size + 3) hA45 (by have := hHeld.1.top.lt; omega))) | (have O1 := Lib.hid (own_one_drew (base := w.heap.size + 3) hA45 (by have := hHeld.1.top.lt; omega))))
          clear hA45
          refine Tw_all (rs := [5]) (by kernel_rfl) (by simp) (by decide) (fun hHeld => ?_)
          refine AllT.consL rfl (fun K hK => ?_) (AllT.nil)
          · rw [if_pos (by rfl)]
            refine wp_append_lies _ _ _ 75 rfl (w.heap.size + 3) 37 i0 (.int .i64 0) 1 8 Try.underlying75 hi0 hiz0 his0 hib0 rfl (by decide) _ 1 [.int .i64 se] rfl O1.out fa fs.length d (ic fs) rfl k1.out (Lies.adds (HF.out.below hHeld.1.bl)) (ic_one fs) hm0 (by unfold maxLen; omega) (by omega) (by have := hHeld.1.top.lt; omega) _ rfl ?_
            intro g46 cap46 wC46 ho46 hg46 _ _
            have F546 := Fr.grown2 hHeld.1 hg46 (fun q e => (O1.out.lt q e).1) (by omega) (by first | (simp; done) | (simp; omega))
            (first | (have N1 := Lib.hid (Bk.grown_own N1.out O1.out (by decide) hg46)) | skip)
            have O1 := Lib.hid ho46
            clear ho46 hg46
            refine hK.out _ _ ?_ ?_
            · (try dsimp only)
              ((go_split_ands; refine HALL.out _ ?_; (first | assumption | (repeat (first | assumption | refine Fr.new ?_ _ | refine Fr.drew ?_ | (refine Fr.set ?_ (by first | exact Nat.le_refl _ | omega | (simp; done) | (simp; omega)) (by first | (simp; done) | (simp; omega)) _))); done)))
            clear hK K
            (try simp only [Act.put, List.setIfInBounds_toArray, List.set_cons_zero, List.set_cons_succ])
            refine Tw_all (rs := [6]) (by kernel_rfl) (by simp) (by decide) (fun hHeld => ?_)
            refine AllT.consL rfl (fun K hK => ?_) (AllT.nil)
            · go_simp
              (go_at_call 19; go_split_ands; have HCK := Lib.hid (own_lies (g := ⟨some ⟨_, 0, none⟩, _⟩) O1.out).1; (refine (HCA.out _ _ _ (Fr.lies HA.out (by assumption)) (HCK.out)).mono ?_); rintro e w7 ⟨rfl, hb7⟩; have F6 := Fr.call (by assumption) hb7; (first | (have N1 := Lib.hid (Bk.call N1.out hb7)) | skip); clear hb7 HCK)
              refine hK.out _ _ ?_ ?_
              · (try dsimp only)
                ((go_split_ands; refine HALL.out _ ?_; (first | assumption | (repeat (first | assumption | refine Fr.new ?_ _ | refine Fr.drew ?_ | (refine Fr.set ?_ (by first | exact Nat.le_refl _ | omega | (simp; done) | (simp; omega)) (by first | (simp; done) | (simp; omega)) _))); done)))
              clear hK K
              (try simp only [Act.put, List.setIfInBounds_toArray, List.set_cons_zero, List.set_cons_succ])
              refine Tw_takeL (i := 7) (v := ?tv34) rfl (by kernel_rfl) (by decide) (by kernel_rfl) (by kernel_rfl) (fun _ _ _ h => h) (by rfl) ?ty34 ?tn34
              case ty34 => (intro w hSw; (try dsimp only at hSw); go_simp <;> with_reducible rfl)
              (try simp only [Act.put, List.setIfInBounds_toArray, List.set_cons_zero, List.set_cons_succ])
              refine Tw_takeL (i := 8) (v := ?tv35) rfl (by kernel_rfl) (by decide) (by kernel_rfl) (by kernel_rfl) (fun _ _ _ h => h) (by rfl) ?ty35 ?tn35
              case ty35 => (intro w hSw; (try dsimp only at hSw); go_simp <;> with_reducible rfl)
              (try simp only [Act.put, List.setIfInBounds_toArray, List.set_cons_zero, List.set_cons_succ])
              refine Tw_takeL (i := 9) (v := ?tv36) rfl (by kernel_rfl) (by decide) (by kernel_rfl) (by kernel_rfl) (fun _ _ _ h => h) (by rfl) ?ty36 ?tn36
              case ty36 => (intro w hSw; (try dsimp only at hSw); go_simp <;> with_reducible rfl)
              (try simp only [Act.put, List.setIfInBounds_toArray, List.set_cons_zero, List.set_cons_succ])
              refine Tw_all (rs := [11]) (by kernel_rfl) (by simp) (by decide) (fun hHeld => ?_)
              refine AllT.consL rfl (fun K hK => ?_) (AllT.nil)
              · have c0 := N1.out.cell 0
                have c1 := N1.out.cell 1
                have f0 := N1.out.frozen 0
                have f1 := N1.out.frozen 1
                have zN := N1.out.lt
                go_simp
                refine hK.out _ _ ?_ ?_
                · exact HALL.out _ (Fr.off2 hHeld.1 zg.out _ _)
                clear hK K c0 c1 f0 f1 zN
                have N1 := Lib.hid (Bk.set2 N1.out (.string ⟨#[]⟩) (.slice none 0 0))
                (try simp only [Act.put, List.setIfInBounds_toArray, List.set_cons_zero, List.set_cons_succ])
                refine Tw_end (by kernel_rfl) (fun hh => ?_)
                obtain ⟨F11, _⟩ := hh
                clear HALL
                go_wp2_with fail
                go_meet
                exact ⟨_, rfl, rfl, F11.more N1.out⟩
  case rest =>
    obtain ⟨wx, rfl⟩ : ∃ W, W = wc := ⟨_, rfl⟩
    obtain ⟨g, rfl, rfl, hx⟩ := hcut
    have FC := Lib.hid hx
    clear hx F0
    have q0 := FC.out.top.cell 0
    have q1 := FC.out.top.cell 1
    have y0 := FC.out.at2.cell 0
    have y1 := FC.out.at2.cell 1
    have y2 := FC.out.at2.cell 2
    have r0 := FC.out.at1.cell 0
    have r1 := FC.out.at1.cell 1
    have r2 := FC.out.at1.cell 2
    have r3 := FC.out.at1.cell 3
    have r4 := FC.out.at1.cell 4
    have rf0 := FC.out.at1.frozen 0
    have rf1 := FC.out.at1.frozen 1
    have rf2 := FC.out.at1.frozen 2
    have rf3 := FC.out.at1.frozen 3
    have rf4 := FC.out.at1.frozen 4
    have rz := FC.out.at1.lt
    go_wp2_with fail
    exact bodyPost_ret (v := .tuple #[.agg #[.string ⟨#[]⟩, .slice none 0 0, .int .i64 0, .int .i64 0, .int .i64 0], .int .i64 E]) (by simp [results, Try.results22, go_sem, r0, r1, r2, r3, r4]) rfl ⟨rfl, (by repeat (first | exact FC.out.bl | refine Below.drew ?_ | refine Below.setCell ?_ (by first | (simp; done) | (simp; omega) | omega) _ | refine Below.alloc ?_ (by first | (simp; done) | (simp; omega) | omega) _ | exact Below.refl _ _))⟩
end Go.Proofs.Ytaghpemdcmjchaa
