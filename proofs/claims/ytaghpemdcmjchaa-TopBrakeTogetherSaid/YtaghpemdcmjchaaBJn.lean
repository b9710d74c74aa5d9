
/-
  Two rows of pieces as one, and Joined of the program.
-/
import Derived.Test.YtaghpemdcmjchaaBChk
import Derived.Test.YtaghpemdcmjchaaBLm2
import Derived.Test.YtaghpemdcmjchaaBKit
import Derived.Lib.AppendZeros
namespace Go.Proofs.Ytaghpemdcmjchaa
open Go.RowKit

theorem heap_drew_new (w : World) (o : Obj) : (w.drew.alloc o).heap[w.heap.size]? = some o := heap_alloc_new w.drew o

set_option maxHeartbeats 1600000 in
set_option maxRecDepth 100000 in
theorem Grow_any (n : Nat) (h0 : 0 < n) (hn : n ≤ 1000) (w : World) :
    Calls Try.prog 33 #[.slice none 0 0, .int .i64 n] w fun e w' => ∃ c : Nat, e = .returned (.slice (some ⟨w.heap.size, 0, none⟩) 0 c) ∧ w'.ownsRow w.heap.size 54 4 (.slice (some ⟨w.heap.size, 0, none⟩) 0 c) 0 [] ∧ Below w.heap.size w w' := by
  obtain ⟨i0, hi0, hz0, hs0, hb0⟩ := info_parts info_piece
  have hn1 : (0 : Int) < (n : Int) := by omega
  have hn2 : ¬ ((n : Int) < 0) := by omega
  have hw0 := IntWalk.i64_in ((n : Int)) (by omega)
  obtain ⟨C, hC⟩ : ∃ C, grownCap w n 0 54 = C := ⟨_, rfl⟩
  have hC1 := grownCap_ge w n 0 54
  have hC2 := grownCap_le_maxLen w n 0 54 (by unfold maxLen; omega)
  rw [hC] at hC1 hC2
  have hrz := fun ty => Lib.run_append_nil_zeros (P := Try.prog) w 22 3 ty 54 i0 (.agg #[.int .i64 0, .int .i64 0, .int .i64 0, .bool false]) .i64 .i64 Try.underlying22 Try.underlying3 hi0 hz0 n h0 (by omega) (by omega) (by rw [hb0]; omega)
  rw [hC] at hrz
  have HRZ := Lib.hid hrz
  have HC1 := Lib.hid hC1
  have HC2 := Lib.hid hC2
  have hC3 : (C : Int) ≤ 9223372036854775807 := by unfold maxLen at hC2; omega
  clear hrz hC hC1 hC2 hi0 hz0 hs0 hb0
  go_enter Try.func33, Try.ntmps33
  go_wp2_with (at_builtin; refine Lib.wpList_append_run _ rfl _ _ _ _ rfl _ _ rfl rfl _ _ (HRZ.out _) ?_)
  go_ret
  refine ⟨C, rfl, ⟨rfl, .inr ⟨w.heap.size, C, _, rfl, Nat.le_refl _, heap_drew_new w _, Nat.zero_le _, HC2.out, ?_, by simp⟩⟩, (Below.refl _ w).drew.alloc (Nat.le_refl _) _⟩
  rw [Array.size_append, size_zeroCells, size_zeroCells]
  have := HC1.out
  simp only [Value.cells, List.size_toArray, List.length_cons, List.length_nil]
  omega

set_option maxHeartbeats 1600000 in
set_option maxRecDepth 100000 in
theorem Concat_any (ps ps2 : List Bp) (a a2 : Addr) (c c2 g : Nat) (hn : ps.length ≠ 0) (hl : ps.length ≤ 100) (hl2 : ps2.length ≤ 100) (w : World) (hA : Lies w w.heap.size (some a) (ps.flatMap pc)) (hA2 : Lies w w.heap.size (some a2) (ps2.flatMap pc)) (hB : Bk w g 22 #[.slice (some a) ps.length c, .slice (some a2) ps2.length c2]) :
    Calls Try.prog 20 #[.slice (some ⟨g, 0, none⟩) 2 2] w fun e w' => ∃ h : Hd, e = .returned (.slice h.A (ps.length + ps2.length) h.c) ∧ Lies w' w'.heap.size h.A ((ps ++ ps2).flatMap pc) ∧ HdOk h ∧ (∀ a, h.A = some a → w.heap.size ≤ a.block) ∧ Below w.heap.size w w' := by
  obtain ⟨i0, hi0, hz0, hs0, hb0⟩ := info_parts info_piece
  have HA := Lib.hid hA
  have HA2 := Lib.hid hA2
  have HB := Lib.hid hB
  have hk1 : Hid ((ps.flatMap pc).length = ps.length * 4) := Lib.hid (flat_len pc 4 (fun _ => rfl) ps)
  have hk2 : Hid ((ps2.flatMap pc).length = ps2.length * 4) := Lib.hid (flat_len pc 4 (fun _ => rfl) ps2)
  obtain ⟨N1, hN1⟩ : ∃ n, ps.length = n := ⟨_, rfl⟩
  obtain ⟨N2, hN2⟩ : ∃ n, ps2.length = n := ⟨_, rfl⟩
  rw [hN1] at hn hl hk1
  rw [hN2] at hl2 hk2
  rw [hN1, hN2] at HB ⊢
  have c0 := HB.out.cell 0
  have c1 := HB.out.cell 1
  have hi1 : (N1 : Int) ≤ 100 := by omega
  have hi2 : (N2 : Int) ≤ 100 := by omega
  have hw1 := IntWalk.i64_in ((N1 : Int) + (N2 : Int)) (by omega)
  have hw3 := IntWalk.i64_in (N1 : Int) (by omega)
  have hn1 : ¬ ((N1 : Int) < 0) := by omega
  have hn2 : ¬ ((N1 : Int) + (N2 : Int) < 0) := by omega
  clear hA hA2 hB hN1 hN2
  go_enter Try.func20, Try.ntmps20
  go_wp2_with fail
  go_loop [3, 11] (fun z i => (i = .int .i64 0 ∧ z = .int .i64 0) ∨ (i = .int .i64 1 ∧ z = .int .i64 N1) ∨ (i = .int .i64 2 ∧ z = .int .i64 ((N1 : Int) + (N2 : Int)))) (fun _ i => 2 - (intOf i).toNat)
  case atStart => exact .inl ⟨rfl, rfl⟩
  case round =>
    rcases hrel with ⟨rfl, rfl⟩ | ⟨rfl, rfl⟩ | ⟨rfl, rfl⟩
    · simp [Addr.add] at c0
      go_wp2_with fail
      go_round
      case rel => exact .inr (.inl ⟨rfl, cong64 (by omega)⟩)
      case measure => simp [intOf]
    · go_wp2_with fail
      go_round
      case rel => exact .inr (.inr ⟨rfl, cong64 (by omega)⟩)
      case measure => simp [intOf]
    · obtain ⟨M, hM⟩ : ∃ M : Nat, M = N1 + N2 := ⟨_, rfl⟩
      have hMi : (N1 : Int) + (N2 : Int) = (M : Int) := by omega
      rw [hMi]
      have HMI := Lib.hid hM
      clear hMi hM hw1 hn2
      go_wp2_with fail
      refine (Grow_any M (by have := HMI.out; omega) (by have := HMI.out; omega) w).mono ?_
      rintro e w1 ⟨c3, rfl, ho, hb1⟩
      have F1 := Lib.hid (Fr.call (Fr.nil w) hb1)
      have O1 := Lib.hid ho
      clear hb1 ho c0 c1
      go_wp2_with fail
      go_loopw [6, 27] (fun v i wr => Fr w wr [] ∧ ((i = .int .i64 0 ∧ wr.ownsRow w.heap.size 54 4 v 0 []) ∨ (i = .int .i64 1 ∧ wr.ownsRow w.heap.size 54 4 v N1 (ps.flatMap pc)) ∨ (i = .int .i64 2 ∧ wr.ownsRow w.heap.size 54 4 v (N1 + N2) (ps.flatMap pc ++ ps2.flatMap pc)))) (fun _ i _ => 2 - (intOf i).toNat)
      case atStart => exact ⟨F1.out, .inl ⟨rfl, O1.out⟩⟩
      case round =>
        obtain ⟨hf, hrel⟩ := hrel
        have FK := Lib.hid hf
        have HBK := Lib.hid (HB.out.call hf.bl)
        have c0 := HBK.out.cell 0
        have c1 := HBK.out.cell 1
        clear hf F1 O1
        rcases hrel with ⟨rfl, ho⟩ | ⟨rfl, ho⟩ | ⟨rfl, ho⟩
        · simp [Addr.add] at c0
          have O2 := Lib.hid ho
          clear ho
          have S2 := Lib.hid (Fr.lies HA.out FK.out)
          go_wp2_with (at_builtin; refine wpList_append_own _ rfl _ _ 22 rfl w.heap.size 54 i0 (.agg #[.int .i64 0, .int .i64 0, .int .i64 0, .bool false]) 4 32 Try.underlying22 hi0 hz0 hs0 hb0 rfl (by decide) _ _ _ rfl O2.out _ _ _ (ps.flatMap pc) rfl hk1.out S2.out.adds (pc_one ps) (by unfold maxLen; omega) (by omega) FK.out.bl.size ?_)
          intro v' w7 o7 g7 _
          have q7 := Lib.hid (Fr.grown2 FK.out g7 (fun q e => (O2.out.lt q e).1) (Nat.le_refl _) (by simp))
          have o8 : Hid (w7.ownsRow w.heap.size 54 4 v' N1 (ps.flatMap pc)) := Lib.hid (by simpa using o7)
          clear o7 g7
          go_wp2_with fail
          go_roundw
          case rel => exact ⟨q7.out, .inr (.inl ⟨rfl, o8.out⟩)⟩
          case measure => simp [intOf]
        · have O2 := Lib.hid ho
          clear ho
          have S2 := Lib.hid (Fr.lies HA2.out FK.out)
          go_wp2_with (at_builtin; refine wpList_append_own _ rfl _ _ 22 rfl w.heap.size 54 i0 (.agg #[.int .i64 0, .int .i64 0, .int .i64 0, .bool false]) 4 32 Try.underlying22 hi0 hz0 hs0 hb0 rfl (by decide) _ _ _ rfl O2.out _ _ _ (ps2.flatMap pc) rfl hk2.out S2.out.adds (pc_one ps2) (by unfold maxLen; omega) (by omega) FK.out.bl.size ?_)
          intro v' w7 o7 g7 _
          have q7 := Lib.hid (Fr.grown2 FK.out g7 (fun q e => (O2.out.lt q e).1) (Nat.le_refl _) (by simp))
          have o8 := Lib.hid o7
          clear o7 g7
          go_wp2_with fail
          go_roundw
          case rel => exact ⟨q7.out, .inr (.inr ⟨rfl, o8.out⟩)⟩
          case measure => simp [intOf]
        · obtain ⟨h, rfl, hL, hk, hba⟩ := own_slice ho
          have HL := Lib.hid hL
          have HK := Lib.hid hk
          have HBA := Lib.hid hba
          clear ho hL hk hba
          go_wp2_with fail
          go_ret
          exact ⟨h, rfl, by rw [List.flatMap_append]; exact HL.out, HK.out, HBA.out, FK.out.bl⟩

theorem fs_new {W : World} {e : TypeId} {x : Int} {g : Nat} (h : g = W.heap.size) : Lies (W.alloc (.cells #[.int .i64 x] e)) (W.alloc (.cells #[.int .i64 x] e)).heap.size (some ⟨g, 0, none⟩) (ic [x]) := by
  subst h
  exact fs_alloc (l := [x]) rfl (by simp [maxLen])
theorem check_gen (s : ByteArray) (hs : s.size ≤ maxLen) (ps : List Bp) (A : Option Addr) (c : Nat) (hl : ps.length ≤ maxLen) (fs : List Int) (F : Option Addr) (d : Nat) (hf : fs.length ≤ maxLen) (w : World) (hA : Lies w w.heap.size A (ps.flatMap pc)) (hF : Lies w w.heap.size F (ic fs)) :
    Calls Try.prog 19 #[.agg #[.string s, .slice A ps.length c], .slice F fs.length d] w fun e w' => ∃ (sx : ByteArray) (Ax : Option Addr) (nx cx : Nat), e = .returned (.tuple #[.agg #[.string sx, .slice Ax nx cx], .int .i64 (nz ((trE s ps).2 :: fs))]) ∧ Below w.heap.size w w' := by
  by_cases h : nz ((trE s ps).2 :: fs) = 0
  · rw [h]
    exact (check_ok s hs ps A c hl fs F d hf h w hA hF).mono fun _ _ h => ⟨_, _, _, _, h⟩
  · exact (check_bad s hs ps A c hl fs F d hf _ rfl h w hA hF).mono fun _ _ h => ⟨_, _, _, _, h⟩
/-- The error of two tracks that are to be one. -/
def joiE (s : ByteArray) (ps : List Bp) (s2 : ByteArray) (ps2 : List Bp) : Int := if nz [(trE s ps).2, (trE s2 ps2).2] ≠ 0 then nz [(trE s ps).2, (trE s2 ps2).2] else if 12 < ps.length + ps2.length then 8 else 0
theorem trE_zero {s : ByteArray} {ps : List Bp} (h : (trE s ps).2 = 0) : OkT s ps := by
  rcases tr_cases s ps with ⟨_, hk⟩ | hr
  · exact hk
  · exact absurd h hr
theorem nz_two {a b : Int} (h : nz [a, b] = 0) : a = 0 ∧ b = 0 := by
  have := nz_zero.1 h
  exact ⟨this a (by simp), this b (by simp)⟩

set_option maxHeartbeats 1600000 in
set_option maxRecDepth 100000 in
theorem Joined_bad (s : ByteArray) (hs : s.size ≤ maxLen) (ps : List Bp) (A : Option Addr) (c : Nat) (hl : ps.length ≤ 100) (s2 : ByteArray) (hs2 : s2.size ≤ maxLen) (ps2 : List Bp) (A2 : Option Addr) (c2 : Nat) (hl2 : ps2.length ≤ 100) (E : Int) (hE : nz [(trE s ps).2, (trE s2 ps2).2] = E) (hr : E ≠ 0) (w : World) (hA : Lies w w.heap.size A (ps.flatMap pc)) (hA2 : Lies w w.heap.size A2 (ps2.flatMap pc)) :
    Calls Try.prog 9 #[.agg #[.string s, .slice A ps.length c], .agg #[.string s2, .slice A2 ps2.length c2]] w fun e w' => e = .returned (.tuple #[.agg #[.string ⟨#[]⟩, .slice none 0 0], .int .i64 E]) ∧ Below w.heap.size w w' := by
  have gn : (E != 0) = true := by simp [hr]
  clear hr
  have F0 := Lib.hid (Fr.b3 w 24 #[.string s, .slice A ps.length c] 24 #[.string s2, .slice A2 ps2.length c2] 24 #[.string ⟨#[]⟩, .slice none 0 0])
  have HA := Lib.hid hA
  have HA2 := Lib.hid hA2
  obtain ⟨E2, hE2⟩ : ∃ E2, (trE s2 ps2).2 = E2 := ⟨_, rfl⟩
  rw [hE2] at hE
  have HCB : Hid (∀ W, Lies W W.heap.size A2 (ps2.flatMap pc) → Calls Try.prog 19 #[.agg #[.string s2, .slice A2 ps2.length c2], .slice none 0 0] W fun e w' => ∃ (sx : ByteArray) (Ax : Option Addr) (nx cx : Nat), e = .returned (.tuple #[.agg #[.string sx, .slice Ax nx cx], .int .i64 E2]) ∧ Below W.heap.size W w') := Lib.hid (fun W h => by
    have := check_gen s2 hs2 ps2 A2 c2 (by unfold maxLen; omega) [] none 0 (Nat.zero_le _) W h (fun j u hu => by simp [ic] at hu)
    rw [nz_one, hE2] at this
    exact this)
  have HCA : Hid (∀ W fa, Lies W W.heap.size A (ps.flatMap pc) → Lies W W.heap.size (some fa) (ic [E2]) → Calls Try.prog 19 #[.agg #[.string s, .slice A ps.length c], .slice (some fa) 1 1] W fun e w' => ∃ (sx : ByteArray) (Ax : Option Addr) (nx cx : Nat), e = .returned (.tuple #[.agg #[.string sx, .slice Ax nx cx], .int .i64 E]) ∧ Below W.heap.size W w') := Lib.hid (fun W fa h hf => by
    have := check_gen s hs ps A c (by unfold maxLen; omega) [E2] (some fa) 1 (by simp [maxLen]) W h hf
    rw [hE] at this
    exact this)
  clear hA hA2 hE hE2
  go_enter Try.func9, Try.ntmps9
  go_wp2_with fail
  refine (HCB.out _ (Fr.lies HA2.out F0.out)).mono ?_
  rintro e w1 ⟨s3, A3, n3, c3, rfl, hb1⟩
  have F1 := Lib.hid (Fr.box (F0.out.call hb1) 57 #[.string s3, .slice A3 n3 c3])
  have q0 := (F1.out.get 3 rfl).cell 0
  have q1 := (F1.out.get 3 rfl).cell 1
  clear hb1 F0
  go_wp2_with fail
  refine (HCA.out _ ⟨w1.heap.size + 1, 0, none⟩ (Fr.lies HA.out (F1.out.new _)) (fs_new (by simp))).mono ?_
  rintro e w2 ⟨s4, A4, n4, c4, rfl, hb2⟩
  have F2 := Lib.hid (Fr.box ((F1.out.new _).call hb2) 57 #[.string s4, .slice A4 n4 c4])
  clear hb2 F1 q0 q1
  have q0 := (F2.out.get 4 rfl).cell 0
  have q1 := (F2.out.get 4 rfl).cell 1
  have p0 := (F2.out.get 3 rfl).cell 0
  have p1 := (F2.out.get 3 rfl).cell 1
  have d0 := (F2.out.get 2 rfl).cell 0
  have d1 := (F2.out.get 2 rfl).cell 1
  have f0 := (F2.out.get 2 rfl).frozen 0
  have f1 := (F2.out.get 2 rfl).frozen 1
  have zN := (F2.out.get 2 rfl).lt
  go_wp2_with fail
  exact bodyPost_ret (v := .tuple #[.agg #[.string ⟨#[]⟩, .slice none 0 0], .int .i64 E]) (by simp [results, Try.results9, go_sem, d0, d1]) rfl ⟨rfl, ((F2.out.bl.setCell (p := ⟨w.heap.size + 1 + 1, 0, none⟩) (by show w.heap.size ≤ w.heap.size + 1 + 1; omega) _).setCell (p := ⟨w.heap.size + 1 + 1, 1, none⟩) (by show w.heap.size ≤ w.heap.size + 1 + 1; omega) _)⟩

set_option maxHeartbeats 1600000 in
set_option maxRecDepth 100000 in
theorem Joined_long (s : ByteArray) (hs : s.size ≤ maxLen) (ps : List Bp) (A : Option Addr) (c : Nat) (hl : ps.length ≤ 100) (s2 : ByteArray) (hs2 : s2.size ≤ maxLen) (ps2 : List Bp) (A2 : Option Addr) (c2 : Nat) (hl2 : ps2.length ≤ 100) (h0 : nz [(trE s ps).2, (trE s2 ps2).2] = 0) (h12 : 12 < ps.length + ps2.length) (w : World) (hA : Lies w w.heap.size A (ps.flatMap pc)) (hA2 : Lies w w.heap.size A2 (ps2.flatMap pc)) :
    Calls Try.prog 9 #[.agg #[.string s, .slice A ps.length c], .agg #[.string s2, .slice A2 ps2.length c2]] w fun e w' => e = .returned (.tuple #[.agg #[.string ⟨#[]⟩, .slice none 0 0], .int .i64 8]) ∧ Below w.heap.size w w' := by
  have hE := h0
  obtain ⟨t1, t2⟩ := nz_two h0
  have hn0 := (trE_zero t1).n0
  have hn2 := (trE_zero t2).n0
  clear h0 t1 t2
  obtain ⟨a, rfl⟩ : ∃ a, A = some a := by
    obtain ⟨x, e, _⟩ := hA.piece (gp_at (i := 0) (by omega))
    exact ⟨_, e⟩
  obtain ⟨a2, rfl⟩ : ∃ a, A2 = some a := by
    obtain ⟨x, e, _⟩ := hA2.piece (gp_at (i := 0) (by omega))
    exact ⟨_, e⟩
  have F0 := Lib.hid (Fr.b3 w 24 #[.string s, .slice (some a) ps.length c] 24 #[.string s2, .slice (some a2) ps2.length c2] 24 #[.string ⟨#[]⟩, .slice none 0 0])
  have HA := Lib.hid hA
  have HA2 := Lib.hid hA2
  obtain ⟨E2, hE2⟩ : ∃ E2, (trE s2 ps2).2 = E2 := ⟨_, rfl⟩
  rw [hE2] at hE
  have HCB : Hid (∀ W, Lies W W.heap.size (some a2) (ps2.flatMap pc) → Calls Try.prog 19 #[.agg #[.string s2, .slice (some a2) ps2.length c2], .slice none 0 0] W fun e w' => ∃ (sx : ByteArray) (Ax : Option Addr) (nx cx : Nat), e = .returned (.tuple #[.agg #[.string sx, .slice Ax nx cx], .int .i64 E2]) ∧ Below W.heap.size W w') := Lib.hid (fun W h => by
    have := check_gen s2 hs2 ps2 (some a2) c2 (by unfold maxLen; omega) [] none 0 (Nat.zero_le _) W h (fun j u hu => by simp [ic] at hu)
    rw [nz_one, hE2] at this
    exact this)
  have HCA : Hid (∀ W fa, Lies W W.heap.size (some a) (ps.flatMap pc) → Lies W W.heap.size (some fa) (ic [E2]) → Calls Try.prog 19 #[.agg #[.string s, .slice (some a) ps.length c], .slice (some fa) 1 1] W fun e w' => ∃ (sx : ByteArray) (Ax : Option Addr) (nx cx : Nat), e = .returned (.tuple #[.agg #[.string sx, .slice Ax nx cx], .int .i64 0]) ∧ Below W.heap.size W w') := Lib.hid (fun W fa h hf => by
    have := check_gen s hs ps (some a) c (by unfold maxLen; omega) [E2] (some fa) 1 (by simp [maxLen]) W h hf
    rw [hE] at this
    exact this)
  clear hA hA2 hE hE2
  go_enter Try.func9, Try.ntmps9
  go_wp2_with fail
  refine (HCB.out _ (Fr.lies HA2.out F0.out)).mono ?_
  rintro e w1 ⟨s3, A3, n3, c3, rfl, hb1⟩
  have F1 := Lib.hid (Fr.box (F0.out.call hb1) 57 #[.string s3, .slice A3 n3 c3])
  have q0 := (F1.out.get 3 rfl).cell 0
  have q1 := (F1.out.get 3 rfl).cell 1
  clear hb1 F0
  go_wp2_with fail
  refine (HCA.out _ ⟨w1.heap.size + 1, 0, none⟩ (Fr.lies HA.out (F1.out.new _)) (fs_new (by simp))).mono ?_
  rintro e w2 ⟨s4, A4, n4, c4, rfl, hb2⟩
  have F2 := Lib.hid (Fr.box ((F1.out.new _).call hb2) 57 #[.string s4, .slice A4 n4 c4])
  clear hb2 F1 q0 q1
  have q0 := (F2.out.get 4 rfl).cell 0
  have q1 := (F2.out.get 4 rfl).cell 1
  have p0 := (F2.out.get 3 rfl).cell 0
  have p1 := (F2.out.get 3 rfl).cell 1
  have d0 := (F2.out.get 2 rfl).cell 0
  have d1 := (F2.out.get 2 rfl).cell 1
  have f0 := (F2.out.get 2 rfl).frozen 0
  have f1 := (F2.out.get 2 rfl).frozen 1
  have zN := (F2.out.get 2 rfl).lt
  go_wp2_with fail
  refine (Concat_any ps ps2 a a2 c c2 (w2.heap.size + 1) hn0 hl hl2 _ (Fr.lies HA.out (F2.out.new _)) (Fr.lies HA2.out (F2.out.new _)) (Bk.new1 w2 _ _ _)).mono ?_
  rintro e w3 ⟨h, rfl, hL, hk, hba, hb3⟩
  have F3 := Lib.hid ((F2.out.new _).call hb3)
  have HL := Lib.hid hL
  have HK := Lib.hid hk
  have HBA : Hid (∀ a, h.A = some a → w.heap.size + 1 + 1 ≠ a.block) := Lib.hid (fun a e => by have h1 := hba a e; have h2 := (F2.out.get 2 rfl).lt; rw [World.size_alloc] at h1; omega)
  have HBB : Hid (∀ a, h.A = some a → w.heap.size ≤ a.block) := Lib.hid (fun a e => by have h1 := hba a e; have h2 := (F2.out.get 2 rfl).lt; rw [World.size_alloc] at h1; omega)
  clear hb3 hL hk hba F2 q0 q1 p0 p1 d0 d1 f0 f1 zN
  have q0 := (F3.out.get 4 rfl).cell 0
  have d0 := (F3.out.get 2 rfl).cell 0
  have d1 := (F3.out.get 2 rfl).cell 1
  have f0 := (F3.out.get 2 rfl).frozen 0
  have f1 := (F3.out.get 2 rfl).frozen 1
  have zN := (F3.out.get 2 rfl).lt
  obtain ⟨M, hM⟩ : ∃ M : Nat, M = ps.length + ps2.length := ⟨_, rfl⟩
  rw [← hM] at h12
  have HM := Lib.hid hM
  try rw [← hM]
  have hg : (12 : Int) < (M : Int) := by omega
  have hMl : (M : Int) ≤ 1000 := by omega
  clear hM h12
  go_wp2_with fail
  exact bodyPost_ret (v := .tuple #[.agg #[.string ⟨#[]⟩, .slice none 0 0], .int .i64 8]) (by simp [results, Try.results9, go_sem, d0, d1]) rfl ⟨rfl, ((F3.out.bl.setCell (p := ⟨w.heap.size + 1 + 1, 0, none⟩) (by show w.heap.size ≤ w.heap.size + 1 + 1; omega) _).setCell (p := ⟨w.heap.size + 1 + 1, 1, none⟩) (by show w.heap.size ≤ w.heap.size + 1 + 1; omega) _)⟩

set_option maxHeartbeats 1600000 in
set_option maxRecDepth 100000 in
theorem Joined_ok (s : ByteArray) (hs : s.size ≤ maxLen) (ps : List Bp) (A : Option Addr) (c : Nat) (hl : ps.length ≤ 100) (s2 : ByteArray) (hs2 : s2.size ≤ maxLen) (ps2 : List Bp) (A2 : Option Addr) (c2 : Nat) (hl2 : ps2.length ≤ 100) (h0 : nz [(trE s ps).2, (trE s2 ps2).2] = 0) (h12 : ps.length + ps2.length ≤ 12) (w : World) (hA : Lies w w.heap.size A (ps.flatMap pc)) (hA2 : Lies w w.heap.size A2 (ps2.flatMap pc)) :
    Calls Try.prog 9 #[.agg #[.string s, .slice A ps.length c], .agg #[.string s2, .slice A2 ps2.length c2]] w fun e w' => ∃ h : Hd, e = .returned (.tuple #[.agg #[.string s, .slice h.A (ps.length + ps2.length : Nat) h.c], .int .i64 0]) ∧ HdOk h ∧ Lies w' w'.heap.size h.A ((ps ++ ps2).flatMap pc) ∧ (∀ a, h.A = some a → w.heap.size ≤ a.block) ∧ Below w.heap.size w w' := by
  have hE := h0
  obtain ⟨t1, t2⟩ := nz_two h0
  have hn0 := (trE_zero t1).n0
  have hn2 := (trE_zero t2).n0
  clear h0 t1 t2
  obtain ⟨a, rfl⟩ : ∃ a, A = some a := by
    obtain ⟨x, e, _⟩ := hA.piece (gp_at (i := 0) (by omega))
    exact ⟨_, e⟩
  obtain ⟨a2, rfl⟩ : ∃ a, A2 = some a := by
    obtain ⟨x, e, _⟩ := hA2.piece (gp_at (i := 0) (by omega))
    exact ⟨_, e⟩
  have F0 := Lib.hid (Fr.b3 w 24 #[.string s, .slice (some a) ps.length c] 24 #[.string s2, .slice (some a2) ps2.length c2] 24 #[.string ⟨#[]⟩, .slice none 0 0])
  have HA := Lib.hid hA
  have HA2 := Lib.hid hA2
  obtain ⟨E2, hE2⟩ : ∃ E2, (trE s2 ps2).2 = E2 := ⟨_, rfl⟩
  rw [hE2] at hE
  have HCB : Hid (∀ W, Lies W W.heap.size (some a2) (ps2.flatMap pc) → Calls Try.prog 19 #[.agg #[.string s2, .slice (some a2) ps2.length c2], .slice none 0 0] W fun e w' => ∃ (sx : ByteArray) (Ax : Option Addr) (nx cx : Nat), e = .returned (.tuple #[.agg #[.string sx, .slice Ax nx cx], .int .i64 E2]) ∧ Below W.heap.size W w') := Lib.hid (fun W h => by
    have := check_gen s2 hs2 ps2 (some a2) c2 (by unfold maxLen; omega) [] none 0 (Nat.zero_le _) W h (fun j u hu => by simp [ic] at hu)
    rw [nz_one, hE2] at this
    exact this)
  have HCA : Hid (∀ W fa, Lies W W.heap.size (some a) (ps.flatMap pc) → Lies W W.heap.size (some fa) (ic [E2]) → Calls Try.prog 19 #[.agg #[.string s, .slice (some a) ps.length c], .slice (some fa) 1 1] W fun e w' => ∃ (sx : ByteArray) (Ax : Option Addr) (nx cx : Nat), e = .returned (.tuple #[.agg #[.string sx, .slice Ax nx cx], .int .i64 0]) ∧ Below W.heap.size W w') := Lib.hid (fun W fa h hf => by
    have := check_gen s hs ps (some a) c (by unfold maxLen; omega) [E2] (some fa) 1 (by simp [maxLen]) W h hf
    rw [hE] at this
    exact this)
  clear hA hA2 hE hE2
  go_enter Try.func9, Try.ntmps9
  go_wp2_with fail
  refine (HCB.out _ (Fr.lies HA2.out F0.out)).mono ?_
  rintro e w1 ⟨s3, A3, n3, c3, rfl, hb1⟩
  have F1 := Lib.hid (Fr.box (F0.out.call hb1) 57 #[.string s3, .slice A3 n3 c3])
  have q0 := (F1.out.get 3 rfl).cell 0
  have q1 := (F1.out.get 3 rfl).cell 1
  clear hb1 F0
  go_wp2_with fail
  refine (HCA.out _ ⟨w1.heap.size + 1, 0, none⟩ (Fr.lies HA.out (F1.out.new _)) (fs_new (by simp))).mono ?_
  rintro e w2 ⟨s4, A4, n4, c4, rfl, hb2⟩
  have F2 := Lib.hid (Fr.box ((F1.out.new _).call hb2) 57 #[.string s4, .slice A4 n4 c4])
  clear hb2 F1 q0 q1
  have q0 := (F2.out.get 4 rfl).cell 0
  have q1 := (F2.out.get 4 rfl).cell 1
  have p0 := (F2.out.get 3 rfl).cell 0
  have p1 := (F2.out.get 3 rfl).cell 1
  have d0 := (F2.out.get 2 rfl).cell 0
  have d1 := (F2.out.get 2 rfl).cell 1
  have f0 := (F2.out.get 2 rfl).frozen 0
  have f1 := (F2.out.get 2 rfl).frozen 1
  have zN := (F2.out.get 2 rfl).lt
  go_wp2_with fail
  refine (Concat_any ps ps2 a a2 c c2 (w2.heap.size + 1) hn0 hl hl2 _ (Fr.lies HA.out (F2.out.new _)) (Fr.lies HA2.out (F2.out.new _)) (Bk.new1 w2 _ _ _)).mono ?_
  rintro e w3 ⟨h, rfl, hL, hk, hba, hb3⟩
  have F3 := Lib.hid ((F2.out.new _).call hb3)
  have HL := Lib.hid hL
  have HK := Lib.hid hk
  have HBA : Hid (∀ a, h.A = some a → w.heap.size + 1 + 1 ≠ a.block) := Lib.hid (fun a e => by have h1 := hba a e; have h2 := (F2.out.get 2 rfl).lt; rw [World.size_alloc] at h1; omega)
  have HBB : Hid (∀ a, h.A = some a → w.heap.size ≤ a.block) := Lib.hid (fun a e => by have h1 := hba a e; have h2 := (F2.out.get 2 rfl).lt; rw [World.size_alloc] at h1; omega)
  clear hb3 hL hk hba F2 q0 q1 p0 p1 d0 d1 f0 f1 zN
  have q0 := (F3.out.get 4 rfl).cell 0
  have d0 := (F3.out.get 2 rfl).cell 0
  have d1 := (F3.out.get 2 rfl).cell 1
  have f0 := (F3.out.get 2 rfl).frozen 0
  have f1 := (F3.out.get 2 rfl).frozen 1
  have zN := (F3.out.get 2 rfl).lt
  obtain ⟨M, hM⟩ : ∃ M : Nat, M = ps.length + ps2.length := ⟨_, rfl⟩
  rw [← hM] at h12
  have HM := Lib.hid hM
  try rw [← hM]
  have hg : ¬ (12 : Int) < (M : Int) := by omega
  clear hM h12
  go_wp2_with fail
  refine bodyPost_ret (v := .tuple #[.agg #[.string s, .slice h.A M h.c], .int .i64 0]) (by simp [results, Try.results9, go_sem, d0, d1]) rfl ⟨h, (by rw [← HM.out]), HK.out, ?_, HBB.out, ((F3.out.bl.setCell (p := ⟨w.heap.size + 1 + 1, 0, none⟩) (by show w.heap.size ≤ w.heap.size + 1 + 1; omega) _).setCell (p := ⟨w.heap.size + 1 + 1, 1, none⟩) (by show w.heap.size ≤ w.heap.size + 1 + 1; omega) _)⟩
  exact ((HL.out.far (q := ⟨w.heap.size + 1 + 1, 0, none⟩) HBA.out _).far (q := ⟨w.heap.size + 1 + 1, 1, none⟩) HBA.out _).more (by simp)
end Go.Proofs.Ytaghpemdcmjchaa
