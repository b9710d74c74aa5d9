
/-
  The walks of the reference's Places and LimitsAt, of the copy of a track, and of the program's Places and LimitsAt.
-/
import Derived.Test.YtaghpemdcmjchaaBLim
namespace Go.Proofs.Ytaghpemdcmjchaa
open Go.RowKit

theorem own_val {w : World} {base n size : Nat} {e : TypeId} {v : Value} {xs : List Value} {x y : Int} (h : w.ownsRow base e size v n (xs ++ [.int .i64 x])) (hxy : x = y) : w.ownsRow base e size v n (xs ++ [.int .i64 y]) := hxy ▸ h
theorem own_snoc {w : World} {base : Nat} {e : TypeId} {v : Value} {k : Nat} {f : Nat → Int} {x : Int} (h : w.ownsRow base e 1 v (k + 1) (ic (listF k f) ++ [.int .i64 x])) (hx : x = f k) : w.ownsRow base e 1 v (k + 1) (ic (listF (k + 1) f)) := by
  rw [listF_succ, ic, List.map_append, List.map_singleton, ← hx]
  exact h
theorem row_of_own {w0 w : World} {v : Value} {n : Nat} {f : Nat → Int} {e : TypeId} {bs : List (Nat × TypeId × Array Value)} {b : Nat} (h : w.ownsRow b e 1 v n (ic (listF n f))) (hb : w0.heap.size ≤ b) (hf : Fr w0 w bs) : RowOf w0 (listF n f) (.returned v) w := by
  obtain ⟨g, rfl, hL, _, hg⟩ := own_slice h
  exact ⟨g, by rw [listF_len], hL, fun a ha => Nat.le_trans hb (hg a ha), hf.bl⟩
theorem own_first {w : World} {b g : Nat} {e : TypeId} {f : Nat → Int} {x : Int} (hx : x = f 0) (h : w.ownsRow b e 1 (.slice (some ⟨g, 0, none⟩) 1 1) 1 [.int .i64 x]) : w.ownsRow b e 1 (.slice (some ⟨g, 0, none⟩) 1 1) (0 + 1) (ic (listF (0 + 1) f)) := by
  rw [show ic (listF (0 + 1) f) = [.int .i64 (f 0)] from rfl, ← hx]
  exact h
theorem pc_one (ps : List Bp) : ∀ u ∈ ps.flatMap pc, u.oneCell' = true := by
  intro u hu
  obtain ⟨p, _, h⟩ := List.mem_flatMap.1 hu
  simp only [pc, List.mem_cons, List.not_mem_nil, or_false] at h
  rcases h with rfl | rfl | rfl | rfl <;> rfl
theorem info_piece : (Try.prog.info? 54).map (fun i => (i.zero, i.size, i.bytes)) = some (some (.agg #[.int .i64 0, .int .i64 0, .int .i64 0, .bool false]), 4, 32) := by kernel_rfl

theorem Lies.far {w : World} {B : Nat} {A : Option Addr} {vs : List Value} {q : Addr} (h : Lies w B A vs) (hq : ∀ a, A = some a → q.block ≠ a.block) (u : Value) : Lies (w.setCell q u) B A vs := fun j v hv => by
  obtain ⟨a, e, hb, hc⟩ := h j v hv
  refine ⟨a, e, hb, ?_⟩
  have hh : (w.setCell q u).heap[(a.add j).block]? = w.heap[(a.add j).block]? := Below.heap_setCell w q u (a.add j).block (by rw [add_blk]; exact fun e2 => hq a e e2.symm)
  rw [← hc]
  unfold World.cell?
  rw [hh]
theorem own_none_alloc {W wA : World} {base size : Nat} {e : TypeId} (h : W.alloc (.cells #[] e) = wA) (hb : base ≤ W.heap.size) : wA.ownsRow base e size (.slice (some ⟨W.heap.size, 0, none⟩) 0 0) 0 [] := by subst h; exact World.ownsRow_made W #[] 0 hb (by unfold maxLen; omega) (by simp)
theorem own_none_drew {W wA : World} {base size : Nat} {e : TypeId} (h : (W.alloc (.cells #[] e)).drew = wA) (hb : base ≤ W.heap.size) : wA.ownsRow base e size (.slice (some ⟨W.heap.size, 0, none⟩) 0 0) 0 [] := by subst h; exact own_below (World.ownsRow_made W #[] 0 hb (by unfold maxLen; omega) (by simp)) (Below.refl _ _).drew
theorem own_not_far {w w0 : World} {n size : Nat} {g : Hd} {e : TypeId} {xs : List Value} (h : w.ownsRow (w0.heap.size + 2) e size (.slice g.A n g.c) n xs) (i : Nat) : ∀ a, g.A = some a → (⟨w0.heap.size + 1, i, none⟩ : Addr).block ≠ a.block := by
  obtain ⟨k, hk, _, _, h4⟩ := own_slice h
  obtain ⟨A, c⟩ := g
  obtain ⟨A', c'⟩ := k
  simp only [Value.slice.injEq] at hk
  obtain ⟨rfl, _, rfl⟩ := hk
  intro a ha
  have := h4 a ha
  show w0.heap.size + 1 ≠ a.block
  omega
theorem wp_append_none {P : Program} {w : World} {o : Oper} {a : Act} {K : Act → World → Prop} {Q : Exit → Act → World → Prop} (s x : Operand) (t : TypeId)
    (ho : o.op = .call { callee := .builtin .append, args := #[s, x], argTypes := #[t, t] })
    (base : Nat) (e : TypeId) (i : TypeInfo) (size : Nat) (ht : P.underlying t = some (.slice e)) (hi : P.info? e = some i)
    (v : Value) (n : Nat) (xs : List Value) (hs : a.eval s = v) (hown : w.ownsRow base e size v n xs) (hx : a.eval x = .slice none 0 0)
    (h : K (a.put o.dst v) w) : o.wp P a w K Q := by
  have hrun := run_append_owned_none (P := P) (w := w) base t o.type e i size ht hi v n xs hown
  unfold Oper.wp
  simp [execOp, ho, resolve, invoke, builtin, hs, hx, hrun, Result.andThen]
  exact h
/-- A copy of a track. -/
def CopiedB (w : World) (s : ByteArray) (ps : List Bp) (e : Ending) (w' : World) : Prop := ∃ g : Hd, e = .returned (.agg #[.string s, .slice g.A ps.length g.c]) ∧ Lies w' w'.heap.size g.A (ps.flatMap pc) ∧ HdOk g ∧ Below w.heap.size w w'

set_option maxHeartbeats 8000000 in
set_option maxRecDepth 100000 in
theorem Copy_any (s : ByteArray) (ps : List Bp) (h : Hd) (hl : ps.length ≤ 1000) (hk : HdOk h) (w : World) (hA : Lies w w.heap.size h.A (ps.flatMap pc)) :
    Calls Try.prog 10 #[.agg #[.string s, .slice h.A ps.length h.c]] w (CopiedB w s ps) := by
  obtain ⟨A, c⟩ := h
  have HA := Lib.hid hA
  obtain ⟨i0, hi0, hiz0, his0, hib0⟩ := info_parts info_piece
  have k1 : Hid ((ps.flatMap pc).length = ps.length * 4) := Lib.hid (flat_len pc 4 (fun _ => rfl) ps)
  clear hA
  cases A with
  | none =>
    obtain rfl : c = 0 := hk rfl
    have hl0 : ps = [] := by
      cases ps with
      | nil => rfl
      | cons x l => obtain ⟨a, h, _⟩ := HA.out.piece (i := 0) (p := x) rfl; cases h
    subst hl0
    have F0 := Lib.hid (Fr.b2 w 24 #[.string s, .slice none 0 0] 24 #[.string ⟨#[]⟩, .slice none 0 0])
    go_enter Try.func10, Try.ntmps10
    go_upto_region 1 with fail
    refine wp_abs ?_
    intro w5 h5
    have HALL : Hid (∀ W, Fr w W [(w.heap.size + 1, 24, #[.string ⟨#[]⟩, .slice none 0 0]), (w.heap.size, 24, #[.string s, .slice none 0 0])] → Fr w W [(w.heap.size + 1, 24, #[.string ⟨#[]⟩, .slice none 0 0]), (w.heap.size, 24, #[.string s, .slice none 0 0])] ∧ W.cell? ⟨w.heap.size, 0, none⟩ = some (.string s) ∧ W.cell? ⟨w.heap.size, 1, none⟩ = some (.slice none 0 0)) := Lib.hid (fun W hW => ⟨hW, hW.at1.cell 0, hW.at1.cell 1⟩)
    have F10 : Fr w w5 [(w.heap.size + 1, 24, #[.string ⟨#[]⟩, .slice none 0 0]), (w.heap.size, 24, #[.string s, .slice none 0 0])] := by subst h5; exact F0.out
    clear F0 h5
    refine Tw_start 7 (fun W => Fr w W [(w.heap.size + 1, 24, #[.string ⟨#[]⟩, .slice none 0 0]), (w.heap.size, 24, #[.string s, .slice none 0 0])] ∧ W.cell? ⟨w.heap.size, 0, none⟩ = some (.string s) ∧ W.cell? ⟨w.heap.size, 1, none⟩ = some (.slice none 0 0)) (by kernel_rfl) (by kernel_rfl) rfl ?_ ?_
    · (try dsimp only)
      ((go_split_ands; refine HALL.out _ ?_; (first | assumption | (repeat (first | assumption | refine Fr.new ?_ _ | refine Fr.drew ?_ | (refine Fr.set ?_ (by first | exact Nat.le_refl _ | omega | (simp; done) | (simp; omega)) (by first | (simp; done) | (simp; omega)) _))); done)))
    refine Tw_takeL (i := 0) (v := ?tv18) rfl (by kernel_rfl) (by decide) (by kernel_rfl) (by kernel_rfl) (fun _ _ _ h => h) (by rfl) ?ty18 ?tn18
    case ty18 => (intro w hSw; (try dsimp only at hSw); go_simp <;> with_reducible rfl)
    (try simp only [Act.put, List.setIfInBounds_toArray, List.set_cons_zero, List.set_cons_succ])
    refine Tw_takeL (i := 3) (v := ?tv19) rfl (by kernel_rfl) (by decide) (by kernel_rfl) (by kernel_rfl) (fun _ _ _ h => h) (by rfl) ?ty19 ?tn19
    case ty19 => (intro w hSw; (try dsimp only at hSw); go_simp <;> with_reducible rfl)
    (try simp only [Act.put, List.setIfInBounds_toArray, List.set_cons_zero, List.set_cons_succ])
    refine Tw_takeL (i := 1) (v := ?tv20) rfl (by kernel_rfl) (by decide) (by kernel_rfl) (by kernel_rfl) (fun _ _ _ h => h) (by rfl) ?ty20 ?tn20
    case ty20 => (intro w hSw; (try dsimp only at hSw); go_simp <;> with_reducible rfl)
    (try simp only [Act.put, List.setIfInBounds_toArray, List.set_cons_zero, List.set_cons_succ])
    refine Tw_takeL (i := 4) (v := ?tv21) rfl (by kernel_rfl) (by decide) (by kernel_rfl) (by kernel_rfl) (fun _ _ _ h => h) (by rfl) ?ty21 ?tn21
    case ty21 => (intro w hSw; (try dsimp only at hSw); go_simp <;> with_reducible rfl)
    (try simp only [Act.put, List.setIfInBounds_toArray, List.set_cons_zero, List.set_cons_succ])
    refine Tw_all (rs := [2]) (by kernel_rfl) (by simp) (by decide) (fun hHeld => ?_)
    refine AllT.consL rfl (fun K hK => ?_) (AllT.nil)
    · go_simp
      refine hK.out _ _ ?_ ?_
      · (try dsimp only)
        ((go_split_ands; refine HALL.out _ ?_; (first | assumption | (repeat (first | assumption | refine Fr.new ?_ _ | refine Fr.drew ?_ | (refine Fr.set ?_ (by first | exact Nat.le_refl _ | omega | (simp; done) | (simp; omega)) (by first | (simp; done) | (simp; omega)) _))); done)))
      clear hK K
      (try simp only [Act.put, List.setIfInBounds_toArray, List.set_cons_zero, List.set_cons_succ])
      refine Tw_abs ?_
      intro wA4 hA4
      (first | (have O1 := Lib.hid (own_none_alloc (base := w.heap.size + 2) (size := 4) hA4 hHeld.1.top.lt)) | (have O1 := Lib.hid (own_none_drew (base := w.heap.size + 2) (size := 4) hA4 hHeld.1.top.lt)))
      clear hA4
      refine Tw_all (rs := [5]) (by kernel_rfl) (by simp) (by decide) (fun hHeld => ?_)
      refine AllT.consL rfl (fun K hK => ?_) (AllT.nil)
      · rw [if_pos (by rfl)]
        refine wp_append_none _ _ 22 rfl (w.heap.size + 2) 54 i0 4 Try.underlying22 hi0 _ 0 [] rfl O1.out rfl ?_
        refine hK.out _ _ ?_ ?_
        · (try dsimp only)
          ((go_split_ands; refine HALL.out _ ?_; (first | assumption | (repeat (first | assumption | refine Fr.new ?_ _ | refine Fr.drew ?_ | (refine Fr.set ?_ (by first | exact Nat.le_refl _ | omega | (simp; done) | (simp; omega)) (by first | (simp; done) | (simp; omega)) _))); done)))
        clear hK K
        (try simp only [Act.put, List.setIfInBounds_toArray, List.set_cons_zero, List.set_cons_succ])
        refine Tw_takeL (i := 6) (v := ?tv22) rfl (by kernel_rfl) (by decide) (by kernel_rfl) (by kernel_rfl) (fun _ _ _ h => h) (by rfl) ?ty22 ?tn22
        case ty22 => (intro w hSw; (try dsimp only at hSw); go_simp <;> with_reducible rfl)
        (try simp only [Act.put, List.setIfInBounds_toArray, List.set_cons_zero, List.set_cons_succ])
        refine Tw_end (by kernel_rfl) (fun hh => ?_)
        obtain ⟨F11, _⟩ := hh
        clear HALL
        have HF := Lib.hid F11
        have d0 := F11.top.cell 0
        have d1 := F11.top.cell 1
        have f0 := F11.top.frozen 0
        have f1 := F11.top.frozen 1
        have zN := F11.top.lt
        clear F11
        go_wp2_with fail
        exact bodyPost_ret (v := .agg #[.string s, .slice (some ⟨w5.heap.size, 0, none⟩) 0 0]) (by simp [results, Try.results10, go_sem, d0, d1]) rfl ⟨⟨some ⟨w5.heap.size, 0, none⟩, 0⟩, rfl, Lies.nil, (fun h => by cases h), (by repeat (first | exact HF.out.bl | refine Below.drew ?_ | refine Below.setCell ?_ (by first | (simp; done) | (simp; omega) | omega) _ | refine Below.alloc ?_ (by first | (simp; done) | (simp; omega) | omega) _ | exact Below.refl _ _))⟩
  | some a =>
    have F0 := Lib.hid (Fr.b2 w 24 #[.string s, .slice (some a) ps.length c] 24 #[.string ⟨#[]⟩, .slice none 0 0])
    go_enter Try.func10, Try.ntmps10
    go_upto_region 1 with fail
    refine wp_abs ?_
    intro w5 h5
    have HALL : Hid (∀ W, Fr w W [(w.heap.size + 1, 24, #[.string ⟨#[]⟩, .slice none 0 0]), (w.heap.size, 24, #[.string s, .slice (some a) ps.length c])] → Fr w W [(w.heap.size + 1, 24, #[.string ⟨#[]⟩, .slice none 0 0]), (w.heap.size, 24, #[.string s, .slice (some a) ps.length c])] ∧ W.cell? ⟨w.heap.size, 0, none⟩ = some (.string s) ∧ W.cell? ⟨w.heap.size, 1, none⟩ = some (.slice (some a) ps.length c)) := Lib.hid (fun W hW => ⟨hW, hW.at1.cell 0, hW.at1.cell 1⟩)
    have F10 : Fr w w5 [(w.heap.size + 1, 24, #[.string ⟨#[]⟩, .slice none 0 0]), (w.heap.size, 24, #[.string s, .slice (some a) ps.length c])] := by subst h5; exact F0.out
    clear F0 h5
    refine Tw_start 7 (fun W => Fr w W [(w.heap.size + 1, 24, #[.string ⟨#[]⟩, .slice none 0 0]), (w.heap.size, 24, #[.string s, .slice (some a) ps.length c])] ∧ W.cell? ⟨w.heap.size, 0, none⟩ = some (.string s) ∧ W.cell? ⟨w.heap.size, 1, none⟩ = some (.slice (some a) ps.length c)) (by kernel_rfl) (by kernel_rfl) rfl ?_ ?_
    · (try dsimp only)
      ((go_split_ands; refine HALL.out _ ?_; (first | assumption | (repeat (first | assumption | refine Fr.new ?_ _ | refine Fr.drew ?_ | (refine Fr.set ?_ (by first | exact Nat.le_refl _ | omega | (simp; done) | (simp; omega)) (by first | (simp; done) | (simp; omega)) _))); done)))
    refine Tw_takeL (i := 0) (v := ?tv13) rfl (by kernel_rfl) (by decide) (by kernel_rfl) (by kernel_rfl) (fun _ _ _ h => h) (by rfl) ?ty13 ?tn13
    case ty13 => (intro w hSw; (try dsimp only at hSw); go_simp <;> with_reducible rfl)
    (try simp only [Act.put, List.setIfInBounds_toArray, List.set_cons_zero, List.set_cons_succ])
    refine Tw_takeL (i := 3) (v := ?tv14) rfl (by kernel_rfl) (by decide) (by kernel_rfl) (by kernel_rfl) (fun _ _ _ h => h) (by rfl) ?ty14 ?tn14
    case ty14 => (intro w hSw; (try dsimp only at hSw); go_simp <;> with_reducible rfl)
    (try simp only [Act.put, List.setIfInBounds_toArray, List.set_cons_zero, List.set_cons_succ])
    refine Tw_takeL (i := 1) (v := ?tv15) rfl (by kernel_rfl) (by decide) (by kernel_rfl) (by kernel_rfl) (fun _ _ _ h => h) (by rfl) ?ty15 ?tn15
    case ty15 => (intro w hSw; (try dsimp only at hSw); go_simp <;> with_reducible rfl)
    (try simp only [Act.put, List.setIfInBounds_toArray, List.set_cons_zero, List.set_cons_succ])
    refine Tw_takeL (i := 4) (v := ?tv16) rfl (by kernel_rfl) (by decide) (by kernel_rfl) (by kernel_rfl) (fun _ _ _ h => h) (by rfl) ?ty16 ?tn16
    case ty16 => (intro w hSw; (try dsimp only at hSw); go_simp <;> with_reducible rfl)
    (try simp only [Act.put, List.setIfInBounds_toArray, List.set_cons_zero, List.set_cons_succ])
    refine Tw_all (rs := [2]) (by kernel_rfl) (by simp) (by decide) (fun hHeld => ?_)
    refine AllT.consL rfl (fun K hK => ?_) (AllT.nil)
    · go_simp
      refine hK.out _ _ ?_ ?_
      · (try dsimp only)
        ((go_split_ands; refine HALL.out _ ?_; (first | assumption | (repeat (first | assumption | refine Fr.new ?_ _ | refine Fr.drew ?_ | (refine Fr.set ?_ (by first | exact Nat.le_refl _ | omega | (simp; done) | (simp; omega)) (by first | (simp; done) | (simp; omega)) _))); done)))
      clear hK K
      (try simp only [Act.put, List.setIfInBounds_toArray, List.set_cons_zero, List.set_cons_succ])
      refine Tw_abs ?_
      intro wA2 hA2
      (first | (have O1 := Lib.hid (own_none_alloc (base := w.heap.size + 2) (size := 4) hA2 hHeld.1.top.lt)) | (have O1 := Lib.hid (own_none_drew (base := w.heap.size + 2) (size := 4) hA2 hHeld.1.top.lt)))
      clear hA2
      refine Tw_all (rs := [5]) (by kernel_rfl) (by simp) (by decide) (fun hHeld => ?_)
      refine AllT.consL rfl (fun K hK => ?_) (AllT.nil)
      · rw [if_pos (by rfl)]
        refine wp_append_own _ _ _ 22 rfl (w.heap.size + 2) 54 i0 (.agg #[.int .i64 0, .int .i64 0, .int .i64 0, .bool false]) 4 32 Try.underlying22 hi0 hiz0 his0 hib0 rfl (by decide) _ 0 [] rfl O1.out a ps.length c (ps.flatMap pc) rfl k1.out (Lies.adds (HA.out.below hHeld.1.bl)) (pc_one ps) (by unfold maxLen; omega) (by omega) (by have := hHeld.1.top.lt; omega) ?_
        intro v3 wC3 ho3 hg3 _
        obtain ⟨gv, rfl, _, _, _⟩ := own_slice ho3
        have F53 := Fr.grown2 hHeld.1 hg3 (fun q e => (O1.out.lt q e).1) (by omega) (by first | (simp; done) | (simp; omega))
        have O1 := Lib.hid ho3
        clear ho3 hg3
        refine hK.out _ _ ?_ ?_
        · (try dsimp only)
          ((go_split_ands; refine HALL.out _ ?_; (first | assumption | (repeat (first | assumption | refine Fr.new ?_ _ | refine Fr.drew ?_ | (refine Fr.set ?_ (by first | exact Nat.le_refl _ | omega | (simp; done) | (simp; omega)) (by first | (simp; done) | (simp; omega)) _))); done)))
        clear hK K
        (try simp only [Act.put, List.setIfInBounds_toArray, List.set_cons_zero, List.set_cons_succ])
        refine Tw_takeL (i := 6) (v := ?tv17) rfl (by kernel_rfl) (by decide) (by kernel_rfl) (by kernel_rfl) (fun _ _ _ h => h) (by rfl) ?ty17 ?tn17
        case ty17 => (intro w hSw; (try dsimp only at hSw); go_simp <;> with_reducible rfl)
        (try simp only [Act.put, List.setIfInBounds_toArray, List.set_cons_zero, List.set_cons_succ])
        refine Tw_end (by kernel_rfl) (fun hh => ?_)
        obtain ⟨F11, _⟩ := hh
        clear HALL
        have HF := Lib.hid F11
        have d0 := F11.top.cell 0
        have d1 := F11.top.cell 1
        have f0 := F11.top.frozen 0
        have f1 := F11.top.frozen 1
        have zN := F11.top.lt
        obtain ⟨hL1, hk1⟩ := own_lies (g := gv) O1.out
        rw [List.nil_append] at hL1
        have HL1 := Lib.hid hL1
        have HG2 : Hid (∀ (i : Nat) a, gv.A = some a → (⟨w.heap.size + 1, i, none⟩ : Addr).block ≠ a.block) := Lib.hid (fun i => own_not_far (w0 := w) O1.out i)
        clear F11 hL1
        go_wp2_with fail
        refine bodyPost_ret (v := .agg #[.string s, .slice gv.A (0 + ps.length) gv.c]) (by simp [results, Try.results10, go_sem, d0, d1]) rfl ⟨gv, by rw [Nat.zero_add], ?_, hk1, (by repeat (first | exact HF.out.bl | refine Below.drew ?_ | refine Below.setCell ?_ (by first | (simp; done) | (simp; omega) | omega) _ | refine Below.alloc ?_ (by first | (simp; done) | (simp; omega) | omega) _ | exact Below.refl _ _))⟩
        exact ((HL1.out.far (HG2.out 0) _).far (HG2.out 1) _).more (by simp)
end Go.Proofs.Ytaghpemdcmjchaa
