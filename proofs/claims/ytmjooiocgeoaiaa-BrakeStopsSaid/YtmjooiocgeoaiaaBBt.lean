
/-
  The iterator over stops once more, where a round may write one box ahead of the iterator's own boxes.
-/
import Derived.Test.YtmjooiocgeoaiaaBSf
namespace Go.Proofs.Ytmjooiocgeoaiaa
open Go.RowKit
attribute [local go_sem] Oper.semAt_some

/-- No panic comes up. -/
def NoPan (Q : Exit → Act → World → Prop) : Exit → Act → World → Prop
  | .panic _, _, _ => False
  | e, a, w => Q e a w
theorem nopan_to {Q : Exit → Act → World → Prop} : ∀ e a w, NoPan Q e a w → Q e a w
  | .panic _, _, _, h => h.elim
  | .normal, _, _, h => h
  | .ret, _, _, h => h
  | .exit _, _, _, h => h
  | .goto _, _, _, h => h
  | .outgrown, _, _, h => h
theorem nopan_ret {F : Fence} {n : Nat} {P : Program} {fn : Func} {R : Ending → World → Prop} {a : Act} {w : World} {v : Value} (h1 : (results fn a.tmps).run P w = .ok v w) (h2 : a.defers = []) (h3 : R (.returned v) w) : NoPan (bodyPostM F n P fn R) .ret a w := by
  show LeavesInM F n P fn a.tmps R a.defers .returning w
  rw [h2]
  exact ⟨v, h1, h3⟩
theorem nopan_marks {F : Fence} {n : Nat} {P : Program} {fn : Func} {R : Ending → World → Prop} {a : Act} {w : World} (h : LeavesInM F n P fn a.tmps R a.defers .returning w) : NoPan (bodyPostM F n P fn R) .ret a w := h
/-- All below n lies as it lay, but for block a. -/
structure But (a n : Nat) (w w' : World) : Prop where
  os : w'.os = w.os
  tape : w'.tape = w.tape
  output : w'.output = w.output
  size : w.heap.size ≤ w'.heap.size
  block : ∀ k, k < n → k ≠ a → w'.heap[k]? = w.heap[k]?
theorem But.refl (a n : Nat) (w : World) : But a n w w := ⟨rfl, rfl, rfl, Nat.le_refl _, fun _ _ _ => rfl⟩
theorem But.trans {a n : Nat} {x y z : World} (h : But a n x y) (k : But a n y z) : But a n x z :=
  ⟨k.os.trans h.os, k.tape.trans h.tape, k.output.trans h.output, Nat.le_trans h.size k.size, fun i hi hn => (k.block i hi hn).trans (h.block i hi hn)⟩
theorem but_of {n : Nat} {w w' : World} (h : Below n w w') (a : Nat) : But a n w w' := ⟨h.os, h.tape, h.output, h.size, fun k hk _ => h.block k hk⟩
theorem But.low {a n m : Nat} {w w' : World} (h : But a n w w') (hm : m ≤ a) (hn : m ≤ n) : Below m w w' := ⟨h.os, h.tape, h.output, h.size, fun k hk => h.block k (by omega) (by omega)⟩
theorem But.step {a n : Nat} {x w w' : World} (h : But a n x w) (hb : Below w.heap.size w w') (hn : n ≤ w.heap.size) : But a n x w' := h.trans (but_of (hb.mono hn) a)
theorem But.setCell {a n : Nat} {x w : World} (h : But a n x w) {p : Addr} (hp : p.block = a ∨ n ≤ p.block) (u : Value) : But a n x (w.setCell p u) :=
  h.trans ⟨rfl, rfl, rfl, by simp [World.setCell], fun k hk hne => Below.heap_setCell _ _ _ _ (by omega)⟩
theorem But.alloc {a n : Nat} {x w : World} (h : But a n x w) (hn : n ≤ w.heap.size) (o : Obj) : But a n x (w.alloc o) := h.step ((Below.refl _ w).alloc (Nat.le_refl _) o) hn
theorem Bk.but {w w' : World} {g a n : Nat} {t : TypeId} {cs : Array Value} (h : Bk w g t cs) (hb : But a n w w') (hg : g < n) (hne : g ≠ a) : Bk w' g t cs := (hb.block g hg hne).trans h
theorem butK_t {a n : Nat} {A B C : World} (h : But a n A B) (k : But a n B C) : But a n A C := h.trans k
theorem butK_b {a n : Nat} {w : World} (hn : n ≤ w.heap.size) (W : World) (l : Nat) (o o' : Obj) (hl : w.heap.size ≤ l) (h : W.heap[l]? = some o) (h1 : o.isCells = false) (h2 : o.isWalk = false) : But a n W (W.putObj l o') :=
  but_of (belowK_b hn W l o o' hl h h1 h2) a
theorem ownFrom_but {β : Type} {a n B : Nat} {w₀ : World} (hn : n ≤ w₀.heap.size) (hB : n ≤ B) : OwnFrom B (fun (_ : β) W => But a n w₀ W) :=
  fun _ W W' row hs hg hr => hs.trans ⟨hg.os, hg.tape, hg.output, hg.size, fun k hk _ => hg.block k (by have := hs.size; omega) (fun e => by have := (hr k e.symm).1; omega)⟩
theorem own_cells5 {w : World} {base n size : Nat} {e : TypeId} {v : Value} {xs : List Value} (h : w.ownsRow base e size v n xs) : ∀ (j : Nat) (o : Obj), v.ownBlock = some j → w.heap[j]? = some o → o.isCells = true := by
  intro j o hj ho
  rcases h.2 with ⟨rfl, _⟩ | ⟨g, cap, cur, rfl, _, hg, _⟩
  · simp [Value.ownBlock] at hj
  · simp [Value.ownBlock] at hj
    subst hj
    rw [hg] at ho
    cases ho
    rfl
theorem own_kept5 {W W' : World} {base n size : Nat} {e : TypeId} {v : Value} {xs : List Value} {row : Option Nat} (ho : W.ownsRow base e size v n xs) (hg : W.grownBy W' row) (hr' : ∀ r, row = some r → ∃ o : Obj, W.heap[r]? = some o ∧ o.isCells = false) : W'.ownsRow base e size v n xs := ho.kept hg (by
    cases hv : v.ownBlock with
    | none => exact .inl rfl
    | some q =>
      refine .inr fun e' => ?_
      obtain ⟨o, ho', hc⟩ := hr' q e'.symm
      rw [own_cells5 ho q o hv ho'] at hc
      cases hc)
theorem But.grown {a n : Nat} {x w w' : World} {row : Option Nat} (h : But a n x w) (hn : n ≤ w.heap.size) (hg : w.grownBy w' row) (hr : ∀ q, row = some q → n ≤ q) : But a n x w' :=
  h.trans ⟨hg.os, hg.tape, hg.output, hg.size, fun k hk _ => hg.block k (by omega) (fun e => by have := hr k e.symm; omega)⟩

theorem Bk.grown5 {W W' : World} {g n0 : Nat} {t : TypeId} {cs : Array Value} {row : Option Nat} (h : Bk W g t cs) (hg : W.grownBy W' row) (hr : ∀ q, row = some q → n0 ≤ q) (hlt : g < n0) : Bk W' g t cs :=
  (hg.block g h.lt (fun e => by have := hr g e.symm; omega)).trans h

set_option maxRecDepth 100000 in
set_option maxHeartbeats 4000000 in
theorem stops1_but (n : Nat) (hn : 3 ≤ n) (s : ByteArray) (ps : List Bp) (A : Option Addr) (c : Nat) (hl : ps.length ≤ 12) (p : Nat) (hp : p ≤ ps.length) (l Bc n₀ b m : Nat) (hmb : m ≤ b) (hbB : b < Bc) (J Jx : List (Sp ps p) → World → Prop)
    (hJ : ∀ s W W', J s W → Below W.heap.size W W' → J s W')
    (hY : ∀ pre (x : Sp ps p) W, J pre W → pre.length < ps.length → YieldAt Fence.wide (n - 1) Try.prog l #[.int .i64 (x.1 : Int)] W fun e W' =>
      (e = .returned (.bool true) ∧ J (pre ++ [x]) W' ∧ But b n₀ W W') ∨ (e = .returned (.bool false) ∧ Jx (pre ++ [x]) W'))
    (W : World) (hB : Bc + 2 ≤ n₀) (hB2 : n₀ ≤ W.heap.size) (h1 : Bk W Bc 75 #[.string s, .slice A ps.length c]) (h2 : Bk W (Bc + 1) 3 #[.int .i64 p]) (hL : Lies W m A (ps.flatMap pc)) (h0 : J [] W) :
    CallsIn Fence.wide n Try.prog 76 #[.func (.yield l) #[] #[], .pointer (some ⟨Bc + 1, 0, none⟩), .pointer (some ⟨Bc, 0, none⟩)] W fun e W' => (∃ v, e = .returned v) ∧
      ((∃ ys, ys = stL ps p ps.length ∧ J ys W') ∨ (∃ pre, (∃ k, k ≤ ps.length ∧ pre = stL ps p k) ∧ Jx pre W')) := by
  have HL := Lib.hid hL
  have HY := Lib.hid hY
  have HJ := Lib.hid hJ
  have H1 := Lib.hid h1
  obtain ⟨c0, _⟩ := h2.one
  have hd : 1 ≤ n - 1 := by omega
  have hn1 : 1 ≤ n := by omega
  have J0 := Lib.hid h0
  clear hL hY hJ h1 h0 h2
  refine callsIn_of_wp Try.func76 rfl trivial ?_ rfl
  simp only [Try.ntmps76, List.size_toArray, List.length_cons, List.length_nil, Nat.reduceAdd, Nat.reduceSub, Array.replicate_succ, Array.replicate_zero, List.push_toArray, List.append_toArray, List.nil_append, List.cons_append]
  gi_wp2
  clear c0
  gi_loopw [4] (fun i wr => ∃ k : Nat, p ≤ k ∧ k ≤ ps.length ∧ i = .int .i64 k ∧ J (stL ps p k) wr ∧ But b n₀ W wr) (fun i _ => ps.length - (intOf i).toNat)
  case atStart => exact ⟨p, Nat.le_refl _, hp, rfl, by rw [stL_low (Nat.le_refl _)]; exact J0.out, But.refl _ _ _⟩
  case round =>
    obtain ⟨k, hpk, hk, rfl, hJs, hnx⟩ := hrel
    have HX := Lib.hid hnx
    have HS := Lib.hid hJs
    have hsz := hnx.size
    obtain ⟨t0, t1, _, _⟩ := (H1.out.but hnx (by omega) (by omega)).two
    have HLW := Lib.hid (HL.out.below (hnx.low hmb (by omega)))
    clear hnx hJs
    by_cases hlt : k < ps.length
    · obtain ⟨a, rfl, hab, c0, c1, c2, c3⟩ := HLW.out.piece (gp_at hlt)
      have hwk := IntWalk.i64_in ((k : Int) + 1) (by omega)
      cases hlv : (gp ps k).lv with
      | false =>
        have HST := Lib.hid (stL_no (p := p) hlv)
        rw [hlv] at c3
        clear hlv
        gi_wp2
        refine ⟨fun _ h => (by cases h), ?_⟩
        gi_wp2
        go_roundw
        case rel => exact ⟨k + 1, by omega, by omega, by go_num, by rw [HST.out]; exact HS.out, HX.out⟩
        case measure => simp [intOf]; omega
      | true =>
        have hx : p ≤ k ∧ k < ps.length ∧ (gp ps k).lv = true := ⟨hpk, hlt, hlv⟩
        have HST := Lib.hid (stL_yes hx)
        have hlen : Hid ((stL ps p k).length < ps.length) := Lib.hid (by have := stL_len ps p k; omega)
        obtain ⟨fn, tmps, assign, body, hy, hR⟩ := HY.out _ ⟨k, hx⟩ wr HS.out hlen.out
        dsimp only at hy
        rw [hlv] at c3
        have HR := Lib.hid hR
        clear hlv hR
        gi_wp2
        refine HR.out.mono ?_
        rintro e W3 (⟨rfl, hJ3, hk3⟩ | ⟨rfl, hJx3⟩)
        · have HJ3 := Lib.hid hJ3
          have HK3 := Lib.hid hk3
          clear hJ3 hk3
          gi_wp2
          go_roundw
          case rel => exact ⟨k + 1, by omega, by omega, by go_num, by rw [HST.out]; exact HJ3.out, HX.out.trans HK3.out⟩
          case measure => simp [intOf]; omega
        · have HJ3 := Lib.hid hJx3
          clear hJx3
          gi_wp2
          refine bodyPost_ret (results_none rfl _ _ _) rfl ?_
          exact ⟨⟨_, rfl⟩, .inr ⟨_, ⟨k + 1, by omega, rfl⟩, by rw [HST.out]; exact HJ3.out⟩⟩
    · obtain rfl : k = ps.length := by omega
      gi_wp2
      go_end0
      exact ⟨⟨_, rfl⟩, .inl ⟨_, rfl, HS.out⟩⟩
end Go.Proofs.Ytmjooiocgeoaiaa
