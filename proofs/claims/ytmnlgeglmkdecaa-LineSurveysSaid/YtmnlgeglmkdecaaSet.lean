/-
  A set as a map of bools that the call itself has made: how it lies in memory; a look-up and a store in it.
-/
import Derived.Test.YtmnlgeglmkdecaaMem
import Derived.Test.YtmnlgeglmkdecaaRows
import Derived.Maps.OwnOps
import Derived.Maps.Views
namespace Go.Proofs.Ytmnlgeglmkdecaa
open Go.RowKit

/-- Block b is a map with at most N keys; just the keys l with S l hold true. -/
def SetAt (w : World) (k e : TypeId) (b N : Nat) (S : Lit → Bool) : Prop :=
  ∃ (n : Nat) (D : DataW Unit), n ≤ N ∧ w.ownsMap Try.prog k (plainElem Try.prog e) b n D ∧ Maps.IsMap D ∧ ∀ l, D.atKey l (.lit (.bool false)) = .lit (.bool (S l))

section
variable {w w' : World} {k e : TypeId} {b N : Nat} {S S' : Lit → Bool}
theorem SetAt.lt (h : SetAt w k e b N S) : b < w.heap.size := by obtain ⟨n, D, _, ho, _⟩ := h; exact ho.lt
theorem SetAt.same (h : SetAt w k e b N S) (hb : w'.heap[b]? = w.heap[b]?) : SetAt w' k e b N S := by
  obtain ⟨n, D, hn, ⟨es, clock, h1, h2⟩, hm, ha⟩ := h
  exact ⟨n, D, hn, ⟨es, clock, hb.trans h1, h2⟩, hm, ha⟩
theorem SetAt.call (h : SetAt w k e b N S) (hb : Below w.heap.size w w') : SetAt w' k e b N S := h.same (hb.block b h.lt)
theorem SetAt.alloc (h : SetAt w k e b N S) (o : Obj) : SetAt (w.alloc o) k e b N S := h.same (Below.heap_alloc w o b h.lt)
theorem SetAt.setCell (h : SetAt w k e b N S) {p : Addr} (hp : b ≠ p.block) (u : Value) : SetAt (w.setCell p u) k e b N S := h.same (Below.heap_setCell w p u b hp)
theorem SetAt.grown {row : Option Nat} (h : SetAt w k e b N S) (hg : w.grownBy w' row) (hne : some b ≠ row) : SetAt w' k e b N S := h.same (hg.block b h.lt hne)
theorem SetAt.congr (h : SetAt w k e b N S) (hS : ∀ l, S' l = S l) : SetAt w k e b N S' := by
  have : S' = S := funext hS
  rw [this]; exact h
theorem SetAt.more (h : SetAt w k e b N S) {M : Nat} (hM : N ≤ M) : SetAt w k e b M S := by
  obtain ⟨n, D, hn, r⟩ := h
  exact ⟨n, D, by omega, r⟩
theorem SetAt.made (w : World) (k e : TypeId) : SetAt (w.alloc (.map #[] 0)) k e w.heap.size 0 (fun _ => false) :=
  ⟨0, .map [], Nat.le_refl _, World.ownsMap_made w Try.prog k _, Maps.isMap_empty, fun _ => rfl⟩

theorem plainElem_bool_inv {P : Program} {e : TypeId} (he : P.underlying e = some .bool) {v : Value} {z : DataW Unit × List MemPlace} (h : plainElem P e v = some z) : ∃ x, v = .bool x ∧ z = (.lit (.bool x), []) := by
  unfold plainElem at h
  rw [he] at h
  cases v <;> simp at h
  exact ⟨_, rfl, h.symm⟩

theorem wpList_lookup_set (w : World) {ops : Array Oper} {rest : List Oper} {o : Oper} {a : Act} {Q : Exit → Act → World → Prop}
    (hg : o.guard = none) (m x : Operand) (t : TypeId) (hop : o.op = Op.lookup t m x false)
    (k e : TypeId) (K : Maps.Keyed Try.prog k) (ht : Try.prog.underlying t = some (.map k e)) (he : Try.prog.underlying e = some .bool) (hz : ∀ w, (zeroValue e).run Try.prog w = .ok (.bool false) w) (b N : Nat) (S : Lit → Bool)
    (hm : a.eval m = .map (some b)) (hown : SetAt w k e b N S) (key : Value) (kl : Lit) (hx : a.eval x = key) (hkey : keyOf Try.prog k key = some kl)
    (hK : wpList Try.prog ops Q rest (a.put o.dst (.bool (S kl))) w) :
    wpList Try.prog ops Q (o :: rest) a w := by
  refine wpList_plain hg fun K' hK' => ?_
  obtain ⟨n, D, _, ho, _, ha⟩ := hown
  obtain ⟨v, ps, hrun, hv⟩ := ho.lookup K ht (hz w) (plainElem_bool he false) hkey
  obtain ⟨c, rfl, hc⟩ := plainElem_bool_inv he hv
  rw [ha kl] at hc
  simp only [Prod.mk.injEq, DataW.lit.injEq, Lit.bool.injEq] at hc
  obtain ⟨rfl, _⟩ := hc
  unfold Oper.wp
  simp [execOp, hop, hm, hx, hrun, Result.andThen]
  exact hK' _ _ hK

theorem wpList_update_set (w : World) {ops : Array Oper} {rest : List Oper} {o : Oper} {a : Act} {Q : Exit → Act → World → Prop}
    (hg : o.guard = none) (m x v : Operand) (t : TypeId) (hop : o.op = Op.mapUpdate t m x v)
    (k e : TypeId) (K : Maps.Keyed Try.prog k) (ht : Try.prog.underlying t = some (.map k e)) (he : Try.prog.underlying e = some .bool) (b N : Nat) (S : Lit → Bool)
    (hm : a.eval m = .map (some b)) (hown : SetAt w k e b N S) (hN : N < maxLen) (key : Value) (kl : Lit) (hx : a.eval x = key) (hv : a.eval v = .bool true) (hkey : keyOf Try.prog k key = some kl)
    (hK : ∀ w', SetAt w' k e b (N + 1) (fun l => l.sameKey kl || S l) → w.grownBy w' (some b) → wpList Try.prog ops Q rest (a.put o.dst undef) w') :
    wpList Try.prog ops Q (o :: rest) a w := by
  obtain ⟨n, D, hn, ho, hi, ha⟩ := hown
  refine wpList_mapUpdate_own w hg m x v t hop k e K ht _ b n D hm ho (by omega) key (.bool true) kl hx hv hkey (.lit (.bool true)) [] (plainElem_bool he true) fun w' ho' hgr => hK w' ?_ hgr
  refine ⟨n + 1, _, by omega, ho', hi.put _ _, fun l => ?_⟩
  have hkl := K.key hkey
  cases hs : l.sameKey kl with
  | true =>
    have : l = kl := (WideAt.sameKey_iff hkl).1 hs
    subst this
    rw [Maps.atKey_put_same hi hkl]
    simp [hs]
  | false =>
    have : l ≠ kl := fun e => by rw [(WideAt.sameKey_iff hkl).2 e] at hs; cases hs
    rw [Maps.atKey_put_other this, ha l]
    simp [hs]
end

theorem zeroBool (w : World) : (zeroValue 4).run Try.prog w = .ok (.bool false) w := by kernel_rfl
theorem skeys : Maps.Keyed Try.prog 9 := Maps.string_keyed Try.underlying9
theorem ikeys : Maps.Keyed Try.prog 3 := Maps.int_keyed Try.underlying3

end Go.Proofs.Ytmnlgeglmkdecaa
