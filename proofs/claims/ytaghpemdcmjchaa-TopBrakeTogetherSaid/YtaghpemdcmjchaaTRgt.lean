
/-
  The moves of TRgn: a drawing region's head with a condition held behind each operation, its tail (the stores) as a plain list.
-/
import Derived.Test.YtaghpemdcmjchaaTRgn
import Derived.Deep.RegionHeld3
namespace Go.Proofs.Ytaghpemdcmjchaa
open Go

section
variable (P : Program) (md : Region.Mode) (ops : Array Oper) (Q : Exit → Act → World → Prop) (S : World → Prop) (n : Nat) (l : List Oper)
/-- The walk's goal within the head. -/
def Tw (f : Nat) (listed : Array Bool) (a : Act) (w : World) : Prop := HeadInv md ops n listed → S w → wpAnyT P md ops Q S n (endT P md ops Q n l) f listed a w
def AllT (f : Nat) (listed : Array Bool) (a : Act) (w : World) (rs : List Nat) : Prop := ∀ i ∈ rs, wpOp P ops Q i (fun a' w' => S w' ∧ Tw P md ops Q S n l f (listed.setIfInBounds i true) a' w') a w
end
section
variable {P : Program} {md : Region.Mode} {ops : Array Oper} {Q : Exit → Act → World → Prop} {S : World → Prop} {n : Nat} {l : List Oper}
theorem Tw_take {i : Nat} {oi : Oper} {v : Value} {f : Nat} {listed : Array Bool} {a : Act} {w : World} (ht : tailOk md ops n = true) (hi : ops[i]? = some oi) (hin : i < n)
    (hf : Region.free md ops listed i = true) (hr : (Region.ready md ops listed).contains i = true)
    (hQ : ∀ c a w, Q (.panic c) (a.put oi.dst v) w → Q (.panic c) a w) (hy : YieldsIf P ops S oi v a)
    (h : Tw P md ops Q S n l f (listed.setIfInBounds i true) (a.put oi.dst v) w) : Tw P md ops Q S n l (f + 1) listed a w :=
  fun inv hS => wpAnyT_take ht hi hin hf hr hQ inv hy hS (fun inv' => h inv' hS)
theorem AllT.nil {f : Nat} {listed : Array Bool} {a : Act} {w : World} : AllT P md ops Q S n l f listed a w [] := fun _ h => by cases h
theorem AllT.cons {f : Nat} {listed : Array Bool} {a : Act} {w : World} {i : Nat} {o : Oper} {rs : List Nat} (ho : ops[i]? = some o)
    (h : ∀ K' : Act → World → Prop, Shut (∀ a w, S w → Tw P md ops Q S n l f (listed.setIfInBounds i true) a w → K' a w) → if Region.wanted o (yielded ops a.tmps) = true then Oper.wp P o a w K' Q else K' (a.put o.dst undef) w)
    (hs : AllT P md ops Q S n l f listed a w rs) : AllT P md ops Q S n l f listed a w (i :: rs) := fun j hj => by
  rcases List.mem_cons.1 hj with rfl | hj
  · exact wpOp_step ho (fun K' hK => h K' (fun a w hS hW => hK a w ⟨hS, hW⟩))
  · exact hs j hj
theorem Tw_all {rs : List Nat} {f : Nat} {listed : Array Bool} {a : Act} {w : World} (hr : Region.ready md ops listed = rs) (hne : rs ≠ []) (hlt : ∀ i ∈ rs, i < n)
    (h : S w → AllT P md ops Q S n l f listed a w rs) : Tw P md ops Q S n l (f + 1) listed a w := fun inv hS =>
  wpAnyT_all hr hne hlt (fun i hi => wpOp_mono (fun _ _ h' => ⟨h'.1, h'.2 (inv.set (hr ▸ hi) (hlt i hi)) h'.1⟩) (h hS i hi))
theorem Tw_end {listed : Array Bool} {a : Act} {w : World} (hs : Region.seqB md ops l.length n listed = true) (h : S w → wpList P ops Q l a w) : Tw P md ops Q S n l 0 listed a w :=
  fun _ hS => ⟨hs, h hS⟩
theorem Tw_start {id : Nat} {a : Act} {w : World} {L l' : List Oper} (n : Nat) (S : World → Prop) (hm : P.follows .mixedOrders = true) (ht : tailOk .any L.toArray n = true) (hl : L.drop n = l') (hS : S w.drew)
    (h : Tw P .any L.toArray Q S n l' n (Array.replicate L.toArray.size false) a w.drew) : (Code.region id L.toArray true).wp P Q a w :=
  wp_region_tail n S hm ht (fun inv => by rw [hl]; exact h inv hS)
end
section
variable {P : Program} {md : Region.Mode} {L : List Oper} {Q : Exit → Act → World → Prop} {S : World → Prop} {n : Nat} {l : List Oper}
/-- The two moves where the operations are a list: the operation comes written out. -/
theorem Tw_takeL {i : Nat} {oi : Oper} {v : Value} {f : Nat} {listed : Array Bool} {a : Act} {w : World} (hi : L[i]? = some oi) (ht : tailOk md L.toArray n = true) (hin : i < n)
    (hf : Region.free md L.toArray listed i = true) (hr : (Region.ready md L.toArray listed).contains i = true)
    (hQ : ∀ c a w, Q (.panic c) (a.put oi.dst v) w → Q (.panic c) a w) (hw : Region.wanted oi (yielded L.toArray a.tmps) = true) (hy : ∀ w, S w → (execOp a.eval oi).run P w = .ok (.value v) w)
    (h : Tw P md L.toArray Q S n l f (listed.setIfInBounds i true) (a.put oi.dst v) w) : Tw P md L.toArray Q S n l (f + 1) listed a w :=
  Tw_take ht (by rw [List.getElem?_toArray]; exact hi) hin hf hr hQ (.inl ⟨hw, hy⟩) h
theorem Tw_abs {f : Nat} {listed : Array Bool} {a : Act} {w : World} (h : ∀ w', w = w' → Tw P md L.toArray Q S n l f listed a w') : Tw P md L.toArray Q S n l f listed a w := h w rfl
/-- An operation whose guard says no is passed over. -/
theorem Tw_skipL {i : Nat} {oi : Oper} {f : Nat} {listed : Array Bool} {a : Act} {w : World} (hi : L[i]? = some oi) (ht : tailOk md L.toArray n = true) (hin : i < n)
    (hf : Region.free md L.toArray listed i = true) (hr : (Region.ready md L.toArray listed).contains i = true)
    (hQ : ∀ c a w, Q (.panic c) (a.put oi.dst undef) w → Q (.panic c) a w) (hw : Region.wanted oi (yielded L.toArray a.tmps) = false)
    (h : Tw P md L.toArray Q S n l f (listed.setIfInBounds i true) (a.put oi.dst undef) w) : Tw P md L.toArray Q S n l (f + 1) listed a w :=
  Tw_take ht (by rw [List.getElem?_toArray]; exact hi) hin hf hr hQ (.inr ⟨hw, rfl⟩) h
theorem AllT.consL {f : Nat} {listed : Array Bool} {a : Act} {w : World} {i : Nat} {o : Oper} {rs : List Nat} (ho : L[i]? = some o)
    (h : ∀ K' : Act → World → Prop, Shut (∀ a w, S w → Tw P md L.toArray Q S n l f (listed.setIfInBounds i true) a w → K' a w) → if Region.wanted o (yielded L.toArray a.tmps) = true then Oper.wp P o a w K' Q else K' (a.put o.dst undef) w)
    (hs : AllT P md L.toArray Q S n l f listed a w rs) : AllT P md L.toArray Q S n l f listed a w (i :: rs) := AllT.cons (by rw [List.getElem?_toArray]; exact ho) h hs
end
end Go.Proofs.Ytaghpemdcmjchaa
