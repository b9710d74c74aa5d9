
/-
  TRgn's drawing region inside a round of a range over a function: the same steps.
-/
import Derived.Test.YtmjooiocgeoaiaaTRgt
import Derived.RangeFuncNested
import Derived.Stop.RegionWithIn
namespace Go.Proofs.Ytmjooiocgeoaiaa
open Go

section
variable {P : Program} {ops : Array Oper} {md : Region.Mode} {Q : Exit → Act → World → Prop} {l n : Nat}
def noDefer (o : Oper) : Bool := match o.op with | .defer _ => false | _ => true
theorem noDefer_spec {o : Oper} (h : noDefer o = true) : ∀ c, o.op ≠ .defer c := fun c e => by unfold noDefer at h; rw [e] at h; cases h
theorem operIn_of {o : Oper} {a : Act} {w : World} {K K' : Act → World → Prop} (hd : ∀ c, o.op ≠ .defer c) (hK : ∀ a w, K a w → K' a w) (h : o.wp P a w K Q) : o.wpIn (Fence.wide.inRound l) n P a w K' Q := by
  refine ⟨fun _ _ => trivial, ?_⟩
  unfold Oper.wp at h
  rw [Oper.semAt_eq _ _ _ hd]
  generalize (execOp a.eval o).run P w = r at h
  have hdp : (Fence.wide.inRound l).depth.isSome = true → 1 ≤ n := fun e => by cases e
  match r, h with
  | .ok (.value v) w', h => exact hK _ _ h
  | .ok .skip w', h => exact hK _ _ h
  | .ok (.defer d) w', h => exact hK _ _ h
  | .ok (.enter f args) w', h =>
    refine ⟨hdp, (CallsIn.inRound l (callsIn_wide.2 h)).mono ?_⟩
    intro e w'' he
    cases e with
    | returned v => exact hK _ _ he
    | panicked chain => exact he
    | outgrown => exact he
  | .ok (.row row args) w', h =>
    refine ⟨hdp, fun c cs _ => ?_⟩
    obtain ⟨v, w'', r, s⟩ := h c cs
    exact ⟨v, w'', hK _ _ r, stepsIn_wide.2 s⟩
  | .ok (.round _ _ _ _ _) w', h => exact h.elim
  | .halt (.panic v) w', h => exact h
theorem wpOpIn_of {i : Nat} {K K' : Act → World → Prop} {a : Act} {w : World} (hd : ∀ o, ops[i]? = some o → ∀ c, o.op ≠ .defer c) (hlo : ¬ LetsOut Q) (hK : ∀ a w, K a w → K' a w) (h : wpOp P ops Q i K a w) : wpOpIn (Fence.wide.inRound l) n P ops Q i K' a w := by
  unfold wpOp at h
  unfold wpOpIn
  cases hi : ops[i]? with
  | none => rw [hi] at h; exact hK _ _ h
  | some o =>
    rw [hi] at h
    dsimp only at h ⊢
    split
    · rename_i hw
      rw [if_pos hw] at h
      rcases h with h | h
      · exact operIn_of (hd o hi) hK h
      · exact absurd h.2 hlo
    · rename_i hw
      rw [if_neg hw] at h
      exact ⟨fun _ _ => trivial, hK _ _ h⟩
theorem wpAnyIn_of (hd : ∀ (i : Nat) (o : Oper), ops[i]? = some o → ∀ c, o.op ≠ .defer c) (hlo : ¬ LetsOut Q) : ∀ (fuel : Nat) (listed : Array Bool) (a : Act) (w : World), wpAny P md ops Q fuel listed a w → wpAnyIn (Fence.wide.inRound l) n P md ops Q fuel listed a w
  | 0, _, _, _, h => h
  | f + 1, listed, a, w, h => ⟨h.1, fun i hi => wpOpIn_of (hd i) hlo (fun a w => wpAnyIn_of hd hlo f _ a w) (h.2 i hi)⟩
theorem wpIn_region_tail {id : Nat} {a : Act} {w : World} {L : List Oper} (m : Nat) (S : World → Prop) (hd : L.all noDefer = true) (hlo : ¬ LetsOut Q) (hm : P.follows .mixedOrders = true) (ht : tailOk .any L.toArray m = true)
    (h : HeadInv .any L.toArray m (Array.replicate L.toArray.size false) → wpAnyT P .any L.toArray Q S m (endT P .any L.toArray Q m (L.drop m)) m (Array.replicate L.toArray.size false) a w.drew) : (Code.region id L.toArray true).wpIn (Fence.wide.inRound l) n P Q a w := by
  have ht' := ht
  simp only [tailOk, Bool.and_eq_true, decide_eq_true_eq] at ht'
  obtain ⟨⟨⟨h1, h2⟩, h3⟩, h4⟩ := ht'
  have inv0 : HeadInv .any L.toArray m (Array.replicate L.toArray.size false) :=
    ⟨by simp, fun j oj _ hl => (by rw [getD_replicate_false] at hl; cases hl), fun t _ ht => getD_in (by simpa using ht) (getD_replicate_false _ _)⟩
  have hn' : m < L.length := by simpa using h2
  refine wpIn_region_any hm (wpAnyIn_of (fun i o hi => ?_) hlo _ _ _ _ ?_)
  · have : o ∈ L := by
      have := Array.mem_of_getElem? hi
      simpa using this
    exact noDefer_spec (List.all_eq_true.1 hd o this)
  · have := wpAny_of_T (Q := Q) (g := (L.drop m).length) (fun listed a' w' hL => wpAny_of_seq (md := .any) (Q' := Q) (L.drop m) m listed a' w' (fun j => by simp [List.getElem?_drop]) hL.1 hL.2) _ _ _ _ (h inv0)
    rw [show m + (L.drop m).length = L.toArray.size by simp; omega] at this
    exact this
theorem Tw_startIn {id : Nat} {a : Act} {w : World} {L l' : List Oper} (m : Nat) (S : World → Prop) (hd : L.all noDefer = true) (hlo : ¬ LetsOut Q) (hm : P.follows .mixedOrders = true) (ht : tailOk .any L.toArray m = true) (hl : L.drop m = l') (hS : S w.drew)
    (h : Tw P .any L.toArray Q S m l' m (Array.replicate L.toArray.size false) a w.drew) : (Code.region id L.toArray true).wpIn (Fence.wide.inRound l) n P Q a w :=
  wpIn_region_tail m S hd hlo hm ht (fun inv => by rw [hl]; exact h inv hS)
end
end Go.Proofs.Ytmjooiocgeoaiaa
