/-
  Lines in rows of their own, and their joints written.
-/
import Derived.Test.YtmnlgeglmkdecaaCopy
import Derived.Test.YtmnlgeglmkdecaaDevA
import Derived.Test.YtmnlgeglmkdecaaOpen
namespace Go.Proofs.Ytmnlgeglmkdecaa
open Go.RowKit

def withJ (L : Ll) (js : List Lj) : Ll := { L with js := js }
def uc (l : List Int) : List Value := l.map (Value.int .u8)
theorem Lies.byte {w : World} {B : Nat} {A : Option Addr} {l : List Int} {i : Nat} {x : Int} (h : Lies w B A (uc l)) (hj : l[i]? = some x) : ∃ a, A = some a ∧ a.block < B ∧ w.cell? (a.add i) = some (.int .u8 x) :=
  h _ _ (by unfold uc; rw [List.getElem?_map, hj]; rfl)

theorem flat_set : ∀ (js : List Lj) (k : Nat) (j : Lj) (lo hi : Int), js[k]? = some j → ((js.flatMap jc).set (k * 4 + 2) (.int .i64 lo)).set (k * 4 + 3) (.int .i64 hi) = (js.set k { j with lo := lo, hi := hi }).flatMap jc
  | [], k, j, lo, hi, h => by simp at h
  | x :: l, 0, j, lo, hi, h => by
    simp at h
    subst h
    simp [jc]
  | x :: l, k + 1, j, lo, hi, h => by
    have ih := flat_set l k j lo hi (by simpa using h)
    rw [List.flatMap_cons, List.set_cons_succ, List.flatMap_cons, ← ih]
    have e2 : (k + 1) * 4 + 2 = (jc x).length + (k * 4 + 2) := by simp [jc]; omega
    have e3 : (k + 1) * 4 + 3 = (jc x).length + (k * 4 + 3) := by simp [jc]; omega
    rw [e2, e3, List.set_append_right _ _ (by omega), List.set_append_right _ _ (by omega)]
    congr 1
    congr 1
    · congr 1; omega
    · omega

theorem OLn.row {w : World} {B : Nat} {L : Ll} {G : Hds} (h : OLn w B L G) (hn : 0 < L.js.length) : ∃ g, G.j.A = some ⟨g, 0, none⟩ ∧ B ≤ g ∧ g < w.heap.size := by
  rcases h.j.2 with ⟨_, h0⟩ | ⟨g, cap, cur, e, hb, hg, _⟩
  · omega
  · injection e with e _ _
    exact ⟨g, e, hb, (Array.getElem?_eq_some_iff.1 hg).1⟩
theorem OLn.setJ {w : World} {B : Nat} {L : Ll} {G : Hds} (h : OLn w B L G) {g : Nat} (hg : G.j.A = some ⟨g, 0, none⟩) {k : Nat} {j : Lj} (hk : L.js[k]? = some j) (lo hi : Int) :
    OLn ((w.setCell ⟨g, k * 4 + 2, none⟩ (.int .i64 lo)).setCell ⟨g, k * 4 + 3, none⟩ (.int .i64 hi)) B (withJ L (L.js.set k { j with lo := lo, hi := hi })) G := by
  obtain ⟨⟨Aj, cj⟩, Gb, Gs, each⟩ := G
  simp only at hg
  subst hg
  have h0 := h.j
  obtain ⟨h1, g1⟩ := h0.stored (k * 4 + 2) (.int .i64 lo)
  obtain ⟨h2, g2⟩ := h1.stored (k * 4 + 3) (.int .i64 hi)
  rw [flat_set L.js k j lo hi hk] at h2
  have other : ∀ {b n s : Nat} {e : TypeId} {v : Value} {xs : List Value}, e ≠ 56 → w.ownsRow b e s v n xs → ((w.setCell ⟨g, k * 4 + 2, none⟩ (.int .i64 lo)).setCell ⟨g, k * 4 + 3, none⟩ (.int .i64 hi)).ownsRow b e s v n xs := fun he ho =>
    own_grown (own_grown ho h0 he g1) h1 he g2
  refine ⟨?_, other (by decide) h.b, h.n, other (by decide) h.s, fun i t x e1 e2 => other (by decide) (h.a i t x e1 e2)⟩
  show World.ownsRow _ B _ 4 (.slice _ (L.js.set k { j with lo := lo, hi := hi }).length _) (L.js.set k { j with lo := lo, hi := hi }).length _
  rw [List.length_set]
  exact h2

theorem w64_in (n : Int) (h : -9223372036854775808 ≤ n ∧ n ≤ 9223372036854775807) : wrap64 n = n := by
  unfold wrap64
  omega
/-- What Inner's walk holds: the copy's box, the copy in rows of its own, the parts. -/
structure IF (w W : World) (L : Ll) (js : List Lj) (G : Hds) (gp : Hd) (bs : List Int) : Prop where
  box : Bk W w.heap.size 26 #[.string L.name, .slice G.j.A L.js.length G.j.c, .slice G.b.A L.bs.length G.b.c, .slice G.s.A L.ss.length G.s.c]
  res : Bk W (w.heap.size + 1) 26 #[.string ⟨#[]⟩, .slice none 0 0, .slice none 0 0, .slice none 0 0]
  own : OLn W (w.heap.size + 2) (withJ L js) G
  bl : Below w.heap.size w W
  pa : Lies W w.heap.size gp.A (uc bs)
  n : js.length = L.js.length
section
variable {w W W' : World} {L : Ll} {js : List Lj} {G : Hds} {gp : Hd} {bs : List Int}
theorem IF.from (h : IF w W L js G gp bs) (hb : Below W.heap.size W W') : IF w W' L js G gp bs :=
  ⟨h.box.call hb, h.res.call hb, h.own.below hb, Below.step h.bl hb, h.pa.below (hb.mono h.bl.size), h.n⟩
theorem IF.drew (h : IF w W L js G gp bs) : IF w W.drew L js G gp bs := h.from (Below.refl _ W).drew
end
end Go.Proofs.Ytmnlgeglmkdecaa
