/-
  The walk of LineClearAll.
-/
import Derived.Test.YtmnlgeglmkdecaaInner
import Derived.Test.YtmnlgeglmkdecaaPosA
import Derived.Test.YtmnlgeglmkdecaaClrAt
import Derived.Test.YtmnlgeglmkdecaaPosQ
import Derived.Deep.DeepCutAuto
import Derived.Deep.CutRange
namespace Go.Proofs.Ytmnlgeglmkdecaa
open Go.RowKit

/-! What the law asks of the answers. -/
def yesV (c : Int) (l : List (Int × Int)) : Bool := l.all fun r => insB c r.1 r.2
def noV (c : Int) (l : List (Int × Int)) : Bool := l.any fun r => noB c r.1 r.2
theorem yesV_snoc (c : Int) (l : List (Int × Int)) (r : Int × Int) : yesV c (l ++ [r]) = (yesV c l && insB c r.1 r.2) := by
  unfold yesV; rw [List.all_append]; simp
theorem noV_snoc (c : Int) (l : List (Int × Int)) (r : Int × Int) : noV c (l ++ [r]) = (noV c l || noB c r.1 r.2) := by
  unfold noV; rw [List.any_append]; simp
theorem ins_no {c lo hi : Int} (h : lo ≤ hi) (h2 : insB c lo hi = true) : noB c lo hi = false := by
  unfold insB at h2; unfold noB
  simp only [Bool.and_eq_true, decide_eq_true_eq] at h2
  simp only [Bool.or_eq_false_iff, decide_eq_false_iff_not]
  omega
theorem clear_kinds {L : Ll} {js : List Lj} (hn : Nar L js) {v : Lv} {q : Int} (hW : 0 < devW L v q) (ns : List Nat) :
    (noV v.clear (devsN L v q ns) = true ∧ yesV v.clear (devsN L v q ns) = false ∧ clrV v.clear (devsN L v q ns) = 0 ∧ clrV v.clear (devsN (withJ L js) v q ns) = 0) ∨
    (noV v.clear (devsN L v q ns) = false ∧ yesV v.clear (devsN L v q ns) = true ∧ clrV v.clear (devsN L v q ns) = 2 ∧ clrV v.clear (devsN (withJ L js) v q ns) = 2) ∨
    (noV v.clear (devsN L v q ns) = false ∧ yesV v.clear (devsN L v q ns) = false ∧ clrV v.clear (devsN L v q ns) = 1) := by
  have hd := fun k => hn.dev hW (v := v) (p := q) k
  cases h1 : noV v.clear (devsN L v q ns) with
  | true =>
    left
    obtain ⟨r, hr, h2⟩ := List.any_eq_true.1 (show (devsN L v q ns).any (fun r => noB v.clear r.1 r.2) = true from h1)
    obtain ⟨k, hk, rfl⟩ := List.mem_map.1 hr
    obtain ⟨d1, d2, d3⟩ := hd k
    simp only at h2
    refine ⟨rfl, ?_, clrV_no hr h2, clrV_no (devsN_mem hk) ?_⟩
    · cases h3 : yesV v.clear (devsN L v q ns) with
      | false => rfl
      | true =>
        have h4 := List.all_eq_true.1 (show (devsN L v q ns).all (fun r => insB v.clear r.1 r.2) = true from h3) _ hr
        have h5 := ins_no (by show devLo L v q k ≤ devHi L v q k; omega) h4
        rw [h5] at h2
        cases h2
    · unfold noB at h2 ⊢
      simp only [Bool.or_eq_true, decide_eq_true_eq] at h2 ⊢
      show devHi (withJ L js) v q k < -v.clear ∨ v.clear < devLo (withJ L js) v q k
      omega
  | false =>
    right
    have hno : ∀ r ∈ devsN L v q ns, noB v.clear r.1 r.2 = false := fun r hr => by
      cases h : noB v.clear r.1 r.2 with
      | false => rfl
      | true =>
        have : noV v.clear (devsN L v q ns) = true := List.any_eq_true.2 ⟨r, hr, h⟩
        rw [h1] at this
        cases this
    have hc := clrV_acc hno
    cases h3 : yesV v.clear (devsN L v q ns) with
    | true =>
      left
      have hall := List.all_eq_true.1 (show (devsN L v q ns).all (fun r => insB v.clear r.1 r.2) = true from h3)
      refine ⟨rfl, rfl, by rw [hc]; unfold accV; rw [if_pos (show (devsN L v q ns).all (fun r => insB v.clear r.1 r.2) = true from h3)], ?_⟩
      have hin : ∀ r ∈ devsN (withJ L js) v q ns, insB v.clear r.1 r.2 = true ∧ noB v.clear r.1 r.2 = false := fun r hr => by
        obtain ⟨k, hk, rfl⟩ := List.mem_map.1 hr
        obtain ⟨d1, d2, d3⟩ := hd k
        have h5 := hall _ (devsN_mem hk)
        unfold insB at h5
        simp only [Bool.and_eq_true, decide_eq_true_eq] at h5
        have h6 : insB v.clear (devLo (withJ L js) v q k) (devHi (withJ L js) v q k) = true := by
          unfold insB
          simp only [Bool.and_eq_true, decide_eq_true_eq]
          omega
        exact ⟨h6, ins_no d2 h6⟩
      rw [clrV_acc (fun r hr => (hin r hr).2)]
      unfold accV
      rw [if_pos (List.all_eq_true.2 (fun r hr => (hin r hr).1))]
    | false =>
      right
      refine ⟨rfl, rfl, ?_⟩
      rw [hc]
      unfold accV
      rw [if_neg (by rw [show (devsN L v q ns).all (fun r => insB v.clear r.1 r.2) = yesV v.clear (devsN L v q ns) from rfl, h3]; simp)]

/-! The calls, by name. -/
section
variable {L : Ll} {js : List Lj}
theorem devL_at (hr : Right L) (hck : ckLine L = ((0, 0), 0)) (hL : L.ok) {v : Lv} (hv : vErr v = 0) {q : Int} (hp : inB q 0 (placeL L.bs L.bs.length - v.len) = true) (hm : q.tmod v.step = 0) {x : Int} (hb : benB L v q x = true) {lo hi : Int} (hlo : devLo L v q x.toNat = lo) (hhi : devHi L v q x.toNat = hi)
    (G : Hds) (w : World) (hA : LnAt w w.heap.size L G) : Calls Try.prog 54 #[(.agg #[.string L.name, .slice G.j.A L.js.length G.j.c, .slice G.b.A L.bs.length G.b.c, .slice G.s.A L.ss.length G.s.c]), (.agg #[.int .i64 v.len, .int .i64 v.clear, .int .i64 v.step]), .agg #[.int .i64 q, .int .i64 x]] w fun e w' => e = .returned (.tuple #[.agg #[.int .i64 lo, .int .i64 hi], .int .i64 0]) ∧ Below w.heap.size w w' := by
  have h := DeviationAt_good hr hck G hL v hv q x hp hm w hA
  unfold devAns at h
  rw [if_pos hb, hlo, hhi] at h
  exact h
theorem devN_at (hn : Nar L js) (hr : Right L) (hck : ckLine L = ((0, 0), 0)) (hL : L.ok) {v : Lv} (hv : vErr v = 0) {q : Int} (hp : inB q 0 (placeL L.bs L.bs.length - v.len) = true) (hm : q.tmod v.step = 0) {x : Int} (hb : benB L v q x = true) {lo hi : Int} (hlo : devLo (withJ L js) v q x.toNat = lo) (hhi : devHi (withJ L js) v q x.toNat = hi)
    (G : Hds) (w : World) (hA : LnAt w w.heap.size (withJ L js) G) : Calls Try.prog 54 #[(.agg #[.string L.name, .slice G.j.A L.js.length G.j.c, .slice G.b.A L.bs.length G.b.c, .slice G.s.A L.ss.length G.s.c]), (.agg #[.int .i64 v.len, .int .i64 v.clear, .int .i64 v.step]), .agg #[.int .i64 q, .int .i64 x]] w fun e w' => e = .returned (.tuple #[.agg #[.int .i64 lo, .int .i64 hi], .int .i64 0]) ∧ Below w.heap.size w w' := by
  have h := DeviationAt_good (hn.right hr) (hn.ck hr hck) G (hn.ok hr hL) v hv q x hp hm w hA
  unfold devAns at h
  rw [benB_with, if_pos hb, hlo, hhi, show (withJ L js).js.length = L.js.length from hn.n] at h
  exact h
theorem clrL_at (hr : Right L) (hck : ckLine L = ((0, 0), 0)) (hL : L.ok) {v : Lv} (hv : vErr v = 0) {q : Int} (hp : inB q 0 (placeL L.bs L.bs.length - v.len) = true) (hm : q.tmod v.step = 0) {ns : List Nat} (hns : benN L v q = ns) {n : Int} (h0 : clrV v.clear (devsN L v q ns) = n)
    (G : Hds) (w : World) (hA : LnAt w w.heap.size L G) : Calls Try.prog 61 #[(.agg #[.string L.name, .slice G.j.A L.js.length G.j.c, .slice G.b.A L.bs.length G.b.c, .slice G.s.A L.ss.length G.s.c]), (.agg #[.int .i64 v.len, .int .i64 v.clear, .int .i64 v.step]), .int .i64 q] w fun e w' => e = .returned (.tuple #[.int .i64 n, .int .i64 0]) ∧ Below w.heap.size w w' := by
  have h := ClearAt_good hr hck G hL v hv q hp hm w hA
  rw [hns, h0] at h
  exact h
theorem clrN_at (hn : Nar L js) (hr : Right L) (hck : ckLine L = ((0, 0), 0)) (hL : L.ok) {v : Lv} (hv : vErr v = 0) {q : Int} (hp : inB q 0 (placeL L.bs L.bs.length - v.len) = true) (hm : q.tmod v.step = 0) {ns : List Nat} (hns : benN L v q = ns) {n : Int} (h0 : clrV v.clear (devsN (withJ L js) v q ns) = n)
    (G : Hds) (w : World) (hA : LnAt w w.heap.size (withJ L js) G) : Calls Try.prog 61 #[(.agg #[.string L.name, .slice G.j.A L.js.length G.j.c, .slice G.b.A L.bs.length G.b.c, .slice G.s.A L.ss.length G.s.c]), (.agg #[.int .i64 v.len, .int .i64 v.clear, .int .i64 v.step]), .int .i64 q] w fun e w' => e = .returned (.tuple #[.int .i64 n, .int .i64 0]) ∧ Below w.heap.size w w' := by
  have h := ClearAt_good (hn.right hr) (hn.ck hr hck) G (hn.ok hr hL) v hv q hp hm w hA
  rw [benN_with, hns, h0, show (withJ L js).js.length = L.js.length from hn.n] at h
  exact h
theorem copyN_at (hn : Nar L js) (hr : Right L) (hL : L.ok) (H : Hds) (hH : HdsOk H) (w : World) (hA : LnAt w w.heap.size (withJ L js) H) :
    Calls Try.prog 18 #[(.agg #[.string L.name, .slice H.j.A L.js.length H.j.c, .slice H.b.A L.bs.length H.b.c, .slice H.s.A L.ss.length H.s.c])] w fun e w' => ∃ G : Hds, e = .returned (.agg #[.string L.name, .slice G.j.A L.js.length G.j.c, .slice G.b.A L.bs.length G.b.c, .slice G.s.A L.ss.length G.s.c]) ∧ LnAt w' w'.heap.size (withJ L js) G ∧ Below w.heap.size w w' := by
  have h := Copy_at (withJ L js) H (hn.ok hr hL) hH w hA
  rw [show (withJ L js).js.length = L.js.length from hn.n] at h
  exact h
end

/-- The line's and the vehicle's box, and the narrowed line's. -/
structure CN (w W : World) (L : Ll) (H : Hds) (v : Lv) (js : List Lj) (G : Hds) (g : Nat) : Prop where
  q : QV w W L H v
  nb : Bk W g 26 #[.string L.name, .slice G.j.A L.js.length G.j.c, .slice G.b.A L.bs.length G.b.c, .slice G.s.A L.ss.length G.s.c]
  nl : LnAt W g (withJ L js) G
  gb : w.heap.size + 2 ≤ g
/-- And a list of numbers; all of it below block B. -/
structure CB (w W : World) (L : Ll) (H : Hds) (v : Lv) (js : List Lj) (G : Hds) (g B : Nat) (gl : Hd) (l : List Int) : Prop where
  c : CN w W L H v js G g
  li : Lies W B gl.A (ic l)
  b1 : g + 1 ≤ B
  b2 : B ≤ W.heap.size
/-- And a range in a box of its own. -/
structure CD (w W : World) (L : Ll) (H : Hds) (v : Lv) (js : List Lj) (G : Hds) (g B : Nat) (gl : Hd) (l : List Int) (d : Nat) (lo hi : Int) : Prop where
  b : CB w W L H v js G g B gl l
  k0 : W.cell? ⟨d, 0, none⟩ = some (.int .i64 lo)
  k1 : W.cell? ⟨d, 1, none⟩ = some (.int .i64 hi)
  db : d < B
section
variable {w W W' : World} {L : Ll} {H : Hds} {v : Lv} {js : List Lj} {G : Hds} {g B : Nat} {gl : Hd} {l : List Int} {d : Nat} {lo hi : Int}
theorem CN.from (hb : Below W.heap.size W W') (h : CN w W L H v js G g) : CN w W' L H v js G g := ⟨h.q.from hb, h.nb.call hb, h.nl.below (hb.mono (Nat.le_of_lt h.nb.lt)), h.gb⟩
theorem CN.alloc (h : CN w W L H v js G g) (o : Obj) : CN w (W.alloc o) L H v js G g := h.from ((Below.refl _ W).alloc (Nat.le_refl _) o)
theorem CN.drew (h : CN w W L H v js G g) : CN w W.drew L H v js G g := h.from (Below.refl _ W).drew
theorem CN.set (h : CN w W L H v js G g) {p : Addr} (hp : g + 1 ≤ p.block) (u : Value) : CN w (W.setCell p u) L H v js G g :=
  ⟨h.q.set (by have := h.gb; omega) u, h.nb.far (by omega) u, h.nl.below ((Below.refl _ W).setCell (by omega) u), h.gb⟩
theorem CN.lnW (h : CN w W L H v js G g) : LnAt W W.heap.size L H := h.q.lnW
theorem CN.nlW (h : CN w W L H v js G g) : LnAt W W.heap.size (withJ L js) G := h.nl.more (Nat.le_of_lt h.nb.lt)
theorem CN.all (h : CN w W L H v js G g) : CN w W L H v js G g ∧ W.cell? ⟨w.heap.size, 0, none⟩ = some (.string L.name) ∧ W.cell? ⟨w.heap.size, 1, none⟩ = some (.slice H.j.A L.js.length H.j.c) ∧ W.cell? ⟨w.heap.size, 2, none⟩ = some (.slice H.b.A L.bs.length H.b.c) ∧ W.cell? ⟨w.heap.size, 3, none⟩ = some (.slice H.s.A L.ss.length H.s.c) ∧ W.cell? ⟨w.heap.size + 1, 0, none⟩ = some (.int .i64 v.len) ∧ W.cell? ⟨w.heap.size + 1, 1, none⟩ = some (.int .i64 v.clear) ∧ W.cell? ⟨w.heap.size + 1, 2, none⟩ = some (.int .i64 v.step) ∧ W.cell? ⟨g, 0, none⟩ = some (.string L.name) ∧ W.cell? ⟨g, 1, none⟩ = some (.slice G.j.A L.js.length G.j.c) ∧ W.cell? ⟨g, 2, none⟩ = some (.slice G.b.A L.bs.length G.b.c) ∧ W.cell? ⟨g, 3, none⟩ = some (.slice G.s.A L.ss.length G.s.c) :=
  ⟨h, h.q.box.cell 0, h.q.box.cell 1, h.q.box.cell 2, h.q.box.cell 3, h.q.veh.cell 0, h.q.veh.cell 1, h.q.veh.cell 2, h.nb.cell 0, h.nb.cell 1, h.nb.cell 2, h.nb.cell 3⟩
theorem CB.from (hb : Below W.heap.size W W') (h : CB w W L H v js G g B gl l) : CB w W' L H v js G g B gl l := ⟨h.c.from hb, h.li.below (hb.mono h.b2), h.b1, Nat.le_trans h.b2 hb.size⟩
theorem CB.alloc (h : CB w W L H v js G g B gl l) (o : Obj) : CB w (W.alloc o) L H v js G g B gl l := h.from ((Below.refl _ W).alloc (Nat.le_refl _) o)
theorem CB.drew (h : CB w W L H v js G g B gl l) : CB w W.drew L H v js G g B gl l := h.from (Below.refl _ W).drew
theorem CB.set (h : CB w W L H v js G g B gl l) {p : Addr} (hp : B ≤ p.block) (u : Value) : CB w (W.setCell p u) L H v js G g B gl l :=
  ⟨h.c.set (Nat.le_trans h.b1 hp) u, h.li.below ((Below.refl _ W).setCell hp _), h.b1, by have := h.b2; simpa using this⟩
theorem CB.up (h : CB w W L H v js G g B gl l) : CB w W L H v js G g W.heap.size gl l := ⟨h.c, h.li.more h.b2, Nat.le_trans h.b1 h.b2, Nat.le_refl _⟩
theorem CB.all (h : CB w W L H v js G g B gl l) {a : Addr} (ha : gl.A = some a) {i : Nat} {x : Int} (hx : l[i]? = some x) : CB w W L H v js G g B gl l ∧ W.cell? ⟨w.heap.size, 0, none⟩ = some (.string L.name) ∧ W.cell? ⟨w.heap.size, 1, none⟩ = some (.slice H.j.A L.js.length H.j.c) ∧ W.cell? ⟨w.heap.size, 2, none⟩ = some (.slice H.b.A L.bs.length H.b.c) ∧ W.cell? ⟨w.heap.size, 3, none⟩ = some (.slice H.s.A L.ss.length H.s.c) ∧ W.cell? ⟨w.heap.size + 1, 0, none⟩ = some (.int .i64 v.len) ∧ W.cell? ⟨w.heap.size + 1, 1, none⟩ = some (.int .i64 v.clear) ∧ W.cell? ⟨w.heap.size + 1, 2, none⟩ = some (.int .i64 v.step) ∧ W.cell? ⟨g, 0, none⟩ = some (.string L.name) ∧ W.cell? ⟨g, 1, none⟩ = some (.slice G.j.A L.js.length G.j.c) ∧ W.cell? ⟨g, 2, none⟩ = some (.slice G.b.A L.bs.length G.b.c) ∧ W.cell? ⟨g, 3, none⟩ = some (.slice G.s.A L.ss.length G.s.c) ∧ W.cell? (a.add i) = some (.int .i64 x) := by
  obtain ⟨a', e, _, hc⟩ := h.li.num hx
  rw [ha] at e
  cases e
  have hh := h.c.all.2
  exact ⟨h, hh.1, hh.2.1, hh.2.2.1, hh.2.2.2.1, hh.2.2.2.2.1, hh.2.2.2.2.2.1, hh.2.2.2.2.2.2.1, hh.2.2.2.2.2.2.2.1, hh.2.2.2.2.2.2.2.2.1, hh.2.2.2.2.2.2.2.2.2.1, hh.2.2.2.2.2.2.2.2.2.2, hc⟩
theorem CD.from (hb : Below W.heap.size W W') (h : CD w W L H v js G g B gl l d lo hi) : CD w W' L H v js G g B gl l d lo hi := ⟨h.b.from hb, (hb.cell (cell_lt h.k0)).trans h.k0, (hb.cell (cell_lt h.k1)).trans h.k1, h.db⟩
theorem CD.alloc (h : CD w W L H v js G g B gl l d lo hi) (o : Obj) : CD w (W.alloc o) L H v js G g B gl l d lo hi := h.from ((Below.refl _ W).alloc (Nat.le_refl _) o)
theorem CD.drew (h : CD w W L H v js G g B gl l d lo hi) : CD w W.drew L H v js G g B gl l d lo hi := h.from (Below.refl _ W).drew
theorem CD.set (h : CD w W L H v js G g B gl l d lo hi) {p : Addr} (hp : B ≤ p.block) (u : Value) : CD w (W.setCell p u) L H v js G g B gl l d lo hi := by
  have hb : Below B W (W.setCell p u) := (Below.refl _ W).setCell hp _
  exact ⟨h.b.set hp u, (hb.cell (by exact h.db)).trans h.k0, (hb.cell (by exact h.db)).trans h.k1, h.db⟩
theorem CD.up (h : CD w W L H v js G g B gl l d lo hi) : CD w W L H v js G g W.heap.size gl l d lo hi := ⟨h.b.up, h.k0, h.k1, Nat.lt_of_lt_of_le h.db h.b.b2⟩
theorem CD.all (h : CD w W L H v js G g B gl l d lo hi) {a : Addr} (ha : gl.A = some a) {i : Nat} {x : Int} (hx : l[i]? = some x) : CD w W L H v js G g B gl l d lo hi ∧ W.cell? ⟨w.heap.size, 0, none⟩ = some (.string L.name) ∧ W.cell? ⟨w.heap.size, 1, none⟩ = some (.slice H.j.A L.js.length H.j.c) ∧ W.cell? ⟨w.heap.size, 2, none⟩ = some (.slice H.b.A L.bs.length H.b.c) ∧ W.cell? ⟨w.heap.size, 3, none⟩ = some (.slice H.s.A L.ss.length H.s.c) ∧ W.cell? ⟨w.heap.size + 1, 0, none⟩ = some (.int .i64 v.len) ∧ W.cell? ⟨w.heap.size + 1, 1, none⟩ = some (.int .i64 v.clear) ∧ W.cell? ⟨w.heap.size + 1, 2, none⟩ = some (.int .i64 v.step) ∧ W.cell? ⟨g, 0, none⟩ = some (.string L.name) ∧ W.cell? ⟨g, 1, none⟩ = some (.slice G.j.A L.js.length G.j.c) ∧ W.cell? ⟨g, 2, none⟩ = some (.slice G.b.A L.bs.length G.b.c) ∧ W.cell? ⟨g, 3, none⟩ = some (.slice G.s.A L.ss.length G.s.c) ∧ W.cell? (a.add i) = some (.int .i64 x) :=
  ⟨h, (h.b.all ha hx).2⟩
end

set_option maxHeartbeats 32000000 in
set_option maxRecDepth 100000 in
theorem LineClearAll_main {L : Ll} (hL : L.ok) {H : Hds} (hH : HdsOk H) (hF : ∀ w : World, LnAt w w.heap.size L H → Calls Try.prog 16 #[(.agg #[.string L.name, .slice H.j.A L.js.length H.j.c, .slice H.b.A L.bs.length H.b.c, .slice H.s.A L.ss.length H.s.c])] w fun e w' => e = .returned (.bool true) ∧ Below w.heap.size w w') {v : Lv} (hr : Right L) (hck : ckLine L = ((0, 0), 0)) (hv : vErr v = 0) (hm : decide (placeL L.bs L.bs.length / v.step ≤ 100) = true)
    (gp : Hd) (bs : List Int) (hbs : ∀ b ∈ bs, 0 ≤ b ∧ b ≤ 255) (hlen : bs.length ≤ 50) (w : World) (hA : LnAt w w.heap.size L H) (hP : Lies w w.heap.size gp.A (uc bs)) :
    Calls Try.prog 11 #[(.agg #[.string L.name, .slice H.j.A L.js.length H.j.c, .slice H.b.A L.bs.length H.b.c, .slice H.s.A L.ss.length H.s.c]), (.agg #[.int .i64 v.len, .int .i64 v.clear, .int .i64 v.step]), .slice gp.A bs.length gp.c] w fun e w' => e = .returned (.bool true) ∧ Below w.heap.size w w' := by
  have S0 := Lib.hid (QV.start (v := v) hA)
  have HPA := Lib.hid hP
  have HF := Lib.hid hF
  have HH := Lib.hid hH
  have HL := Lib.hid hL
  have HC := Lib.hid hck
  have HR := Lib.hid hr
  have HV := Lib.hid hv
  have HM := Lib.hid hm
  have HBS := Lib.hid hbs
  have hl50 : ¬ (50 : Int) < (bs.length : Int) := by omega
  have hnl : bs.length ≤ 1000 := by omega
  have hnj := hL.nj
  have h40 := hr.most
  obtain ⟨⟨vl0, vl1⟩, ⟨k1, k2⟩, ⟨vs0, vs1⟩⟩ := vErr_in hv
  have HI := Lib.hid (nPose_iff (L := L) hv)
  obtain ⟨T, hT⟩ : ∃ T, placeL L.bs L.bs.length = T := ⟨_, rfl⟩
  have tb : 0 ≤ T ∧ T ≤ 1200000 := by rw [← hT]; have := placeL_bound L.bs hr.b L.bs.length (Nat.le_refl _); omega
  have HT := Lib.hid hT
  rw [hT] at HI
  have tn := IntWalk.i64_in (-v.clear) (by omega)
  clear hA hF hH hL hP hck hv hm hbs hr hT
  go_enter Try.func11, Try.ntmps11
  go_wp2_with fail
  refine (awake_any _).mono ?_
  rintro e w1 ⟨rfl, hb1⟩
  have S1 := Lib.hid (QV.from hb1 S0.out)
  clear hb1 S0
  obtain ⟨c0, c1, c2, c3⟩ := S1.out.box.four
  obtain ⟨v0, v1, v2⟩ := S1.out.veh.three
  go_wp2_with fail
  refine (HF.out _ S1.out.lnW).mono ?_
  rintro e w2 ⟨rfl, hb2⟩
  have S2 := Lib.hid (QV.from hb2 S1.out)
  clear hb2 S1 c0 c1 c2 c3 v0 v1 v2
  obtain ⟨c0, c1, c2, c3⟩ := S2.out.box.four
  obtain ⟨v0, v1, v2⟩ := S2.out.veh.three
  go_wp2_with fail
  refine (LineErr_at HC.out H HL.out _ S2.out.lnW).mono ?_
  rintro e w3 ⟨rfl, hb3⟩
  have S3 := Lib.hid (QV.from hb3 S2.out)
  clear hb3 S2 c0 c1 c2 c3 v0 v1 v2
  obtain ⟨c0, c1, c2, c3⟩ := S3.out.box.four
  obtain ⟨v0, v1, v2⟩ := S3.out.veh.three
  go_wp2_with fail
  refine (VehicleErr_any v _).mono ?_
  rintro e w4 ⟨rfl, hb4⟩
  rw [HV.out]
  have S4 := Lib.hid (QV.from hb4 S3.out)
  clear hb4 S3 c0 c1 c2 c3 v0 v1 v2
  obtain ⟨c0, c1, c2, c3⟩ := S4.out.box.four
  obtain ⟨v0, v1, v2⟩ := S4.out.veh.three
  go_wp2_with fail
  refine (lawPoses_any HR.out HV.out HM.out H HL.out _ S4.out.lnW).mono ?_
  rintro e w5 ⟨rfl, hb5⟩
  have S5 := Lib.hid (QV.from hb5 S4.out)
  clear hb5 S4 c0 c1 c2 c3 v0 v1 v2
  obtain ⟨c0, c1, c2, c3⟩ := S5.out.box.four
  obtain ⟨v0, v1, v2⟩ := S5.out.veh.three
  go_wp2_with fail
  refine (Inner_any HR.out H HL.out HH.out gp bs HBS.out hnl _ S5.out.lnW ((HPA.out.below S5.out.bl).more S5.out.bl.size)).mono ?_
  rintro e w6 ⟨G, rfl, js, hnar, hln, hho, hb6⟩
  have HN := Lib.hid hnar
  have HG := Lib.hid hho
  have N0 : Hid (CN w (w6.alloc (.cells #[.string L.name, .slice G.j.A L.js.length G.j.c, .slice G.b.A L.bs.length G.b.c, .slice G.s.A L.ss.length G.s.c] 26)) L H v js G w6.heap.size) := Lib.hid (by
    have q6 := QV.from hb6 S5.out
    exact ⟨q6.alloc _, Bk.new w6 _ _, hln.below ((Below.refl _ w6).alloc (Nat.le_refl _) _), q6.veh.lt⟩)
  clear hb6 hnar hln hho S5 c0 c1 c2 c3 v0 v1 v2 HPA HBS HM HF
  go_wp2_with fail
  obtain ⟨g, hg⟩ : ∃ g, w6.heap.size = g := ⟨_, rfl⟩
  simp only [hg] at N0 ⊢
  clear hg
  go_loopw [8] (fun i wr => ∃ k : Nat, k ≤ nPose L v ∧ i = .int .i64 ((k : Int) * v.step) ∧ CN w wr L H v js G g) (fun i _ => (T + 30000 - intOf i).toNat)
  case atStart => exact ⟨0, Nat.zero_le _, by simp, N0.out⟩
  case round =>
    clear N0
    obtain ⟨k, hk, rfl, hQ⟩ := hrel
    have Q1 := Lib.hid hQ
    have hik := HI.out k
    have hmod : ((k : Int) * v.step).tmod v.step = 0 := Int.mul_tmod_left _ _
    have kb : 0 ≤ (k : Int) * v.step ∧ (k : Int) * v.step ≤ T + 30000 := by
      refine ⟨Int.mul_nonneg (by omega) (by omega), ?_⟩
      by_cases h0 : k = 0
      · subst h0; simp; omega
      · have h1 := (HI.out (k - 1)).1 (by omega)
        have e : ((k - 1 : Nat) : Int) * v.step = (k : Int) * v.step - v.step := by
          rw [show ((k - 1 : Nat) : Int) = (k : Int) - 1 from by omega, Int.sub_mul, Int.one_mul]
        omega
    have e1 : ((k + 1 : Nat) : Int) * v.step = (k : Int) * v.step + v.step := by rw [show ((k + 1 : Nat) : Int) = (k : Int) + 1 from by omega, Int.add_mul, Int.one_mul]
    obtain ⟨q, hq⟩ : ∃ q, (k : Int) * v.step = q := ⟨_, rfl⟩
    simp only [hq] at hik kb e1 hmod ⊢
    have HE := Lib.hid e1
    have HIK := Lib.hid hik
    have HPM := Lib.hid hmod
    obtain ⟨kb0, kb1⟩ := kb
    have t1 := IntWalk.i64_in (q + v.len) (by omega)
    have t2 := IntWalk.i64_in (q + v.step) (by omega)
    obtain ⟨_, c0, c1, c2, c3, v0, v1, v2, g0, g1, g2, g3⟩ := hQ.all
    clear hQ hq e1 hik hmod
    by_cases hlt : q + v.len ≤ T
    · have hkb : k < nPose L v := HIK.out.2 hlt
      have HTT := Lib.hid (show q + v.len ≤ placeL L.bs L.bs.length by rw [HT.out]; exact hlt)
      have HP0 := Lib.hid (show inB q 0 (placeL L.bs L.bs.length - v.len) = true by rw [inB_iff]; have := HTT.out; omega)
      have HKB := Lib.hid hkb
      have HDW := Lib.hid (devW_pos HR.out HV.out kb0)
      obtain ⟨ns, hns⟩ : ∃ ns, benN L v q = ns := ⟨_, rfl⟩
      have HNL := Lib.hid (show benL L v q L.js.length = ns.map Int.ofNat by rw [← hns]; exact benL_all HR.out HV.out kb0 HTT.out)
      have hll : ns.length ≤ 1000 := by
        have := benL_len L v q L.js.length
        rw [HNL.out, List.length_map] at this
        omega
      have HMEM : Hid (∀ x ∈ ns, benB L v q (x : Int) = true) := Lib.hid (fun x hx => by
        rw [← ben_mem HR.out HV.out kb0 HTT.out (x : Int), HNL.out]
        exact decide_eq_true (List.mem_map.2 ⟨x, hx, rfl⟩))
      have HNS := Lib.hid hns
      obtain ⟨l, hl⟩ : ∃ l, ns.map Int.ofNat = l := ⟨_, rfl⟩
      have hlen : l.length = ns.length := by rw [← hl, List.length_map]
      have HLL := Lib.hid hl
      have HLN := Lib.hid hlen
      rw [hl] at HNL
      have HKD := Lib.hid (clear_kinds HN.out HDW.out (v := v) ns)
      clear hns hl hlen hkb
      go_upto_region 7 with fail
      go_cut [56] from 50 to 55 (fun s56 wx => s56 = .bool true ∧ CN w wx L H v js G g)
      case first =>
        (first | go_region_with (first | (go_at_call 22; refine (refLengthOf_any HR.out H HL.out _ (CN.lnW (w := w) (v := v) (js := js) (G := G) (g := g) (by first | exact Q1.out.drew | exact Q1.out))).mono ?_; rintro e w2 ⟨rfl, hb2⟩; rw [HT.out]; have Q2 : Hid (CN w w2 L H v js G g) := Lib.hid (CN.from hb2 (by first | exact Q1.out.drew | exact Q1.out)); obtain ⟨q0, q1, q2⟩ := Q2.out.q.veh.three; obtain ⟨r0, r1, r2, r3⟩ := Q2.out.q.box.four) | fail "arm") | fail "region")
        all_goals
          go_wp2_with fail
          go_meet
          exact ⟨by first | rfl | simp [hlt], by first | exact Q2.out | exact Q2.out.drew⟩
      case rest =>
        obtain ⟨rfl, hQ2⟩ := hcut
        have Q2 := Lib.hid hQ2
        clear hQ2 c0 c1 c2 c3 v0 v1 v2 g0 g1 g2 g3 Q1
        obtain ⟨_, c0, c1, c2, c3, v0, v1, v2, g0, g1, g2, g3⟩ := Q2.out.all
        go_wp2_with fail
        refine (Beneath_any HR.out HV.out q kb0 (by omega) H HL.out _ Q2.out.lnW).mono ?_
        rw [HNL.out]
        rintro e w3 ⟨gl, rfl, hLi, hb3⟩
        have R0 : Hid (CB w w3 L H v js G g w3.heap.size gl l) := Lib.hid ⟨Q2.out.from hb3, hLi, (Q2.out.from hb3).nb.lt, Nat.le_refl _⟩
        clear hb3 hLi c0 c1 c2 c3 v0 v1 v2 g0 g1 g2 g3
        go_wp2_with fail
        go_loopw [10, 11, 12] (fun y n i wx => ∃ m : Nat, m ≤ l.length ∧ i = .int .i64 m ∧ y = .bool (yesV v.clear (devsN L v q (ns.take m))) ∧ n = .bool (noV v.clear (devsN L v q (ns.take m))) ∧ CB w wx L H v js G g wx.heap.size gl l) (fun _ _ i _ => l.length - (intOf i).toNat)
        case atStart => exact ⟨0, Nat.zero_le _, rfl, rfl, rfl, R0.out⟩
        case round =>
          clear R0 Q2
          obtain ⟨m, hm, rfl, rfl, rfl, hR⟩ := hrel
          have R1 := Lib.hid hR
          clear hR
          by_cases hlt2 : m < l.length
          · have hmn : m < ns.length := by rw [← HLN.out]; exact hlt2
            obtain ⟨x, hx⟩ : ∃ x, ns[m] = x := ⟨_, rfl⟩
            have hx0 : l[m]? = some (x : Int) := by rw [← HLL.out, List.getElem?_map, List.getElem?_eq_getElem hmn, hx]; rfl
            have hmem := HMEM.out x (by rw [← hx]; exact List.getElem_mem hmn)
            have HTK : Hid (ns.take (m + 1) = ns.take m ++ [x]) := Lib.hid (by rw [List.take_succ_eq_append_getElem hmn, hx])
            obtain ⟨a, ha, _, _⟩ := R1.out.li.num hx0
            obtain ⟨A, gc⟩ := gl
            obtain rfl : A = some a := ha
            obtain ⟨d1, d2, d3⟩ := HN.out.dev HDW.out (v := v) (p := q) x
            obtain ⟨lo, hlo⟩ : ∃ r, devLo L v q x = r := ⟨_, rfl⟩
            obtain ⟨hi, hhi⟩ : ∃ r, devHi L v q x = r := ⟨_, rfl⟩
            obtain ⟨lo2, hlo2⟩ : ∃ r, devLo (withJ L js) v q x = r := ⟨_, rfl⟩
            obtain ⟨hi2, hhi2⟩ : ∃ r, devHi (withJ L js) v q x = r := ⟨_, rfl⟩
            rw [hlo, hlo2] at d1
            rw [hlo2, hhi2] at d2
            rw [hhi2, hhi] at d3
            have x1 : ¬ lo2 < lo := by omega
            have x2 : ¬ hi2 < lo2 := by omega
            have x3 : ¬ hi < hi2 := by omega
            have HYS : Hid (yesV v.clear (devsN L v q (ns.take (m + 1))) = (yesV v.clear (devsN L v q (ns.take m)) && insB v.clear lo hi)) := Lib.hid (by rw [HTK.out, devsN_snoc, hlo, hhi]; exact yesV_snoc _ _ _)
            have HNO : Hid (noV v.clear (devsN L v q (ns.take (m + 1))) = (noV v.clear (devsN L v q (ns.take m)) || noB v.clear lo hi)) := Lib.hid (by rw [HTK.out, devsN_snoc, hlo, hhi]; exact noV_snoc _ _ _)
            have HX := Lib.hid hx0
            have HB := Lib.hid hmem
            have HLO := Lib.hid (show devLo L v q ((x : Int)).toNat = lo from hlo)
            have HHI := Lib.hid (show devHi L v q ((x : Int)).toNat = hi from hhi)
            have HLO2 := Lib.hid (show devLo (withJ L js) v q ((x : Int)).toNat = lo2 from hlo2)
            have HHI2 := Lib.hid (show devHi (withJ L js) v q ((x : Int)).toNat = hi2 from hhi2)
            have hlt' : (m : Int) < (l.length : Int) := by omega
            have tk := IntWalk.i64_in ((m : Int) + 1) (by omega)
            have hsz := R1.out.b1
            obtain ⟨xi, hxi⟩ : ∃ xi : Int, (x : Int) = xi := ⟨_, rfl⟩
            rw [hxi] at HX HB HLO HHI HLO2 HHI2
            obtain ⟨yb, hyb⟩ : ∃ b, yesV v.clear (devsN L v q (ns.take m)) = b := ⟨_, rfl⟩
            obtain ⟨nb, hnb⟩ : ∃ b, noV v.clear (devsN L v q (ns.take m)) = b := ⟨_, rfl⟩
            rw [hyb] at HYS ⊢
            rw [hnb] at HNO ⊢
            clear hx0 hmem hlo hhi hlo2 hhi2 hmn hx hxi d1 d2 d3 hyb hnb
            obtain ⟨_, c0, c1, c2, c3, v0, v1, v2, g0, g1, g2, g3, y0⟩ := R1.out.all rfl HX.out
            go_upto_region 14 with fail
            go_cut [13, 14] from 71 to 155 (fun s13 s14 wx => ∃ d : Nat, s13 = .pointer (some ⟨d, 0, none⟩) ∧ s14 = .int .i64 0 ∧ CB w wx L H v js G g wr.heap.size ⟨some a, gc⟩ l ∧ wx.cell? ⟨d, 0, none⟩ = some (.int .i64 lo) ∧ wx.cell? ⟨d, 1, none⟩ = some (.int .i64 hi))
            case first =>
              go_region_held3 (fun W => CB w W L H v js G g wr.heap.size ⟨some a, gc⟩ l ∧ W.cell? ⟨w.heap.size, 0, none⟩ = some (.string L.name) ∧ W.cell? ⟨w.heap.size, 1, none⟩ = some (.slice H.j.A L.js.length H.j.c) ∧ W.cell? ⟨w.heap.size, 2, none⟩ = some (.slice H.b.A L.bs.length H.b.c) ∧ W.cell? ⟨w.heap.size, 3, none⟩ = some (.slice H.s.A L.ss.length H.s.c) ∧ W.cell? ⟨w.heap.size + 1, 0, none⟩ = some (.int .i64 v.len) ∧ W.cell? ⟨w.heap.size + 1, 1, none⟩ = some (.int .i64 v.clear) ∧ W.cell? ⟨w.heap.size + 1, 2, none⟩ = some (.int .i64 v.step) ∧ W.cell? ⟨g, 0, none⟩ = some (.string L.name) ∧ W.cell? ⟨g, 1, none⟩ = some (.slice G.j.A L.js.length G.j.c) ∧ W.cell? ⟨g, 2, none⟩ = some (.slice G.b.A L.bs.length G.b.c) ∧ W.cell? ⟨g, 3, none⟩ = some (.slice G.s.A L.ss.length G.s.c) ∧ W.cell? (a.add m) = some (.int .i64 xi))
                ((go_split_ands; refine CB.all ?_ rfl HX.out; (first | assumption | exact R1.out.drew | (repeat (first | assumption | exact R1.out | refine CB.alloc ?_ _ | refine CB.drew ?_ | (refine CB.set ?_ (by first | exact Nat.le_refl _ | omega | (simp; omega)) _)))); done))
                ((first | (go_at_call 18; go_split_ands; refine (Copy_at L H HL.out HH.out _ ((show CB w _ L H v js G g wr.heap.size ⟨some a, gc⟩ l by assumption).c.lnW)).mono ?_; rintro e wC ⟨GC, rfl, hGC, hbC⟩; have SC : CB w wC L H v js G g wr.heap.size ⟨some a, gc⟩ l := CB.from hbC (by assumption); have zC := SC.b2; have AC := Lib.hid hGC; clear hGC; (first | (have N0 : Bk wC wr.heap.size 54 #[.int .i64 0, .int .i64 0] := Bk.call ((Bk.new wr 54 #[.int .i64 0, .int .i64 0]).drew) hbC; obtain ⟨n0, n1, n2, n3⟩ := N0.two) | skip)) | (go_at_call 54; go_split_ands; refine (devL_at HR.out HC.out HL.out HV.out HP0.out HPM.out HB.out HLO.out HHI.out GC _ (by first | exact AC.out | exact AC.out.allocW _)).mono ?_; rintro e wD ⟨rfl, hbD⟩; have SD : CB w wD L H v js G g wr.heap.size ⟨some a, gc⟩ l := CB.from hbD (by assumption); have zD := SD.b2; (first | (have M0 : Bk wD wr.heap.size 54 #[.int .i64 0, .int .i64 0] := Bk.call N0 hbD; obtain ⟨m0, m1, m2, m3⟩ := M0.two) | skip); (first | (have K0 : Bk wD wC.heap.size 54 #[.int .i64 0, .int .i64 0] := Bk.call (Bk.new wC 54 #[.int .i64 0, .int .i64 0]) hbD; obtain ⟨k0, k1, k2, k3⟩ := K0.two) | skip)) | fail "arm"))
              all_goals
                go_split_ands
                go_wp2_with fail
                go_meet
                refine ⟨_, rfl, rfl, by assumption, ?_, ?_⟩
              all_goals (first | (go_simp; done) | (simp [*]; done) | skip)
            case rest =>
              obtain ⟨wx, rfl⟩ : ∃ W, W = wc := ⟨_, rfl⟩
              obtain ⟨d, rfl, rfl, hR2, kd0, kd1⟩ := hcut
              have R2 : Hid (CD w wx L H v js G g wx.heap.size ⟨some a, gc⟩ l d lo hi) := Lib.hid ⟨hR2.up, kd0, kd1, cell_lt kd0⟩
              clear hR2 kd0 kd1 R1 c0 c1 c2 c3 v0 v1 v2 g0 g1 g2 g3 y0 hsz
              have hsz := R2.out.b.b1
              obtain ⟨_, c0, c1, c2, c3, v0, v1, v2, g0, g1, g2, g3, y0⟩ := R2.out.all rfl HX.out
              go_upto_region 15 with fail
              go_cut [15, 16] from 84 to 155 (fun s15 s16 wz => ∃ d2 : Nat, s15 = .pointer (some ⟨d2, 0, none⟩) ∧ s16 = .int .i64 0 ∧ CD w wz L H v js G g wx.heap.size ⟨some a, gc⟩ l d lo hi ∧ wz.cell? ⟨d2, 0, none⟩ = some (.int .i64 lo2) ∧ wz.cell? ⟨d2, 1, none⟩ = some (.int .i64 hi2))
              case first =>
                go_region_held3 (fun W => CD w W L H v js G g wx.heap.size ⟨some a, gc⟩ l d lo hi ∧ W.cell? ⟨w.heap.size, 0, none⟩ = some (.string L.name) ∧ W.cell? ⟨w.heap.size, 1, none⟩ = some (.slice H.j.A L.js.length H.j.c) ∧ W.cell? ⟨w.heap.size, 2, none⟩ = some (.slice H.b.A L.bs.length H.b.c) ∧ W.cell? ⟨w.heap.size, 3, none⟩ = some (.slice H.s.A L.ss.length H.s.c) ∧ W.cell? ⟨w.heap.size + 1, 0, none⟩ = some (.int .i64 v.len) ∧ W.cell? ⟨w.heap.size + 1, 1, none⟩ = some (.int .i64 v.clear) ∧ W.cell? ⟨w.heap.size + 1, 2, none⟩ = some (.int .i64 v.step) ∧ W.cell? ⟨g, 0, none⟩ = some (.string L.name) ∧ W.cell? ⟨g, 1, none⟩ = some (.slice G.j.A L.js.length G.j.c) ∧ W.cell? ⟨g, 2, none⟩ = some (.slice G.b.A L.bs.length G.b.c) ∧ W.cell? ⟨g, 3, none⟩ = some (.slice G.s.A L.ss.length G.s.c) ∧ W.cell? (a.add m) = some (.int .i64 xi))
                  ((go_split_ands; refine CD.all ?_ rfl HX.out; (first | assumption | exact R2.out.drew | (repeat (first | assumption | exact R2.out | refine CD.alloc ?_ _ | refine CD.drew ?_ | (refine CD.set ?_ (by first | exact Nat.le_refl _ | omega | (simp; omega)) _)))); done))
                  ((first | (go_at_call 18; go_split_ands; refine (copyN_at HN.out HR.out HL.out G HG.out _ ((show CD w _ L H v js G g wx.heap.size ⟨some a, gc⟩ l d lo hi by assumption).b.c.nlW)).mono ?_; rintro e wC ⟨GC, rfl, hGC, hbC⟩; have SC : CD w wC L H v js G g wx.heap.size ⟨some a, gc⟩ l d lo hi := CD.from hbC (by assumption); have zC := SC.b.b2; have AC := Lib.hid hGC; clear hGC; (first | (have N0 : Bk wC wx.heap.size 54 #[.int .i64 0, .int .i64 0] := Bk.call ((Bk.new wx 54 #[.int .i64 0, .int .i64 0]).drew) hbC; obtain ⟨n0, n1, n2, n3⟩ := N0.two) | skip)) | (go_at_call 54; go_split_ands; refine (devN_at HN.out HR.out HC.out HL.out HV.out HP0.out HPM.out HB.out HLO2.out HHI2.out GC _ (by first | exact AC.out | exact AC.out.allocW _)).mono ?_; rintro e wD ⟨rfl, hbD⟩; have SD : CD w wD L H v js G g wx.heap.size ⟨some a, gc⟩ l d lo hi := CD.from hbD (by assumption); have zD := SD.b.b2; (first | (have M0 : Bk wD wx.heap.size 54 #[.int .i64 0, .int .i64 0] := Bk.call N0 hbD; obtain ⟨m0, m1, m2, m3⟩ := M0.two) | skip); (first | (have K0 : Bk wD wC.heap.size 54 #[.int .i64 0, .int .i64 0] := Bk.call (Bk.new wC 54 #[.int .i64 0, .int .i64 0]) hbD; obtain ⟨k0, k1, k2, k3⟩ := K0.two) | skip)) | fail "arm"))
                all_goals
                  go_split_ands
                  go_wp2_with fail
                  go_meet
                  refine ⟨_, rfl, rfl, by assumption, ?_, ?_⟩
                all_goals (first | (go_simp; done) | (simp [*]; done) | skip)
              case rest =>
                obtain ⟨wz, rfl⟩ : ∃ W, W = wc := ⟨_, rfl⟩
                obtain ⟨d2, rfl, rfl, hR3, e0, e1⟩ := hcut
                have R3 := Lib.hid hR3
                clear hR3 R2 c0 c1 c2 c3 v0 v1 v2 g0 g1 g2 g3 y0 hsz
                obtain ⟨_, c0, c1, c2, c3, v0, v1, v2, g0, g1, g2, g3, y0⟩ := R3.out.all rfl HX.out
                have kd0 := R3.out.k0
                have kd1 := R3.out.k1
                clear c0 c1 c2 c3 g0 g1 g2 g3 y0
                go_upto_region 18 with fail
                go_cut [10] from 124 to 155 (fun s10 wu => s10 = .bool (yb && insB v.clear lo hi) ∧ wu = wz)
                case first =>
                  cases yb
                  · go_wp2_with fail
                    go_meet
                    exact ⟨rfl, rfl⟩
                  · by_cases h1 : -v.clear ≤ lo <;> by_cases h2 : hi ≤ v.clear
                    all_goals
                      have h1' := h1
                      have h2' := h2
                      go_wp2_with fail
                      go_meet
                      exact ⟨by simp [insB, h1, h2], rfl⟩
                case rest =>
                  obtain ⟨rfl, rfl⟩ := hcut
                  cases nb
                  · by_cases h1 : hi < -v.clear
                    · go_wp2_with fail
                      go_roundw
                      case rel => exact ⟨m + 1, by omega, by go_num, by rw [HYS.out], by rw [HNO.out]; simp [noB, h1], R3.out.b.up⟩
                      case measure => simp [intOf]; omega
                    · by_cases h2 : v.clear < lo
                      all_goals
                        go_wp2_with fail
                        go_roundw
                        case rel => exact ⟨m + 1, by omega, by go_num, by rw [HYS.out], by rw [HNO.out]; simp [noB, h1, h2], R3.out.b.up⟩
                        case measure => simp [intOf]; omega
                  · go_wp2_with fail
                    go_roundw
                    case rel => exact ⟨m + 1, by omega, by go_num, by rw [HYS.out], by rw [HNO.out]; rfl, R3.out.b.up⟩
                    case measure => simp [intOf]; omega
          · obtain rfl : m = l.length := by omega
            have hte : ns.take l.length = ns := by rw [HLN.out, List.take_length]
            rw [hte]
            obtain ⟨n0, hn0⟩ : ∃ n, clrV v.clear (devsN L v q ns) = n := ⟨_, rfl⟩
            obtain ⟨n1, hn1⟩ : ∃ n, clrV v.clear (devsN (withJ L js) v q ns) = n := ⟨_, rfl⟩
            have hkd := HKD.out
            rw [hn0, hn1] at hkd
            have HN0 := Lib.hid hn0
            have HN1 := Lib.hid hn1
            obtain ⟨yb, hyb⟩ : ∃ b, yesV v.clear (devsN L v q ns) = b := ⟨_, rfl⟩
            obtain ⟨nb, hnb⟩ : ∃ b, noV v.clear (devsN L v q ns) = b := ⟨_, rfl⟩
            rw [hyb, hnb] at hkd
            rw [hyb, hnb]
            have HK := Lib.hid hkd
            have C1 := Lib.hid R1.out.c
            clear hte hn0 hn1 hkd hyb hnb R1
            obtain ⟨_, c0, c1, c2, c3, v0, v1, v2, g0, g1, g2, g3⟩ := C1.out.all
            go_upto_region 20 with fail
            go_cut [17, 18] from 156 to 203 (fun s17 s18 wx => s17 = .int .i64 n0 ∧ s18 = .int .i64 0 ∧ CN w wx L H v js G g)
            case first =>
              go_region_held3 (fun W => CN w W L H v js G g ∧ W.cell? ⟨w.heap.size, 0, none⟩ = some (.string L.name) ∧ W.cell? ⟨w.heap.size, 1, none⟩ = some (.slice H.j.A L.js.length H.j.c) ∧ W.cell? ⟨w.heap.size, 2, none⟩ = some (.slice H.b.A L.bs.length H.b.c) ∧ W.cell? ⟨w.heap.size, 3, none⟩ = some (.slice H.s.A L.ss.length H.s.c) ∧ W.cell? ⟨w.heap.size + 1, 0, none⟩ = some (.int .i64 v.len) ∧ W.cell? ⟨w.heap.size + 1, 1, none⟩ = some (.int .i64 v.clear) ∧ W.cell? ⟨w.heap.size + 1, 2, none⟩ = some (.int .i64 v.step) ∧ W.cell? ⟨g, 0, none⟩ = some (.string L.name) ∧ W.cell? ⟨g, 1, none⟩ = some (.slice G.j.A L.js.length G.j.c) ∧ W.cell? ⟨g, 2, none⟩ = some (.slice G.b.A L.bs.length G.b.c) ∧ W.cell? ⟨g, 3, none⟩ = some (.slice G.s.A L.ss.length G.s.c))
                ((go_split_ands; first | exact CN.all (by assumption) | exact CN.all (CN.from (by assumption) (by assumption)) | exact CN.all C1.out.drew | fail "keep"))
                ((first | (go_at_call 18; go_split_ands; refine (Copy_at L H HL.out HH.out _ (show CN w _ L H v js G g by assumption).lnW).mono ?_; rintro e wA ⟨GA, rfl, hGA, hbA⟩; have AA := Lib.hid hGA; clear hGA) | (go_at_call 61; go_split_ands; refine (clrL_at HR.out HC.out HL.out HV.out HP0.out HPM.out HNS.out HN0.out GA _ (by first | exact AA.out | exact AA.out.allocW _)).mono ?_; rintro e wB ⟨rfl, hbB⟩) | fail "arm"))
              all_goals
                go_split_ands
                go_wp2_with fail
                go_meet
                exact ⟨rfl, rfl, by assumption⟩
            case rest =>
              obtain ⟨rfl, rfl, hC2⟩ := hcut
              have C2 := Lib.hid hC2
              clear hC2 C1 c0 c1 c2 c3 v0 v1 v2 g0 g1 g2 g3
              obtain ⟨_, c0, c1, c2, c3, v0, v1, v2, g0, g1, g2, g3⟩ := C2.out.all
              go_upto_region 21 with fail
              go_cut [19, 20] from 164 to 203 (fun s19 s20 wx => s19 = .int .i64 n1 ∧ s20 = .int .i64 0 ∧ CN w wx L H v js G g)
              case first =>
                go_region_held3 (fun W => CN w W L H v js G g ∧ W.cell? ⟨w.heap.size, 0, none⟩ = some (.string L.name) ∧ W.cell? ⟨w.heap.size, 1, none⟩ = some (.slice H.j.A L.js.length H.j.c) ∧ W.cell? ⟨w.heap.size, 2, none⟩ = some (.slice H.b.A L.bs.length H.b.c) ∧ W.cell? ⟨w.heap.size, 3, none⟩ = some (.slice H.s.A L.ss.length H.s.c) ∧ W.cell? ⟨w.heap.size + 1, 0, none⟩ = some (.int .i64 v.len) ∧ W.cell? ⟨w.heap.size + 1, 1, none⟩ = some (.int .i64 v.clear) ∧ W.cell? ⟨w.heap.size + 1, 2, none⟩ = some (.int .i64 v.step) ∧ W.cell? ⟨g, 0, none⟩ = some (.string L.name) ∧ W.cell? ⟨g, 1, none⟩ = some (.slice G.j.A L.js.length G.j.c) ∧ W.cell? ⟨g, 2, none⟩ = some (.slice G.b.A L.bs.length G.b.c) ∧ W.cell? ⟨g, 3, none⟩ = some (.slice G.s.A L.ss.length G.s.c))
                  ((go_split_ands; first | exact CN.all (by assumption) | exact CN.all (CN.from (by assumption) (by assumption)) | exact CN.all C2.out.drew | fail "keep"))
                  ((first | (go_at_call 18; go_split_ands; refine (copyN_at HN.out HR.out HL.out G HG.out _ (show CN w _ L H v js G g by assumption).nlW).mono ?_; rintro e wA ⟨GA, rfl, hGA, hbA⟩; have AA := Lib.hid hGA; clear hGA) | (go_at_call 61; go_split_ands; refine (clrN_at HN.out HR.out HC.out HL.out HV.out HP0.out HPM.out HNS.out HN1.out GA _ (by first | exact AA.out | exact AA.out.allocW _)).mono ?_; rintro e wB ⟨rfl, hbB⟩) | fail "arm"))
                all_goals
                  go_split_ands
                  go_wp2_with fail
                  go_meet
                  exact ⟨rfl, rfl, by assumption⟩
              case rest =>
                obtain ⟨rfl, rfl, hC3⟩ := hcut
                have C3 := Lib.hid hC3
                clear hC3 C2 c0 c1 c2 c3 v0 v1 v2 g0 g1 g2 g3
                obtain ⟨_, c0, c1, c2, c3, v0, v1, v2, g0, g1, g2, g3⟩ := C3.out.all
                clear c0 c1 c2 c3 g0 g1 g2 g3
                have hk3 := HK.out
                clear HK
                rcases hk3 with ⟨rfl, rfl, rfl, rfl⟩ | ⟨rfl, rfl, rfl, rfl⟩ | ⟨rfl, rfl, rfl⟩
                all_goals
                  go_wp2_with fail
                  go_roundw
                  case rel => exact ⟨k + 1, HKB.out, by rw [HE.out], C3.out⟩
                  case measure => simp [intOf]; omega
    · go_wp2_with fail
      (first | go_region_with (first | (go_at_call 22; refine (refLengthOf_any HR.out H HL.out _ (CN.lnW (w := w) (v := v) (js := js) (G := G) (g := g) (by first | exact Q1.out.drew | exact Q1.out))).mono ?_; rintro e w2 ⟨rfl, hb2⟩; rw [HT.out]; have Q2 : Hid (CN w w2 L H v js G g) := Lib.hid (CN.from hb2 (by first | exact Q1.out.drew | exact Q1.out)); obtain ⟨q0, q1, q2⟩ := Q2.out.q.veh.three; obtain ⟨r0, r1, r2, r3⟩ := Q2.out.q.box.four) | fail "arm") | fail "region")
      all_goals
        go_wp2_with fail
        go_ret
        exact ⟨rfl, by first | exact Q2.out.q.bl | exact Q2.out.q.bl.drew | exact below_drewN Q2.out.q.bl _⟩
end Go.Proofs.Ytmnlgeglmkdecaa
