/-
  The walks of the copies.
-/
import Derived.Test.YtmnlgeglmkdecaaMem
import Derived.Test.YtmnlgeglmkdecaaRows
import Derived.WalkLawsBesides
import Derived.Laws.AppendOwnNone
import Derived.Outline
namespace Go.Proofs.Ytmnlgeglmkdecaa
open Go.RowKit

theorem info_int : (Try.prog.info? 3).map (fun i => (i.zero, i.size, i.bytes)) = some (some (.int .i64 0), 1, 8) := by kernel_rfl
theorem info_joint : (Try.prog.info? 56).map (fun i => (i.zero, i.size, i.bytes)) = some (some (.agg #[.int .i64 0, .int .i64 0, .int .i64 0, .int .i64 0]), 4, 32) := by kernel_rfl
theorem info_beam : (Try.prog.info? 59).map (fun i => (i.zero, i.size, i.bytes)) = some (some (.agg #[.int .i64 0, .int .i64 0]), 2, 16) := by kernel_rfl
theorem info_switch : (Try.prog.info? 113).map (fun i => (i.zero, i.size, i.bytes)) = some (some (.agg #[.string ⟨#[]⟩, .int .i64 0, .slice none 0 0]), 3, 48) := by kernel_rfl

theorem ic_one (l : List Int) : ∀ u ∈ ic l, u.oneCell' = true := by
  intro u hu
  obtain ⟨x, _, rfl⟩ := List.mem_map.1 hu
  rfl
theorem jc_one (l : List Lj) : ∀ u ∈ l.flatMap jc, u.oneCell' = true := by
  intro u hu
  obtain ⟨x, _, hx⟩ := List.mem_flatMap.1 hu
  simp [jc] at hx
  rcases hx with rfl | rfl | rfl | rfl <;> rfl
theorem bc_one (l : List Lb) : ∀ u ∈ l.flatMap bc, u.oneCell' = true := by
  intro u hu
  obtain ⟨x, _, hx⟩ := List.mem_flatMap.1 hu
  simp [bc] at hx
  rcases hx with rfl | rfl <;> rfl
theorem flat_len {α : Type} (f : α → List Value) (n : Nat) (hf : ∀ a, (f a).length = n) : ∀ l : List α, (l.flatMap f).length = l.length * n
  | [] => by simp
  | a :: l => by simp [List.flatMap_cons, hf, flat_len f n hf l, Nat.succ_mul, Nat.add_comm]

/-- A nil slice has no room. -/
def HdOk (h : Hd) : Prop := h.A = none → h.c = 0

/-- What an owned row is as a slice. -/
theorem own_slice {w : World} {base n size : Nat} {e : TypeId} {v : Value} {xs : List Value} (h : w.ownsRow base e size v n xs) : ∃ h : Hd, v = .slice h.A n h.c ∧ Lies w w.heap.size h.A xs ∧ HdOk h ∧ (∀ a, h.A = some a → base ≤ a.block) := by
  rcases h.2 with ⟨e1, hn⟩ | ⟨g, cap, cur, e1, hb, _⟩
  · subst e1
    subst hn
    exact ⟨⟨none, 0⟩, rfl, Lies.of_own h, fun _ => rfl, fun a h => by cases h⟩
  · subst e1
    exact ⟨⟨some ⟨g, 0, none⟩, cap⟩, rfl, Lies.of_own h, (fun h => by cases h), fun a h => by cases h; exact hb⟩

theorem own_keep {w w' : World} {base n size : Nat} {e : TypeId} {v : Value} {xs : List Value} (h : w.ownsRow base e size v n xs) (hk : ∀ g, v.ownBlock = some g → w'.heap[g]? = w.heap[g]?) : w'.ownsRow base e size v n xs := by
  refine ⟨h.1, ?_⟩
  rcases h.2 with hn | ⟨g, cap, cur, rfl, hb, hgg, rest⟩
  · exact .inl hn
  · exact .inr ⟨g, cap, cur, rfl, hb, (hk g rfl).trans hgg, rest⟩
theorem own_below {w w' : World} {base n size : Nat} {e : TypeId} {v : Value} {xs : List Value} (h : w.ownsRow base e size v n xs) (hb : Below w.heap.size w w') : w'.ownsRow base e size v n xs :=
  own_keep h fun g hg => hb.block g (h.lt g hg).2
theorem own_ne {w : World} {b1 b2 n1 n2 s1 s2 : Nat} {e1 e2 : TypeId} {v1 v2 : Value} {x1 x2 : List Value} (h1 : w.ownsRow b1 e1 s1 v1 n1 x1) (h2 : w.ownsRow b2 e2 s2 v2 n2 x2) (hne : e1 ≠ e2) {g : Nat} (hg : v1.ownBlock = some g) : v2.ownBlock ≠ some g := by
  intro hg2
  rcases h1.2 with ⟨rfl, _⟩ | ⟨g1, c1, cur1, rfl, _, hh1, _⟩
  · simp [Value.ownBlock] at hg
  · rcases h2.2 with ⟨rfl, _⟩ | ⟨g2, c2, cur2, rfl, _, hh2, _⟩
    · simp [Value.ownBlock] at hg2
    · simp [Value.ownBlock] at hg hg2
      subst hg
      subst hg2
      rw [hh1] at hh2
      simp at hh2
      exact hne hh2.2
theorem own_grown {w w' : World} {b1 b2 n1 n2 s1 s2 : Nat} {e1 e2 : TypeId} {v1 v2 : Value} {x1 x2 : List Value} (h1 : w.ownsRow b1 e1 s1 v1 n1 x1) (h2 : w.ownsRow b2 e2 s2 v2 n2 x2) (hne : e1 ≠ e2) (hg : w.grownBy w' v2.ownBlock) : w'.ownsRow b1 e1 s1 v1 n1 x1 :=
  own_keep h1 fun g hv => hg.block g (h1.lt g hv).2 (fun e => own_ne h1 h2 hne hv e.symm)
theorem own_more {w : World} {base b' n size : Nat} {e : TypeId} {v : Value} {xs : List Value} (h : w.ownsRow base e size v n xs) (hb : b' ≤ base) : w.ownsRow b' e size v n xs := by
  refine ⟨h.1, ?_⟩
  rcases h.2 with hn | ⟨g, cap, cur, rfl, hbb, rest⟩
  · exact .inl hn
  · exact .inr ⟨g, cap, cur, rfl, by omega, rest⟩
theorem own_lies {w : World} {base n size : Nat} {e : TypeId} {g : Hd} {xs : List Value} (h : w.ownsRow base e size (.slice g.A n g.c) n xs) : Lies w w.heap.size g.A xs ∧ HdOk g := by
  obtain ⟨k, hk, h1, h2, _⟩ := own_slice h
  simp only [Value.slice.injEq] at hk
  obtain ⟨A, c⟩ := g
  obtain ⟨A', c'⟩ := k
  simp only at hk
  obtain ⟨rfl, _, rfl⟩ := hk
  exact ⟨h1, h2⟩

set_option maxHeartbeats 400000 in
theorem CopyInts_any (l : List Int) (h : Hd) (hl : l.length ≤ 1000) (hk : HdOk h) (w : World) (hA : Lies w w.heap.size h.A (ic l)) :
    Calls Try.prog 79 #[.slice h.A l.length h.c] w fun e w' => ∃ g : Hd, e = .returned (.slice g.A l.length g.c) ∧ w'.ownsRow w.heap.size 3 1 (.slice g.A l.length g.c) l.length (ic l) ∧ Below w.heap.size w w' := by
  obtain ⟨A, c⟩ := h
  obtain ⟨i0, hi, hz0, hz1, hz2⟩ := info_parts info_int
  have b0 := (Below.refl w.heap.size w).alloc (Nat.le_refl _) (.cells #[] 3)
  have ho := World.ownsRow_made (base := w.heap.size) (e := 3) (size := 1) w #[] 0 (Nat.le_refl _) (by unfold maxLen; omega) rfl
  have HO := Lib.hid ho
  have HB := Lib.hid b0
  have HA := Lib.hid (hA.below b0)
  clear ho b0 hA
  cases A with
  | none =>
    obtain rfl : c = 0 := hk rfl
    have hl0 : l = [] := by
      cases l with
      | nil => rfl
      | cons x l => obtain ⟨a, h, _⟩ := HA.out.num (i := 0) (x := x) rfl; cases h
    subst hl0
    go_enter Try.func79, Try.ntmps79
    go_wp2_with (at_builtin; refine wpList_append_own_none rfl _ _ 67 rfl w.heap.size 3 i0 1 Try.underlying67 hi _ 0 [] rfl HO.out rfl ?_)
    go_ret
    exact ⟨⟨_, _⟩, rfl, HO.out, HB.out⟩
  | some a =>
    have k1 : Hid ((ic l).length = l.length * 1) := Lib.hid (by simp [ic])
    have k2 : Hid (∀ j u, (ic l)[j]? = some u → (w.alloc (.cells #[] 3)).cell? (a.add j) = some u) := Lib.hid (fun j u hu => by obtain ⟨a', e, _, h⟩ := HA.out j u hu; cases e; exact h)
    go_enter Try.func79, Try.ntmps79
    go_wp2_with (at_builtin; refine wpList_append_own _ rfl _ _ 67 rfl w.heap.size 3 i0 (.int .i64 0) 1 8 Try.underlying67 hi hz0 hz1 hz2 rfl (by decide) _ 0 [] rfl HO.out a l.length c (ic l) rfl k1.out k2.out (ic_one l) (by unfold maxLen; omega) (by omega) (by simp) ?_; intro v' w1 ho1 hg1 _; obtain ⟨g, rfl, hL1, hk1, hg2⟩ := own_slice ho1)
    go_ret
    have hg3 : (w.alloc (.cells #[] 3)).grownBy w1 (some w.heap.size) := hg1
    rw [Nat.zero_add, List.nil_append] at ho1
    exact ⟨g, rfl, ho1, HB.out.grown hg3 HB.out.size (fun k e => by cases e; exact Nat.le_refl _)⟩

theorem Bk.adds {w : World} {g : Nat} {t : TypeId} {cs : Array Value} (h : Bk w g t cs) : ∀ j u, cs.toList[j]? = some u → w.cell? ((⟨g, 0, none⟩ : Addr).add j) = some u := by
  intro j u hu
  have : (⟨g, 0, none⟩ : Addr).add j = ⟨g, j, none⟩ := by unfold Addr.add; split <;> simp_all
  rw [this, h.cell j]
  simpa using hu
theorem Lies.adds {w : World} {B : Nat} {a : Addr} {vs : List Value} (h : Lies w B (some a) vs) : ∀ j u, vs[j]? = some u → w.cell? (a.add j) = some u := fun j u hu => by
  obtain ⟨a', e, _, hc⟩ := h j u hu; cases e; exact hc
theorem Lies.none_nil {w : World} {B : Nat} {vs : List Value} (h : Lies w B none vs) : vs = [] := by
  cases vs with
  | nil => rfl
  | cons x l => obtain ⟨a, e, _⟩ := h 0 x rfl; cases e

structure HdsOk (H : Hds) : Prop where
  j : HdOk H.j
  b : HdOk H.b
  s : HdOk H.s
  each : ∀ h ∈ H.each, HdOk h

/-- An append of all of a slice that came in onto an empty one. -/
theorem wpList_append_all {w : World} {ops : Array Oper} {rest : List Oper} {o : Oper} {a : Act} {Q : Exit → Act → World → Prop} (hgd : o.guard = none) (s x : Operand) (t : TypeId)
    (ho : o.op = .call { callee := .builtin .append, args := #[s, x], argTypes := #[t, t] })
    (e : TypeId) (z : Value) (size bytes : Nat) (ht : Try.prog.underlying t = some (.slice e)) (hinfo : (Try.prog.info? e).map (fun i => (i.zero, i.size, i.bytes)) = some (some z, size, bytes)) (hzs : z.cells.size = size) (hsz : 0 < size) (hby : bytes ≤ 1000)
    (w0 : World) (hw : w0.alloc (.cells #[] e) = w) (n0 : Nat) (hn0 : w0.heap.size = n0) (hs : a.eval s = .slice (some ⟨n0, 0, none⟩) 0 0) (h : Hd) (hk : HdOk h) (m B : Nat) (news : List Value) (hm : m ≤ 1000) (hx : a.eval x = .slice h.A m h.c) (hl : news.length = m * size) (hA : Lies w B h.A news) (h1 : ∀ u ∈ news, u.oneCell' = true)
    (hK : ∀ (g : Hd) w', w'.ownsRow w0.heap.size e size (.slice g.A m g.c) m news → Below w0.heap.size w0 w' → wpList Try.prog ops Q rest (a.put o.dst (.slice g.A m g.c)) w') : wpList Try.prog ops Q (o :: rest) a w := by
  subst hw
  subst hn0
  have b0 := (Below.refl w0.heap.size w0).alloc (Nat.le_refl _) (.cells #[] e)
  have hown := World.ownsRow_made (base := w0.heap.size) (e := e) (size := size) w0 #[] 0 (Nat.le_refl _) (by unfold maxLen; omega) (by simp)
  obtain ⟨i0, hi, hz0, hz1, hz2⟩ := info_parts hinfo
  obtain ⟨A, c⟩ := h
  cases A with
  | none =>
    obtain rfl : c = 0 := hk rfl
    have hn : news = [] := Lies.none_nil hA
    subst hn
    have hm0 : m = 0 := by
      rcases Nat.eq_zero_or_pos m with h0 | h0
      · exact h0
      · have := Nat.mul_pos h0 hsz; simp at hl; omega
    subst hm0
    exact wpList_append_own_none hgd s x t ho w0.heap.size e i0 size ht hi _ 0 [] hs hown hx (hK ⟨some ⟨w0.heap.size, 0, none⟩, 0⟩ _ hown b0)
  | some ad =>
    refine wpList_append_own _ hgd s x t ho w0.heap.size e i0 z size bytes ht hi hz0 hz1 hz2 hzs hsz _ 0 [] hs hown ad m c news hx hl hA.adds h1 (by unfold maxLen; omega) ?_ (by simp) ?_
    · have : (0 + m) * bytes ≤ 1000 * 1000 := Nat.mul_le_mul (by omega) hby
      omega
    · intro v' w1 ho1 hg1 _
      rw [Nat.zero_add, List.nil_append] at ho1
      obtain ⟨g, rfl, _⟩ := own_slice ho1
      exact hK g w1 ho1 (b0.grown hg1 b0.size (fun k e => by simp [Value.ownBlock] at e; omega))

theorem Bk.put {w : World} {g : Nat} {t : TypeId} {cs : Array Value} (h : Bk w g t cs) (i : Nat) (u : Value) : Bk (w.setCell ⟨g, i, none⟩ u) g t (cs.setIfInBounds i u) := by
  unfold Bk at h ⊢
  simp [World.setCell, Array.getElem?_modify, h]
theorem own_far {w : World} {base n size : Nat} {e : TypeId} {v : Value} {xs : List Value} {p : Addr} {u : Value} (h : w.ownsRow base e size v n xs) (hb : p.block < base) : (w.setCell p u).ownsRow base e size v n xs :=
  own_keep h fun g hg => Below.heap_setCell w p u g (by have := h.lt g hg; omega)
theorem own_far5 {w : World} {B n size : Nat} {e : TypeId} {v : Value} {xs : List Value} {a b c d f : Value} (h : w.ownsRow (B + 2) e size v n xs) :
    (((((w.setCell ⟨B, 3, none⟩ a).setCell ⟨B + 1, 0, none⟩ b).setCell ⟨B + 1, 1, none⟩ c).setCell ⟨B + 1, 2, none⟩ d).setCell ⟨B + 1, 3, none⟩ f).ownsRow (B + 2) e size v n xs :=
  own_far (own_far (own_far (own_far (own_far h (by show B < B + 2; omega)) (by show B + 1 < B + 2; omega)) (by show B + 1 < B + 2; omega)) (by show B + 1 < B + 2; omega)) (by show B + 1 < B + 2; omega)
theorem zip_snoc {ss : List Ls} {k : Nat} (hk : k < ss.length) {hs : List Hd} (hl : hs.length = k) (g : Hd) : ((ss.take (k + 1)).zip (hs ++ [g])).flatMap sc = ((ss.take k).zip hs).flatMap sc ++ sc (ss[k], g) := by
  rw [List.take_succ_eq_append_getElem hk, List.zip_append (by rw [List.length_take]; omega)]
  simp
theorem new_set (w : World) (p : Addr) (u : Value) (t : TypeId) (cs : Array Value) : Bk ((w.setCell p u).alloc (.cells cs t)) w.heap.size t cs := by
  have h := Bk.new (w.setCell p u) t cs
  simpa [World.setCell] using h
theorem Below.of_set {w : World} {B : Nat} {p : Addr} {u : Value} (h : B ≤ p.block) : Below B w (w.setCell p u) := (Below.refl B w).setCell h u

/-- A line in rows of its own, from block B on. -/
structure OLn (w : World) (B : Nat) (L : Ll) (G : Hds) : Prop where
  j : w.ownsRow B 56 4 (.slice G.j.A L.js.length G.j.c) L.js.length (L.js.flatMap jc)
  b : w.ownsRow B 59 2 (.slice G.b.A L.bs.length G.b.c) L.bs.length (L.bs.flatMap bc)
  n : G.each.length = L.ss.length
  s : w.ownsRow B 113 3 (.slice G.s.A L.ss.length G.s.c) L.ss.length ((L.ss.zip G.each).flatMap sc)
  a : ∀ (i : Nat) (t : Ls) (h : Hd), L.ss[i]? = some t → G.each[i]? = some h → w.ownsRow B 3 1 (.slice h.A t.across.length h.c) t.across.length (ic t.across)
section
variable {w w' : World} {B : Nat} {L : Ll} {G : Hds}
theorem OLn.at_ (h : OLn w B L G) : LnAt w w.heap.size L G :=
  ⟨(own_lies h.j).1, (own_lies h.b).1, h.n, (own_lies h.s).1, fun i t x h1 h2 => (own_lies (h.a i t x h1 h2)).1⟩
theorem OLn.heads (h : OLn w B L G) : HdsOk G := by
  refine ⟨(own_lies h.j).2, (own_lies h.b).2, (own_lies h.s).2, fun x hx => ?_⟩
  obtain ⟨i, hi, rfl⟩ := List.getElem_of_mem hx
  have hi2 : i < L.ss.length := by have := h.n; omega
  exact (own_lies (h.a i _ _ (List.getElem?_eq_getElem hi2) (List.getElem?_eq_getElem hi))).2
theorem OLn.below (h : OLn w B L G) (hb : Below w.heap.size w w') : OLn w' B L G :=
  ⟨own_below h.j hb, own_below h.b hb, h.n, own_below h.s hb, fun i t x h1 h2 => own_below (h.a i t x h1 h2) hb⟩
theorem OLn.far (h : OLn w B L G) {p : Addr} (hp : p.block < B) (u : Value) : OLn (w.setCell p u) B L G :=
  ⟨own_far h.j hp, own_far h.b hp, h.n, own_far h.s hp, fun i t x h1 h2 => own_far (h.a i t x h1 h2) hp⟩
end

set_option maxHeartbeats 4000000 in
set_option maxRecDepth 100000 in
theorem Copy_own (L : Ll) (H : Hds) (hL : L.ok) (hH : HdsOk H) (w : World) (hA : LnAt w w.heap.size L H) :
    Calls Try.prog 18 #[(.agg #[.string L.name, .slice H.j.A L.js.length H.j.c, .slice H.b.A L.bs.length H.b.c, .slice H.s.A L.ss.length H.s.c])] w fun e w' => ∃ G : Hds, e = .returned (.agg #[.string L.name, .slice G.j.A L.js.length G.j.c, .slice G.b.A L.bs.length G.b.c, .slice G.s.A L.ss.length G.s.c]) ∧ OLn w' w.heap.size L G ∧ Below w.heap.size w w' := by
  obtain ⟨Hj, Hb, ⟨As, cs⟩, each⟩ := H
  have b0 := ((Below.refl w.heap.size w).alloc (Nat.le_refl _) (.cells #[.string L.name, .slice Hj.A L.js.length Hj.c, .slice Hb.A L.bs.length Hb.c, .slice As L.ss.length cs] 26)).alloc (by simp) (.cells #[.string ⟨#[]⟩, .slice none 0 0, .slice none 0 0, .slice none 0 0] 26)
  have X0 := Lib.hid ((Bk.new w 26 #[.string L.name, .slice Hj.A L.js.length Hj.c, .slice Hb.A L.bs.length Hb.c, .slice As L.ss.length cs]).alloc (.cells #[.string ⟨#[]⟩, .slice none 0 0, .slice none 0 0, .slice none 0 0] 26))
  have R0 := Lib.hid (Bk.new1 w (.cells #[.string L.name, .slice Hj.A L.js.length Hj.c, .slice Hb.A L.bs.length Hb.c, .slice As L.ss.length cs] 26) 26 #[.string ⟨#[]⟩, .slice none 0 0, .slice none 0 0, .slice none 0 0])
  have HB := Lib.hid b0
  have hj := Lib.hid ((hA.j.below b0).below (((Below.refl w.heap.size _).alloc (by simp; omega) (.cells #[] 56))))
  have lj := Lib.hid (flat_len jc 4 (fun _ => rfl) L.js)
  have lb := Lib.hid (flat_len bc 2 (fun _ => rfl) L.bs)
  have hnj := hL.nj
  have hnb := hL.nb
  have hns := hL.ns
  have HL := Lib.hid hL
  have HH := Lib.hid hH
  have HA := Lib.hid hA
  clear b0 hA hH hL
  go_enter Try.func18, Try.ntmps18
  go_wp2_with (at_builtin; refine wpList_append_all rfl _ _ 22 rfl 56 _ 4 32 Try.underlying22 info_joint rfl (by decide) (by decide) _ rfl _ (by simp) rfl Hj HH.out.j L.js.length w.heap.size (L.js.flatMap jc) hnj rfl lj.out hj.out (jc_one _) ?_)
  intro gj w1 oj bj
  have X1 := Lib.hid (X0.out.below bj (by omega))
  obtain ⟨c0, c1, c2, c3⟩ := X1.out.four
  obtain ⟨f0, f1⟩ : w1.frozen? ⟨w.heap.size, 1, none⟩ = false ∧ w1.frozen? ⟨w.heap.size, 2, none⟩ = false := ⟨X1.out.frozen 1, X1.out.frozen 2⟩
  have X2 : Hid (Bk ((w1.setCell ⟨w.heap.size, 1, none⟩ (.slice gj.A L.js.length gj.c)).alloc (.cells #[] 59)) w.heap.size 26 #[.string L.name, .slice gj.A L.js.length gj.c, .slice Hb.A L.bs.length Hb.c, .slice As L.ss.length cs]) := Lib.hid ((X1.out.put 1 _).alloc _)
  obtain ⟨d0, d1, d2, d3⟩ := X2.out.four
  have b1 := Lib.hid (HB.out.trans (bj.mono (by omega)))
  have hb := Lib.hid (((HA.out.b.below b1.out).below (Below.of_set (p := ⟨w.heap.size, 1, none⟩) (u := .slice gj.A L.js.length gj.c) (Nat.le_refl _))).below ((Below.refl w.heap.size (w1.setCell ⟨w.heap.size, 1, none⟩ (.slice gj.A L.js.length gj.c))).alloc (by have := b1.out.size; simp [World.setCell]; omega) (.cells #[] 59)))
  go_wp2_with (at_builtin; refine wpList_append_all rfl _ _ 23 rfl 59 _ 2 16 Try.underlying23 info_beam rfl (by decide) (by decide) _ rfl _ (by simp) rfl Hb HH.out.b L.bs.length w.heap.size (L.bs.flatMap bc) hnb rfl lb.out hb.out (bc_one _) ?_)
  intro gb w2 ob bb
  clear c0 c1 c2 c3 d0 d1 d2 d3 f0 f1
  have hw1 : Hid (w.heap.size + 2 ≤ w1.heap.size) := Lib.hid (by have := (R0.out.below bj (by omega)).lt; omega)
  have X3 : Hid (Bk w2 w.heap.size 26 #[.string L.name, .slice gj.A L.js.length gj.c, .slice Hb.A L.bs.length Hb.c, .slice As L.ss.length cs]) := Lib.hid ((X1.out.put 1 (.slice gj.A L.js.length gj.c)).below bb X1.out.lt)
  have R3 := Lib.hid (((R0.out.below bj (by omega)).far (p := ⟨w.heap.size, 1, none⟩) (by simp) (.slice gj.A L.js.length gj.c)).below bb (R0.out.below bj (by omega)).lt)
  have B3 := Lib.hid ((b1.out.setCell (p := ⟨w.heap.size, 1, none⟩) (Nat.le_refl _) (.slice gj.A L.js.length gj.c)).trans (bb.mono b1.out.size))
  have oj3 := Lib.hid (own_keep (w' := w2) oj (fun g hg => by
    have h1 := oj.lt g hg
    exact (bb.block g h1.2).trans (Below.heap_setCell w1 _ _ g (by simp; omega))))
  obtain ⟨c0, c1, c2, c3⟩ := X3.out.four
  have f2 := X3.out.frozen 2
  go_wp2_with fail
  obtain ⟨W3, hW3⟩ : ∃ W3, w2.setCell ⟨w.heap.size, 2, none⟩ (.slice gb.A L.bs.length gb.c) = W3 := ⟨_, rfl⟩
  have X4 : Hid (Bk W3 w.heap.size 26 #[.string L.name, .slice gj.A L.js.length gj.c, .slice gb.A L.bs.length gb.c, .slice As L.ss.length cs]) := Lib.hid (by rw [← hW3]; exact X3.out.put 2 _)
  have R4 := Lib.hid (R3.out.far (p := ⟨w.heap.size, 2, none⟩) (by simp) (.slice gb.A L.bs.length gb.c))
  have B4 := Lib.hid (B3.out.setCell (p := ⟨w.heap.size, 2, none⟩) (Nat.le_refl _) (.slice gb.A L.bs.length gb.c))
  have oj4 := Lib.hid (own_keep (w' := W3) oj3.out (fun g hg => by rw [← hW3]; exact Below.heap_setCell w2 _ _ g (by have := oj.lt g hg; simp; omega)))
  have ob4 := Lib.hid (own_keep (w' := W3) ob (fun g hg => by rw [← hW3]; exact Below.heap_setCell w2 _ _ g (by have := ob.lt g hg; have := X1.out.lt; simp; omega)))
  rw [hW3] at R4 B4
  simp only [hW3]
  clear c0 c1 c2 c3 f2 hW3 X1 X2 X3 R3 B3 oj3 oj ob bb bj b1 hb hj X0 R0
  have HX := Lib.hid (show w.heap.size + 1 < W3.heap.size from R4.out.lt)
  go_loopw [3, 4] (fun s i wr => ∃ (k : Nat) (hs : List Hd), k ≤ L.ss.length ∧ i = .int .i64 k ∧ hs.length = k ∧ wr.ownsRow W3.heap.size 113 3 s k (((L.ss.take k).zip hs).flatMap sc) ∧
      (∀ (i : Nat) (t : Ls) (h : Hd), L.ss[i]? = some t → hs[i]? = some h → wr.ownsRow W3.heap.size 3 1 (.slice h.A t.across.length h.c) t.across.length (ic t.across)) ∧ Below W3.heap.size W3 wr)
    (fun _ i _ => L.ss.length - (intOf i).toNat)
  case atStart => exact ⟨0, [], Nat.zero_le _, rfl, rfl, by simpa using World.ownsRow_nil _ _ _ _, fun i t h _ h2 => by simp at h2, Below.refl _ _⟩
  case round =>
    rename_i v0 i0
    obtain ⟨k, hs, hk, rfl, hl, hown, hrows, hwr⟩ := hrel
    have HO := Lib.hid hown
    have HR := Lib.hid hrows
    have HW := Lib.hid hwr
    have HLn := Lib.hid hl
    have X5 := Lib.hid (X4.out.below hwr X4.out.lt)
    have R5 := Lib.hid (R4.out.below hwr R4.out.lt)
    have hsz := HX.out
    have hsz2 := hwr.size
    clear hown hrows hwr hl
    obtain ⟨c0, c1, c2, c3⟩ := X5.out.four
    by_cases hlt : k < L.ss.length
    · have hn : each.length = L.ss.length := HA.out.n
      have hp : k < (L.ss.zip each).length := by rw [List.length_zip, hn]; simpa using hlt
      obtain ⟨hd, he1, he2⟩ : ∃ hd, (L.ss.zip each)[k]? = some (L.ss[k], hd) ∧ each[k]? = some hd := ⟨each[k]'(by omega), by rw [List.getElem?_eq_getElem hp, List.getElem_zip], List.getElem?_eq_getElem _⟩
      have HB5 := Lib.hid (B4.out.trans (HW.out.mono (by omega)))
      obtain ⟨a', ha', _, j0, j1, j2⟩ := (HA.out.s.below HB5.out).switch he1
      have HLi := Lib.hid (((HA.out.a k _ hd (List.getElem?_eq_getElem hlt) he2).below HB5.out).more HB5.out.size)
      have hkd := Lib.hid (HH.out.each hd (List.mem_of_getElem? he2))
      simp only at ha'
      subst ha'
      simp only at j0 j1 j2
      obtain ⟨s, hs'⟩ : ∃ s, L.ss[k] = s := ⟨_, rfl⟩
      have hsl := (HL.out.na s (by rw [← hs']; exact List.getElem_mem hlt)).1
      rw [hs'] at j0 j1 j2 HLi
      have HSS := Lib.hid hs'
      clear hs' hp he1 he2 hn
      obtain ⟨wo, hwo⟩ : ∃ wo : World, wo = wr := ⟨_, rfl⟩
      subst hwo
      have bT := Lib.hid ((Below.refl wo.heap.size wo).alloc (Nat.le_refl _) (.cells #[.string s.name, .int .i64 s.first, .slice hd.A s.across.length hd.c] 113))
      have V0 := Lib.hid (Bk.new wo 113 #[.string s.name, .int .i64 s.first, .slice hd.A s.across.length hd.c])
      obtain ⟨i1, hi, hz0, hz1, hz2⟩ := info_parts info_switch
      go_wp2_with (first | (at_builtin; refine wpList_append_own _ rfl _ _ 24 rfl W3.heap.size 113 i1 _ 3 48 Try.underlying24 hi hz0 hz1 hz2 rfl (by decide) _ k _ rfl (own_below HO.out B6.out) ⟨w5.heap.size, 0, none⟩ 1 1 (sc (s, g)) rfl rfl N6.out.adds one.out (by unfold maxLen; omega) (by omega) hw3.out ?_) | (go_at_call 79; refine (CopyInts_any s.across hd hsl hkd.out _ ((HLi.out.below bT.out).more bT.out.size)).mono ?_; rintro e w5 ⟨g, rfl, og, b5⟩; have V5 := Lib.hid (V0.out.call b5); obtain ⟨v0, v1, v2⟩ := V5.out.three; have f2 := V5.out.frozen 2; have OG := Lib.hid og; have B5 := Lib.hid b5; clear og b5; have B6 := Lib.hid (((bT.out.trans (B5.out.mono (by simp))).setCell (p := ⟨wo.heap.size, 2, none⟩) (Nat.le_refl _) (.slice g.A s.across.length g.c)).alloc (by have := V5.out.lt; simp [World.setCell]; omega) (.cells #[.string s.name, .int .i64 s.first, .slice g.A s.across.length g.c] 113)); have N6 := Lib.hid (new_set w5 ⟨wo.heap.size, 2, none⟩ (.slice g.A s.across.length g.c) 113 #[.string s.name, .int .i64 s.first, .slice g.A s.across.length g.c]); have hw3 : Hid (W3.heap.size ≤ ((w5.setCell ⟨wo.heap.size, 2, none⟩ (.slice g.A s.across.length g.c)).alloc (.cells #[.string s.name, .int .i64 s.first, .slice g.A s.across.length g.c] 113)).heap.size) := Lib.hid (by have := HW.out.size; have := B6.out.size; omega); have one : Hid (∀ u ∈ sc (s, g), u.oneCell' = true) := Lib.hid (by intro u hu; simp [sc] at hu; rcases hu with rfl | rfl | rfl <;> rfl)))
      intro v' w7 o7 g7 _
      have o6 := own_below HO.out B6.out
      have og6 : Hid (((w5.setCell ⟨wo.heap.size, 2, none⟩ (.slice g.A s.across.length g.c)).alloc (.cells #[.string s.name, .int .i64 s.first, .slice g.A s.across.length g.c] 113)).ownsRow W3.heap.size 3 1 (.slice g.A s.across.length g.c) s.across.length (ic s.across)) := Lib.hid (own_more (own_keep OG.out (fun q hq => by
        have h1 := OG.out.lt q hq
        have h2 : wo.heap.size < q := by have := h1.1; simp at this; omega
        exact (Below.heap_alloc _ _ q (by simp [World.setCell]; exact h1.2)).trans (Below.heap_setCell w5 _ _ q (by simp; omega)))) (by have := HW.out.size; simp; omega))
      have rel := Lib.hid (And.intro (show w7.ownsRow W3.heap.size 113 3 v' (k + 1) (((L.ss.take (k + 1)).zip (hs ++ [g])).flatMap sc) by rw [zip_snoc hlt HLn.out, HSS.out]; exact o7) (And.intro
        (show ∀ (i : Nat) (t : Ls) (h : Hd), L.ss[i]? = some t → (hs ++ [g])[i]? = some h → w7.ownsRow W3.heap.size 3 1 (.slice h.A t.across.length h.c) t.across.length (ic t.across) from fun i t h h1 h2 => by
          by_cases hik : i < k
          · rw [List.getElem?_append_left (by rw [HLn.out]; exact hik)] at h2
            exact own_grown (own_below (HR.out i t h h1 h2) B6.out) o6 (by decide) g7
          · have hi2 : i = k := by
              have := (List.getElem?_eq_some_iff.1 h2).1
              rw [List.length_append, HLn.out] at this
              simp at this; omega
            subst hi2
            rw [List.getElem?_append_right (by rw [HLn.out]; omega), HLn.out] at h2
            simp at h2
            subst h2
            rw [List.getElem?_eq_getElem hlt, HSS.out] at h1
            injection h1 with h1
            subst h1
            exact own_grown og6.out o6 (by decide) g7)
        (show Below W3.heap.size W3 w7 from (HW.out.trans (B6.out.mono (by have := HW.out.size; omega))).grown g7 hw3.out (fun q e => (o6.lt q e).1))))
      clear o6 o7 g7 og6
      go_wp2_with fail
      go_roundw
      case rel => exact ⟨k + 1, hs ++ [g], by omega, by go_num, by simp [HLn.out], rel.out.1, rel.out.2.1, rel.out.2.2⟩
      case measure => simp [intOf]; omega
    · obtain rfl : k = L.ss.length := by omega
      obtain ⟨gs, rfl, hLs, hks, _⟩ := own_slice HO.out
      obtain ⟨r0, r1, r2, r3⟩ := R5.out.four
      obtain ⟨f0, f1, f2, f3⟩ : wr.frozen? ⟨w.heap.size + 1, 0, none⟩ = false ∧ wr.frozen? ⟨w.heap.size + 1, 1, none⟩ = false ∧ wr.frozen? ⟨w.heap.size + 1, 2, none⟩ = false ∧ wr.frozen? ⟨w.heap.size + 1, 3, none⟩ = false := ⟨R5.out.frozen 0, R5.out.frozen 1, R5.out.frozen 2, R5.out.frozen 3⟩
      have f4 := X5.out.frozen 3
      have HLs := Lib.hid hLs
      clear hLs
      go_wp2_with fail
      refine bodyPost_ret (v := .agg #[.string L.name, .slice gj.A L.js.length gj.c, .slice gb.A L.bs.length gb.c, .slice gs.A L.ss.length gs.c]) (by simp [results, Try.results18, go_sem, r0, r1, r2, r3]) rfl ⟨⟨gj, gb, gs, hs⟩, rfl, ?_, ?_⟩
      · have hO := HO.out
        rw [List.take_length] at hO
        have h3 := HX.out
        exact ⟨own_more (own_far5 (own_more (own_below oj4.out HW.out) (by omega))) (by omega), own_more (own_far5 (own_more (own_below ob4.out HW.out) hw1.out)) (by omega), HLn.out, own_more (own_far5 (own_more hO (by omega))) (by omega), fun i t h h1 h2 => own_more (own_far5 (own_more (HR.out i t h h1 h2) (by omega))) (by omega)⟩
      · exact (B4.out.trans (HW.out.mono (by omega))).setCell (by simp) _ |>.setCell (by simp) _ |>.setCell (by simp) _ |>.setCell (by simp) _ |>.setCell (by simp) _
theorem Copy_any (L : Ll) (H : Hds) (hL : L.ok) (hH : HdsOk H) (w : World) (hA : LnAt w w.heap.size L H) :
    Calls Try.prog 18 #[(.agg #[.string L.name, .slice H.j.A L.js.length H.j.c, .slice H.b.A L.bs.length H.b.c, .slice H.s.A L.ss.length H.s.c])] w fun e w' => ∃ G : Hds, e = .returned (.agg #[.string L.name, .slice G.j.A L.js.length G.j.c, .slice G.b.A L.bs.length G.b.c, .slice G.s.A L.ss.length G.s.c]) ∧ LnAt w' w'.heap.size L G ∧ HdsOk G ∧ Below w.heap.size w w' :=
  (Copy_own L H hL hH w hA).mono fun _ _ ⟨G, he, ho, hb⟩ => ⟨G, he, ho.at_, ho.heads, hb⟩
end Go.Proofs.Ytmnlgeglmkdecaa
