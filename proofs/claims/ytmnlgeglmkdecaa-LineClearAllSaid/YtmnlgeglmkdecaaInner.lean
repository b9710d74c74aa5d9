/-
  The walk of Inner: a right line's copy, each Off cut to a part of it.
-/
import Derived.Test.YtmnlgeglmkdecaaNar
namespace Go.Proofs.Ytmnlgeglmkdecaa
open Go.RowKit

def uc (l : List Int) : List Value := l.map (Value.int .u8)
theorem Lies.byte {w : World} {B : Nat} {A : Option Addr} {l : List Int} {i : Nat} {x : Int} (h : Lies w B A (uc l)) (hj : l[i]? = some x) : ∃ a, A = some a ∧ a.block < B ∧ w.cell? (a.add i) = some (.int .u8 x) :=
  h _ _ (by unfold uc; rw [List.getElem?_map, hj]; rfl)

/-- A joint with an Off that is cut. -/
def narJ (b : Int) (j : Lj) : Lj := { j with lo := j.lo + (j.hi - j.lo) * (b % 4) / 4, hi := max (j.lo + (j.hi - j.lo) * (b % 4) / 4) (j.hi - (j.hi - j.lo) * (b / 4 % 4) / 4) }
theorem part_le {d q : Int} (hd : 0 ≤ d) (q0 : 0 ≤ q) (q3 : q ≤ 3) : 0 ≤ d * q ∧ d * q ≤ 3 * d ∧ 0 ≤ d * q / 4 ∧ d * q / 4 ≤ d := by
  have : q = 0 ∨ q = 1 ∨ q = 2 ∨ q = 3 := by omega
  rcases this with rfl | rfl | rfl | rfl <;> omega
theorem narJ_nar {b : Int} {j : Lj} (h : j.lo ≤ j.hi) : NarJ j (narJ b j) := by
  have h1 := part_le (d := j.hi - j.lo) (q := b % 4) (by omega) (by omega) (by omega)
  have h2 := part_le (d := j.hi - j.lo) (q := b / 4 % 4) (by omega) (by omega) (by omega)
  unfold NarJ narJ
  refine ⟨rfl, rfl, ?_, ?_, ?_⟩
  · show j.lo ≤ j.lo + (j.hi - j.lo) * (b % 4) / 4; omega
  · show j.lo + (j.hi - j.lo) * (b % 4) / 4 ≤ max _ _; omega
  · show max (j.lo + (j.hi - j.lo) * (b % 4) / 4) (j.hi - (j.hi - j.lo) * (b / 4 % 4) / 4) ≤ j.hi; omega
/-- The joints, the first so many of them cut. -/
def narS (bs : List Int) (js : List Lj) : Nat → List Lj
  | 0 => js
  | k + 1 => match bs[k]?, js[k]? with
    | some b, some j => (narS bs js k).set k (narJ b j)
    | _, _ => narS bs js k
theorem narS_len (bs : List Int) (js : List Lj) : ∀ k, (narS bs js k).length = js.length
  | 0 => rfl
  | k + 1 => by
    have ih := narS_len bs js k
    unfold narS
    split
    · rw [List.length_set]; exact ih
    · exact ih
theorem narS_far (bs : List Int) (js : List Lj) : ∀ (k i : Nat), k ≤ i → (narS bs js k)[i]? = js[i]?
  | 0, i, _ => rfl
  | k + 1, i, h => by
    have ih := narS_far bs js k i (by omega)
    unfold narS
    split
    · rw [List.getElem?_set_ne (by omega)]; exact ih
    · exact ih
theorem narS_succ {bs : List Int} {js : List Lj} {k : Nat} {b : Int} {j : Lj} (hb : bs[k]? = some b) (hj : js[k]? = some j) : narS bs js (k + 1) = (narS bs js k).set k (narJ b j) := by
  rw [narS, hb, hj]
theorem narS_nar {L : Ll} (hr : Right L) (bs : List Int) : ∀ k, Nar L (narS bs L.js k)
  | 0 => ⟨rfl, fun i j j' h h' => by
    have e : j = j' := by have h2 : L.js[i]? = some j' := h'; rw [h] at h2; injection h2
    subst e
    have := joint_in (hr.j _ (List.mem_of_getElem? h))
    exact ⟨rfl, rfl, Int.le_refl _, this.2.2.2.2.2.2, Int.le_refl _⟩⟩
  | k + 1 => by
    have ih := narS_nar hr bs k
    refine ⟨narS_len bs L.js (k + 1), fun i j j' h h' => ?_⟩
    unfold narS at h'
    split at h'
    · rename_i b j0 hb hj0
      by_cases e : i = k
      · subst e
        rw [h] at hj0
        injection hj0 with hj0
        subst hj0
        have hlt : i < (narS bs L.js i).length := by rw [ih.n]; exact (List.getElem?_eq_some_iff.1 h).1
        rw [List.getElem?_set_self hlt] at h'
        injection h' with h'
        subst h'
        exact narJ_nar (joint_in (hr.j _ (List.mem_of_getElem? h))).2.2.2.2.2.2
      · rw [List.getElem?_set_ne (by omega)] at h'
        exact ih.at_ i j j' h h'
    · exact ih.at_ i j j' h h'

theorem flat_set : ∀ (js : List Lj) (k : Nat) (j : Lj) (lo hi : Int), js[k]? = some j → ((js.flatMap jc).set (k * 4 + 2) (.int .i64 lo)).set (k * 4 + 3) (.int .i64 hi) = (js.set k { j with lo := lo, hi := hi }).flatMap jc
  | [], k, j, lo, hi, h => by simp at h
  | x :: l, 0, j, lo, hi, h => by
    simp at h
    subst h
    simp [jc]
  | x :: l, k + 1, j, lo, hi, h => by
    have ih := flat_set l k j lo hi (by simpa using h)
    rw [List.flatMap_cons, List.set_cons_succ, List.flatMap_cons, ← ih]
    have e2 : (k + 1) * 4 + 2 = (jc x).length + (k * 4 + 2) := by simp [jc]; omega
    have e3 : (k + 1) * 4 + 3 = (jc x).length + (k * 4 + 3) := by simp [jc]; omega
    rw [e2, e3, List.set_append_right _ _ (by omega), List.set_append_right _ _ (by omega)]
    congr 1
    congr 1
    · congr 1; omega
    · omega

theorem OLn.row {w : World} {B : Nat} {L : Ll} {G : Hds} (h : OLn w B L G) (hn : 0 < L.js.length) : ∃ g, G.j.A = some ⟨g, 0, none⟩ ∧ B ≤ g ∧ g < w.heap.size := by
  rcases h.j.2 with ⟨_, h0⟩ | ⟨g, cap, cur, e, hb, hg, _⟩
  · omega
  · injection e with e _ _
    exact ⟨g, e, hb, (Array.getElem?_eq_some_iff.1 hg).1⟩
theorem OLn.setJ {w : World} {B : Nat} {L : Ll} {G : Hds} (h : OLn w B L G) {g : Nat} (hg : G.j.A = some ⟨g, 0, none⟩) {k : Nat} {j : Lj} (hk : L.js[k]? = some j) (lo hi : Int) :
    OLn ((w.setCell ⟨g, k * 4 + 2, none⟩ (.int .i64 lo)).setCell ⟨g, k * 4 + 3, none⟩ (.int .i64 hi)) B (withJ L (L.js.set k { j with lo := lo, hi := hi })) G := by
  obtain ⟨⟨Aj, cj⟩, Gb, Gs, each⟩ := G
  simp only at hg
  subst hg
  have h0 := h.j
  obtain ⟨h1, g1⟩ := h0.stored (k * 4 + 2) (.int .i64 lo)
  obtain ⟨h2, g2⟩ := h1.stored (k * 4 + 3) (.int .i64 hi)
  rw [flat_set L.js k j lo hi hk] at h2
  have other : ∀ {b n s : Nat} {e : TypeId} {v : Value} {xs : List Value}, e ≠ 56 → w.ownsRow b e s v n xs → ((w.setCell ⟨g, k * 4 + 2, none⟩ (.int .i64 lo)).setCell ⟨g, k * 4 + 3, none⟩ (.int .i64 hi)).ownsRow b e s v n xs := fun he ho =>
    own_grown (own_grown ho h0 he g1) h1 he g2
  refine ⟨?_, other (by decide) h.b, h.n, other (by decide) h.s, fun i t x e1 e2 => other (by decide) (h.a i t x e1 e2)⟩
  show World.ownsRow _ B _ 4 (.slice _ (L.js.set k { j with lo := lo, hi := hi }).length _) (L.js.set k { j with lo := lo, hi := hi }).length _
  rw [List.length_set]
  exact h2

theorem w64_in (n : Int) (h : -9223372036854775808 ≤ n ∧ n ≤ 9223372036854775807) : wrap64 n = n := by
  unfold wrap64
  omega
/-- What Inner's walk holds: the copy's box, the copy in rows of its own, the parts. -/
structure IF (w W : World) (L : Ll) (js : List Lj) (G : Hds) (gp : Hd) (bs : List Int) : Prop where
  box : Bk W w.heap.size 26 #[.string L.name, .slice G.j.A L.js.length G.j.c, .slice G.b.A L.bs.length G.b.c, .slice G.s.A L.ss.length G.s.c]
  res : Bk W (w.heap.size + 1) 26 #[.string ⟨#[]⟩, .slice none 0 0, .slice none 0 0, .slice none 0 0]
  own : OLn W (w.heap.size + 2) (withJ L js) G
  bl : Below w.heap.size w W
  pa : Lies W w.heap.size gp.A (uc bs)
  n : js.length = L.js.length
section
variable {w W W' : World} {L : Ll} {js : List Lj} {G : Hds} {gp : Hd} {bs : List Int}
theorem IF.from (h : IF w W L js G gp bs) (hb : Below W.heap.size W W') : IF w W' L js G gp bs :=
  ⟨h.box.call hb, h.res.call hb, h.own.below hb, Below.step h.bl hb, h.pa.below (hb.mono h.bl.size), h.n⟩
theorem IF.setJ {g k : Nat} {b : Int} {j : Lj} (h : IF w W L (narS bs L.js k) G gp bs) (hg : G.j.A = some ⟨g, 0, none⟩) (hgB : w.heap.size + 2 ≤ g) (hb : bs[k]? = some b) (hj : L.js[k]? = some j) {lo hi : Int} (e : narJ b j = { j with lo := lo, hi := hi }) :
    IF w ((W.setCell ⟨g, k * 4 + 2, none⟩ (.int .i64 lo)).setCell ⟨g, k * 4 + 3, none⟩ (.int .i64 hi)) L (narS bs L.js (k + 1)) G gp bs := by
  have hjs : (narS bs L.js k)[k]? = some j := (narS_far bs L.js k k (Nat.le_refl _)).trans hj
  have ho := h.own.setJ hg (k := k) (j := j) hjs lo hi
  refine ⟨(h.box.far (by show w.heap.size ≠ g; omega) _).far (by show w.heap.size ≠ g; omega) _, (h.res.far (by show w.heap.size + 1 ≠ g; omega) _).far (by show w.heap.size + 1 ≠ g; omega) _, ?_,
    (h.bl.setCell (by show w.heap.size ≤ g; omega) _).setCell (by show w.heap.size ≤ g; omega) _, (h.pa.below (Below.of_set (by show w.heap.size ≤ g; omega))).below (Below.of_set (by show w.heap.size ≤ g; omega)), ?_⟩
  · rw [narS_succ hb hj, e]
    exact ho
  · rw [narS_succ hb hj, List.length_set]
    exact h.n
theorem IF.drew (h : IF w W L js G gp bs) : IF w W.drew L js G gp bs := h.from (Below.refl _ W).drew
end

theorem inner_end {w W : World} {L : Ll} {G : Hds} {gp : Hd} {bs : List Int} {k : Nat} {a b c d : Value} (hr : Right L) (h : IF w W L (narS bs L.js k) G gp bs) (_hk : k ≤ L.js.length) :
    ∃ G' : Hds, Ending.returned (.agg #[.string L.name, .slice G.j.A L.js.length G.j.c, .slice G.b.A L.bs.length G.b.c, .slice G.s.A L.ss.length G.s.c]) = .returned (.agg #[.string L.name, .slice G'.j.A L.js.length G'.j.c, .slice G'.b.A L.bs.length G'.b.c, .slice G'.s.A L.ss.length G'.s.c]) ∧ ∃ js : List Lj, Nar L js ∧
      LnAt ((((W.setCell ⟨w.heap.size + 1, 0, none⟩ a).setCell ⟨w.heap.size + 1, 1, none⟩ b).setCell ⟨w.heap.size + 1, 2, none⟩ c).setCell ⟨w.heap.size + 1, 3, none⟩ d) ((((W.setCell ⟨w.heap.size + 1, 0, none⟩ a).setCell ⟨w.heap.size + 1, 1, none⟩ b).setCell ⟨w.heap.size + 1, 2, none⟩ c).setCell ⟨w.heap.size + 1, 3, none⟩ d).heap.size (withJ L js) G' ∧ HdsOk G' ∧
      Below w.heap.size w ((((W.setCell ⟨w.heap.size + 1, 0, none⟩ a).setCell ⟨w.heap.size + 1, 1, none⟩ b).setCell ⟨w.heap.size + 1, 2, none⟩ c).setCell ⟨w.heap.size + 1, 3, none⟩ d) := by
  have hs : ∀ u : Nat, (⟨w.heap.size + 1, u, none⟩ : Addr).block < w.heap.size + 2 := fun u => by show w.heap.size + 1 < _; omega
  have hs2 : ∀ u : Nat, w.heap.size ≤ (⟨w.heap.size + 1, u, none⟩ : Addr).block := fun u => by show _ ≤ w.heap.size + 1; omega
  have o := (((h.own.far (hs 0) a).far (hs 1) b).far (hs 2) c).far (hs 3) d
  exact ⟨G, rfl, _, narS_nar hr bs k, o.at_, o.heads, (((h.bl.setCell (hs2 0) a).setCell (hs2 1) b).setCell (hs2 2) c).setCell (hs2 3) d⟩

set_option maxHeartbeats 8000000 in
set_option maxRecDepth 100000 in
theorem Inner_any {L : Ll} (hr : Right L) (H : Hds) (hL : L.ok) (hH : HdsOk H) (gp : Hd) (bs : List Int) (hb : ∀ b ∈ bs, 0 ≤ b ∧ b ≤ 255) (hn : bs.length ≤ 1000) (w : World) (hA : LnAt w w.heap.size L H) (hP : Lies w w.heap.size gp.A (uc bs)) :
    Calls Try.prog 65 #[(.agg #[.string L.name, .slice H.j.A L.js.length H.j.c, .slice H.b.A L.bs.length H.b.c, .slice H.s.A L.ss.length H.s.c]), .slice gp.A bs.length gp.c] w fun e w' => ∃ G : Hds, e = .returned (.agg #[.string L.name, .slice G.j.A L.js.length G.j.c, .slice G.b.A L.bs.length G.b.c, .slice G.s.A L.ss.length G.s.c]) ∧ ∃ js : List Lj, Nar L js ∧ LnAt w' w'.heap.size (withJ L js) G ∧ HdsOk G ∧ Below w.heap.size w w' := by
  have b0 := ((Below.refl w.heap.size w).alloc (Nat.le_refl _) (.cells #[.string L.name, .slice H.j.A L.js.length H.j.c, .slice H.b.A L.bs.length H.b.c, .slice H.s.A L.ss.length H.s.c] 26)).alloc (by simp) (.cells #[.string ⟨#[]⟩, .slice none 0 0, .slice none 0 0, .slice none 0 0] 26)
  have X0 := Lib.hid ((Bk.new w 26 #[.string L.name, .slice H.j.A L.js.length H.j.c, .slice H.b.A L.bs.length H.b.c, .slice H.s.A L.ss.length H.s.c]).alloc (.cells #[.string ⟨#[]⟩, .slice none 0 0, .slice none 0 0, .slice none 0 0] 26))
  have R0 := Lib.hid (Bk.new1 w (.cells #[.string L.name, .slice H.j.A L.js.length H.j.c, .slice H.b.A L.bs.length H.b.c, .slice H.s.A L.ss.length H.s.c] 26) 26 #[.string ⟨#[]⟩, .slice none 0 0, .slice none 0 0, .slice none 0 0])
  have P0 := Lib.hid (hP.below b0)
  have B0 := Lib.hid b0
  have HA := Lib.hid ((hA.below b0).more b0.size)
  have HR := Lib.hid hr
  have HH := Lib.hid hH
  have HL := Lib.hid hL
  have HBS := Lib.hid hb
  have h40 := hr.most
  have h1 := hr.one
  have hjb := hr.jb
  have hjl : 0 < L.js.length ∧ L.js.length ≤ 41 := by omega
  clear b0 hA hr hH hL hb hP hjb h40 h1
  go_enter Try.func65, Try.ntmps65
  obtain ⟨x0, x1, x2, x3⟩ := X0.out.four
  go_wp2_with fail
  refine (Copy_own L H HL.out HH.out _ HA.out).mono ?_
  rintro e w1 ⟨G, rfl, ho, hb1⟩
  have X1 := Lib.hid (X0.out.call hb1)
  have R1 := Lib.hid (R0.out.call hb1)
  have O1 := Lib.hid ho
  have B1 := Lib.hid (Below.step B0.out hb1)
  have P1 := Lib.hid (P0.out.below (hb1.mono B0.out.size))
  clear hb1 ho x0 x1 x2 x3 X0 R0 B0 P0 HA
  obtain ⟨x0, x1, x2, x3⟩ := X1.out.four
  obtain ⟨f0, f1, f2, f3⟩ : _ ∧ _ ∧ _ ∧ _ := ⟨X1.out.frozen 0, X1.out.frozen 1, X1.out.frozen 2, X1.out.frozen 3⟩
  have S1 : Hid (IF w ((((w1.setCell ⟨w.heap.size, 0, none⟩ (.string L.name)).setCell ⟨w.heap.size, 1, none⟩ (.slice G.j.A L.js.length G.j.c)).setCell ⟨w.heap.size, 2, none⟩ (.slice G.b.A L.bs.length G.b.c)).setCell ⟨w.heap.size, 3, none⟩ (.slice G.s.A L.ss.length G.s.c)) L L.js G gp bs) := Lib.hid (by
    have o : OLn w1 (w.heap.size + 2) L G := by have h := O1.out; simp at h; exact h
    exact ⟨(((X1.out.put 0 _).put 1 _).put 2 _).put 3 _, (((R1.out.far (by simp) _).far (by simp) _).far (by simp) _).far (by simp) _,
      (((o.far (by show w.heap.size < _; omega) _).far (by show w.heap.size < _; omega) _).far (by show w.heap.size < _; omega) _).far (by show w.heap.size < _; omega) _,
      (((B1.out.setCell (Nat.le_refl _) _).setCell (Nat.le_refl _) _).setCell (Nat.le_refl _) _).setCell (Nat.le_refl _) _,
      (((P1.out.below (Below.of_set (Nat.le_refl _))).below (Below.of_set (Nat.le_refl _))).below (Below.of_set (Nat.le_refl _))).below (Below.of_set (Nat.le_refl _)), rfl⟩)
  go_wp2_with fail
  generalize ((((w1.setCell ⟨w.heap.size, 0, none⟩ (.string L.name)).setCell ⟨w.heap.size, 1, none⟩ (.slice G.j.A L.js.length G.j.c)).setCell ⟨w.heap.size, 2, none⟩ (.slice G.b.A L.bs.length G.b.c)).setCell ⟨w.heap.size, 3, none⟩ (.slice G.s.A L.ss.length G.s.c)) = w2 at *
  clear x0 x1 x2 x3 f0 f1 f2 f3 X1 R1 O1 B1 P1
  go_loopw [5] (fun i wr => ∃ k : Nat, k ≤ L.js.length ∧ i = .int .i64 k ∧ IF w wr L (narS bs L.js k) G gp bs) (fun i _ => L.js.length - (intOf i).toNat)
  case atStart => exact ⟨0, Nat.zero_le _, rfl, S1.out⟩
  case round =>
    clear S1
    obtain ⟨k, hk, rfl, hS⟩ := hrel
    have S2 := Lib.hid hS
    obtain ⟨x0, x1, x2, x3⟩ := hS.box.four
    clear hS
    by_cases hlt : k < L.js.length
    · by_cases hlp : k < bs.length
      · have hlt' : (k : Int) < (L.js.length : Int) := by omega
        have hlp' : (k : Int) < (bs.length : Int) := by omega
        obtain ⟨j, hj⟩ : ∃ j, L.js[k]? = some j := ⟨_, List.getElem?_eq_getElem hlt⟩
        obtain ⟨b, hb⟩ : ∃ b, bs[k]? = some b := ⟨_, List.getElem?_eq_getElem hlp⟩
        have hjs : (narS bs L.js k)[k]? = some j := (narS_far bs L.js k k (Nat.le_refl _)).trans hj
        obtain ⟨b0, b1⟩ := HBS.out b (List.mem_of_getElem? hb)
        obtain ⟨j0, j1, j2, j3, j4, j5, j6⟩ := joint_in (HR.out.j j (List.mem_of_getElem? hj))
        obtain ⟨g, hg, hgB, hgl⟩ := S2.out.own.row (by show 0 < (narS bs L.js k).length; rw [narS_len]; exact hjl.1)
        obtain ⟨a, ha, hab, y0, y1, y2, y3⟩ := S2.out.own.at_.j.joint hjs
        have hag : a = ⟨g, 0, none⟩ := by rw [hg] at ha; injection ha with ha; exact ha.symm
        obtain ⟨⟨Aj, cj⟩, Gb, Gs, each⟩ := G
        simp only at ha hg
        subst ha
        obtain ⟨pa, hpa, _, u0⟩ := S2.out.pa.byte hb
        obtain ⟨Ap, cp⟩ := gp
        simp only at hpa
        subst hpa
        have HAG := Lib.hid hag
        have HG := Lib.hid hg
        have HJ := Lib.hid hj
        have HJS := Lib.hid hjs
        have HB := Lib.hid hb
        have FZ : Hid (∀ i, wr.frozen? ⟨g, i, none⟩ = false) := Lib.hid (fun i => by
          have h := S2.out.own.j
          simp only at h
          rw [hag] at h
          exact h.frozenAt i)
        have e1 := part_le (d := j.hi - j.lo) (q := b % 4) (by omega) (by omega) (by omega)
        have e2 := part_le (d := j.hi - j.lo) (q := b / 4 % 4) (by omega) (by omega) (by omega)
        have HNJ : Hid (narJ b j = { j with lo := j.lo + (j.hi - j.lo) * (b % 4) / 4, hi := max (j.lo + (j.hi - j.lo) * (b % 4) / 4) (j.hi - (j.hi - j.lo) * (b / 4 % 4) / 4) }) := Lib.hid rfl
        obtain ⟨wd, hwd⟩ : ∃ wd, j.hi - j.lo = wd := ⟨_, rfl⟩
        rw [hwd] at e1 e2 HNJ
        obtain ⟨q1, hq1⟩ : ∃ q, b % 4 = q := ⟨_, rfl⟩
        obtain ⟨c1, hc1⟩ : ∃ q, b / 4 = q := ⟨_, rfl⟩
        obtain ⟨q2, hq2⟩ : ∃ q, c1 % 4 = q := ⟨_, rfl⟩
        rw [hq1] at e1 HNJ
        rw [hc1, hq2] at e2 HNJ
        obtain ⟨m1, hm1⟩ : ∃ m, wd * q1 = m := ⟨_, rfl⟩
        obtain ⟨m2, hm2⟩ : ∃ m, wd * q2 = m := ⟨_, rfl⟩
        rw [hm1] at e1 HNJ
        rw [hm2] at e2 HNJ
        obtain ⟨d1, hd1⟩ : ∃ m, m1 / 4 = m := ⟨_, rfl⟩
        obtain ⟨d2, hd2⟩ : ∃ m, m2 / 4 = m := ⟨_, rfl⟩
        rw [hd1] at e1 HNJ
        rw [hd2] at e2 HNJ
        obtain ⟨lo, hlo⟩ : ∃ m, j.lo + d1 = m := ⟨_, rfl⟩
        obtain ⟨hi, hhi⟩ : ∃ m, j.hi - d2 = m := ⟨_, rfl⟩
        rw [hlo, hhi] at HNJ
        have t1 : IntKind.i64.wrap (j.hi - j.lo) = wd := (IntWalk.i64_in _ (by omega)).trans hwd
        have t2 : IntKind.u8.wrap (b.tmod 4) = q1 := by rw [Int.tmod_eq_emod_of_nonneg b0, hq1]; exact IntWalk.u8_in _ (by omega)
        have t3 : IntKind.i64.wrap q1 = q1 := IntWalk.i64_in _ (by omega)
        have t4 : IntKind.i64.wrap (wd * q1) = m1 := by rw [hm1]; exact IntWalk.i64_in _ (by omega)
        have t5 : IntKind.i64.wrap (m1.tdiv 4) = d1 := by rw [Int.tdiv_eq_ediv_of_nonneg (by omega), hd1]; exact IntWalk.i64_in _ (by omega)
        have t6 : IntKind.i64.wrap (j.lo + d1) = lo := (IntWalk.i64_in _ (by omega)).trans hlo
        have t7 : IntKind.u8.wrap (b.tdiv 4) = c1 := by rw [Int.tdiv_eq_ediv_of_nonneg b0, hc1]; exact IntWalk.u8_in _ (by omega)
        have t8 : IntKind.u8.wrap (c1.tmod 4) = q2 := by rw [Int.tmod_eq_emod_of_nonneg (by omega), hq2]; exact IntWalk.u8_in _ (by omega)
        have t9 : IntKind.i64.wrap q2 = q2 := IntWalk.i64_in _ (by omega)
        have t10 : IntKind.i64.wrap (wd * q2) = m2 := by rw [hm2]; exact IntWalk.i64_in _ (by omega)
        have t11 : IntKind.i64.wrap (m2.tdiv 4) = d2 := by rw [Int.tdiv_eq_ediv_of_nonneg (by omega), hd2]; exact IntWalk.i64_in _ (by omega)
        have t12 : IntKind.i64.wrap (j.hi - d2) = hi := (IntWalk.i64_in _ (by omega)).trans hhi
        have t13 := IntWalk.i64_in ((k : Int) + 1) (by omega)
        obtain ⟨jl, hjlo⟩ : ∃ m, j.lo = m := ⟨_, rfl⟩
        obtain ⟨jh, hjhi⟩ : ∃ m, j.hi = m := ⟨_, rfl⟩
        rw [hjlo] at t1 t6 y2
        rw [hjhi] at t1 t12 y3
        have V1 : Hid (wrap64 (jl + wrap64 ((wrap64 (wd * wrap64 (b.tmod 4))).tdiv 4)) = lo) := Lib.hid (by
          rw [Int.tmod_eq_emod_of_nonneg b0, hq1, w64_in q1 (by omega), hm1, w64_in m1 (by omega), Int.tdiv_eq_ediv_of_nonneg (by omega), hd1, w64_in d1 (by omega), ← hjlo, hlo]
          exact w64_in _ (by omega))
        have V2 : Hid (wrap64 (jh - wrap64 ((wrap64 (wd * wrap64 (c1.tmod 4))).tdiv 4)) = hi) := Lib.hid (by
          rw [Int.tmod_eq_emod_of_nonneg (show 0 ≤ c1 by omega), hq2, w64_in q2 (by omega), hm2, w64_in m2 (by omega), Int.tdiv_eq_ediv_of_nonneg (by omega), hd2, w64_in d2 (by omega), ← hjhi, hhi]
          exact w64_in _ (by omega))
        clear e1 e2 hwd hq1 hc1 hq2 hm1 hm2 hd1 hd2 hlo hhi hjlo hjhi hj hjs hb hag hg b0 b1 j0 j1 j2 j3 j4 j5 j6
        have S3 : Hid (IF w (wr.alloc (.cells #[.int .i64 jl, .int .i64 jh] 54)) L (narS bs L.js k) ⟨⟨some a, cj⟩, Gb, Gs, each⟩ ⟨some pa, cp⟩ bs) := Lib.hid (S2.out.from ((Below.refl _ wr).alloc (Nat.le_refl _) _))
        have D3 := Lib.hid (Bk.new wr 54 #[.int .i64 jl, .int .i64 jh])
        obtain ⟨pa', hpa', _, z9⟩ := S3.out.pa.byte HB.out
        simp only at hpa'
        injection hpa' with hpa'
        subst hpa'
        obtain ⟨a', ha', _, _, _, z2, z3⟩ := S3.out.own.at_.j.joint HJS.out
        simp only at ha'
        injection ha' with ha'
        subst ha'
        have FZ3 : Hid (∀ i, (wr.alloc (.cells #[.int .i64 jl, .int .i64 jh] 54)).frozen? ⟨g, i, none⟩ = false) := Lib.hid (fun i => by
          have h := S3.out.own.j
          simp only at h
          rw [HAG.out] at h
          exact h.frozenAt i)
        obtain ⟨fz2, fz3⟩ : (wr.alloc (.cells #[.int .i64 jl, .int .i64 jh] 54)).frozen? ⟨(a.add (k * 4)).block, (a.add (k * 4)).off + 2, none⟩ = false ∧ (wr.alloc (.cells #[.int .i64 jl, .int .i64 jh] 54)).frozen? ⟨(a.add (k * 4)).block, (a.add (k * 4)).off + 3, none⟩ = false := by
          rw [HAG.out, add_zero]
          exact ⟨FZ3.out _, FZ3.out _⟩
        obtain ⟨w0, w1', w2', w3'⟩ := S3.out.box.four
        obtain ⟨d0, d1', _, _⟩ := D3.out.two
        by_cases hmx : lo < hi
        all_goals
          have HMX := Lib.hid hmx
          go_wp2_with fail
          go_region
          all_goals
            go_wp2_with fail
            (first | go_region | fail "region8")
          all_goals
            go_wp2_with fail
            go_roundw
            case rel =>
              refine ⟨k + 1, by omega, by go_num, ?_⟩
              rw [V1.out, V2.out, HAG.out, add_zero]
              have hE : narJ b j = { j with lo := lo, hi := if lo < hi then hi else lo } := by
                rw [HNJ.out]
                congr 1
                split <;> omega
              have h := IF.setJ S3.out HG.out hgB HB.out HJ.out hE
              rw [HAG.out] at h
              exact h.drew.drew
            case measure => simp [intOf]; omega
      · have hlt' : (k : Int) < (L.js.length : Int) := by omega
        have hlp' : ¬ (k : Int) < (bs.length : Int) := by omega
        obtain ⟨r0, r1, r2, r3⟩ := S2.out.res.four
        obtain ⟨f0, f1, f2, f3⟩ : _ ∧ _ ∧ _ ∧ _ := ⟨S2.out.res.frozen 0, S2.out.res.frozen 1, S2.out.res.frozen 2, S2.out.res.frozen 3⟩
        go_wp2_with fail
        refine bodyPost_ret (v := .agg #[.string L.name, .slice G.j.A L.js.length G.j.c, .slice G.b.A L.bs.length G.b.c, .slice G.s.A L.ss.length G.s.c]) (by simp [results, Try.results65, go_sem, r0, r1, r2, r3]) rfl (inner_end HR.out S2.out (by omega))
    · obtain rfl : k = L.js.length := by omega
      obtain ⟨r0, r1, r2, r3⟩ := S2.out.res.four
      obtain ⟨f0, f1, f2, f3⟩ : _ ∧ _ ∧ _ ∧ _ := ⟨S2.out.res.frozen 0, S2.out.res.frozen 1, S2.out.res.frozen 2, S2.out.res.frozen 3⟩
      go_wp2_with fail
      refine bodyPost_ret (v := .agg #[.string L.name, .slice G.j.A L.js.length G.j.c, .slice G.b.A L.bs.length G.b.c, .slice G.s.A L.ss.length G.s.c]) (by simp [results, Try.results65, go_sem, r0, r1, r2, r3]) rfl (inner_end HR.out S2.out (by omega))
end Go.Proofs.Ytmnlgeglmkdecaa
