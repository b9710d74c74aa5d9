/-
  Numbers between those of two joints: a joint's own place; the walk of inside.
-/
import Derived.Test.YthdbjbdfcnepgaaPlAt
import Derived.Test.YthdbjbdfcnepgaaBase
namespace Go.Proofs.Ythdbjbdfcnepgaa
open Go.RowKit

theorem beamOf_joint {L : Ll} (hr : Right L) {i : Nat} (hi : i < L.bs.length) : beamOf L (placeL L.bs i) = i := by
  have h0 := (placeL_bound L.bs hr.b i (by omega)).1
  exact beam_unique (beamOf_at hr (by omega)) ⟨hi, Int.le_refl _, fun j h hj => placeL_lt hr h (by omega)⟩
theorem beamOf_last {L : Ll} (hr : Right L) : beamOf L (placeL L.bs L.bs.length) = L.bs.length - 1 := by
  have h0 := (placeL_bound L.bs hr.b L.bs.length (Nat.le_refl _)).1
  have h1 := hr.one
  exact beam_unique (beamOf_at hr (by omega)) ⟨by omega, by have := placeL_lt hr (k := L.bs.length - 1) (m := L.bs.length) (by omega) (Nat.le_refl _); omega, fun j h hj => by omega⟩
theorem placeL_le {L : Ll} (hr : Right L) {i : Nat} (hi : i ≤ L.bs.length) : 0 ≤ placeL L.bs i ∧ placeL L.bs i ≤ placeL L.bs L.bs.length := by
  refine ⟨by have := (placeL_bound L.bs hr.b i hi).1; omega, ?_⟩
  by_cases h : i = L.bs.length
  · subst h; exact Int.le_refl _
  · have := placeL_lt hr (show i < L.bs.length by omega) (Nat.le_refl _); omega
/-- At a joint's own place lies the joint's own number. -/
theorem numAt_joint {L : Ll} (hr : Right L) (f : Lj → Int) {i : Nat} (hi : i < L.js.length) : lowV (numAt L f (placeL L.bs i)) (lenL L (beamOf L (placeL L.bs i))) = .agg #[.int .i64 (f L.js[i]), .int .i64 1] := by
  have hjb := hr.jb
  have h1 := hr.one
  by_cases h : i < L.bs.length
  · unfold numAt
    rw [beamOf_joint hr h]
    have hl := lenL_in hr h
    rw [List.getElem?_eq_getElem hi]
    simp only [Option.map_some, Option.getD_some, Int.sub_self, Int.sub_zero, Int.mul_zero, Int.add_zero]
    unfold lowV
    obtain ⟨e1, e2⟩ := low_whole (a := f L.js[i]) (d := lenL L i) (by omega)
    rw [e1, e2]
  · obtain rfl : i = L.bs.length := by omega
    have hlt : L.bs.length - 1 < L.bs.length := by omega
    unfold numAt
    rw [beamOf_last hr]
    have hl := lenL_in hr hlt
    have hs := placeL_succ L.bs (L.bs.length - 1) hlt
    have he : L.bs.length - 1 + 1 = L.bs.length := by omega
    rw [← lenL_eq hlt] at hs
    have hs2 : placeL L.bs L.bs.length = placeL L.bs (L.bs.length - 1) + lenL L (L.bs.length - 1) := by rw [← hs, he]
    rw [show placeL L.bs L.bs.length - placeL L.bs (L.bs.length - 1) = lenL L (L.bs.length - 1) by omega]
    have hg : L.js[L.bs.length - 1 + 1]? = some L.js[L.bs.length] := by
      rw [List.getElem?_eq_some_iff]
      exact ⟨by omega, by congr 1⟩
    rw [hg]
    simp only [Option.map_some, Option.getD_some, Int.sub_self, Int.mul_zero, Int.zero_add]
    unfold lowV
    obtain ⟨e1, e2⟩ := low_whole (a := f L.js[L.bs.length]) (d := lenL L (L.bs.length - 1)) (by omega)
    rw [e1, e2]
theorem plErr_joint {L : Ll} (hr : Right L) (hck : ckLine L = ((0, 0), 0)) {i : Nat} (hi : i < L.js.length) : plErr L (placeL L.bs i) = 0 := by
  have hjb := hr.jb
  obtain ⟨h0, h1⟩ := placeL_le hr (i := i) (by omega)
  unfold plErr
  rw [hck, if_neg (by simp), inB_iff.2 ⟨h0, h1⟩]
  rfl
theorem placeErr_joint {L : Ll} (hck : ckLine L = ((0, 0), 0)) {i : Nat} (hi : i < L.js.length) : placeErr L i = (placeL L.bs i, 0) := by
  unfold placeErr
  rw [hck, if_neg (by simp), inB_iff.2 ⟨by omega, by omega⟩]
  simp

/-- What is known of a number at a place: in lowest terms, small, between those of the beam's joints. -/
structure Mid (a b n d : Int) : Prop where
  low : Int.gcd n d = 1
  d1 : 1 ≤ d
  d2 : d ≤ 30000
  n1 : -600000000 ≤ n
  n2 : n ≤ 600000000
  lo : min a b * d ≤ n
  hi : n ≤ max a b * d
theorem Mid.small {a b n d : Int} (h : Mid a b n d) : smallB n d = true := by
  have := h.d1; have := h.d2; have := h.n1; have := h.n2
  unfold smallB
  rw [inB_iff.2 ⟨by omega, by omega⟩, inB_iff.2 ⟨by omega, by omega⟩]
  rfl
theorem numAt_mid {L : Ll} (hr : Right L) (f : Lj → Int) (hf : ∀ j ∈ L.js, -20000 ≤ f j ∧ f j ≤ 20000) {p : Int} (p0 : 0 ≤ p) (p1 : p ≤ placeL L.bs L.bs.length) {n d : Int} (h : lowV (numAt L f p) (lenL L (beamOf L p)) = .agg #[.int .i64 n, .int .i64 d]) {k : Nat} (hk : beamOf L p = k) (h1 : k < L.js.length) (h2 : k + 1 < L.js.length) : Mid (f L.js[k]) (f L.js[k + 1]) n d := by
  have hb := beamOf_at hr p0
  obtain ⟨e1, e2⟩ := beamOf_end hr p0 p1
  obtain ⟨l1, l2⟩ := lenL_in hr hb.1
  rw [hk] at h e1 e2 l1 l2
  have hn : numAt L f p = f L.js[k] * (lenL L k - (p - placeL L.bs k)) + f L.js[k + 1] * (p - placeL L.bs k) := by
    unfold numAt
    rw [hk, List.getElem?_eq_getElem h1, List.getElem?_eq_getElem h2]
    rfl
  obtain ⟨m1, m2⟩ := mix_between (a := f L.js[k]) (b := f L.js[k + 1]) e1 e2
  rw [← hn] at m1 m2
  have fa := hf _ (List.getElem_mem h1)
  have fb := hf _ (List.getElem_mem h2)
  unfold lowV at h
  simp only [Value.agg.injEq, Array.mk.injEq, List.cons.injEq, Value.int.injEq, true_and, and_true] at h
  obtain ⟨rfl, rfl⟩ := h
  have dd := low_den (n := numAt L f p) (d := lenL L k) (by omega)
  have nn := low_num (n := numAt L f p) (d := lenL L k) (by omega)
  have q1 := mul_two (a := min (f L.js[k]) (f L.js[k + 1])) (b := lenL L k) (A := 20000) (B := 30000) (by omega) (by omega)
  have q2 := mul_two (a := max (f L.js[k]) (f L.js[k + 1])) (b := lenL L k) (A := 20000) (B := 30000) (by omega) (by omega)
  exact ⟨low_gcd (by omega), dd.1, by omega, by omega, by omega, low_le (by omega) m1, low_ge (by omega) m2⟩

/-- The world below, and a fraction in its box. -/
structure BxF (w W : World) (n d : Int) : Prop where
  bl : Below w.heap.size w W
  x : Bk W w.heap.size 46 #[.int .i64 n, .int .i64 d]
section
variable {w W W' : World} {n d : Int}
theorem BxF.start (w : World) (n d : Int) : BxF w (w.alloc (.cells #[.int .i64 n, .int .i64 d] 46)) n d := ⟨(Below.refl _ _).alloc (Nat.le_refl _) _, Bk.new _ _ _⟩
theorem BxF.call (h : BxF w W n d) (hb : Below W.heap.size W W') : BxF w W' n d := ⟨Below.step h.bl hb, h.x.call hb⟩
theorem BxF.drew (h : BxF w W n d) : BxF w W.drew n d := ⟨h.bl.drew, h.x⟩
def BxS (w : World) (n d : Int) (W : World) : Prop := BxF w W n d ∧ W.cell? ⟨w.heap.size, 0, none⟩ = some (.int .i64 n) ∧ W.cell? ⟨w.heap.size, 1, none⟩ = some (.int .i64 d)
theorem BxF.all (h : BxF w W n d) : BxS w n d W := ⟨h, h.x.cell 0, h.x.cell 1⟩
end
theorem Cmp_at {a b c d q : Int} (hq : cmpV a b c d = q) (ha : -1000000000 ≤ a ∧ a ≤ 1000000000) (hb : 0 ≤ b ∧ b ≤ 1000000000) (hc : -1000000000 ≤ c ∧ c ≤ 1000000000) (hd : 0 ≤ d ∧ d ≤ 1000000000) (w : World) :
    Calls Try.prog 93 #[.agg #[.int .i64 a, .int .i64 b], .agg #[.int .i64 c, .int .i64 d]] w fun e w' => e = .returned (.int .i64 q) ∧ Below w.heap.size w w' := by
  subst hq
  exact Cmp_any a b c d ha hb hc hd w

set_option maxHeartbeats 1000000 in
theorem inside_yes (a b n d : Int) (ha : -20000 ≤ a ∧ a ≤ 20000) (hb : -20000 ≤ b ∧ b ≤ 20000) (h : Mid a b n d) (w : World) :
    Calls Try.prog 37 #[.agg #[.int .i64 n, .int .i64 d], .int .i64 a, .int .i64 b] w fun e w' => e = .returned (.bool true) ∧ Below w.heap.size w w' := by
  have B0 := Lib.hid (BxF.start w n d)
  obtain ⟨x, hx⟩ : ∃ x, cmpV (min a b) 1 n d = x := ⟨_, rfl⟩
  obtain ⟨y, hy⟩ : ∃ y, cmpV n d (max a b) 1 = y := ⟨_, rfl⟩
  have x0 : x ≤ 0 := by
    have := h.lo
    rw [← hx]; unfold cmpV
    split
    · omega
    · rw [if_neg (by omega)]; omega
  have y0 : y ≤ 0 := by
    have := h.hi
    rw [← hy]; unfold cmpV
    split
    · omega
    · rw [if_neg (by omega)]; omega
  have i1 := h.d1
  have i2 := h.d2
  have i3 := h.n1
  have i4 := h.n2
  clear h
  by_cases h1 : a < b
  · have h2 : a ≤ b := by omega
    have h3 : ¬ b < a := by omega
    have h4 : ¬ b ≤ a := by omega
    rw [show min a b = a by omega] at hx
    rw [show max a b = b by omega] at hy
    have HX := Lib.hid hx
    have HY := Lib.hid hy
    clear hx hy
    go_enter Try.func37, Try.ntmps37
    go_wp2_with fail
    go_region_held3 (fun w' => BxF w w' n d ∧ w'.cell? ⟨w.heap.size, 0, none⟩ = some (.int .i64 n) ∧ w'.cell? ⟨w.heap.size, 1, none⟩ = some (.int .i64 d)) ((first | exact BxF.all (BxF.call (by assumption) (by assumption)) | exact BxF.all B0.out.drew))
      ((first | (go_at_call 33; go_split_ands; refine (Whole_any _ _).mono ?_; rintro e w' ⟨rfl, hb⟩) | (go_at_call 93; go_split_ands; with_reducible refine (Cmp_at HX.out (by omega) (by omega) (by omega) (by omega) _).mono ?_; rintro e w' ⟨rfl, hb⟩) | (go_at_call 93; go_split_ands; with_reducible refine (Cmp_at HY.out (by omega) (by omega) (by omega) (by omega) _).mono ?_; rintro e w' ⟨rfl, hb⟩)))
    all_goals
      go_split_ands
      go_wp2_with fail
      go_ret
      exact ⟨rfl, (BxF.bl (by assumption))⟩
  · have h2 : b ≤ a := by omega
    rw [show min a b = b by omega] at hx
    rw [show max a b = a by omega] at hy
    have HX := Lib.hid hx
    have HY := Lib.hid hy
    clear hx hy
    by_cases h5 : b = a
    · subst h5
      go_enter Try.func37, Try.ntmps37
      go_wp2_with fail
      go_region_held3 (fun w' => BxF w w' n d ∧ w'.cell? ⟨w.heap.size, 0, none⟩ = some (.int .i64 n) ∧ w'.cell? ⟨w.heap.size, 1, none⟩ = some (.int .i64 d)) ((first | exact BxF.all (BxF.call (by assumption) (by assumption)) | exact BxF.all B0.out.drew))
        ((first | (go_at_call 33; go_split_ands; refine (Whole_any _ _).mono ?_; rintro e w' ⟨rfl, hb⟩) | (go_at_call 93; go_split_ands; with_reducible refine (Cmp_at HX.out (by omega) (by omega) (by omega) (by omega) _).mono ?_; rintro e w' ⟨rfl, hb⟩) | (go_at_call 93; go_split_ands; with_reducible refine (Cmp_at HY.out (by omega) (by omega) (by omega) (by omega) _).mono ?_; rintro e w' ⟨rfl, hb⟩)))
      all_goals
        go_split_ands
        go_wp2_with fail
        go_ret
        exact ⟨rfl, (BxF.bl (by assumption))⟩
    · have h3 : b < a := by omega
      have h4 : ¬ a ≤ b := by omega
      clear h5
      go_enter Try.func37, Try.ntmps37
      go_wp2_with fail
      go_region_held3 (fun w' => BxF w w' n d ∧ w'.cell? ⟨w.heap.size, 0, none⟩ = some (.int .i64 n) ∧ w'.cell? ⟨w.heap.size, 1, none⟩ = some (.int .i64 d)) ((first | exact BxF.all (BxF.call (by assumption) (by assumption)) | exact BxF.all B0.out.drew))
        ((first | (go_at_call 33; go_split_ands; refine (Whole_any _ _).mono ?_; rintro e w' ⟨rfl, hb⟩) | (go_at_call 93; go_split_ands; with_reducible refine (Cmp_at HX.out (by omega) (by omega) (by omega) (by omega) _).mono ?_; rintro e w' ⟨rfl, hb⟩) | (go_at_call 93; go_split_ands; with_reducible refine (Cmp_at HY.out (by omega) (by omega) (by omega) (by omega) _).mono ?_; rintro e w' ⟨rfl, hb⟩)))
      all_goals
        go_split_ands
        go_wp2_with fail
        go_ret
        exact ⟨rfl, (BxF.bl (by assumption))⟩
end Go.Proofs.Ythdbjbdfcnepgaa
