
/-
  Plain words for braking (chapter 5): tracks, systems, and what their functions come to. Nothing of the program is imported here.
-/
import Derived.Test.YtaghpemdcmjchaaPlain
namespace Go.Proofs.Ytaghpemdcmjchaa

/-- A piece of a track. -/
structure Bp where
  len : Int
  grad : Int
  lim : Int
  lv : Bool
/-- What a train can do. -/
structure Bs where
  brk : Int
  drag : Int
  drv : Int
def okP (p : Bp) : Bool := inB p.len 1 10000000 && inB p.grad (-100) 100 && inB p.lim 0 20000000000
theorem okP_iff {p : Bp} : okP p = true ↔ (1 ≤ p.len ∧ p.len ≤ 10000000) ∧ (-100 ≤ p.grad ∧ p.grad ≤ 100) ∧ (0 ≤ p.lim ∧ p.lim ≤ 20000000000) := by
  simp only [okP, Bool.and_eq_true, inB_iff]
  constructor
  · rintro ⟨⟨h1, h2⟩, h3⟩; exact ⟨h1, h2, h3⟩
  · rintro ⟨h1, h2, h3⟩; exact ⟨⟨h1, h2⟩, h3⟩
def pE (p : Bp) : Int := if okP p = true then 0 else 2
theorem pE_ok {p : Bp} (h : okP p = true) : pE p = 0 := by unfold pE; rw [if_pos h]
theorem pE_bad {p : Bp} (h : okP p = false) : pE p = 2 := by unfold pE; rw [if_neg (by rw [h]; simp)]
/-- The number of a wrong piece, and the error of a track. -/
def trE (s : ByteArray) (ps : List Bp) : Int × Int :=
  if nameB s.data.toList = false then (0, 4) else if ps.length = 0 then (0, 10) else if 12 < ps.length then (0, 8) else if (firstErr pE 0 ps).2 = 0 then (0, 0) else ((firstErr pE 0 ps).1, (firstErr pE 0 ps).2)
structure OkT (s : ByteArray) (ps : List Bp) : Prop where
  nm : nameB s.data.toList = true
  n0 : ps.length ≠ 0
  n12 : ps.length ≤ 12
  each : ∀ p ∈ ps, okP p = true
theorem trE_ok {s : ByteArray} {ps : List Bp} (h : OkT s ps) : trE s ps = (0, 0) := by
  obtain ⟨h1, h2, h3, h4⟩ := h
  unfold trE
  rw [if_neg (by rw [h1]; simp), if_neg h2, if_neg (by omega), firstErr_none pE ps 0 (fun x hx => pE_ok (h4 x hx)), if_pos rfl]
theorem trE_name {s : ByteArray} {ps : List Bp} (h : nameB s.data.toList = false) : trE s ps = (0, 4) := by unfold trE; rw [if_pos h]
theorem trE_none {s : ByteArray} {ps : List Bp} (h : nameB s.data.toList = true) (h0 : ps.length = 0) : trE s ps = (0, 10) := by unfold trE; rw [if_neg (by rw [h]; simp), if_pos h0]
theorem trE_many {s : ByteArray} {ps : List Bp} (h : nameB s.data.toList = true) (h0 : 12 < ps.length) : trE s ps = (0, 8) := by unfold trE; rw [if_neg (by rw [h]; simp), if_neg (by omega), if_pos h0]
theorem trE_at {s : ByteArray} {ps : List Bp} (h : nameB s.data.toList = true) (h1 : ps.length ≤ 12) (n : Nat) (hn : n < ps.length) (hg : ∀ i (hi : i < n), okP (ps[i]'(by omega)) = true) (hb : okP ps[n] = false) : trE s ps = ((n : Int), 2) := by
  unfold trE
  rw [if_neg (by rw [h]; simp), if_neg (by omega), if_neg (by omega), firstErr_hit pE ps 0 n hn (fun i hi => pE_ok (hg i hi)) (by rw [pE_bad hb]; decide), if_neg (by rw [pE_bad hb]; show ¬ (2 : Int) = 0; decide), pE_bad hb]
  simp
theorem tr_cases (s : ByteArray) (ps : List Bp) : (trE s ps = (0, 0) ∧ OkT s ps) ∨ (trE s ps).2 ≠ 0 := by
  cases hn : nameB s.data.toList with
  | false => right; rw [trE_name hn]; decide
  | true =>
    by_cases h0 : ps.length = 0
    · right; rw [trE_none hn h0]; decide
    by_cases h1 : 12 < ps.length
    · right; rw [trE_many hn h1]; decide
    by_cases h : ∀ p ∈ ps, okP p = true
    · left; have := OkT.mk hn h0 (by omega) h; exact ⟨trE_ok this, this⟩
    · right
      unfold trE
      rw [if_neg (by rw [hn]; simp), if_neg h0, if_neg h1]
      split
      · rename_i he
        exfalso
        apply h
        intro x hx
        cases hb : okP x with
        | true => rfl
        | false =>
          have hz : ∀ (l : List Bp) (k : Nat), (firstErr pE k l).2 = 0 → ∀ y ∈ l, pE y = 0 := by
            intro l
            induction l with
            | nil => intro k _ y hy; simp at hy
            | cons a l ih =>
              intro k hk y hy
              rw [firstErr] at hk
              split at hk
              · rename_i ha
                rcases List.mem_cons.1 hy with rfl | hy
                · exact ha
                · exact ih _ hk y hy
              · rename_i ha; exact absurd hk ha
          have := hz ps 0 he x hx
          rw [pE_bad hb] at this
          cases this
      · assumption
/-- The error of a system. -/
def okS (b : Bs) : Bool := inB b.brk 1 3000 && inB b.drag 0 500 && inB b.drv 0 2000
def sE (b : Bs) : Int := if okS b = false then 2 else if b.brk < b.drag then 9 else 0
structure OkS (b : Bs) : Prop where
  b0 : 1 ≤ b.brk
  b1 : b.brk ≤ 3000
  d0 : 0 ≤ b.drag
  d1 : b.drag ≤ 500
  v0 : 0 ≤ b.drv
  v1 : b.drv ≤ 2000
  le : b.drag ≤ b.brk
theorem sE_zero {b : Bs} (h : sE b = 0) : OkS b := by
  unfold sE at h
  split at h
  · simp at h
  · split at h
    · simp at h
    · rename_i h1 h2
      simp only [Bool.not_eq_false, okS, Bool.and_eq_true, inB_iff] at h1
      obtain ⟨⟨⟨a, b⟩, c, d⟩, e, f⟩ := h1
      exact ⟨a, b, c, d, e, f, by omega⟩
/-- The errors of a track and a system. -/
def bothE (s : ByteArray) (ps : List Bp) (b : Bs) : Int := if (trE s ps).2 ≠ 0 then (trE s ps).2 else sE b
theorem bothE_zero {s : ByteArray} {ps : List Bp} {b : Bs} (h : bothE s ps b = 0) : OkT s ps ∧ OkS b := by
  unfold bothE at h
  split at h
  · rename_i h1; exact absurd h h1
  · rename_i h1
    rcases tr_cases s ps with ⟨_, hk⟩ | hr
    · exact ⟨hk, sE_zero h⟩
    · exact absurd hr h1

/-- Piece i, or a piece that does no harm. -/
def gp (ps : List Bp) (i : Nat) : Bp := ps.getD i ⟨1, 0, 0, false⟩
theorem gp_at {ps : List Bp} {i : Nat} (h : i < ps.length) : ps[i]? = some (gp ps i) := by simp [gp, List.getD_eq_getElem?_getD, h]
theorem gp_ok {ps : List Bp} (h : ∀ p ∈ ps, okP p = true) (i : Nat) : okP (gp ps i) = true := by
  unfold gp
  rw [List.getD_eq_getElem?_getD]
  by_cases hi : i < ps.length
  · rw [List.getElem?_eq_getElem hi]; exact h _ (List.getElem_mem hi)
  · rw [List.getElem?_eq_none (by omega)]; decide
/-- The place of a post. -/
def plcV (ps : List Bp) : Nat → Int
  | 0 => 0
  | k + 1 => plcV ps k + (gp ps k).len
theorem plcV_bound {ps : List Bp} (h : ∀ p ∈ ps, okP p = true) : ∀ k : Nat, 0 ≤ plcV ps k ∧ plcV ps k ≤ (k : Int) * 10000000
  | 0 => by simp [plcV]
  | k + 1 => by
    have h1 := plcV_bound h k
    have h2 := okP_iff.1 (gp_ok h k)
    have e : ((k + 1 : Nat) : Int) * 10000000 = (k : Int) * 10000000 + 10000000 := by push_cast; omega
    rw [plcV, e]
    omega
/-- The limit at a post. -/
def limV (ps : List Bp) (i : Nat) : Int :=
  if i < ps.length then min (if 0 < i then min 20000000000 (gp ps (i - 1)).lim else 20000000000) (gp ps i).lim else (if 0 < i then min 20000000000 (gp ps (i - 1)).lim else 20000000000)
theorem limV_bound {ps : List Bp} (h : ∀ p ∈ ps, okP p = true) (i : Nat) : 0 ≤ limV ps i ∧ limV ps i ≤ 20000000000 := by
  have h1 := okP_iff.1 (gp_ok h i)
  have h2 := okP_iff.1 (gp_ok h (i - 1))
  unfold limV
  split <;> split <;> omega
theorem limV_last {ps : List Bp} (h : ∀ p ∈ ps, okP p = true) (h0 : ps.length ≠ 0) : limV ps ps.length = (gp ps (ps.length - 1)).lim := by
  have h2 := okP_iff.1 (gp_ok h (ps.length - 1))
  unfold limV
  rw [if_neg (by omega), if_pos (by omega)]
  omega
theorem limV_in {ps : List Bp} (h : ∀ p ∈ ps, okP p = true) (i : Nat) (hi : i < ps.length) : limV ps i = min (gp ps i).lim (gp ps (i - 1)).lim := by
  have h1 := okP_iff.1 (gp_ok h i)
  have h2 := okP_iff.1 (gp_ok h (i - 1))
  unfold limV
  rw [if_pos hi]
  by_cases h0 : 0 < i
  · rw [if_pos h0]; omega
  · obtain rfl : i = 0 := by omega
    rw [if_neg (by omega)]; simp only [Nat.zero_sub]; simp only [Nat.zero_sub] at h2; omega
/-- What a train loses along a piece by a deceleration on the level. -/
def lossV (p : Bp) (d : Int) : Int := 2 * (d + 10 * p.grad) * p.len
theorem mulB5 {x y A B : Int} (hx : -A ≤ x ∧ x ≤ A) (hy : 0 ≤ y ∧ y ≤ B) : -(A * B) ≤ x * y ∧ x * y ≤ A * B := by
  have hA : 0 ≤ A := by omega
  rcases Int.le_total 0 x with g | g
  · have a := Int.mul_le_mul hx.2 hy.2 hy.1 hA
    have b := Int.mul_nonneg g hy.1
    omega
  · have a := Int.mul_le_mul (show -x ≤ A by omega) hy.2 hy.1 hA
    have b := Int.mul_nonneg (show 0 ≤ -x by omega) hy.1
    rw [Int.neg_mul] at a b
    omega
theorem lossV_bound {p : Bp} {d : Int} (h : okP p = true) (hd : -3000 ≤ d ∧ d ≤ 3000) : -80000000000 ≤ lossV p d ∧ lossV p d ≤ 80000000000 := by
  have h1 := okP_iff.1 h
  have := mulB5 (x := 2 * (d + 10 * p.grad)) (y := p.len) (A := 8000) (B := 10000000) (by omega) (by omega)
  unfold lossV
  omega

/-- The squares of a curve, from its end backwards. -/
def cvS (ps : List Bp) (d : Int) (stop : Nat) : Nat → Int
  | 0 => 0
  | j + 1 => if cvS ps d stop j = -1 then -1 else if min (limV ps (stop - j)) (cvS ps d stop j + lossV (gp ps (stop - j)) d) < 0 then -1 else min (limV ps (stop - j)) (cvS ps d stop j + lossV (gp ps (stop - j)) d)
theorem cvS_bound {ps : List Bp} (h : ∀ p ∈ ps, okP p = true) (d : Int) (stop : Nat) : ∀ j, -1 ≤ cvS ps d stop j ∧ cvS ps d stop j ≤ 20000000000
  | 0 => by simp [cvS]
  | j + 1 => by
    have h1 := limV_bound h (stop - j)
    rw [cvS]
    split
    · omega
    · split <;> omega
/-- The square of a curve at post i. -/
def crvV (ps : List Bp) (d : Int) (stop i : Nat) : Int := cvS ps d stop (stop + 1 - i)
theorem crvV_top (ps : List Bp) (d : Int) (stop : Nat) : crvV ps d stop (stop + 1) = 0 := by unfold crvV; rw [Nat.sub_self]; rfl
theorem crvV_step (ps : List Bp) (d : Int) (stop i : Nat) (h : i ≤ stop) :
    crvV ps d stop i = if crvV ps d stop (i + 1) = -1 then -1 else if min (limV ps i) (crvV ps d stop (i + 1) + lossV (gp ps i) d) < 0 then -1 else min (limV ps i) (crvV ps d stop (i + 1) + lossV (gp ps i) d) := by
  unfold crvV
  have e1 : stop + 1 - i = (stop + 1 - (i + 1)) + 1 := by omega
  have e2 : stop - (stop + 1 - (i + 1)) = i := by omega
  rw [e1, cvS, e2]
theorem crvV_bound {ps : List Bp} (h : ∀ p ∈ ps, okP p = true) (d : Int) (stop i : Nat) : -1 ≤ crvV ps d stop i ∧ crvV ps d stop i ≤ 20000000000 := cvS_bound h d stop _
/-- The least squares, from the stop backwards. -/
def lsS (ps : List Bp) (d : Int) (stop : Nat) : Nat → Int
  | 0 => 0
  | j + 1 => max 0 (lsS ps d stop j + lossV (gp ps (stop - 1 - j)) d)
theorem lsS_bound {ps : List Bp} (h : ∀ p ∈ ps, okP p = true) {d : Int} (hd : -3000 ≤ d ∧ d ≤ 3000) (stop : Nat) : ∀ j : Nat, 0 ≤ lsS ps d stop j ∧ lsS ps d stop j ≤ (j : Int) * 80000000000
  | 0 => by simp [lsS]
  | j + 1 => by
    have h1 := lsS_bound h hd stop j
    have h2 := lossV_bound (gp_ok h (stop - 1 - j)) hd
    have e : ((j + 1 : Nat) : Int) * 80000000000 = (j : Int) * 80000000000 + 80000000000 := by push_cast; omega
    rw [lsS, e]
    omega
def lstV (ps : List Bp) (d : Int) (stop i : Nat) : Int := lsS ps d stop (stop - i)
theorem lstV_top (ps : List Bp) (d : Int) (stop : Nat) : lstV ps d stop stop = 0 := by unfold lstV; rw [Nat.sub_self]; rfl
theorem lstV_step (ps : List Bp) (d : Int) (stop i : Nat) (h : i < stop) : lstV ps d stop i = max 0 (lstV ps d stop (i + 1) + lossV (gp ps i) d) := by
  unfold lstV
  have e1 : stop - i = (stop - (i + 1)) + 1 := by omega
  have e2 : stop - 1 - (stop - (i + 1)) = i := by omega
  rw [e1, lsS, e2]
theorem lstV_bound {ps : List Bp} (h : ∀ p ∈ ps, okP p = true) {d : Int} (hd : -3000 ≤ d ∧ d ≤ 3000) (stop i : Nat) (hs : stop ≤ 12) : 0 ≤ lstV ps d stop i ∧ lstV ps d stop i ≤ 960000000000 := by
  have := lsS_bound h hd stop (stop - i)
  unfold lstV
  omega
/-- The squares of a run. -/
def runV (ps : List Bp) (b : Bs) (stop p : Nat) (sq : Int) : Nat → Int
  | 0 => sq
  | k + 1 => min (crvV ps b.brk stop (p + k + 1)) (runV ps b stop p sq k - lossV (gp ps (p + k)) b.drag)
theorem runV_bound {ps : List Bp} (h : ∀ p ∈ ps, okP p = true) (b : Bs) (hb : OkS b) (stop p : Nat) (sq : Int) (hq : 0 ≤ sq ∧ sq ≤ 20000000000) : ∀ k : Nat, (∀ j, j < k → 0 ≤ runV ps b stop p sq j) → -80000000000 ≤ runV ps b stop p sq k ∧ runV ps b stop p sq k ≤ 20000000000
  | 0, _ => by simp only [runV]; omega
  | k + 1, hp => by
    have h1 := runV_bound h b hb stop p sq hq k (fun j hj => hp j (by omega))
    have h0 := hp k (by omega)
    have h2 := lossV_bound (d := b.drag) (gp_ok h (p + k)) (by have := hb.d0; have := hb.d1; omega)
    have h3 := crvV_bound h b.brk stop (p + k + 1)
    rw [runV]
    omega
def listF (n : Nat) (f : Nat → Int) : List Int := (List.range n).map f
theorem listF_len (n : Nat) (f : Nat → Int) : (listF n f).length = n := by simp [listF]
theorem listF_at {n : Nat} {f : Nat → Int} {k : Nat} (h : k < n) : (listF n f)[k]? = some (f k) := by simp [listF, h]
theorem listF_succ (n : Nat) (f : Nat → Int) : listF (n + 1) f = listF n f ++ [f n] := by simp [listF, List.range_succ]
end Go.Proofs.Ytaghpemdcmjchaa
