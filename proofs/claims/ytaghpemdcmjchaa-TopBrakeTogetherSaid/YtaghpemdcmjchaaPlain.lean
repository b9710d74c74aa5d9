
/-
  Plain words for lines (chapter 1): the data of a line, and what its functions come to. Nothing of the program is imported here.
-/
import Derived.Below
import Derived.Lib.Hide
namespace Go.Proofs.Ytaghpemdcmjchaa

structure Lj where
  x : Int
  u : Int
  lo : Int
  hi : Int
structure Lb where
  len : Int
  cant : Int
structure Ls where
  name : ByteArray
  first : Int
  across : List Int
structure Ll where
  name : ByteArray
  js : List Lj
  bs : List Lb
  ss : List Ls

/-- A vehicle. -/
structure Lv where
  len : Int
  clear : Int
  step : Int
/-- A number that an int holds. -/
def I64 (x : Int) : Prop := -9223372036854775808 ≤ x ∧ x ≤ 9223372036854775807
theorem I64.lo {x : Int} (h : I64 x) : -9223372036854775808 ≤ x := h.1
theorem I64.hi {x : Int} (h : I64 x) : x ≤ 9223372036854775807 := h.2

def inB (x lo hi : Int) : Bool := decide (lo ≤ x) && decide (x ≤ hi)
theorem inB_iff {x lo hi : Int} : inB x lo hi = true ↔ lo ≤ x ∧ x ≤ hi := by simp [inB]

def letB (c : UInt8) : Bool := (decide (97 ≤ (c.toNat : Int)) && decide ((c.toNat : Int) ≤ 122)) || (decide (65 ≤ (c.toNat : Int)) && decide ((c.toNat : Int) ≤ 90))
def digB (c : UInt8) : Bool := decide (48 ≤ (c.toNat : Int)) && decide ((c.toNat : Int) ≤ 57)
def chB (c : UInt8) : Bool := letB c || digB c || (((c.toNat : Nat) : Int) == 45)
/-- Is it a name? -/
def nameB (l : List UInt8) : Bool := decide (1 ≤ l.length) && decide (l.length ≤ 12) && (match l with | [] => false | c :: _ => letB c) && l.all chB

/-- The first element with an error, counted from k on; 0 if there is none. -/
def firstErr {α : Type} (f : α → Int) : Nat → List α → Nat × Int
  | k, [] => (k, 0)
  | k, a :: l => if f a = 0 then firstErr f (k + 1) l else (k, f a)

theorem firstErr_none {α : Type} (f : α → Int) : ∀ (l : List α) (k : Nat), (∀ a ∈ l, f a = 0) → firstErr f k l = (k + l.length, 0)
  | [], k, _ => by simp [firstErr]
  | a :: l, k, h => by
    rw [firstErr, if_pos (h a (by simp)), firstErr_none f l (k + 1) (fun b hb => h b (by simp [hb]))]
    simp; omega

theorem firstErr_hit {α : Type} (f : α → Int) : ∀ (l : List α) (k n : Nat) (hn : n < l.length), (∀ i (hi : i < n), f (l[i]'(by omega)) = 0) → f l[n] ≠ 0 → firstErr f k l = (k + n, f l[n])
  | a :: l, k, 0, _, _, h => by simp [firstErr] at h ⊢; exact fun h0 => absurd h0 h
  | a :: l, k, n + 1, hn, hz, h => by
    have h0 : f a = 0 := hz 0 (by omega)
    rw [firstErr, if_pos h0]
    have := firstErr_hit f l (k + 1) n (by simpa using hn) (fun i hi => by simpa using hz (i + 1) (by omega)) (by simpa using h)
    rw [this]
    simp; omega

def jErr (j : Lj) : Int :=
  if inB j.x (-20000) 20000 && inB j.u (-20000) 20000 && inB j.lo (-100) 100 && inB j.hi (-100) 100 then (if j.hi < j.lo then 9 else 0) else 2
def bErr (b : Lb) : Int := if inB b.len 1000 30000 && inB b.cant (-300) 300 then 0 else 2
/-- The error of a switch behind others; n: how many beams there are. -/
def sErr (n : Int) (before : List Ls) (s : Ls) : Int :=
  if nameB s.name.data.toList = false then 4
  else if before.any (fun t => s.name.data.toList == t.name.data.toList) then 5
  else if s.across.length = 0 then 10
  else if ¬ (1 ≤ s.first ∧ s.first ≤ n - s.across.length) then 6
  else if s.across.any (fun x => !inB x (-20000) 20000) then 2
  else if before.any (fun t => decide (s.first < t.first + t.across.length) && decide (t.first < s.first + s.across.length)) then 13
  else 0

/-- The first switch with an error. -/
def ssErr (n : Int) : List Ls → List Ls → Nat × Int
  | before, [] => (before.length, 0)
  | before, s :: l => if sErr n before s = 0 then ssErr n (before ++ [s]) l else (before.length, sErr n before s)

def wholeErr (L : Ll) : Int :=
  if nameB L.name.data.toList = false then 4
  else if L.bs.length = 0 ∨ L.js.length ≠ L.bs.length + 1 then 10
  else if 40 < L.bs.length then 8
  else 0
/-- What checkSwitches comes to. -/
def swMark (L : Ll) : (Int × Int) × Int :=
  if (ssErr L.bs.length [] L.ss).2 ≠ 0 then ((3, (ssErr L.bs.length [] L.ss).1), (ssErr L.bs.length [] L.ss).2) else ((0, 0), 0)
/-- CheckLine: the list and the number of the mark, and the error. -/
def ckLine (L : Ll) : (Int × Int) × Int :=
  if wholeErr L ≠ 0 then ((0, 0), wholeErr L)
  else if (firstErr jErr 0 L.js).2 ≠ 0 then ((1, (firstErr jErr 0 L.js).1), (firstErr jErr 0 L.js).2)
  else if (firstErr bErr 0 L.bs).2 ≠ 0 then ((2, (firstErr bErr 0 L.bs).1), (firstErr bErr 0 L.bs).2)
  else if 4 < L.ss.length then ((0, 0), 8)
  else swMark L
theorem whole_ok {L : Ll} (h : wholeErr L = 0) : nameB L.name.data.toList = true ∧ 1 ≤ L.bs.length ∧ L.bs.length ≤ 40 ∧ L.js.length = L.bs.length + 1 := by
  unfold wholeErr at h
  split at h
  · simp at h
  · split at h
    · simp at h
    · split at h
      · simp at h
      · rename_i h1 h2 h3
        exact ⟨by simpa using h1, by omega, by omega, by omega⟩
def vErr (v : Lv) : Int := if inB v.len 1000 30000 && inB v.clear 0 1000 && inB v.step 100 30000 then 0 else 2
def fewB (n most limit : Int) : Bool := decide (n ≤ most) || (decide (limit < n) && decide (n ≤ limit + 3))

/-- The place of a joint. -/
def placeL (bs : List Lb) (k : Nat) : Int := ((bs.take k).map Lb.len).sum

end Go.Proofs.Ytaghpemdcmjchaa
