
/-
  The walks of canChange, errorOfSquares and CheckSquares of the program.
-/
import Derived.Test.YtaghpemdcmjchaaBFs2
namespace Go.Proofs.Ytaghpemdcmjchaa
open Go.RowKit

/-- The error of squares of a right track. -/
def sqsE (ps : List Bp) (l : List Int) : Int := if l.length ≠ ps.length + 1 then 10 else sqE l
/-- Square k. -/
def sqAt (l : List Int) (k : Nat) : Int := l.getD k 0
theorem sqAt_get {l : List Int} {k : Nat} (h : k < l.length) : l[k]? = some (sqAt l k) := by unfold sqAt; rw [List.getD_eq_getElem?_getD, List.getElem?_eq_getElem h]; rfl
/-- Whether square k can't be run. -/
def badS (ps : List Bp) (b : Bs) (l : List Int) (k : Nat) : Bool := decide (limV ps k < sqAt l k) || (decide (0 < k) && !inB (sqAt l k) (sqAt l (k - 1) - lossV (gp ps (k - 1)) b.brk) (sqAt l (k - 1) + drvG (gp ps (k - 1)) b.drv))
theorem sqE_zero {l : List Int} (h : sqE l = 0) : ∀ x ∈ l, 0 ≤ x ∧ x ≤ 20000000000 := by
  unfold sqE at h
  split at h
  · rename_i h1; exact fun x hx => inB_iff.1 (List.all_eq_true.1 h1 x hx)
  · cases h
theorem sqAt_in {l : List Int} (h : sqE l = 0) (k : Nat) : 0 ≤ sqAt l k ∧ sqAt l k ≤ 20000000000 := by
  unfold sqAt
  rw [List.getD_eq_getElem?_getD]
  by_cases hk : k < l.length
  · rw [List.getElem?_eq_getElem hk]; exact sqE_zero h _ (List.getElem_mem hk)
  · rw [List.getElem?_eq_none (by omega)]; decide

set_option maxHeartbeats 8000000 in
set_option maxRecDepth 100000 in
theorem errorOfSquares_any (s : ByteArray) (ps : List Bp) (A : Option Addr) (c : Nat) (hl : ps.length ≤ 1000) (l : List Int) (B : Option Addr) (d : Nat) (hl2 : l.length ≤ maxLen) (w : World) (hL : Lies w w.heap.size B (ic l)) :
    Calls Try.prog 28 #[.agg #[.string s, .slice A ps.length c], .slice B l.length d] w fun e w' => e = .returned (.int .i64 (sqsE ps l)) ∧ Below w.heap.size w w' := by
  have F0 := Lib.hid (Fr.b1 w 24 #[.string s, .slice A ps.length c])
  have HL := Lib.hid hL
  have hw := IntWalk.i64_in ((ps.length : Int) + 1) (by omega)
  have hl3 := hl2
  unfold maxLen at hl3
  by_cases hn : l.length = ps.length + 1
  · have HE : Hid (sqsE ps l = sqE l) := Lib.hid (by unfold sqsE; rw [if_neg (by simpa using hn)])
    have hb : ((l.length : Int) != (ps.length : Int) + 1) = false := by rw [bne_eq_false_iff_eq]; omega
    have hb2 : (l.length : Int) = (ps.length : Int) + 1 := by omega
    obtain ⟨n, hnn⟩ : ∃ n, l.length = n := ⟨_, rfl⟩
    have HQ := Lib.hid (fun W h => errorOfSquare_bl l B d hl2 W h)
    rw [hnn] at HQ hb hb2 hl3 ⊢
    clear hL hn hnn hl2 hb2
    go_enter Try.func28, Try.ntmps28
    go_wp2_with fail
    refine (HQ.out _ (Fr.lies HL.out F0.out)).mono ?_
    rintro e w1 ⟨rfl, hb1⟩
    have F1 := Lib.hid (Fr.call F0.out hb1)
    clear hb1 F0
    go_wp2_with fail
    go_ret
    exact ⟨ret_i64 HE.out.symm, F1.out.bl⟩
  · have HE : Hid (sqsE ps l = 10) := Lib.hid (by unfold sqsE; rw [if_pos hn])
    have hb : ((l.length : Int) != (ps.length : Int) + 1) = true := by rw [bne_iff_ne]; omega
    have hb2 : ¬ (l.length : Int) = (ps.length : Int) + 1 := by omega
    clear hL hn hl2
    go_enter Try.func28, Try.ntmps28
    go_wp2_with fail
    go_ret
    exact ⟨ret_i64 HE.out.symm, F0.out.bl⟩

end Go.Proofs.Ytaghpemdcmjchaa
