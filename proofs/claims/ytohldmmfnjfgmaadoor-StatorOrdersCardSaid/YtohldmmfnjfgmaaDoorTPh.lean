
/-
  Plain words for the harmonics of six samples (chapter 3): orders, samples, energy.
-/
import Derived.Test.YtohldmmfnjfgmaaDoorTPl
namespace Go.Proofs.YtohldmmfnjfgmaaDoor

/-- The sum of the first n vectors, each turned by way k times its number. -/
def tsum (f : Nat → T3) (way : Int) (k : Nat) : Nat → T3
  | 0 => T3.zero
  | n + 1 => (tsum f way k n).add (turned (f n) (way * k * n))
def realV (x : Nat → Int) (n : Nat) : T3 := ⟨x n, 0⟩
def ordV (x : Nat → Int) (k : Nat) : T3 := tsum (realV x) (-1) k 6
def backV (h : Nat → T3) (n : Nat) : T3 := tsum h 1 n 6
def enV (x : Nat → Int) : Nat → Int
  | 0 => 0
  | n + 1 => enV x n + x n * x n
theorem turned_r (v : T3) (s : Int) (r : Nat) (h : (s % 6).toNat = r) : turned v s = turnN r v := by unfold turned; rw [h]
theorem tsum_six (f : Nat → T3) (way : Int) (k r0 r1 r2 r3 r4 r5 : Nat) (h0 : ((way * k * (0 : Nat)) % 6).toNat = r0) (h1 : ((way * k * (1 : Nat)) % 6).toNat = r1) (h2 : ((way * k * (2 : Nat)) % 6).toNat = r2) (h3 : ((way * k * (3 : Nat)) % 6).toNat = r3) (h4 : ((way * k * (4 : Nat)) % 6).toNat = r4) (h5 : ((way * k * (5 : Nat)) % 6).toNat = r5) :
    tsum f way k 6 = (((((T3.zero.add (turnN r0 (f 0))).add (turnN r1 (f 1))).add (turnN r2 (f 2))).add (turnN r3 (f 3))).add (turnN r4 (f 4))).add (turnN r5 (f 5)) := by
  simp only [tsum, turned_r _ _ _ h0, turned_r _ _ _ h1, turned_r _ _ _ h2, turned_r _ _ _ h3, turned_r _ _ _ h4, turned_r _ _ _ h5]
theorem tsum_vals (f : Nat → T3) :
    (tsum f (-1) 0 6 = ⟨(f 0).a + (f 1).a + (f 2).a + (f 3).a + (f 4).a + (f 5).a, (f 0).b + (f 1).b + (f 2).b + (f 3).b + (f 4).b + (f 5).b⟩) ∧
    (tsum f (-1) 1 6 = (((((T3.zero.add (turnN 0 (f 0))).add (turnN 5 (f 1))).add (turnN 4 (f 2))).add (turnN 3 (f 3))).add (turnN 2 (f 4))).add (turnN 1 (f 5))) ∧
    (tsum f (-1) 2 6 = (((((T3.zero.add (turnN 0 (f 0))).add (turnN 4 (f 1))).add (turnN 2 (f 2))).add (turnN 0 (f 3))).add (turnN 4 (f 4))).add (turnN 2 (f 5))) ∧
    (tsum f (-1) 3 6 = (((((T3.zero.add (turnN 0 (f 0))).add (turnN 3 (f 1))).add (turnN 0 (f 2))).add (turnN 3 (f 3))).add (turnN 0 (f 4))).add (turnN 3 (f 5))) ∧
    (tsum f (-1) 4 6 = (((((T3.zero.add (turnN 0 (f 0))).add (turnN 2 (f 1))).add (turnN 4 (f 2))).add (turnN 0 (f 3))).add (turnN 2 (f 4))).add (turnN 4 (f 5))) ∧
    (tsum f (-1) 5 6 = (((((T3.zero.add (turnN 0 (f 0))).add (turnN 1 (f 1))).add (turnN 2 (f 2))).add (turnN 3 (f 3))).add (turnN 4 (f 4))).add (turnN 5 (f 5))) := by
  refine ⟨?_, tsum_six f _ _ _ _ _ _ _ _ rfl rfl rfl rfl rfl rfl, tsum_six f _ _ _ _ _ _ _ _ rfl rfl rfl rfl rfl rfl, tsum_six f _ _ _ _ _ _ _ _ rfl rfl rfl rfl rfl rfl, tsum_six f _ _ _ _ _ _ _ _ rfl rfl rfl rfl rfl rfl, tsum_six f _ _ _ _ _ _ _ _ rfl rfl rfl rfl rfl rfl⟩
  rw [tsum_six f _ _ 0 0 0 0 0 0 rfl rfl rfl rfl rfl rfl]
  simp [turnN, T3.add, T3.zero]
theorem back_vals (f : Nat → T3) :
    (tsum f 1 0 6 = (((((T3.zero.add (turnN 0 (f 0))).add (turnN 0 (f 1))).add (turnN 0 (f 2))).add (turnN 0 (f 3))).add (turnN 0 (f 4))).add (turnN 0 (f 5))) ∧
    (tsum f 1 1 6 = (((((T3.zero.add (turnN 0 (f 0))).add (turnN 1 (f 1))).add (turnN 2 (f 2))).add (turnN 3 (f 3))).add (turnN 4 (f 4))).add (turnN 5 (f 5))) ∧
    (tsum f 1 2 6 = (((((T3.zero.add (turnN 0 (f 0))).add (turnN 2 (f 1))).add (turnN 4 (f 2))).add (turnN 0 (f 3))).add (turnN 2 (f 4))).add (turnN 4 (f 5))) ∧
    (tsum f 1 3 6 = (((((T3.zero.add (turnN 0 (f 0))).add (turnN 3 (f 1))).add (turnN 0 (f 2))).add (turnN 3 (f 3))).add (turnN 0 (f 4))).add (turnN 3 (f 5))) ∧
    (tsum f 1 4 6 = (((((T3.zero.add (turnN 0 (f 0))).add (turnN 4 (f 1))).add (turnN 2 (f 2))).add (turnN 0 (f 3))).add (turnN 4 (f 4))).add (turnN 2 (f 5))) ∧
    (tsum f 1 5 6 = (((((T3.zero.add (turnN 0 (f 0))).add (turnN 5 (f 1))).add (turnN 4 (f 2))).add (turnN 3 (f 3))).add (turnN 2 (f 4))).add (turnN 1 (f 5))) :=
  ⟨tsum_six f _ _ _ _ _ _ _ _ rfl rfl rfl rfl rfl rfl, tsum_six f _ _ _ _ _ _ _ _ rfl rfl rfl rfl rfl rfl, tsum_six f _ _ _ _ _ _ _ _ rfl rfl rfl rfl rfl rfl, tsum_six f _ _ _ _ _ _ _ _ rfl rfl rfl rfl rfl rfl, tsum_six f _ _ _ _ _ _ _ _ rfl rfl rfl rfl rfl rfl, tsum_six f _ _ _ _ _ _ _ _ rfl rfl rfl rfl rfl rfl⟩
/-- The orders of samples, written out. -/
theorem ord_vals (x : Nat → Int) :
    ordV x 0 = ⟨x 0 + x 1 + x 2 + x 3 + x 4 + x 5, 0⟩ ∧
    ordV x 1 = ⟨x 0 - x 2 - x 3 + x 5, -x 1 - x 2 + x 4 + x 5⟩ ∧
    ordV x 2 = ⟨x 0 - x 1 + x 3 - x 4, -x 1 + x 2 - x 4 + x 5⟩ ∧
    ordV x 3 = ⟨x 0 - x 1 + x 2 - x 3 + x 4 - x 5, 0⟩ ∧
    ordV x 4 = ⟨x 0 - x 2 + x 3 - x 5, x 1 - x 2 + x 4 - x 5⟩ ∧
    ordV x 5 = ⟨x 0 + x 1 - x 3 - x 4, x 1 + x 2 - x 4 - x 5⟩ := by
  obtain ⟨t0, t1, t2, t3, t4, t5⟩ := tsum_vals (realV x)
  unfold ordV
  rw [t0, t1, t2, t3, t4, t5]
  simp only [turnN_0, turnN_1, turnN_2, turnN_3, turnN_4, turnN_5]
  refine ⟨?_, ?_, ?_, ?_, ?_, ?_⟩ <;> apply T3.eq <;> simp only [T3.add, T3.zero, realV] <;> omega
/-- There and back. -/
theorem back_ord (x : Nat → Int) (n : Nat) (hn : n < 6) : backV (ordV x) n = ⟨6 * x n, 0⟩ := by
  obtain ⟨t0, t1, t2, t3, t4, t5⟩ := back_vals (ordV x)
  obtain ⟨o0, o1, o2, o3, o4, o5⟩ := ord_vals x
  unfold backV
  have hc : n = 0 ∨ n = 1 ∨ n = 2 ∨ n = 3 ∨ n = 4 ∨ n = 5 := by omega
  rcases hc with rfl | rfl | rfl | rfl | rfl | rfl
  · rw [t0]; simp only [turnN_0, turnN_1, turnN_2, turnN_3, turnN_4, turnN_5, o0, o1, o2, o3, o4, o5]; apply T3.eq <;> simp only [T3.add, T3.zero] <;> omega
  · rw [t1]; simp only [turnN_0, turnN_1, turnN_2, turnN_3, turnN_4, turnN_5, o0, o1, o2, o3, o4, o5]; apply T3.eq <;> simp only [T3.add, T3.zero] <;> omega
  · rw [t2]; simp only [turnN_0, turnN_1, turnN_2, turnN_3, turnN_4, turnN_5, o0, o1, o2, o3, o4, o5]; apply T3.eq <;> simp only [T3.add, T3.zero] <;> omega
  · rw [t3]; simp only [turnN_0, turnN_1, turnN_2, turnN_3, turnN_4, turnN_5, o0, o1, o2, o3, o4, o5]; apply T3.eq <;> simp only [T3.add, T3.zero] <;> omega
  · rw [t4]; simp only [turnN_0, turnN_1, turnN_2, turnN_3, turnN_4, turnN_5, o0, o1, o2, o3, o4, o5]; apply T3.eq <;> simp only [T3.add, T3.zero] <;> omega
  · rw [t5]; simp only [turnN_0, turnN_1, turnN_2, turnN_3, turnN_4, turnN_5, o0, o1, o2, o3, o4, o5]; apply T3.eq <;> simp only [T3.add, T3.zero] <;> omega
/-- No energy is lost. -/
theorem ord_energy (x : Nat → Int) : (ordV x 0).nrm + (ordV x 1).nrm + (ordV x 2).nrm + (ordV x 3).nrm + (ordV x 4).nrm + (ordV x 5).nrm = 6 * enV x 6 := by
  obtain ⟨o0, o1, o2, o3, o4, o5⟩ := ord_vals x
  rw [o0, o1, o2, o3, o4, o5]
  simp only [T3.nrm, enV]
  generalize x 0 = a; generalize x 1 = b; generalize x 2 = c; generalize x 3 = d; generalize x 4 = e; generalize x 5 = f
  grind
theorem ord_even (x : Nat → Int) (h0 : x 3 = -x 0) (h1 : x 4 = -x 1) (h2 : x 5 = -x 2) : ordV x 0 = ⟨0, 0⟩ ∧ ordV x 2 = ⟨0, 0⟩ ∧ ordV x 4 = ⟨0, 0⟩ := by
  obtain ⟨o0, o1, o2, o3, o4, o5⟩ := ord_vals x
  rw [o0, o2, o4]
  refine ⟨?_, ?_, ?_⟩ <;> apply T3.eq <;> simp only <;> omega
theorem T3.In.add {v u : T3} {M K : Int} (h : v.In M) (g : u.In K) : (v.add u).In (M + K) := by
  obtain ⟨h1, h2, h3, h4, h5, h6⟩ := h
  obtain ⟨g1, g2, g3, g4, g5, g6⟩ := g
  simp only [T3.add]
  exact ⟨by simp only; omega, by simp only; omega, by simp only; omega, by simp only; omega, by simp only; omega, by simp only; omega⟩
theorem tsum_in (f : Nat → T3) (way : Int) (k : Nat) (M : Int) (h : ∀ i, (f i).In M) : ∀ n : Nat, (tsum f way k n).In (n * M)
  | 0 => by simp [tsum, T3.zero]; exact ⟨by simp, by simp, by simp, by simp, by simp, by simp⟩
  | n + 1 => by
    have := (tsum_in f way k M h n).add ((h n).turnN (((way * k * n) % 6).toNat))
    rw [tsum]
    have e : (n : Int) * M + M = ((n + 1 : Nat) : Int) * M := by push_cast; grind
    rw [← e]
    exact this
end Go.Proofs.YtohldmmfnjfgmaaDoor
