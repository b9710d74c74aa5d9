
/-
  The walk of isSafe.
-/
import Derived.Test.YtmjooiocgeoaiaaBSo
import Derived.RangeFuncNested
namespace Go.Proofs.Ytmjooiocgeoaiaa
open Go.RowKit
attribute [local go_sem] Oper.semAt_some

set_option maxRecDepth 100000 in
set_option maxHeartbeats 8000000 in
theorem isSafe_any (s : ByteArray) (ps : List Bp) (a : Addr) (c : Nat) (b : Bs) (hb : OkS b) (h0 : ps.length ≠ 0) (h12 : ps.length ≤ 12) (hx : ∀ p ∈ ps, okP p = true) (p : Nat) (hp : p ≤ ps.length) (sq : Int) (hq : 0 ≤ sq ∧ sq ≤ 20000000000) (w : World) (hA : Lies w w.heap.size (some a) (ps.flatMap pc)) :
    Calls Try.prog 62 #[.agg #[.string s, .slice (some a) ps.length c, .int .i64 b.brk, .int .i64 b.drag, .int .i64 b.drv], .agg #[.int .i64 p, .int .i64 sq]] w fun e w' => e = .returned (.bool (safeB ps b p sq)) ∧ Below w.heap.size w w' := by
  have F0 := Lib.hid (Fr.b3 w 77 #[.string s, .slice (some a) ps.length c, .int .i64 b.brk, .int .i64 b.drag, .int .i64 b.drv] 28 #[.int .i64 p, .int .i64 sq] 4 #[.bool false])
  have HA := Lib.hid hA
  have HB := Lib.hid hb
  have HX := Lib.hid hx
  have HQ := Lib.hid hq
  clear hA hb hx hq
  refine (callsIn_wide (n := 12)).1 ?_
  refine callsIn_of_wp_marks Try.func62 rfl trivial ?_ rfl
  simp only [Try.ntmps62, List.size_toArray, List.length_cons, List.length_nil, Nat.reduceAdd, Nat.reduceSub, Array.replicate_succ, Array.replicate_zero, List.push_toArray, List.append_toArray, List.nil_append, List.cons_append]
  gi_wp2_with (refine ⟨trivial, ?_⟩; gi_at_call 41; refine (callsIn_wide.2 (stops_any s (some a) ps.length c p _)).mono ?_; rintro e w2 ⟨rfl, hw2⟩; have HW2 := Lib.hid hw2; clear hw2)
  have F2 : Hid (Fr w w2 [(w.heap.size + 1 + 1 + 1 + 1, 3, #[.int .i64 p]), (w.heap.size + 1 + 1 + 1, 75, #[.string s, .slice (some a) ps.length c]), (w.heap.size + 1 + 1, 4, #[.bool false]), (w.heap.size + 1, 28, #[.int .i64 p, .int .i64 sq]), (w.heap.size, 77, #[.string s, .slice (some a) ps.length c, .int .i64 b.brk, .int .i64 b.drag, .int .i64 b.drv])]) := Lib.hid (by
    rw [HW2.out]
    have := (F0.out.box 75 #[.string s, .slice (some a) ps.length c]).box 3 #[.int .i64 p]
    simpa using this)
  have hz : w2.heap.size = w.heap.size + 5 := by rw [HW2.out]; simp
  have hs2 : w.heap.size + 5 ≤ w2.heap.size := by omega
  have L2 := Lib.hid (Fr.lies HA.out F2.out)
  have B2 := Lib.hid F2.out.bl
  clear hz HW2 F0
  refine wpIn_rangeFunc_ownH (α := Sp ps p) rfl (by decide) (gf := 76) (lb := #[.pointer (some ⟨w.heap.size + 1 + 1 + 1 + 1, 0, none⟩), .pointer (some ⟨w.heap.size + 1 + 1 + 1, 0, none⟩)]) rfl trivial (enters_of Try.func76 (by kernel_rfl) rfl)
    (encs := fun x => #[.int .i64 (x.1 : Int)]) (Kp := Below w2.heap.size) (S := fun ys => ys = stL ps p ps.length) (Sp := fun pre => ∃ k, k ≤ ps.length ∧ pre = stL ps p k) (N := ps.length) (w0 := w2)
    (fun l J Jx W hW hJ _ hY h0 => stops1_any (12 - 1) (by decide) s ps (some a) c h12 p hp l (w.heap.size + 1 + 1 + 1) w2.heap.size J Jx
      (fun s A B hs hb => hJ s A B none hs (grown_of_below hb) (fun r e => by cases e)) hY W (by omega) hW.size ((F2.out.get 1 rfl).below hW (by omega)) ((F2.out.get 0 rfl).below hW (by omega)) (L2.out.below hW) h0)
    belowK_t (belowK_b (Nat.le_refl _)) (Below.refl _ _) (fun _ => rfl)
    (fun pre W => (∀ x ∈ pre, rchB ps b p sq x.1 = false) ∧ Below w2.heap.size w2 W)
    (fun c pre W => (c = .ret ∧ (∃ x ∈ pre, rchB ps b p sq x.1 = true) ∧ Bk W (w.heap.size + 1 + 1) 4 #[.bool true]) ∧ Below w.heap.size w W)
    (OwnFrom.and (fun s A B row hs _ _ => hs) (ownFrom_below (Nat.le_refl _) (Nat.le_refl _)))
    (fun c => OwnFrom.and (Own.from (fun s A B row hs hg hr => ⟨hs.1, hs.2.1, hs.2.2.kept hg hr⟩) _) (ownFrom_below (Nat.le_refl _) (by omega)))
    ⟨by simp, Below.refl _ _⟩
    (fun x a' _ => a' = { tmps := #[.agg #[.string s, .slice (some a) ps.length c, .int .i64 b.brk, .int .i64 b.drag, .int .i64 b.drv], .agg #[.int .i64 p, .int .i64 sq], .pointer (some ⟨w.heap.size, 0, none⟩), .pointer (some ⟨w.heap.size + 1, 0, none⟩), .pointer (some ⟨w.heap.size + 1 + 1, 0, none⟩), .int .i64 (x.1 : Int), .pointer (some ⟨w.heap.size, 0, none⟩), .agg #[.string s, .slice (some a) ps.length c], .pointer (some ⟨w.heap.size + 1, 0, none⟩), .int .i64 p,
      .func (.func 76) #[] #[.pointer (some ⟨w.heap.size + 1 + 1 + 1 + 1, 0, none⟩), .pointer (some ⟨w.heap.size + 1 + 1 + 1, 0, none⟩)], .int .i64 (x.1 : Int), undef, undef, undef, undef], defers := [] })
    (fun _ _ _ _ _ _ hs _ _ => hs)
    ?assign ?body ?done ?stop
  case assign =>
    rintro l pre x W K hi hK
    gi_wp2
    exact hK _ _ (KeepsFrom.refl _ _) (Below.refl _ _) hi rfl
  case body =>
    rintro l pre x a' W hl _ ⟨hun, hB⟩ rfl hlt
    have FW := Lib.hid (F2.out.call hB)
    have HU := Lib.hid hun
    have hBs := hB.size
    have HW := Lib.hid hB
    have hd : 1 ≤ 12 - 1 - 1 := by decide
    have HRE := Lib.hid (fun W hW => reaches_any s ps a c b HB.out h0 h12 HX.out x.1 p x.2.2.1 x.2.1 sq HQ.out W hW)
    have r0 := (FW.out.get 4 rfl).cell 0
    have r1 := (FW.out.get 4 rfl).cell 1
    have r2 := (FW.out.get 4 rfl).cell 2
    have r3 := (FW.out.get 4 rfl).cell 3
    have r4 := (FW.out.get 4 rfl).cell 4
    obtain ⟨x0, x1, _, _⟩ := (FW.out.get 3 rfl).two
    clear hun hB
    cases hr : rchB ps b p sq x.1 with
    | false =>
      have HR := Lib.hid hr
      have hr2 := hr
      unfold rchB at hr2
      rw [hr2] at HRE
      clear hr hr2
      gi_wp2_with (refine ⟨trivial, ?_⟩; gi_at_call 42; refine (CallsIn.inRound l (callsIn_wide.2 (HRE.out _ (Fr.lies HA.out FW.out)))).mono ?_; rintro e w3 ⟨rfl, hb3⟩; have HB3 := Lib.hid hb3; clear hb3)
      exact ⟨(keeps_of_below HB3.out).from _, HB3.out.mono hBs, fun y hy => by
        rcases List.mem_append.1 hy with h | h
        · exact HU.out y h
        · rw [List.mem_singleton.1 h]; exact HR.out, HW.out.trans (HB3.out.mono hBs)⟩
    | true =>
      have HR := Lib.hid hr
      have hr2 := hr
      unfold rchB at hr2
      rw [hr2] at HRE
      clear hr hr2
      gi_wp2_with (refine ⟨trivial, ?_⟩; gi_at_call 42; refine (CallsIn.inRound l (callsIn_wide.2 (HRE.out _ (Fr.lies HA.out FW.out)))).mono ?_; rintro e w3 ⟨rfl, hb3⟩; have HB3 := Lib.hid hb3; have F3 := Lib.hid (FW.out.call hb3); clear hb3; obtain ⟨u0, u1⟩ := (F3.out.get 2 rfl).one)
      exact ⟨((keeps_of_below HB3.out).trans (KeepsOthers.setCell _ _ _)).from _, ⟨rfl, ⟨x, by simp, HR.out⟩, by have := (F3.out.get 2 rfl).set_ 0 (.bool true); simpa using this⟩, F3.out.bl.setCell (by simp; omega) _⟩
  case done =>
    rintro D ys W hD rfl ⟨hun, hB⟩ hK
    have FW := Lib.hid (F2.out.call hB)
    have HN := Lib.hid (safe_no hun)
    obtain ⟨u0, u1⟩ := (FW.out.get 2 rfl).one
    have hBs := hB.size
    clear hun hB
    gi_wp2
    have ks := KeepsOthers.setCell W ⟨w.heap.size + 1 + 1, 0, none⟩ (.bool false)
    have r1 : Bk (W.setCell ⟨w.heap.size + 1 + 1, 0, none⟩ (.bool false)) (w.heap.size + 1 + 1) 4 #[.bool false] := by
      have := (FW.out.get 2 rfl).set_ 0 (.bool false)
      simpa using this
    have bl := FW.out.bl.setCell (p := ⟨w.heap.size + 1 + 1, 0, none⟩) (by simp; omega) (.bool false)
    have hK' := ks.same D _ hK rfl
    generalize W.setCell ⟨w.heap.size + 1 + 1, 0, none⟩ (.bool false) = W5 at *
    refine ⟨by simp, .inl ⟨_, _, rfl, run_takeDeferred hK', ?_⟩⟩
    obtain ⟨u2, _⟩ := (Bk.kept r1 (grownBy_putObj' W5 D (.deferred none)) (fun r e => by cases e; exact ⟨_, hK', rfl⟩)).one
    refine ⟨.bool false, ?_, by rw [HN.out], bl.trans (belowK_b (w := w) (Nat.le_refl _) _ D _ _ (by omega) hK' rfl rfl)⟩
    simp [results, Try.f62, go_sem, u2]
  case stop =>
    rintro D c pre W hD hpre ⟨⟨rfl, hpf, hr3⟩, hB⟩ hK
    obtain ⟨k, hk, hpre⟩ := hpre
    have HY := Lib.hid (safe_yes (sq := sq) (b := b) hk hpre hpf)
    have R3 := Lib.hid hr3
    clear hr3 hpf hpre
    gi_wp2
    refine ⟨by simp, .inl ⟨_, _, rfl, run_takeDeferred hK, ?_⟩⟩
    obtain ⟨u2, _⟩ := (Bk.kept R3.out (grownBy_putObj' W D (.deferred none)) (fun r e => by cases e; exact ⟨_, hK, rfl⟩)).one
    refine ⟨.bool true, ?_, by rw [HY.out], hB.trans (belowK_b (w := w) (Nat.le_refl _) W D _ _ (by omega) hK rfl rfl)⟩
    simp [results, Try.f62, go_sem, u2]
end Go.Proofs.Ytmjooiocgeoaiaa
