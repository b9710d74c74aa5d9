
/-
  TopBrakeTogether: the cases put together.
-/
import Derived.Test.YtaghpemdcmjchaaTgL
namespace Go.Proofs.Ytaghpemdcmjchaa
open Go.RowKit
set_option maxHeartbeats 4000000 in
theorem TopBrakeTogether_any (s : ByteArray) (hs : s.size ≤ maxLen) (ps : List Bp) (A : Option Addr) (c : Nat) (hg : HdOk ⟨A, c⟩) (hl : ps.length ≤ maxLen) (s2 : ByteArray) (hs2 : s2.size ≤ maxLen) (ps2 : List Bp) (A2 : Option Addr) (c2 : Nat) (hg2 : HdOk ⟨A2, c2⟩) (hl2 : ps2.length ≤ maxLen) (b : Bs) (l : List Int) (NR : Nat) (hNR : l.length = NR) (R : Option Addr) (cr : Nat) (hgr : HdOk ⟨R, cr⟩) (hrc : NR ≤ cr) (hrm : cr ≤ maxLen) (p sq stop : Int) (w : World) (hA : Lies w w.heap.size A (ps.flatMap pc)) (hA2 : Lies w w.heap.size A2 (ps2.flatMap pc)) (hR : Lies w w.heap.size R (ic l)) : Calls Try.prog 3 #[.agg #[.string s, .slice A ps.length c], .agg #[.string s2, .slice A2 ps2.length c2], .agg #[.int .i64 b.brk, .int .i64 b.drag, .int .i64 b.drv, .int .i64 p, .int .i64 sq, .int .i64 stop, .slice R NR cr]] w fun e w' => e = .returned (.bool true) ∧ Below w.heap.size w w' := by
  cases h1 : smallB s ps with
  | false => exact tg_end1 s hs ps A c hg hl s2 hs2 ps2 A2 c2 hg2 hl2 b l NR hNR R cr hgr hrc hrm p sq stop h1 w hA hA2 hR
  | true =>
    cases h2 : smallB s2 ps2 with
    | false => exact tg_end2 s hs ps A c hg hl s2 hs2 ps2 A2 c2 hg2 hl2 b l NR hNR R cr hgr hrc hrm p sq stop h1 h2 w hA hA2 hR
    | true =>
      by_cases h3 : ps.length + ps2.length ≤ 12
      · by_cases h4 : sE b = 0
        · by_cases h5 : stopE ps2 stop = 0
          · by_cases h6 : stateE ps2 p sq = 0
            · by_cases h7 : 1 ≤ p
              · by_cases h8 : p ≤ stop
                · obtain ⟨k, rfl, hk, _⟩ := stopE_ok h5
                  obtain ⟨q, rfl, _, hsq⟩ := stateE_ok h6
                  exact tg_main s hs ps A c hg hl s2 hs2 ps2 A2 c2 hg2 hl2 b l NR hNR R cr hgr hrc hrm q sq k h1 h2 h3 h4 hk h5 h6 hsq (by omega) (by omega) w hA hA2 hR
                · exact tg_end8 s hs ps A c hg hl s2 hs2 ps2 A2 c2 hg2 hl2 b l NR hNR R cr hgr hrc hrm p sq stop h1 h2 h3 h4 h5 h6 h7 (by omega) w hA hA2 hR
              · exact tg_end7 s hs ps A c hg hl s2 hs2 ps2 A2 c2 hg2 hl2 b l NR hNR R cr hgr hrc hrm p sq stop h1 h2 h3 h4 h5 h6 (by omega) w hA hA2 hR
            · exact tg_end6 s hs ps A c hg hl s2 hs2 ps2 A2 c2 hg2 hl2 b l NR hNR R cr hgr hrc hrm p sq stop h1 h2 h3 h4 h5 h6 w hA hA2 hR
          · exact tg_end5 s hs ps A c hg hl s2 hs2 ps2 A2 c2 hg2 hl2 b l NR hNR R cr hgr hrc hrm p sq stop h1 h2 h3 h4 h5 w hA hA2 hR
        · exact tg_end4 s hs ps A c hg hl s2 hs2 ps2 A2 c2 hg2 hl2 b l NR hNR R cr hgr hrc hrm p sq stop h1 h2 h3 h4 w hA hA2 hR
      · exact tg_end3 s hs ps A c hg hl s2 hs2 ps2 A2 c2 hg2 hl2 b l NR hNR R cr hgr hrc hrm p sq stop h1 h2 (by omega) w hA hA2 hR
end Go.Proofs.Ytaghpemdcmjchaa
