/-
  What the rows' variables give a call; Compile at every program; small programs in memory.
-/
import Derived.Test.YtbgjlmcagdgpkaaDoorCpL
namespace Go.Proofs.YtbgjlmcagdgpkaaDoor
open Go Go.RowKit Go.Lib

/-- The tables that the calls read. -/
structure TB (w : World) : Prop where
  ct : ∃ lo, CT lo w
  tab : Tab w
  sm : SameAt w
theorem TB.lw {w : World} (h : TB w) : 4 ≤ w.heap.size := h.tab.1
theorem TB.step {w w' : World} (h : TB w) (hb : Below w.heap.size w w') : TB w' := by
  obtain ⟨lo, hc⟩ := h.ct
  exact ⟨⟨lo, hc.step hb⟩, h.tab.below hb h.lw, h.sm.below (Nat.lt_of_lt_of_le (by decide) h.lw) hb⟩

theorem compile_any (v : Value) (p : Pg) (w : World) (hv : PgV w.heap.size w v p) (ht : TB w) (hc : cntL p.pts ≤ 10000000) :
    Calls Tryd.prog 5 #[v] w fun e w' => ∃ vf, e = .returned (.tuple #[.agg #[vf], .int .i64 (resErr p)]) ∧ FcV w'.heap.size w' vf (cmpP p) ∧ Below w.heap.size w w' := by
  by_cases h : resErr p = 0
  · refine (compile_ok v p w hv ht.tab (Nat.lt_of_lt_of_le (by decide) ht.lw) ht.sm hc h).mono ?_
    rintro e w' ⟨vf, rfl, h1, h2⟩
    refine ⟨vf, by rw [h], ?_, h2⟩
    unfold cmpP; rw [if_pos h]; exact h1
  · refine (compile_err v p w hv ht.tab hc h).mono ?_
    rintro e w' ⟨rfl, h2⟩
    exact ⟨_, rfl, fcv_nil _ _ _ h, h2⟩

end Go.Proofs.YtbgjlmcagdgpkaaDoor
