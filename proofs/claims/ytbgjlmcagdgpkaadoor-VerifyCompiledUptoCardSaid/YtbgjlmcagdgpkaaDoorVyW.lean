/-
  The walker in memory: its box, the map of depths, the channel of places that wait; reach.
-/
import Derived.Test.YtbgjlmcagdgpkaaDoorVyR
import Derived.Test.YtbgjlmcagdgpkaaDoorVyB
import Derived.Test.YtbgjlmcagdgpkaaDoorSd
import Derived.Maps.OwnSet
import Derived.Maps.Views
import Derived.OwnWalk
namespace Go.Proofs.YtbgjlmcagdgpkaaDoor
open Go Go.RowKit Go.Lib Go.Conc

/-- The map of depths. -/
def DMap (M c : Nat) (D : List (Nat × Int)) (W : World) : Prop :=
  ∃ E : DataW Unit, W.ownsMap Tryd.prog 3 (plainElem Tryd.prog 3) M c E ∧ ∀ i : Nat, i < 4611686018427387904 → Maps.has E (.int .i64 i) = (look D i).isSome ∧ E.atKey (.int .i64 i) (.lit (.int .i64 0)) = .lit (.int .i64 ((look D i).getD 0))
abbrev wkO (s : ByteArray) (n v x : Int) (vl va : Value) (M C : Nat) : Obj := .cells #[.string s, .int .i64 n, .int .i64 v, .int .i64 x, vl, va, .map (some M), .chan (some C)] 72
/-- The walker at work: B: what was there before it. -/
structure Wk (B O M C : Nat) (w0 : World) (s : ByteArray) (n v x : Int) (vl va : Value) (len k : Nat) (st : Vs) (W : World) : Prop where
  box : W.heap[O]? = some (wkO s n v x vl va M C)
  map : DMap M st.D.length st.D W
  chan : W.heap[C]? = some (.chan len (st.Q.map fun (q : Nat) => Value.int .i64 (q : Int)).toArray false st.D.length k false)
  bO : B ≤ O
  bM : B ≤ M
  bC : B ≤ C
  ne1 : O ≠ M
  ne2 : O ≠ C
  ne3 : M ≠ C
  bel : Below B w0 W
  ok : VOk len k st
theorem intZ (w : World) : (zeroValue 3).run Tryd.prog w = .ok (.int .i64 0) w := by kernel_rfl
theorem wf_of {n : Int} (h : -9223372036854775808 ≤ n ∧ n ≤ 9223372036854775807) : (Lit.int .i64 n).wf = true := by
  have h1 : IntKind.i64.min = -9223372036854775808 := rfl
  have h2 : IntKind.i64.max = 9223372036854775807 := rfl
  simp only [Lit.wf, Bool.and_eq_true, decide_eq_true_eq]
  omega
set_option maxRecDepth 100000 in
theorem DMap.look_ok {M c : Nat} {D : List (Nat × Int)} {W : World} (h : DMap M c D W) (i : Nat) (hi : i < 4611686018427387904) :
    (Instr.lookup 69 (.map (some M)) (.int .i64 (i : Int)) true).run Tryd.prog W = .ok (.tuple #[.int .i64 ((look D i).getD 0), .bool (look D i).isSome]) W := by
  obtain ⟨E, h1, h2⟩ := h
  obtain ⟨v, ps, hr, hv⟩ := h1.look_ok (Maps.int_keyed Tryd.underlying3) Tryd.underlying69 (intZ _) (plainElem_int Tryd.underlying3 (by decide)) (Maps.keyOf_int_mk Tryd.underlying3 (a := (i : Int)) (wf_of (by omega)))
  obtain ⟨c, rfl, hc, _⟩ := plainElem_int_inv Tryd.underlying3 hv
  have hc := congrArg Prod.fst hc
  simp only [(h2 i hi).2] at hc
  injection hc with hc
  injection hc with _ hc
  rw [hr, (h2 i hi).1, hc]
set_option maxRecDepth 100000 in
theorem DMap.look_plain {M c : Nat} {D : List (Nat × Int)} {W : World} (h : DMap M c D W) (i : Nat) (hi : i < 4611686018427387904) :
    (Instr.lookup 69 (.map (some M)) (.int .i64 (i : Int)) false).run Tryd.prog W = .ok (.int .i64 ((look D i).getD 0)) W := by
  obtain ⟨E, h1, h2⟩ := h
  obtain ⟨c, hr, hc, _⟩ := h1.lookup_int (Maps.int_keyed Tryd.underlying3) Tryd.underlying69 Tryd.underlying3 (intZ _) (Maps.keyOf_int_mk Tryd.underlying3 (a := (i : Int)) (wf_of (by omega)))
  rw [(h2 i hi).2] at hc
  injection hc with hc
  injection hc with _ hc
  rw [hr, hc]
theorem DMap.kept {M c : Nat} {D : List (Nat × Int)} {W W' : World} {row : Option Nat} (h : DMap M c D W) (hg : W.grownBy W' row) (hne : some M ≠ row) : DMap M c D W' := by
  obtain ⟨E, h1, h2⟩ := h
  exact ⟨E, h1.kept hg hne, h2⟩
theorem lit_ne {i j : Nat} (h : i ≠ j) : (Lit.int .i64 (i : Int)) ≠ .int .i64 (j : Int) := by
  intro e
  injection e with _ e
  omega
theorem DMap.put {M c k : Nat} {d : Int} {D : List (Nat × Int)} {E : DataW Unit} {W : World} (h : W.ownsMap Tryd.prog 3 (plainElem Tryd.prog 3) M (c + 1) (E.put (.int .i64 (k : Int)) (.lit (.int .i64 d)))) (hE : Maps.Tidy E) (h2 : ∀ i : Nat, i < 4611686018427387904 → Maps.has E (.int .i64 i) = (look D i).isSome ∧ E.atKey (.int .i64 i) (.lit (.int .i64 0)) = .lit (.int .i64 ((look D i).getD 0))) : DMap M (c + 1) ((k, d) :: D) W := by
  refine ⟨_, h, fun i hi => ?_⟩
  by_cases e : k = i
  · subst e
    simp only [look]
    exact ⟨Maps.has_put_same hE.isMap (by unfold WideAt.IsKeyLit; trivial) _, Maps.atKey_put_same hE.isMap (by unfold WideAt.IsKeyLit; trivial) _ _⟩
  · simp only [look, if_neg e]
    rw [Maps.has_put_other (lit_ne (Ne.symm e)), Maps.atKey_put_other (lit_ne (Ne.symm e))]
    exact h2 i hi
end Go.Proofs.YtbgjlmcagdgpkaaDoor
