/-
  Statements without parts, plainly and as cells; programs of inputs and of arrays, and what their names are.
-/
import Derived.Test.YtaajolemjgdfnaaDoorSqW
namespace Go.Proofs.YtaajolemjgdfnaaDoor
open Go Go.RowKit Go.Lib

/-- Statements without parts: op, name, number. -/
def ssOf : List (Int × ByteArray × Int) → SS
  | [] => .nil
  | (op, s, n) :: r => .cons op s n .nil .nil .nil (ssOf r)
def cellsOf : List (Int × ByteArray × Int) → List Value
  | [] => []
  | (op, s, n) :: r => .int .i64 op :: .string s :: .int .i64 n :: .slice none 0 0 :: .slice none 0 0 :: .slice none 0 0 :: cellsOf r
def nar3 (l : List (Int × ByteArray × Int)) : Prop := ∀ x, x ∈ l → I64 x.1 ∧ I64 x.2.2 ∧ x.2.1.size ≤ 9223372036854775807
theorem ev_nought (B : Nat) (W : World) : EV B W (.slice none 0 0) .nil := ⟨none, 0, rfl, Nat.le_refl _, by decide, fun h => by simp [ES.len] at h⟩
theorem sv_nought (B : Nat) (W : World) : SV B W (.slice none 0 0) .nil := ⟨none, 0, rfl, Nat.le_refl _, by decide, fun h => by simp [SS.len] at h⟩
theorem fv_nought (B : Nat) (W : World) : FV B W (.slice none 0 0) [] := ⟨none, 0, rfl, Nat.le_refl _, by decide, fun h => by simp at h⟩
theorem ps_nought (B : Nat) (W : World) : RowV (PsIn W []) B 0 (.slice none 0 0) := ⟨none, 0, rfl, Nat.le_refl _, by decide, fun h => by omega⟩
theorem cells_of (B : Nat) (W : World) : ∀ {l : List (Int × ByteArray × Int)}, nar3 l → (ssOf l).Cells B W (cellsOf l)
  | [], _ => rfl
  | (op, s, n) :: r, h => by
    obtain ⟨h1, h2, h3⟩ := h _ List.mem_cons_self
    exact ⟨_, _, _, cellsOf r, rfl, ev_nought _ _, sv_nought _ _, sv_nought _ _, ⟨h1, h2, h3⟩, cells_of B W fun x hx => h x (List.mem_cons_of_mem _ hx)⟩
theorem cellsOf_app : ∀ a b : List (Int × ByteArray × Int), cellsOf (a ++ b) = cellsOf a ++ cellsOf b
  | [], _ => rfl
  | (op, s, n) :: r, b => by simp [cellsOf, cellsOf_app r b]
theorem ssOf_len : ∀ l : List (Int × ByteArray × Int), (ssOf l).len = l.length
  | [] => rfl
  | (_, _, _) :: r => by simp [ssOf, SS.len, ssOf_len r]
theorem ssOf_cnt : ∀ l : List (Int × ByteArray × Int), (ssOf l).cnt = l.length
  | [] => rfl
  | (_, _, _) :: r => by simp [ssOf, SS.cnt, ES.cnt, ssOf_cnt r]; omega
theorem ssOf_ok : ∀ l : List (Int × ByteArray × Int), (ssOf l).ok = l.all fun x => fitP ⟨true, x.1, x.2.1, x.2.2, .nil, .nil, .nil⟩
  | [] => rfl
  | (_, _, _) :: r => by simp [ssOf, SS.ok, ES.ok, ssOf_ok r]
theorem ssOf_deep : ∀ l : List (Int × ByteArray × Int), (ssOf l).deep ≤ 1
  | [] => by decide
  | (_, _, _) :: r => by
    have h := ssOf_deep r
    have e : wrap64 (1 + max (ES.nil).deep (max (SS.nil).deep (SS.nil).deep)) = 1 := by kernel_rfl
    show max (wrap64 (1 + max (ES.nil).deep (max (SS.nil).deep (SS.nil).deep))) (ssOf r).deep ≤ 1
    rw [e]
    omega
theorem ssOf_us : ∀ l : List (Int × ByteArray × Int), (ssOf l).us = l.flatMap fun x => stU x.1 x.2.1
  | [] => rfl
  | (_, _, _) :: r => by simp [ssOf, SS.us, ES.us, ssOf_us r]
/-- Inputs of these names, arrays of those. -/
def stVX (V X : List ByteArray) : List (Int × ByteArray × Int) := V.map (fun s => (4, s, 0)) ++ X.map (fun s => (3, s, 1))
theorem stVX_us (V X : List ByteArray) : (ssOf (stVX V X)).us = V.map .var ++ X.map .mk := by
  rw [ssOf_us, stVX, List.flatMap_append]
  congr 1
  · induction V with
    | nil => rfl
    | cons s r ih => simp [stU] at ih ⊢; exact ih
  · induction X with
    | nil => rfl
    | cons s r ih => simp [stU] at ih ⊢; exact ih
theorem run_vars (ar : ByteArray → Option Nat) : ∀ (l : List ByteArray) (g : Gt), (g.vs ++ l).Nodup → g.run ar (l.map .var) = { g with vs := g.vs ++ l }
  | [], g, _ => by simp [Gt.run]
  | s :: r, g, h => by
    have hs : s ∉ g.vs := by
      intro hm
      rw [List.nodup_append] at h
      exact h.2.2 s hm s List.mem_cons_self rfl
    have e : g.run ar ((s :: r).map .var) = ({ g with vs := g.vs ++ [s] } : Gt).run ar (r.map .var) := by
      simp only [Gt.run, List.map_cons, List.foldl_cons, Gt.step, withN, if_neg hs]
    rw [e, run_vars ar r _ (by simpa using h)]
    simp
theorem run_mks (ar : ByteArray → Option Nat) : ∀ (l : List ByteArray) (g : Gt), (g.xs ++ l).Nodup → (g.ms ++ l).Nodup → g.run ar (l.map .mk) = { g with xs := g.xs ++ l, ms := g.ms ++ l }
  | [], g, _, _ => by simp [Gt.run]
  | s :: r, g, h, h' => by
    have hs : s ∉ g.xs := by
      intro hm
      rw [List.nodup_append] at h
      exact h.2.2 s hm s List.mem_cons_self rfl
    have hs' : s ∉ g.ms := by
      intro hm
      rw [List.nodup_append] at h'
      exact h'.2.2 s hm s List.mem_cons_self rfl
    have e : g.run ar ((s :: r).map .mk) = ({ g with xs := g.xs ++ [s], ms := g.ms ++ [s] } : Gt).run ar (r.map .mk) := by
      simp only [Gt.run, List.map_cons, List.foldl_cons, Gt.step, withN, if_neg hs, if_neg hs']
    rw [e, run_mks ar r _ (by simpa using h) (by simpa using h')]
    simp
/-- Names that go together. -/
structure Names (V X : List ByteArray) : Prop where
  v : V.Nodup
  x : X.Nodup
  vx : ∀ s, s ∈ X → s ∉ V
  fv : ∀ s, s ∈ V → fitP ⟨true, 4, s, 0, .nil, .nil, .nil⟩ = true
  fx : ∀ s, s ∈ X → fitP ⟨true, 3, s, 1, .nil, .nil, .nil⟩ = true
theorem vx_gFn (ar : ByteArray → Option Nat) (nm : ByteArray) {V X : List ByteArray} (h : Names V X) : gFn ar ⟨nm, [], ssOf (stVX V X)⟩ = ⟨V, X, X, true⟩ := by
  rw [gFn_def]
  show Gt.run ar { g0 with ok := true } (ssOf (stVX V X)).us = _
  rw [stVX_us, Gt.run_app, run_vars ar V _ (by simpa [g0] using h.v), run_mks ar X _ (by simpa [g0] using h.x) (by simpa [g0] using h.x)]
  simp [g0]
theorem vx_ok (ar : ByteArray → Option Nat) (nm : ByteArray) {V X : List ByteArray} (h : Names V X) : okFn ar ⟨nm, [], ssOf (stVX V X)⟩ = true := by
  unfold okFn
  rw [vx_gFn ar nm h]
  simp only [Gt.agree, Bool.true_and, List.all_eq_true, Bool.and_eq_true, decide_eq_true_eq, Bool.not_eq_true', decide_eq_false_iff_not]
  exact fun a ha => ⟨ha, h.vx a ha⟩
theorem vx_fit {V X : List ByteArray} (h : Names V X) : (ssOf (stVX V X)).ok = true := by
  rw [ssOf_ok, stVX, List.all_append]
  simp only [Bool.and_eq_true, List.all_map, List.all_eq_true, Function.comp_apply]
  exact ⟨fun s hs => h.fv s hs, fun s hs => h.fx s hs⟩
def pgM (V X : List ByteArray) : Pg := ⟨[], ssOf (stVX V X)⟩
def pgF (V X : List ByteArray) : Pg := ⟨[⟨⟨#[102]⟩, [], ssOf (stVX V X)⟩], .nil⟩
theorem right_flat {p : Pg} {l : List (Int × ByteArray × Int)} (h : p = ⟨[], ssOf l⟩ ∨ p = ⟨[⟨⟨#[102]⟩, [], ssOf l⟩], .nil⟩) (hok : (ssOf l).ok = true) : rightN p = 0 := by
  have hd := ssOf_deep l
  have hn : nameB ⟨#[102]⟩ = true := by decide +kernel
  rcases h with rfl | rfl
  · have h1 : (funcsB ([] : List Fn) && okL (Pg.pts ⟨[], ssOf l⟩)) = true := by
      rw [Pg.pts, okL_append, SS.okL, hok]; rfl
    have h2 : ¬ 64 < deepL (Pg.pts ⟨[], ssOf l⟩) := by
      rw [Pg.pts, deepL_append, SS.deepL]
      simp only [fsPts, deepL]; omega
    unfold rightN
    rw [if_pos h1, if_neg h2]
  · have h1 : (funcsB [⟨⟨#[102]⟩, [], ssOf l⟩] && okL (Pg.pts ⟨[⟨⟨#[102]⟩, [], ssOf l⟩], .nil⟩)) = true := by
      rw [Pg.pts, okL_append, fsPts, okL_append, SS.okL, SS.okL, hok]
      simp [funcsB, fsOk, hn, paramsB, psOk, fsPts, okL, SS.ok]
    have h2 : ¬ 64 < deepL (Pg.pts ⟨[⟨⟨#[102]⟩, [], ssOf l⟩], .nil⟩) := by
      rw [Pg.pts, deepL_append, fsPts, deepL_append, SS.deepL, SS.deepL]
      simp only [fsPts, deepL, SS.deep]; omega
    unfold rightN
    rw [if_pos h1, if_neg h2]
def fullVX (V X : List ByteArray) : Bool := decide (64 < V.length) || decide (64 < X.length)
theorem pgM_err {V X : List ByteArray} (h : Names V X) : resErr (pgM V X) = if fullVX V X then 10 else 0 := by
  have hr : rightN (pgM V X) = 0 := right_flat (.inl rfl) (vx_fit h)
  rw [err_ok hr (by
    show (distinctN [] && (okFn _ ⟨⟨#[]⟩, [], ssOf (stVX V X)⟩ && true)) = true
    rw [vx_ok _ _ h]; rfl)]
  have : (scopes (pgM V X)).any Sp.full = fullVX V X := by
    show (Sp.full (spFn _ ⟨⟨#[]⟩, [], ssOf (stVX V X)⟩) || false) = _
    unfold spFn
    rw [vx_gFn _ _ h]
    simp [Sp.full, fullVX]
  rw [this]
theorem pgF_err {V X : List ByteArray} (h : Names V X) : resErr (pgF V X) = if fullVX V X then 10 else 0 := by
  have hr : rightN (pgF V X) = 0 := right_flat (.inr rfl) (vx_fit h)
  rw [err_ok hr (by
    show (distinctN [⟨⟨#[102]⟩, [], ssOf (stVX V X)⟩] && (okFn _ _ && (okFn _ ⟨⟨#[102]⟩, [], ssOf (stVX V X)⟩ && true))) = true
    rw [vx_ok _ _ h, show okFn (arF (pgF V X).fs) (mainF (pgF V X)) = true from rfl]; rfl)]
  have : (scopes (pgF V X)).any Sp.full = fullVX V X := by
    show (Sp.full (spFn _ (mainF (pgF V X))) || (Sp.full (spFn _ ⟨⟨#[102]⟩, [], ssOf (stVX V X)⟩) || false)) = _
    rw [show Sp.full (spFn (arF (pgF V X).fs) (mainF (pgF V X))) = false from rfl]
    unfold spFn
    rw [vx_gFn _ _ h]
    simp [Sp.full, fullVX]
  rw [this]
theorem pgM_res {V X : List ByteArray} (h : Names V X) : resP (pgM V X) = if fullVX V X then [] else [⟨⟨#[]⟩, 0, V, X⟩] := by
  unfold resP
  rw [pgM_err h]
  cases fullVX V X with
  | true => rfl
  | false =>
    show [spFn _ ⟨⟨#[]⟩, [], ssOf (stVX V X)⟩] = _
    unfold spFn
    rw [vx_gFn _ _ h]
    rfl
theorem pgF_res {V X : List ByteArray} (h : Names V X) : resP (pgF V X) = if fullVX V X then [] else [⟨⟨#[]⟩, 0, [], []⟩, ⟨⟨#[102]⟩, 0, V, X⟩] := by
  unfold resP
  rw [pgF_err h]
  cases fullVX V X with
  | true => rfl
  | false =>
    show [spFn _ (mainF (pgF V X)), spFn _ ⟨⟨#[102]⟩, [], ssOf (stVX V X)⟩] = _
    rw [show spFn (arF (pgF V X).fs) (mainF (pgF V X)) = ⟨⟨#[]⟩, 0, [], []⟩ from rfl]
    unfold spFn
    rw [vx_gFn _ _ h]
    rfl
end Go.Proofs.YtaajolemjgdfnaaDoor
