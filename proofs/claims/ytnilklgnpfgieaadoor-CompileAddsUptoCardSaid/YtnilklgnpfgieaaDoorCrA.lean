/-
  Functions as rows of cells; two rows and a box of the call's own; which operations of a region have come up.
-/
import Derived.Test.YtnilklgnpfgieaaDoorSd
import Derived.Test.YtnilklgnpfgieaaDoorInv
namespace Go.Proofs.YtnilklgnpfgieaaDoor
open Go Go.RowKit Go.Lib

/-- The cells of functions that lie one behind the other. -/
def fsCells (B : Nat) (W : World) : List Fn → List Value → Prop
  | [] => fun cs => cs = []
  | f :: r => fun cs => ∃ vp vb rest, cs = .string f.s :: vp :: vb :: rest ∧ RowV (PsIn W f.ps) B f.ps.length vp ∧ SV B W vb f.b ∧ f.s.size ≤ 9223372036854775807 ∧ fsCells B W r rest
theorem fsCells.len {B : Nat} {W : World} : ∀ {l : List Fn} {cs : List Value}, fsCells B W l cs → cs.length = l.length * 3
  | [], _, h => by rw [show _ = [] from h]; rfl
  | _ :: r, _, ⟨_, _, rest, e, _, _, _, hr⟩ => by rw [e]; simp [fsCells.len hr]; omega
theorem fsCells.one {B : Nat} {W : World} : ∀ {l : List Fn} {cs : List Value}, fsCells B W l cs → ∀ u ∈ cs, u.oneCell' = true
  | [], _, h, u, hu => by rw [show _ = [] from h] at hu; cases hu
  | _ :: r, _, ⟨vp, vb, rest, e, ⟨_, _, hp, _⟩, ⟨_, _, hb, _⟩, _, hr⟩, u, hu => by
    subst e hp hb
    simp only [List.mem_cons] at hu
    rcases hu with rfl | rfl | rfl | hu
    · rfl
    · rfl
    · rfl
    · exact fsCells.one hr u hu
theorem fsCells.below {B B' : Nat} {W W' : World} (hb : Below B W W') (hB : B ≤ B') : ∀ {l : List Fn} {cs : List Value}, fsCells B W l cs → fsCells B' W' l cs
  | [], _, h => h
  | _ :: _, _, ⟨vp, vb, rest, e, h1, h2, h3, hr⟩ => ⟨vp, vb, rest, e, RowV.imp h1 hB fun _ _ hb' hq => PsIn.below hb hb' hq, SV.below h2 hb hB, h3, fsCells.below hb hB hr⟩
theorem FsIn.cells {B : Nat} {W : World} : ∀ {l : List Fn} {b o : Nat}, FsIn B W l b o → ∃ cs, fsCells B W l cs ∧ ∀ j u, cs[j]? = some u → W.cell? ⟨b, o + j, none⟩ = some u
  | [], b, o, _ => ⟨[], rfl, fun j u h => by simp at h⟩
  | _ :: _, b, o, ⟨c0, ⟨vp, c1, h1⟩, ⟨vb, c2, h2⟩, h3, hr⟩ => by
    obtain ⟨rest, hc, hq⟩ := FsIn.cells hr
    refine ⟨_, ⟨vp, vb, rest, rfl, h1, h2, h3, hc⟩, fun j u hu => ?_⟩
    match j, hu with
    | 0, hu => simp at hu; subst hu; exact c0
    | 1, hu => simp at hu; subst hu; exact c1
    | 2, hu => simp at hu; subst hu; exact c2
    | j + 3, hu =>
      rw [show o + (j + 3) = o + 3 + j by omega]
      exact hq j u (by simpa using hu)
theorem fsCells.in_ {B : Nat} {W : World} : ∀ {l : List Fn} {cs : List Value} {b o : Nat}, fsCells B W l cs → (∀ j u, cs[j]? = some u → W.cell? ⟨b, o + j, none⟩ = some u) → FsIn B W l b o
  | [], _, _, _, _, _ => trivial
  | _ :: _, _, b, o, ⟨vp, vb, rest, e, h1, h2, h3, hr⟩, hq => by
    subst e
    exact ⟨hq 0 _ rfl, ⟨vp, hq 1 _ rfl, h1⟩, ⟨vb, hq 2 _ rfl, h2⟩, h3, fsCells.in_ hr fun j u hu => by
      rw [show o + 3 + j = o + (j + 3) by omega]
      exact hq (j + 3) u (by simpa using hu)⟩

/-- A slice of functions as something that can be appended. -/
theorem fv_news {B : Nat} {W : World} {A : Option Addr} {n cap : Nat} {l : List Fn} (h : FV B W (.slice A n cap) l) : n = l.length ∧ ∃ cs, fsCells B W l cs ∧ ∀ ad, A = some ad → ∀ j u, cs[j]? = some u → W.cell? (ad.add j) = some u := by
  obtain ⟨A1, cap1, e, _, _, hr⟩ := h
  injection e with e1 e2 e3
  subst e1 e2
  refine ⟨rfl, ?_⟩
  by_cases h0 : 0 < l.length
  · obtain ⟨b, o, rfl, _, hi⟩ := hr h0
    obtain ⟨cs, hc, hq⟩ := FsIn.cells hi
    exact ⟨cs, hc, fun ad e j u hu => by injection e with e; subst e; rw [at_add]; exact hq j u hu⟩
  · cases l with
    | nil => exact ⟨[], rfl, fun _ _ j u hu => by simp at hu⟩
    | cons => simp at h0
theorem fv_nil0 {B : Nat} {W : World} {A : Option Addr} {n cap : Nat} {l : List Fn} (h : FV B W (.slice A n cap) l) (e0 : A = none) : n = 0 := by
  subst e0
  obtain ⟨A', c, e, _, _, hr⟩ := h
  injection e with e1 e2 _
  subst e1 e2
  rcases Nat.eq_zero_or_pos l.length with h | h
  · exact h
  · obtain ⟨_, _, h, _⟩ := hr h
    cases h
/-- A row of the call's own that holds such cells is a slice of functions. -/
theorem own_fv {W : World} {base e n : Nat} {v : Value} {l : List Fn} {cs : List Value} (h : W.ownsRow base e 3 v n cs) (hc : fsCells W.heap.size W l cs) (hn : n = l.length) : FV W.heap.size W v l := by
  subst hn
  by_cases h0 : 0 < l.length
  · obtain ⟨g, cap, rfl, h1, h2, h3, h4⟩ := own_cells h h0
    exact ⟨_, cap, rfl, h1, h2, fun _ => ⟨g, 0, rfl, h3, hc.in_ fun j u hu => by rw [Nat.zero_add]; exact h4 j u hu⟩⟩
  · obtain ⟨A, cap, rfl⟩ := own_form h
    refine ⟨A, cap, rfl, ?_, ?_, fun h => absurd h h0⟩
    · rcases h.2 with ⟨e, _⟩ | ⟨g, cap, cur, e, _, _, hnc, hcm, _⟩
      · injection e with e1 e2 e3; omega
      · injection e with e1 e2 e3; omega
    · rcases h.2 with ⟨e, _⟩ | ⟨g, cap, cur, e, _, _, hnc, hcm, _⟩
      · injection e with e1 e2 e3; omega
      · injection e with e1 e2 e3; unfold maxLen at hcm; omega

/-- A row of the call's own that is not empty: its block. -/
theorem own_blk {w : World} {base size n cap : Nat} {e : TypeId} {A : Option Addr} {xs : List Value} (h : w.ownsRow base e size (.slice A n cap) n xs) (hn : 0 < n) :
    ∃ g cur, A = some ⟨g, 0, none⟩ ∧ base ≤ g ∧ w.heap[g]? = some (.cells cur e) ∧ n ≤ cap ∧ cap ≤ 9223372036854775807 ∧ ∀ m u, xs[m]? = some u → w.cell? ⟨g, m, none⟩ = some u := by
  obtain ⟨g0, c0, e0, _, _, _, hq⟩ := own_cells h hn
  injection e0 with e1 _ e2
  subst e1 e2
  rcases h.2 with ⟨e3, _⟩ | ⟨g, cap, cur, e3, hg, hh, hnc, hcm, hrest⟩
  · cases e3
  · injection e3 with e4 _ e5
    injection e4 with e4
    injection e4 with e4
    subst e4 e5
    exact ⟨g0, cur, rfl, (h.lt g0 rfl).1, hh, hnc, by unfold maxLen at hcm; omega, hq⟩
theorem own_apart {w : World} {base base' size size' n n' : Nat} {e e' : TypeId} {v v' : Value} {xs xs' : List Value} (h : w.ownsRow base e size v n xs) (h' : w.ownsRow base' e' size' v' n' xs') (hne : e ≠ e') : v.ownBlock = none ∨ v.ownBlock ≠ v'.ownBlock := by
  rcases h.2 with ⟨rfl, _⟩ | ⟨g, cap, cur, rfl, _, hg, _⟩
  · exact .inl rfl
  · exact .inr (own_ne h' hg (Ne.symm hne))
theorem own_keep {w w' : World} {base base' size size' n n' : Nat} {e e' : TypeId} {v v' : Value} {xs xs' : List Value} (h : w.ownsRow base e size v n xs) (h' : w.ownsRow base' e' size' v' n' xs') (hne : e ≠ e') (hg : w.grownBy w' v'.ownBlock) : w'.ownsRow base e size v n xs :=
  h.kept hg (own_apart h h' hne)

/-- What a box and two rows of the call's own hold at the end of such a region. -/
def Fin3 (W0 W : World) (k : Nat) (e1 : TypeId) (s1 : Nat) (v1 : Value) (n1 : Nat) (xs1 : List Value) (e2 : TypeId) (s2 : Nat) (v2 : Value) (n2 : Nat) (xs2 : List Value) : Prop :=
  W0.heap.size ≤ k ∧ k < W.heap.size ∧ W.cell? ⟨k, 0, none⟩ = some v1 ∧ W.cell? ⟨k, 1, none⟩ = some v2 ∧ W.ownsRow W0.heap.size e1 s1 v1 n1 xs1 ∧ W.ownsRow W0.heap.size e2 s2 v2 n2 xs2 ∧ some k ≠ v1.ownBlock ∧ some k ≠ v2.ownBlock ∧ Below W0.heap.size W0 W
theorem fin3_alloc {W0 W : World} {e1 e2 t : TypeId} {s1 s2 n1 n2 : Nat} {v1 v2 : Value} {xs1 xs2 : List Value} (hB : Below W0.heap.size W0 W) (h1 : W.ownsRow W0.heap.size e1 s1 v1 n1 xs1) (h2 : W.ownsRow W0.heap.size e2 s2 v2 n2 xs2) :
    Fin3 W0 (W.alloc (.cells #[v1, v2] t)) W.heap.size e1 s1 v1 n1 xs1 e2 s2 v2 n2 xs2 := by
  obtain ⟨a, b, c, d, e, f, g⟩ := fin_alloc (x := v1) (y := v2) (t := t) hB h1
  obtain ⟨_, _, _, _, e', f', _⟩ := fin_alloc (x := v1) (y := v2) (t := t) hB h2
  exact ⟨a, b, c, d, e, e', f, f', g⟩
theorem fin3_set {W0 W : World} {e1 e2 t : TypeId} {s1 s2 n1 n2 k : Nat} {v1 v2 a b : Value} {xs1 xs2 : List Value} (hB : Below W0.heap.size W0 W) (hk : W0.heap.size ≤ k) (hx : W.heap[k]? = some (.cells #[a, b] t)) (hne1 : e1 ≠ t) (hne2 : e2 ≠ t)
    (h1 : W.ownsRow W0.heap.size e1 s1 v1 n1 xs1) (h2 : W.ownsRow W0.heap.size e2 s2 v2 n2 xs2) :
    Fin3 W0 ((W.setCell ⟨k, 0, none⟩ v1).setCell ⟨k, 1, none⟩ v2) k e1 s1 v1 n1 xs1 e2 s2 v2 n2 xs2 := by
  obtain ⟨a, b, c, d, e, f, g⟩ := fin_set (x := v1) (y := v2) hB hk hx hne1 h1
  obtain ⟨_, _, _, _, e', f', _⟩ := fin_set (x := v1) (y := v2) hB hk hx hne2 h2
  exact ⟨a, b, c, d, e, e', f, f', g⟩

theorem fsCells.app {B : Nat} {W : World} {m : List Fn} {ds : List Value} (hm : fsCells B W m ds) : ∀ {l : List Fn} {cs : List Value}, fsCells B W l cs → fsCells B W (l ++ m) (cs ++ ds)
  | [], _, h => by rw [show _ = [] from h]; exact hm
  | _ :: _, _, ⟨vp, vb, rest, e, h1, h2, h3, hr⟩ => ⟨vp, vb, rest ++ ds, by rw [e]; rfl, h1, h2, h3, fsCells.app hm hr⟩
theorem funcInfo : (Tryd.prog.info? 56).map (fun i => (i.zero, i.size, i.bytes)) = some (some (.agg #[.string ⟨#[]⟩, .slice none 0 0, .slice none 0 0]), 3, 64) := by kernel_rfl
/-- Which operations have come up. -/
def ld (a : Array Bool) (j : Nat) : Bool := a.getD j false
def up (l : Nat → Bool) (i : Nat) : Nat → Bool := fun j => if j = i then true else l j
theorem ld_set (a : Array Bool) (i : Nat) (h : i < a.size) : ld (a.setIfInBounds i true) = up (ld a) i := by
  funext j
  unfold ld up
  simp only [Array.getD_eq_getD_getElem?, Array.getElem?_setIfInBounds]
  by_cases e : i = j
  · subst e
    simp [h]
  · simp [e, Ne.symm e]
theorem ld_new (n j : Nat) : ld (Array.replicate n false) j = false := by
  unfold ld
  rw [Array.getD_eq_getD_getElem?, Array.getElem?_replicate]
  split <;> rfl
theorem ld_false {a : Array Bool} {j : Nat} (h : a.getD j true = false) : ld a j = false ∧ j < a.size := by
  unfold ld
  rw [Array.getD_eq_getD_getElem?] at h
  rw [Array.getD_eq_getD_getElem?]
  rcases Nat.lt_or_ge j a.size with hl | hl
  · rw [Array.getElem?_eq_getElem hl] at h ⊢
    exact ⟨by simpa using h, hl⟩
  · rw [Array.getElem?_eq_none hl] at h
    simp at h
theorem ld_true {a : Array Bool} {j : Nat} (h : a.getD j true = true) (hj : j < a.size) : ld a j = true := by
  unfold ld
  rw [Array.getD_eq_getD_getElem?] at h ⊢
  rw [Array.getElem?_eq_getElem hj] at h ⊢
  simpa using h

end Go.Proofs.YtnilklgnpfgieaaDoor
