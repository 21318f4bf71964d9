/-
  Any code in memory; unfit; slices.ContainsFunc over functions of code; sized.
-/
import Derived.Test.YtbgjlmcagdgpkaaDoorVyP
namespace Go.Proofs.YtbgjlmcagdgpkaaDoor
open Go Go.RowKit Go.Lib

/-- Functions of code lie one behind the other. -/
def FvIn (B : Nat) (W : World) : List Fv → Nat → Nat → Prop
  | [] => fun _ _ => True
  | f :: r => fun b o => W.cell? ⟨b, o, none⟩ = some (.string f.s) ∧ W.cell? ⟨b, o + 1, none⟩ = some (.int .i64 f.n) ∧ W.cell? ⟨b, o + 2, none⟩ = some (.int .i64 f.v) ∧ W.cell? ⟨b, o + 3, none⟩ = some (.int .i64 f.x) ∧ (∃ v, W.cell? ⟨b, o + 4, none⟩ = some v ∧ InV B W v f.L) ∧ FvIn B W r b (o + 5)
abbrev FvV (B : Nat) (W : World) (v : Value) (l : List Fv) : Prop := RowV (FvIn B W l) B l.length v
theorem FvIn.below {B B' : Nat} {W W' : World} (h : Below B W W') (hB : B ≤ B') : ∀ {l : List Fv} {b o : Nat}, b < B → FvIn B W l b o → FvIn B' W' l b o
  | [], _, _, _, _ => trivial
  | _ :: _, b, o, hb, ⟨h0, h1, h2, h3, ⟨v, h4, hv⟩, hr⟩ =>
    ⟨(h.cell (p := ⟨b, o, none⟩) hb).trans h0, (h.cell (p := ⟨b, o + 1, none⟩) hb).trans h1, (h.cell (p := ⟨b, o + 2, none⟩) hb).trans h2, (h.cell (p := ⟨b, o + 3, none⟩) hb).trans h3, ⟨v, (h.cell (p := ⟨b, o + 4, none⟩) hb).trans h4, hv.below h hB⟩, FvIn.below h hB hb hr⟩
theorem FvV.below {B B' : Nat} {W W' : World} {v : Value} {l : List Fv} (hv : FvV B W v l) (h : Below B W W') (hB : B ≤ B') : FvV B' W' v l := RowV.imp hv hB fun _ _ hb hp => FvIn.below h hB hb hp
theorem FvIn.at_ {B : Nat} {W : World} : ∀ {l : List Fv} {b o i : Nat} {f : Fv}, FvIn B W l b o → l[i]? = some f → W.cell? ⟨b, o + i * 5, none⟩ = some (.string f.s) ∧ W.cell? ⟨b, o + i * 5 + 1, none⟩ = some (.int .i64 f.n) ∧ W.cell? ⟨b, o + i * 5 + 2, none⟩ = some (.int .i64 f.v) ∧ W.cell? ⟨b, o + i * 5 + 3, none⟩ = some (.int .i64 f.x) ∧ (∃ v, W.cell? ⟨b, o + i * 5 + 4, none⟩ = some v ∧ InV B W v f.L)
  | x :: r, b, o, 0, f, h, e => by
    simp at e
    subst e
    obtain ⟨h0, h1, h2, h3, h4, _⟩ := h
    simp only [Nat.zero_mul, Nat.add_zero]
    exact ⟨h0, h1, h2, h3, h4⟩
  | x :: r, b, o, i + 1, f, h, e => by
    obtain ⟨_, _, _, _, _, hr⟩ := h
    have := FvIn.at_ hr (i := i) (by simpa using e)
    rw [show o + (i + 1) * 5 = o + 5 + i * 5 by omega]
    exact this

theorem within_any (n a b : Int) (w : World) : Calls Tryd.prog 21 #[.int .i64 n, .int .i64 a, .int .i64 b] w fun e w' => e = .returned (.bool (inI n a b)) ∧ w' = w := by
  by_cases h : a ≤ n
  · have h1 : decide (a ≤ n) = true := decide_eq_true h
    have e : decide (n ≤ b) = inI n a b := by unfold inI; rw [h1]; rfl
    go_enter Tryd.func21, Tryd.ntmps21
    go_wp2
    go_ret
    exact ⟨by first | rfl | (rw [← e]), rfl⟩
  · have h1 : decide (a ≤ n) = false := decide_eq_false h
    have e : inI n a b = false := by unfold inI; rw [h1]; rfl
    have E := Lib.hid e; clear e
    go_enter Tryd.func21, Tryd.ntmps21
    go_wp2
    go_ret
    exact ⟨by rw [E.out]; rfl, rfl⟩
theorem within64_any (n a b : Int) (w : World) : Calls Tryd.prog 56 #[.int .i64 n, .int .i64 a, .int .i64 b] w fun e w' => e = .returned (.bool (inI n a b)) ∧ w' = w := by
  by_cases h : a ≤ n
  · have h1 : decide (a ≤ n) = true := decide_eq_true h
    have e : decide (n ≤ b) = inI n a b := by unfold inI; rw [h1]; rfl
    go_enter Tryd.func56, Tryd.ntmps56
    go_wp2
    go_ret
    exact ⟨by first | rfl | (rw [← e]), rfl⟩
  · have h1 : decide (a ≤ n) = false := decide_eq_false h
    have e : inI n a b = false := by unfold inI; rw [h1]; rfl
    have E := Lib.hid e; clear e
    go_enter Tryd.func56, Tryd.ntmps56
    go_wp2
    go_ret
    exact ⟨by rw [E.out]; rfl, rfl⟩
end Go.Proofs.YtbgjlmcagdgpkaaDoor
