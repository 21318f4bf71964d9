/-
  Instructions in memory.
-/
import Derived.Test.YtbgjlmcagdgpkaaDoorCoB
namespace Go.Proofs.YtbgjlmcagdgpkaaDoor
open Go Go.RowKit Go.Lib

/-- The instructions lie in w, one behind the other. -/
def InsIn (w : World) : List (Int × Int × Int) → Nat → Nat → Prop
  | [], _, _ => True
  | (op, a, n) :: r, b, o => w.cell? ⟨b, o, none⟩ = some (.int .i64 op) ∧ w.cell? ⟨b, o + 1, none⟩ = some (.int .i64 a) ∧ w.cell? ⟨b, o + 2, none⟩ = some (.int .i64 n) ∧ (I64 op ∧ I64 a ∧ I64 n) ∧ InsIn w r b (o + 3)
/-- A slice of instructions, in a block below B. -/
def InV (B : Nat) (w : World) (v : Value) (l : List (Int × Int × Int)) : Prop :=
  ∃ A cap, v = .slice A l.length cap ∧ l.length ≤ cap ∧ cap ≤ 9223372036854775807 ∧ (0 < l.length → ∃ b o, A = some ⟨b, o, none⟩ ∧ b < B ∧ InsIn w l b o)
theorem InsIn.below {B : Nat} {w w' : World} (hb : Below B w w') {b : Nat} (hB : b < B) : ∀ {l : List (Int × Int × Int)} {o : Nat}, InsIn w l b o → InsIn w' l b o
  | [], _, _ => trivial
  | (_, _, _) :: _, o, ⟨h0, h1, h2, h3, h4⟩ =>
    ⟨(hb.cell (p := ⟨b, o, none⟩) hB).trans h0, (hb.cell (p := ⟨b, o + 1, none⟩) hB).trans h1, (hb.cell (p := ⟨b, o + 2, none⟩) hB).trans h2, h3, InsIn.below hb hB h4⟩
theorem InV.below {B B' : Nat} {w w' : World} {v : Value} {l : List (Int × Int × Int)} (h : InV B w v l) (hb : Below B w w') (hB : B ≤ B') : InV B' w' v l := by
  obtain ⟨A, cap, e, h1, h2, h3⟩ := h
  refine ⟨A, cap, e, h1, h2, fun h0 => ?_⟩
  obtain ⟨b, o, e, h4, h5⟩ := h3 h0
  exact ⟨b, o, e, by omega, h5.below hb h4⟩

def InsOk (l : List (Int × Int × Int)) : Prop := ∀ x, x ∈ l → I64 x.1 ∧ I64 x.2.1 ∧ I64 x.2.2
theorem InsIn.ok {w : World} {b : Nat} : ∀ {l : List (Int × Int × Int)} {o : Nat}, InsIn w l b o → InsOk l
  | [], _, _ => fun x hx => by cases hx
  | (op, a, n) :: r, o, ⟨_, _, _, h, hr⟩ => fun x hx => by
    rcases List.mem_cons.1 hx with rfl | hx
    · exact h
    · exact hr.ok x hx
end Go.Proofs.YtbgjlmcagdgpkaaDoor
