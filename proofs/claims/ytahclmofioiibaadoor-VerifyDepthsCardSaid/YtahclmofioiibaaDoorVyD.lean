/-
  VerifyDepths, plainly: an op behind so many Pushes.
-/
import Derived.Test.YtahclmofioiibaaDoorVyL
namespace Go.Proofs.YtahclmofioiibaaDoor
open Go Go.RowKit Go.Lib

def dpL (op : Int) (p : Nat) : List (Int × Int × Int) := pushes p ++ [(op, 1, 1), (1, 0, 0), (18, 0, 0)]
def dpM (op : Int) (p : Nat) : Fv := ⟨⟨#[]⟩, 0, 2, 2, dpL op p⟩
def dpF : Fv := ⟨⟨#[]⟩, 3, 3, 0, [(1, 0, 0), (18, 0, 0)]⟩
def dpErr (op : Int) (p : Nat) : Int := codeErr [dpM op p, dpF]
def dpTakes (op : Int) : Int := if op = 17 then 3 else ((kdOf op).takes : Int)
theorem dp_known : ∀ k : Fin 26, ∀ p : Fin 6, k.val ≠ 0 → k.val ≠ 15 → k.val ≠ 16 → dpErr (k.val : Int) p.val = if dpTakes (k.val : Int) ≤ (p.val : Int) then 0 else 6 := by decide +kernel
theorem may_unknown {v x op a n : Int} {k : Nat} (h : knownB op = false) : mayB v x k op a n = false := by
  unfold knownB at h
  simp only [Bool.and_eq_false_iff, decide_eq_false_iff_not] at h
  unfold mayB
  rw [if_neg (by omega), if_neg (by omega), if_neg (by omega), if_neg (by omega), if_neg (by omega)]
  unfold knownB
  simp only [Bool.and_eq_false_iff, decide_eq_false_iff_not]
  exact h
theorem step_unknown {all : List Fv} {f : Fv} {st : Vs} {i : Nat} {op a n : Int} (hi : f.L[i]? = some (op, a, n)) (h : knownB op = false) : Vs.step all f st i = none := by
  unfold Vs.step
  rw [hi]
  cases look st.D i with
  | none => rfl
  | some d =>
    simp only
    rw [if_neg (by rw [may_unknown h]; simp)]
theorem step_push {all : List Fv} {f : Fv} {st : Vs} {i : Nat} {d : Int} (hi : f.L[i]? = some (1, 0, 0)) (hd : look st.D i = some d) (h0 : 0 ≤ d) : Vs.step all f st i = st.reach f.L.length ((i : Int) + 1) (d + 1) := by
  unfold Vs.step
  rw [hi, hd]
  have e1 : mayB f.v f.x all.length 1 0 0 = true := rfl
  have e2 : takesB all 1 0 = 0 := rfl
  have e3 : (kdOf 1).leaves = 1 := rfl
  simp only [e1, e2, e3]
  rw [if_pos ⟨trivial, h0⟩, if_neg (by decide), if_neg (by decide), if_neg (by decide)]
  congr 1
  omega
/-- Behind so many Pushes the machine comes to the op. -/
theorem run_pushes {all : List Fv} {f : Fv} {op a n : Int} {p : Nat} (hL : ∀ i, i < p → f.L[i]? = some (1, 0, 0)) (hp : f.L[p]? = some (op, a, n)) (hop : knownB op = false) :
    ∀ (m i fuel : Nat) (D : List (Nat × Int)), i + m = p → m < fuel → look D i = some (i : Int) → (∀ j, i < j → look D j = none) → runL all f fuel ⟨D, [i]⟩ = false := by
  intro m
  induction m with
  | zero =>
    intro i fuel D hi hf _ _
    obtain rfl : i = p := by omega
    obtain ⟨k, rfl⟩ : ∃ k, fuel = k + 1 := ⟨fuel - 1, by omega⟩
    simp only [runL, step_unknown hp hop]
  | succ m ih =>
    intro i fuel D hi hf hd hn
    obtain ⟨k, rfl⟩ : ∃ k, fuel = k + 1 := ⟨fuel - 1, by omega⟩
    have hlen : p < f.L.length := by
      rcases Nat.lt_or_ge p f.L.length with h | h
      · exact h
      · rw [List.getElem?_eq_none h] at hp; cases hp
    have hr : Vs.reach f.L.length ⟨D, []⟩ ((i : Int) + 1) ((i : Int) + 1) = some ⟨(i + 1, (i : Int) + 1) :: D, [i + 1]⟩ := by
      unfold Vs.reach
      rw [if_pos (by omega), show ((i : Int) + 1).toNat = i + 1 by omega, hn (i + 1) (by omega)]
      rfl
    have hs := step_push (all := all) (st := ⟨D, []⟩) (hL i (by omega)) hd (by omega)
    rw [hr] at hs
    simp only [runL, hs]
    refine ih (i + 1) k ((i + 1, (i : Int) + 1) :: D) (by omega) (by omega) (by simp [look]) ?_
    intro j hj
    simp only [look]
    rw [if_neg (by omega)]
    exact hn j (by omega)
theorem dp_at (op : Int) (p i : Nat) (h : i < p) : (dpL op p)[i]? = some (1, 0, 0) := by
  unfold dpL pushes
  rw [List.getElem?_append_left (by simpa using h)]
  simp [h]
theorem dp_op (op : Int) (p : Nat) : (dpL op p)[p]? = some (op, 1, 1) := by
  unfold dpL pushes
  rw [List.getElem?_append_right (by simp)]
  simp
theorem dp_unknown (op : Int) (p : Nat) (h : knownB op = false) : dpErr op p = 6 := by
  have hr : runsB [dpM op p, dpF] (dpM op p) = false := by
    unfold runsB
    have e : Vs.reach (dpM op p).L.length ⟨[], []⟩ 0 0 = some ⟨[(0, 0)], [0]⟩ := by
      unfold Vs.reach
      have : 0 < (dpM op p).L.length := by simp [dpM, dpL]
      rw [if_pos (by omega)]
      rfl
    rw [e]
    refine run_pushes (p := p) (op := op) (a := 1) (n := 1) (fun i hi => dp_at op p i hi) (dp_op op p) h p 0 _ [(0, 0)] (by omega) (by simp [dpM, dpL, pushes]; omega) rfl ?_
    intro j hj
    simp only [look]
    rw [if_neg (by omega)]
  unfold dpErr codeErr codeB
  rw [List.all_cons, hr]
  simp
theorem dp_err (op : Int) (p : Nat) (hp : p < 6) (h15 : op ≠ 15) (h16 : op ≠ 16) : (dpErr op p == 0) = (knownB op && decide (dpTakes op ≤ (p : Int))) := by
  cases hk : knownB op with
  | false => rw [dp_unknown op p hk]; rfl
  | true =>
    obtain ⟨k, rfl, h1, h2, _⟩ := kd_known hk
    have := dp_known ⟨k, by omega⟩ ⟨p, hp⟩ (by simp only; omega) (by simp only; omega) (by simp only; omega)
    simp only at this
    rw [this]
    by_cases h : dpTakes (k : Int) ≤ (p : Int)
    · rw [if_pos h]; simp [h]
    · rw [if_neg h]; simp [h]
theorem dp_val (op : Int) (p : Nat) : dpErr op p = 0 ∨ dpErr op p = 6 := by
  unfold dpErr codeErr
  split <;> simp
theorem dp_ok (op : Int) (p : Nat) (h : I64 op) : InsOk (dpL op p) := by
  refine insOk_app (pushes_ok p) ?_
  intro x hx
  simp only [List.mem_cons, List.not_mem_nil, or_false] at hx
  rcases hx with rfl | rfl | rfl
  · exact ⟨h, i64_small (by show -1000000 ≤ (1 : Int) ∧ (1 : Int) ≤ 1000000; omega), i64_small (by show -1000000 ≤ (1 : Int) ∧ (1 : Int) ≤ 1000000; omega)⟩
  · exact ⟨⟨by decide, by decide⟩, ⟨by decide, by decide⟩, ⟨by decide, by decide⟩⟩
  · exact ⟨⟨by decide, by decide⟩, ⟨by decide, by decide⟩, ⟨by decide, by decide⟩⟩
end Go.Proofs.YtahclmofioiibaaDoor
