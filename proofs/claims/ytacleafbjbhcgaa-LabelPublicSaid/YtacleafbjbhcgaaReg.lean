/-
  A region that draws its order: what yields its value in every world that meets S is taken first, although one late operation, that waits for it, makes an end of S.
-/
import Derived.Deep.RegionHeld3
namespace Go.Proofs.Ytacleafbjbhcgaa
open Go

section
variable {P : Program} {md : Region.Mode} {ops : Array Oper} {Q : Exit → Act → World → Prop} {S : World → Prop} {late : Nat}

/-- Whatever comes up next; behind all but the late operation S holds. -/
def AnyL (P : Program) (md : Region.Mode) (ops : Array Oper) (Q : Exit → Act → World → Prop) (S : World → Prop) (late : Nat) : Nat → Array Bool → Act → World → Prop
  | 0, up, a, w => Region.ready md ops up = [] ∧ Q .normal a w
  | n + 1, up, a, w => (Region.ready md ops up = [] → Q .normal a w) ∧
      ∀ j, j ∈ Region.ready md ops up → wpOp P ops Q j (fun b x => (j ≠ late → S x) ∧ AnyL P md ops Q S late n (up.setIfInBounds j true) b x) a w
theorem AnyL.any : ∀ (n : Nat) (up : Array Bool) (a : Act) (w : World), AnyL P md ops Q S late n up a w → wpAny P md ops Q n up a w
  | 0, _, _, _ => fun h => h
  | n + 1, _, _, _ => fun h => ⟨h.1, fun j hj => wpOp_mono (fun b x hb => AnyL.any n _ b x hb.2) (h.2 j hj)⟩

/-- Does an operation wait for another one? -/
def waitsFor (md : Region.Mode) (ops : Array Oper) (j i : Nat) : Bool := ((ops[j]?).map fun o => o.after.any fun e => Region.binds md e && e.on == i).getD false
theorem not_yet {up : Array Bool} {i j : Nat} {oj : Oper} (hj : j ∈ Region.ready md ops up) (hi : i ∈ Region.ready md ops up) (ho : ops[j]? = some oj) : ∀ e ∈ oj.after, Region.binds md e = true → e.on ≠ i := by
  intro e he hb heq
  obtain ⟨_, o', ho', hall⟩ := mem_ready.1 hj
  rw [ho] at ho'
  injection ho' with ho'
  subst ho'
  have h1 := hall e he hb
  have h0 := (mem_ready.1 hi).1
  rw [heq] at h1
  rw [Array.getD_eq_getD_getElem?] at h0 h1
  cases hu : up[i]? with
  | none => rw [hu] at h0; simp at h0
  | some b => rw [hu] at h0 h1; simp at h0 h1; rw [h0] at h1; cases h1

theorem AnyL.first {i : Nat} {oi : Oper} {v : Value} (hi : ops[i]? = some oi) (hsel : Region.noSelect ops = true) (hwait : waitsFor md ops late i = true) (hQ : ∀ c a w, Q (.panic c) (a.put oi.dst v) w → Q (.panic c) a w) :
    ∀ (n : Nat) (up : Array Bool) (a : Act) (w : World), (∀ j oj, ops[j]? = some oj → j ≠ i → up.getD j true = false → (∀ e ∈ oj.after, Region.binds md e = true → e.on ≠ i) → oi.apart ops oj = true) →
      i ∈ Region.ready md ops up → YieldsIf P ops S oi v a → S w → AnyL P md ops Q S late n (up.setIfInBounds i true) (a.put oi.dst v) w → AnyL P md ops Q S late (n + 1) up a w := by
  intro n
  induction n with
  | zero =>
    intro up a w hap hr hy hS h
    refine ⟨fun e => absurd (e ▸ hr) (by simp), fun j hj => ?_⟩
    by_cases e : j = i
    · subst e
      exact hy.wpOp hi hS ⟨fun _ => hS, h⟩
    · exact absurd (h.1 ▸ ready_mono hj e) (by simp)
  | succ n ih =>
    intro up a w hap hr hy hS h
    refine ⟨fun e => absurd (e ▸ hr) (by simp), fun j hj => ?_⟩
    by_cases e : j = i
    · subst e
      exact hy.wpOp hi hS ⟨fun _ => hS, h⟩
    · obtain ⟨hun, oj, ho, _⟩ := mem_ready.1 hj
      have hn := not_yet hj hr ho
      have hlate : j ≠ late := by
        rintro rfl
        unfold waitsFor at hwait
        rw [ho] at hwait
        simp only [Option.map_some, Option.getD_some, Array.any_eq_true'] at hwait
        obtain ⟨x, hx, hb⟩ := hwait
        simp only [Bool.and_eq_true, beq_iff_eq] at hb
        exact hn x hx hb.1 hb.2
      have hstep := h.2 j (ready_mono hj e)
      refine wpOp_mono (fun b x hb => ?_) (wpOp_putIf ho (hap j oj ho e hun hn) (Region.noSelect_spec hsel i oi · · hi) (Region.noSelect_spec hsel j oj · · ho) hQ hy hstep)
      obtain ⟨hyb, hSx, hrest⟩ := hb
      refine ⟨hSx, ih _ b x (fun k ok hk hki hu hno => hap k ok hk hki ?_ hno) (ready_mono hr (Ne.symm e)) hyb (hSx hlate) ?_⟩
      · by_cases hjk : j = k
        · subst hjk; exact hun
        · rwa [getD_set_ne true hjk] at hu
      · rw [Array.setIfInBounds_comm _ _ e]
        exact hrest

/-- Number i is taken first. -/
theorem AnyL.take (i : Nat) {oi : Oper} (v : Value) {n : Nat} {up : Array Bool} {a : Act} {w : World} (hi : ops[i]? = some oi) (hsel : Region.noSelect ops = true) (hwait : waitsFor md ops late i = true) (hf : Region.free md ops up i = true) (hr : (Region.ready md ops up).contains i = true)
    (hQ : ∀ c a w, Q (.panic c) (a.put oi.dst v) w → Q (.panic c) a w) (hy : YieldsIf P ops S oi v a) (hS : S w)
    (h : AnyL P md ops Q S late n (up.setIfInBounds i true) (a.put oi.dst v) w) : AnyL P md ops Q S late (n + 1) up a w :=
  AnyL.first hi hsel hwait hQ n up a w (Region.free_spec hi hf) (by simpa using hr) hy hS h
/-- The one that may come up next. -/
theorem AnyL.next (j : Nat) {o : Oper} {n : Nat} {up : Array Bool} {a : Act} {w : World} (hr : Region.ready md ops up = [j]) (ho : ops[j]? = some o)
    (h : ∀ K : Act → World → Prop, Shut (∀ b x, (j ≠ late → S x) → (AnyL P md ops Q S late n (up.setIfInBounds j true) b x) → K b x) → if Region.wanted o (yielded ops a.tmps) = true then Oper.wp P o a w K Q else K (a.put o.dst undef) w) : AnyL P md ops Q S late (n + 1) up a w := by
  refine ⟨fun e => absurd (hr.symm.trans e) (by simp), fun k hk => ?_⟩
  rw [hr] at hk
  obtain rfl : k = j := by simpa using hk
  exact wpOp_step ho fun K hK => h K fun b x h1 h2 => hK b x ⟨h1, h2⟩
/-- Either of two may come up next. -/
theorem AnyL.both (i j : Nat) {oi oj : Oper} {n : Nat} {up : Array Bool} {a : Act} {w : World} (hr : Region.ready md ops up = [i, j]) (hi : ops[i]? = some oi) (hj : ops[j]? = some oj)
    (h1 : ∀ K : Act → World → Prop, Shut (∀ b x, (i ≠ late → S x) → (AnyL P md ops Q S late n (up.setIfInBounds i true) b x) → K b x) → if Region.wanted oi (yielded ops a.tmps) = true then Oper.wp P oi a w K Q else K (a.put oi.dst undef) w)
    (h2 : ∀ K : Act → World → Prop, Shut (∀ b x, (j ≠ late → S x) → (AnyL P md ops Q S late n (up.setIfInBounds j true) b x) → K b x) → if Region.wanted oj (yielded ops a.tmps) = true then Oper.wp P oj a w K Q else K (a.put oj.dst undef) w) : AnyL P md ops Q S late (n + 1) up a w := by
  refine ⟨fun e => absurd (hr.symm.trans e) (by simp), fun k hk => ?_⟩
  rw [hr] at hk
  rcases List.mem_cons.1 hk with rfl | hk
  · exact wpOp_step hi fun K hK => h1 K fun b x h1 h2 => hK b x ⟨h1, h2⟩
  · obtain rfl : k = j := by simpa using hk
    exact wpOp_step hj fun K hK => h2 K fun b x h1 h2 => hK b x ⟨h1, h2⟩
theorem AnyL.done {n : Nat} {up : Array Bool} {a : Act} {w : World} (hr : Region.ready md ops up = []) (h : Q .normal a w) : AnyL P md ops Q S late n up a w := by
  cases n with
  | zero => exact ⟨hr, h⟩
  | succ n => exact ⟨fun _ => h, fun j hj => absurd (hr ▸ hj) (by simp)⟩
/-- From the draw on. -/
theorem wp_region_late (S : World → Prop) (late : Nat) {id : Nat} {a : Act} {w : World} (hm : P.follows .mixedOrders = true) (h : AnyL P .any ops Q S late ops.size (Array.replicate ops.size false) a w.drew) : (Code.region id ops true).wp P Q a w :=
  wp_region_any hm (AnyL.any _ _ _ _ h)
end

end Go.Proofs.Ytacleafbjbhcgaa
