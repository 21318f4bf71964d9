/-
  A region that draws its order, by an invariant: what holds behind any set of its operations that has come up.
-/
import Derived.Deep.RegionHeld3
import Derived.Deep.RegionHeldLaw
namespace Go.Proofs.YtnilklgnpfgieaaDoor
open Go

section
variable {P : Program} {ops : Array Oper} {Q : Exit → Act → World → Prop}

theorem all_listed {listed : Array Bool} (h : listed.toList.count false = 0) (hs : listed.size = ops.size) (md : Region.Mode) : Region.ready md ops listed = [] := by
  unfold Region.ready
  rw [List.filter_eq_nil_iff]
  intro i hi
  have hlt : i < listed.size := by rw [hs]; simpa using hi
  have hm : listed[i] ∈ listed.toList := by simp
  have ht : listed[i] = true := by
    cases hb : listed[i] with
    | true => rfl
    | false =>
      rw [hb] at hm
      exact absurd (List.count_pos_iff.2 hm) (by omega)
  have hg : listed.getD i true = true := by
    rw [Array.getD_eq_getD_getElem?, Array.getElem?_eq_getElem hlt, ht]
    rfl
  simp [hg]
theorem count_set : ∀ (l : List Bool) (i : Nat), l[i]? = some false → (l.set i true).count false + 1 = l.count false
  | [], i, h => by simp at h
  | b :: l, 0, h => by
    simp at h
    subst h
    simp
  | b :: l, i + 1, h => by
    have := count_set l i (by simpa using h)
    simp only [List.set_cons_succ, List.count_cons]
    omega

/-- Each operation that may come up keeps I; when none is left I gives the post. -/
theorem wpAny_inv (md : Region.Mode) (I : Array Bool → Act → World → Prop)
    (hstep : ∀ listed a w, listed.size = ops.size → I listed a w → ∀ i o, ops[i]? = some o → listed.getD i true = false → (o.after.all fun e => !Region.binds md e || listed.getD e.on false) = true →
      ∀ K : Act → World → Prop, Shut (∀ a' w', I (listed.setIfInBounds i true) a' w' → K a' w') → if Region.wanted o (yielded ops a.tmps) = true then Oper.wp P o a w K Q else K (a.put o.dst undef) w)
    (hdone : ∀ listed a w, listed.size = ops.size → I listed a w → Region.ready md ops listed = [] → Q .normal a w) :
    ∀ (fuel : Nat) (listed : Array Bool) (a : Act) (w : World), listed.size = ops.size → listed.toList.count false ≤ fuel → I listed a w → wpAny P md ops Q fuel listed a w
  | 0, listed, a, w, hs, hc, hI => by
    have hr := all_listed (by omega) hs md
    exact ⟨hr, hdone listed a w hs hI hr⟩
  | fuel + 1, listed, a, w, hs, hc, hI => by
    refine ⟨fun hr => hdone listed a w hs hI hr, fun i hi => ?_⟩
    have hr := (List.mem_filter.1 hi).2
    simp only [Bool.and_eq_true, Bool.not_eq_true'] at hr
    obtain ⟨h1, h2⟩ := hr
    cases ho : ops[i]? with
    | none => rw [ho] at h2; simp at h2
    | some o =>
      rw [ho] at h2
      have h3 := hstep listed a w hs hI i o ho h1 (by simpa using h2) (wpAny P md ops Q fuel (listed.setIfInBounds i true)) (fun a' w' hI' => by
        refine wpAny_inv md I hstep hdone fuel _ a' w' (by simpa using hs) ?_ hI'
        have hlt : i < listed.size := by
          rcases Nat.lt_or_ge i listed.size with h | h
          · exact h
          · rw [Array.getD_eq_getD_getElem?, Array.getElem?_eq_none h] at h1
            simp at h1
        have hq : listed.toList[i]? = some false := by
          rw [Array.getD_eq_getD_getElem?] at h1
          rw [Array.getElem?_toList]
          rw [Array.getElem?_eq_getElem hlt] at h1 ⊢
          simp at h1
          simp [h1]
        have := count_set listed.toList i hq
        rw [Array.toList_setIfInBounds]
        omega)
      unfold wpOp
      rw [ho]
      simp only
      split
      · rename_i hw
        rw [if_pos hw] at h3
        exact .inl h3
      · rename_i hw
        rw [if_neg hw] at h3
        exact h3

theorem wp_region_inv {id : Nat} {a0 : Act} {w0 : World} (I : Array Bool → Act → World → Prop) (hm : P.follows .mixedOrders = true) (h0 : I (Array.replicate ops.size false) a0 w0.drew)
    (hstep : ∀ listed a w, listed.size = ops.size → I listed a w → ∀ i o, ops[i]? = some o → listed.getD i true = false → (o.after.all fun e => !Region.binds .any e || listed.getD e.on false) = true →
      ∀ K : Act → World → Prop, Shut (∀ a' w', I (listed.setIfInBounds i true) a' w' → K a' w') → if Region.wanted o (yielded ops a.tmps) = true then Oper.wp P o a w K Q else K (a.put o.dst undef) w)
    (hdone : ∀ listed a w, listed.size = ops.size → I listed a w → Region.ready .any ops listed = [] → Q .normal a w) : (Code.region id ops true).wp P Q a0 w0 :=
  wp_region_any hm (wpAny_inv .any I hstep hdone ops.size _ a0 _ (by simp) (by simp) h0)

/-- None is left: all have come up, one behind the other. -/
theorem ready_none {listed : Array Bool} (hr : Region.ready .any ops listed = []) {i : Nat} {o : Oper} (ho : ops[i]? = some o) (hd : (o.after.all fun e => !Region.binds .any e || listed.getD e.on false) = true) : listed.getD i true = true := by
  unfold Region.ready at hr
  rw [List.filter_eq_nil_iff] at hr
  have hlt := (Array.getElem?_eq_some_iff.1 ho).1
  have := hr i (by simpa using hlt)
  rw [ho] at this
  simp only [Option.map_some, Option.getD_some, hd, Bool.and_true, Bool.not_eq_true', Bool.not_eq_false] at this
  exact this
theorem ready_next {listed : Array Bool} (hs : listed.size = ops.size) (hr : Region.ready .any ops listed = []) (i : Nat) (h : ((ops[i]?).map fun o => o.after.all fun e => !Region.binds .any e || listed.getD e.on false) = some true) : listed.getD i false = true := by
  cases ho : ops[i]? with
  | none => rw [ho] at h; simp at h
  | some o =>
    rw [ho] at h
    have hr := ready_none hr ho (by simpa using h)
    have hl : i < listed.size := by rw [hs]; exact (Array.getElem?_eq_some_iff.1 ho).1
    rw [Array.getD_eq_getD_getElem?, Array.getElem?_eq_getElem hl] at hr ⊢
    simpa using hr
end

end Go.Proofs.YtnilklgnpfgieaaDoor
