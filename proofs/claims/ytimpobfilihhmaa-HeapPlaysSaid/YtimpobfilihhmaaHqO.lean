/-
  From a statement's arguments to the walk's words: steps that came in.
-/
import Derived.Test.YtimpobfilihhmaaHpO
import Derived.Test.YtimpobfilihhmaaHqS
import Derived.Deep.Fields
namespace Go.Proofs.Ytimpobfilihhmaa
open Go Go.ChangeShapes Go.WideShapes Go.ChangeAt Go.RowKit Go.Deep

section
variable {H : Type} {enc : TypeId × Value → H} {W : World} {sp : Nat → Bool} {held : Bool}
theorem field_one {cs : List Value} {n j : Nat} {t : TypeId} {x : DataW H × List MemPlace} (hlen : j < cs.length) (h1 : Try.prog.cellsOf t = 1) (h : DataW.trod enc Try.prog W 0 sp held n t ((cs.drop j).take (Try.prog.cellsOf t)) = some x) :
    ∃ v, cs[j]? = some v ∧ DataW.trod enc Try.prog W 0 sp held n t [v] = some x := by
  rw [h1, List.drop_eq_getElem_cons hlen] at h
  exact ⟨cs[j], List.getElem?_eq_getElem hlen, h⟩
theorem int_one {n : Nat} {t : TypeId} (ht : Try.prog.underlying t = some (.int .i64)) {v : Value} {x : DataW H × List MemPlace} (h : DataW.trod enc Try.prog W 0 sp held n t [v] = some x) : ∃ k : Int, v = .int .i64 k := by
  obtain ⟨k, e, _, _⟩ := DataW.trod_int ht h
  injection e with e _
  exact ⟨k, e⟩
/-- A slice that came in: its elements' cells. -/
theorem slice_in {t e : TypeId} {c fuel : Nat} {cs : List Value} {x : DataW H × List MemPlace} (ht : Try.prog.underlying t = some (.slice e)) (hc : Try.prog.cellsOf e = c) (hc0 : 0 < c) (h : DataW.trod enc Try.prog W 0 sp held fuel t cs = some x) :
    ∃ A n cap m, cs = [.slice A n cap] ∧ n ≤ cap ∧ cap ≤ 9223372036854775807 ∧ (0 < n → ∃ b o, A = some ⟨b, o, none⟩ ∧ b < W.heap.size ∧
      ∀ i, i < n → ∃ (cs' : List Value) (y : DataW H × List MemPlace), cs'.length = c ∧ (∀ j, j < c → W.cell? ⟨b, o + i * c + j, none⟩ = cs'[j]?) ∧ DataW.trod enc Try.prog W 0 sp held m e cs' = some y) := by
  rcases DataW.trod_slice ht h with ⟨rfl, _⟩ | ⟨a, len, cap, elems, rest, n, hf, rfl, _, _, hl, hm, hlen, hel, _, _⟩
  · exact ⟨none, 0, 0, 0, rfl, Nat.le_refl _, by decide, fun h => by omega⟩
  · refine ⟨some a, len, cap, n, rfl, hl, by unfold maxLen at hm; omega, fun hn => ?_⟩
    have one : ∀ i, i < len → ∃ (cs' : List Value) (y : DataW H × List MemPlace), cs'.length = c ∧ (∀ j, j < c → W.cell? ((a.add (i * c)).add j) = cs'[j]?) ∧ DataW.trod enc Try.prog W 0 sp held n e cs' = some y := by
      intro i hi
      have h1 := hel i hi
      rw [List.getElem?_eq_getElem (by omega), hc] at h1
      obtain ⟨cs', h2, h3⟩ := Option.bind_eq_some_iff.1 h1
      obtain ⟨_, h4, h5⟩ := World.cells?_some h2
      exact ⟨cs', _, h4, h5, h3⟩
    obtain ⟨cs0, _, hl0, hc0', _⟩ := one 0 hn
    have hv0 := hc0' 0 hc0
    rw [List.getElem?_eq_getElem (by omega)] at hv0
    have hb := lt_of_cell hv0
    have hspot := World.cell?_spot hv0
    obtain ⟨b, o, spot⟩ := a
    simp [Addr.add] at hspot hb
    subst hspot
    refine ⟨b, o, rfl, hb, fun i hi => ?_⟩
    obtain ⟨cs', y, h1, h2, h3⟩ := one i hi
    refine ⟨cs', y, h1, fun j hj => ?_, h3⟩
    rw [← h2 j hj]
    congr 1
    unfold Addr.add
    split <;> split <;> simp_all
end
theorem step_list {W : World} {b o : Nat} : ∀ n, (∀ i, i < n → ∃ k d p v : Int, W.cell? ⟨b, o + i * 4, none⟩ = some (.int .i64 k) ∧ W.cell? ⟨b, o + i * 4 + 1, none⟩ = some (.int .i64 d) ∧ W.cell? ⟨b, o + i * 4 + 2, none⟩ = some (.int .i64 p) ∧ W.cell? ⟨b, o + i * 4 + 3, none⟩ = some (.int .i64 v)) →
    ∃ l : List Stp, l.length = n ∧ ∀ i k d p v, l[i]? = some (k, d, p, v) → W.cell? ⟨b, o + i * 4, none⟩ = some (.int .i64 k) ∧ W.cell? ⟨b, o + i * 4 + 1, none⟩ = some (.int .i64 d) ∧ W.cell? ⟨b, o + i * 4 + 2, none⟩ = some (.int .i64 p) ∧ W.cell? ⟨b, o + i * 4 + 3, none⟩ = some (.int .i64 v)
  | 0, _ => ⟨[], rfl, fun i k d p v h => by simp at h⟩
  | n + 1, h => by
    obtain ⟨l, hl, hi⟩ := step_list n fun i hi => h i (by omega)
    obtain ⟨k, d, p, v, hx⟩ := h n (Nat.lt_succ_self _)
    refine ⟨l ++ [(k, d, p, v)], by simp [hl], fun i k' d' p' v' hq => ?_⟩
    rcases Nat.lt_or_ge i n with h1 | h1
    · exact hi i k' d' p' v' (by rwa [List.getElem?_append_left (by omega)] at hq)
    · rw [List.getElem?_append_right (by omega), hl] at hq
      have e : i = n := by
        rcases Nat.lt_or_ge n i with h2 | h2
        · rw [List.getElem?_eq_none (by simp; omega)] at hq; cases hq
        · omega
      subst e
      rw [Nat.sub_self] at hq
      simp at hq
      obtain ⟨rfl, rfl, rfl, rfl⟩ := hq
      exact hx
theorem open_steps {H : Type} {enc : TypeId × Value → H} {W : World} {A : Option Addr} {len cap : Nat} {d : DataW H} {p : List MemPlace}
    (h : DataW.Trod enc Try.prog W 0 (fun _ => true) true 22 (.slice A len cap) d p) : ∃ l : List Stp, l.length = len ∧ len ≤ cap ∧ cap ≤ 9223372036854775807 ∧ SRow W A l := by
  obtain ⟨fuel, hf⟩ := h
  obtain ⟨A', n, cap', m, e, h1, h2, hr⟩ := slice_in Try.underlying22 (show Try.prog.cellsOf 32 = 4 by kernel_rfl) (by decide) hf
  have e' : Value.slice A len cap = .slice A' n cap' := by simpa [Value.cells] using e
  injection e' with e1 e2 e3
  subst e1 e2 e3
  by_cases hn : 0 < len
  · obtain ⟨b, o, rfl, hb, he⟩ := hr hn
    obtain ⟨l, hl, hi⟩ := step_list (W := W) (b := b) (o := o) len (fun i hi => by
      obtain ⟨cs', y, hl, hc, ht⟩ := he i hi
      obtain ⟨xs, k, hk, _, _, hxl, hf⟩ := DataW.trod_struct Try.underlying32 ht
      have hxl4 : xs.length = 4 := hxl
      obtain ⟨v0, c0, t0⟩ := field_one (j := 0) (by omega) (show Try.prog.cellsOf 3 = 1 by kernel_rfl) ((hf 0 _ rfl).trans (List.getElem?_eq_getElem (by omega)))
      obtain ⟨v1, c1, t1⟩ := field_one (j := 1) (by omega) (show Try.prog.cellsOf 3 = 1 by kernel_rfl) ((hf 1 _ rfl).trans (List.getElem?_eq_getElem (by omega)))
      obtain ⟨v2, c2, t2⟩ := field_one (j := 2) (by omega) (show Try.prog.cellsOf 2 = 1 by kernel_rfl) ((hf 2 _ rfl).trans (List.getElem?_eq_getElem (by omega)))
      obtain ⟨v3, c3, t3⟩ := field_one (j := 3) (by omega) (show Try.prog.cellsOf 2 = 1 by kernel_rfl) ((hf 3 _ rfl).trans (List.getElem?_eq_getElem (by omega)))
      obtain ⟨k0, rfl⟩ := int_one Try.underlying3 t0
      obtain ⟨k1, rfl⟩ := int_one Try.underlying3 t1
      obtain ⟨k2, rfl⟩ := int_one Try.underlying2 t2
      obtain ⟨k3, rfl⟩ := int_one Try.underlying2 t3
      exact ⟨k0, k1, k2, k3, by rw [← c0, ← hc 0 (by decide)]; rfl, by rw [← c1, ← hc 1 (by decide)], by rw [← c2, ← hc 2 (by decide)], by rw [← c3, ← hc 3 (by decide)]⟩)
    exact ⟨l, hl, h1, h2, fun _ => ⟨b, o, rfl, hb, hi⟩⟩
  · obtain rfl : len = 0 := by omega
    exact ⟨[], rfl, h1, h2, fun h => by simp at h⟩
end Go.Proofs.Ytimpobfilihhmaa
