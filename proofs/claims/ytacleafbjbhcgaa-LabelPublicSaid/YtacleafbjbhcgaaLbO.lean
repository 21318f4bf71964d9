/-
  From a statement's arguments to the walk's words: expressions, statements, functions, programs that came in, and how long their lists may be.
-/
import Derived.Test.YtacleafbjbhcgaaLbP
import Derived.Test.YtacleafbjbhcgaaRows
import Derived.ProofKit
import Derived.LaidMore
import Derived.OpenShut
import Derived.Carry
import Derived.SizedLaws
import Derived.ChangeMaps5
import Derived.Deep.Fields
import Derived.Deep.Slices
namespace Go.Proofs.Ytacleafbjbhcgaa
open Go Go.ChangeShapes Go.WideShapes Go.ChangeAt Go.RowKit Go.Deep

theorem own : ownKnob Try.prog.godebug = none := by kernel_rfl
theorem laidOut : laidOutB Try.prog = true := by kernel_rfl
theorem i64_of_wf {n : Int} (h : (Lit.int .i64 n).wf = true) : I64 n := by
  have e1 : IntKind.i64.min = -9223372036854775808 := rfl
  have e2 : IntKind.i64.max = 9223372036854775807 := rfl
  simp [Lit.wf, e1, e2] at h
  exact h

theorem lt_of_cell {W : World} {a : Addr} {v : Value} (h : W.cell? a = some v) : a.block < W.heap.size := by
  rcases Nat.lt_or_ge a.block W.heap.size with h' | h'
  · exact h'
  · simp [World.cell?, Array.getElem?_eq_none h'] at h

section
variable {H : Type} {enc : TypeId × Value → H} {W : World} {sp : Nat → Bool} {held : Bool}

/-- One field of one cell of a struct's reading. -/
theorem field_one {cs : List Value} {n j : Nat} {t : TypeId} {x : DataW H × List MemPlace} (hlen : j < cs.length) (h1 : Try.prog.cellsOf t = 1) (h : DataW.trod enc Try.prog W 0 sp held n t ((cs.drop j).take (Try.prog.cellsOf t)) = some x) :
    ∃ v, cs[j]? = some v ∧ DataW.trod enc Try.prog W 0 sp held n t [v] = some x := by
  rw [h1, List.drop_eq_getElem_cons hlen] at h
  exact ⟨cs[j], List.getElem?_eq_getElem hlen, h⟩

theorem str_one {n : Nat} {v : Value} {x : DataW H × List MemPlace} (h : DataW.trod enc Try.prog W 0 sp held n 9 [v] = some x) : ∃ s : ByteArray, v = .string s ∧ s.size ≤ 9223372036854775807 := by
  obtain ⟨s, e, _, hm⟩ := DataW.trod_string Try.underlying9 h
  injection e with e _
  exact ⟨s, e, by unfold maxLen at hm; omega⟩
theorem int_one {n : Nat} {t : TypeId} (ht : Try.prog.underlying t = some (.int .i64)) {v : Value} {x : DataW H × List MemPlace} (h : DataW.trod enc Try.prog W 0 sp held n t [v] = some x) : ∃ k : Int, v = .int .i64 k ∧ I64 k := by
  obtain ⟨k, e, _, hm⟩ := DataW.trod_int ht h
  injection e with e _
  exact ⟨k, e, i64_of_wf hm⟩


theorem weights_all {P : Program} {e : TypeId} : ∀ {l : List (DataW H)} {j : Nat} {d : DataW H}, l[j]? = some d → ∀ n ∈ d.weights P e, n ∈ DataW.weightsAll P e l
  | [], _, _, h, _, _ => by simp at h
  | d :: r, 0, _, h, n, hn => by
    simp at h
    subst h
    simp only [DataW.weightsAll, List.mem_append]
    exact .inl hn
  | d :: r, j + 1, _, h, n, hn => by
    simp only [DataW.weightsAll, List.mem_append]
    exact .inr (weights_all (j := j) (by simpa using h) n hn)
/-- What was read of a type is no longer than there are addresses. -/
abbrev Wt (t : TypeId) (x : DataW H × List MemPlace) : Prop := ∀ m ∈ x.1.weights Try.prog t, m ≤ reachBytes

theorem str_size {n : Nat} {s : ByteArray} {x : DataW H × List MemPlace} (h : DataW.trod enc Try.prog W 0 sp held n 9 [.string s] = some x) (hw : Wt 9 x) : s.size ≤ 140737488351232 := by
  obtain ⟨s', e, ex, _⟩ := DataW.trod_string Try.underlying9 h
  injection e with e _
  injection e with e
  subst e
  have := hw s.size (by rw [ex]; simp [DataW.weights])
  exact this

/-- A slice that came in: its elements' cells. -/
theorem slice_in {t e : TypeId} {c fuel : Nat} {cs : List Value} {x : DataW H × List MemPlace} (ht : Try.prog.underlying t = some (.slice e)) (hc : Try.prog.cellsOf e = c) (hc0 : 0 < c) (h : DataW.trod enc Try.prog W 0 sp held fuel t cs = some x) (hw : Wt t x) :
    ∃ A n cap m, cs = [.slice A n cap] ∧ n ≤ cap ∧ cap ≤ 9223372036854775807 ∧ m < fuel ∧ n * Try.prog.bytesOf e ≤ reachBytes ∧ (0 < n → ∃ b o, A = some ⟨b, o, none⟩ ∧ b < W.heap.size ∧
      ∀ i, i < n → ∃ (cs' : List Value) (y : DataW H × List MemPlace), cs'.length = c ∧ (∀ j, j < c → W.cell? ⟨b, o + i * c + j, none⟩ = cs'[j]?) ∧ DataW.trod enc Try.prog W 0 sp held m e cs' = some y ∧ Wt e y) := by
  rcases DataW.trod_slice ht h with ⟨rfl, _⟩ | ⟨a, len, cap, elems, rest, n, hf, rfl, hx, _, hl, hm, hlen, hel, _, _⟩
  · refine ⟨none, 0, 0, 0, rfl, Nat.le_refl _, by decide, ?_, by simp, fun h => by omega⟩
    cases fuel with
    | zero => simp [DataW.trod] at h
    | succ n => omega
  · have hsz : len * Try.prog.bytesOf e ≤ reachBytes := by
      have := hw ((elems.length + rest.length) * Try.prog.bytesOf e) (by rw [hx]; simp [DataW.weights, ht])
      rw [← hlen]
      exact Nat.le_trans (Nat.mul_le_mul_right _ (Nat.le_add_right _ _)) this
    refine ⟨some a, len, cap, n, rfl, hl, by unfold maxLen at hm; omega, by omega, hsz, fun hn => ?_⟩
    have one : ∀ i, i < len → ∃ (cs' : List Value) (y : DataW H × List MemPlace), cs'.length = c ∧ (∀ j, j < c → W.cell? ((a.add (i * c)).add j) = cs'[j]?) ∧ DataW.trod enc Try.prog W 0 sp held n e cs' = some y ∧ Wt e y := by
      intro i hi
      have h1 := hel i hi
      rw [List.getElem?_eq_getElem (by omega), hc] at h1
      obtain ⟨cs', h2, h3⟩ := Option.bind_eq_some_iff.1 h1
      obtain ⟨_, h4, h5⟩ := World.cells?_some h2
      refine ⟨cs', _, h4, h5, h3, fun m hm => hw m ?_⟩
      rw [hx]
      simp only [DataW.weights, ht]
      exact List.mem_cons_of_mem _ (List.mem_append.2 (.inl (weights_all (j := i) (by rw [List.getElem?_map, List.getElem?_eq_getElem (by omega)]; rfl) m hm)))
    obtain ⟨cs0, _, hl0, hc0', _⟩ := one 0 hn
    have hv0 := hc0' 0 hc0
    rw [List.getElem?_eq_getElem (by omega)] at hv0
    have hb := lt_of_cell hv0
    have hspot := World.cell?_spot hv0
    obtain ⟨b, o, spot⟩ := a
    simp [Addr.add] at hspot hb
    subst hspot
    refine ⟨b, o, rfl, hb, fun i hi => ?_⟩
    obtain ⟨cs', y, h1, h2, h3, h4⟩ := one i hi
    refine ⟨cs', y, h1, fun j hj => ?_, h3, h4⟩
    rw [← h2 j hj]
    congr 1
    unfold Addr.add
    split <;> split <;> simp_all

/-- The cells of an expression at a place. -/
def E1 (W : World) (b o : Nat) : Prop := ∃ op n s v l, W.cell? ⟨b, o, none⟩ = some (.int .i64 op) ∧ W.cell? ⟨b, o + 1, none⟩ = some (.int .i64 n) ∧ W.cell? ⟨b, o + 2, none⟩ = some (.string s) ∧
  W.cell? ⟨b, o + 3, none⟩ = some v ∧ EV W.heap.size W v l ∧ (I64 op ∧ I64 n ∧ s.size ≤ 9223372036854775807) ∧ (s.size ≤ 140737488351232 ∧ l.len * 56 ≤ 140737488351232) ∧ l.thin0
theorem es_gather {n b o : Nat} (h : ∀ i, i < n → E1 W b (o + i * 4)) : ∀ j, j ≤ n → ∃ l : ES, l.len = j ∧ l.thin0 ∧ l.In W.heap.size W b (o + (n - j) * 4) := by
  intro j
  induction j with
  | zero => exact fun _ => ⟨.nil, rfl, trivial, trivial⟩
  | succ j ih =>
    intro hj
    obtain ⟨r, hr, ht, hi⟩ := ih (by omega)
    obtain ⟨op, n1, s, v, l, h0, h1, h2, h3, h4, h5, h6, h7⟩ := h (n - (j + 1)) (by omega)
    exact ⟨.cons op n1 s l r, by simp [ES.len, hr], ⟨h6, h7, ht⟩, h0, h1, h2, ⟨v, h3, h4⟩, h5, by rw [show o + (n - (j + 1)) * 4 + 4 = o + (n - j) * 4 by omega]; exact hi⟩

/-- The values of an expression's four cells. -/
def E4 (W : World) (cs : List Value) : Prop := ∃ op n s v l, cs = [.int .i64 op, .int .i64 n, .string s, v] ∧ EV W.heap.size W v l ∧ (I64 op ∧ I64 n ∧ s.size ≤ 9223372036854775807) ∧ (s.size ≤ 140737488351232 ∧ l.len * 56 ≤ 140737488351232) ∧ l.thin0
theorem list_four {cs : List Value} {a b c d : Value} (hl : cs.length = 4) (h0 : cs[0]? = some a) (h1 : cs[1]? = some b) (h2 : cs[2]? = some c) (h3 : cs[3]? = some d) : cs = [a, b, c, d] := by
  match cs, hl with
  | [_, _, _, _], _ => simp at h0 h1 h2 h3; simp [*]
theorem expr_open {fuel : Nat} {cs : List Value} {x : DataW H × List MemPlace} (ih : ∀ m, m < fuel → ∀ {cs : List Value} {x : DataW H × List MemPlace}, DataW.trod enc Try.prog W 0 sp held m 35 cs = some x → Wt 35 x → ∃ v l, cs = [v] ∧ EV W.heap.size W v l ∧ l.len * 56 ≤ 140737488351232 ∧ l.thin0)
    (ht : DataW.trod enc Try.prog W 0 sp held fuel 37 cs = some x) (hw : Wt 37 x) : E4 W cs := by
  obtain ⟨xs, k, hk, hx, hlen, hxl, hf⟩ := DataW.trod_struct Try.underlying37 ht
  have hl : cs.length = 4 := hlen.trans (by kernel_rfl)
  have hxl4 : xs.length = 4 := hxl
  have hww : ∀ n ∈ DataW.weightsEach Try.prog [3, 2, 9, 35] (xs.map (·.1)), n ≤ reachBytes := by
    intro n hn
    refine hw n ?_
    rw [show x.1 = .agg (xs.map (·.1)) from congrArg Prod.fst hx]
    have hu : Try.prog.underlying 37 = some (.struct _) := Try.underlying37
    simp only [DataW.weights, hu]
    exact hn
  obtain ⟨v0, c0, t0⟩ := field_one (j := 0) (by omega) (show Try.prog.cellsOf 3 = 1 by kernel_rfl) ((hf 0 _ rfl).trans (List.getElem?_eq_getElem (by omega)))
  obtain ⟨v1, c1, t1⟩ := field_one (j := 1) (by omega) (show Try.prog.cellsOf 2 = 1 by kernel_rfl) ((hf 1 _ rfl).trans (List.getElem?_eq_getElem (by omega)))
  obtain ⟨v2, c2, t2⟩ := field_one (j := 2) (by omega) (show Try.prog.cellsOf 9 = 1 by kernel_rfl) ((hf 2 _ rfl).trans (List.getElem?_eq_getElem (by omega)))
  obtain ⟨v3, c3, t3⟩ := field_one (j := 3) (by omega) (show Try.prog.cellsOf 35 = 1 by kernel_rfl) ((hf 3 _ rfl).trans (List.getElem?_eq_getElem (by omega)))
  obtain ⟨op, rfl, w0⟩ := int_one Try.underlying3 t0
  obtain ⟨n1, rfl, w1⟩ := int_one Try.underlying2 t1
  obtain ⟨s, rfl, w2⟩ := str_one t2
  have z2 := str_size t2 (fun n hn => hww n (DataW.weights_mem_each (j := 2) (t := 9) rfl (by rw [List.getElem?_map, List.getElem?_eq_getElem (by omega)]; rfl) n hn))
  obtain ⟨v, l, e, w3, w4, w5⟩ := ih k (by omega) t3 (fun n hn => hww n (DataW.weights_mem_each (j := 3) (t := 35) rfl (by rw [List.getElem?_map, List.getElem?_eq_getElem (by omega)]; rfl) n hn))
  injection e with e _
  subst e
  exact ⟨op, n1, s, v3, l, list_four hl c0 c1 c2 c3, w3, ⟨w0, w1, w2⟩, ⟨z2, w4⟩, w5⟩

theorem es_open : ∀ (fuel : Nat) {cs : List Value} {x : DataW H × List MemPlace}, DataW.trod enc Try.prog W 0 sp held fuel 35 cs = some x → Wt 35 x → ∃ v l, cs = [v] ∧ EV W.heap.size W v l ∧ l.len * 56 ≤ 140737488351232 ∧ l.thin0 := by
  intro fuel
  induction fuel using Nat.strongRecOn with
  | ind fuel ih =>
    intro cs x h hw
    obtain ⟨A, n, cap, m, rfl, h1, h2, hm, hz, hr⟩ := slice_in Try.underlying35 (show Try.prog.cellsOf 37 = 4 by kernel_rfl) (by decide) h hw
    rw [show Try.prog.bytesOf 37 = 56 by kernel_rfl] at hz
    by_cases hn : 0 < n
    · obtain ⟨b, o, rfl, hb, he⟩ := hr hn
      obtain ⟨l, hl, ht, hi⟩ := es_gather (W := W) (n := n) (b := b) (o := o) (fun i hi => by
        obtain ⟨cs', y, hl, hc, ht, hwy⟩ := he i hi
        obtain ⟨op, n1, s, v, l, rfl, w3, w0, w1, w2⟩ := expr_open (fun m' hm' => ih m' (by omega)) ht hwy
        exact ⟨op, n1, s, v, l, hc 0 (by decide), hc 1 (by decide), hc 2 (by decide), hc 3 (by decide), w3, w0, w1, w2⟩) n (Nat.le_refl _)
      exact ⟨_, l, rfl, ⟨_, cap, by rw [hl], by rw [hl]; exact h1, h2, fun _ => ⟨b, o, rfl, hb, by simpa using hi⟩⟩, by rw [hl]; exact hz, ht⟩
    · obtain rfl : n = 0 := by omega
      exact ⟨_, .nil, rfl, ⟨A, cap, rfl, Nat.zero_le _, h2, fun h => by simp [ES.len] at h⟩, by simp [ES.len], trivial⟩

/-- The values of a statement's six cells. -/
def S6 (W : World) (cs : List Value) : Prop := ∃ op s n v l vx x vy y, cs = [.int .i64 op, .string s, .int .i64 n, v, vx, vy] ∧ EV W.heap.size W v l ∧ SV W.heap.size W vx x ∧ SV W.heap.size W vy y ∧ (I64 op ∧ I64 n ∧ s.size ≤ 9223372036854775807) ∧
  (s.size ≤ 140737488351232 ∧ l.len * 56 ≤ 140737488351232 ∧ x.len * 104 ≤ 140737488351232 ∧ y.len * 104 ≤ 140737488351232) ∧ l.thin0 ∧ x.thin0 ∧ y.thin0
theorem ss_gather {n b o : Nat} (h : ∀ i, i < n → ∃ cs, S6 W cs ∧ ∀ j, j < 6 → W.cell? ⟨b, o + i * 6 + j, none⟩ = cs[j]?) : ∀ j, j ≤ n → ∃ l : SS, l.len = j ∧ l.thin0 ∧ l.In W.heap.size W b (o + (n - j) * 6) := by
  intro j
  induction j with
  | zero => exact fun _ => ⟨.nil, rfl, trivial, trivial⟩
  | succ j ih =>
    intro hj
    obtain ⟨r, hr, ht, hi⟩ := ih (by omega)
    obtain ⟨cs, ⟨op, s, n1, v, l, vx, x, vy, y, rfl, h3, h4, h5, h6, h7, h8, h9, h10⟩, hc⟩ := h (n - (j + 1)) (by omega)
    exact ⟨.cons op s n1 l x y r, by simp [SS.len, hr], ⟨h7, h8, h9, h10, ht⟩, hc 0 (by decide), hc 1 (by decide), hc 2 (by decide), ⟨v, hc 3 (by decide), h3⟩, ⟨vx, hc 4 (by decide), h4⟩, ⟨vy, hc 5 (by decide), h5⟩, h6, by rw [show o + (n - (j + 1)) * 6 + 6 = o + (n - j) * 6 by omega]; exact hi⟩
theorem list_six {cs : List Value} {a b c d e f : Value} (hl : cs.length = 6) (h0 : cs[0]? = some a) (h1 : cs[1]? = some b) (h2 : cs[2]? = some c) (h3 : cs[3]? = some d) (h4 : cs[4]? = some e) (h5 : cs[5]? = some f) : cs = [a, b, c, d, e, f] := by
  match cs, hl with
  | [_, _, _, _, _, _], _ => simp at h0 h1 h2 h3 h4 h5; simp [*]

theorem stmt_open {fuel : Nat} {cs : List Value} {x : DataW H × List MemPlace} (ih : ∀ m, m < fuel → ∀ {cs : List Value} {x : DataW H × List MemPlace}, DataW.trod enc Try.prog W 0 sp held m 23 cs = some x → Wt 23 x → ∃ v l, cs = [v] ∧ SV W.heap.size W v l ∧ l.len * 104 ≤ 140737488351232 ∧ l.thin0)
    (ht : DataW.trod enc Try.prog W 0 sp held fuel 40 cs = some x) (hw : Wt 40 x) : S6 W cs := by
  obtain ⟨xs, k, hk, hx, hlen, hxl, hf⟩ := DataW.trod_struct Try.underlying40 ht
  have hl : cs.length = 6 := hlen.trans (by kernel_rfl)
  have hxl6 : xs.length = 6 := hxl
  have hww : ∀ n ∈ DataW.weightsEach Try.prog [3, 9, 2, 35, 23, 23] (xs.map (·.1)), n ≤ reachBytes := by
    intro n hn
    refine hw n ?_
    rw [show x.1 = .agg (xs.map (·.1)) from congrArg Prod.fst hx]
    have hu : Try.prog.underlying 40 = some (.struct _) := Try.underlying40
    simp only [DataW.weights, hu]
    exact hn
  obtain ⟨v0, c0, t0⟩ := field_one (j := 0) (by omega) (show Try.prog.cellsOf 3 = 1 by kernel_rfl) ((hf 0 _ rfl).trans (List.getElem?_eq_getElem (by omega)))
  obtain ⟨v1, c1, t1⟩ := field_one (j := 1) (by omega) (show Try.prog.cellsOf 9 = 1 by kernel_rfl) ((hf 1 _ rfl).trans (List.getElem?_eq_getElem (by omega)))
  obtain ⟨v2, c2, t2⟩ := field_one (j := 2) (by omega) (show Try.prog.cellsOf 2 = 1 by kernel_rfl) ((hf 2 _ rfl).trans (List.getElem?_eq_getElem (by omega)))
  obtain ⟨v3, c3, t3⟩ := field_one (j := 3) (by omega) (show Try.prog.cellsOf 35 = 1 by kernel_rfl) ((hf 3 _ rfl).trans (List.getElem?_eq_getElem (by omega)))
  obtain ⟨v4, c4, t4⟩ := field_one (j := 4) (by omega) (show Try.prog.cellsOf 23 = 1 by kernel_rfl) ((hf 4 _ rfl).trans (List.getElem?_eq_getElem (by omega)))
  obtain ⟨v5, c5, t5⟩ := field_one (j := 5) (by omega) (show Try.prog.cellsOf 23 = 1 by kernel_rfl) ((hf 5 _ rfl).trans (List.getElem?_eq_getElem (by omega)))
  have W1 : ∀ (j : Nat) (t : TypeId) (y : DataW H × List MemPlace), [3, 9, 2, 35, 23, 23][j]? = some t → xs[j]? = some y → Wt t y := fun j t y ht hy n hn => hww n (DataW.weights_mem_each (j := j) (t := t) ht (by rw [List.getElem?_map, hy]; rfl) n hn)
  obtain ⟨op, rfl, w0⟩ := int_one Try.underlying3 t0
  obtain ⟨s, rfl, w1⟩ := str_one t1
  have z1 := str_size t1 (W1 1 _ _ rfl (List.getElem?_eq_getElem (by omega)))
  obtain ⟨n1, rfl, w2⟩ := int_one Try.underlying2 t2
  obtain ⟨v, l, e, w3, z3, y3⟩ := es_open k t3 (W1 3 _ _ rfl (List.getElem?_eq_getElem (by omega)))
  injection e with e _
  subst e
  obtain ⟨v, x', e, w4, z4, y4⟩ := ih k (by omega) t4 (W1 4 _ _ rfl (List.getElem?_eq_getElem (by omega)))
  injection e with e _
  subst e
  obtain ⟨v, y', e, w5, z5, y5⟩ := ih k (by omega) t5 (W1 5 _ _ rfl (List.getElem?_eq_getElem (by omega)))
  injection e with e _
  subst e
  exact ⟨op, s, n1, v3, l, v4, x', v5, y', list_six hl c0 c1 c2 c3 c4 c5, w3, w4, w5, ⟨w0, w2, w1⟩, ⟨z1, z3, z4, z5⟩, y3, y4, y5⟩

theorem ss_open : ∀ (fuel : Nat) {cs : List Value} {x : DataW H × List MemPlace}, DataW.trod enc Try.prog W 0 sp held fuel 23 cs = some x → Wt 23 x → ∃ v l, cs = [v] ∧ SV W.heap.size W v l ∧ l.len * 104 ≤ 140737488351232 ∧ l.thin0 := by
  intro fuel
  induction fuel using Nat.strongRecOn with
  | ind fuel ih =>
    intro cs x h hw
    obtain ⟨A, n, cap, m, rfl, h1, h2, hm, hz, hr⟩ := slice_in Try.underlying23 (show Try.prog.cellsOf 40 = 6 by kernel_rfl) (by decide) h hw
    rw [show Try.prog.bytesOf 40 = 104 by kernel_rfl] at hz
    by_cases hn : 0 < n
    · obtain ⟨b, o, rfl, hb, he⟩ := hr hn
      obtain ⟨l, hl, ht, hi⟩ := ss_gather (W := W) (n := n) (b := b) (o := o) (fun i hi => by
        obtain ⟨cs', y, hl, hc, ht, hwy⟩ := he i hi
        exact ⟨cs', stmt_open (fun m' hm' => ih m' (by omega)) ht hwy, hc⟩) n (Nat.le_refl _)
      exact ⟨_, l, rfl, ⟨_, cap, by rw [hl], by rw [hl]; exact h1, h2, fun _ => ⟨b, o, rfl, hb, by simpa using hi⟩⟩, by rw [hl]; exact hz, ht⟩
    · obtain rfl : n = 0 := by omega
      exact ⟨_, .nil, rfl, ⟨A, cap, rfl, Nat.zero_le _, h2, fun h => by simp [SS.len] at h⟩, by simp [SS.len], trivial⟩

theorem ps_gather {n b o : Nat} (h : ∀ i, i < n → ∃ s : ByteArray, W.cell? ⟨b, o + i, none⟩ = some (.string s) ∧ s.size ≤ 140737488351232) : ∀ j, j ≤ n → ∃ l : List ByteArray, l.length = j ∧ (∀ s ∈ l, s.size ≤ 140737488351232) ∧ PsIn W l b (o + (n - j)) := by
  intro j
  induction j with
  | zero => exact fun _ => ⟨[], rfl, fun _ h => by simp at h, trivial⟩
  | succ j ih =>
    intro hj
    obtain ⟨r, hr, hs, hi⟩ := ih (by omega)
    obtain ⟨s, h0, h1⟩ := h (n - (j + 1)) (by omega)
    refine ⟨s :: r, by simp [hr], fun t ht => ?_, h0, by omega, by rw [show o + (n - (j + 1)) + 1 = o + (n - j) by omega]; exact hi⟩
    rcases List.mem_cons.1 ht with rfl | ht
    · exact h1
    · exact hs t ht
theorem ps_open {fuel : Nat} {cs : List Value} {x : DataW H × List MemPlace} (h : DataW.trod enc Try.prog W 0 sp held fuel 29 cs = some x) (hw : Wt 29 x) : ∃ v l, cs = [v] ∧ RowV (PsIn W l) W.heap.size l.length v ∧ l.length * 16 ≤ 140737488351232 ∧ ∀ s ∈ l, s.size ≤ 140737488351232 := by
  obtain ⟨A, n, cap, m, rfl, h1, h2, hm, hz, hr⟩ := slice_in Try.underlying29 (show Try.prog.cellsOf 9 = 1 by kernel_rfl) (by decide) h hw
  rw [show Try.prog.bytesOf 9 = 16 by kernel_rfl] at hz
  by_cases hn : 0 < n
  · obtain ⟨b, o, rfl, hb, he⟩ := hr hn
    obtain ⟨l, hl, hs, hi⟩ := ps_gather (W := W) (n := n) (b := b) (o := o) (fun i hi => by
      obtain ⟨cs', y, hl, hc, ht, hwy⟩ := he i hi
      match cs', hl with
      | [v], _ =>
        obtain ⟨s, rfl, hs⟩ := str_one ht
        exact ⟨s, by have := hc 0 (by decide); simpa using this, str_size ht hwy⟩) n (Nat.le_refl _)
    exact ⟨_, l, rfl, ⟨_, cap, by rw [hl], by rw [hl]; exact h1, h2, fun _ => ⟨b, o, rfl, hb, by simpa using hi⟩⟩, by rw [hl]; exact hz, hs⟩
  · obtain rfl : n = 0 := by omega
    exact ⟨_, [], rfl, ⟨A, cap, rfl, Nat.zero_le _, h2, fun h => by simp at h⟩, by simp, fun _ h => by simp at h⟩

/-- The cells of a function at a place. -/
def F1 (W : World) (b o : Nat) : Prop := ∃ (f : Fn) (v v' : Value), W.cell? ⟨b, o, none⟩ = some (.string f.s) ∧ (W.cell? ⟨b, o + 1, none⟩ = some v ∧ RowV (PsIn W f.ps) W.heap.size f.ps.length v) ∧ (W.cell? ⟨b, o + 2, none⟩ = some v' ∧ SV W.heap.size W v' f.b) ∧ f.thin0
theorem fs_gather {n b o : Nat} (h : ∀ i, i < n → F1 W b (o + i * 3)) : ∀ j, j ≤ n → ∃ l : List Fn, l.length = j ∧ (∀ f ∈ l, f.thin0) ∧ FsIn W.heap.size W l b (o + (n - j) * 3) := by
  intro j
  induction j with
  | zero => exact fun _ => ⟨[], rfl, fun _ h => by simp at h, trivial⟩
  | succ j ih =>
    intro hj
    obtain ⟨r, hr, hs, hi⟩ := ih (by omega)
    obtain ⟨f, v, v', h0, h1, h2, h3⟩ := h (n - (j + 1)) (by omega)
    refine ⟨f :: r, by simp [hr], fun t ht => ?_, h0, ⟨v, h1⟩, ⟨v', h2⟩, by have := h3.1; omega, by rw [show o + (n - (j + 1)) * 3 + 3 = o + (n - j) * 3 by omega]; exact hi⟩
    rcases List.mem_cons.1 ht with rfl | ht
    · exact h3
    · exact hs t ht
theorem fs_open {fuel : Nat} {cs : List Value} {x : DataW H × List MemPlace} (h : DataW.trod enc Try.prog W 0 sp held fuel 22 cs = some x) (hw : Wt 22 x) : ∃ v l, cs = [v] ∧ FV W.heap.size W v l ∧ l.length * 64 ≤ 140737488351232 ∧ ∀ f ∈ l, f.thin0 := by
  obtain ⟨A, n, cap, m, rfl, h1, h2, hm, hz, hr⟩ := slice_in Try.underlying22 (show Try.prog.cellsOf 31 = 3 by kernel_rfl) (by decide) h hw
  rw [show Try.prog.bytesOf 31 = 64 by kernel_rfl] at hz
  by_cases hn : 0 < n
  · obtain ⟨b, o, rfl, hb, he⟩ := hr hn
    obtain ⟨l, hl, hs, hi⟩ := fs_gather (W := W) (n := n) (b := b) (o := o) (fun i hi => by
      obtain ⟨cs', y, hl, hc, ht, hwy⟩ := he i hi
      obtain ⟨xs, k, hk, hx, _, hxl, hf⟩ := DataW.trod_struct Try.underlying31 ht
      have hxl3 : xs.length = 3 := hxl
      have hww : ∀ n ∈ DataW.weightsEach Try.prog [9, 29, 23] (xs.map (·.1)), n ≤ reachBytes := by
        intro n hn
        refine hwy n ?_
        rw [show y.1 = .agg (xs.map (·.1)) from congrArg Prod.fst hx]
        have hu : Try.prog.underlying 31 = some (.struct _) := Try.underlying31
        simp only [DataW.weights, hu]
        exact hn
      have W1 : ∀ (j : Nat) (t : TypeId) (y : DataW H × List MemPlace), [9, 29, 23][j]? = some t → xs[j]? = some y → Wt t y := fun j t y ht hy n hn => hww n (DataW.weights_mem_each (j := j) (t := t) ht (by rw [List.getElem?_map, hy]; rfl) n hn)
      obtain ⟨v0, c0, t0⟩ := field_one (j := 0) (by omega) (show Try.prog.cellsOf 9 = 1 by kernel_rfl) ((hf 0 _ rfl).trans (List.getElem?_eq_getElem (by omega)))
      obtain ⟨v1, c1, t1⟩ := field_one (j := 1) (by omega) (show Try.prog.cellsOf 29 = 1 by kernel_rfl) ((hf 1 _ rfl).trans (List.getElem?_eq_getElem (by omega)))
      obtain ⟨v2, c2, t2⟩ := field_one (j := 2) (by omega) (show Try.prog.cellsOf 23 = 1 by kernel_rfl) ((hf 2 _ rfl).trans (List.getElem?_eq_getElem (by omega)))
      obtain ⟨s, rfl, w0⟩ := str_one t0
      have z0 := str_size t0 (W1 0 _ _ rfl (List.getElem?_eq_getElem (by omega)))
      obtain ⟨v, ps, e, w1, z1, y1⟩ := ps_open t1 (W1 1 _ _ rfl (List.getElem?_eq_getElem (by omega)))
      injection e with e _
      subst e
      obtain ⟨v, l, e, w2, z2, y2⟩ := ss_open k t2 (W1 2 _ _ rfl (List.getElem?_eq_getElem (by omega)))
      injection e with e _
      subst e
      exact ⟨⟨s, ps, l⟩, v1, v2, by rw [← c0, ← hc 0 (by decide)]; rfl, ⟨by rw [← c1, ← hc 1 (by decide)], w1⟩, ⟨by rw [← c2, ← hc 2 (by decide)], w2⟩, z0, z1, y1, z2, y2⟩) n (Nat.le_refl _)
    exact ⟨_, l, rfl, ⟨_, cap, by rw [hl], by rw [hl]; exact h1, h2, fun _ => ⟨b, o, rfl, hb, by simpa using hi⟩⟩, by rw [hl]; exact hz, hs⟩
  · obtain rfl : n = 0 := by omega
    exact ⟨_, [], rfl, ⟨A, cap, rfl, Nat.zero_le _, h2, fun h => by simp at h⟩, by simp, fun _ h => by simp at h⟩

/-- A program that came in. -/
theorem open_prog {v : Value} {d : DataW H} {p : List MemPlace} {base : Nat} (hv : Value.okWide Try.prog W .any base 25 v) (h : DataW.Trod enc Try.prog W 0 sp held 25 v d p) (hw : ∀ n ∈ d.weights Try.prog 25, n ≤ reachBytes) : ∃ pg, PgV W.heap.size W v pg ∧ pg.thin0 := by
  obtain ⟨cs, rfl, hsz⟩ := okWide_struct Try.underlying25 hv
  have hsz2 : cs.size = 2 := hsz.trans (by kernel_rfl)
  obtain ⟨fuel, hf⟩ := h
  obtain ⟨xs, k, hk, hx, hlen, hxl, hf⟩ := DataW.trod_struct Try.underlying25 hf
  have hxl2 : xs.length = 2 := hxl
  have hcl : (Value.agg cs).cells.toList.length = 2 := hlen.trans (by kernel_rfl)
  have hww : ∀ n ∈ DataW.weightsEach Try.prog [22, 23] (xs.map (·.1)), n ≤ reachBytes := by
    intro n hn
    refine hw n ?_
    rw [show d = .agg (xs.map (·.1)) from congrArg Prod.fst hx]
    have hu : Try.prog.underlying 25 = some (.struct _) := Try.underlying25
    simp only [DataW.weights, hu]
    exact hn
  have W1 : ∀ (j : Nat) (t : TypeId) (y : DataW H × List MemPlace), [22, 23][j]? = some t → xs[j]? = some y → Wt t y := fun j t y ht hy n hn => hww n (DataW.weights_mem_each (j := j) (t := t) ht (by rw [List.getElem?_map, hy]; rfl) n hn)
  obtain ⟨v0, c0, t0⟩ := field_one (j := 0) (by omega) (show Try.prog.cellsOf 22 = 1 by kernel_rfl) ((hf 0 _ rfl).trans (List.getElem?_eq_getElem (by omega)))
  obtain ⟨v1, c1, t1⟩ := field_one (j := 1) (by omega) (show Try.prog.cellsOf 23 = 1 by kernel_rfl) ((hf 1 _ rfl).trans (List.getElem?_eq_getElem (by omega)))
  obtain ⟨v, fs, e, w0, z0, y0⟩ := fs_open t0 (W1 0 _ _ rfl (List.getElem?_eq_getElem (by omega)))
  injection e with e _
  subst e
  obtain ⟨v, m, e, w1, z1, y1⟩ := ss_open k t1 (W1 1 _ _ rfl (List.getElem?_eq_getElem (by omega)))
  injection e with e _
  subst e
  obtain ⟨A, cap, rfl, _⟩ := id w0
  obtain ⟨A', cap', rfl, _⟩ := id w1
  have hcs : cs = #[.slice A fs.length cap, .slice A' m.len cap'] := by
    apply Array.ext'
    have h0 : cs.toList[0]? = some (.slice A fs.length cap) := c0
    have h1 : cs.toList[1]? = some (.slice A' m.len cap') := c1
    have hl : cs.toList.length = 2 := by simpa using hsz2
    match hh : cs.toList, hl with
    | [a, b], _ =>
      rw [hh] at h0 h1
      simp at h0 h1
      simp [h0, h1]
  exact ⟨⟨fs, m⟩, ⟨A, cap, A', cap', by rw [hcs], w0, w1⟩, ⟨z0, y0⟩, z1, y1⟩
/-- An expression that came in. -/
theorem open_expr {v : Value} {d : DataW H} {p : List MemPlace} {base : Nat} (hv : Value.okWide Try.prog W .any base 37 v) (h : DataW.Trod enc Try.prog W 0 sp held 37 v d p) (hw : ∀ n ∈ d.weights Try.prog 37, n ≤ reachBytes) :
    ∃ op n s l, EsV W.heap.size W v op n s l ∧ (s.size ≤ 140737488351232 ∧ l.len * 56 ≤ 140737488351232) ∧ l.thin0 := by
  obtain ⟨cs, rfl, hsz⟩ := okWide_struct Try.underlying37 hv
  obtain ⟨fuel, hf⟩ := h
  obtain ⟨op, n, s, v, l, he, w3, w0, w1, w2⟩ := expr_open (fun m _ => es_open m) hf hw
  exact ⟨op, n, s, l, ⟨v, by
    have : cs.toList = [.int .i64 op, .int .i64 n, .string s, v] := he
    rw [show cs = #[.int .i64 op, .int .i64 n, .string s, v] from Array.ext' this], w3, w0⟩, w1, w2⟩
/-- Texts that came in. -/
theorem open_texts {v : Value} {d : DataW H} {p : List MemPlace} {base : Nat} (hv : Value.okWide Try.prog W .any base 29 v) (h : DataW.Trod enc Try.prog W 0 sp held 29 v d p) (hw : ∀ n ∈ d.weights Try.prog 29, n ≤ reachBytes) :
    ∃ l, RowV (PsIn W l) W.heap.size l.length v ∧ l.length * 16 ≤ 140737488351232 ∧ ∀ s ∈ l, s.size ≤ 140737488351232 := by
  obtain ⟨a, len, cap, rfl⟩ := okWide_slice Try.underlying29 hv
  obtain ⟨fuel, hf⟩ := h
  obtain ⟨v', l, e, h1, h2, h3⟩ := ps_open hf hw
  have e : [Value.slice a len cap] = [v'] := e
  injection e with e _
  subst e
  exact ⟨l, h1, h2, h3⟩

end
end Go.Proofs.Ytacleafbjbhcgaa
