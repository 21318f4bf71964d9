/-
  From a statement's arguments to the walk's words: expressions, statements, functions, programs that came in.
-/
import Derived.Test.YtnilklgnpfgieaaDoorCpLd
import Derived.Deep.Slices
namespace Go.Proofs.YtnilklgnpfgieaaDoor
open Go Go.ChangeShapes Go.WideShapes Go.ChangeAt Go.RowKit Go.Deep
set_option maxRecDepth 100000

theorem lt_of_cell {W : World} {a : Addr} {v : Value} (h : W.cell? a = some v) : a.block < W.heap.size := by
  rcases Nat.lt_or_ge a.block W.heap.size with h' | h'
  · exact h'
  · simp [World.cell?, Array.getElem?_eq_none h'] at h

section
variable {H : Type} {enc : TypeId × Value → H} {W : World} {sp : Nat → Bool} {held : Bool}

/-- One field of one cell of a struct's reading. -/
theorem field_one {cs : List Value} {n j : Nat} {t : TypeId} {x : DataW H × List MemPlace} (hlen : j < cs.length) (h1 : Tryd.prog.cellsOf t = 1) (h : DataW.trod enc Tryd.prog W 0 sp held n t ((cs.drop j).take (Tryd.prog.cellsOf t)) = some x) :
    ∃ v, cs[j]? = some v ∧ DataW.trod enc Tryd.prog W 0 sp held n t [v] = some x := by
  rw [h1, List.drop_eq_getElem_cons hlen] at h
  exact ⟨cs[j], List.getElem?_eq_getElem hlen, h⟩

theorem str_one {n : Nat} {v : Value} {x : DataW H × List MemPlace} (h : DataW.trod enc Tryd.prog W 0 sp held n 9 [v] = some x) : ∃ s : ByteArray, v = .string s ∧ s.size ≤ 9223372036854775807 := by
  obtain ⟨s, e, _, hm⟩ := DataW.trod_string Tryd.underlying9 h
  injection e with e _
  exact ⟨s, e, by unfold maxLen at hm; omega⟩
theorem int_one {n : Nat} {t : TypeId} (ht : Tryd.prog.underlying t = some (.int .i64)) {v : Value} {x : DataW H × List MemPlace} (h : DataW.trod enc Tryd.prog W 0 sp held n t [v] = some x) : ∃ k : Int, v = .int .i64 k ∧ I64 k := by
  obtain ⟨k, e, _, hm⟩ := DataW.trod_int ht h
  injection e with e _
  exact ⟨k, e, i64_of_wf hm⟩

/-- A slice that came in: its elements' cells. -/
theorem slice_in {t e : TypeId} {c fuel : Nat} {cs : List Value} {x : DataW H × List MemPlace} (ht : Tryd.prog.underlying t = some (.slice e)) (hc : Tryd.prog.cellsOf e = c) (hc0 : 0 < c) (h : DataW.trod enc Tryd.prog W 0 sp held fuel t cs = some x) :
    ∃ A n cap m, cs = [.slice A n cap] ∧ n ≤ cap ∧ cap ≤ 9223372036854775807 ∧ m < fuel ∧ (A = none → n = 0) ∧ (0 < n → ∃ b o, A = some ⟨b, o, none⟩ ∧ b < W.heap.size ∧
      ∀ i, i < n → ∃ (cs' : List Value) (y : DataW H × List MemPlace), cs'.length = c ∧ (∀ j, j < c → W.cell? ⟨b, o + i * c + j, none⟩ = cs'[j]?) ∧ DataW.trod enc Tryd.prog W 0 sp held m e cs' = some y) := by
  rcases DataW.trod_slice ht h with ⟨rfl, _⟩ | ⟨a, len, cap, elems, rest, n, hf, rfl, _, _, hl, hm, hlen, hel, _, _⟩
  · refine ⟨none, 0, 0, 0, rfl, Nat.le_refl _, by decide, ?_, fun _ => rfl, fun h => by omega⟩
    cases fuel with
    | zero => simp [DataW.trod] at h
    | succ n => omega
  · refine ⟨some a, len, cap, n, rfl, hl, by unfold maxLen at hm; omega, by omega, (fun h => by cases h), fun hn => ?_⟩
    have one : ∀ i, i < len → ∃ (cs' : List Value) (y : DataW H × List MemPlace), cs'.length = c ∧ (∀ j, j < c → W.cell? ((a.add (i * c)).add j) = cs'[j]?) ∧ DataW.trod enc Tryd.prog W 0 sp held n e cs' = some y := by
      intro i hi
      have h1 := hel i hi
      rw [List.getElem?_eq_getElem (by omega), hc] at h1
      obtain ⟨cs', h2, h3⟩ := Option.bind_eq_some_iff.1 h1
      obtain ⟨_, h4, h5⟩ := World.cells?_some h2
      exact ⟨cs', _, h4, h5, h3⟩
    obtain ⟨cs0, _, hl0, hc0', _⟩ := one 0 hn
    have hv0 := hc0' 0 hc0
    rw [List.getElem?_eq_getElem (by omega)] at hv0
    have hb := lt_of_cell hv0
    have hspot := World.cell?_spot hv0
    obtain ⟨b, o, spot⟩ := a
    simp [Addr.add] at hspot hb
    subst hspot
    refine ⟨b, o, rfl, hb, fun i hi => ?_⟩
    obtain ⟨cs', y, h1, h2, h3⟩ := one i hi
    refine ⟨cs', y, h1, fun j hj => ?_, h3⟩
    rw [← h2 j hj]
    congr 1
    unfold Addr.add
    split <;> split <;> simp_all

/-- The cells of an expression at a place. -/
def E1 (W : World) (b o : Nat) : Prop := ∃ op n s v l, W.cell? ⟨b, o, none⟩ = some (.int .i64 op) ∧ W.cell? ⟨b, o + 1, none⟩ = some (.int .i64 n) ∧ W.cell? ⟨b, o + 2, none⟩ = some (.string s) ∧
  W.cell? ⟨b, o + 3, none⟩ = some v ∧ EV W.heap.size W v l ∧ (I64 op ∧ I64 n ∧ s.size ≤ 9223372036854775807)
theorem es_gather {n b o : Nat} (h : ∀ i, i < n → E1 W b (o + i * 4)) : ∀ j, j ≤ n → ∃ l : ES, l.len = j ∧ l.In W.heap.size W b (o + (n - j) * 4) := by
  intro j
  induction j with
  | zero => exact fun _ => ⟨.nil, rfl, trivial⟩
  | succ j ih =>
    intro hj
    obtain ⟨r, hr, hi⟩ := ih (by omega)
    obtain ⟨op, n1, s, v, l, h0, h1, h2, h3, h4, h5⟩ := h (n - (j + 1)) (by omega)
    exact ⟨.cons op n1 s l r, by simp [ES.len, hr], h0, h1, h2, ⟨v, h3, h4⟩, h5, by rw [show o + (n - (j + 1)) * 4 + 4 = o + (n - j) * 4 by omega]; exact hi⟩

theorem es_open : ∀ (fuel : Nat) {cs : List Value} {x : DataW H × List MemPlace}, DataW.trod enc Tryd.prog W 0 sp held fuel 33 cs = some x → ∃ v l, cs = [v] ∧ EV W.heap.size W v l := by
  intro fuel
  induction fuel using Nat.strongRecOn with
  | ind fuel ih =>
    intro cs x h
    obtain ⟨A, n, cap, m, rfl, h1, h2, hm, _, hr⟩ := slice_in Tryd.underlying33 (show Tryd.prog.cellsOf 35 = 4 by kernel_rfl) (by decide) h
    by_cases hn : 0 < n
    · obtain ⟨b, o, rfl, hb, he⟩ := hr hn
      obtain ⟨l, hl, hi⟩ := es_gather (W := W) (n := n) (b := b) (o := o) (fun i hi => by
        obtain ⟨cs', y, hl, hc, ht⟩ := he i hi
        obtain ⟨xs, k, hk, _, _, hxl, hf⟩ := DataW.trod_struct Tryd.underlying35 ht
        have hxl4 : xs.length = 4 := hxl
        obtain ⟨v0, c0, t0⟩ := field_one (j := 0) (by omega) (show Tryd.prog.cellsOf 3 = 1 by kernel_rfl) ((hf 0 _ rfl).trans (List.getElem?_eq_getElem (by omega)))
        obtain ⟨v1, c1, t1⟩ := field_one (j := 1) (by omega) (show Tryd.prog.cellsOf 2 = 1 by kernel_rfl) ((hf 1 _ rfl).trans (List.getElem?_eq_getElem (by omega)))
        obtain ⟨v2, c2, t2⟩ := field_one (j := 2) (by omega) (show Tryd.prog.cellsOf 9 = 1 by kernel_rfl) ((hf 2 _ rfl).trans (List.getElem?_eq_getElem (by omega)))
        obtain ⟨v3, c3, t3⟩ := field_one (j := 3) (by omega) (show Tryd.prog.cellsOf 33 = 1 by kernel_rfl) ((hf 3 _ rfl).trans (List.getElem?_eq_getElem (by omega)))
        obtain ⟨op, rfl, w0⟩ := int_one Tryd.underlying3 t0
        obtain ⟨n1, rfl, w1⟩ := int_one Tryd.underlying2 t1
        obtain ⟨s, rfl, w2⟩ := str_one t2
        obtain ⟨v, l, e, w3⟩ := ih k (by omega) t3
        injection e with e _
        subst e
        exact ⟨op, n1, s, v3, l, by rw [← c0, ← hc 0 (by decide)]; rfl, by rw [← c1, ← hc 1 (by decide)], by rw [← c2, ← hc 2 (by decide)], by rw [← c3, ← hc 3 (by decide)], w3, w0, w1, w2⟩) n (Nat.le_refl _)
      exact ⟨_, l, rfl, _, cap, by rw [hl], by rw [hl]; exact h1, h2, fun _ => ⟨b, o, rfl, hb, by simpa using hi⟩⟩
    · obtain rfl : n = 0 := by omega
      exact ⟨_, .nil, rfl, A, cap, rfl, Nat.zero_le _, h2, fun h => by simp [ES.len] at h⟩

/-- The cells of a statement at a place. -/
def S1 (W : World) (b o : Nat) : Prop := ∃ op s n v l vx x vy y, W.cell? ⟨b, o, none⟩ = some (.int .i64 op) ∧ W.cell? ⟨b, o + 1, none⟩ = some (.string s) ∧ W.cell? ⟨b, o + 2, none⟩ = some (.int .i64 n) ∧
  (W.cell? ⟨b, o + 3, none⟩ = some v ∧ EV W.heap.size W v l) ∧ (W.cell? ⟨b, o + 4, none⟩ = some vx ∧ SV W.heap.size W vx x) ∧ (W.cell? ⟨b, o + 5, none⟩ = some vy ∧ SV W.heap.size W vy y) ∧ (I64 op ∧ I64 n ∧ s.size ≤ 9223372036854775807)
theorem ss_gather {n b o : Nat} (h : ∀ i, i < n → S1 W b (o + i * 6)) : ∀ j, j ≤ n → ∃ l : SS, l.len = j ∧ l.In W.heap.size W b (o + (n - j) * 6) := by
  intro j
  induction j with
  | zero => exact fun _ => ⟨.nil, rfl, trivial⟩
  | succ j ih =>
    intro hj
    obtain ⟨r, hr, hi⟩ := ih (by omega)
    obtain ⟨op, s, n1, v, l, vx, x, vy, y, h0, h1, h2, h3, h4, h5, h6⟩ := h (n - (j + 1)) (by omega)
    exact ⟨.cons op s n1 l x y r, by simp [SS.len, hr], h0, h1, h2, ⟨v, h3⟩, ⟨vx, h4⟩, ⟨vy, h5⟩, h6, by rw [show o + (n - (j + 1)) * 6 + 6 = o + (n - j) * 6 by omega]; exact hi⟩

/-- The values of a statement's six cells. -/
def S6 (W : World) (cs : List Value) : Prop := ∃ op s n v l vx x vy y, cs = [.int .i64 op, .string s, .int .i64 n, v, vx, vy] ∧ EV W.heap.size W v l ∧ SV W.heap.size W vx x ∧ SV W.heap.size W vy y ∧ (I64 op ∧ I64 n ∧ s.size ≤ 9223372036854775807)

theorem list_six {cs : List Value} {a b c d e f : Value} (hl : cs.length = 6) (h0 : cs[0]? = some a) (h1 : cs[1]? = some b) (h2 : cs[2]? = some c) (h3 : cs[3]? = some d) (h4 : cs[4]? = some e) (h5 : cs[5]? = some f) : cs = [a, b, c, d, e, f] := by
  match cs, hl with
  | [_, _, _, _, _, _], _ => simp at h0 h1 h2 h3 h4 h5; simp [*]

theorem stmt_open {fuel : Nat} {cs : List Value} {x : DataW H × List MemPlace} (ih : ∀ m, m < fuel → ∀ {cs : List Value} {x : DataW H × List MemPlace}, DataW.trod enc Tryd.prog W 0 sp held m 23 cs = some x → ∃ v l, cs = [v] ∧ SV W.heap.size W v l)
    (ht : DataW.trod enc Tryd.prog W 0 sp held fuel 37 cs = some x) : S6 W cs := by
  obtain ⟨xs, k, hk, _, hlen, hxl, hf⟩ := DataW.trod_struct Tryd.underlying37 ht
  have hl : cs.length = 6 := hlen.trans (by kernel_rfl)
  have hxl6 : xs.length = 6 := hxl
  obtain ⟨v0, c0, t0⟩ := field_one (j := 0) (by omega) (show Tryd.prog.cellsOf 3 = 1 by kernel_rfl) ((hf 0 _ rfl).trans (List.getElem?_eq_getElem (by omega)))
  obtain ⟨v1, c1, t1⟩ := field_one (j := 1) (by omega) (show Tryd.prog.cellsOf 9 = 1 by kernel_rfl) ((hf 1 _ rfl).trans (List.getElem?_eq_getElem (by omega)))
  obtain ⟨v2, c2, t2⟩ := field_one (j := 2) (by omega) (show Tryd.prog.cellsOf 2 = 1 by kernel_rfl) ((hf 2 _ rfl).trans (List.getElem?_eq_getElem (by omega)))
  obtain ⟨v3, c3, t3⟩ := field_one (j := 3) (by omega) (show Tryd.prog.cellsOf 33 = 1 by kernel_rfl) ((hf 3 _ rfl).trans (List.getElem?_eq_getElem (by omega)))
  obtain ⟨v4, c4, t4⟩ := field_one (j := 4) (by omega) (show Tryd.prog.cellsOf 23 = 1 by kernel_rfl) ((hf 4 _ rfl).trans (List.getElem?_eq_getElem (by omega)))
  obtain ⟨v5, c5, t5⟩ := field_one (j := 5) (by omega) (show Tryd.prog.cellsOf 23 = 1 by kernel_rfl) ((hf 5 _ rfl).trans (List.getElem?_eq_getElem (by omega)))
  obtain ⟨op, rfl, w0⟩ := int_one Tryd.underlying3 t0
  obtain ⟨s, rfl, w1⟩ := str_one t1
  obtain ⟨n1, rfl, w2⟩ := int_one Tryd.underlying2 t2
  obtain ⟨v, l, e, w3⟩ := es_open k t3
  injection e with e _
  subst e
  obtain ⟨v, x', e, w4⟩ := ih k (by omega) t4
  injection e with e _
  subst e
  obtain ⟨v, y', e, w5⟩ := ih k (by omega) t5
  injection e with e _
  subst e
  exact ⟨op, s, n1, v3, l, v4, x', v5, y', list_six hl c0 c1 c2 c3 c4 c5, w3, w4, w5, w0, w2, w1⟩

theorem ss_open : ∀ (fuel : Nat) {cs : List Value} {x : DataW H × List MemPlace}, DataW.trod enc Tryd.prog W 0 sp held fuel 23 cs = some x → ∃ v l, cs = [v] ∧ SV W.heap.size W v l := by
  intro fuel
  induction fuel using Nat.strongRecOn with
  | ind fuel ih =>
    intro cs x h
    obtain ⟨A, n, cap, m, rfl, h1, h2, hm, _, hr⟩ := slice_in Tryd.underlying23 (show Tryd.prog.cellsOf 37 = 6 by kernel_rfl) (by decide) h
    by_cases hn : 0 < n
    · obtain ⟨b, o, rfl, hb, he⟩ := hr hn
      obtain ⟨l, hl, hi⟩ := ss_gather (W := W) (n := n) (b := b) (o := o) (fun i hi => by
        obtain ⟨cs', y, hl, hc, ht⟩ := he i hi
        obtain ⟨op, s, n1, v, l, vx, x', vy, y', rfl, h3, h4, h5, h6⟩ := stmt_open (fun m' hm' => ih m' (by omega)) ht
        exact ⟨op, s, n1, v, l, vx, x', vy, y', hc 0 (by decide), hc 1 (by decide), hc 2 (by decide), ⟨hc 3 (by decide), h3⟩, ⟨hc 4 (by decide), h4⟩, ⟨hc 5 (by decide), h5⟩, h6⟩) n (Nat.le_refl _)
      exact ⟨_, l, rfl, _, cap, by rw [hl], by rw [hl]; exact h1, h2, fun _ => ⟨b, o, rfl, hb, by simpa using hi⟩⟩
    · obtain rfl : n = 0 := by omega
      exact ⟨_, .nil, rfl, A, cap, rfl, Nat.zero_le _, h2, fun h => by simp [SS.len] at h⟩

theorem ps_gather {n b o : Nat} (h : ∀ i, i < n → ∃ s : ByteArray, W.cell? ⟨b, o + i, none⟩ = some (.string s) ∧ s.size ≤ 9223372036854775807) : ∀ j, j ≤ n → ∃ l : List ByteArray, l.length = j ∧ PsIn W l b (o + (n - j)) := by
  intro j
  induction j with
  | zero => exact fun _ => ⟨[], rfl, trivial⟩
  | succ j ih =>
    intro hj
    obtain ⟨r, hr, hi⟩ := ih (by omega)
    obtain ⟨s, h0, h1⟩ := h (n - (j + 1)) (by omega)
    exact ⟨s :: r, by simp [hr], h0, h1, by rw [show o + (n - (j + 1)) + 1 = o + (n - j) by omega]; exact hi⟩
theorem ps_open {fuel : Nat} {cs : List Value} {x : DataW H × List MemPlace} (h : DataW.trod enc Tryd.prog W 0 sp held fuel 52 cs = some x) : ∃ v l, cs = [v] ∧ RowV (PsIn W l) W.heap.size l.length v := by
  obtain ⟨A, n, cap, m, rfl, h1, h2, hm, _, hr⟩ := slice_in Tryd.underlying52 (show Tryd.prog.cellsOf 9 = 1 by kernel_rfl) (by decide) h
  by_cases hn : 0 < n
  · obtain ⟨b, o, rfl, hb, he⟩ := hr hn
    obtain ⟨l, hl, hi⟩ := ps_gather (W := W) (n := n) (b := b) (o := o) (fun i hi => by
      obtain ⟨cs', y, hl, hc, ht⟩ := he i hi
      match cs', hl with
      | [v], _ =>
        obtain ⟨s, rfl, hs⟩ := str_one ht
        exact ⟨s, by have := hc 0 (by decide); simpa using this, hs⟩) n (Nat.le_refl _)
    exact ⟨_, l, rfl, _, cap, by rw [hl], by rw [hl]; exact h1, h2, fun _ => ⟨b, o, rfl, hb, by simpa using hi⟩⟩
  · obtain rfl : n = 0 := by omega
    exact ⟨_, [], rfl, A, cap, rfl, Nat.zero_le _, h2, fun h => by simp at h⟩

/-- The cells of a function at a place. -/
def F1 (W : World) (b o : Nat) : Prop := ∃ (f : Fn) (v v' : Value), W.cell? ⟨b, o, none⟩ = some (.string f.s) ∧ (W.cell? ⟨b, o + 1, none⟩ = some v ∧ RowV (PsIn W f.ps) W.heap.size f.ps.length v) ∧ (W.cell? ⟨b, o + 2, none⟩ = some v' ∧ SV W.heap.size W v' f.b) ∧ f.s.size ≤ 9223372036854775807
theorem fs_gather {n b o : Nat} (h : ∀ i, i < n → F1 W b (o + i * 3)) : ∀ j, j ≤ n → ∃ l : List Fn, l.length = j ∧ FsIn W.heap.size W l b (o + (n - j) * 3) := by
  intro j
  induction j with
  | zero => exact fun _ => ⟨[], rfl, trivial⟩
  | succ j ih =>
    intro hj
    obtain ⟨r, hr, hi⟩ := ih (by omega)
    obtain ⟨f, v, v', h0, h1, h2, h3⟩ := h (n - (j + 1)) (by omega)
    exact ⟨f :: r, by simp [hr], h0, ⟨v, h1⟩, ⟨v', h2⟩, h3, by rw [show o + (n - (j + 1)) * 3 + 3 = o + (n - j) * 3 by omega]; exact hi⟩
theorem fs_open {fuel : Nat} {cs : List Value} {x : DataW H × List MemPlace} (h : DataW.trod enc Tryd.prog W 0 sp held fuel 22 cs = some x) : ∃ v l, cs = [v] ∧ FV W.heap.size W v l := by
  obtain ⟨A, n, cap, m, rfl, h1, h2, hm, _, hr⟩ := slice_in Tryd.underlying22 (show Tryd.prog.cellsOf 56 = 3 by kernel_rfl) (by decide) h
  by_cases hn : 0 < n
  · obtain ⟨b, o, rfl, hb, he⟩ := hr hn
    obtain ⟨l, hl, hi⟩ := fs_gather (W := W) (n := n) (b := b) (o := o) (fun i hi => by
      obtain ⟨cs', y, hl, hc, ht⟩ := he i hi
      obtain ⟨xs, k, hk, _, _, hxl, hf⟩ := DataW.trod_struct Tryd.underlying56 ht
      have hxl3 : xs.length = 3 := hxl
      obtain ⟨v0, c0, t0⟩ := field_one (j := 0) (by omega) (show Tryd.prog.cellsOf 9 = 1 by kernel_rfl) ((hf 0 _ rfl).trans (List.getElem?_eq_getElem (by omega)))
      obtain ⟨v1, c1, t1⟩ := field_one (j := 1) (by omega) (show Tryd.prog.cellsOf 52 = 1 by kernel_rfl) ((hf 1 _ rfl).trans (List.getElem?_eq_getElem (by omega)))
      obtain ⟨v2, c2, t2⟩ := field_one (j := 2) (by omega) (show Tryd.prog.cellsOf 23 = 1 by kernel_rfl) ((hf 2 _ rfl).trans (List.getElem?_eq_getElem (by omega)))
      obtain ⟨s, rfl, w0⟩ := str_one t0
      obtain ⟨v, ps, e, w1⟩ := ps_open t1
      injection e with e _
      subst e
      obtain ⟨v, l, e, w2⟩ := ss_open k t2
      injection e with e _
      subst e
      exact ⟨⟨s, ps, l⟩, v1, v2, by rw [← c0, ← hc 0 (by decide)]; rfl, ⟨by rw [← c1, ← hc 1 (by decide)], w1⟩, ⟨by rw [← c2, ← hc 2 (by decide)], w2⟩, w0⟩) n (Nat.le_refl _)
    exact ⟨_, l, rfl, _, cap, by rw [hl], by rw [hl]; exact h1, h2, fun _ => ⟨b, o, rfl, hb, by simpa using hi⟩⟩
  · obtain rfl : n = 0 := by omega
    exact ⟨_, [], rfl, A, cap, rfl, Nat.zero_le _, h2, fun h => by simp at h⟩

/-- A program that came in. -/
theorem open_prog {v : Value} {d : DataW H} {p : List MemPlace} {base : Nat} (hv : Value.okWide Tryd.prog W .any base 25 v) (h : DataW.Trod enc Tryd.prog W 0 sp held 25 v d p) : ∃ pg, PgV W.heap.size W v pg := by
  obtain ⟨cs, rfl, hsz⟩ := okWide_struct Tryd.underlying25 hv
  have hsz2 : cs.size = 2 := hsz.trans (by kernel_rfl)
  obtain ⟨fuel, hf⟩ := h
  obtain ⟨xs, k, hk, _, hlen, hxl, hf⟩ := DataW.trod_struct Tryd.underlying25 hf
  have hxl2 : xs.length = 2 := hxl
  have hcl : (Value.agg cs).cells.toList.length = 2 := hlen.trans (by kernel_rfl)
  obtain ⟨v0, c0, t0⟩ := field_one (j := 0) (by omega) (show Tryd.prog.cellsOf 22 = 1 by kernel_rfl) ((hf 0 _ rfl).trans (List.getElem?_eq_getElem (by omega)))
  obtain ⟨v1, c1, t1⟩ := field_one (j := 1) (by omega) (show Tryd.prog.cellsOf 23 = 1 by kernel_rfl) ((hf 1 _ rfl).trans (List.getElem?_eq_getElem (by omega)))
  obtain ⟨v, fs, e, w0⟩ := fs_open t0
  injection e with e _
  subst e
  obtain ⟨v, m, e, w1⟩ := ss_open k t1
  injection e with e _
  subst e
  obtain ⟨A, cap, rfl, _⟩ := id w0
  obtain ⟨A', cap', rfl, _⟩ := id w1
  have hcs : cs = #[.slice A fs.length cap, .slice A' m.len cap'] := by
    apply Array.ext'
    have h0 : cs.toList[0]? = some (.slice A fs.length cap) := c0
    have h1 : cs.toList[1]? = some (.slice A' m.len cap') := c1
    have hl : cs.toList.length = 2 := by simpa using hsz2
    match hh : cs.toList, hl with
    | [a, b], _ =>
      rw [hh] at h0 h1
      simp at h0 h1
      simp [h0, h1]
  exact ⟨⟨fs, m⟩, A, cap, A', cap', by rw [hcs], w0, w1⟩

end
end Go.Proofs.YtnilklgnpfgieaaDoor
