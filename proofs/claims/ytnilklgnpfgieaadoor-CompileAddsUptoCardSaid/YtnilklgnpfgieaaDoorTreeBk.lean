/-
  Programs that came in, counted: no more parts than the reading holds values.
-/
import Derived.Test.YtnilklgnpfgieaaDoorTreeA
namespace Go.Proofs.YtnilklgnpfgieaaDoor
open Go Go.ChangeShapes Go.WideShapes Go.ChangeAt Go.RowKit Go.Deep
set_option maxRecDepth 100000

theorem list2_of {α : Type} {xs : List α} (h : xs.length = 2) : ∃ a b, xs = [a, b] := by
  match xs, h with
  | [_, _], _ => exact ⟨_, _, rfl⟩
theorem list3_of {α : Type} {xs : List α} (h : xs.length = 3) : ∃ a b c, xs = [a, b, c] := by
  match xs, h with
  | [_, _, _], _ => exact ⟨_, _, _, rfl⟩
theorem list4_of {α : Type} {xs : List α} (h : xs.length = 4) : ∃ a b c d, xs = [a, b, c, d] := by
  match xs, h with
  | [_, _, _, _], _ => exact ⟨_, _, _, _, rfl⟩
theorem list6_of {α : Type} {xs : List α} (h : xs.length = 6) : ∃ a b c d e f, xs = [a, b, c, d, e, f] := by
  match xs, h with
  | [_, _, _, _, _, _], _ => exact ⟨_, _, _, _, _, _, rfl⟩

section
variable {H : Type} {enc : TypeId × Value → H} {W : World} {sp : Nat → Bool} {held : Bool}

theorem slice_inB {t e : TypeId} {c fuel : Nat} {cs : List Value} {x : DataW H × List MemPlace} (ht : Tryd.prog.underlying t = some (.slice e)) (hc : Tryd.prog.cellsOf e = c) (hc0 : 0 < c) (h : DataW.trod enc Tryd.prog W 0 sp held fuel t cs = some x) :
    ∃ (A : Option Addr) (n cap m : Nat) (ds : List (DataW H)), cs = [.slice A n cap] ∧ n ≤ cap ∧ cap ≤ 9223372036854775807 ∧ m < fuel ∧ ds.length = n ∧ Rows.uptoBulkAll ds ≤ Rows.uptoBulk x.1 ∧ (0 < n → ∃ b o, A = some ⟨b, o, none⟩ ∧ b < W.heap.size ∧
      ∀ (i : Nat) (d : DataW H), ds[i]? = some d → ∃ (cs' : List Value) (p : List MemPlace), cs'.length = c ∧ (∀ j, j < c → W.cell? ⟨b, o + i * c + j, none⟩ = cs'[j]?) ∧ DataW.trod enc Tryd.prog W 0 sp held m e cs' = some (d, p)) := by
  rcases DataW.trod_slice ht h with ⟨rfl, hx⟩ | ⟨a, len, cap, elems, rest, n, hf, rfl, hx, _, hl, hm, hlen, hel, _, _⟩
  · refine ⟨none, 0, 0, 0, [], rfl, Nat.le_refl _, by decide, ?_, rfl, by simp [Rows.uptoBulkAll], fun h => by omega⟩
    cases fuel with
    | zero => simp [DataW.trod] at h
    | succ n => omega
  · refine ⟨some a, len, cap, n, elems.map (·.1), rfl, hl, by unfold maxLen at hm; omega, by omega, by simpa using hlen, by rw [hx]; simp only [Rows.uptoBulk]; omega, fun hn => ?_⟩
    have one : ∀ (i : Nat) (d : DataW H), (elems.map (·.1))[i]? = some d → ∃ (cs' : List Value) (p : List MemPlace), cs'.length = c ∧ (∀ j, j < c → W.cell? ((a.add (i * c)).add j) = cs'[j]?) ∧ DataW.trod enc Tryd.prog W 0 sp held n e cs' = some (d, p) := by
      intro i d hi
      obtain ⟨y, hy, hyd⟩ : ∃ y, elems[i]? = some y ∧ y.1 = d := by
        rw [List.getElem?_map] at hi
        cases h : elems[i]? with
        | none => rw [h] at hi; cases hi
        | some y => rw [h] at hi; exact ⟨y, rfl, Option.some.inj hi⟩
      have hil : i < len := by rw [← hlen]; exact (List.getElem?_eq_some_iff.1 hy).1
      have h1 := hel i hil
      rw [hy, hc] at h1
      obtain ⟨cs', h2, h3⟩ := Option.bind_eq_some_iff.1 h1
      obtain ⟨_, h4, h5⟩ := World.cells?_some h2
      exact ⟨cs', y.2, h4, h5, by rw [h3, ← hyd]⟩
    obtain ⟨d0, hd0⟩ : ∃ d, (elems.map (·.1))[0]? = some d := ⟨_, List.getElem?_eq_getElem (by simp; omega)⟩
    obtain ⟨cs0, _, hl0, hc0', _⟩ := one 0 d0 hd0
    have hv0 := hc0' 0 hc0
    rw [List.getElem?_eq_getElem (by omega)] at hv0
    have hb := lt_of_cell hv0
    have hspot := World.cell?_spot hv0
    obtain ⟨b, o, spot⟩ := a
    simp [Addr.add] at hspot hb
    subst hspot
    refine ⟨b, o, rfl, hb, fun i d hi => ?_⟩
    obtain ⟨cs', p, h1, h2, h3⟩ := one i d hi
    refine ⟨cs', p, h1, fun j hj => ?_, h3⟩
    rw [← h2 j hj]
    congr 1
    unfold Addr.add
    split <;> split <;> simp_all

theorem es_gatherB {b : Nat} : ∀ (ds : List (DataW H)) (o : Nat), (∀ i d, ds[i]? = some d → ∃ op n s v l, W.cell? ⟨b, o + i * 4, none⟩ = some (.int .i64 op) ∧ W.cell? ⟨b, o + i * 4 + 1, none⟩ = some (.int .i64 n) ∧ W.cell? ⟨b, o + i * 4 + 2, none⟩ = some (.string s) ∧
      W.cell? ⟨b, o + i * 4 + 3, none⟩ = some v ∧ EV W.heap.size W v l ∧ (I64 op ∧ I64 n ∧ s.size ≤ 9223372036854775807) ∧ 1 + l.cnt ≤ Rows.uptoBulk d) → ∃ l : ES, l.len = ds.length ∧ l.In W.heap.size W b o ∧ l.cnt ≤ Rows.uptoBulkAll ds
  | [], _, _ => ⟨.nil, rfl, trivial, Nat.zero_le _⟩
  | d :: ds, o, h => by
    obtain ⟨r, hr, hi, hc⟩ := es_gatherB ds (o + 4) (fun i d hd => by
      have := h (i + 1) d (by simpa using hd)
      rwa [show o + (i + 1) * 4 = o + 4 + i * 4 by omega] at this)
    obtain ⟨op, n, s, v, l, h0, h1, h2, h3, h4, h5, h6⟩ := h 0 d rfl
    simp only [Nat.zero_mul, Nat.add_zero] at h0 h1 h2 h3
    exact ⟨.cons op n s l r, by simp [ES.len, hr], ⟨h0, h1, h2, ⟨v, h3, h4⟩, h5, hi⟩, by simp only [ES.cnt, Rows.uptoBulkAll]; omega⟩

theorem es_openB : ∀ (fuel : Nat) {cs : List Value} {x : DataW H × List MemPlace}, DataW.trod enc Tryd.prog W 0 sp held fuel 33 cs = some x → ∃ v l, cs = [v] ∧ EV W.heap.size W v l ∧ l.cnt ≤ Rows.uptoBulk x.1 := by
  intro fuel
  induction fuel using Nat.strongRecOn with
  | ind fuel ih =>
    intro cs x h
    obtain ⟨A, n, cap, m, ds, rfl, h1, h2, hm, hds, hbk, hr⟩ := slice_inB Tryd.underlying33 (show Tryd.prog.cellsOf 35 = 4 by kernel_rfl) (by decide) h
    by_cases hn : 0 < n
    · obtain ⟨b, o, rfl, hb, he⟩ := hr hn
      obtain ⟨l, hl, hi, hc⟩ := es_gatherB (W := W) (b := b) ds o (fun i d hd => by
        obtain ⟨cs', p, hl, hc, ht⟩ := he i d hd
        obtain ⟨xs, k, hk, hx, _, hxl, hf⟩ := DataW.trod_struct Tryd.underlying35 ht
        have hxl4 : xs.length = 4 := hxl
        obtain ⟨v0, c0, t0⟩ := field_one (j := 0) (by omega) (show Tryd.prog.cellsOf 3 = 1 by kernel_rfl) ((hf 0 _ rfl).trans (List.getElem?_eq_getElem (by omega)))
        obtain ⟨v1, c1, t1⟩ := field_one (j := 1) (by omega) (show Tryd.prog.cellsOf 2 = 1 by kernel_rfl) ((hf 1 _ rfl).trans (List.getElem?_eq_getElem (by omega)))
        obtain ⟨v2, c2, t2⟩ := field_one (j := 2) (by omega) (show Tryd.prog.cellsOf 9 = 1 by kernel_rfl) ((hf 2 _ rfl).trans (List.getElem?_eq_getElem (by omega)))
        obtain ⟨v3, c3, t3⟩ := field_one (j := 3) (by omega) (show Tryd.prog.cellsOf 33 = 1 by kernel_rfl) ((hf 3 _ rfl).trans (List.getElem?_eq_getElem (by omega)))
        obtain ⟨op, rfl, w0⟩ := int_one Tryd.underlying3 t0
        obtain ⟨n1, rfl, w1⟩ := int_one Tryd.underlying2 t1
        obtain ⟨s, rfl, w2⟩ := str_one t2
        obtain ⟨v, l, e, w3, w4⟩ := ih k (by omega) t3
        injection e with e _
        subst e
        refine ⟨op, n1, s, v3, l, by rw [← c0, ← hc 0 (by decide)]; rfl, by rw [← c1, ← hc 1 (by decide)], by rw [← c2, ← hc 2 (by decide)], by rw [← c3, ← hc 3 (by decide)], w3, ⟨w0, w1, w2⟩, ?_⟩
        have hd : d = .agg (xs.map (·.1)) := congrArg Prod.fst hx
        obtain ⟨y0, y1, y2, y3, rfl⟩ := list4_of hxl4
        rw [hd]
        have w4' : l.cnt ≤ Rows.uptoBulk y3.1 := w4
        simp only [List.map_cons, List.map_nil, Rows.uptoBulk, Rows.uptoBulkAll]
        omega)
      exact ⟨_, l, rfl, ⟨_, cap, by rw [hl, hds], by rw [hl, hds]; exact h1, h2, fun _ => ⟨b, o, rfl, hb, hi⟩⟩, by omega⟩
    · obtain rfl : n = 0 := by omega
      exact ⟨_, .nil, rfl, ⟨A, cap, rfl, Nat.zero_le _, h2, fun h => by simp [ES.len] at h⟩, Nat.zero_le _⟩

theorem ss_gatherB {b : Nat} : ∀ (ds : List (DataW H)) (o : Nat), (∀ i d, ds[i]? = some d → ∃ op s n v l vx x vy y, W.cell? ⟨b, o + i * 6, none⟩ = some (.int .i64 op) ∧ W.cell? ⟨b, o + i * 6 + 1, none⟩ = some (.string s) ∧ W.cell? ⟨b, o + i * 6 + 2, none⟩ = some (.int .i64 n) ∧
      (W.cell? ⟨b, o + i * 6 + 3, none⟩ = some v ∧ EV W.heap.size W v l) ∧ (W.cell? ⟨b, o + i * 6 + 4, none⟩ = some vx ∧ SV W.heap.size W vx x) ∧ (W.cell? ⟨b, o + i * 6 + 5, none⟩ = some vy ∧ SV W.heap.size W vy y) ∧ (I64 op ∧ I64 n ∧ s.size ≤ 9223372036854775807) ∧ 1 + (l.cnt + (x.cnt + y.cnt)) ≤ Rows.uptoBulk d) →
      ∃ l : SS, l.len = ds.length ∧ l.In W.heap.size W b o ∧ l.cnt ≤ Rows.uptoBulkAll ds
  | [], _, _ => ⟨.nil, rfl, trivial, Nat.zero_le _⟩
  | d :: ds, o, h => by
    obtain ⟨r, hr, hi, hc⟩ := ss_gatherB ds (o + 6) (fun i d hd => by
      have := h (i + 1) d (by simpa using hd)
      rwa [show o + (i + 1) * 6 = o + 6 + i * 6 by omega] at this)
    obtain ⟨op, s, n, v, l, vx, x, vy, y, h0, h1, h2, h3, h4, h5, h6, h7⟩ := h 0 d rfl
    simp only [Nat.zero_mul, Nat.add_zero] at h0 h1 h2 h3 h4 h5
    exact ⟨.cons op s n l x y r, by simp [SS.len, hr], ⟨h0, h1, h2, ⟨v, h3⟩, ⟨vx, h4⟩, ⟨vy, h5⟩, h6, hi⟩, by simp only [SS.cnt, Rows.uptoBulkAll]; omega⟩

theorem ss_openB : ∀ (fuel : Nat) {cs : List Value} {x : DataW H × List MemPlace}, DataW.trod enc Tryd.prog W 0 sp held fuel 23 cs = some x → ∃ v l, cs = [v] ∧ SV W.heap.size W v l ∧ l.cnt ≤ Rows.uptoBulk x.1 := by
  intro fuel
  induction fuel using Nat.strongRecOn with
  | ind fuel ih =>
    intro cs x h
    obtain ⟨A, n, cap, m, ds, rfl, h1, h2, hm, hds, hbk, hr⟩ := slice_inB Tryd.underlying23 (show Tryd.prog.cellsOf 37 = 6 by kernel_rfl) (by decide) h
    by_cases hn : 0 < n
    · obtain ⟨b, o, rfl, hb, he⟩ := hr hn
      obtain ⟨l, hl, hi, hc⟩ := ss_gatherB (W := W) (b := b) ds o (fun i d hd => by
        obtain ⟨cs', p, hl, hc, ht⟩ := he i d hd
        obtain ⟨xs, k, hk, hx, _, hxl, hf⟩ := DataW.trod_struct Tryd.underlying37 ht
        have hxl6 : xs.length = 6 := hxl
        obtain ⟨v0, c0, t0⟩ := field_one (j := 0) (by omega) (show Tryd.prog.cellsOf 3 = 1 by kernel_rfl) ((hf 0 _ rfl).trans (List.getElem?_eq_getElem (by omega)))
        obtain ⟨v1, c1, t1⟩ := field_one (j := 1) (by omega) (show Tryd.prog.cellsOf 9 = 1 by kernel_rfl) ((hf 1 _ rfl).trans (List.getElem?_eq_getElem (by omega)))
        obtain ⟨v2, c2, t2⟩ := field_one (j := 2) (by omega) (show Tryd.prog.cellsOf 2 = 1 by kernel_rfl) ((hf 2 _ rfl).trans (List.getElem?_eq_getElem (by omega)))
        obtain ⟨v3, c3, t3⟩ := field_one (j := 3) (by omega) (show Tryd.prog.cellsOf 33 = 1 by kernel_rfl) ((hf 3 _ rfl).trans (List.getElem?_eq_getElem (by omega)))
        obtain ⟨v4, c4, t4⟩ := field_one (j := 4) (by omega) (show Tryd.prog.cellsOf 23 = 1 by kernel_rfl) ((hf 4 _ rfl).trans (List.getElem?_eq_getElem (by omega)))
        obtain ⟨v5, c5, t5⟩ := field_one (j := 5) (by omega) (show Tryd.prog.cellsOf 23 = 1 by kernel_rfl) ((hf 5 _ rfl).trans (List.getElem?_eq_getElem (by omega)))
        obtain ⟨op, rfl, w0⟩ := int_one Tryd.underlying3 t0
        obtain ⟨s, rfl, w1⟩ := str_one t1
        obtain ⟨n1, rfl, w2⟩ := int_one Tryd.underlying2 t2
        obtain ⟨v, l, e, w3, w3c⟩ := es_openB k t3
        injection e with e _
        subst e
        obtain ⟨v, x', e, w4, w4c⟩ := ih k (by omega) t4
        injection e with e _
        subst e
        obtain ⟨v, y', e, w5, w5c⟩ := ih k (by omega) t5
        injection e with e _
        subst e
        refine ⟨op, s, n1, v3, l, v4, x', v5, y', by rw [← c0, ← hc 0 (by decide)]; rfl, by rw [← c1, ← hc 1 (by decide)], by rw [← c2, ← hc 2 (by decide)], ⟨by rw [← c3, ← hc 3 (by decide)], w3⟩, ⟨by rw [← c4, ← hc 4 (by decide)], w4⟩, ⟨by rw [← c5, ← hc 5 (by decide)], w5⟩, ⟨w0, w2, w1⟩, ?_⟩
        have hd : d = .agg (xs.map (·.1)) := congrArg Prod.fst hx
        obtain ⟨y0, y1, y2, y3, y4, y5, rfl⟩ := list6_of hxl6
        rw [hd]
        have q3 : l.cnt ≤ Rows.uptoBulk y3.1 := w3c
        have q4 : x'.cnt ≤ Rows.uptoBulk y4.1 := w4c
        have q5 : y'.cnt ≤ Rows.uptoBulk y5.1 := w5c
        simp only [List.map_cons, List.map_nil, Rows.uptoBulk, Rows.uptoBulkAll]
        omega)
      exact ⟨_, l, rfl, ⟨_, cap, by rw [hl, hds], by rw [hl, hds]; exact h1, h2, fun _ => ⟨b, o, rfl, hb, hi⟩⟩, by omega⟩
    · obtain rfl : n = 0 := by omega
      exact ⟨_, .nil, rfl, ⟨A, cap, rfl, Nat.zero_le _, h2, fun h => by simp [SS.len] at h⟩, Nat.zero_le _⟩

theorem fs_gatherB {b : Nat} : ∀ (ds : List (DataW H)) (o : Nat), (∀ i d, ds[i]? = some d → ∃ (f : Fn) (v v' : Value), W.cell? ⟨b, o + i * 3, none⟩ = some (.string f.s) ∧ (W.cell? ⟨b, o + i * 3 + 1, none⟩ = some v ∧ RowV (PsIn W f.ps) W.heap.size f.ps.length v) ∧ (W.cell? ⟨b, o + i * 3 + 2, none⟩ = some v' ∧ SV W.heap.size W v' f.b) ∧ f.s.size ≤ 9223372036854775807 ∧ f.b.cnt ≤ Rows.uptoBulk d) →
      ∃ l : List Fn, l.length = ds.length ∧ FsIn W.heap.size W l b o ∧ cntL (fsPts l) ≤ Rows.uptoBulkAll ds
  | [], _, _ => ⟨[], rfl, trivial, Nat.zero_le _⟩
  | d :: ds, o, h => by
    obtain ⟨r, hr, hi, hc⟩ := fs_gatherB ds (o + 3) (fun i d hd => by
      have := h (i + 1) d (by simpa using hd)
      rwa [show o + (i + 1) * 3 = o + 3 + i * 3 by omega] at this)
    obtain ⟨f, v, v', h0, h1, h2, h3, h4⟩ := h 0 d rfl
    simp only [Nat.zero_mul, Nat.add_zero] at h0 h1 h2
    exact ⟨f :: r, by simp [hr], ⟨h0, ⟨v, h1⟩, ⟨v', h2⟩, h3, hi⟩, by simp only [fsPts, cntL_append, SS.cntL, Rows.uptoBulkAll]; omega⟩

theorem fs_openB {fuel : Nat} {cs : List Value} {x : DataW H × List MemPlace} (h : DataW.trod enc Tryd.prog W 0 sp held fuel 22 cs = some x) : ∃ v l, cs = [v] ∧ FV W.heap.size W v l ∧ cntL (fsPts l) ≤ Rows.uptoBulk x.1 := by
  obtain ⟨A, n, cap, m, ds, rfl, h1, h2, hm, hds, hbk, hr⟩ := slice_inB Tryd.underlying22 (show Tryd.prog.cellsOf 56 = 3 by kernel_rfl) (by decide) h
  by_cases hn : 0 < n
  · obtain ⟨b, o, rfl, hb, he⟩ := hr hn
    obtain ⟨l, hl, hi, hc⟩ := fs_gatherB (W := W) (b := b) ds o (fun i d hd => by
      obtain ⟨cs', p, hl, hc, ht⟩ := he i d hd
      obtain ⟨xs, k, hk, hx, _, hxl, hf⟩ := DataW.trod_struct Tryd.underlying56 ht
      have hxl3 : xs.length = 3 := hxl
      obtain ⟨v0, c0, t0⟩ := field_one (j := 0) (by omega) (show Tryd.prog.cellsOf 9 = 1 by kernel_rfl) ((hf 0 _ rfl).trans (List.getElem?_eq_getElem (by omega)))
      obtain ⟨v1, c1, t1⟩ := field_one (j := 1) (by omega) (show Tryd.prog.cellsOf 52 = 1 by kernel_rfl) ((hf 1 _ rfl).trans (List.getElem?_eq_getElem (by omega)))
      obtain ⟨v2, c2, t2⟩ := field_one (j := 2) (by omega) (show Tryd.prog.cellsOf 23 = 1 by kernel_rfl) ((hf 2 _ rfl).trans (List.getElem?_eq_getElem (by omega)))
      obtain ⟨s, rfl, w0⟩ := str_one t0
      obtain ⟨v, ps, e, w1⟩ := ps_open t1
      injection e with e _
      subst e
      obtain ⟨v, l, e, w2, w2c⟩ := ss_openB k t2
      injection e with e _
      subst e
      refine ⟨⟨s, ps, l⟩, v1, v2, by rw [← c0, ← hc 0 (by decide)]; rfl, ⟨by rw [← c1, ← hc 1 (by decide)], w1⟩, ⟨by rw [← c2, ← hc 2 (by decide)], w2⟩, w0, ?_⟩
      have hd : d = .agg (xs.map (·.1)) := congrArg Prod.fst hx
      obtain ⟨y0, y1, y2, rfl⟩ := list3_of hxl3
      rw [hd]
      have q2 : l.cnt ≤ Rows.uptoBulk y2.1 := w2c
      simp only [List.map_cons, List.map_nil, Rows.uptoBulk, Rows.uptoBulkAll]
      omega)
    exact ⟨_, l, rfl, ⟨_, cap, by rw [hl, hds], by rw [hl, hds]; exact h1, h2, fun _ => ⟨b, o, rfl, hb, hi⟩⟩, by omega⟩
  · obtain rfl : n = 0 := by omega
    exact ⟨_, [], rfl, ⟨A, cap, rfl, Nat.zero_le _, h2, fun h => by simp at h⟩, Nat.zero_le _⟩

/-- A program that came in: its two slices; how much it holds. -/
theorem open_progB {v : Value} {d : DataW H} {p : List MemPlace} {base : Nat} (hv : Value.okWide Tryd.prog W .any base 25 v) (h : DataW.Trod enc Tryd.prog W 0 sp held 25 v d p) :
    ∃ (pg : Pg) (A : Option Addr) (cap : Nat) (A' : Option Addr) (cap' : Nat), v = .agg #[.slice A pg.fs.length cap, .slice A' pg.m.len cap'] ∧ FV W.heap.size W (.slice A pg.fs.length cap) pg.fs ∧ SV W.heap.size W (.slice A' pg.m.len cap') pg.m ∧ cntL pg.pts ≤ Rows.uptoBulk d := by
  obtain ⟨cs, rfl, hsz⟩ := okWide_struct Tryd.underlying25 hv
  have hsz2 : cs.size = 2 := hsz.trans (by kernel_rfl)
  obtain ⟨fuel, hf⟩ := h
  obtain ⟨xs, k, hk, hx, hlen, hxl, hf⟩ := DataW.trod_struct Tryd.underlying25 hf
  have hxl2 : xs.length = 2 := hxl
  have hcl : (Value.agg cs).cells.toList.length = 2 := hlen.trans (by kernel_rfl)
  obtain ⟨v0, c0, t0⟩ := field_one (j := 0) (by omega) (show Tryd.prog.cellsOf 22 = 1 by kernel_rfl) ((hf 0 _ rfl).trans (List.getElem?_eq_getElem (by omega)))
  obtain ⟨v1, c1, t1⟩ := field_one (j := 1) (by omega) (show Tryd.prog.cellsOf 23 = 1 by kernel_rfl) ((hf 1 _ rfl).trans (List.getElem?_eq_getElem (by omega)))
  obtain ⟨v, fs, e, w0, w0c⟩ := fs_openB t0
  injection e with e _
  subst e
  obtain ⟨v, m, e, w1, w1c⟩ := ss_openB k t1
  injection e with e _
  subst e
  obtain ⟨A, cap, rfl, _⟩ := id w0
  obtain ⟨A', cap', rfl, _⟩ := id w1
  have hcs : cs = #[.slice A fs.length cap, .slice A' m.len cap'] := by
    apply Array.ext'
    have h0 : cs.toList[0]? = some (.slice A fs.length cap) := c0
    have h1 : cs.toList[1]? = some (.slice A' m.len cap') := c1
    have hl : cs.toList.length = 2 := by simpa using hsz2
    match hh : cs.toList, hl with
    | [a, b], _ =>
      rw [hh] at h0 h1
      simp at h0 h1
      simp [h0, h1]
  refine ⟨⟨fs, m⟩, A, cap, A', cap', by rw [hcs], w0, w1, ?_⟩
  have hd : d = .agg (xs.map (·.1)) := congrArg Prod.fst hx
  obtain ⟨y0, y1, rfl⟩ := list2_of hxl2
  rw [hd]
  simp only [Pg.pts, cntL_append, SS.cntL]
  have q0 : cntL (fsPts fs) ≤ Rows.uptoBulk y0.1 := w0c
  have q1 : m.cnt ≤ Rows.uptoBulk y1.1 := w1c
  simp only [List.map_cons, List.map_nil, Rows.uptoBulk, Rows.uptoBulkAll]
  omega

end
end Go.Proofs.YtnilklgnpfgieaaDoor
