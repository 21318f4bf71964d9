/-
  Texts TreeLaid TreeA TreeBk: put together.
-/
import Derived.Test.YtaajolemjgdfnaaDoorTreeG
import Derived.Test.YtaajolemjgdfnaaDoorRows
import Derived.ProofKit
import Derived.LaidMore
import Derived.OpenShut
import Derived.Carry
import Derived.SizedLaws
import Derived.ChangeMaps5
import Derived.Lib.LaidTab
import Derived.Stop.LaidErr
import Derived.Stop.Joined
import Derived.Deep.Fields
import Derived.Deep.Slices
/-
  What the rows' listed variables give a walk: the two tables of what an op has; a start that meets the list.
-/
namespace Go.Proofs.YtaajolemjgdfnaaDoor
open Go Go.ChangeShapes Go.WideShapes Go.ChangeAt Go.RowKit Go.Deep
set_option maxRecDepth 100000

theorem own : ownKnob Tryd.prog.godebug = none := by kernel_rfl
theorem laidOut : laidOutB Tryd.prog = true := by kernel_rfl

/-- The listed variables, as every row of this seat lists them. -/
abbrev laid2 : List (String × DataW Unit) := [("evenhand/tree.ofExprs", Rows.laid_evenhand_tree_ofExprs), ("evenhand/tree.ofStmts", Rows.laid_evenhand_tree_ofStmts)]

theorem door_met (os : Os) (args : Array Value) : laidMetH Tryd.prog laid2 ((World.doorLaid Tryd.prog 44 os).forCall (fun _ _ => 0) ⟨#[], args, []⟩).memory :=
  laidMetH_of_parts3 (fuel := 8) (laidMet_of_run' 8 (by kernel_rfl) (by kernel_rfl)) (by kernel_rfl) (by kernel_rfl)

/-- The datum of a row of a table. -/
def Sh.dat {H : Type} (s : Sh) : DataW H := .agg [.lit (.bool s.name), .lit (.int .i64 s.low), .lit (.int .i64 s.high), .lit (.int .i64 s.least), .lit (.int .i64 s.most), .lit (.bool s.body), .lit (.bool s.other)]
theorem exprs_dat {H : Type} : (Rows.laid_evenhand_tree_ofExprs : DataW H) = .agg (exprT.map Sh.dat) := rfl
theorem stmts_dat {H : Type} : (Rows.laid_evenhand_tree_ofStmts : DataW H) = .agg (stmtT.map Sh.dat) := rfl

theorem cell_bool {H : Type} {enc : TypeId × Value → H} {w : World} {base : Nat} {sp : Nat → Bool} {held : Bool} {fuel : Nat} {cs : List Value} {b : Bool} {p : List MemPlace}
    (h : DataW.trod enc Tryd.prog w base sp held fuel 4 cs = some (.lit (.bool b), p)) : cs = [.bool b] := by
  obtain ⟨b', rfl, e⟩ := DataW.trod_bool Tryd.underlying4 h
  simp only [Prod.mk.injEq, DataW.lit.injEq, Lit.bool.injEq] at e
  rw [e.1]
theorem cell_int {H : Type} {enc : TypeId × Value → H} {w : World} {base : Nat} {sp : Nat → Bool} {held : Bool} {fuel : Nat} {cs : List Value} {t : TypeId} (ht : Tryd.prog.underlying t = some (.int .i64)) {n : Int} {p : List MemPlace}
    (h : DataW.trod enc Tryd.prog w base sp held fuel t cs = some (.lit (.int .i64 n), p)) : cs = [.int .i64 n] := by
  obtain ⟨n', rfl, e, _⟩ := DataW.trod_int ht h
  simp only [Prod.mk.injEq, DataW.lit.injEq, Lit.int.injEq, true_and] at e
  rw [e.1]

theorem one_at {cs : List Value} {j : Nat} {v : Value} (h : (cs.drop j).take 1 = [v]) : cs[j]? = some v := by
  have := congrArg (·[0]?) h
  simpa [List.getElem?_take, List.getElem?_drop] using this

theorem two_of {α : Type} {xs : List (α × List MemPlace)} {l : List α} (h : xs.map (·.1) = l) (j : Nat) (d : α) (hd : l[j]? = some d) : ∃ p, xs[j]? = some (d, p) := by
  rw [← h, List.getElem?_map] at hd
  cases hx : xs[j]? with
  | none => rw [hx] at hd; cases hd
  | some x => rw [hx] at hd; simp only [Option.map_some, Option.some.injEq] at hd; exact ⟨x.2, by rw [← hd]⟩

/-- A row of a table, cell by cell. -/
theorem row_cells {H : Type} {enc : TypeId × Value → H} {w : World} {base : Nat} {sp : Nat → Bool} {held : Bool} {fuel : Nat} {cs : List Value} {s : Sh} {p : List MemPlace}
    (h : DataW.trod enc Tryd.prog w base sp held fuel 108 cs = some (s.dat, p)) : ∀ j, j < 7 → cs[j]? = s.cells[j]? := by
  obtain ⟨xs, n, _, hx, _, hxl, hf⟩ := DataW.trod_struct Tryd.underlying108 h
  have hx1 : xs.map (·.1) = [.lit (.bool s.name), .lit (.int .i64 s.low), .lit (.int .i64 s.high), .lit (.int .i64 s.least), .lit (.int .i64 s.most), .lit (.bool s.body), .lit (.bool s.other)] := by
    have := congrArg Prod.fst hx
    simpa [Sh.dat] using this.symm
  have kb : Tryd.prog.cellsOf 4 = 1 := by kernel_rfl
  have ki : Tryd.prog.cellsOf 2 = 1 := by kernel_rfl
  have kn : Tryd.prog.cellsOf 3 = 1 := by kernel_rfl
  have h0 : DataW.trod enc Tryd.prog w base sp held n 4 ((cs.drop 0).take (Tryd.prog.cellsOf 4)) = xs[0]? := hf 0 _ rfl
  rw [kb] at h0
  obtain ⟨p0, q0⟩ := two_of hx1 0 _ rfl
  rw [q0] at h0
  have c0 := one_at (cell_bool h0)
  have h1 : DataW.trod enc Tryd.prog w base sp held n 2 ((cs.drop 1).take (Tryd.prog.cellsOf 2)) = xs[1]? := hf 1 _ rfl
  rw [ki] at h1
  obtain ⟨p1, q1⟩ := two_of hx1 1 _ rfl
  rw [q1] at h1
  have c1 := one_at (cell_int Tryd.underlying2 h1)
  have h2 : DataW.trod enc Tryd.prog w base sp held n 2 ((cs.drop 2).take (Tryd.prog.cellsOf 2)) = xs[2]? := hf 2 _ rfl
  rw [ki] at h2
  obtain ⟨p2, q2⟩ := two_of hx1 2 _ rfl
  rw [q2] at h2
  have c2 := one_at (cell_int Tryd.underlying2 h2)
  have h3 : DataW.trod enc Tryd.prog w base sp held n 3 ((cs.drop 3).take (Tryd.prog.cellsOf 3)) = xs[3]? := hf 3 _ rfl
  rw [kn] at h3
  obtain ⟨p3, q3⟩ := two_of hx1 3 _ rfl
  rw [q3] at h3
  have c3 := one_at (cell_int Tryd.underlying3 h3)
  have h4 : DataW.trod enc Tryd.prog w base sp held n 3 ((cs.drop 4).take (Tryd.prog.cellsOf 3)) = xs[4]? := hf 4 _ rfl
  rw [kn] at h4
  obtain ⟨p4, q4⟩ := two_of hx1 4 _ rfl
  rw [q4] at h4
  have c4 := one_at (cell_int Tryd.underlying3 h4)
  have h5 : DataW.trod enc Tryd.prog w base sp held n 4 ((cs.drop 5).take (Tryd.prog.cellsOf 4)) = xs[5]? := hf 5 _ rfl
  rw [kb] at h5
  obtain ⟨p5, q5⟩ := two_of hx1 5 _ rfl
  rw [q5] at h5
  have c5 := one_at (cell_bool h5)
  have h6 : DataW.trod enc Tryd.prog w base sp held n 4 ((cs.drop 6).take (Tryd.prog.cellsOf 4)) = xs[6]? := hf 6 _ rfl
  rw [kb] at h6
  obtain ⟨p6, q6⟩ := two_of hx1 6 _ rfl
  rw [q6] at h6
  have c6 := one_at (cell_bool h6)
  intro j hj
  match j, hj with
  | 0, _ => exact c0
  | 1, _ => exact c1
  | 2, _ => exact c2
  | 3, _ => exact c3
  | 4, _ => exact c4
  | 5, _ => exact c5
  | 6, _ => exact c6

/-- A table, cell by cell. -/
theorem tab_cells {H : Type} {enc : TypeId × Value → H} {w : World} {base : Nat} {sp : Nat → Bool} {held : Bool} {fuel : Nat} {t : TypeId} {n : Nat} {cs : List Value} {l : List Sh} {p : List MemPlace} (ht : Tryd.prog.underlying t = some (.array n 108)) (hct : Tryd.prog.cellsOf t = n * 7)
    (h : DataW.trod enc Tryd.prog w base sp held fuel t cs = some (.agg (l.map Sh.dat), p)) : ∀ k j, k < l.length → j < 7 → cs[k * 7 + j]? = (l.getD k sh0).cells[j]? := by
  have hce : Tryd.prog.cellsOf 108 = 7 := by kernel_rfl
  cases fuel with
  | zero => simp [DataW.trod] at h
  | succ fuel =>
    simp only [DataW.trod, ht, hce, hct] at h
    split at h
    · rename_i hl
      obtain ⟨xs, hm, hx⟩ := Option.map_eq_some_iff.1 h
      have hxs : xs.map (·.1) = l.map Sh.dat := by
        have := congrArg Prod.fst hx
        simpa using this
      have hxl : xs.length = n := by simpa using Lib.mapM_length hm
      have hll : l.length = n := by
        have := congrArg List.length hxs
        simp at this
        omega
      intro k j hk hj
      obtain ⟨b, hb, hf⟩ := Lib.mapM_at hm k k (by rw [List.getElem?_range (by omega)])
      obtain ⟨p', hp'⟩ := two_of hxs k (Sh.dat (l.getD k sh0)) (by rw [List.getElem?_map, List.getD_eq_getElem?_getD, List.getElem?_eq_getElem hk]; rfl)
      have hb2 : b = (Sh.dat (l.getD k sh0), p') := Option.some.inj (hb.symm.trans hp')
      rw [hb2] at hf
      have := row_cells hf j hj
      rw [← this, List.getElem?_take_of_lt hj, List.getElem?_drop]
    · cases h

theorem tabAt_of {W : World} {name : String} {l : List Sh} {rest : List (String × DataW Unit)} {g : Nat} {t : TypeId} {n : Nat} (hg : Tryd.prog.globalNamed name = some g) (hty : (Tryd.prog.globals[g]?).map (·.type) = some t) (ht : Tryd.prog.underlying t = some (.array n 108)) (hct : Tryd.prog.cellsOf t = n * 7)
    (h : laidMet Tryd.prog ((name, .agg (l.map Sh.dat)) :: rest) W) : TabAt W g l := by
  obtain ⟨ps, ⟨g', t', cs, fuel, p, q, hg', ht', hvar, hd, _, _⟩, _⟩ := h
  obtain rfl := Option.some.inj (hg.symm.trans hg')
  obtain rfl := Option.some.inj (hty.symm.trans ht')
  have hc := tab_cells ht hct hd
  intro k hk
  have cell : ∀ j v, j < 7 → (l.getD k sh0).cells[j]? = some v → W.cell? ⟨g, k * 7 + j, none⟩ = some v := fun j v hj hv => by
    rw [World.var?_cell hg hvar (k * 7 + j)]
    have := hc k j hk hj
    rw [hv] at this
    simpa using this
  exact ⟨cell 0 _ (by decide) rfl, cell 1 _ (by decide) rfl, cell 2 _ (by decide) rfl, cell 3 _ (by decide) rfl, cell 4 _ (by decide) rfl, cell 5 _ (by decide) rfl, cell 6 _ (by decide) rfl⟩

theorem tab_of_laid {W : World} (h : laidMetH Tryd.prog laid2 W) : Tab W := by
  rw [MakeChecks.laidMetH_plain _ _ _ (by kernel_rfl)] at h
  have hE : TabAt W 1 exprT := tabAt_of (by kernel_rfl) (by kernel_rfl) Tryd.underlying120 (by kernel_rfl) h
  have hS : TabAt W 0 stmtT := tabAt_of (by kernel_rfl) (by kernel_rfl) Tryd.underlying119 (by kernel_rfl) h.tail
  refine ⟨?_, hS, hE⟩
  have c := (hE 0 (by decide)).1
  rcases Nat.lt_or_ge 1 W.heap.size with h' | h'
  · exact h'
  · simp [World.cell?, Array.getElem?_eq_none h'] at c

theorem i64_of_wf {n : Int} (h : (Lit.int .i64 n).wf = true) : I64 n := by
  have e1 : IntKind.i64.min = -9223372036854775808 := rfl
  have e2 : IntKind.i64.max = 9223372036854775807 := rfl
  simp [Lit.wf, e1, e2] at h
  exact h
theorem u8_of_wf {n : Int} (h : (Lit.int .u8 n).wf = true) : 0 ≤ n ∧ n ≤ 255 := by
  have e1 : IntKind.u8.min = 0 := rfl
  have e2 : IntKind.u8.max = 255 := rfl
  simp [Lit.wf, e1, e2] at h
  exact h

end Go.Proofs.YtaajolemjgdfnaaDoor

/-
  From a statement's arguments to the walk's words: expressions, statements, functions, programs that came in.
-/
namespace Go.Proofs.YtaajolemjgdfnaaDoor
open Go Go.ChangeShapes Go.WideShapes Go.ChangeAt Go.RowKit Go.Deep
set_option maxRecDepth 100000

theorem lt_of_cell {W : World} {a : Addr} {v : Value} (h : W.cell? a = some v) : a.block < W.heap.size := by
  rcases Nat.lt_or_ge a.block W.heap.size with h' | h'
  · exact h'
  · simp [World.cell?, Array.getElem?_eq_none h'] at h

section
variable {H : Type} {enc : TypeId × Value → H} {W : World} {sp : Nat → Bool} {held : Bool}

/-- One field of one cell of a struct's reading. -/
theorem field_one {cs : List Value} {n j : Nat} {t : TypeId} {x : DataW H × List MemPlace} (hlen : j < cs.length) (h1 : Tryd.prog.cellsOf t = 1) (h : DataW.trod enc Tryd.prog W 0 sp held n t ((cs.drop j).take (Tryd.prog.cellsOf t)) = some x) :
    ∃ v, cs[j]? = some v ∧ DataW.trod enc Tryd.prog W 0 sp held n t [v] = some x := by
  rw [h1, List.drop_eq_getElem_cons hlen] at h
  exact ⟨cs[j], List.getElem?_eq_getElem hlen, h⟩

theorem str_one {n : Nat} {v : Value} {x : DataW H × List MemPlace} (h : DataW.trod enc Tryd.prog W 0 sp held n 9 [v] = some x) : ∃ s : ByteArray, v = .string s ∧ s.size ≤ 9223372036854775807 := by
  obtain ⟨s, e, _, hm⟩ := DataW.trod_string Tryd.underlying9 h
  injection e with e _
  exact ⟨s, e, by unfold maxLen at hm; omega⟩
theorem int_one {n : Nat} {t : TypeId} (ht : Tryd.prog.underlying t = some (.int .i64)) {v : Value} {x : DataW H × List MemPlace} (h : DataW.trod enc Tryd.prog W 0 sp held n t [v] = some x) : ∃ k : Int, v = .int .i64 k ∧ I64 k := by
  obtain ⟨k, e, _, hm⟩ := DataW.trod_int ht h
  injection e with e _
  exact ⟨k, e, i64_of_wf hm⟩

/-- A slice that came in: its elements' cells. -/
theorem slice_in {t e : TypeId} {c fuel : Nat} {cs : List Value} {x : DataW H × List MemPlace} (ht : Tryd.prog.underlying t = some (.slice e)) (hc : Tryd.prog.cellsOf e = c) (hc0 : 0 < c) (h : DataW.trod enc Tryd.prog W 0 sp held fuel t cs = some x) :
    ∃ A n cap m, cs = [.slice A n cap] ∧ n ≤ cap ∧ cap ≤ 9223372036854775807 ∧ m < fuel ∧ (A = none → n = 0) ∧ (0 < n → ∃ b o, A = some ⟨b, o, none⟩ ∧ b < W.heap.size ∧
      ∀ i, i < n → ∃ (cs' : List Value) (y : DataW H × List MemPlace), cs'.length = c ∧ (∀ j, j < c → W.cell? ⟨b, o + i * c + j, none⟩ = cs'[j]?) ∧ DataW.trod enc Tryd.prog W 0 sp held m e cs' = some y) := by
  rcases DataW.trod_slice ht h with ⟨rfl, _⟩ | ⟨a, len, cap, elems, rest, n, hf, rfl, _, _, hl, hm, hlen, hel, _, _⟩
  · refine ⟨none, 0, 0, 0, rfl, Nat.le_refl _, by decide, ?_, fun _ => rfl, fun h => by omega⟩
    cases fuel with
    | zero => simp [DataW.trod] at h
    | succ n => omega
  · refine ⟨some a, len, cap, n, rfl, hl, by unfold maxLen at hm; omega, by omega, (fun h => by cases h), fun hn => ?_⟩
    have one : ∀ i, i < len → ∃ (cs' : List Value) (y : DataW H × List MemPlace), cs'.length = c ∧ (∀ j, j < c → W.cell? ((a.add (i * c)).add j) = cs'[j]?) ∧ DataW.trod enc Tryd.prog W 0 sp held n e cs' = some y := by
      intro i hi
      have h1 := hel i hi
      rw [List.getElem?_eq_getElem (by omega), hc] at h1
      obtain ⟨cs', h2, h3⟩ := Option.bind_eq_some_iff.1 h1
      obtain ⟨_, h4, h5⟩ := World.cells?_some h2
      exact ⟨cs', _, h4, h5, h3⟩
    obtain ⟨cs0, _, hl0, hc0', _⟩ := one 0 hn
    have hv0 := hc0' 0 hc0
    rw [List.getElem?_eq_getElem (by omega)] at hv0
    have hb := lt_of_cell hv0
    have hspot := World.cell?_spot hv0
    obtain ⟨b, o, spot⟩ := a
    simp [Addr.add] at hspot hb
    subst hspot
    refine ⟨b, o, rfl, hb, fun i hi => ?_⟩
    obtain ⟨cs', y, h1, h2, h3⟩ := one i hi
    refine ⟨cs', y, h1, fun j hj => ?_, h3⟩
    rw [← h2 j hj]
    congr 1
    unfold Addr.add
    split <;> split <;> simp_all

/-- The cells of an expression at a place. -/
def E1 (W : World) (b o : Nat) : Prop := ∃ op n s v l, W.cell? ⟨b, o, none⟩ = some (.int .i64 op) ∧ W.cell? ⟨b, o + 1, none⟩ = some (.int .i64 n) ∧ W.cell? ⟨b, o + 2, none⟩ = some (.string s) ∧
  W.cell? ⟨b, o + 3, none⟩ = some v ∧ EV W.heap.size W v l ∧ (I64 op ∧ I64 n ∧ s.size ≤ 9223372036854775807)
theorem es_gather {n b o : Nat} (h : ∀ i, i < n → E1 W b (o + i * 4)) : ∀ j, j ≤ n → ∃ l : ES, l.len = j ∧ l.In W.heap.size W b (o + (n - j) * 4) := by
  intro j
  induction j with
  | zero => exact fun _ => ⟨.nil, rfl, trivial⟩
  | succ j ih =>
    intro hj
    obtain ⟨r, hr, hi⟩ := ih (by omega)
    obtain ⟨op, n1, s, v, l, h0, h1, h2, h3, h4, h5⟩ := h (n - (j + 1)) (by omega)
    exact ⟨.cons op n1 s l r, by simp [ES.len, hr], h0, h1, h2, ⟨v, h3, h4⟩, h5, by rw [show o + (n - (j + 1)) * 4 + 4 = o + (n - j) * 4 by omega]; exact hi⟩

theorem es_open : ∀ (fuel : Nat) {cs : List Value} {x : DataW H × List MemPlace}, DataW.trod enc Tryd.prog W 0 sp held fuel 41 cs = some x → ∃ v l, cs = [v] ∧ EV W.heap.size W v l := by
  intro fuel
  induction fuel using Nat.strongRecOn with
  | ind fuel ih =>
    intro cs x h
    obtain ⟨A, n, cap, m, rfl, h1, h2, hm, _, hr⟩ := slice_in Tryd.underlying41 (show Tryd.prog.cellsOf 43 = 4 by kernel_rfl) (by decide) h
    by_cases hn : 0 < n
    · obtain ⟨b, o, rfl, hb, he⟩ := hr hn
      obtain ⟨l, hl, hi⟩ := es_gather (W := W) (n := n) (b := b) (o := o) (fun i hi => by
        obtain ⟨cs', y, hl, hc, ht⟩ := he i hi
        obtain ⟨xs, k, hk, _, _, hxl, hf⟩ := DataW.trod_struct Tryd.underlying43 ht
        have hxl4 : xs.length = 4 := hxl
        obtain ⟨v0, c0, t0⟩ := field_one (j := 0) (by omega) (show Tryd.prog.cellsOf 3 = 1 by kernel_rfl) ((hf 0 _ rfl).trans (List.getElem?_eq_getElem (by omega)))
        obtain ⟨v1, c1, t1⟩ := field_one (j := 1) (by omega) (show Tryd.prog.cellsOf 2 = 1 by kernel_rfl) ((hf 1 _ rfl).trans (List.getElem?_eq_getElem (by omega)))
        obtain ⟨v2, c2, t2⟩ := field_one (j := 2) (by omega) (show Tryd.prog.cellsOf 9 = 1 by kernel_rfl) ((hf 2 _ rfl).trans (List.getElem?_eq_getElem (by omega)))
        obtain ⟨v3, c3, t3⟩ := field_one (j := 3) (by omega) (show Tryd.prog.cellsOf 41 = 1 by kernel_rfl) ((hf 3 _ rfl).trans (List.getElem?_eq_getElem (by omega)))
        obtain ⟨op, rfl, w0⟩ := int_one Tryd.underlying3 t0
        obtain ⟨n1, rfl, w1⟩ := int_one Tryd.underlying2 t1
        obtain ⟨s, rfl, w2⟩ := str_one t2
        obtain ⟨v, l, e, w3⟩ := ih k (by omega) t3
        injection e with e _
        subst e
        exact ⟨op, n1, s, v3, l, by rw [← c0, ← hc 0 (by decide)]; rfl, by rw [← c1, ← hc 1 (by decide)], by rw [← c2, ← hc 2 (by decide)], by rw [← c3, ← hc 3 (by decide)], w3, w0, w1, w2⟩) n (Nat.le_refl _)
      exact ⟨_, l, rfl, _, cap, by rw [hl], by rw [hl]; exact h1, h2, fun _ => ⟨b, o, rfl, hb, by simpa using hi⟩⟩
    · obtain rfl : n = 0 := by omega
      exact ⟨_, .nil, rfl, A, cap, rfl, Nat.zero_le _, h2, fun h => by simp [ES.len] at h⟩

/-- The cells of a statement at a place. -/
def S1 (W : World) (b o : Nat) : Prop := ∃ op s n v l vx x vy y, W.cell? ⟨b, o, none⟩ = some (.int .i64 op) ∧ W.cell? ⟨b, o + 1, none⟩ = some (.string s) ∧ W.cell? ⟨b, o + 2, none⟩ = some (.int .i64 n) ∧
  (W.cell? ⟨b, o + 3, none⟩ = some v ∧ EV W.heap.size W v l) ∧ (W.cell? ⟨b, o + 4, none⟩ = some vx ∧ SV W.heap.size W vx x) ∧ (W.cell? ⟨b, o + 5, none⟩ = some vy ∧ SV W.heap.size W vy y) ∧ (I64 op ∧ I64 n ∧ s.size ≤ 9223372036854775807)
theorem ss_gather {n b o : Nat} (h : ∀ i, i < n → S1 W b (o + i * 6)) : ∀ j, j ≤ n → ∃ l : SS, l.len = j ∧ l.In W.heap.size W b (o + (n - j) * 6) := by
  intro j
  induction j with
  | zero => exact fun _ => ⟨.nil, rfl, trivial⟩
  | succ j ih =>
    intro hj
    obtain ⟨r, hr, hi⟩ := ih (by omega)
    obtain ⟨op, s, n1, v, l, vx, x, vy, y, h0, h1, h2, h3, h4, h5, h6⟩ := h (n - (j + 1)) (by omega)
    exact ⟨.cons op s n1 l x y r, by simp [SS.len, hr], h0, h1, h2, ⟨v, h3⟩, ⟨vx, h4⟩, ⟨vy, h5⟩, h6, by rw [show o + (n - (j + 1)) * 6 + 6 = o + (n - j) * 6 by omega]; exact hi⟩

/-- The values of a statement's six cells. -/
def S6 (W : World) (cs : List Value) : Prop := ∃ op s n v l vx x vy y, cs = [.int .i64 op, .string s, .int .i64 n, v, vx, vy] ∧ EV W.heap.size W v l ∧ SV W.heap.size W vx x ∧ SV W.heap.size W vy y ∧ (I64 op ∧ I64 n ∧ s.size ≤ 9223372036854775807)

theorem list_six {cs : List Value} {a b c d e f : Value} (hl : cs.length = 6) (h0 : cs[0]? = some a) (h1 : cs[1]? = some b) (h2 : cs[2]? = some c) (h3 : cs[3]? = some d) (h4 : cs[4]? = some e) (h5 : cs[5]? = some f) : cs = [a, b, c, d, e, f] := by
  match cs, hl with
  | [_, _, _, _, _, _], _ => simp at h0 h1 h2 h3 h4 h5; simp [*]

theorem stmt_open {fuel : Nat} {cs : List Value} {x : DataW H × List MemPlace} (ih : ∀ m, m < fuel → ∀ {cs : List Value} {x : DataW H × List MemPlace}, DataW.trod enc Tryd.prog W 0 sp held m 23 cs = some x → ∃ v l, cs = [v] ∧ SV W.heap.size W v l)
    (ht : DataW.trod enc Tryd.prog W 0 sp held fuel 45 cs = some x) : S6 W cs := by
  obtain ⟨xs, k, hk, _, hlen, hxl, hf⟩ := DataW.trod_struct Tryd.underlying45 ht
  have hl : cs.length = 6 := hlen.trans (by kernel_rfl)
  have hxl6 : xs.length = 6 := hxl
  obtain ⟨v0, c0, t0⟩ := field_one (j := 0) (by omega) (show Tryd.prog.cellsOf 3 = 1 by kernel_rfl) ((hf 0 _ rfl).trans (List.getElem?_eq_getElem (by omega)))
  obtain ⟨v1, c1, t1⟩ := field_one (j := 1) (by omega) (show Tryd.prog.cellsOf 9 = 1 by kernel_rfl) ((hf 1 _ rfl).trans (List.getElem?_eq_getElem (by omega)))
  obtain ⟨v2, c2, t2⟩ := field_one (j := 2) (by omega) (show Tryd.prog.cellsOf 2 = 1 by kernel_rfl) ((hf 2 _ rfl).trans (List.getElem?_eq_getElem (by omega)))
  obtain ⟨v3, c3, t3⟩ := field_one (j := 3) (by omega) (show Tryd.prog.cellsOf 41 = 1 by kernel_rfl) ((hf 3 _ rfl).trans (List.getElem?_eq_getElem (by omega)))
  obtain ⟨v4, c4, t4⟩ := field_one (j := 4) (by omega) (show Tryd.prog.cellsOf 23 = 1 by kernel_rfl) ((hf 4 _ rfl).trans (List.getElem?_eq_getElem (by omega)))
  obtain ⟨v5, c5, t5⟩ := field_one (j := 5) (by omega) (show Tryd.prog.cellsOf 23 = 1 by kernel_rfl) ((hf 5 _ rfl).trans (List.getElem?_eq_getElem (by omega)))
  obtain ⟨op, rfl, w0⟩ := int_one Tryd.underlying3 t0
  obtain ⟨s, rfl, w1⟩ := str_one t1
  obtain ⟨n1, rfl, w2⟩ := int_one Tryd.underlying2 t2
  obtain ⟨v, l, e, w3⟩ := es_open k t3
  injection e with e _
  subst e
  obtain ⟨v, x', e, w4⟩ := ih k (by omega) t4
  injection e with e _
  subst e
  obtain ⟨v, y', e, w5⟩ := ih k (by omega) t5
  injection e with e _
  subst e
  exact ⟨op, s, n1, v3, l, v4, x', v5, y', list_six hl c0 c1 c2 c3 c4 c5, w3, w4, w5, w0, w2, w1⟩

theorem ss_open : ∀ (fuel : Nat) {cs : List Value} {x : DataW H × List MemPlace}, DataW.trod enc Tryd.prog W 0 sp held fuel 23 cs = some x → ∃ v l, cs = [v] ∧ SV W.heap.size W v l := by
  intro fuel
  induction fuel using Nat.strongRecOn with
  | ind fuel ih =>
    intro cs x h
    obtain ⟨A, n, cap, m, rfl, h1, h2, hm, _, hr⟩ := slice_in Tryd.underlying23 (show Tryd.prog.cellsOf 45 = 6 by kernel_rfl) (by decide) h
    by_cases hn : 0 < n
    · obtain ⟨b, o, rfl, hb, he⟩ := hr hn
      obtain ⟨l, hl, hi⟩ := ss_gather (W := W) (n := n) (b := b) (o := o) (fun i hi => by
        obtain ⟨cs', y, hl, hc, ht⟩ := he i hi
        obtain ⟨op, s, n1, v, l, vx, x', vy, y', rfl, h3, h4, h5, h6⟩ := stmt_open (fun m' hm' => ih m' (by omega)) ht
        exact ⟨op, s, n1, v, l, vx, x', vy, y', hc 0 (by decide), hc 1 (by decide), hc 2 (by decide), ⟨hc 3 (by decide), h3⟩, ⟨hc 4 (by decide), h4⟩, ⟨hc 5 (by decide), h5⟩, h6⟩) n (Nat.le_refl _)
      exact ⟨_, l, rfl, _, cap, by rw [hl], by rw [hl]; exact h1, h2, fun _ => ⟨b, o, rfl, hb, by simpa using hi⟩⟩
    · obtain rfl : n = 0 := by omega
      exact ⟨_, .nil, rfl, A, cap, rfl, Nat.zero_le _, h2, fun h => by simp [SS.len] at h⟩

theorem ps_gather {n b o : Nat} (h : ∀ i, i < n → ∃ s : ByteArray, W.cell? ⟨b, o + i, none⟩ = some (.string s) ∧ s.size ≤ 9223372036854775807) : ∀ j, j ≤ n → ∃ l : List ByteArray, l.length = j ∧ PsIn W l b (o + (n - j)) := by
  intro j
  induction j with
  | zero => exact fun _ => ⟨[], rfl, trivial⟩
  | succ j ih =>
    intro hj
    obtain ⟨r, hr, hi⟩ := ih (by omega)
    obtain ⟨s, h0, h1⟩ := h (n - (j + 1)) (by omega)
    exact ⟨s :: r, by simp [hr], h0, h1, by rw [show o + (n - (j + 1)) + 1 = o + (n - j) by omega]; exact hi⟩
theorem ps_open {fuel : Nat} {cs : List Value} {x : DataW H × List MemPlace} (h : DataW.trod enc Tryd.prog W 0 sp held fuel 31 cs = some x) : ∃ v l, cs = [v] ∧ RowV (PsIn W l) W.heap.size l.length v := by
  obtain ⟨A, n, cap, m, rfl, h1, h2, hm, _, hr⟩ := slice_in Tryd.underlying31 (show Tryd.prog.cellsOf 9 = 1 by kernel_rfl) (by decide) h
  by_cases hn : 0 < n
  · obtain ⟨b, o, rfl, hb, he⟩ := hr hn
    obtain ⟨l, hl, hi⟩ := ps_gather (W := W) (n := n) (b := b) (o := o) (fun i hi => by
      obtain ⟨cs', y, hl, hc, ht⟩ := he i hi
      match cs', hl with
      | [v], _ =>
        obtain ⟨s, rfl, hs⟩ := str_one ht
        exact ⟨s, by have := hc 0 (by decide); simpa using this, hs⟩) n (Nat.le_refl _)
    exact ⟨_, l, rfl, _, cap, by rw [hl], by rw [hl]; exact h1, h2, fun _ => ⟨b, o, rfl, hb, by simpa using hi⟩⟩
  · obtain rfl : n = 0 := by omega
    exact ⟨_, [], rfl, A, cap, rfl, Nat.zero_le _, h2, fun h => by simp at h⟩

/-- The cells of a function at a place. -/
def F1 (W : World) (b o : Nat) : Prop := ∃ (f : Fn) (v v' : Value), W.cell? ⟨b, o, none⟩ = some (.string f.s) ∧ (W.cell? ⟨b, o + 1, none⟩ = some v ∧ RowV (PsIn W f.ps) W.heap.size f.ps.length v) ∧ (W.cell? ⟨b, o + 2, none⟩ = some v' ∧ SV W.heap.size W v' f.b) ∧ f.s.size ≤ 9223372036854775807
theorem fs_gather {n b o : Nat} (h : ∀ i, i < n → F1 W b (o + i * 3)) : ∀ j, j ≤ n → ∃ l : List Fn, l.length = j ∧ FsIn W.heap.size W l b (o + (n - j) * 3) := by
  intro j
  induction j with
  | zero => exact fun _ => ⟨[], rfl, trivial⟩
  | succ j ih =>
    intro hj
    obtain ⟨r, hr, hi⟩ := ih (by omega)
    obtain ⟨f, v, v', h0, h1, h2, h3⟩ := h (n - (j + 1)) (by omega)
    exact ⟨f :: r, by simp [hr], h0, ⟨v, h1⟩, ⟨v', h2⟩, h3, by rw [show o + (n - (j + 1)) * 3 + 3 = o + (n - j) * 3 by omega]; exact hi⟩
theorem fs_open {fuel : Nat} {cs : List Value} {x : DataW H × List MemPlace} (h : DataW.trod enc Tryd.prog W 0 sp held fuel 22 cs = some x) : ∃ v l, cs = [v] ∧ FV W.heap.size W v l := by
  obtain ⟨A, n, cap, m, rfl, h1, h2, hm, _, hr⟩ := slice_in Tryd.underlying22 (show Tryd.prog.cellsOf 37 = 3 by kernel_rfl) (by decide) h
  by_cases hn : 0 < n
  · obtain ⟨b, o, rfl, hb, he⟩ := hr hn
    obtain ⟨l, hl, hi⟩ := fs_gather (W := W) (n := n) (b := b) (o := o) (fun i hi => by
      obtain ⟨cs', y, hl, hc, ht⟩ := he i hi
      obtain ⟨xs, k, hk, _, _, hxl, hf⟩ := DataW.trod_struct Tryd.underlying37 ht
      have hxl3 : xs.length = 3 := hxl
      obtain ⟨v0, c0, t0⟩ := field_one (j := 0) (by omega) (show Tryd.prog.cellsOf 9 = 1 by kernel_rfl) ((hf 0 _ rfl).trans (List.getElem?_eq_getElem (by omega)))
      obtain ⟨v1, c1, t1⟩ := field_one (j := 1) (by omega) (show Tryd.prog.cellsOf 31 = 1 by kernel_rfl) ((hf 1 _ rfl).trans (List.getElem?_eq_getElem (by omega)))
      obtain ⟨v2, c2, t2⟩ := field_one (j := 2) (by omega) (show Tryd.prog.cellsOf 23 = 1 by kernel_rfl) ((hf 2 _ rfl).trans (List.getElem?_eq_getElem (by omega)))
      obtain ⟨s, rfl, w0⟩ := str_one t0
      obtain ⟨v, ps, e, w1⟩ := ps_open t1
      injection e with e _
      subst e
      obtain ⟨v, l, e, w2⟩ := ss_open k t2
      injection e with e _
      subst e
      exact ⟨⟨s, ps, l⟩, v1, v2, by rw [← c0, ← hc 0 (by decide)]; rfl, ⟨by rw [← c1, ← hc 1 (by decide)], w1⟩, ⟨by rw [← c2, ← hc 2 (by decide)], w2⟩, w0⟩) n (Nat.le_refl _)
    exact ⟨_, l, rfl, _, cap, by rw [hl], by rw [hl]; exact h1, h2, fun _ => ⟨b, o, rfl, hb, by simpa using hi⟩⟩
  · obtain rfl : n = 0 := by omega
    exact ⟨_, [], rfl, A, cap, rfl, Nat.zero_le _, h2, fun h => by simp at h⟩

/-- A program that came in. -/
theorem open_prog {v : Value} {d : DataW H} {p : List MemPlace} {base : Nat} (hv : Value.okWide Tryd.prog W .any base 25 v) (h : DataW.Trod enc Tryd.prog W 0 sp held 25 v d p) : ∃ pg, PgV W.heap.size W v pg := by
  obtain ⟨cs, rfl, hsz⟩ := okWide_struct Tryd.underlying25 hv
  have hsz2 : cs.size = 2 := hsz.trans (by kernel_rfl)
  obtain ⟨fuel, hf⟩ := h
  obtain ⟨xs, k, hk, _, hlen, hxl, hf⟩ := DataW.trod_struct Tryd.underlying25 hf
  have hxl2 : xs.length = 2 := hxl
  have hcl : (Value.agg cs).cells.toList.length = 2 := hlen.trans (by kernel_rfl)
  obtain ⟨v0, c0, t0⟩ := field_one (j := 0) (by omega) (show Tryd.prog.cellsOf 22 = 1 by kernel_rfl) ((hf 0 _ rfl).trans (List.getElem?_eq_getElem (by omega)))
  obtain ⟨v1, c1, t1⟩ := field_one (j := 1) (by omega) (show Tryd.prog.cellsOf 23 = 1 by kernel_rfl) ((hf 1 _ rfl).trans (List.getElem?_eq_getElem (by omega)))
  obtain ⟨v, fs, e, w0⟩ := fs_open t0
  injection e with e _
  subst e
  obtain ⟨v, m, e, w1⟩ := ss_open k t1
  injection e with e _
  subst e
  obtain ⟨A, cap, rfl, _⟩ := id w0
  obtain ⟨A', cap', rfl, _⟩ := id w1
  have hcs : cs = #[.slice A fs.length cap, .slice A' m.len cap'] := by
    apply Array.ext'
    have h0 : cs.toList[0]? = some (.slice A fs.length cap) := c0
    have h1 : cs.toList[1]? = some (.slice A' m.len cap') := c1
    have hl : cs.toList.length = 2 := by simpa using hsz2
    match hh : cs.toList, hl with
    | [a, b], _ =>
      rw [hh] at h0 h1
      simp at h0 h1
      simp [h0, h1]
  exact ⟨⟨fs, m⟩, A, cap, A', cap', by rw [hcs], w0, w1⟩

end
end Go.Proofs.YtaajolemjgdfnaaDoor

/-
  Programs that came in, counted: no more parts than the reading holds values.
-/
namespace Go.Proofs.YtaajolemjgdfnaaDoor
open Go Go.ChangeShapes Go.WideShapes Go.ChangeAt Go.RowKit Go.Deep
set_option maxRecDepth 100000

theorem list2_of {α : Type} {xs : List α} (h : xs.length = 2) : ∃ a b, xs = [a, b] := by
  match xs, h with
  | [_, _], _ => exact ⟨_, _, rfl⟩
theorem list3_of {α : Type} {xs : List α} (h : xs.length = 3) : ∃ a b c, xs = [a, b, c] := by
  match xs, h with
  | [_, _, _], _ => exact ⟨_, _, _, rfl⟩
theorem list4_of {α : Type} {xs : List α} (h : xs.length = 4) : ∃ a b c d, xs = [a, b, c, d] := by
  match xs, h with
  | [_, _, _, _], _ => exact ⟨_, _, _, _, rfl⟩
theorem list6_of {α : Type} {xs : List α} (h : xs.length = 6) : ∃ a b c d e f, xs = [a, b, c, d, e, f] := by
  match xs, h with
  | [_, _, _, _, _, _], _ => exact ⟨_, _, _, _, _, _, rfl⟩

section
variable {H : Type} {enc : TypeId × Value → H} {W : World} {sp : Nat → Bool} {held : Bool}

theorem slice_inB {t e : TypeId} {c fuel : Nat} {cs : List Value} {x : DataW H × List MemPlace} (ht : Tryd.prog.underlying t = some (.slice e)) (hc : Tryd.prog.cellsOf e = c) (hc0 : 0 < c) (h : DataW.trod enc Tryd.prog W 0 sp held fuel t cs = some x) :
    ∃ (A : Option Addr) (n cap m : Nat) (ds : List (DataW H)), cs = [.slice A n cap] ∧ n ≤ cap ∧ cap ≤ 9223372036854775807 ∧ m < fuel ∧ ds.length = n ∧ Rows.uptoBulkAll ds ≤ Rows.uptoBulk x.1 ∧ (0 < n → ∃ b o, A = some ⟨b, o, none⟩ ∧ b < W.heap.size ∧
      ∀ (i : Nat) (d : DataW H), ds[i]? = some d → ∃ (cs' : List Value) (p : List MemPlace), cs'.length = c ∧ (∀ j, j < c → W.cell? ⟨b, o + i * c + j, none⟩ = cs'[j]?) ∧ DataW.trod enc Tryd.prog W 0 sp held m e cs' = some (d, p)) := by
  rcases DataW.trod_slice ht h with ⟨rfl, hx⟩ | ⟨a, len, cap, elems, rest, n, hf, rfl, hx, _, hl, hm, hlen, hel, _, _⟩
  · refine ⟨none, 0, 0, 0, [], rfl, Nat.le_refl _, by decide, ?_, rfl, by simp [Rows.uptoBulkAll], fun h => by omega⟩
    cases fuel with
    | zero => simp [DataW.trod] at h
    | succ n => omega
  · refine ⟨some a, len, cap, n, elems.map (·.1), rfl, hl, by unfold maxLen at hm; omega, by omega, by simpa using hlen, by rw [hx]; simp only [Rows.uptoBulk]; omega, fun hn => ?_⟩
    have one : ∀ (i : Nat) (d : DataW H), (elems.map (·.1))[i]? = some d → ∃ (cs' : List Value) (p : List MemPlace), cs'.length = c ∧ (∀ j, j < c → W.cell? ((a.add (i * c)).add j) = cs'[j]?) ∧ DataW.trod enc Tryd.prog W 0 sp held n e cs' = some (d, p) := by
      intro i d hi
      obtain ⟨y, hy, hyd⟩ : ∃ y, elems[i]? = some y ∧ y.1 = d := by
        rw [List.getElem?_map] at hi
        cases h : elems[i]? with
        | none => rw [h] at hi; cases hi
        | some y => rw [h] at hi; exact ⟨y, rfl, Option.some.inj hi⟩
      have hil : i < len := by rw [← hlen]; exact (List.getElem?_eq_some_iff.1 hy).1
      have h1 := hel i hil
      rw [hy, hc] at h1
      obtain ⟨cs', h2, h3⟩ := Option.bind_eq_some_iff.1 h1
      obtain ⟨_, h4, h5⟩ := World.cells?_some h2
      exact ⟨cs', y.2, h4, h5, by rw [h3, ← hyd]⟩
    obtain ⟨d0, hd0⟩ : ∃ d, (elems.map (·.1))[0]? = some d := ⟨_, List.getElem?_eq_getElem (by simp; omega)⟩
    obtain ⟨cs0, _, hl0, hc0', _⟩ := one 0 d0 hd0
    have hv0 := hc0' 0 hc0
    rw [List.getElem?_eq_getElem (by omega)] at hv0
    have hb := lt_of_cell hv0
    have hspot := World.cell?_spot hv0
    obtain ⟨b, o, spot⟩ := a
    simp [Addr.add] at hspot hb
    subst hspot
    refine ⟨b, o, rfl, hb, fun i d hi => ?_⟩
    obtain ⟨cs', p, h1, h2, h3⟩ := one i d hi
    refine ⟨cs', p, h1, fun j hj => ?_, h3⟩
    rw [← h2 j hj]
    congr 1
    unfold Addr.add
    split <;> split <;> simp_all

theorem es_gatherB {b : Nat} : ∀ (ds : List (DataW H)) (o : Nat), (∀ i d, ds[i]? = some d → ∃ op n s v l, W.cell? ⟨b, o + i * 4, none⟩ = some (.int .i64 op) ∧ W.cell? ⟨b, o + i * 4 + 1, none⟩ = some (.int .i64 n) ∧ W.cell? ⟨b, o + i * 4 + 2, none⟩ = some (.string s) ∧
      W.cell? ⟨b, o + i * 4 + 3, none⟩ = some v ∧ EV W.heap.size W v l ∧ (I64 op ∧ I64 n ∧ s.size ≤ 9223372036854775807) ∧ 1 + l.cnt ≤ Rows.uptoBulk d) → ∃ l : ES, l.len = ds.length ∧ l.In W.heap.size W b o ∧ l.cnt ≤ Rows.uptoBulkAll ds
  | [], _, _ => ⟨.nil, rfl, trivial, Nat.zero_le _⟩
  | d :: ds, o, h => by
    obtain ⟨r, hr, hi, hc⟩ := es_gatherB ds (o + 4) (fun i d hd => by
      have := h (i + 1) d (by simpa using hd)
      rwa [show o + (i + 1) * 4 = o + 4 + i * 4 by omega] at this)
    obtain ⟨op, n, s, v, l, h0, h1, h2, h3, h4, h5, h6⟩ := h 0 d rfl
    simp only [Nat.zero_mul, Nat.add_zero] at h0 h1 h2 h3
    exact ⟨.cons op n s l r, by simp [ES.len, hr], ⟨h0, h1, h2, ⟨v, h3, h4⟩, h5, hi⟩, by simp only [ES.cnt, Rows.uptoBulkAll]; omega⟩

theorem es_openB : ∀ (fuel : Nat) {cs : List Value} {x : DataW H × List MemPlace}, DataW.trod enc Tryd.prog W 0 sp held fuel 41 cs = some x → ∃ v l, cs = [v] ∧ EV W.heap.size W v l ∧ l.cnt ≤ Rows.uptoBulk x.1 := by
  intro fuel
  induction fuel using Nat.strongRecOn with
  | ind fuel ih =>
    intro cs x h
    obtain ⟨A, n, cap, m, ds, rfl, h1, h2, hm, hds, hbk, hr⟩ := slice_inB Tryd.underlying41 (show Tryd.prog.cellsOf 43 = 4 by kernel_rfl) (by decide) h
    by_cases hn : 0 < n
    · obtain ⟨b, o, rfl, hb, he⟩ := hr hn
      obtain ⟨l, hl, hi, hc⟩ := es_gatherB (W := W) (b := b) ds o (fun i d hd => by
        obtain ⟨cs', p, hl, hc, ht⟩ := he i d hd
        obtain ⟨xs, k, hk, hx, _, hxl, hf⟩ := DataW.trod_struct Tryd.underlying43 ht
        have hxl4 : xs.length = 4 := hxl
        obtain ⟨v0, c0, t0⟩ := field_one (j := 0) (by omega) (show Tryd.prog.cellsOf 3 = 1 by kernel_rfl) ((hf 0 _ rfl).trans (List.getElem?_eq_getElem (by omega)))
        obtain ⟨v1, c1, t1⟩ := field_one (j := 1) (by omega) (show Tryd.prog.cellsOf 2 = 1 by kernel_rfl) ((hf 1 _ rfl).trans (List.getElem?_eq_getElem (by omega)))
        obtain ⟨v2, c2, t2⟩ := field_one (j := 2) (by omega) (show Tryd.prog.cellsOf 9 = 1 by kernel_rfl) ((hf 2 _ rfl).trans (List.getElem?_eq_getElem (by omega)))
        obtain ⟨v3, c3, t3⟩ := field_one (j := 3) (by omega) (show Tryd.prog.cellsOf 41 = 1 by kernel_rfl) ((hf 3 _ rfl).trans (List.getElem?_eq_getElem (by omega)))
        obtain ⟨op, rfl, w0⟩ := int_one Tryd.underlying3 t0
        obtain ⟨n1, rfl, w1⟩ := int_one Tryd.underlying2 t1
        obtain ⟨s, rfl, w2⟩ := str_one t2
        obtain ⟨v, l, e, w3, w4⟩ := ih k (by omega) t3
        injection e with e _
        subst e
        refine ⟨op, n1, s, v3, l, by rw [← c0, ← hc 0 (by decide)]; rfl, by rw [← c1, ← hc 1 (by decide)], by rw [← c2, ← hc 2 (by decide)], by rw [← c3, ← hc 3 (by decide)], w3, ⟨w0, w1, w2⟩, ?_⟩
        have hd : d = .agg (xs.map (·.1)) := congrArg Prod.fst hx
        obtain ⟨y0, y1, y2, y3, rfl⟩ := list4_of hxl4
        rw [hd]
        have w4' : l.cnt ≤ Rows.uptoBulk y3.1 := w4
        simp only [List.map_cons, List.map_nil, Rows.uptoBulk, Rows.uptoBulkAll]
        omega)
      exact ⟨_, l, rfl, ⟨_, cap, by rw [hl, hds], by rw [hl, hds]; exact h1, h2, fun _ => ⟨b, o, rfl, hb, hi⟩⟩, by omega⟩
    · obtain rfl : n = 0 := by omega
      exact ⟨_, .nil, rfl, ⟨A, cap, rfl, Nat.zero_le _, h2, fun h => by simp [ES.len] at h⟩, Nat.zero_le _⟩

theorem ss_gatherB {b : Nat} : ∀ (ds : List (DataW H)) (o : Nat), (∀ i d, ds[i]? = some d → ∃ op s n v l vx x vy y, W.cell? ⟨b, o + i * 6, none⟩ = some (.int .i64 op) ∧ W.cell? ⟨b, o + i * 6 + 1, none⟩ = some (.string s) ∧ W.cell? ⟨b, o + i * 6 + 2, none⟩ = some (.int .i64 n) ∧
      (W.cell? ⟨b, o + i * 6 + 3, none⟩ = some v ∧ EV W.heap.size W v l) ∧ (W.cell? ⟨b, o + i * 6 + 4, none⟩ = some vx ∧ SV W.heap.size W vx x) ∧ (W.cell? ⟨b, o + i * 6 + 5, none⟩ = some vy ∧ SV W.heap.size W vy y) ∧ (I64 op ∧ I64 n ∧ s.size ≤ 9223372036854775807) ∧ 1 + (l.cnt + (x.cnt + y.cnt)) ≤ Rows.uptoBulk d) →
      ∃ l : SS, l.len = ds.length ∧ l.In W.heap.size W b o ∧ l.cnt ≤ Rows.uptoBulkAll ds
  | [], _, _ => ⟨.nil, rfl, trivial, Nat.zero_le _⟩
  | d :: ds, o, h => by
    obtain ⟨r, hr, hi, hc⟩ := ss_gatherB ds (o + 6) (fun i d hd => by
      have := h (i + 1) d (by simpa using hd)
      rwa [show o + (i + 1) * 6 = o + 6 + i * 6 by omega] at this)
    obtain ⟨op, s, n, v, l, vx, x, vy, y, h0, h1, h2, h3, h4, h5, h6, h7⟩ := h 0 d rfl
    simp only [Nat.zero_mul, Nat.add_zero] at h0 h1 h2 h3 h4 h5
    exact ⟨.cons op s n l x y r, by simp [SS.len, hr], ⟨h0, h1, h2, ⟨v, h3⟩, ⟨vx, h4⟩, ⟨vy, h5⟩, h6, hi⟩, by simp only [SS.cnt, Rows.uptoBulkAll]; omega⟩

theorem ss_openB : ∀ (fuel : Nat) {cs : List Value} {x : DataW H × List MemPlace}, DataW.trod enc Tryd.prog W 0 sp held fuel 23 cs = some x → ∃ v l, cs = [v] ∧ SV W.heap.size W v l ∧ l.cnt ≤ Rows.uptoBulk x.1 := by
  intro fuel
  induction fuel using Nat.strongRecOn with
  | ind fuel ih =>
    intro cs x h
    obtain ⟨A, n, cap, m, ds, rfl, h1, h2, hm, hds, hbk, hr⟩ := slice_inB Tryd.underlying23 (show Tryd.prog.cellsOf 45 = 6 by kernel_rfl) (by decide) h
    by_cases hn : 0 < n
    · obtain ⟨b, o, rfl, hb, he⟩ := hr hn
      obtain ⟨l, hl, hi, hc⟩ := ss_gatherB (W := W) (b := b) ds o (fun i d hd => by
        obtain ⟨cs', p, hl, hc, ht⟩ := he i d hd
        obtain ⟨xs, k, hk, hx, _, hxl, hf⟩ := DataW.trod_struct Tryd.underlying45 ht
        have hxl6 : xs.length = 6 := hxl
        obtain ⟨v0, c0, t0⟩ := field_one (j := 0) (by omega) (show Tryd.prog.cellsOf 3 = 1 by kernel_rfl) ((hf 0 _ rfl).trans (List.getElem?_eq_getElem (by omega)))
        obtain ⟨v1, c1, t1⟩ := field_one (j := 1) (by omega) (show Tryd.prog.cellsOf 9 = 1 by kernel_rfl) ((hf 1 _ rfl).trans (List.getElem?_eq_getElem (by omega)))
        obtain ⟨v2, c2, t2⟩ := field_one (j := 2) (by omega) (show Tryd.prog.cellsOf 2 = 1 by kernel_rfl) ((hf 2 _ rfl).trans (List.getElem?_eq_getElem (by omega)))
        obtain ⟨v3, c3, t3⟩ := field_one (j := 3) (by omega) (show Tryd.prog.cellsOf 41 = 1 by kernel_rfl) ((hf 3 _ rfl).trans (List.getElem?_eq_getElem (by omega)))
        obtain ⟨v4, c4, t4⟩ := field_one (j := 4) (by omega) (show Tryd.prog.cellsOf 23 = 1 by kernel_rfl) ((hf 4 _ rfl).trans (List.getElem?_eq_getElem (by omega)))
        obtain ⟨v5, c5, t5⟩ := field_one (j := 5) (by omega) (show Tryd.prog.cellsOf 23 = 1 by kernel_rfl) ((hf 5 _ rfl).trans (List.getElem?_eq_getElem (by omega)))
        obtain ⟨op, rfl, w0⟩ := int_one Tryd.underlying3 t0
        obtain ⟨s, rfl, w1⟩ := str_one t1
        obtain ⟨n1, rfl, w2⟩ := int_one Tryd.underlying2 t2
        obtain ⟨v, l, e, w3, w3c⟩ := es_openB k t3
        injection e with e _
        subst e
        obtain ⟨v, x', e, w4, w4c⟩ := ih k (by omega) t4
        injection e with e _
        subst e
        obtain ⟨v, y', e, w5, w5c⟩ := ih k (by omega) t5
        injection e with e _
        subst e
        refine ⟨op, s, n1, v3, l, v4, x', v5, y', by rw [← c0, ← hc 0 (by decide)]; rfl, by rw [← c1, ← hc 1 (by decide)], by rw [← c2, ← hc 2 (by decide)], ⟨by rw [← c3, ← hc 3 (by decide)], w3⟩, ⟨by rw [← c4, ← hc 4 (by decide)], w4⟩, ⟨by rw [← c5, ← hc 5 (by decide)], w5⟩, ⟨w0, w2, w1⟩, ?_⟩
        have hd : d = .agg (xs.map (·.1)) := congrArg Prod.fst hx
        obtain ⟨y0, y1, y2, y3, y4, y5, rfl⟩ := list6_of hxl6
        rw [hd]
        have q3 : l.cnt ≤ Rows.uptoBulk y3.1 := w3c
        have q4 : x'.cnt ≤ Rows.uptoBulk y4.1 := w4c
        have q5 : y'.cnt ≤ Rows.uptoBulk y5.1 := w5c
        simp only [List.map_cons, List.map_nil, Rows.uptoBulk, Rows.uptoBulkAll]
        omega)
      exact ⟨_, l, rfl, ⟨_, cap, by rw [hl, hds], by rw [hl, hds]; exact h1, h2, fun _ => ⟨b, o, rfl, hb, hi⟩⟩, by omega⟩
    · obtain rfl : n = 0 := by omega
      exact ⟨_, .nil, rfl, ⟨A, cap, rfl, Nat.zero_le _, h2, fun h => by simp [SS.len] at h⟩, Nat.zero_le _⟩

theorem fs_gatherB {b : Nat} : ∀ (ds : List (DataW H)) (o : Nat), (∀ i d, ds[i]? = some d → ∃ (f : Fn) (v v' : Value), W.cell? ⟨b, o + i * 3, none⟩ = some (.string f.s) ∧ (W.cell? ⟨b, o + i * 3 + 1, none⟩ = some v ∧ RowV (PsIn W f.ps) W.heap.size f.ps.length v) ∧ (W.cell? ⟨b, o + i * 3 + 2, none⟩ = some v' ∧ SV W.heap.size W v' f.b) ∧ f.s.size ≤ 9223372036854775807 ∧ f.b.cnt ≤ Rows.uptoBulk d) →
      ∃ l : List Fn, l.length = ds.length ∧ FsIn W.heap.size W l b o ∧ cntL (fsPts l) ≤ Rows.uptoBulkAll ds
  | [], _, _ => ⟨[], rfl, trivial, Nat.zero_le _⟩
  | d :: ds, o, h => by
    obtain ⟨r, hr, hi, hc⟩ := fs_gatherB ds (o + 3) (fun i d hd => by
      have := h (i + 1) d (by simpa using hd)
      rwa [show o + (i + 1) * 3 = o + 3 + i * 3 by omega] at this)
    obtain ⟨f, v, v', h0, h1, h2, h3, h4⟩ := h 0 d rfl
    simp only [Nat.zero_mul, Nat.add_zero] at h0 h1 h2
    exact ⟨f :: r, by simp [hr], ⟨h0, ⟨v, h1⟩, ⟨v', h2⟩, h3, hi⟩, by simp only [fsPts, cntL_append, SS.cntL, Rows.uptoBulkAll]; omega⟩

theorem fs_openB {fuel : Nat} {cs : List Value} {x : DataW H × List MemPlace} (h : DataW.trod enc Tryd.prog W 0 sp held fuel 22 cs = some x) : ∃ v l, cs = [v] ∧ FV W.heap.size W v l ∧ cntL (fsPts l) ≤ Rows.uptoBulk x.1 := by
  obtain ⟨A, n, cap, m, ds, rfl, h1, h2, hm, hds, hbk, hr⟩ := slice_inB Tryd.underlying22 (show Tryd.prog.cellsOf 37 = 3 by kernel_rfl) (by decide) h
  by_cases hn : 0 < n
  · obtain ⟨b, o, rfl, hb, he⟩ := hr hn
    obtain ⟨l, hl, hi, hc⟩ := fs_gatherB (W := W) (b := b) ds o (fun i d hd => by
      obtain ⟨cs', p, hl, hc, ht⟩ := he i d hd
      obtain ⟨xs, k, hk, hx, _, hxl, hf⟩ := DataW.trod_struct Tryd.underlying37 ht
      have hxl3 : xs.length = 3 := hxl
      obtain ⟨v0, c0, t0⟩ := field_one (j := 0) (by omega) (show Tryd.prog.cellsOf 9 = 1 by kernel_rfl) ((hf 0 _ rfl).trans (List.getElem?_eq_getElem (by omega)))
      obtain ⟨v1, c1, t1⟩ := field_one (j := 1) (by omega) (show Tryd.prog.cellsOf 31 = 1 by kernel_rfl) ((hf 1 _ rfl).trans (List.getElem?_eq_getElem (by omega)))
      obtain ⟨v2, c2, t2⟩ := field_one (j := 2) (by omega) (show Tryd.prog.cellsOf 23 = 1 by kernel_rfl) ((hf 2 _ rfl).trans (List.getElem?_eq_getElem (by omega)))
      obtain ⟨s, rfl, w0⟩ := str_one t0
      obtain ⟨v, ps, e, w1⟩ := ps_open t1
      injection e with e _
      subst e
      obtain ⟨v, l, e, w2, w2c⟩ := ss_openB k t2
      injection e with e _
      subst e
      refine ⟨⟨s, ps, l⟩, v1, v2, by rw [← c0, ← hc 0 (by decide)]; rfl, ⟨by rw [← c1, ← hc 1 (by decide)], w1⟩, ⟨by rw [← c2, ← hc 2 (by decide)], w2⟩, w0, ?_⟩
      have hd : d = .agg (xs.map (·.1)) := congrArg Prod.fst hx
      obtain ⟨y0, y1, y2, rfl⟩ := list3_of hxl3
      rw [hd]
      have q2 : l.cnt ≤ Rows.uptoBulk y2.1 := w2c
      simp only [List.map_cons, List.map_nil, Rows.uptoBulk, Rows.uptoBulkAll]
      omega)
    exact ⟨_, l, rfl, ⟨_, cap, by rw [hl, hds], by rw [hl, hds]; exact h1, h2, fun _ => ⟨b, o, rfl, hb, hi⟩⟩, by omega⟩
  · obtain rfl : n = 0 := by omega
    exact ⟨_, [], rfl, ⟨A, cap, rfl, Nat.zero_le _, h2, fun h => by simp at h⟩, Nat.zero_le _⟩

/-- A program that came in: its two slices; how much it holds. -/
theorem open_progB {v : Value} {d : DataW H} {p : List MemPlace} {base : Nat} (hv : Value.okWide Tryd.prog W .any base 25 v) (h : DataW.Trod enc Tryd.prog W 0 sp held 25 v d p) :
    ∃ (pg : Pg) (A : Option Addr) (cap : Nat) (A' : Option Addr) (cap' : Nat), v = .agg #[.slice A pg.fs.length cap, .slice A' pg.m.len cap'] ∧ FV W.heap.size W (.slice A pg.fs.length cap) pg.fs ∧ SV W.heap.size W (.slice A' pg.m.len cap') pg.m ∧ cntL pg.pts ≤ Rows.uptoBulk d := by
  obtain ⟨cs, rfl, hsz⟩ := okWide_struct Tryd.underlying25 hv
  have hsz2 : cs.size = 2 := hsz.trans (by kernel_rfl)
  obtain ⟨fuel, hf⟩ := h
  obtain ⟨xs, k, hk, hx, hlen, hxl, hf⟩ := DataW.trod_struct Tryd.underlying25 hf
  have hxl2 : xs.length = 2 := hxl
  have hcl : (Value.agg cs).cells.toList.length = 2 := hlen.trans (by kernel_rfl)
  obtain ⟨v0, c0, t0⟩ := field_one (j := 0) (by omega) (show Tryd.prog.cellsOf 22 = 1 by kernel_rfl) ((hf 0 _ rfl).trans (List.getElem?_eq_getElem (by omega)))
  obtain ⟨v1, c1, t1⟩ := field_one (j := 1) (by omega) (show Tryd.prog.cellsOf 23 = 1 by kernel_rfl) ((hf 1 _ rfl).trans (List.getElem?_eq_getElem (by omega)))
  obtain ⟨v, fs, e, w0, w0c⟩ := fs_openB t0
  injection e with e _
  subst e
  obtain ⟨v, m, e, w1, w1c⟩ := ss_openB k t1
  injection e with e _
  subst e
  obtain ⟨A, cap, rfl, _⟩ := id w0
  obtain ⟨A', cap', rfl, _⟩ := id w1
  have hcs : cs = #[.slice A fs.length cap, .slice A' m.len cap'] := by
    apply Array.ext'
    have h0 : cs.toList[0]? = some (.slice A fs.length cap) := c0
    have h1 : cs.toList[1]? = some (.slice A' m.len cap') := c1
    have hl : cs.toList.length = 2 := by simpa using hsz2
    match hh : cs.toList, hl with
    | [a, b], _ =>
      rw [hh] at h0 h1
      simp at h0 h1
      simp [h0, h1]
  refine ⟨⟨fs, m⟩, A, cap, A', cap', by rw [hcs], w0, w1, ?_⟩
  have hd : d = .agg (xs.map (·.1)) := congrArg Prod.fst hx
  obtain ⟨y0, y1, rfl⟩ := list2_of hxl2
  rw [hd]
  simp only [Pg.pts, cntL_append, SS.cntL]
  have q0 : cntL (fsPts fs) ≤ Rows.uptoBulk y0.1 := w0c
  have q1 : m.cnt ≤ Rows.uptoBulk y1.1 := w1c
  simp only [List.map_cons, List.map_nil, Rows.uptoBulk, Rows.uptoBulkAll]
  omega

end
end Go.Proofs.YtaajolemjgdfnaaDoor

