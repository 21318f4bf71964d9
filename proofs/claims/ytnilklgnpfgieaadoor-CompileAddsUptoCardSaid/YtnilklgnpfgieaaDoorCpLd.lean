/-
  What the rows' listed variables give a walk; a start that meets the list.
-/
import Derived.Test.YtnilklgnpfgieaaDoorCpO
import Derived.Test.YtnilklgnpfgieaaDoorRows
import Derived.ProofKit
import Derived.LaidMore
import Derived.OpenShut
import Derived.Carry
import Derived.SizedLaws
import Derived.ChangeMaps5
import Derived.Lib.LaidTab
import Derived.Stop.LaidErr
import Derived.Stop.Joined
import Derived.Deep.Fields
namespace Go.Proofs.YtnilklgnpfgieaaDoor
open Go Go.ChangeShapes Go.WideShapes Go.ChangeAt Go.RowKit Go.Deep

theorem own : ownKnob Tryd.prog.godebug = none := by kernel_rfl
theorem laidOut : laidOutB Tryd.prog = true := by kernel_rfl

/-- The listed variables, as every row of this seat lists them. -/
abbrev laid7 : List (String × DataW Unit) := [("math/bits.deBruijn32tab", Rows.laid_math_bits_deBruijn32tab), ("math/bits.deBruijn64tab", Rows.laid_math_bits_deBruijn64tab), ("internal/strconv.uint64pow10", Rows.laid_internal_strconv_uint64pow10), ("evenhand/tree.ofExprs", Rows.laid_evenhand_tree_ofExprs), ("evenhand/tree.ofStmts", Rows.laid_evenhand_tree_ofStmts), ("evenhand/code.kinds", Rows.laid_evenhand_code_kinds), ("evenhand/compile.same", Rows.laid_evenhand_compile_same)]

theorem door_met (os : Os) (args : Array Value) : laidMetH Tryd.prog laid7 ((World.doorLaid Tryd.prog 95 os).forCall (fun _ _ => 0) ⟨#[], args, []⟩).memory :=
  laidMetH_of_parts3 (fuel := 8) (laidMet_of_run' 8 (by kernel_rfl) (by kernel_rfl)) (by kernel_rfl) (by kernel_rfl)

/-- The datum of a row of a table. -/
def Sh.dat {H : Type} (s : Sh) : DataW H := .agg [.lit (.bool s.name), .lit (.int .i64 s.low), .lit (.int .i64 s.high), .lit (.int .i64 s.least), .lit (.int .i64 s.most), .lit (.bool s.body), .lit (.bool s.other)]
theorem exprs_dat {H : Type} : (Rows.laid_evenhand_tree_ofExprs : DataW H) = .agg (exprT.map Sh.dat) := rfl
theorem stmts_dat {H : Type} : (Rows.laid_evenhand_tree_ofStmts : DataW H) = .agg (stmtT.map Sh.dat) := rfl

theorem cell_bool {H : Type} {enc : TypeId × Value → H} {w : World} {base : Nat} {sp : Nat → Bool} {held : Bool} {fuel : Nat} {cs : List Value} {b : Bool} {p : List MemPlace}
    (h : DataW.trod enc Tryd.prog w base sp held fuel 4 cs = some (.lit (.bool b), p)) : cs = [.bool b] := by
  obtain ⟨b', rfl, e⟩ := DataW.trod_bool Tryd.underlying4 h
  simp only [Prod.mk.injEq, DataW.lit.injEq, Lit.bool.injEq] at e
  rw [e.1]
theorem cell_int {H : Type} {enc : TypeId × Value → H} {w : World} {base : Nat} {sp : Nat → Bool} {held : Bool} {fuel : Nat} {cs : List Value} {t : TypeId} (ht : Tryd.prog.underlying t = some (.int .i64)) {n : Int} {p : List MemPlace}
    (h : DataW.trod enc Tryd.prog w base sp held fuel t cs = some (.lit (.int .i64 n), p)) : cs = [.int .i64 n] := by
  obtain ⟨n', rfl, e, _⟩ := DataW.trod_int ht h
  simp only [Prod.mk.injEq, DataW.lit.injEq, Lit.int.injEq, true_and] at e
  rw [e.1]

theorem one_at {cs : List Value} {j : Nat} {v : Value} (h : (cs.drop j).take 1 = [v]) : cs[j]? = some v := by
  have := congrArg (·[0]?) h
  simpa [List.getElem?_take, List.getElem?_drop] using this

theorem two_of {α : Type} {xs : List (α × List MemPlace)} {l : List α} (h : xs.map (·.1) = l) (j : Nat) (d : α) (hd : l[j]? = some d) : ∃ p, xs[j]? = some (d, p) := by
  rw [← h, List.getElem?_map] at hd
  cases hx : xs[j]? with
  | none => rw [hx] at hd; cases hd
  | some x => rw [hx] at hd; simp only [Option.map_some, Option.some.injEq] at hd; exact ⟨x.2, by rw [← hd]⟩

/-- A row of a table, cell by cell. -/
theorem row_cells {H : Type} {enc : TypeId × Value → H} {w : World} {base : Nat} {sp : Nat → Bool} {held : Bool} {fuel : Nat} {cs : List Value} {s : Sh} {p : List MemPlace}
    (h : DataW.trod enc Tryd.prog w base sp held fuel 128 cs = some (s.dat, p)) : ∀ j, j < 7 → cs[j]? = s.cells[j]? := by
  obtain ⟨xs, n, _, hx, _, hxl, hf⟩ := DataW.trod_struct Tryd.underlying128 h
  have hx1 : xs.map (·.1) = [.lit (.bool s.name), .lit (.int .i64 s.low), .lit (.int .i64 s.high), .lit (.int .i64 s.least), .lit (.int .i64 s.most), .lit (.bool s.body), .lit (.bool s.other)] := by
    have := congrArg Prod.fst hx
    simpa [Sh.dat] using this.symm
  have kb : Tryd.prog.cellsOf 4 = 1 := by kernel_rfl
  have ki : Tryd.prog.cellsOf 2 = 1 := by kernel_rfl
  have kn : Tryd.prog.cellsOf 3 = 1 := by kernel_rfl
  have h0 : DataW.trod enc Tryd.prog w base sp held n 4 ((cs.drop 0).take (Tryd.prog.cellsOf 4)) = xs[0]? := hf 0 _ rfl
  rw [kb] at h0
  obtain ⟨p0, q0⟩ := two_of hx1 0 _ rfl
  rw [q0] at h0
  have c0 := one_at (cell_bool h0)
  have h1 : DataW.trod enc Tryd.prog w base sp held n 2 ((cs.drop 1).take (Tryd.prog.cellsOf 2)) = xs[1]? := hf 1 _ rfl
  rw [ki] at h1
  obtain ⟨p1, q1⟩ := two_of hx1 1 _ rfl
  rw [q1] at h1
  have c1 := one_at (cell_int Tryd.underlying2 h1)
  have h2 : DataW.trod enc Tryd.prog w base sp held n 2 ((cs.drop 2).take (Tryd.prog.cellsOf 2)) = xs[2]? := hf 2 _ rfl
  rw [ki] at h2
  obtain ⟨p2, q2⟩ := two_of hx1 2 _ rfl
  rw [q2] at h2
  have c2 := one_at (cell_int Tryd.underlying2 h2)
  have h3 : DataW.trod enc Tryd.prog w base sp held n 3 ((cs.drop 3).take (Tryd.prog.cellsOf 3)) = xs[3]? := hf 3 _ rfl
  rw [kn] at h3
  obtain ⟨p3, q3⟩ := two_of hx1 3 _ rfl
  rw [q3] at h3
  have c3 := one_at (cell_int Tryd.underlying3 h3)
  have h4 : DataW.trod enc Tryd.prog w base sp held n 3 ((cs.drop 4).take (Tryd.prog.cellsOf 3)) = xs[4]? := hf 4 _ rfl
  rw [kn] at h4
  obtain ⟨p4, q4⟩ := two_of hx1 4 _ rfl
  rw [q4] at h4
  have c4 := one_at (cell_int Tryd.underlying3 h4)
  have h5 : DataW.trod enc Tryd.prog w base sp held n 4 ((cs.drop 5).take (Tryd.prog.cellsOf 4)) = xs[5]? := hf 5 _ rfl
  rw [kb] at h5
  obtain ⟨p5, q5⟩ := two_of hx1 5 _ rfl
  rw [q5] at h5
  have c5 := one_at (cell_bool h5)
  have h6 : DataW.trod enc Tryd.prog w base sp held n 4 ((cs.drop 6).take (Tryd.prog.cellsOf 4)) = xs[6]? := hf 6 _ rfl
  rw [kb] at h6
  obtain ⟨p6, q6⟩ := two_of hx1 6 _ rfl
  rw [q6] at h6
  have c6 := one_at (cell_bool h6)
  intro j hj
  match j, hj with
  | 0, _ => exact c0
  | 1, _ => exact c1
  | 2, _ => exact c2
  | 3, _ => exact c3
  | 4, _ => exact c4
  | 5, _ => exact c5
  | 6, _ => exact c6

/-- A table, cell by cell. -/
theorem tab_cells {H : Type} {enc : TypeId × Value → H} {w : World} {base : Nat} {sp : Nat → Bool} {held : Bool} {fuel : Nat} {t : TypeId} {n : Nat} {cs : List Value} {l : List Sh} {p : List MemPlace} (ht : Tryd.prog.underlying t = some (.array n 128)) (hct : Tryd.prog.cellsOf t = n * 7)
    (h : DataW.trod enc Tryd.prog w base sp held fuel t cs = some (.agg (l.map Sh.dat), p)) : ∀ k j, k < l.length → j < 7 → cs[k * 7 + j]? = (l.getD k sh0).cells[j]? := by
  have hce : Tryd.prog.cellsOf 128 = 7 := by kernel_rfl
  cases fuel with
  | zero => simp [DataW.trod] at h
  | succ fuel =>
    simp only [DataW.trod, ht, hce, hct] at h
    split at h
    · rename_i hl
      obtain ⟨xs, hm, hx⟩ := Option.map_eq_some_iff.1 h
      have hxs : xs.map (·.1) = l.map Sh.dat := by
        have := congrArg Prod.fst hx
        simpa using this
      have hxl : xs.length = n := by simpa using Lib.mapM_length hm
      have hll : l.length = n := by
        have := congrArg List.length hxs
        simp at this
        omega
      intro k j hk hj
      obtain ⟨b, hb, hf⟩ := Lib.mapM_at hm k k (by rw [List.getElem?_range (by omega)])
      obtain ⟨p', hp'⟩ := two_of hxs k (Sh.dat (l.getD k sh0)) (by rw [List.getElem?_map, List.getD_eq_getElem?_getD, List.getElem?_eq_getElem hk]; rfl)
      have hb2 : b = (Sh.dat (l.getD k sh0), p') := Option.some.inj (hb.symm.trans hp')
      rw [hb2] at hf
      have := row_cells hf j hj
      rw [← this, List.getElem?_take_of_lt hj, List.getElem?_drop]
    · cases h

theorem tabAt_of {W : World} {name : String} {l : List Sh} {rest : List (String × DataW Unit)} {g : Nat} {t : TypeId} {n : Nat} (hg : Tryd.prog.globalNamed name = some g) (hty : (Tryd.prog.globals[g]?).map (·.type) = some t) (ht : Tryd.prog.underlying t = some (.array n 128)) (hct : Tryd.prog.cellsOf t = n * 7)
    (h : laidMet Tryd.prog ((name, .agg (l.map Sh.dat)) :: rest) W) : TabAt W g l := by
  obtain ⟨ps, ⟨g', t', cs, fuel, p, q, hg', ht', hvar, hd, _, _⟩, _⟩ := h
  obtain rfl := Option.some.inj (hg.symm.trans hg')
  obtain rfl := Option.some.inj (hty.symm.trans ht')
  have hc := tab_cells ht hct hd
  intro k hk
  have cell : ∀ j v, j < 7 → (l.getD k sh0).cells[j]? = some v → W.cell? ⟨g, k * 7 + j, none⟩ = some v := fun j v hj hv => by
    rw [World.var?_cell hg hvar (k * 7 + j)]
    have := hc k j hk hj
    rw [hv] at this
    simpa using this
  exact ⟨cell 0 _ (by decide) rfl, cell 1 _ (by decide) rfl, cell 2 _ (by decide) rfl, cell 3 _ (by decide) rfl, cell 4 _ (by decide) rfl, cell 5 _ (by decide) rfl, cell 6 _ (by decide) rfl⟩

def Kd.cells (s : Kd) : List Value := [.string ⟨s.name.toArray⟩, .int .u8 s.takes, .int .u8 s.leaves, .int .u8 s.cost, .bool s.hasA, .bool s.hasN]
/-- The datum of a row of the table. -/
def Kd.dat {H : Type} (s : Kd) : DataW H := .agg [.lit (.string s.name), .lit (.int .u8 s.takes), .lit (.int .u8 s.leaves), .lit (.int .u8 s.cost), .lit (.bool s.hasA), .lit (.bool s.hasN)]
theorem kinds_dat {H : Type} : (Rows.laid_evenhand_code_kinds : DataW H) = .agg (kindT.map Kd.dat) := rfl

theorem cell_u8 {H : Type} {enc : TypeId × Value → H} {w : World} {base : Nat} {sp : Nat → Bool} {held : Bool} {fuel : Nat} {cs : List Value} {n : Int} {p : List MemPlace}
    (h : DataW.trod enc Tryd.prog w base sp held fuel 5 cs = some (.lit (.int .u8 n), p)) : cs = [.int .u8 n] := by
  obtain ⟨n', rfl, e, _⟩ := DataW.trod_int Tryd.underlying5 h
  simp only [Prod.mk.injEq, DataW.lit.injEq, Lit.int.injEq, true_and] at e
  rw [e.1]
theorem cell_str {H : Type} {enc : TypeId × Value → H} {w : World} {base : Nat} {sp : Nat → Bool} {held : Bool} {fuel : Nat} {cs : List Value} {l : List UInt8} {p : List MemPlace}
    (h : DataW.trod enc Tryd.prog w base sp held fuel 9 cs = some (.lit (.string l), p)) : cs = [.string ⟨l.toArray⟩] := by
  obtain ⟨s, rfl, e, _⟩ := DataW.trod_string Tryd.underlying9 h
  simp only [Prod.mk.injEq, DataW.lit.injEq, Lit.string.injEq] at e
  rw [e.1]
/-- A row of the table, cell by cell. -/
theorem krow_cells {H : Type} {enc : TypeId × Value → H} {w : World} {base : Nat} {sp : Nat → Bool} {held : Bool} {fuel : Nat} {cs : List Value} {s : Kd} {p : List MemPlace}
    (h : DataW.trod enc Tryd.prog w base sp held fuel 82 cs = some (s.dat, p)) : ∀ j, j < 6 → cs[j]? = s.cells[j]? := by
  obtain ⟨xs, n, _, hx, _, hxl, hf⟩ := DataW.trod_struct Tryd.underlying82 h
  have hx1 : xs.map (·.1) = [.lit (.string s.name), .lit (.int .u8 s.takes), .lit (.int .u8 s.leaves), .lit (.int .u8 s.cost), .lit (.bool s.hasA), .lit (.bool s.hasN)] := by
    have := congrArg Prod.fst hx
    simpa [Kd.dat] using this.symm
  have kb : Tryd.prog.cellsOf 4 = 1 := by kernel_rfl
  have ki : Tryd.prog.cellsOf 5 = 1 := by kernel_rfl
  have ks : Tryd.prog.cellsOf 9 = 1 := by kernel_rfl
  have h0 : DataW.trod enc Tryd.prog w base sp held n 9 ((cs.drop 0).take (Tryd.prog.cellsOf 9)) = xs[0]? := hf 0 _ rfl
  rw [ks] at h0
  obtain ⟨p0, q0⟩ := two_of hx1 0 _ rfl
  rw [q0] at h0
  have c0 := one_at (cell_str h0)
  have h1 : DataW.trod enc Tryd.prog w base sp held n 5 ((cs.drop 1).take (Tryd.prog.cellsOf 5)) = xs[1]? := hf 1 _ rfl
  rw [ki] at h1
  obtain ⟨p1, q1⟩ := two_of hx1 1 _ rfl
  rw [q1] at h1
  have c1 := one_at (cell_u8 h1)
  have h2 : DataW.trod enc Tryd.prog w base sp held n 5 ((cs.drop 2).take (Tryd.prog.cellsOf 5)) = xs[2]? := hf 2 _ rfl
  rw [ki] at h2
  obtain ⟨p2, q2⟩ := two_of hx1 2 _ rfl
  rw [q2] at h2
  have c2 := one_at (cell_u8 h2)
  have h3 : DataW.trod enc Tryd.prog w base sp held n 5 ((cs.drop 3).take (Tryd.prog.cellsOf 5)) = xs[3]? := hf 3 _ rfl
  rw [ki] at h3
  obtain ⟨p3, q3⟩ := two_of hx1 3 _ rfl
  rw [q3] at h3
  have c3 := one_at (cell_u8 h3)
  have h4 : DataW.trod enc Tryd.prog w base sp held n 4 ((cs.drop 4).take (Tryd.prog.cellsOf 4)) = xs[4]? := hf 4 _ rfl
  rw [kb] at h4
  obtain ⟨p4, q4⟩ := two_of hx1 4 _ rfl
  rw [q4] at h4
  have c4 := one_at (cell_bool h4)
  have h5 : DataW.trod enc Tryd.prog w base sp held n 4 ((cs.drop 5).take (Tryd.prog.cellsOf 4)) = xs[5]? := hf 5 _ rfl
  rw [kb] at h5
  obtain ⟨p5, q5⟩ := two_of hx1 5 _ rfl
  rw [q5] at h5
  have c5 := one_at (cell_bool h5)
  intro j hj
  match j, hj with
  | 0, _ => exact c0
  | 1, _ => exact c1
  | 2, _ => exact c2
  | 3, _ => exact c3
  | 4, _ => exact c4
  | 5, _ => exact c5

/-- A table, cell by cell. -/
theorem ktab_cells {H : Type} {enc : TypeId × Value → H} {w : World} {base : Nat} {sp : Nat → Bool} {held : Bool} {fuel : Nat} {t : TypeId} {n : Nat} {cs : List Value} {l : List Kd} {p : List MemPlace} (ht : Tryd.prog.underlying t = some (.array n 82)) (hct : Tryd.prog.cellsOf t = n * 6)
    (h : DataW.trod enc Tryd.prog w base sp held fuel t cs = some (.agg (l.map Kd.dat), p)) : ∀ k j, k < l.length → j < 6 → cs[k * 6 + j]? = (l.getD k kd0).cells[j]? := by
  have hce : Tryd.prog.cellsOf 82 = 6 := by kernel_rfl
  cases fuel with
  | zero => simp [DataW.trod] at h
  | succ fuel =>
    simp only [DataW.trod, ht, hce, hct] at h
    split at h
    · rename_i hl
      obtain ⟨xs, hm, hx⟩ := Option.map_eq_some_iff.1 h
      have hxs : xs.map (·.1) = l.map Kd.dat := by
        have := congrArg Prod.fst hx
        simpa using this
      have hxl : xs.length = n := by simpa using Lib.mapM_length hm
      have hll : l.length = n := by
        have := congrArg List.length hxs
        simp at this
        omega
      intro k j hk hj
      obtain ⟨b, hb, hf⟩ := Lib.mapM_at hm k k (by rw [List.getElem?_range (by omega)])
      obtain ⟨p', hp'⟩ := two_of hxs k (Kd.dat (l.getD k kd0)) (by rw [List.getElem?_map, List.getD_eq_getElem?_getD, List.getElem?_eq_getElem hk]; rfl)
      have hb2 : b = (Kd.dat (l.getD k kd0), p') := Option.some.inj (hb.symm.trans hp')
      rw [hb2] at hf
      have := krow_cells hf j hj
      rw [← this, List.getElem?_take_of_lt hj, List.getElem?_drop]
    · cases h

theorem kin_of {W : World} {rest : List (String × DataW Unit)} (h : laidMet Tryd.prog (("evenhand/code.kinds", .agg (kindT.map Kd.dat)) :: rest) W) : KinAt W := by
  have hg : Tryd.prog.globalNamed "evenhand/code.kinds" = some 0 := by kernel_rfl
  have hty : (Tryd.prog.globals[0]?).map (·.type) = some 108 := by kernel_rfl
  obtain ⟨ps, ⟨g', t', cs, fuel, p, q, hg', ht', hvar, hd, _, _⟩, _⟩ := h
  obtain rfl := Option.some.inj (hg.symm.trans hg')
  obtain rfl := Option.some.inj (hty.symm.trans ht')
  have hc := ktab_cells Tryd.underlying108 (by kernel_rfl) hd
  intro k hk
  have cell : ∀ j v, j < 6 → (kindT.getD k kd0).cells[j]? = some v → W.cell? ⟨0, k * 6 + j, none⟩ = some v := fun j v hj hv => by
    rw [World.var?_cell hg hvar (k * 6 + j)]
    have := hc k j hk hj
    rw [hv] at this
    simpa using this
  exact ⟨cell 0 _ (by decide) rfl, cell 1 _ (by decide) rfl, cell 2 _ (by decide) rfl, cell 3 _ (by decide) rfl, cell 4 _ (by decide) rfl, cell 5 _ (by decide) rfl⟩

theorem same_dat {H : Type} : (Rows.laid_evenhand_compile_same : DataW H) = Lib.tabData .i64 sameT := rfl
theorem tb_of_laid {W : World} (h : laidMetH Tryd.prog laid7 W) : TB W := by
  rw [MakeChecks.laidMetH_plain _ _ _ (by kernel_rfl)] at h
  have hP : Lib.TabIs Tryd.prog W "internal/strconv.uint64pow10" .u64 Lib.pow10Tab := Lib.tabIs_of_head (g := 1) (by kernel_rfl) (by kernel_rfl) Tryd.underlying139 Tryd.underlying121 (by kernel_rfl) (by kernel_rfl) h.tail.tail
  have hE : TabAt W 3 exprT := tabAt_of (by kernel_rfl) (by kernel_rfl) Tryd.underlying145 (by kernel_rfl) h.tail.tail.tail
  have hS : TabAt W 2 stmtT := tabAt_of (by kernel_rfl) (by kernel_rfl) Tryd.underlying144 (by kernel_rfl) h.tail.tail.tail.tail
  have hK : KinAt W := kin_of h.tail.tail.tail.tail.tail
  have hM : Lib.TabIs Tryd.prog W "evenhand/compile.same" .i64 sameT := Lib.tabIs_of_head (g := 4) (by kernel_rfl) (by kernel_rfl) Tryd.underlying146 Tryd.underlying3 (by kernel_rfl) (by kernel_rfl) h.tail.tail.tail.tail.tail.tail
  have hz : 7 ≤ W.heap.size := by
    obtain ⟨_, ⟨g', t', cs, fuel, p, q, hg', ht', hvar, hd, _, _⟩, _⟩ := h.tail
    have hg : Tryd.prog.globalNamed "math/bits.deBruijn64tab" = some 6 := by kernel_rfl
    obtain rfl := Option.some.inj (hg.symm.trans hg')
    unfold World.var? at hvar
    rw [hg] at hvar
    simp only [Option.bind_some] at hvar
    rcases Nat.lt_or_ge 6 W.heap.size with h' | h'
    · exact h'
    · rw [Array.getElem?_eq_none h'] at hvar
      cases hvar
  exact ⟨⟨_, by omega, Nat.le_refl _, hK, Lib.tabBelow_of_tabIs hP⟩, ⟨hz, hS, hE⟩, fun k hk => hM.cell (by kernel_rfl) k (by simpa [sameT] using hk)⟩

theorem i64_of_wf {n : Int} (h : (Lit.int .i64 n).wf = true) : I64 n := by
  have e1 : IntKind.i64.min = -9223372036854775808 := rfl
  have e2 : IntKind.i64.max = 9223372036854775807 := rfl
  simp [Lit.wf, e1, e2] at h
  exact h
theorem u8_of_wf {n : Int} (h : (Lit.int .u8 n).wf = true) : 0 ≤ n ∧ n ≤ 255 := by
  have e1 : IntKind.u8.min = 0 := rfl
  have e2 : IntKind.u8.max = 255 := rfl
  simp [Lit.wf, e1, e2] at h
  exact h

end Go.Proofs.YtnilklgnpfgieaaDoor
