/-
  What the row's listed variable gives a walk: the table of instructions; a start that meets the list.
-/
import Derived.Test.YtahclmofioiibaaDoorCoE
import Derived.Test.YtahclmofioiibaaDoorRows
import Derived.ProofKit
import Derived.LaidMore
import Derived.OpenShut
import Derived.Carry
import Derived.SizedLaws
import Derived.ChangeMaps5
import Derived.Lib.LaidTab
import Derived.Stop.LaidErr
import Derived.Stop.Joined
import Derived.Deep.Fields
namespace Go.Proofs.YtahclmofioiibaaDoor
open Go Go.ChangeShapes Go.WideShapes Go.ChangeAt Go.RowKit Go.Deep

theorem own : ownKnob Tryd.prog.godebug = none := by kernel_rfl
theorem laidOut : laidOutB Tryd.prog = true := by kernel_rfl

/-- The listed variables, as every row of this seat lists them. -/
abbrev laid1 : List (String × DataW Unit) := [("evenhand/code.kinds", Rows.laid_evenhand_code_kinds)]

theorem door_met (os : Os) (args : Array Value) : laidMetH Tryd.prog laid1 ((World.doorLaid Tryd.prog 80 os).forCall (fun _ _ => 0) ⟨#[], args, []⟩).memory :=
  laidMetH_of_parts3 (fuel := 8) (laidMet_of_run' 8 (by kernel_rfl) (by kernel_rfl)) (by kernel_rfl) (by kernel_rfl)

def Kd.cells (s : Kd) : List Value := [.string ⟨s.name.toArray⟩, .int .u8 s.takes, .int .u8 s.leaves, .int .u8 s.cost, .bool s.hasA, .bool s.hasN]
/-- The datum of a row of the table. -/
def Kd.dat {H : Type} (s : Kd) : DataW H := .agg [.lit (.string s.name), .lit (.int .u8 s.takes), .lit (.int .u8 s.leaves), .lit (.int .u8 s.cost), .lit (.bool s.hasA), .lit (.bool s.hasN)]
theorem kinds_dat {H : Type} : (Rows.laid_evenhand_code_kinds : DataW H) = .agg (kindT.map Kd.dat) := rfl

theorem cell_bool {H : Type} {enc : TypeId × Value → H} {w : World} {base : Nat} {sp : Nat → Bool} {held : Bool} {fuel : Nat} {cs : List Value} {b : Bool} {p : List MemPlace}
    (h : DataW.trod enc Tryd.prog w base sp held fuel 4 cs = some (.lit (.bool b), p)) : cs = [.bool b] := by
  obtain ⟨b', rfl, e⟩ := DataW.trod_bool Tryd.underlying4 h
  simp only [Prod.mk.injEq, DataW.lit.injEq, Lit.bool.injEq] at e
  rw [e.1]
theorem cell_u8 {H : Type} {enc : TypeId × Value → H} {w : World} {base : Nat} {sp : Nat → Bool} {held : Bool} {fuel : Nat} {cs : List Value} {n : Int} {p : List MemPlace}
    (h : DataW.trod enc Tryd.prog w base sp held fuel 5 cs = some (.lit (.int .u8 n), p)) : cs = [.int .u8 n] := by
  obtain ⟨n', rfl, e, _⟩ := DataW.trod_int Tryd.underlying5 h
  simp only [Prod.mk.injEq, DataW.lit.injEq, Lit.int.injEq, true_and] at e
  rw [e.1]
theorem cell_str {H : Type} {enc : TypeId × Value → H} {w : World} {base : Nat} {sp : Nat → Bool} {held : Bool} {fuel : Nat} {cs : List Value} {l : List UInt8} {p : List MemPlace}
    (h : DataW.trod enc Tryd.prog w base sp held fuel 9 cs = some (.lit (.string l), p)) : cs = [.string ⟨l.toArray⟩] := by
  obtain ⟨s, rfl, e, _⟩ := DataW.trod_string Tryd.underlying9 h
  simp only [Prod.mk.injEq, DataW.lit.injEq, Lit.string.injEq] at e
  rw [e.1]
theorem one_at {cs : List Value} {j : Nat} {v : Value} (h : (cs.drop j).take 1 = [v]) : cs[j]? = some v := by
  have := congrArg (·[0]?) h
  simpa [List.getElem?_take, List.getElem?_drop] using this

theorem two_of {α : Type} {xs : List (α × List MemPlace)} {l : List α} (h : xs.map (·.1) = l) (j : Nat) (d : α) (hd : l[j]? = some d) : ∃ p, xs[j]? = some (d, p) := by
  rw [← h, List.getElem?_map] at hd
  cases hx : xs[j]? with
  | none => rw [hx] at hd; cases hd
  | some x => rw [hx] at hd; simp only [Option.map_some, Option.some.injEq] at hd; exact ⟨x.2, by rw [← hd]⟩

/-- A row of the table, cell by cell. -/
theorem row_cells {H : Type} {enc : TypeId × Value → H} {w : World} {base : Nat} {sp : Nat → Bool} {held : Bool} {fuel : Nat} {cs : List Value} {s : Kd} {p : List MemPlace}
    (h : DataW.trod enc Tryd.prog w base sp held fuel 59 cs = some (s.dat, p)) : ∀ j, j < 6 → cs[j]? = s.cells[j]? := by
  obtain ⟨xs, n, _, hx, _, hxl, hf⟩ := DataW.trod_struct Tryd.underlying59 h
  have hx1 : xs.map (·.1) = [.lit (.string s.name), .lit (.int .u8 s.takes), .lit (.int .u8 s.leaves), .lit (.int .u8 s.cost), .lit (.bool s.hasA), .lit (.bool s.hasN)] := by
    have := congrArg Prod.fst hx
    simpa [Kd.dat] using this.symm
  have kb : Tryd.prog.cellsOf 4 = 1 := by kernel_rfl
  have ki : Tryd.prog.cellsOf 5 = 1 := by kernel_rfl
  have ks : Tryd.prog.cellsOf 9 = 1 := by kernel_rfl
  have h0 : DataW.trod enc Tryd.prog w base sp held n 9 ((cs.drop 0).take (Tryd.prog.cellsOf 9)) = xs[0]? := hf 0 _ rfl
  rw [ks] at h0
  obtain ⟨p0, q0⟩ := two_of hx1 0 _ rfl
  rw [q0] at h0
  have c0 := one_at (cell_str h0)
  have h1 : DataW.trod enc Tryd.prog w base sp held n 5 ((cs.drop 1).take (Tryd.prog.cellsOf 5)) = xs[1]? := hf 1 _ rfl
  rw [ki] at h1
  obtain ⟨p1, q1⟩ := two_of hx1 1 _ rfl
  rw [q1] at h1
  have c1 := one_at (cell_u8 h1)
  have h2 : DataW.trod enc Tryd.prog w base sp held n 5 ((cs.drop 2).take (Tryd.prog.cellsOf 5)) = xs[2]? := hf 2 _ rfl
  rw [ki] at h2
  obtain ⟨p2, q2⟩ := two_of hx1 2 _ rfl
  rw [q2] at h2
  have c2 := one_at (cell_u8 h2)
  have h3 : DataW.trod enc Tryd.prog w base sp held n 5 ((cs.drop 3).take (Tryd.prog.cellsOf 5)) = xs[3]? := hf 3 _ rfl
  rw [ki] at h3
  obtain ⟨p3, q3⟩ := two_of hx1 3 _ rfl
  rw [q3] at h3
  have c3 := one_at (cell_u8 h3)
  have h4 : DataW.trod enc Tryd.prog w base sp held n 4 ((cs.drop 4).take (Tryd.prog.cellsOf 4)) = xs[4]? := hf 4 _ rfl
  rw [kb] at h4
  obtain ⟨p4, q4⟩ := two_of hx1 4 _ rfl
  rw [q4] at h4
  have c4 := one_at (cell_bool h4)
  have h5 : DataW.trod enc Tryd.prog w base sp held n 4 ((cs.drop 5).take (Tryd.prog.cellsOf 4)) = xs[5]? := hf 5 _ rfl
  rw [kb] at h5
  obtain ⟨p5, q5⟩ := two_of hx1 5 _ rfl
  rw [q5] at h5
  have c5 := one_at (cell_bool h5)
  intro j hj
  match j, hj with
  | 0, _ => exact c0
  | 1, _ => exact c1
  | 2, _ => exact c2
  | 3, _ => exact c3
  | 4, _ => exact c4
  | 5, _ => exact c5

/-- A table, cell by cell. -/
theorem tab_cells {H : Type} {enc : TypeId × Value → H} {w : World} {base : Nat} {sp : Nat → Bool} {held : Bool} {fuel : Nat} {t : TypeId} {n : Nat} {cs : List Value} {l : List Kd} {p : List MemPlace} (ht : Tryd.prog.underlying t = some (.array n 59)) (hct : Tryd.prog.cellsOf t = n * 6)
    (h : DataW.trod enc Tryd.prog w base sp held fuel t cs = some (.agg (l.map Kd.dat), p)) : ∀ k j, k < l.length → j < 6 → cs[k * 6 + j]? = (l.getD k kd0).cells[j]? := by
  have hce : Tryd.prog.cellsOf 59 = 6 := by kernel_rfl
  cases fuel with
  | zero => simp [DataW.trod] at h
  | succ fuel =>
    simp only [DataW.trod, ht, hce, hct] at h
    split at h
    · rename_i hl
      obtain ⟨xs, hm, hx⟩ := Option.map_eq_some_iff.1 h
      have hxs : xs.map (·.1) = l.map Kd.dat := by
        have := congrArg Prod.fst hx
        simpa using this
      have hxl : xs.length = n := by simpa using Lib.mapM_length hm
      have hll : l.length = n := by
        have := congrArg List.length hxs
        simp at this
        omega
      intro k j hk hj
      obtain ⟨b, hb, hf⟩ := Lib.mapM_at hm k k (by rw [List.getElem?_range (by omega)])
      obtain ⟨p', hp'⟩ := two_of hxs k (Kd.dat (l.getD k kd0)) (by rw [List.getElem?_map, List.getD_eq_getElem?_getD, List.getElem?_eq_getElem hk]; rfl)
      have hb2 : b = (Kd.dat (l.getD k kd0), p') := Option.some.inj (hb.symm.trans hp')
      rw [hb2] at hf
      have := row_cells hf j hj
      rw [← this, List.getElem?_take_of_lt hj, List.getElem?_drop]
    · cases h

theorem kin_of {W : World} {rest : List (String × DataW Unit)} (h : laidMet Tryd.prog (("evenhand/code.kinds", .agg (kindT.map Kd.dat)) :: rest) W) : KinAt W := by
  have hg : Tryd.prog.globalNamed "evenhand/code.kinds" = some 0 := by kernel_rfl
  have hty : (Tryd.prog.globals[0]?).map (·.type) = some 80 := by kernel_rfl
  obtain ⟨ps, ⟨g', t', cs, fuel, p, q, hg', ht', hvar, hd, _, _⟩, _⟩ := h
  obtain rfl := Option.some.inj (hg.symm.trans hg')
  obtain rfl := Option.some.inj (hty.symm.trans ht')
  have hc := tab_cells Tryd.underlying80 (by kernel_rfl) hd
  intro k hk
  have cell : ∀ j v, j < 6 → (kindT.getD k kd0).cells[j]? = some v → W.cell? ⟨0, k * 6 + j, none⟩ = some v := fun j v hj hv => by
    rw [World.var?_cell hg hvar (k * 6 + j)]
    have := hc k j hk hj
    rw [hv] at this
    simpa using this
  exact ⟨cell 0 _ (by decide) rfl, cell 1 _ (by decide) rfl, cell 2 _ (by decide) rfl, cell 3 _ (by decide) rfl, cell 4 _ (by decide) rfl, cell 5 _ (by decide) rfl⟩

theorem i64_of_wf {n : Int} (h : (Lit.int .i64 n).wf = true) : I64 n := by
  have e1 : IntKind.i64.min = -9223372036854775808 := rfl
  have e2 : IntKind.i64.max = 9223372036854775807 := rfl
  simp [Lit.wf, e1, e2] at h
  exact h

theorem lt_of_cell {W : World} {a : Addr} {v : Value} (h : W.cell? a = some v) : a.block < W.heap.size := by
  rcases Nat.lt_or_ge a.block W.heap.size with h' | h'
  · exact h'
  · simp [World.cell?, Array.getElem?_eq_none h'] at h

theorem ct_of_laid {W : World} (h : laidMetH Tryd.prog laid1 W) : CT W.heap.size W := by
  rw [MakeChecks.laidMetH_plain _ _ _ (by kernel_rfl)] at h
  have hK : KinAt W := kin_of h
  exact ⟨lt_of_cell (hK 0 (by decide)).1, Nat.le_refl _, hK⟩
end Go.Proofs.YtahclmofioiibaaDoor
