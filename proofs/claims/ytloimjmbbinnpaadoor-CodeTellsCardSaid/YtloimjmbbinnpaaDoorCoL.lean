/-
  What the rows' listed variables give a walk: the table of instructions, FormatInt's table; a start that meets the list; a slice of instructions that came in.
-/
import Derived.Test.YtloimjmbbinnpaaDoorCoI
import Derived.Test.YtloimjmbbinnpaaDoorRows
import Derived.ProofKit
import Derived.LaidMore
import Derived.OpenShut
import Derived.Carry
import Derived.SizedLaws
import Derived.ChangeMaps5
import Derived.Lib.LaidTab
import Derived.Stop.LaidErr
import Derived.Stop.Joined
import Derived.Deep.Fields
namespace Go.Proofs.YtloimjmbbinnpaaDoor
open Go Go.ChangeShapes Go.WideShapes Go.ChangeAt Go.RowKit Go.Deep

theorem own : ownKnob Tryd.prog.godebug = none := by kernel_rfl
theorem laidOut : laidOutB Tryd.prog = true := by kernel_rfl

/-- The listed variables, as every row of this seat lists them. -/
abbrev laid4 : List (String × DataW Unit) := [("math/bits.deBruijn32tab", Rows.laid_math_bits_deBruijn32tab), ("math/bits.deBruijn64tab", Rows.laid_math_bits_deBruijn64tab), ("internal/strconv.uint64pow10", Rows.laid_internal_strconv_uint64pow10), ("evenhand/code.kinds", Rows.laid_evenhand_code_kinds)]

theorem door_met (os : Os) (args : Array Value) : laidMetH Tryd.prog laid4 ((World.doorLaid Tryd.prog 55 os).forCall (fun _ _ => 0) ⟨#[], args, []⟩).memory :=
  laidMetH_of_parts3 (fuel := 8) (laidMet_of_run' 8 (by kernel_rfl) (by kernel_rfl)) (by kernel_rfl) (by kernel_rfl)

def Kd.cells (s : Kd) : List Value := [.string ⟨s.name.toArray⟩, .int .u8 s.takes, .int .u8 s.leaves, .int .u8 s.cost, .bool s.hasA, .bool s.hasN]
/-- The datum of a row of the table. -/
def Kd.dat {H : Type} (s : Kd) : DataW H := .agg [.lit (.string s.name), .lit (.int .u8 s.takes), .lit (.int .u8 s.leaves), .lit (.int .u8 s.cost), .lit (.bool s.hasA), .lit (.bool s.hasN)]
theorem kinds_dat {H : Type} : (Rows.laid_evenhand_code_kinds : DataW H) = .agg (kindT.map Kd.dat) := rfl

theorem cell_bool {H : Type} {enc : TypeId × Value → H} {w : World} {base : Nat} {sp : Nat → Bool} {held : Bool} {fuel : Nat} {cs : List Value} {b : Bool} {p : List MemPlace}
    (h : DataW.trod enc Tryd.prog w base sp held fuel 4 cs = some (.lit (.bool b), p)) : cs = [.bool b] := by
  obtain ⟨b', rfl, e⟩ := DataW.trod_bool Tryd.underlying4 h
  simp only [Prod.mk.injEq, DataW.lit.injEq, Lit.bool.injEq] at e
  rw [e.1]
theorem cell_u8 {H : Type} {enc : TypeId × Value → H} {w : World} {base : Nat} {sp : Nat → Bool} {held : Bool} {fuel : Nat} {cs : List Value} {n : Int} {p : List MemPlace}
    (h : DataW.trod enc Tryd.prog w base sp held fuel 5 cs = some (.lit (.int .u8 n), p)) : cs = [.int .u8 n] := by
  obtain ⟨n', rfl, e, _⟩ := DataW.trod_int Tryd.underlying5 h
  simp only [Prod.mk.injEq, DataW.lit.injEq, Lit.int.injEq, true_and] at e
  rw [e.1]
theorem cell_str {H : Type} {enc : TypeId × Value → H} {w : World} {base : Nat} {sp : Nat → Bool} {held : Bool} {fuel : Nat} {cs : List Value} {l : List UInt8} {p : List MemPlace}
    (h : DataW.trod enc Tryd.prog w base sp held fuel 9 cs = some (.lit (.string l), p)) : cs = [.string ⟨l.toArray⟩] := by
  obtain ⟨s, rfl, e, _⟩ := DataW.trod_string Tryd.underlying9 h
  simp only [Prod.mk.injEq, DataW.lit.injEq, Lit.string.injEq] at e
  rw [e.1]
theorem one_at {cs : List Value} {j : Nat} {v : Value} (h : (cs.drop j).take 1 = [v]) : cs[j]? = some v := by
  have := congrArg (·[0]?) h
  simpa [List.getElem?_take, List.getElem?_drop] using this

theorem two_of {α : Type} {xs : List (α × List MemPlace)} {l : List α} (h : xs.map (·.1) = l) (j : Nat) (d : α) (hd : l[j]? = some d) : ∃ p, xs[j]? = some (d, p) := by
  rw [← h, List.getElem?_map] at hd
  cases hx : xs[j]? with
  | none => rw [hx] at hd; cases hd
  | some x => rw [hx] at hd; simp only [Option.map_some, Option.some.injEq] at hd; exact ⟨x.2, by rw [← hd]⟩

/-- A row of the table, cell by cell. -/
theorem row_cells {H : Type} {enc : TypeId × Value → H} {w : World} {base : Nat} {sp : Nat → Bool} {held : Bool} {fuel : Nat} {cs : List Value} {s : Kd} {p : List MemPlace}
    (h : DataW.trod enc Tryd.prog w base sp held fuel 39 cs = some (s.dat, p)) : ∀ j, j < 6 → cs[j]? = s.cells[j]? := by
  obtain ⟨xs, n, _, hx, _, hxl, hf⟩ := DataW.trod_struct Tryd.underlying39 h
  have hx1 : xs.map (·.1) = [.lit (.string s.name), .lit (.int .u8 s.takes), .lit (.int .u8 s.leaves), .lit (.int .u8 s.cost), .lit (.bool s.hasA), .lit (.bool s.hasN)] := by
    have := congrArg Prod.fst hx
    simpa [Kd.dat] using this.symm
  have kb : Tryd.prog.cellsOf 4 = 1 := by kernel_rfl
  have ki : Tryd.prog.cellsOf 5 = 1 := by kernel_rfl
  have ks : Tryd.prog.cellsOf 9 = 1 := by kernel_rfl
  have h0 : DataW.trod enc Tryd.prog w base sp held n 9 ((cs.drop 0).take (Tryd.prog.cellsOf 9)) = xs[0]? := hf 0 _ rfl
  rw [ks] at h0
  obtain ⟨p0, q0⟩ := two_of hx1 0 _ rfl
  rw [q0] at h0
  have c0 := one_at (cell_str h0)
  have h1 : DataW.trod enc Tryd.prog w base sp held n 5 ((cs.drop 1).take (Tryd.prog.cellsOf 5)) = xs[1]? := hf 1 _ rfl
  rw [ki] at h1
  obtain ⟨p1, q1⟩ := two_of hx1 1 _ rfl
  rw [q1] at h1
  have c1 := one_at (cell_u8 h1)
  have h2 : DataW.trod enc Tryd.prog w base sp held n 5 ((cs.drop 2).take (Tryd.prog.cellsOf 5)) = xs[2]? := hf 2 _ rfl
  rw [ki] at h2
  obtain ⟨p2, q2⟩ := two_of hx1 2 _ rfl
  rw [q2] at h2
  have c2 := one_at (cell_u8 h2)
  have h3 : DataW.trod enc Tryd.prog w base sp held n 5 ((cs.drop 3).take (Tryd.prog.cellsOf 5)) = xs[3]? := hf 3 _ rfl
  rw [ki] at h3
  obtain ⟨p3, q3⟩ := two_of hx1 3 _ rfl
  rw [q3] at h3
  have c3 := one_at (cell_u8 h3)
  have h4 : DataW.trod enc Tryd.prog w base sp held n 4 ((cs.drop 4).take (Tryd.prog.cellsOf 4)) = xs[4]? := hf 4 _ rfl
  rw [kb] at h4
  obtain ⟨p4, q4⟩ := two_of hx1 4 _ rfl
  rw [q4] at h4
  have c4 := one_at (cell_bool h4)
  have h5 : DataW.trod enc Tryd.prog w base sp held n 4 ((cs.drop 5).take (Tryd.prog.cellsOf 4)) = xs[5]? := hf 5 _ rfl
  rw [kb] at h5
  obtain ⟨p5, q5⟩ := two_of hx1 5 _ rfl
  rw [q5] at h5
  have c5 := one_at (cell_bool h5)
  intro j hj
  match j, hj with
  | 0, _ => exact c0
  | 1, _ => exact c1
  | 2, _ => exact c2
  | 3, _ => exact c3
  | 4, _ => exact c4
  | 5, _ => exact c5

/-- A table, cell by cell. -/
theorem tab_cells {H : Type} {enc : TypeId × Value → H} {w : World} {base : Nat} {sp : Nat → Bool} {held : Bool} {fuel : Nat} {t : TypeId} {n : Nat} {cs : List Value} {l : List Kd} {p : List MemPlace} (ht : Tryd.prog.underlying t = some (.array n 39)) (hct : Tryd.prog.cellsOf t = n * 6)
    (h : DataW.trod enc Tryd.prog w base sp held fuel t cs = some (.agg (l.map Kd.dat), p)) : ∀ k j, k < l.length → j < 6 → cs[k * 6 + j]? = (l.getD k kd0).cells[j]? := by
  have hce : Tryd.prog.cellsOf 39 = 6 := by kernel_rfl
  cases fuel with
  | zero => simp [DataW.trod] at h
  | succ fuel =>
    simp only [DataW.trod, ht, hce, hct] at h
    split at h
    · rename_i hl
      obtain ⟨xs, hm, hx⟩ := Option.map_eq_some_iff.1 h
      have hxs : xs.map (·.1) = l.map Kd.dat := by
        have := congrArg Prod.fst hx
        simpa using this
      have hxl : xs.length = n := by simpa using Lib.mapM_length hm
      have hll : l.length = n := by
        have := congrArg List.length hxs
        simp at this
        omega
      intro k j hk hj
      obtain ⟨b, hb, hf⟩ := Lib.mapM_at hm k k (by rw [List.getElem?_range (by omega)])
      obtain ⟨p', hp'⟩ := two_of hxs k (Kd.dat (l.getD k kd0)) (by rw [List.getElem?_map, List.getD_eq_getElem?_getD, List.getElem?_eq_getElem hk]; rfl)
      have hb2 : b = (Kd.dat (l.getD k kd0), p') := Option.some.inj (hb.symm.trans hp')
      rw [hb2] at hf
      have := row_cells hf j hj
      rw [← this, List.getElem?_take_of_lt hj, List.getElem?_drop]
    · cases h

theorem kin_of {W : World} {rest : List (String × DataW Unit)} (h : laidMet Tryd.prog (("evenhand/code.kinds", .agg (kindT.map Kd.dat)) :: rest) W) : KinAt W := by
  have hg : Tryd.prog.globalNamed "evenhand/code.kinds" = some 0 := by kernel_rfl
  have hty : (Tryd.prog.globals[0]?).map (·.type) = some 53 := by kernel_rfl
  obtain ⟨ps, ⟨g', t', cs, fuel, p, q, hg', ht', hvar, hd, _, _⟩, _⟩ := h
  obtain rfl := Option.some.inj (hg.symm.trans hg')
  obtain rfl := Option.some.inj (hty.symm.trans ht')
  have hc := tab_cells Tryd.underlying53 (by kernel_rfl) hd
  intro k hk
  have cell : ∀ j v, j < 6 → (kindT.getD k kd0).cells[j]? = some v → W.cell? ⟨0, k * 6 + j, none⟩ = some v := fun j v hj hv => by
    rw [World.var?_cell hg hvar (k * 6 + j)]
    have := hc k j hk hj
    rw [hv] at this
    simpa using this
  exact ⟨cell 0 _ (by decide) rfl, cell 1 _ (by decide) rfl, cell 2 _ (by decide) rfl, cell 3 _ (by decide) rfl, cell 4 _ (by decide) rfl, cell 5 _ (by decide) rfl⟩

theorem ct_of_laid {W : World} (h : laidMetH Tryd.prog laid4 W) : CT W.heap.size W := by
  rw [MakeChecks.laidMetH_plain _ _ _ (by kernel_rfl)] at h
  have hP : Lib.TabIs Tryd.prog W "internal/strconv.uint64pow10" .u64 Lib.pow10Tab := Lib.tabIs_of_head (g := 1) (by kernel_rfl) (by kernel_rfl) Tryd.underlying66 Tryd.underlying60 (by kernel_rfl) (by kernel_rfl) h.tail.tail
  have hK : KinAt W := kin_of h.tail.tail.tail
  have hz : 4 ≤ W.heap.size := by
    obtain ⟨_, ⟨g', t', cs, fuel, p, q, hg', ht', hvar, hd, _, _⟩, _⟩ := h.tail
    have hg : Tryd.prog.globalNamed "math/bits.deBruijn64tab" = some 3 := by kernel_rfl
    obtain rfl := Option.some.inj (hg.symm.trans hg')
    unfold World.var? at hvar
    rw [hg] at hvar
    simp only [Option.bind_some] at hvar
    rcases Nat.lt_or_ge 3 W.heap.size with h' | h'
    · exact h'
    · rw [Array.getElem?_eq_none h'] at hvar
      cases hvar
  exact ⟨hz, Nat.le_refl _, hK, Lib.tabBelow_of_tabIs hP⟩

theorem i64_of_wf {n : Int} (h : (Lit.int .i64 n).wf = true) : I64 n := by
  have e1 : IntKind.i64.min = -9223372036854775808 := rfl
  have e2 : IntKind.i64.max = 9223372036854775807 := rfl
  simp [Lit.wf, e1, e2] at h
  exact h

theorem lt_of_cell {W : World} {a : Addr} {v : Value} (h : W.cell? a = some v) : a.block < W.heap.size := by
  rcases Nat.lt_or_ge a.block W.heap.size with h' | h'
  · exact h'
  · simp [World.cell?, Array.getElem?_eq_none h'] at h

section
variable {H : Type} {enc : TypeId × Value → H} {W : World} {sp : Nat → Bool} {held : Bool}
theorem field_one {cs : List Value} {n j : Nat} {t : TypeId} {x : DataW H × List MemPlace} (hlen : j < cs.length) (h1 : Tryd.prog.cellsOf t = 1) (h : DataW.trod enc Tryd.prog W 0 sp held n t ((cs.drop j).take (Tryd.prog.cellsOf t)) = some x) :
    ∃ v, cs[j]? = some v ∧ DataW.trod enc Tryd.prog W 0 sp held n t [v] = some x := by
  rw [h1, List.drop_eq_getElem_cons hlen] at h
  exact ⟨cs[j], List.getElem?_eq_getElem hlen, h⟩

theorem int_one {n : Nat} {t : TypeId} (ht : Tryd.prog.underlying t = some (.int .i64)) {v : Value} {x : DataW H × List MemPlace} (h : DataW.trod enc Tryd.prog W 0 sp held n t [v] = some x) : ∃ k : Int, v = .int .i64 k ∧ I64 k := by
  obtain ⟨k, e, _, hm⟩ := DataW.trod_int ht h
  injection e with e _
  exact ⟨k, e, i64_of_wf hm⟩

/-- A slice that came in: its elements' cells. -/
theorem slice_in {t e : TypeId} {c fuel : Nat} {cs : List Value} {x : DataW H × List MemPlace} (ht : Tryd.prog.underlying t = some (.slice e)) (hc : Tryd.prog.cellsOf e = c) (hc0 : 0 < c) (h : DataW.trod enc Tryd.prog W 0 sp held fuel t cs = some x) :
    ∃ A n cap m, cs = [.slice A n cap] ∧ n ≤ cap ∧ cap ≤ 9223372036854775807 ∧ m < fuel ∧ (A = none → n = 0) ∧ (0 < n → ∃ b o, A = some ⟨b, o, none⟩ ∧ b < W.heap.size ∧
      ∀ i, i < n → ∃ (cs' : List Value) (y : DataW H × List MemPlace), cs'.length = c ∧ (∀ j, j < c → W.cell? ⟨b, o + i * c + j, none⟩ = cs'[j]?) ∧ DataW.trod enc Tryd.prog W 0 sp held m e cs' = some y) := by
  rcases DataW.trod_slice ht h with ⟨rfl, _⟩ | ⟨a, len, cap, elems, rest, n, hf, rfl, _, _, hl, hm, hlen, hel, _, _⟩
  · refine ⟨none, 0, 0, 0, rfl, Nat.le_refl _, by decide, ?_, fun _ => rfl, fun h => by omega⟩
    cases fuel with
    | zero => simp [DataW.trod] at h
    | succ n => omega
  · refine ⟨some a, len, cap, n, rfl, hl, by unfold maxLen at hm; omega, by omega, (fun h => by cases h), fun hn => ?_⟩
    have one : ∀ i, i < len → ∃ (cs' : List Value) (y : DataW H × List MemPlace), cs'.length = c ∧ (∀ j, j < c → W.cell? ((a.add (i * c)).add j) = cs'[j]?) ∧ DataW.trod enc Tryd.prog W 0 sp held n e cs' = some y := by
      intro i hi
      have h1 := hel i hi
      rw [List.getElem?_eq_getElem (by omega), hc] at h1
      obtain ⟨cs', h2, h3⟩ := Option.bind_eq_some_iff.1 h1
      obtain ⟨_, h4, h5⟩ := World.cells?_some h2
      exact ⟨cs', _, h4, h5, h3⟩
    obtain ⟨cs0, _, hl0, hc0', _⟩ := one 0 hn
    have hv0 := hc0' 0 hc0
    rw [List.getElem?_eq_getElem (by omega)] at hv0
    have hb := lt_of_cell hv0
    have hspot := World.cell?_spot hv0
    obtain ⟨b, o, spot⟩ := a
    simp [Addr.add] at hspot hb
    subst hspot
    refine ⟨b, o, rfl, hb, fun i hi => ?_⟩
    obtain ⟨cs', y, h1, h2, h3⟩ := one i hi
    refine ⟨cs', y, h1, fun j hj => ?_, h3⟩
    rw [← h2 j hj]
    congr 1
    unfold Addr.add
    split <;> split <;> simp_all

theorem ins_gather {n b o : Nat} (h : ∀ i, i < n → ∃ op a m : Int, W.cell? ⟨b, o + i * 3, none⟩ = some (.int .i64 op) ∧ W.cell? ⟨b, o + i * 3 + 1, none⟩ = some (.int .i64 a) ∧ W.cell? ⟨b, o + i * 3 + 2, none⟩ = some (.int .i64 m) ∧ (I64 op ∧ I64 a ∧ I64 m)) : ∀ j, j ≤ n → ∃ l : List (Int × Int × Int), l.length = j ∧ InsIn W l b (o + (n - j) * 3) := by
  intro j
  induction j with
  | zero => exact fun _ => ⟨[], rfl, trivial⟩
  | succ j ih =>
    intro hj
    obtain ⟨r, hr, hi⟩ := ih (by omega)
    obtain ⟨op, a, m, h0, h1, h2, h3⟩ := h (n - (j + 1)) (by omega)
    exact ⟨(op, a, m) :: r, by simp [hr], h0, h1, h2, h3, by rw [show o + (n - (j + 1)) * 3 + 3 = o + (n - j) * 3 by omega]; exact hi⟩
/-- A slice of instructions that came in. -/
theorem ins_open {fuel : Nat} {cs : List Value} {x : DataW H × List MemPlace} (h : DataW.trod enc Tryd.prog W 0 sp held fuel 30 cs = some x) : ∃ A n cap l, cs = [.slice A n cap] ∧ l.length = n ∧ InV W.heap.size W (.slice A n cap) l := by
  obtain ⟨A, n, cap, m, rfl, h1, h2, hm, _, hr⟩ := slice_in Tryd.underlying30 (show Tryd.prog.cellsOf 33 = 3 by kernel_rfl) (by decide) h
  by_cases hn : 0 < n
  · obtain ⟨b, o, rfl, hb, he⟩ := hr hn
    obtain ⟨l, hl, hi⟩ := ins_gather (W := W) (n := n) (b := b) (o := o) (fun i hi => by
      obtain ⟨cs', y, hl, hc, ht⟩ := he i hi
      obtain ⟨xs, k, hk, _, _, hxl, hf⟩ := DataW.trod_struct Tryd.underlying33 ht
      have hxl3 : xs.length = 3 := hxl
      obtain ⟨v0, c0, t0⟩ := field_one (j := 0) (by omega) (show Tryd.prog.cellsOf 3 = 1 by kernel_rfl) ((hf 0 _ rfl).trans (List.getElem?_eq_getElem (by omega)))
      obtain ⟨v1, c1, t1⟩ := field_one (j := 1) (by omega) (show Tryd.prog.cellsOf 3 = 1 by kernel_rfl) ((hf 1 _ rfl).trans (List.getElem?_eq_getElem (by omega)))
      obtain ⟨v2, c2, t2⟩ := field_one (j := 2) (by omega) (show Tryd.prog.cellsOf 2 = 1 by kernel_rfl) ((hf 2 _ rfl).trans (List.getElem?_eq_getElem (by omega)))
      obtain ⟨op, rfl, w0⟩ := int_one Tryd.underlying3 t0
      obtain ⟨a, rfl, w1⟩ := int_one Tryd.underlying3 t1
      obtain ⟨m, rfl, w2⟩ := int_one Tryd.underlying2 t2
      exact ⟨op, a, m, by rw [← c0, ← hc 0 (by decide)]; rfl, by rw [← c1, ← hc 1 (by decide)], by rw [← c2, ← hc 2 (by decide)], w0, w1, w2⟩) n (Nat.le_refl _)
    exact ⟨_, _, _, l, rfl, hl, _, cap, by rw [hl], by rw [hl]; exact h1, h2, fun _ => ⟨b, o, rfl, hb, by simpa using hi⟩⟩
  · obtain rfl : n = 0 := by omega
    exact ⟨_, _, _, [], rfl, rfl, A, cap, rfl, Nat.zero_le _, h2, fun h => by simp at h⟩
end
end Go.Proofs.YtloimjmbbinnpaaDoor
