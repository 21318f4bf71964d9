/-
  What an instruction is, plainly: the rows of the table; the text of an instruction; the tables that a call reads.
-/
import Derived.Test.YtnilklgnpfgieaaDoorCoA
import Derived.Test.YtnilklgnpfgieaaDoorTreeJ
import Derived.Test.YtnilklgnpfgieaaDoorShelf
import Derived.Lib.AppendIntMem
import Derived.Deep.DeepCutAuto
namespace Go.Proofs.YtnilklgnpfgieaaDoor
open Go Go.RowKit Go.Lib

/-- A row: name, takes, leaves, cost, whether A and N mean something. -/
structure Kd where
  name : List UInt8
  takes : Nat
  leaves : Nat
  cost : Nat
  hasA : Bool
  hasN : Bool
def kd0 : Kd := ⟨[63], 0, 0, 0, false, false⟩
def kindT : List Kd :=
  [⟨[63], 0, 0, 0, false, false⟩,
   ⟨[112, 117, 115, 104], 0, 1, 1, false, true⟩,
   ⟨[108, 111, 97, 100], 0, 1, 1, true, false⟩,
   ⟨[115, 116, 111, 114, 101], 1, 0, 1, true, false⟩,
   ⟨[110, 101, 103], 1, 1, 1, false, false⟩,
   ⟨[110, 111, 116], 1, 1, 1, false, false⟩,
   ⟨[97, 100, 100], 2, 1, 1, false, false⟩,
   ⟨[115, 117, 98], 2, 1, 1, false, false⟩,
   ⟨[109, 117, 108], 2, 1, 3, false, false⟩,
   ⟨[100, 105, 118], 2, 1, 8, false, false⟩,
   ⟨[109, 111, 100], 2, 1, 8, false, false⟩,
   ⟨[108, 101, 115, 115], 2, 1, 1, false, false⟩,
   ⟨[115, 97, 109, 101], 2, 1, 1, false, false⟩,
   ⟨[97, 110, 100], 2, 1, 1, false, false⟩,
   ⟨[111, 114], 2, 1, 1, false, false⟩,
   ⟨[106, 117, 109, 112], 0, 0, 1, true, false⟩,
   ⟨[122, 101, 114, 111], 1, 0, 1, true, false⟩,
   ⟨[99, 97, 108, 108], 0, 1, 10, true, false⟩,
   ⟨[114, 101, 116, 117, 114, 110], 1, 0, 2, false, false⟩,
   ⟨[112, 114, 105, 110, 116], 1, 0, 5, false, false⟩,
   ⟨[107, 101, 101, 112], 1, 0, 5, false, false⟩,
   ⟨[105, 110, 112, 117, 116], 0, 0, 4, true, true⟩,
   ⟨[97, 114, 114, 97, 121], 0, 0, 20, true, true⟩,
   ⟨[103, 101, 116], 1, 1, 3, true, false⟩,
   ⟨[115, 101, 116], 2, 0, 3, true, false⟩,
   ⟨[99, 108, 111, 99, 107], 0, 1, 2, false, false⟩]
/-- Is op from 1 to 25? -/
def knownB (op : Int) : Bool := decide (1 ≤ op) && decide (op ≤ 25)
/-- The row of an op. -/
def kdOf (op : Int) : Kd := if knownB op = true then kindT.getD op.toNat kd0 else kd0
def Kd.val (s : Kd) : Value := .agg #[.string ⟨s.name.toArray⟩, .int .u8 s.takes, .int .u8 s.leaves, .int .u8 s.cost, .bool s.hasA, .bool s.hasN]

/-- A table lies at a block: six cells a row. -/
def KinAt (w : World) : Prop :=
  ∀ k, k < 26 → w.cell? ⟨0, k * 6, none⟩ = some (.string ⟨(kindT.getD k kd0).name.toArray⟩) ∧ w.cell? ⟨0, k * 6 + 1, none⟩ = some (.int .u8 (kindT.getD k kd0).takes) ∧ w.cell? ⟨0, k * 6 + 2, none⟩ = some (.int .u8 (kindT.getD k kd0).leaves) ∧
    w.cell? ⟨0, k * 6 + 3, none⟩ = some (.int .u8 (kindT.getD k kd0).cost) ∧ w.cell? ⟨0, k * 6 + 4, none⟩ = some (.bool (kindT.getD k kd0).hasA) ∧ w.cell? ⟨0, k * 6 + 5, none⟩ = some (.bool (kindT.getD k kd0).hasN)
/-- The listed variables that the calls read, wherever nothing below lo has turned. -/
structure CT (lo : Nat) (w : World) : Prop where
  le : 4 ≤ lo
  lw : lo ≤ w.heap.size
  kin : KinAt w
  tab : TabBelow Tryd.prog lo w "internal/strconv.uint64pow10" .u64 pow10Tab
theorem CT.on {lo : Nat} {w w' : World} (h : CT lo w) (hb : Below lo w w') : CT lo w' := by
  have hg : 0 < lo := Nat.lt_of_lt_of_le (by decide) h.le
  refine ⟨h.le, Nat.le_trans h.lw hb.size, fun k hk => ?_, h.tab.on hb⟩
  obtain ⟨h0, h1, h2, h3, h4, h5⟩ := h.kin k hk
  exact ⟨(hb.cell (p := ⟨_, k * 6, none⟩) hg).trans h0, (hb.cell (p := ⟨_, k * 6 + 1, none⟩) hg).trans h1, (hb.cell (p := ⟨_, k * 6 + 2, none⟩) hg).trans h2, (hb.cell (p := ⟨_, k * 6 + 3, none⟩) hg).trans h3,
    (hb.cell (p := ⟨_, k * 6 + 4, none⟩) hg).trans h4, (hb.cell (p := ⟨_, k * 6 + 5, none⟩) hg).trans h5⟩
theorem CT.step {lo : Nat} {w w' : World} (h : CT lo w) (hb : Below w.heap.size w w') : CT lo w' := h.on (hb.mono h.lw)

theorem kd_known {op : Int} (h : knownB op = true) : ∃ k : Nat, op = (k : Int) ∧ 1 ≤ k ∧ k ≤ 25 ∧ kdOf op = kindT.getD k kd0 := by
  have h' := h
  unfold knownB at h'
  simp only [Bool.and_eq_true, decide_eq_true_eq] at h'
  refine ⟨op.toNat, by omega, by omega, by omega, ?_⟩
  unfold kdOf
  rw [if_pos h]
theorem kd_not {op : Int} (h : knownB op = false) : kdOf op = kd0 := by
  unfold kdOf
  rw [if_neg (by rw [h]; decide)]
theorem kd_all : ∀ k : Fin 26, (kindT.getD k.val kd0).takes ≤ 2 ∧ (kindT.getD k.val kd0).leaves ≤ 1 ∧ (kindT.getD k.val kd0).cost ≤ 20 ∧ (kindT.getD k.val kd0).name.length ≤ 6 := by decide
theorem kd_ok (op : Int) : (kdOf op).takes ≤ 2 ∧ (kdOf op).leaves ≤ 1 ∧ (kdOf op).cost ≤ 20 ∧ (kdOf op).name.length ≤ 6 := by
  cases h : knownB op with
  | false => rw [kd_not h]; decide
  | true =>
    obtain ⟨k, _, _, hk, e⟩ := kd_known h
    rw [e]
    exact kd_all ⟨k, by omega⟩

/-- What an instruction's line tells behind its place. -/
def insT (op a n : Int) : List UInt8 := (kdOf op).name ++ ((if (kdOf op).hasA = true then 32 :: itoa a else []) ++ (if (kdOf op).hasN = true then 32 :: itoa n else []))
def lineT (place op a n : Int) : List UInt8 := itoa place ++ (32 :: (insT op a n ++ [10]))
/-- The lines of instructions, from a place on. -/
def textT : Int → List (Int × Int × Int) → List UInt8
  | _, [] => []
  | p, (op, a, n) :: r => lineT p op a n ++ textT (p + 1) r
end Go.Proofs.YtnilklgnpfgieaaDoor
