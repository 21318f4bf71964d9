/-
  What an op has: the tables; has, named, fits.
-/
import Derived.Test.YtnilklgnpfgieaaDoorTreeN
import Derived.Test.YtnilklgnpfgieaaDoorTreeJ
namespace Go.Proofs.YtnilklgnpfgieaaDoor
open Go Go.RowKit Go.Lib

/-- What an op has. -/
structure Sh where
  name : Bool
  low : Int
  high : Int
  least : Int
  most : Int
  body : Bool
  other : Bool
def Sh.cells (s : Sh) : List Value := [.bool s.name, .int .i64 s.low, .int .i64 s.high, .int .i64 s.least, .int .i64 s.most, .bool s.body, .bool s.other]

def exprT : List Sh :=
  [⟨false, 0, 0, 0, 0, false, false⟩, ⟨false, 0, 9223372036854775807, 0, 0, false, false⟩, ⟨true, 0, 0, 0, 0, false, false⟩, ⟨false, 0, 0, 0, 0, false, false⟩, ⟨true, 0, 0, 1, 1, false, false⟩, ⟨true, 0, 0, 0, 8, false, false⟩,
   ⟨false, 0, 0, 1, 1, false, false⟩, ⟨false, 0, 0, 1, 1, false, false⟩, ⟨false, 0, 0, 2, 2, false, false⟩, ⟨false, 0, 0, 2, 2, false, false⟩, ⟨false, 0, 0, 2, 2, false, false⟩, ⟨false, 0, 0, 2, 2, false, false⟩,
   ⟨false, 0, 0, 2, 2, false, false⟩, ⟨false, 0, 0, 2, 2, false, false⟩, ⟨false, 0, 0, 2, 2, false, false⟩, ⟨false, 0, 0, 2, 2, false, false⟩, ⟨false, 0, 0, 2, 2, false, false⟩]
def stmtT : List Sh :=
  [⟨false, 0, 0, 0, 0, false, false⟩, ⟨true, 0, 0, 1, 1, false, false⟩, ⟨true, 0, 0, 2, 2, false, false⟩, ⟨true, 1, 4096, 0, 0, false, false⟩, ⟨true, 0, 0, 0, 0, false, false⟩, ⟨false, 0, 0, 1, 1, false, false⟩,
   ⟨false, 0, 0, 1, 1, false, false⟩, ⟨false, 0, 0, 1, 1, true, true⟩, ⟨false, 0, 0, 1, 1, true, false⟩, ⟨false, 0, 0, 1, 1, false, false⟩]
def sh0 : Sh := ⟨false, 0, 0, 0, 0, false, false⟩

/-- A table lies at a block: seven cells a row. -/
def TabAt (w : World) (g : Nat) (t : List Sh) : Prop :=
  ∀ k, k < t.length → w.cell? ⟨g, k * 7, none⟩ = some (.bool (t.getD k sh0).name) ∧ w.cell? ⟨g, k * 7 + 1, none⟩ = some (.int .i64 (t.getD k sh0).low) ∧ w.cell? ⟨g, k * 7 + 2, none⟩ = some (.int .i64 (t.getD k sh0).high) ∧
    w.cell? ⟨g, k * 7 + 3, none⟩ = some (.int .i64 (t.getD k sh0).least) ∧ w.cell? ⟨g, k * 7 + 4, none⟩ = some (.int .i64 (t.getD k sh0).most) ∧ w.cell? ⟨g, k * 7 + 5, none⟩ = some (.bool (t.getD k sh0).body) ∧ w.cell? ⟨g, k * 7 + 6, none⟩ = some (.bool (t.getD k sh0).other)
/-- The two tables, and where they lie. -/
def Tab (w : World) : Prop := 7 ≤ w.heap.size ∧ TabAt w 2 stmtT ∧ TabAt w 3 exprT
theorem TabAt.below {B : Nat} {w w' : World} {g : Nat} {t : List Sh} (h : TabAt w g t) (hb : Below B w w') (hg : g < B) : TabAt w' g t := fun k hk => by
  obtain ⟨h0, h1, h2, h3, h4, h5, h6⟩ := h k hk
  exact ⟨(hb.cell (p := ⟨g, k * 7, none⟩) hg).trans h0, (hb.cell (p := ⟨g, k * 7 + 1, none⟩) hg).trans h1, (hb.cell (p := ⟨g, k * 7 + 2, none⟩) hg).trans h2, (hb.cell (p := ⟨g, k * 7 + 3, none⟩) hg).trans h3,
    (hb.cell (p := ⟨g, k * 7 + 4, none⟩) hg).trans h4, (hb.cell (p := ⟨g, k * 7 + 5, none⟩) hg).trans h5, (hb.cell (p := ⟨g, k * 7 + 6, none⟩) hg).trans h6⟩
theorem Tab.below {B : Nat} {w w' : World} (h : Tab w) (hb : Below B w w') (hB : 7 ≤ B) : Tab w' := ⟨Nat.le_trans h.1 hb.size, h.2.1.below hb (by omega), h.2.2.below hb (by omega)⟩

/-- What a part's op has. -/
def shOf (st : Bool) (op : Int) : Option Sh :=
  if st = true then (if 1 ≤ op ∧ op ≤ 9 then some (stmtT.getD op.toNat sh0) else none) else (if 1 ≤ op ∧ op ≤ 16 then some (exprT.getD op.toNat sh0) else none)

def Sh.val (s : Sh) : Value := .agg #[.bool s.name, .int .i64 s.low, .int .i64 s.high, .int .i64 s.least, .int .i64 s.most, .bool s.body, .bool s.other]

set_option maxHeartbeats 2000000 in
theorem has_stmt (k : Nat) (s : ByteArray) (n : Int) (A3 A4 A5 : Option Addr) (k3 k4 k5 cap3 cap4 cap5 : Nat) (w : World) (ht : Tab w) (h1 : 1 ≤ k) (h9 : k ≤ 9) (sh : Sh) (hsh : stmtT.getD k sh0 = sh) :
    Calls Tryd.prog 65 #[.agg #[.bool true, .int .i64 k, .string s, .int .i64 n, .slice A3 k3 cap3, .slice A4 k4 cap4, .slice A5 k5 cap5]] w fun e w' =>
      e = .returned (.tuple #[sh.val, .bool true]) ∧ Below w.heap.size w w' := by
  obtain ⟨c0, c1, c2, c3, c4, c5, c6⟩ := ht.2.1 k (by simp [stmtT]; omega)
  rw [hsh] at c0 c1 c2 c3 c4 c5 c6
  clear hsh
  have hw0 : 0 < w.heap.size := by have := ht.1; omega
  have hw2 : 2 < w.heap.size := by have := ht.1; omega
  have hw3 : 3 < w.heap.size := by have := ht.1; omega
  clear ht
  have hi1 : decide ((1 : Int) ≤ (k : Int)) = true := by simp; omega
  have hi2 : decide ((k : Int) ≤ 9) = true := by simp; omega
  go_enter Tryd.func65, Tryd.ntmps65
  go_wp2
  refine bodyPost_ret (v := .tuple #[sh.val, .bool true]) (by simp [results, Tryd.results65, go_sem, Sh.val]) rfl ⟨rfl, ?_⟩
  exact ((Below.refl _ _).alloc (Nat.le_refl _) _).alloc (by simp) _

set_option maxHeartbeats 2000000 in
theorem has_expr (k : Nat) (s : ByteArray) (n : Int) (A3 A4 A5 : Option Addr) (k3 k4 k5 cap3 cap4 cap5 : Nat) (w : World) (ht : Tab w) (h1 : 1 ≤ k) (h9 : k ≤ 16) (sh : Sh) (hsh : exprT.getD k sh0 = sh) :
    Calls Tryd.prog 65 #[.agg #[.bool false, .int .i64 k, .string s, .int .i64 n, .slice A3 k3 cap3, .slice A4 k4 cap4, .slice A5 k5 cap5]] w fun e w' =>
      e = .returned (.tuple #[sh.val, .bool true]) ∧ Below w.heap.size w w' := by
  obtain ⟨c0, c1, c2, c3, c4, c5, c6⟩ := ht.2.2 k (by simp [exprT]; omega)
  rw [hsh] at c0 c1 c2 c3 c4 c5 c6
  clear hsh
  have hw0 : 0 < w.heap.size := by have := ht.1; omega
  have hw2 : 2 < w.heap.size := by have := ht.1; omega
  have hw3 : 3 < w.heap.size := by have := ht.1; omega
  clear ht
  have hi1 : decide ((1 : Int) ≤ (k : Int)) = true := by simp; omega
  have hi2 : decide ((k : Int) ≤ 16) = true := by simp; omega
  go_enter Tryd.func65, Tryd.ntmps65
  go_wp2
  refine bodyPost_ret (v := .tuple #[sh.val, .bool true]) (by simp [results, Tryd.results65, go_sem, Sh.val]) rfl ⟨rfl, ?_⟩
  exact ((Below.refl _ _).alloc (Nat.le_refl _) _).alloc (by simp) _

set_option maxHeartbeats 2000000 in
theorem has_none (st : Bool) (op : Int) (s : ByteArray) (n : Int) (A3 A4 A5 : Option Addr) (k3 k4 k5 cap3 cap4 cap5 : Nat) (w : World) (hn : shOf st op = none) :
    Calls Tryd.prog 65 #[.agg #[.bool st, .int .i64 op, .string s, .int .i64 n, .slice A3 k3 cap3, .slice A4 k4 cap4, .slice A5 k5 cap5]] w fun e w' =>
      e = .returned (.tuple #[sh0.val, .bool false]) ∧ Below w.heap.size w w' := by
  unfold shOf at hn
  cases st with
  | true =>
    simp at hn
    by_cases h1 : 1 ≤ op
    · have h9 : ¬ op ≤ 9 := by have := hn h1; omega
      clear hn
      go_enter Tryd.func65, Tryd.ntmps65
      go_wp2
      refine bodyPost_ret (v := .tuple #[sh0.val, .bool false]) (by simp [results, Tryd.results65, go_sem, Sh.val, sh0]) rfl ⟨rfl, ?_⟩
      exact ((Below.refl _ _).alloc (Nat.le_refl _) _).alloc (by simp) _
    · clear hn
      go_enter Tryd.func65, Tryd.ntmps65
      go_wp2
      refine bodyPost_ret (v := .tuple #[sh0.val, .bool false]) (by simp [results, Tryd.results65, go_sem, Sh.val, sh0]) rfl ⟨rfl, ?_⟩
      exact ((Below.refl _ _).alloc (Nat.le_refl _) _).alloc (by simp) _
  | false =>
    simp at hn
    by_cases h1 : 1 ≤ op
    · have h9 : ¬ op ≤ 16 := by have := hn h1; omega
      clear hn
      go_enter Tryd.func65, Tryd.ntmps65
      go_wp2
      refine bodyPost_ret (v := .tuple #[sh0.val, .bool false]) (by simp [results, Tryd.results65, go_sem, Sh.val, sh0]) rfl ⟨rfl, ?_⟩
      exact ((Below.refl _ _).alloc (Nat.le_refl _) _).alloc (by simp) _
    · clear hn
      go_enter Tryd.func65, Tryd.ntmps65
      go_wp2
      refine bodyPost_ret (v := .tuple #[sh0.val, .bool false]) (by simp [results, Tryd.results65, go_sem, Sh.val, sh0]) rfl ⟨rfl, ?_⟩
      exact ((Below.refl _ _).alloc (Nat.le_refl _) _).alloc (by simp) _

/-- The one contract of has. -/
theorem has_any (st : Bool) (op : Int) (s : ByteArray) (n : Int) (A3 A4 A5 : Option Addr) (k3 k4 k5 cap3 cap4 cap5 : Nat) (w : World) (ht : Tab w) :
    Calls Tryd.prog 65 #[.agg #[.bool st, .int .i64 op, .string s, .int .i64 n, .slice A3 k3 cap3, .slice A4 k4 cap4, .slice A5 k5 cap5]] w fun e w' =>
      e = .returned (.tuple #[((shOf st op).getD sh0).val, .bool (shOf st op).isSome]) ∧ Below w.heap.size w w' := by
  cases hs : shOf st op with
  | none => exact has_none st op s n A3 A4 A5 k3 k4 k5 cap3 cap4 cap5 w hs
  | some sh =>
    unfold shOf at hs
    cases st with
    | true =>
      simp at hs
      obtain ⟨⟨h1, h9⟩, h⟩ := hs
      obtain ⟨k, rfl⟩ := Int.eq_ofNat_of_zero_le (show 0 ≤ op by omega)
      exact has_stmt k s n A3 A4 A5 k3 k4 k5 cap3 cap4 cap5 w ht (by omega) (by omega) sh (by simpa using h)
    | false =>
      simp at hs
      obtain ⟨⟨h1, h9⟩, h⟩ := hs
      obtain ⟨k, rfl⟩ := Int.eq_ofNat_of_zero_le (show 0 ≤ op by omega)
      exact has_expr k s n A3 A4 A5 k3 k4 k5 cap3 cap4 cap5 w ht (by omega) (by omega) sh (by simpa using h)

/-- Has it a name just if it must? -/
def namedB (b : Bool) (s : ByteArray) : Bool := if b then nameB s else s.toList.isEmpty

set_option maxHeartbeats 1000000 in
theorem named_any (sh : Sh) (s : ByteArray) (w : World) (hs : s.size ≤ 9223372036854775807) :
    Calls Tryd.prog 66 #[.agg #[.bool sh.name, .int .i64 sh.low, .int .i64 sh.high, .int .i64 sh.least, .int .i64 sh.most, .bool sh.body, .bool sh.other], .string s] w fun e w' =>
      e = .returned (.bool (namedB sh.name s)) ∧ Below w.heap.size w w' := by
  unfold namedB
  cases hb : sh.name with
  | true =>
    go_enter Tryd.func66, Tryd.ntmps66
    go_wp2_with (go_at_call 46; ((with_reducible refine (name_any _ _ hs).mono ?_); rintro e w1 ⟨rfl, rfl⟩))
    go_ret
    exact ⟨rfl, (Below.refl _ _).alloc (Nat.le_refl _) _⟩
  | false =>
    go_enter Tryd.func66, Tryd.ntmps66
    go_wp2
    all_goals
      go_ret
      exact ⟨rfl, (Below.refl _ _).alloc (Nat.le_refl _) _⟩

/-- Has a part what its op has, and nothing else? -/
def fitB (ok : Bool) (sh : Sh) (s : ByteArray) (n : Int) (k3 k4 k5 : Nat) : Bool :=
  ok && namedB sh.name s && decide (sh.low ≤ n) && decide (n ≤ sh.high) && decide (sh.least ≤ (k3 : Int)) && decide ((k3 : Int) ≤ sh.most) && (sh.body || decide (k4 = 0)) && (sh.other || decide (k5 = 0))

theorem int_zero (k : Nat) : ((k : Int) == 0) = decide (k = 0) := by rw [Bool.eq_iff_iff]; simp

end Go.Proofs.YtnilklgnpfgieaaDoor
