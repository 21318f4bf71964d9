/-
  The contract of wrap.Do: by each op what the operation tells; of any other op nothing.
-/
import Derived.Test.YtnlljcbpjhhloaaDoorOps
namespace Go.Proofs.YtnlljcbpjhhloaaDoor
open Go Go.RowKit Go.Lib

/-- What Do tells, and whether it tells anything. -/
def doV (op a b : Int) : Int :=
  if op = 6 then gNeg a else if op = 7 then gNot a else if op = 8 then gAdd a b else if op = 9 then gSub a b else if op = 10 then gMul a b else
  if op = 11 then gDiv a b else if op = 12 then gMod a b else if op = 13 then gLess a b else if op = 14 then gSame a b else if op = 15 then gAnd a b else
  if op = 16 then gOr a b else 0
def doOk (op b : Int) : Bool := if op = 11 ∨ op = 12 then nz b else decide (6 ≤ op ∧ op ≤ 16)

theorem do_none {op : Int} (a b : Int) (h : op < 6 ∨ 16 < op) : doV op a b = 0 ∧ doOk op b = false := by
  unfold doV doOk
  repeat rw [if_neg (by omega)]
  exact ⟨rfl, decide_eq_false (by omega)⟩

set_option maxRecDepth 100000 in
theorem do_other (op a b : Int) (w : World) (h : op < 6 ∨ 16 < op) :
    Calls Tryd.prog 13 #[.int .i64 op, .int .i64 a, .int .i64 b] w fun e w' => e = .returned (.tuple #[.int .i64 (doV op a b), .bool (doOk op b)]) ∧ w = w' := by
  obtain ⟨e1, e2⟩ := do_none a b h
  rw [e1, e2]
  clear e1 e2
  have n6 : (op == 6) = false := by simp; omega
  have n7 : (op == 7) = false := by simp; omega
  have n8 : (op == 8) = false := by simp; omega
  have n9 : (op == 9) = false := by simp; omega
  have n10 : (op == 10) = false := by simp; omega
  have n11 : (op == 11) = false := by simp; omega
  have n12 : (op == 12) = false := by simp; omega
  have n13 : (op == 13) = false := by simp; omega
  have n14 : (op == 14) = false := by simp; omega
  have n15 : (op == 15) = false := by simp; omega
  have n16 : (op == 16) = false := by simp; omega
  clear h
  go_enter Tryd.func13, Tryd.ntmps13
  go_wp2
  go_ret2
  exact ⟨rfl, rfl⟩

set_option maxHeartbeats 1000000 in
set_option maxRecDepth 100000 in
theorem do_any (op a b : Int) (w : World) (ha : I64 a) (hb : I64 b) :
    Calls Tryd.prog 13 #[.int .i64 op, .int .i64 a, .int .i64 b] w fun e w' => e = .returned (.tuple #[.int .i64 (doV op a b), .bool (doOk op b)]) ∧ w = w' := by
  by_cases h : op < 6 ∨ 16 < op
  · exact do_other op a b w h
  have h' : op = 6 ∨ op = 7 ∨ op = 8 ∨ op = 9 ∨ op = 10 ∨ op = 11 ∨ op = 12 ∨ op = 13 ∨ op = 14 ∨ op = 15 ∨ op = 16 := by omega
  clear h
  rcases h' with rfl | rfl | rfl | rfl | rfl | rfl | rfl | rfl | rfl | rfl | rfl
  all_goals
    go_enter Tryd.func13, Tryd.ntmps13
    go_wp2_with (first
      | (go_at_call 15; refine (neg_any _ _ ha).mono ?_; rintro e w' ⟨rfl, rfl⟩)
      | (go_at_call 16; refine (not_any _ _).mono ?_; rintro e w' ⟨rfl, rfl⟩)
      | (go_at_call 17; refine (add_any _ _ _ ha hb).mono ?_; rintro e w' ⟨rfl, rfl⟩)
      | (go_at_call 18; refine (sub_any _ _ _ ha hb).mono ?_; rintro e w' ⟨rfl, rfl⟩)
      | (go_at_call 19; refine (mul_any _ _ _ ha hb).mono ?_; rintro e w' ⟨rfl, rfl⟩)
      | (go_at_call 20; refine (div_any _ _ _ ha hb).mono ?_; rintro e w' ⟨rfl, rfl⟩)
      | (go_at_call 21; refine (mod_any _ _ _ ha hb).mono ?_; rintro e w' ⟨rfl, rfl⟩)
      | (go_at_call 22; refine (less_any _ _ _).mono ?_; rintro e w' ⟨rfl, rfl⟩)
      | (go_at_call 23; refine (same_any _ _ _).mono ?_; rintro e w' ⟨rfl, rfl⟩)
      | (go_at_call 24; refine (and_any _ _ _ ha hb).mono ?_; rintro e w' ⟨rfl, rfl⟩)
      | (go_at_call 25; refine (or_any _ _ _ ha hb).mono ?_; rintro e w' ⟨rfl, rfl⟩))
    go_ret2
    exact ⟨rfl, rfl⟩

end Go.Proofs.YtnlljcbpjhhloaaDoor
