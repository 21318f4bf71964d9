/-
  Known, kindOf, Takes, Leaves, Cost, Fast, Name; FormatInt and Itoa.
-/
import Derived.Test.YtnilklgnpfgieaaDoorCoP
namespace Go.Proofs.YtnilklgnpfgieaaDoor
open Go Go.RowKit Go.Lib

theorem known_any (op : Int) (w : World) :
    Calls Tryd.prog 44 #[.int .i64 op] w fun e w' => e = .returned (.bool (knownB op)) ∧ w = w' := by
  go_enter Tryd.func44, Tryd.ntmps44
  by_cases h1 : (1 : Int) ≤ op
  · have g1 : decide ((1 : Int) ≤ op) = true := decide_eq_true h1
    have e : decide (op ≤ 25) = knownB op := by unfold knownB; rw [g1]; rfl
    go_wp2
    go_ret
    exact ⟨rfl, rfl⟩
  · have g1 : decide ((1 : Int) ≤ op) = false := decide_eq_false h1
    have e : knownB op = false := by unfold knownB; rw [g1]; rfl
    have E := Lib.hid e; clear e
    go_wp2
    go_ret
    exact ⟨by rw [E.out]; rfl, rfl⟩

set_option maxHeartbeats 2000000 in
theorem kindOf_any (op : Int) (lo : Nat) (w : World) (ht : CT lo w) :
    Calls Tryd.prog 26 #[.int .i64 op] w fun e w' => e = .returned (kdOf op).val ∧ Below w.heap.size w w' := by
  have hw0 : 0 < w.heap.size := by have := ht.1; have := ht.2; omega
  cases hk : knownB op with
  | false =>
    obtain ⟨d0, d1, d2, d3, d4, d5⟩ := ht.kin 0 (by decide)
    have c0 : w.cell? ⟨0, 0, none⟩ = some (.string ⟨#[63]⟩) := d0
    have c1 : w.cell? ⟨0, 1, none⟩ = some (.int .u8 0) := d1
    have c2 : w.cell? ⟨0, 2, none⟩ = some (.int .u8 0) := d2
    have c3 : w.cell? ⟨0, 3, none⟩ = some (.int .u8 0) := d3
    have c4 : w.cell? ⟨0, 4, none⟩ = some (.bool false) := d4
    have c5 : w.cell? ⟨0, 5, none⟩ = some (.bool false) := d5
    clear d0 d1 d2 d3 d4 d5
    rw [kd_not hk]
    clear ht
    go_enter Tryd.func26, Tryd.ntmps26
    go_wp2_with (go_at_call 44; (with_reducible refine (known_any _ _).mono ?_); rintro e w1 ⟨rfl, rfl⟩; rw [hk])
    refine bodyPost_ret (v := kd0.val) (by simp [results, Tryd.results26, go_sem, Kd.val, kd0]) rfl ⟨rfl, ?_⟩
    exact (Below.refl _ _).alloc (Nat.le_refl _) _
  | true =>
    obtain ⟨k, rfl, h1, h25, e⟩ := kd_known hk
    rw [e]
    obtain ⟨c0, c1, c2, c3, c4, c5⟩ := ht.kin k (by omega)
    obtain ⟨sh, hsh⟩ : ∃ sh, sh = kindT.getD k kd0 := ⟨_, rfl⟩
    rw [← hsh] at c0 c1 c2 c3 c4 c5 ⊢
    clear hsh ht e
    go_enter Tryd.func26, Tryd.ntmps26
    go_wp2_with (go_at_call 44; (with_reducible refine (known_any _ _).mono ?_); rintro e w1 ⟨rfl, rfl⟩; rw [hk])
    refine bodyPost_ret (v := sh.val) (by simp [results, Tryd.results26, go_sem, Kd.val]) rfl ⟨rfl, ?_⟩
    exact (Below.refl _ _).alloc (Nat.le_refl _) _

theorem kindOf_sh (op : Int) (sh : Kd) (h : kdOf op = sh) (lo : Nat) (w : World) (ht : CT lo w) :
    Calls Tryd.prog 26 #[.int .i64 op] w fun e w' => e = .returned (.agg #[.string ⟨sh.name.toArray⟩, .int .u8 sh.takes, .int .u8 sh.leaves, .int .u8 sh.cost, .bool sh.hasA, .bool sh.hasN]) ∧ Below w.heap.size w w' := by
  subst h
  exact kindOf_any op lo w ht
theorem run_kd0 (w : World) (s : ByteArray) (a b c : Int) (x y : Bool) : (Instr.field 82 (.agg #[.string s, .int .u8 a, .int .u8 b, .int .u8 c, .bool x, .bool y]) 0).run Tryd.prog w = .ok (.string s) w := by kernel_rfl
theorem run_kd1 (w : World) (s : ByteArray) (a b c : Int) (x y : Bool) : (Instr.field 82 (.agg #[.string s, .int .u8 a, .int .u8 b, .int .u8 c, .bool x, .bool y]) 1).run Tryd.prog w = .ok (.int .u8 a) w := by kernel_rfl
theorem run_kd2 (w : World) (s : ByteArray) (a b c : Int) (x y : Bool) : (Instr.field 82 (.agg #[.string s, .int .u8 a, .int .u8 b, .int .u8 c, .bool x, .bool y]) 2).run Tryd.prog w = .ok (.int .u8 b) w := by kernel_rfl
theorem run_kd3 (w : World) (s : ByteArray) (a b c : Int) (x y : Bool) : (Instr.field 82 (.agg #[.string s, .int .u8 a, .int .u8 b, .int .u8 c, .bool x, .bool y]) 3).run Tryd.prog w = .ok (.int .u8 c) w := by kernel_rfl
attribute [local go_sem high] run_kd0 run_kd1 run_kd2 run_kd3

/-- internal/strconv.FormatInt at base 10. -/
theorem ifmt_any (lo : Nat) (n : Int) (w : World) (ht : CT lo w) (h : I64 n) :
    Calls Tryd.prog 43 #[.int .i64 n, .int .i64 10] w fun e w' => e = .returned (.string ⟨(itoa n).toArray⟩) ∧ Below w.heap.size w w' := by
  refine (Any.internal_strconv_FormatInt_10 (P := Tryd.prog) (ρ := Tryd.laysM173_ren) { Tryd.laysM173 with } n h.1 h.2 w ht.tab.here).mono ?_
  rintro e w' ⟨rfl, k, os, rfl⟩
  exact ⟨rfl, below_grow _ _ (Nat.le_refl _) k os⟩
theorem fmt_any (lo : Nat) (n : Int) (w : World) (ht : CT lo w) (h : I64 n) :
    Calls Tryd.prog 45 #[.int .i64 n, .int .i64 10] w fun e w' => e = .returned (.string ⟨(itoa n).toArray⟩) ∧ Below w.heap.size w w' := by
  refine (Tryd.strconv_FormatInt_10 n h.1 h.2 _ ht.tab.here).mono ?_
  rintro e w' ⟨rfl, k, os, rfl⟩
  exact ⟨rfl, below_grow _ _ (Nat.le_refl _) k os⟩
theorem iitoa_any (lo : Nat) (n : Int) (w : World) (ht : CT lo w) (h : I64 n) :
    Calls Tryd.prog 25 #[.int .i64 n] w fun e w' => e = .returned (.string ⟨(itoa n).toArray⟩) ∧ Below w.heap.size w w' := by
  go_enter Tryd.func25, Tryd.ntmps25
  go_wp2_with (go_at_call 43; (with_reducible refine (ifmt_any lo n _ ht h).mono ?_); rintro e w1 ⟨rfl, h1⟩)
  go_ret
  exact ⟨rfl, h1⟩
theorem itoa_any (lo : Nat) (n : Int) (w : World) (ht : CT lo w) (h : I64 n) :
    Calls Tryd.prog 12 #[.int .i64 n] w fun e w' => e = .returned (.string ⟨(itoa n).toArray⟩) ∧ Below w.heap.size w w' := by
  go_enter Tryd.func12, Tryd.ntmps12
  go_wp2_with (go_at_call 25; (with_reducible refine (iitoa_any lo n _ ht h).mono ?_); rintro e w1 ⟨rfl, h1⟩)
  go_ret
  exact ⟨rfl, h1⟩
end Go.Proofs.YtnilklgnpfgieaaDoor
