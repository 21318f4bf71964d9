/-
  CodeCosts, CodeNames: the walks.
-/
import Derived.Test.YtloimjmbbinnpaaDoorCoI
namespace Go.Proofs.YtloimjmbbinnpaaDoor
open Go Go.RowKit Go.Lib

theorem kd_cost : ∀ k : Fin 26, 1 ≤ k.val → 1 ≤ (kindT.getD k.val kd0).cost := by decide
theorem kd_name : ∀ a b : Fin 26, ((kindT.getD a.val kd0).name == (kindT.getD b.val kd0).name) = (a.val == b.val) := by decide +kernel

set_option maxHeartbeats 4000000 in
set_option maxRecDepth 100000 in
theorem costs_no (op : Int) (lo : Nat) (w : World) (ht : CT lo w) (hk : knownB op = false) :
    Calls Tryd.prog 5 #[.int .i64 op] w fun e w' => e = .returned (.bool true) ∧ Below w.heap.size w w' := by
  have A0 := shown_any lo w ht
  have B : ∀ {F : Nat} {v : Value} {w1 : World}, Below w.heap.size w w1 → Calls Tryd.prog F #[.int .i64 op] w1 (fun e w' => e = .returned v ∧ Below w1.heap.size w1 w') → Calls Tryd.prog F #[.int .i64 op] w1 (fun e w' => e = .returned v ∧ Below w.heap.size w w') := fun hb h => h.mono fun _ _ ⟨a, b⟩ => ⟨a, hb.trans (b.mono hb.size)⟩
  have A2 : ∀ wx, Below w.heap.size w wx → Calls Tryd.prog 11 #[.int .i64 op] wx fun e w' => e = .returned (.int .i64 0) ∧ Below w.heap.size w w' := fun wx h => by
    have := B h (takes_any op lo wx (ht.step h)); rw [kd_not hk] at this; exact this
  have A3 : ∀ wx, Below w.heap.size w wx → Calls Tryd.prog 12 #[.int .i64 op] wx fun e w' => e = .returned (.int .i64 0) ∧ Below w.heap.size w w' := fun wx h => by
    have := B h (leaves_any op lo wx (ht.step h)); rw [kd_not hk] at this; exact this
  have A4 : ∀ wx, Below w.heap.size w wx → Calls Tryd.prog 13 #[.int .i64 op] wx fun e w' => e = .returned (.int .i64 0) ∧ Below w.heap.size w w' := fun wx h => by
    have := B h (cost_any op lo wx (ht.step h)); rw [kd_not hk] at this; exact this
  have A5 : ∀ wx, Below w.heap.size w wx → Calls Tryd.prog 10 #[.int .i64 op] wx fun e w' => e = .returned (.string ⟨#[63]⟩) ∧ Below w.heap.size w w' := fun wx h => by
    have := B h (name_any op lo wx (ht.step h)); rw [kd_not hk] at this; exact this
  have A6 : ∀ wx, Below w.heap.size w wx → Calls Tryd.prog 14 #[.int .i64 op] wx fun e w' => e = .returned (.int .i64 0) ∧ Below w.heap.size w w' := fun wx h => by
    have := B h (fast_any op lo wx (ht.step h)); rw [kd_not hk] at this; exact this
  have A7 : ∀ wx, Below w.heap.size w wx → Calls Tryd.prog 9 #[.int .i64 op] wx fun e w' => e = .returned (.bool false) ∧ Below w.heap.size w w' := fun wx h => (known_any op wx).mono fun _ _ ⟨a, b⟩ => ⟨by rw [a, hk], by rw [← b]; exact h⟩
  clear hk
  go_enter Tryd.func5, Tryd.ntmps5
  go_wp2_with (first
    | (go_at_call 7; ((with_reducible refine A0.mono ?_); clear A0; rintro e w0 ⟨rfl, h0⟩))
    | (go_at_call 11; ((with_reducible refine (A2 _ (by assumption)).mono ?_); rintro e w3 ⟨rfl, h3⟩))
    | (go_at_call 12; ((with_reducible refine (A3 _ (by assumption)).mono ?_); rintro e w3 ⟨rfl, h3⟩))
    | (go_at_call 13; ((with_reducible refine (A4 _ (by assumption)).mono ?_); rintro e w3 ⟨rfl, h3⟩))
    | (go_at_call 10; ((with_reducible refine (A5 _ (by assumption)).mono ?_); rintro e w3 ⟨rfl, h3⟩))
    | (go_at_call 14; ((with_reducible refine (A6 _ (by assumption)).mono ?_); rintro e w3 ⟨rfl, h3⟩))
    | (go_at_call 9; ((with_reducible refine (A7 _ (by assumption)).mono ?_); rintro e w3 ⟨rfl, h3⟩)))
  go_ret
  exact ⟨rfl, by assumption⟩

set_option maxHeartbeats 4000000 in
set_option maxRecDepth 100000 in
theorem costs_yes (op : Int) (t v c f : Nat) (lo : Nat) (w : World) (ht : CT lo w) (hk : knownB op = true) (h1 : (kdOf op).takes = t) (h2 : (kdOf op).leaves = v) (h3 : (kdOf op).cost = c) (h4 : (c + 1) / 2 = f) (t2 : t ≤ 2) (v1 : v ≤ 1) (c1 : 1 ≤ c) (c20 : c ≤ 20) :
    Calls Tryd.prog 5 #[.int .i64 op] w fun e w' => e = .returned (.bool true) ∧ Below w.heap.size w w' := by
  have A0 := shown_any lo w ht
  have B : ∀ {F : Nat} {v : Value} {w1 : World}, Below w.heap.size w w1 → Calls Tryd.prog F #[.int .i64 op] w1 (fun e w' => e = .returned v ∧ Below w1.heap.size w1 w') → Calls Tryd.prog F #[.int .i64 op] w1 (fun e w' => e = .returned v ∧ Below w.heap.size w w') := fun hb h => h.mono fun _ _ ⟨a, b⟩ => ⟨a, hb.trans (b.mono hb.size)⟩
  have A2 : ∀ wx, Below w.heap.size w wx → Calls Tryd.prog 11 #[.int .i64 op] wx fun e w' => e = .returned (.int .i64 t) ∧ Below w.heap.size w w' := fun wx h => by
    have := B h (takes_any op lo wx (ht.step h)); rw [h1] at this; exact this
  have A3 : ∀ wx, Below w.heap.size w wx → Calls Tryd.prog 12 #[.int .i64 op] wx fun e w' => e = .returned (.int .i64 v) ∧ Below w.heap.size w w' := fun wx h => by
    have := B h (leaves_any op lo wx (ht.step h)); rw [h2] at this; exact this
  have A4 : ∀ wx, Below w.heap.size w wx → Calls Tryd.prog 13 #[.int .i64 op] wx fun e w' => e = .returned (.int .i64 c) ∧ Below w.heap.size w w' := fun wx h => by
    have := B h (cost_any op lo wx (ht.step h)); rw [h3] at this; exact this
  have A6 : ∀ wx, Below w.heap.size w wx → Calls Tryd.prog 14 #[.int .i64 op] wx fun e w' => e = .returned (.int .i64 f) ∧ Below w.heap.size w w' := fun wx h => by
    have := B h (fast_any op lo wx (ht.step h)); rw [h3, h4] at this; exact this
  have A7 : ∀ wx, Below w.heap.size w wx → Calls Tryd.prog 9 #[.int .i64 op] wx fun e w' => e = .returned (.bool true) ∧ Below w.heap.size w w' := fun wx h => (known_any op wx).mono fun _ _ ⟨a, b⟩ => ⟨by rw [a, hk], by rw [← b]; exact h⟩
  have g1 : decide ((1 : Int) ≤ (c : Int)) = true := decide_eq_true (by omega)
  have g2 : decide ((1 : Int) ≤ (f : Int)) = true := decide_eq_true (by omega)
  have g3 : decide ((f : Int) ≤ (c : Int)) = true := decide_eq_true (by omega)
  have g4 : decide ((c : Int) ≤ 2 * (f : Int)) = true := decide_eq_true (by omega)
  have g5 : decide (2 * (f : Int) ≤ (c : Int) + 1) = true := decide_eq_true (by omega)
  have g6 : decide ((t : Int) ≤ 2) = true := decide_eq_true (by omega)
  have g7 : decide ((v : Int) ≤ 1) = true := decide_eq_true (by omega)
  have g8 : decide ((0 : Int) ≤ (t : Int)) = true := decide_eq_true (by omega)
  have g9 : decide ((0 : Int) ≤ (v : Int)) = true := decide_eq_true (by omega)
  have f20 : f ≤ 20 := by omega
  have n3 : f ≤ c := by omega
  have n4 : c ≤ 2 * f := by omega
  have n5 : 2 * f ≤ c + 1 := by omega
  have n1 : 1 ≤ f := by omega
  clear hk h1 h2 h3 h4
  go_enter Tryd.func5, Tryd.ntmps5
  go_wp2_with (first
    | (go_at_call 7; ((with_reducible refine A0.mono ?_); clear A0; rintro e w0 ⟨rfl, h0⟩))
    | (go_at_call 11; ((with_reducible refine (A2 _ (by assumption)).mono ?_); rintro e w3 ⟨rfl, h3⟩))
    | (go_at_call 12; ((with_reducible refine (A3 _ (by assumption)).mono ?_); rintro e w3 ⟨rfl, h3⟩))
    | (go_at_call 13; ((with_reducible refine (A4 _ (by assumption)).mono ?_); rintro e w3 ⟨rfl, h3⟩))
    | (go_at_call 14; ((with_reducible refine (A6 _ (by assumption)).mono ?_); rintro e w3 ⟨rfl, h3⟩))
    | (go_at_call 9; ((with_reducible refine (A7 _ (by assumption)).mono ?_); rintro e w3 ⟨rfl, h3⟩)))
  go_ret
  exact ⟨rfl, by assumption⟩

theorem costs_walk (op : Int) (lo : Nat) (w : World) (ht : CT lo w) :
    Calls Tryd.prog 5 #[.int .i64 op] w fun e w' => e = .returned (.bool true) ∧ Below w.heap.size w w' := by
  cases hk : knownB op with
  | false => exact costs_no op lo w ht hk
  | true =>
    obtain ⟨t1, t2, t3, _⟩ := kd_ok op
    obtain ⟨k, _, hk1, hk2, e⟩ := kd_known hk
    have hc := kd_cost ⟨k, by omega⟩ hk1
    exact costs_yes op _ _ _ _ lo w ht hk rfl rfl rfl rfl t1 t2 (by rw [e]; exact hc) t3
end Go.Proofs.YtloimjmbbinnpaaDoor
