/-
  CodeNames: the walk.
-/
import Derived.Test.YtloimjmbbinnpaaDoorCoU
namespace Go.Proofs.YtloimjmbbinnpaaDoor
open Go Go.RowKit Go.Lib

theorem and_16 (n : Int) : ∃ N : Nat, bits BinOp.and IntKind.i64 n 65535 = (N : Int) ∧ N ≤ 65535 := by
  refine ⟨(BitVec.ofInt 64 n &&& BitVec.ofInt 64 65535).toNat, ?_, ?_⟩
  · show IntKind.i64.wrap ((BitVec.ofInt 64 n &&& BitVec.ofInt 64 65535).toNat : Int) = _
    have : (BitVec.ofInt 64 n &&& BitVec.ofInt 64 65535).toNat ≤ 65535 := by
      rw [BitVec.toNat_and]; exact Nat.and_le_right
    exact IntWalk.i64_in _ (by omega)
  · rw [BitVec.toNat_and]; exact Nat.and_le_right

theorem kd_at (k : Nat) (h1 : 1 ≤ k) (h : k ≤ 25) : kdOf (k : Int) = kindT.getD k kd0 := by
  unfold kdOf
  rw [if_pos (by unfold knownB; simp; omega)]
  rfl

set_option maxHeartbeats 4000000 in
set_option maxRecDepth 100000 in
theorem names_walk (a b : Int) (lo : Nat) (w : World) (ht : CT lo w) :
    Calls Tryd.prog 6 #[.int .i64 a, .int .i64 b] w fun e w' => e = .returned (.bool true) ∧ Below w.heap.size w w' := by
  have A0 := shown_any lo w ht
  obtain ⟨N, hN, hN2⟩ := and_16 a
  obtain ⟨M, hM, hM2⟩ := and_16 b
  have e1 : (1 : Int) + (N : Int) % 25 = ((1 + N % 25 : Nat) : Int) := by omega
  have e2 : (1 : Int) + (M : Int) % 25 = ((1 + M % 25 : Nat) : Int) := by omega
  have hx := kd_at (1 + N % 25) (by omega) (by omega)
  have hy := kd_at (1 + M % 25) (by omega) (by omega)
  have hxy := kd_name ⟨1 + N % 25, by omega⟩ ⟨1 + M % 25, by omega⟩
  rw [← e1] at hx
  rw [← e2] at hy
  simp only at hxy
  obtain ⟨X, hX⟩ : ∃ X, kindT.getD (1 + N % 25) kd0 = X := ⟨_, rfl⟩
  obtain ⟨Y, hY⟩ : ∃ Y, kindT.getD (1 + M % 25) kd0 = Y := ⟨_, rfl⟩
  rw [hX] at hx hxy
  rw [hY] at hy hxy
  have q : (X.name == Y.name) = ((1 : Int) + (N : Int) % 25 == (1 : Int) + (M : Int) % 25) := by
    rw [hxy, Bool.eq_iff_iff]
    simp
    omega
  obtain ⟨s, hs⟩ : ∃ s, (1 : Int) + (N : Int) % 25 = s := ⟨_, rfl⟩
  obtain ⟨t, hst⟩ : ∃ t, (1 : Int) + (M : Int) % 25 = t := ⟨_, rfl⟩
  have A1 : ∀ wx, Below w.heap.size w wx → Calls Tryd.prog 10 #[.int .i64 s] wx fun e w' => e = .returned (.string ⟨X.name.toArray⟩) ∧ Below w.heap.size w w' := fun wx h => by
    have := name_any s lo wx (ht.step h)
    rw [← hs, hx] at this
    rw [← hs]
    exact this.mono fun _ _ ⟨a, b⟩ => ⟨a, h.trans (b.mono h.size)⟩
  have A2 : ∀ wx, Below w.heap.size w wx → Calls Tryd.prog 10 #[.int .i64 t] wx fun e w' => e = .returned (.string ⟨Y.name.toArray⟩) ∧ Below w.heap.size w w' := fun wx h => by
    have := name_any t lo wx (ht.step h)
    rw [← hst, hy] at this
    rw [← hst]
    exact this.mono fun _ _ ⟨a, b⟩ => ⟨a, h.trans (b.mono h.size)⟩
  rw [hs, hst] at q
  have Q := Lib.hid q
  clear hx hy hxy hX hY e1 e2 q
  go_enter Tryd.func6, Tryd.ntmps6
  go_upto_region 5 with (go_at_call 7; ((with_reducible refine A0.mono ?_); clear A0; rintro e w0 ⟨rfl, h0⟩))
  go_wp2_with (first
    | (go_at_call 10; ((with_reducible refine (A1 _ (by assumption)).mono ?_); rintro e w3 ⟨rfl, h3⟩))
    | (go_at_call 10; ((with_reducible refine (A2 _ (by assumption)).mono ?_); rintro e w4 ⟨rfl, h4⟩)))
  go_ret
  exact ⟨by rw [Q.out]; simp, by assumption⟩
end Go.Proofs.YtloimjmbbinnpaaDoor
