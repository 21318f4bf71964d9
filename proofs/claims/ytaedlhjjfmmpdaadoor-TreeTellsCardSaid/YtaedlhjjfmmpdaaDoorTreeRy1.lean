/-
  The document's own expr, exprs: is an expression right, at a Const.
-/
import Derived.Test.YtaedlhjjfmmpdaaDoorTreeRy
namespace Go.Proofs.YtaedlhjjfmmpdaaDoor
open Go Go.RowKit Go.Lib

set_option maxRecDepth 100000 in
set_option maxHeartbeats 2000000 in
theorem rexpr_1 (n : Int) (hI : I64 n) (s : ByteArray) (A : Option Addr) (k cap : Nat) (b : Bool) (w : World) (hs : s.size ≤ 9223372036854775807) (_hk : k ≤ 9223372036854775807)
    (H : ∀ W, Below w.heap.size w W → Calls Tryd.prog 45 #[.slice A k cap] W fun e w' => e = .returned (.bool b) ∧ Below W.heap.size W w') :
    Calls Tryd.prog 59 #[.agg #[.int .i64 1, .int .i64 n, .string s, .slice A k cap]] w (ExprPost 1 n s k b w) := by
  have HF := Lib.hid (fitE_lit 1 n s k (by decide))
  have HI := Lib.hid hI.2
  clear hI
  cases he : s.toList.isEmpty with
  | true =>
    obtain rfl := empty_of he
    clear he
    have hnb := nm_empty
    have hn3 : n = 0 ∨ n < 0 ∨ 0 < n := by omega
    rcases hn3 with rfl | hn3 | hn3
    · go_enter Tryd.func59, Tryd.ntmps59
      go_wp2_with (first
        | (go_at_call 21; ((with_reducible refine (rname_any _ _ hs).mono ?_); rintro e w1 ⟨rfl, hb1⟩; obtain ⟨hc1, hf1⟩ := bcell hb1; have hz1 : w.heap.size < w1.heap.size := (by have := hb1.size; simp at this; omega); have hq1 : Below w.heap.size w w1 := ((Below.refl _ _).alloc (Nat.le_refl _) _).trans (hb1.mono (by simp)); have H1 := H w1 hq1))
        | (go_at_call 45; ((with_reducible refine H1.mono ?_); rintro e w2 ⟨rfl, hb2⟩; have hq2 := hq1.trans (hb2.mono hq1.size))))
      all_goals
        go_ret
        refine post_of ?_ (by first | exact hq2 | exact hq1)
        have hf := HF.out
        clear H HF
        refine Eq.trans ?_ (congrArg (· && b) hf.symm)
        rw [Bool.eq_iff_iff]
        have hI := HI.out
        clear HI
        simp_all [fitQ, exprT, namedB]
        try omega
    · have n1 : (n != 0) = true := by rw [bne_iff_ne]; omega
      have n2 : decide (n < 0) = true := decide_eq_true hn3
      go_enter Tryd.func59, Tryd.ntmps59
      go_wp2_with (first
        | (go_at_call 21; ((with_reducible refine (rname_any _ _ hs).mono ?_); rintro e w1 ⟨rfl, hb1⟩; obtain ⟨hc1, hf1⟩ := bcell hb1; have hz1 : w.heap.size < w1.heap.size := (by have := hb1.size; simp at this; omega); have hq1 : Below w.heap.size w w1 := ((Below.refl _ _).alloc (Nat.le_refl _) _).trans (hb1.mono (by simp)); have H1 := H w1 hq1))
        | (go_at_call 45; ((with_reducible refine H1.mono ?_); rintro e w2 ⟨rfl, hb2⟩; have hq2 := hq1.trans (hb2.mono hq1.size))))
      all_goals
        go_ret
        refine post_of ?_ (by first | exact hq2 | exact hq1)
        have hf := HF.out
        clear H HF
        refine Eq.trans ?_ (congrArg (· && b) hf.symm)
        rw [Bool.eq_iff_iff]
        have hI := HI.out
        clear HI
        simp_all [fitQ, exprT, namedB]
        try omega
    · have n1 : (n != 0) = true := by rw [bne_iff_ne]; omega
      have n2 : decide (n < 0) = false := decide_eq_false (by omega)
      go_enter Tryd.func59, Tryd.ntmps59
      go_wp2_with (first
        | (go_at_call 21; ((with_reducible refine (rname_any _ _ hs).mono ?_); rintro e w1 ⟨rfl, hb1⟩; obtain ⟨hc1, hf1⟩ := bcell hb1; have hz1 : w.heap.size < w1.heap.size := (by have := hb1.size; simp at this; omega); have hq1 : Below w.heap.size w w1 := ((Below.refl _ _).alloc (Nat.le_refl _) _).trans (hb1.mono (by simp)); have H1 := H w1 hq1))
        | (go_at_call 45; ((with_reducible refine H1.mono ?_); rintro e w2 ⟨rfl, hb2⟩; have hq2 := hq1.trans (hb2.mono hq1.size))))
      all_goals
        go_ret
        refine post_of ?_ (by first | exact hq2 | exact hq1)
        have hf := HF.out
        clear H HF
        refine Eq.trans ?_ (congrArg (· && b) hf.symm)
        rw [Bool.eq_iff_iff]
        have hI := HI.out
        clear HI
        simp_all [fitQ, exprT, namedB]
        try omega
  | false =>
    have he1 : ¬ s.toList = [] := by intro h; rw [h] at he; cases he
    have he3 : (s.toList == []) = false := by rw [beq_eq_false_iff_ne]; exact he1
    have he4 : (s.toList != []) = true := by rw [bne, he3]; rfl
    cases hnb : nameB s with
    | false =>
      have hn3 : n = 0 ∨ n < 0 ∨ 0 < n := by omega
      rcases hn3 with rfl | hn3 | hn3
      · go_enter Tryd.func59, Tryd.ntmps59
        go_wp2_with (first
          | (go_at_call 21; ((with_reducible refine (rname_any _ _ hs).mono ?_); rintro e w1 ⟨rfl, hb1⟩; obtain ⟨hc1, hf1⟩ := bcell hb1; have hz1 : w.heap.size < w1.heap.size := (by have := hb1.size; simp at this; omega); have hq1 : Below w.heap.size w w1 := ((Below.refl _ _).alloc (Nat.le_refl _) _).trans (hb1.mono (by simp)); have H1 := H w1 hq1))
          | (go_at_call 45; ((with_reducible refine H1.mono ?_); rintro e w2 ⟨rfl, hb2⟩; have hq2 := hq1.trans (hb2.mono hq1.size))))
        all_goals
          go_ret
          refine post_of ?_ (by first | exact hq2 | exact hq1)
          have hf := HF.out
          clear H HF
          refine Eq.trans ?_ (congrArg (· && b) hf.symm)
          rw [Bool.eq_iff_iff]
          have hI := HI.out
          clear HI
          simp_all [fitQ, exprT, namedB]
          try omega
      · have n1 : (n != 0) = true := by rw [bne_iff_ne]; omega
        have n2 : decide (n < 0) = true := decide_eq_true hn3
        go_enter Tryd.func59, Tryd.ntmps59
        go_wp2_with (first
          | (go_at_call 21; ((with_reducible refine (rname_any _ _ hs).mono ?_); rintro e w1 ⟨rfl, hb1⟩; obtain ⟨hc1, hf1⟩ := bcell hb1; have hz1 : w.heap.size < w1.heap.size := (by have := hb1.size; simp at this; omega); have hq1 : Below w.heap.size w w1 := ((Below.refl _ _).alloc (Nat.le_refl _) _).trans (hb1.mono (by simp)); have H1 := H w1 hq1))
          | (go_at_call 45; ((with_reducible refine H1.mono ?_); rintro e w2 ⟨rfl, hb2⟩; have hq2 := hq1.trans (hb2.mono hq1.size))))
        all_goals
          go_ret
          refine post_of ?_ (by first | exact hq2 | exact hq1)
          have hf := HF.out
          clear H HF
          refine Eq.trans ?_ (congrArg (· && b) hf.symm)
          rw [Bool.eq_iff_iff]
          have hI := HI.out
          clear HI
          simp_all [fitQ, exprT, namedB]
          try omega
      · have n1 : (n != 0) = true := by rw [bne_iff_ne]; omega
        have n2 : decide (n < 0) = false := decide_eq_false (by omega)
        go_enter Tryd.func59, Tryd.ntmps59
        go_wp2_with (first
          | (go_at_call 21; ((with_reducible refine (rname_any _ _ hs).mono ?_); rintro e w1 ⟨rfl, hb1⟩; obtain ⟨hc1, hf1⟩ := bcell hb1; have hz1 : w.heap.size < w1.heap.size := (by have := hb1.size; simp at this; omega); have hq1 : Below w.heap.size w w1 := ((Below.refl _ _).alloc (Nat.le_refl _) _).trans (hb1.mono (by simp)); have H1 := H w1 hq1))
          | (go_at_call 45; ((with_reducible refine H1.mono ?_); rintro e w2 ⟨rfl, hb2⟩; have hq2 := hq1.trans (hb2.mono hq1.size))))
        all_goals
          go_ret
          refine post_of ?_ (by first | exact hq2 | exact hq1)
          have hf := HF.out
          clear H HF
          refine Eq.trans ?_ (congrArg (· && b) hf.symm)
          rw [Bool.eq_iff_iff]
          have hI := HI.out
          clear HI
          simp_all [fitQ, exprT, namedB]
          try omega
    | true =>
      have hn3 : n = 0 ∨ n < 0 ∨ 0 < n := by omega
      rcases hn3 with rfl | hn3 | hn3
      · go_enter Tryd.func59, Tryd.ntmps59
        go_wp2_with (first
          | (go_at_call 21; ((with_reducible refine (rname_any _ _ hs).mono ?_); rintro e w1 ⟨rfl, hb1⟩; obtain ⟨hc1, hf1⟩ := bcell hb1; have hz1 : w.heap.size < w1.heap.size := (by have := hb1.size; simp at this; omega); have hq1 : Below w.heap.size w w1 := ((Below.refl _ _).alloc (Nat.le_refl _) _).trans (hb1.mono (by simp)); have H1 := H w1 hq1))
          | (go_at_call 45; ((with_reducible refine H1.mono ?_); rintro e w2 ⟨rfl, hb2⟩; have hq2 := hq1.trans (hb2.mono hq1.size))))
        all_goals
          go_ret
          refine post_of ?_ (by first | exact hq2 | exact hq1)
          have hf := HF.out
          clear H HF
          refine Eq.trans ?_ (congrArg (· && b) hf.symm)
          rw [Bool.eq_iff_iff]
          have hI := HI.out
          clear HI
          simp_all [fitQ, exprT, namedB]
          try omega
      · have n1 : (n != 0) = true := by rw [bne_iff_ne]; omega
        have n2 : decide (n < 0) = true := decide_eq_true hn3
        go_enter Tryd.func59, Tryd.ntmps59
        go_wp2_with (first
          | (go_at_call 21; ((with_reducible refine (rname_any _ _ hs).mono ?_); rintro e w1 ⟨rfl, hb1⟩; obtain ⟨hc1, hf1⟩ := bcell hb1; have hz1 : w.heap.size < w1.heap.size := (by have := hb1.size; simp at this; omega); have hq1 : Below w.heap.size w w1 := ((Below.refl _ _).alloc (Nat.le_refl _) _).trans (hb1.mono (by simp)); have H1 := H w1 hq1))
          | (go_at_call 45; ((with_reducible refine H1.mono ?_); rintro e w2 ⟨rfl, hb2⟩; have hq2 := hq1.trans (hb2.mono hq1.size))))
        all_goals
          go_ret
          refine post_of ?_ (by first | exact hq2 | exact hq1)
          have hf := HF.out
          clear H HF
          refine Eq.trans ?_ (congrArg (· && b) hf.symm)
          rw [Bool.eq_iff_iff]
          have hI := HI.out
          clear HI
          simp_all [fitQ, exprT, namedB]
          try omega
      · have n1 : (n != 0) = true := by rw [bne_iff_ne]; omega
        have n2 : decide (n < 0) = false := decide_eq_false (by omega)
        go_enter Tryd.func59, Tryd.ntmps59
        go_wp2_with (first
          | (go_at_call 21; ((with_reducible refine (rname_any _ _ hs).mono ?_); rintro e w1 ⟨rfl, hb1⟩; obtain ⟨hc1, hf1⟩ := bcell hb1; have hz1 : w.heap.size < w1.heap.size := (by have := hb1.size; simp at this; omega); have hq1 : Below w.heap.size w w1 := ((Below.refl _ _).alloc (Nat.le_refl _) _).trans (hb1.mono (by simp)); have H1 := H w1 hq1))
          | (go_at_call 45; ((with_reducible refine H1.mono ?_); rintro e w2 ⟨rfl, hb2⟩; have hq2 := hq1.trans (hb2.mono hq1.size))))
        all_goals
          go_ret
          refine post_of ?_ (by first | exact hq2 | exact hq1)
          have hf := HF.out
          clear H HF
          refine Eq.trans ?_ (congrArg (· && b) hf.symm)
          rw [Bool.eq_iff_iff]
          have hI := HI.out
          clear HI
          simp_all [fitQ, exprT, namedB]
          try omega

end Go.Proofs.YtaedlhjjfmmpdaaDoor
