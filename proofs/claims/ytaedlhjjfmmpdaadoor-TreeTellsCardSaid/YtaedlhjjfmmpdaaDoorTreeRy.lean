/-
  The document's own expr, exprs: is an expression right, all the way down?
-/
import Derived.Test.YtaedlhjjfmmpdaaDoorTreeRm
import Derived.Test.YtaedlhjjfmmpdaaDoorTreeR
namespace Go.Proofs.YtaedlhjjfmmpdaaDoor
open Go Go.RowKit Go.Lib

/-- Is an expression right, but for what stands inside of it? -/
def fitE (op n : Int) (s : ByteArray) (k : Nat) : Bool := fitQ (shOf false op).isSome ((shOf false op).getD sh0) s n k 0 0
def ExprPost (op n : Int) (s : ByteArray) (k : Nat) (b : Bool) (w : World) (e : Ending) (w' : World) : Prop := e = .returned (.bool (fitE op n s k && b)) ∧ Below w.heap.size w w'
theorem post_of {op n : Int} {s : ByteArray} {k : Nat} {b : Bool} {w w' : World} {c : Bool} (h : c = (fitE op n s k && b)) (hb : Below w.heap.size w w') : ExprPost op n s k b w (.returned (.bool c)) w' := ⟨by rw [h], hb⟩
theorem fitE_lit (op : Nat) (n : Int) (s : ByteArray) (k : Nat) (h : 1 ≤ op ∧ op ≤ 16) : fitE op n s k = fitQ true (exprT.getD op sh0) s n k 0 0 := by
  unfold fitE shOf
  rw [if_neg (by decide), if_pos (by omega)]
  rfl
theorem fitE_out (op : Int) (n : Int) (s : ByteArray) (k : Nat) (h : op < 1 ∨ 16 < op) : fitE op n s k = false := by
  unfold fitE shOf
  rw [if_neg (by decide), if_neg (by omega)]
  rfl
theorem fitE_two (op : Int) (n : Int) (s : ByteArray) (k : Nat) (h : 8 ≤ op ∧ op ≤ 16) : fitE op n s k = (s.toList.isEmpty && (decide (0 ≤ n) && (decide (n ≤ 0) && (decide (2 ≤ (k : Int)) && decide ((k : Int) ≤ 2))))) := by
  obtain ⟨m, rfl⟩ := Int.eq_ofNat_of_zero_le (show 0 ≤ op by omega)
  rw [fitE_lit m n s k (by omega)]
  have hm : m = 8 ∨ m = 9 ∨ m = 10 ∨ m = 11 ∨ m = 12 ∨ m = 13 ∨ m = 14 ∨ m = 15 ∨ m = 16 := by omega
  rcases hm with rfl | rfl | rfl | rfl | rfl | rfl | rfl | rfl | rfl <;> simp [fitQ, exprT, namedB]
theorem nm_empty : nameB ⟨#[]⟩ = false := by decide +kernel
theorem empty_of {s : ByteArray} (h : s.toList.isEmpty = true) : s = ⟨#[]⟩ := by
  have h1 : s.toList = [] := by simpa using h
  exact (eqT_iff s ⟨#[]⟩).1 (by unfold eqT; rw [h1, ByteArray.toList_eq]; rfl)

set_option maxRecDepth 100000 in
set_option maxHeartbeats 2000000 in
theorem rexpr_2 (n : Int) (s : ByteArray) (A : Option Addr) (k cap : Nat) (b : Bool) (w : World) (hs : s.size ≤ 9223372036854775807) (_hk : k ≤ 9223372036854775807)
    (H : ∀ W, Below w.heap.size w W → Calls Tryd.prog 45 #[.slice A k cap] W fun e w' => e = .returned (.bool b) ∧ Below W.heap.size W w') :
    Calls Tryd.prog 59 #[.agg #[.int .i64 2, .int .i64 n, .string s, .slice A k cap]] w (ExprPost 2 n s k b w) := by
  have HF := Lib.hid (fitE_lit 2 n s k (by decide))
  cases he : s.toList.isEmpty with
  | true =>
    obtain rfl := empty_of he
    clear he
    have hnb := nm_empty
    have hn3 : n = 0 ∨ n < 0 ∨ 0 < n := by omega
    rcases hn3 with rfl | hn3 | hn3
    · go_enter Tryd.func59, Tryd.ntmps59
      go_wp2_with (first
        | (go_at_call 21; ((with_reducible refine (rname_any _ _ hs).mono ?_); rintro e w1 ⟨rfl, hb1⟩; obtain ⟨hc1, hf1⟩ := bcell hb1; have hz1 : w.heap.size < w1.heap.size := (by have := hb1.size; simp at this; omega); have hq1 : Below w.heap.size w w1 := ((Below.refl _ _).alloc (Nat.le_refl _) _).trans (hb1.mono (by simp)); have H1 := H w1 hq1))
        | (go_at_call 45; ((with_reducible refine H1.mono ?_); rintro e w2 ⟨rfl, hb2⟩; have hq2 := hq1.trans (hb2.mono hq1.size))))
      all_goals
        go_ret
        refine post_of ?_ (by first | exact hq2 | exact hq1)
        have hf := HF.out
        clear H HF
        refine Eq.trans ?_ (congrArg (· && b) hf.symm)
        rw [Bool.eq_iff_iff]
        simp_all [fitQ, exprT, namedB]
        try omega
    · have n1 : (n != 0) = true := by rw [bne_iff_ne]; omega
      have n2 : decide (n < 0) = true := decide_eq_true hn3
      go_enter Tryd.func59, Tryd.ntmps59
      go_wp2_with (first
        | (go_at_call 21; ((with_reducible refine (rname_any _ _ hs).mono ?_); rintro e w1 ⟨rfl, hb1⟩; obtain ⟨hc1, hf1⟩ := bcell hb1; have hz1 : w.heap.size < w1.heap.size := (by have := hb1.size; simp at this; omega); have hq1 : Below w.heap.size w w1 := ((Below.refl _ _).alloc (Nat.le_refl _) _).trans (hb1.mono (by simp)); have H1 := H w1 hq1))
        | (go_at_call 45; ((with_reducible refine H1.mono ?_); rintro e w2 ⟨rfl, hb2⟩; have hq2 := hq1.trans (hb2.mono hq1.size))))
      all_goals
        go_ret
        refine post_of ?_ (by first | exact hq2 | exact hq1)
        have hf := HF.out
        clear H HF
        refine Eq.trans ?_ (congrArg (· && b) hf.symm)
        rw [Bool.eq_iff_iff]
        simp_all [fitQ, exprT, namedB]
        try omega
    · have n1 : (n != 0) = true := by rw [bne_iff_ne]; omega
      have n2 : decide (n < 0) = false := decide_eq_false (by omega)
      go_enter Tryd.func59, Tryd.ntmps59
      go_wp2_with (first
        | (go_at_call 21; ((with_reducible refine (rname_any _ _ hs).mono ?_); rintro e w1 ⟨rfl, hb1⟩; obtain ⟨hc1, hf1⟩ := bcell hb1; have hz1 : w.heap.size < w1.heap.size := (by have := hb1.size; simp at this; omega); have hq1 : Below w.heap.size w w1 := ((Below.refl _ _).alloc (Nat.le_refl _) _).trans (hb1.mono (by simp)); have H1 := H w1 hq1))
        | (go_at_call 45; ((with_reducible refine H1.mono ?_); rintro e w2 ⟨rfl, hb2⟩; have hq2 := hq1.trans (hb2.mono hq1.size))))
      all_goals
        go_ret
        refine post_of ?_ (by first | exact hq2 | exact hq1)
        have hf := HF.out
        clear H HF
        refine Eq.trans ?_ (congrArg (· && b) hf.symm)
        rw [Bool.eq_iff_iff]
        simp_all [fitQ, exprT, namedB]
        try omega
  | false =>
    have he1 : ¬ s.toList = [] := by intro h; rw [h] at he; cases he
    have he3 : (s.toList == []) = false := by rw [beq_eq_false_iff_ne]; exact he1
    have he4 : (s.toList != []) = true := by rw [bne, he3]; rfl
    cases hnb : nameB s with
    | false =>
      have hn3 : n = 0 ∨ n < 0 ∨ 0 < n := by omega
      rcases hn3 with rfl | hn3 | hn3
      · go_enter Tryd.func59, Tryd.ntmps59
        go_wp2_with (first
          | (go_at_call 21; ((with_reducible refine (rname_any _ _ hs).mono ?_); rintro e w1 ⟨rfl, hb1⟩; obtain ⟨hc1, hf1⟩ := bcell hb1; have hz1 : w.heap.size < w1.heap.size := (by have := hb1.size; simp at this; omega); have hq1 : Below w.heap.size w w1 := ((Below.refl _ _).alloc (Nat.le_refl _) _).trans (hb1.mono (by simp)); have H1 := H w1 hq1))
          | (go_at_call 45; ((with_reducible refine H1.mono ?_); rintro e w2 ⟨rfl, hb2⟩; have hq2 := hq1.trans (hb2.mono hq1.size))))
        all_goals
          go_ret
          refine post_of ?_ (by first | exact hq2 | exact hq1)
          have hf := HF.out
          clear H HF
          refine Eq.trans ?_ (congrArg (· && b) hf.symm)
          rw [Bool.eq_iff_iff]
          simp_all [fitQ, exprT, namedB]
          try omega
      · have n1 : (n != 0) = true := by rw [bne_iff_ne]; omega
        have n2 : decide (n < 0) = true := decide_eq_true hn3
        go_enter Tryd.func59, Tryd.ntmps59
        go_wp2_with (first
          | (go_at_call 21; ((with_reducible refine (rname_any _ _ hs).mono ?_); rintro e w1 ⟨rfl, hb1⟩; obtain ⟨hc1, hf1⟩ := bcell hb1; have hz1 : w.heap.size < w1.heap.size := (by have := hb1.size; simp at this; omega); have hq1 : Below w.heap.size w w1 := ((Below.refl _ _).alloc (Nat.le_refl _) _).trans (hb1.mono (by simp)); have H1 := H w1 hq1))
          | (go_at_call 45; ((with_reducible refine H1.mono ?_); rintro e w2 ⟨rfl, hb2⟩; have hq2 := hq1.trans (hb2.mono hq1.size))))
        all_goals
          go_ret
          refine post_of ?_ (by first | exact hq2 | exact hq1)
          have hf := HF.out
          clear H HF
          refine Eq.trans ?_ (congrArg (· && b) hf.symm)
          rw [Bool.eq_iff_iff]
          simp_all [fitQ, exprT, namedB]
          try omega
      · have n1 : (n != 0) = true := by rw [bne_iff_ne]; omega
        have n2 : decide (n < 0) = false := decide_eq_false (by omega)
        go_enter Tryd.func59, Tryd.ntmps59
        go_wp2_with (first
          | (go_at_call 21; ((with_reducible refine (rname_any _ _ hs).mono ?_); rintro e w1 ⟨rfl, hb1⟩; obtain ⟨hc1, hf1⟩ := bcell hb1; have hz1 : w.heap.size < w1.heap.size := (by have := hb1.size; simp at this; omega); have hq1 : Below w.heap.size w w1 := ((Below.refl _ _).alloc (Nat.le_refl _) _).trans (hb1.mono (by simp)); have H1 := H w1 hq1))
          | (go_at_call 45; ((with_reducible refine H1.mono ?_); rintro e w2 ⟨rfl, hb2⟩; have hq2 := hq1.trans (hb2.mono hq1.size))))
        all_goals
          go_ret
          refine post_of ?_ (by first | exact hq2 | exact hq1)
          have hf := HF.out
          clear H HF
          refine Eq.trans ?_ (congrArg (· && b) hf.symm)
          rw [Bool.eq_iff_iff]
          simp_all [fitQ, exprT, namedB]
          try omega
    | true =>
      have hn3 : n = 0 ∨ n < 0 ∨ 0 < n := by omega
      rcases hn3 with rfl | hn3 | hn3
      · go_enter Tryd.func59, Tryd.ntmps59
        go_wp2_with (first
          | (go_at_call 21; ((with_reducible refine (rname_any _ _ hs).mono ?_); rintro e w1 ⟨rfl, hb1⟩; obtain ⟨hc1, hf1⟩ := bcell hb1; have hz1 : w.heap.size < w1.heap.size := (by have := hb1.size; simp at this; omega); have hq1 : Below w.heap.size w w1 := ((Below.refl _ _).alloc (Nat.le_refl _) _).trans (hb1.mono (by simp)); have H1 := H w1 hq1))
          | (go_at_call 45; ((with_reducible refine H1.mono ?_); rintro e w2 ⟨rfl, hb2⟩; have hq2 := hq1.trans (hb2.mono hq1.size))))
        all_goals
          go_ret
          refine post_of ?_ (by first | exact hq2 | exact hq1)
          have hf := HF.out
          clear H HF
          refine Eq.trans ?_ (congrArg (· && b) hf.symm)
          rw [Bool.eq_iff_iff]
          simp_all [fitQ, exprT, namedB]
          try omega
      · have n1 : (n != 0) = true := by rw [bne_iff_ne]; omega
        have n2 : decide (n < 0) = true := decide_eq_true hn3
        go_enter Tryd.func59, Tryd.ntmps59
        go_wp2_with (first
          | (go_at_call 21; ((with_reducible refine (rname_any _ _ hs).mono ?_); rintro e w1 ⟨rfl, hb1⟩; obtain ⟨hc1, hf1⟩ := bcell hb1; have hz1 : w.heap.size < w1.heap.size := (by have := hb1.size; simp at this; omega); have hq1 : Below w.heap.size w w1 := ((Below.refl _ _).alloc (Nat.le_refl _) _).trans (hb1.mono (by simp)); have H1 := H w1 hq1))
          | (go_at_call 45; ((with_reducible refine H1.mono ?_); rintro e w2 ⟨rfl, hb2⟩; have hq2 := hq1.trans (hb2.mono hq1.size))))
        all_goals
          go_ret
          refine post_of ?_ (by first | exact hq2 | exact hq1)
          have hf := HF.out
          clear H HF
          refine Eq.trans ?_ (congrArg (· && b) hf.symm)
          rw [Bool.eq_iff_iff]
          simp_all [fitQ, exprT, namedB]
          try omega
      · have n1 : (n != 0) = true := by rw [bne_iff_ne]; omega
        have n2 : decide (n < 0) = false := decide_eq_false (by omega)
        go_enter Tryd.func59, Tryd.ntmps59
        go_wp2_with (first
          | (go_at_call 21; ((with_reducible refine (rname_any _ _ hs).mono ?_); rintro e w1 ⟨rfl, hb1⟩; obtain ⟨hc1, hf1⟩ := bcell hb1; have hz1 : w.heap.size < w1.heap.size := (by have := hb1.size; simp at this; omega); have hq1 : Below w.heap.size w w1 := ((Below.refl _ _).alloc (Nat.le_refl _) _).trans (hb1.mono (by simp)); have H1 := H w1 hq1))
          | (go_at_call 45; ((with_reducible refine H1.mono ?_); rintro e w2 ⟨rfl, hb2⟩; have hq2 := hq1.trans (hb2.mono hq1.size))))
        all_goals
          go_ret
          refine post_of ?_ (by first | exact hq2 | exact hq1)
          have hf := HF.out
          clear H HF
          refine Eq.trans ?_ (congrArg (· && b) hf.symm)
          rw [Bool.eq_iff_iff]
          simp_all [fitQ, exprT, namedB]
          try omega

set_option maxRecDepth 100000 in
set_option maxHeartbeats 2000000 in
theorem rexpr_3 (n : Int) (s : ByteArray) (A : Option Addr) (k cap : Nat) (b : Bool) (w : World) (hs : s.size ≤ 9223372036854775807) (_hk : k ≤ 9223372036854775807)
    (H : ∀ W, Below w.heap.size w W → Calls Tryd.prog 45 #[.slice A k cap] W fun e w' => e = .returned (.bool b) ∧ Below W.heap.size W w') :
    Calls Tryd.prog 59 #[.agg #[.int .i64 3, .int .i64 n, .string s, .slice A k cap]] w (ExprPost 3 n s k b w) := by
  have HF := Lib.hid (fitE_lit 3 n s k (by decide))
  cases he : s.toList.isEmpty with
  | true =>
    obtain rfl := empty_of he
    clear he
    have hnb := nm_empty
    have hn3 : n = 0 ∨ n < 0 ∨ 0 < n := by omega
    rcases hn3 with rfl | hn3 | hn3
    · go_enter Tryd.func59, Tryd.ntmps59
      go_wp2_with (first
        | (go_at_call 21; ((with_reducible refine (rname_any _ _ hs).mono ?_); rintro e w1 ⟨rfl, hb1⟩; obtain ⟨hc1, hf1⟩ := bcell hb1; have hz1 : w.heap.size < w1.heap.size := (by have := hb1.size; simp at this; omega); have hq1 : Below w.heap.size w w1 := ((Below.refl _ _).alloc (Nat.le_refl _) _).trans (hb1.mono (by simp)); have H1 := H w1 hq1))
        | (go_at_call 45; ((with_reducible refine H1.mono ?_); rintro e w2 ⟨rfl, hb2⟩; have hq2 := hq1.trans (hb2.mono hq1.size))))
      all_goals
        go_ret
        refine post_of ?_ (by first | exact hq2 | exact hq1)
        have hf := HF.out
        clear H HF
        refine Eq.trans ?_ (congrArg (· && b) hf.symm)
        rw [Bool.eq_iff_iff]
        simp_all [fitQ, exprT, namedB]
        try omega
    · have n1 : (n != 0) = true := by rw [bne_iff_ne]; omega
      have n2 : decide (n < 0) = true := decide_eq_true hn3
      go_enter Tryd.func59, Tryd.ntmps59
      go_wp2_with (first
        | (go_at_call 21; ((with_reducible refine (rname_any _ _ hs).mono ?_); rintro e w1 ⟨rfl, hb1⟩; obtain ⟨hc1, hf1⟩ := bcell hb1; have hz1 : w.heap.size < w1.heap.size := (by have := hb1.size; simp at this; omega); have hq1 : Below w.heap.size w w1 := ((Below.refl _ _).alloc (Nat.le_refl _) _).trans (hb1.mono (by simp)); have H1 := H w1 hq1))
        | (go_at_call 45; ((with_reducible refine H1.mono ?_); rintro e w2 ⟨rfl, hb2⟩; have hq2 := hq1.trans (hb2.mono hq1.size))))
      all_goals
        go_ret
        refine post_of ?_ (by first | exact hq2 | exact hq1)
        have hf := HF.out
        clear H HF
        refine Eq.trans ?_ (congrArg (· && b) hf.symm)
        rw [Bool.eq_iff_iff]
        simp_all [fitQ, exprT, namedB]
        try omega
    · have n1 : (n != 0) = true := by rw [bne_iff_ne]; omega
      have n2 : decide (n < 0) = false := decide_eq_false (by omega)
      go_enter Tryd.func59, Tryd.ntmps59
      go_wp2_with (first
        | (go_at_call 21; ((with_reducible refine (rname_any _ _ hs).mono ?_); rintro e w1 ⟨rfl, hb1⟩; obtain ⟨hc1, hf1⟩ := bcell hb1; have hz1 : w.heap.size < w1.heap.size := (by have := hb1.size; simp at this; omega); have hq1 : Below w.heap.size w w1 := ((Below.refl _ _).alloc (Nat.le_refl _) _).trans (hb1.mono (by simp)); have H1 := H w1 hq1))
        | (go_at_call 45; ((with_reducible refine H1.mono ?_); rintro e w2 ⟨rfl, hb2⟩; have hq2 := hq1.trans (hb2.mono hq1.size))))
      all_goals
        go_ret
        refine post_of ?_ (by first | exact hq2 | exact hq1)
        have hf := HF.out
        clear H HF
        refine Eq.trans ?_ (congrArg (· && b) hf.symm)
        rw [Bool.eq_iff_iff]
        simp_all [fitQ, exprT, namedB]
        try omega
  | false =>
    have he1 : ¬ s.toList = [] := by intro h; rw [h] at he; cases he
    have he3 : (s.toList == []) = false := by rw [beq_eq_false_iff_ne]; exact he1
    have he4 : (s.toList != []) = true := by rw [bne, he3]; rfl
    cases hnb : nameB s with
    | false =>
      have hn3 : n = 0 ∨ n < 0 ∨ 0 < n := by omega
      rcases hn3 with rfl | hn3 | hn3
      · go_enter Tryd.func59, Tryd.ntmps59
        go_wp2_with (first
          | (go_at_call 21; ((with_reducible refine (rname_any _ _ hs).mono ?_); rintro e w1 ⟨rfl, hb1⟩; obtain ⟨hc1, hf1⟩ := bcell hb1; have hz1 : w.heap.size < w1.heap.size := (by have := hb1.size; simp at this; omega); have hq1 : Below w.heap.size w w1 := ((Below.refl _ _).alloc (Nat.le_refl _) _).trans (hb1.mono (by simp)); have H1 := H w1 hq1))
          | (go_at_call 45; ((with_reducible refine H1.mono ?_); rintro e w2 ⟨rfl, hb2⟩; have hq2 := hq1.trans (hb2.mono hq1.size))))
        all_goals
          go_ret
          refine post_of ?_ (by first | exact hq2 | exact hq1)
          have hf := HF.out
          clear H HF
          refine Eq.trans ?_ (congrArg (· && b) hf.symm)
          rw [Bool.eq_iff_iff]
          simp_all [fitQ, exprT, namedB]
          try omega
      · have n1 : (n != 0) = true := by rw [bne_iff_ne]; omega
        have n2 : decide (n < 0) = true := decide_eq_true hn3
        go_enter Tryd.func59, Tryd.ntmps59
        go_wp2_with (first
          | (go_at_call 21; ((with_reducible refine (rname_any _ _ hs).mono ?_); rintro e w1 ⟨rfl, hb1⟩; obtain ⟨hc1, hf1⟩ := bcell hb1; have hz1 : w.heap.size < w1.heap.size := (by have := hb1.size; simp at this; omega); have hq1 : Below w.heap.size w w1 := ((Below.refl _ _).alloc (Nat.le_refl _) _).trans (hb1.mono (by simp)); have H1 := H w1 hq1))
          | (go_at_call 45; ((with_reducible refine H1.mono ?_); rintro e w2 ⟨rfl, hb2⟩; have hq2 := hq1.trans (hb2.mono hq1.size))))
        all_goals
          go_ret
          refine post_of ?_ (by first | exact hq2 | exact hq1)
          have hf := HF.out
          clear H HF
          refine Eq.trans ?_ (congrArg (· && b) hf.symm)
          rw [Bool.eq_iff_iff]
          simp_all [fitQ, exprT, namedB]
          try omega
      · have n1 : (n != 0) = true := by rw [bne_iff_ne]; omega
        have n2 : decide (n < 0) = false := decide_eq_false (by omega)
        go_enter Tryd.func59, Tryd.ntmps59
        go_wp2_with (first
          | (go_at_call 21; ((with_reducible refine (rname_any _ _ hs).mono ?_); rintro e w1 ⟨rfl, hb1⟩; obtain ⟨hc1, hf1⟩ := bcell hb1; have hz1 : w.heap.size < w1.heap.size := (by have := hb1.size; simp at this; omega); have hq1 : Below w.heap.size w w1 := ((Below.refl _ _).alloc (Nat.le_refl _) _).trans (hb1.mono (by simp)); have H1 := H w1 hq1))
          | (go_at_call 45; ((with_reducible refine H1.mono ?_); rintro e w2 ⟨rfl, hb2⟩; have hq2 := hq1.trans (hb2.mono hq1.size))))
        all_goals
          go_ret
          refine post_of ?_ (by first | exact hq2 | exact hq1)
          have hf := HF.out
          clear H HF
          refine Eq.trans ?_ (congrArg (· && b) hf.symm)
          rw [Bool.eq_iff_iff]
          simp_all [fitQ, exprT, namedB]
          try omega
    | true =>
      have hn3 : n = 0 ∨ n < 0 ∨ 0 < n := by omega
      rcases hn3 with rfl | hn3 | hn3
      · go_enter Tryd.func59, Tryd.ntmps59
        go_wp2_with (first
          | (go_at_call 21; ((with_reducible refine (rname_any _ _ hs).mono ?_); rintro e w1 ⟨rfl, hb1⟩; obtain ⟨hc1, hf1⟩ := bcell hb1; have hz1 : w.heap.size < w1.heap.size := (by have := hb1.size; simp at this; omega); have hq1 : Below w.heap.size w w1 := ((Below.refl _ _).alloc (Nat.le_refl _) _).trans (hb1.mono (by simp)); have H1 := H w1 hq1))
          | (go_at_call 45; ((with_reducible refine H1.mono ?_); rintro e w2 ⟨rfl, hb2⟩; have hq2 := hq1.trans (hb2.mono hq1.size))))
        all_goals
          go_ret
          refine post_of ?_ (by first | exact hq2 | exact hq1)
          have hf := HF.out
          clear H HF
          refine Eq.trans ?_ (congrArg (· && b) hf.symm)
          rw [Bool.eq_iff_iff]
          simp_all [fitQ, exprT, namedB]
          try omega
      · have n1 : (n != 0) = true := by rw [bne_iff_ne]; omega
        have n2 : decide (n < 0) = true := decide_eq_true hn3
        go_enter Tryd.func59, Tryd.ntmps59
        go_wp2_with (first
          | (go_at_call 21; ((with_reducible refine (rname_any _ _ hs).mono ?_); rintro e w1 ⟨rfl, hb1⟩; obtain ⟨hc1, hf1⟩ := bcell hb1; have hz1 : w.heap.size < w1.heap.size := (by have := hb1.size; simp at this; omega); have hq1 : Below w.heap.size w w1 := ((Below.refl _ _).alloc (Nat.le_refl _) _).trans (hb1.mono (by simp)); have H1 := H w1 hq1))
          | (go_at_call 45; ((with_reducible refine H1.mono ?_); rintro e w2 ⟨rfl, hb2⟩; have hq2 := hq1.trans (hb2.mono hq1.size))))
        all_goals
          go_ret
          refine post_of ?_ (by first | exact hq2 | exact hq1)
          have hf := HF.out
          clear H HF
          refine Eq.trans ?_ (congrArg (· && b) hf.symm)
          rw [Bool.eq_iff_iff]
          simp_all [fitQ, exprT, namedB]
          try omega
      · have n1 : (n != 0) = true := by rw [bne_iff_ne]; omega
        have n2 : decide (n < 0) = false := decide_eq_false (by omega)
        go_enter Tryd.func59, Tryd.ntmps59
        go_wp2_with (first
          | (go_at_call 21; ((with_reducible refine (rname_any _ _ hs).mono ?_); rintro e w1 ⟨rfl, hb1⟩; obtain ⟨hc1, hf1⟩ := bcell hb1; have hz1 : w.heap.size < w1.heap.size := (by have := hb1.size; simp at this; omega); have hq1 : Below w.heap.size w w1 := ((Below.refl _ _).alloc (Nat.le_refl _) _).trans (hb1.mono (by simp)); have H1 := H w1 hq1))
          | (go_at_call 45; ((with_reducible refine H1.mono ?_); rintro e w2 ⟨rfl, hb2⟩; have hq2 := hq1.trans (hb2.mono hq1.size))))
        all_goals
          go_ret
          refine post_of ?_ (by first | exact hq2 | exact hq1)
          have hf := HF.out
          clear H HF
          refine Eq.trans ?_ (congrArg (· && b) hf.symm)
          rw [Bool.eq_iff_iff]
          simp_all [fitQ, exprT, namedB]
          try omega

set_option maxRecDepth 100000 in
set_option maxHeartbeats 2000000 in
theorem rexpr_4 (n : Int) (s : ByteArray) (A : Option Addr) (k cap : Nat) (b : Bool) (w : World) (hs : s.size ≤ 9223372036854775807) (_hk : k ≤ 9223372036854775807)
    (H : ∀ W, Below w.heap.size w W → Calls Tryd.prog 45 #[.slice A k cap] W fun e w' => e = .returned (.bool b) ∧ Below W.heap.size W w') :
    Calls Tryd.prog 59 #[.agg #[.int .i64 4, .int .i64 n, .string s, .slice A k cap]] w (ExprPost 4 n s k b w) := by
  have HF := Lib.hid (fitE_lit 4 n s k (by decide))
  cases he : s.toList.isEmpty with
  | true =>
    obtain rfl := empty_of he
    clear he
    have hnb := nm_empty
    have hn3 : n = 0 ∨ n < 0 ∨ 0 < n := by omega
    rcases hn3 with rfl | hn3 | hn3
    · go_enter Tryd.func59, Tryd.ntmps59
      go_wp2_with (first
        | (go_at_call 21; ((with_reducible refine (rname_any _ _ hs).mono ?_); rintro e w1 ⟨rfl, hb1⟩; obtain ⟨hc1, hf1⟩ := bcell hb1; have hz1 : w.heap.size < w1.heap.size := (by have := hb1.size; simp at this; omega); have hq1 : Below w.heap.size w w1 := ((Below.refl _ _).alloc (Nat.le_refl _) _).trans (hb1.mono (by simp)); have H1 := H w1 hq1))
        | (go_at_call 45; ((with_reducible refine H1.mono ?_); rintro e w2 ⟨rfl, hb2⟩; have hq2 := hq1.trans (hb2.mono hq1.size))))
      all_goals
        go_ret
        refine post_of ?_ (by first | exact hq2 | exact hq1)
        have hf := HF.out
        clear H HF
        refine Eq.trans ?_ (congrArg (· && b) hf.symm)
        rw [Bool.eq_iff_iff]
        simp_all [fitQ, exprT, namedB]
        try omega
    · have n1 : (n != 0) = true := by rw [bne_iff_ne]; omega
      have n2 : decide (n < 0) = true := decide_eq_true hn3
      go_enter Tryd.func59, Tryd.ntmps59
      go_wp2_with (first
        | (go_at_call 21; ((with_reducible refine (rname_any _ _ hs).mono ?_); rintro e w1 ⟨rfl, hb1⟩; obtain ⟨hc1, hf1⟩ := bcell hb1; have hz1 : w.heap.size < w1.heap.size := (by have := hb1.size; simp at this; omega); have hq1 : Below w.heap.size w w1 := ((Below.refl _ _).alloc (Nat.le_refl _) _).trans (hb1.mono (by simp)); have H1 := H w1 hq1))
        | (go_at_call 45; ((with_reducible refine H1.mono ?_); rintro e w2 ⟨rfl, hb2⟩; have hq2 := hq1.trans (hb2.mono hq1.size))))
      all_goals
        go_ret
        refine post_of ?_ (by first | exact hq2 | exact hq1)
        have hf := HF.out
        clear H HF
        refine Eq.trans ?_ (congrArg (· && b) hf.symm)
        rw [Bool.eq_iff_iff]
        simp_all [fitQ, exprT, namedB]
        try omega
    · have n1 : (n != 0) = true := by rw [bne_iff_ne]; omega
      have n2 : decide (n < 0) = false := decide_eq_false (by omega)
      go_enter Tryd.func59, Tryd.ntmps59
      go_wp2_with (first
        | (go_at_call 21; ((with_reducible refine (rname_any _ _ hs).mono ?_); rintro e w1 ⟨rfl, hb1⟩; obtain ⟨hc1, hf1⟩ := bcell hb1; have hz1 : w.heap.size < w1.heap.size := (by have := hb1.size; simp at this; omega); have hq1 : Below w.heap.size w w1 := ((Below.refl _ _).alloc (Nat.le_refl _) _).trans (hb1.mono (by simp)); have H1 := H w1 hq1))
        | (go_at_call 45; ((with_reducible refine H1.mono ?_); rintro e w2 ⟨rfl, hb2⟩; have hq2 := hq1.trans (hb2.mono hq1.size))))
      all_goals
        go_ret
        refine post_of ?_ (by first | exact hq2 | exact hq1)
        have hf := HF.out
        clear H HF
        refine Eq.trans ?_ (congrArg (· && b) hf.symm)
        rw [Bool.eq_iff_iff]
        simp_all [fitQ, exprT, namedB]
        try omega
  | false =>
    have he1 : ¬ s.toList = [] := by intro h; rw [h] at he; cases he
    have he3 : (s.toList == []) = false := by rw [beq_eq_false_iff_ne]; exact he1
    have he4 : (s.toList != []) = true := by rw [bne, he3]; rfl
    cases hnb : nameB s with
    | false =>
      have hn3 : n = 0 ∨ n < 0 ∨ 0 < n := by omega
      rcases hn3 with rfl | hn3 | hn3
      · go_enter Tryd.func59, Tryd.ntmps59
        go_wp2_with (first
          | (go_at_call 21; ((with_reducible refine (rname_any _ _ hs).mono ?_); rintro e w1 ⟨rfl, hb1⟩; obtain ⟨hc1, hf1⟩ := bcell hb1; have hz1 : w.heap.size < w1.heap.size := (by have := hb1.size; simp at this; omega); have hq1 : Below w.heap.size w w1 := ((Below.refl _ _).alloc (Nat.le_refl _) _).trans (hb1.mono (by simp)); have H1 := H w1 hq1))
          | (go_at_call 45; ((with_reducible refine H1.mono ?_); rintro e w2 ⟨rfl, hb2⟩; have hq2 := hq1.trans (hb2.mono hq1.size))))
        all_goals
          go_ret
          refine post_of ?_ (by first | exact hq2 | exact hq1)
          have hf := HF.out
          clear H HF
          refine Eq.trans ?_ (congrArg (· && b) hf.symm)
          rw [Bool.eq_iff_iff]
          simp_all [fitQ, exprT, namedB]
          try omega
      · have n1 : (n != 0) = true := by rw [bne_iff_ne]; omega
        have n2 : decide (n < 0) = true := decide_eq_true hn3
        go_enter Tryd.func59, Tryd.ntmps59
        go_wp2_with (first
          | (go_at_call 21; ((with_reducible refine (rname_any _ _ hs).mono ?_); rintro e w1 ⟨rfl, hb1⟩; obtain ⟨hc1, hf1⟩ := bcell hb1; have hz1 : w.heap.size < w1.heap.size := (by have := hb1.size; simp at this; omega); have hq1 : Below w.heap.size w w1 := ((Below.refl _ _).alloc (Nat.le_refl _) _).trans (hb1.mono (by simp)); have H1 := H w1 hq1))
          | (go_at_call 45; ((with_reducible refine H1.mono ?_); rintro e w2 ⟨rfl, hb2⟩; have hq2 := hq1.trans (hb2.mono hq1.size))))
        all_goals
          go_ret
          refine post_of ?_ (by first | exact hq2 | exact hq1)
          have hf := HF.out
          clear H HF
          refine Eq.trans ?_ (congrArg (· && b) hf.symm)
          rw [Bool.eq_iff_iff]
          simp_all [fitQ, exprT, namedB]
          try omega
      · have n1 : (n != 0) = true := by rw [bne_iff_ne]; omega
        have n2 : decide (n < 0) = false := decide_eq_false (by omega)
        go_enter Tryd.func59, Tryd.ntmps59
        go_wp2_with (first
          | (go_at_call 21; ((with_reducible refine (rname_any _ _ hs).mono ?_); rintro e w1 ⟨rfl, hb1⟩; obtain ⟨hc1, hf1⟩ := bcell hb1; have hz1 : w.heap.size < w1.heap.size := (by have := hb1.size; simp at this; omega); have hq1 : Below w.heap.size w w1 := ((Below.refl _ _).alloc (Nat.le_refl _) _).trans (hb1.mono (by simp)); have H1 := H w1 hq1))
          | (go_at_call 45; ((with_reducible refine H1.mono ?_); rintro e w2 ⟨rfl, hb2⟩; have hq2 := hq1.trans (hb2.mono hq1.size))))
        all_goals
          go_ret
          refine post_of ?_ (by first | exact hq2 | exact hq1)
          have hf := HF.out
          clear H HF
          refine Eq.trans ?_ (congrArg (· && b) hf.symm)
          rw [Bool.eq_iff_iff]
          simp_all [fitQ, exprT, namedB]
          try omega
    | true =>
      have hn3 : n = 0 ∨ n < 0 ∨ 0 < n := by omega
      rcases hn3 with rfl | hn3 | hn3
      · go_enter Tryd.func59, Tryd.ntmps59
        go_wp2_with (first
          | (go_at_call 21; ((with_reducible refine (rname_any _ _ hs).mono ?_); rintro e w1 ⟨rfl, hb1⟩; obtain ⟨hc1, hf1⟩ := bcell hb1; have hz1 : w.heap.size < w1.heap.size := (by have := hb1.size; simp at this; omega); have hq1 : Below w.heap.size w w1 := ((Below.refl _ _).alloc (Nat.le_refl _) _).trans (hb1.mono (by simp)); have H1 := H w1 hq1))
          | (go_at_call 45; ((with_reducible refine H1.mono ?_); rintro e w2 ⟨rfl, hb2⟩; have hq2 := hq1.trans (hb2.mono hq1.size))))
        all_goals
          go_ret
          refine post_of ?_ (by first | exact hq2 | exact hq1)
          have hf := HF.out
          clear H HF
          refine Eq.trans ?_ (congrArg (· && b) hf.symm)
          rw [Bool.eq_iff_iff]
          simp_all [fitQ, exprT, namedB]
          try omega
      · have n1 : (n != 0) = true := by rw [bne_iff_ne]; omega
        have n2 : decide (n < 0) = true := decide_eq_true hn3
        go_enter Tryd.func59, Tryd.ntmps59
        go_wp2_with (first
          | (go_at_call 21; ((with_reducible refine (rname_any _ _ hs).mono ?_); rintro e w1 ⟨rfl, hb1⟩; obtain ⟨hc1, hf1⟩ := bcell hb1; have hz1 : w.heap.size < w1.heap.size := (by have := hb1.size; simp at this; omega); have hq1 : Below w.heap.size w w1 := ((Below.refl _ _).alloc (Nat.le_refl _) _).trans (hb1.mono (by simp)); have H1 := H w1 hq1))
          | (go_at_call 45; ((with_reducible refine H1.mono ?_); rintro e w2 ⟨rfl, hb2⟩; have hq2 := hq1.trans (hb2.mono hq1.size))))
        all_goals
          go_ret
          refine post_of ?_ (by first | exact hq2 | exact hq1)
          have hf := HF.out
          clear H HF
          refine Eq.trans ?_ (congrArg (· && b) hf.symm)
          rw [Bool.eq_iff_iff]
          simp_all [fitQ, exprT, namedB]
          try omega
      · have n1 : (n != 0) = true := by rw [bne_iff_ne]; omega
        have n2 : decide (n < 0) = false := decide_eq_false (by omega)
        go_enter Tryd.func59, Tryd.ntmps59
        go_wp2_with (first
          | (go_at_call 21; ((with_reducible refine (rname_any _ _ hs).mono ?_); rintro e w1 ⟨rfl, hb1⟩; obtain ⟨hc1, hf1⟩ := bcell hb1; have hz1 : w.heap.size < w1.heap.size := (by have := hb1.size; simp at this; omega); have hq1 : Below w.heap.size w w1 := ((Below.refl _ _).alloc (Nat.le_refl _) _).trans (hb1.mono (by simp)); have H1 := H w1 hq1))
          | (go_at_call 45; ((with_reducible refine H1.mono ?_); rintro e w2 ⟨rfl, hb2⟩; have hq2 := hq1.trans (hb2.mono hq1.size))))
        all_goals
          go_ret
          refine post_of ?_ (by first | exact hq2 | exact hq1)
          have hf := HF.out
          clear H HF
          refine Eq.trans ?_ (congrArg (· && b) hf.symm)
          rw [Bool.eq_iff_iff]
          simp_all [fitQ, exprT, namedB]
          try omega

set_option maxRecDepth 100000 in
set_option maxHeartbeats 2000000 in
theorem rexpr_5 (n : Int) (s : ByteArray) (A : Option Addr) (k cap : Nat) (b : Bool) (w : World) (hs : s.size ≤ 9223372036854775807) (_hk : k ≤ 9223372036854775807)
    (H : ∀ W, Below w.heap.size w W → Calls Tryd.prog 45 #[.slice A k cap] W fun e w' => e = .returned (.bool b) ∧ Below W.heap.size W w') :
    Calls Tryd.prog 59 #[.agg #[.int .i64 5, .int .i64 n, .string s, .slice A k cap]] w (ExprPost 5 n s k b w) := by
  have HF := Lib.hid (fitE_lit 5 n s k (by decide))
  cases he : s.toList.isEmpty with
  | true =>
    obtain rfl := empty_of he
    clear he
    have hnb := nm_empty
    have hn3 : n = 0 ∨ n < 0 ∨ 0 < n := by omega
    rcases hn3 with rfl | hn3 | hn3
    · go_enter Tryd.func59, Tryd.ntmps59
      go_wp2_with (first
        | (go_at_call 21; ((with_reducible refine (rname_any _ _ hs).mono ?_); rintro e w1 ⟨rfl, hb1⟩; obtain ⟨hc1, hf1⟩ := bcell hb1; have hz1 : w.heap.size < w1.heap.size := (by have := hb1.size; simp at this; omega); have hq1 : Below w.heap.size w w1 := ((Below.refl _ _).alloc (Nat.le_refl _) _).trans (hb1.mono (by simp)); have H1 := H w1 hq1))
        | (go_at_call 45; ((with_reducible refine H1.mono ?_); rintro e w2 ⟨rfl, hb2⟩; have hq2 := hq1.trans (hb2.mono hq1.size))))
      all_goals
        go_ret
        refine post_of ?_ (by first | exact hq2 | exact hq1)
        have hf := HF.out
        clear H HF
        refine Eq.trans ?_ (congrArg (· && b) hf.symm)
        rw [Bool.eq_iff_iff]
        simp_all [fitQ, exprT, namedB]
        try omega
    · have n1 : (n != 0) = true := by rw [bne_iff_ne]; omega
      have n2 : decide (n < 0) = true := decide_eq_true hn3
      go_enter Tryd.func59, Tryd.ntmps59
      go_wp2_with (first
        | (go_at_call 21; ((with_reducible refine (rname_any _ _ hs).mono ?_); rintro e w1 ⟨rfl, hb1⟩; obtain ⟨hc1, hf1⟩ := bcell hb1; have hz1 : w.heap.size < w1.heap.size := (by have := hb1.size; simp at this; omega); have hq1 : Below w.heap.size w w1 := ((Below.refl _ _).alloc (Nat.le_refl _) _).trans (hb1.mono (by simp)); have H1 := H w1 hq1))
        | (go_at_call 45; ((with_reducible refine H1.mono ?_); rintro e w2 ⟨rfl, hb2⟩; have hq2 := hq1.trans (hb2.mono hq1.size))))
      all_goals
        go_ret
        refine post_of ?_ (by first | exact hq2 | exact hq1)
        have hf := HF.out
        clear H HF
        refine Eq.trans ?_ (congrArg (· && b) hf.symm)
        rw [Bool.eq_iff_iff]
        simp_all [fitQ, exprT, namedB]
        try omega
    · have n1 : (n != 0) = true := by rw [bne_iff_ne]; omega
      have n2 : decide (n < 0) = false := decide_eq_false (by omega)
      go_enter Tryd.func59, Tryd.ntmps59
      go_wp2_with (first
        | (go_at_call 21; ((with_reducible refine (rname_any _ _ hs).mono ?_); rintro e w1 ⟨rfl, hb1⟩; obtain ⟨hc1, hf1⟩ := bcell hb1; have hz1 : w.heap.size < w1.heap.size := (by have := hb1.size; simp at this; omega); have hq1 : Below w.heap.size w w1 := ((Below.refl _ _).alloc (Nat.le_refl _) _).trans (hb1.mono (by simp)); have H1 := H w1 hq1))
        | (go_at_call 45; ((with_reducible refine H1.mono ?_); rintro e w2 ⟨rfl, hb2⟩; have hq2 := hq1.trans (hb2.mono hq1.size))))
      all_goals
        go_ret
        refine post_of ?_ (by first | exact hq2 | exact hq1)
        have hf := HF.out
        clear H HF
        refine Eq.trans ?_ (congrArg (· && b) hf.symm)
        rw [Bool.eq_iff_iff]
        simp_all [fitQ, exprT, namedB]
        try omega
  | false =>
    have he1 : ¬ s.toList = [] := by intro h; rw [h] at he; cases he
    have he3 : (s.toList == []) = false := by rw [beq_eq_false_iff_ne]; exact he1
    have he4 : (s.toList != []) = true := by rw [bne, he3]; rfl
    cases hnb : nameB s with
    | false =>
      have hn3 : n = 0 ∨ n < 0 ∨ 0 < n := by omega
      rcases hn3 with rfl | hn3 | hn3
      · go_enter Tryd.func59, Tryd.ntmps59
        go_wp2_with (first
          | (go_at_call 21; ((with_reducible refine (rname_any _ _ hs).mono ?_); rintro e w1 ⟨rfl, hb1⟩; obtain ⟨hc1, hf1⟩ := bcell hb1; have hz1 : w.heap.size < w1.heap.size := (by have := hb1.size; simp at this; omega); have hq1 : Below w.heap.size w w1 := ((Below.refl _ _).alloc (Nat.le_refl _) _).trans (hb1.mono (by simp)); have H1 := H w1 hq1))
          | (go_at_call 45; ((with_reducible refine H1.mono ?_); rintro e w2 ⟨rfl, hb2⟩; have hq2 := hq1.trans (hb2.mono hq1.size))))
        all_goals
          go_ret
          refine post_of ?_ (by first | exact hq2 | exact hq1)
          have hf := HF.out
          clear H HF
          refine Eq.trans ?_ (congrArg (· && b) hf.symm)
          rw [Bool.eq_iff_iff]
          simp_all [fitQ, exprT, namedB]
          try omega
      · have n1 : (n != 0) = true := by rw [bne_iff_ne]; omega
        have n2 : decide (n < 0) = true := decide_eq_true hn3
        go_enter Tryd.func59, Tryd.ntmps59
        go_wp2_with (first
          | (go_at_call 21; ((with_reducible refine (rname_any _ _ hs).mono ?_); rintro e w1 ⟨rfl, hb1⟩; obtain ⟨hc1, hf1⟩ := bcell hb1; have hz1 : w.heap.size < w1.heap.size := (by have := hb1.size; simp at this; omega); have hq1 : Below w.heap.size w w1 := ((Below.refl _ _).alloc (Nat.le_refl _) _).trans (hb1.mono (by simp)); have H1 := H w1 hq1))
          | (go_at_call 45; ((with_reducible refine H1.mono ?_); rintro e w2 ⟨rfl, hb2⟩; have hq2 := hq1.trans (hb2.mono hq1.size))))
        all_goals
          go_ret
          refine post_of ?_ (by first | exact hq2 | exact hq1)
          have hf := HF.out
          clear H HF
          refine Eq.trans ?_ (congrArg (· && b) hf.symm)
          rw [Bool.eq_iff_iff]
          simp_all [fitQ, exprT, namedB]
          try omega
      · have n1 : (n != 0) = true := by rw [bne_iff_ne]; omega
        have n2 : decide (n < 0) = false := decide_eq_false (by omega)
        go_enter Tryd.func59, Tryd.ntmps59
        go_wp2_with (first
          | (go_at_call 21; ((with_reducible refine (rname_any _ _ hs).mono ?_); rintro e w1 ⟨rfl, hb1⟩; obtain ⟨hc1, hf1⟩ := bcell hb1; have hz1 : w.heap.size < w1.heap.size := (by have := hb1.size; simp at this; omega); have hq1 : Below w.heap.size w w1 := ((Below.refl _ _).alloc (Nat.le_refl _) _).trans (hb1.mono (by simp)); have H1 := H w1 hq1))
          | (go_at_call 45; ((with_reducible refine H1.mono ?_); rintro e w2 ⟨rfl, hb2⟩; have hq2 := hq1.trans (hb2.mono hq1.size))))
        all_goals
          go_ret
          refine post_of ?_ (by first | exact hq2 | exact hq1)
          have hf := HF.out
          clear H HF
          refine Eq.trans ?_ (congrArg (· && b) hf.symm)
          rw [Bool.eq_iff_iff]
          simp_all [fitQ, exprT, namedB]
          try omega
    | true =>
      have hn3 : n = 0 ∨ n < 0 ∨ 0 < n := by omega
      rcases hn3 with rfl | hn3 | hn3
      · go_enter Tryd.func59, Tryd.ntmps59
        go_wp2_with (first
          | (go_at_call 21; ((with_reducible refine (rname_any _ _ hs).mono ?_); rintro e w1 ⟨rfl, hb1⟩; obtain ⟨hc1, hf1⟩ := bcell hb1; have hz1 : w.heap.size < w1.heap.size := (by have := hb1.size; simp at this; omega); have hq1 : Below w.heap.size w w1 := ((Below.refl _ _).alloc (Nat.le_refl _) _).trans (hb1.mono (by simp)); have H1 := H w1 hq1))
          | (go_at_call 45; ((with_reducible refine H1.mono ?_); rintro e w2 ⟨rfl, hb2⟩; have hq2 := hq1.trans (hb2.mono hq1.size))))
        all_goals
          go_ret
          refine post_of ?_ (by first | exact hq2 | exact hq1)
          have hf := HF.out
          clear H HF
          refine Eq.trans ?_ (congrArg (· && b) hf.symm)
          rw [Bool.eq_iff_iff]
          simp_all [fitQ, exprT, namedB]
          try omega
      · have n1 : (n != 0) = true := by rw [bne_iff_ne]; omega
        have n2 : decide (n < 0) = true := decide_eq_true hn3
        go_enter Tryd.func59, Tryd.ntmps59
        go_wp2_with (first
          | (go_at_call 21; ((with_reducible refine (rname_any _ _ hs).mono ?_); rintro e w1 ⟨rfl, hb1⟩; obtain ⟨hc1, hf1⟩ := bcell hb1; have hz1 : w.heap.size < w1.heap.size := (by have := hb1.size; simp at this; omega); have hq1 : Below w.heap.size w w1 := ((Below.refl _ _).alloc (Nat.le_refl _) _).trans (hb1.mono (by simp)); have H1 := H w1 hq1))
          | (go_at_call 45; ((with_reducible refine H1.mono ?_); rintro e w2 ⟨rfl, hb2⟩; have hq2 := hq1.trans (hb2.mono hq1.size))))
        all_goals
          go_ret
          refine post_of ?_ (by first | exact hq2 | exact hq1)
          have hf := HF.out
          clear H HF
          refine Eq.trans ?_ (congrArg (· && b) hf.symm)
          rw [Bool.eq_iff_iff]
          simp_all [fitQ, exprT, namedB]
          try omega
      · have n1 : (n != 0) = true := by rw [bne_iff_ne]; omega
        have n2 : decide (n < 0) = false := decide_eq_false (by omega)
        go_enter Tryd.func59, Tryd.ntmps59
        go_wp2_with (first
          | (go_at_call 21; ((with_reducible refine (rname_any _ _ hs).mono ?_); rintro e w1 ⟨rfl, hb1⟩; obtain ⟨hc1, hf1⟩ := bcell hb1; have hz1 : w.heap.size < w1.heap.size := (by have := hb1.size; simp at this; omega); have hq1 : Below w.heap.size w w1 := ((Below.refl _ _).alloc (Nat.le_refl _) _).trans (hb1.mono (by simp)); have H1 := H w1 hq1))
          | (go_at_call 45; ((with_reducible refine H1.mono ?_); rintro e w2 ⟨rfl, hb2⟩; have hq2 := hq1.trans (hb2.mono hq1.size))))
        all_goals
          go_ret
          refine post_of ?_ (by first | exact hq2 | exact hq1)
          have hf := HF.out
          clear H HF
          refine Eq.trans ?_ (congrArg (· && b) hf.symm)
          rw [Bool.eq_iff_iff]
          simp_all [fitQ, exprT, namedB]
          try omega

set_option maxRecDepth 100000 in
set_option maxHeartbeats 2000000 in
theorem rexpr_6 (n : Int) (s : ByteArray) (A : Option Addr) (k cap : Nat) (b : Bool) (w : World) (hs : s.size ≤ 9223372036854775807) (_hk : k ≤ 9223372036854775807)
    (H : ∀ W, Below w.heap.size w W → Calls Tryd.prog 45 #[.slice A k cap] W fun e w' => e = .returned (.bool b) ∧ Below W.heap.size W w') :
    Calls Tryd.prog 59 #[.agg #[.int .i64 6, .int .i64 n, .string s, .slice A k cap]] w (ExprPost 6 n s k b w) := by
  have HF := Lib.hid (fitE_lit 6 n s k (by decide))
  cases he : s.toList.isEmpty with
  | true =>
    obtain rfl := empty_of he
    clear he
    have hnb := nm_empty
    have hn3 : n = 0 ∨ n < 0 ∨ 0 < n := by omega
    rcases hn3 with rfl | hn3 | hn3
    · go_enter Tryd.func59, Tryd.ntmps59
      go_wp2_with (first
        | (go_at_call 21; ((with_reducible refine (rname_any _ _ hs).mono ?_); rintro e w1 ⟨rfl, hb1⟩; obtain ⟨hc1, hf1⟩ := bcell hb1; have hz1 : w.heap.size < w1.heap.size := (by have := hb1.size; simp at this; omega); have hq1 : Below w.heap.size w w1 := ((Below.refl _ _).alloc (Nat.le_refl _) _).trans (hb1.mono (by simp)); have H1 := H w1 hq1))
        | (go_at_call 45; ((with_reducible refine H1.mono ?_); rintro e w2 ⟨rfl, hb2⟩; have hq2 := hq1.trans (hb2.mono hq1.size))))
      all_goals
        go_ret
        refine post_of ?_ (by first | exact hq2 | exact hq1)
        have hf := HF.out
        clear H HF
        refine Eq.trans ?_ (congrArg (· && b) hf.symm)
        rw [Bool.eq_iff_iff]
        simp_all [fitQ, exprT, namedB]
        try omega
    · have n1 : (n != 0) = true := by rw [bne_iff_ne]; omega
      have n2 : decide (n < 0) = true := decide_eq_true hn3
      go_enter Tryd.func59, Tryd.ntmps59
      go_wp2_with (first
        | (go_at_call 21; ((with_reducible refine (rname_any _ _ hs).mono ?_); rintro e w1 ⟨rfl, hb1⟩; obtain ⟨hc1, hf1⟩ := bcell hb1; have hz1 : w.heap.size < w1.heap.size := (by have := hb1.size; simp at this; omega); have hq1 : Below w.heap.size w w1 := ((Below.refl _ _).alloc (Nat.le_refl _) _).trans (hb1.mono (by simp)); have H1 := H w1 hq1))
        | (go_at_call 45; ((with_reducible refine H1.mono ?_); rintro e w2 ⟨rfl, hb2⟩; have hq2 := hq1.trans (hb2.mono hq1.size))))
      all_goals
        go_ret
        refine post_of ?_ (by first | exact hq2 | exact hq1)
        have hf := HF.out
        clear H HF
        refine Eq.trans ?_ (congrArg (· && b) hf.symm)
        rw [Bool.eq_iff_iff]
        simp_all [fitQ, exprT, namedB]
        try omega
    · have n1 : (n != 0) = true := by rw [bne_iff_ne]; omega
      have n2 : decide (n < 0) = false := decide_eq_false (by omega)
      go_enter Tryd.func59, Tryd.ntmps59
      go_wp2_with (first
        | (go_at_call 21; ((with_reducible refine (rname_any _ _ hs).mono ?_); rintro e w1 ⟨rfl, hb1⟩; obtain ⟨hc1, hf1⟩ := bcell hb1; have hz1 : w.heap.size < w1.heap.size := (by have := hb1.size; simp at this; omega); have hq1 : Below w.heap.size w w1 := ((Below.refl _ _).alloc (Nat.le_refl _) _).trans (hb1.mono (by simp)); have H1 := H w1 hq1))
        | (go_at_call 45; ((with_reducible refine H1.mono ?_); rintro e w2 ⟨rfl, hb2⟩; have hq2 := hq1.trans (hb2.mono hq1.size))))
      all_goals
        go_ret
        refine post_of ?_ (by first | exact hq2 | exact hq1)
        have hf := HF.out
        clear H HF
        refine Eq.trans ?_ (congrArg (· && b) hf.symm)
        rw [Bool.eq_iff_iff]
        simp_all [fitQ, exprT, namedB]
        try omega
  | false =>
    have he1 : ¬ s.toList = [] := by intro h; rw [h] at he; cases he
    have he3 : (s.toList == []) = false := by rw [beq_eq_false_iff_ne]; exact he1
    have he4 : (s.toList != []) = true := by rw [bne, he3]; rfl
    cases hnb : nameB s with
    | false =>
      have hn3 : n = 0 ∨ n < 0 ∨ 0 < n := by omega
      rcases hn3 with rfl | hn3 | hn3
      · go_enter Tryd.func59, Tryd.ntmps59
        go_wp2_with (first
          | (go_at_call 21; ((with_reducible refine (rname_any _ _ hs).mono ?_); rintro e w1 ⟨rfl, hb1⟩; obtain ⟨hc1, hf1⟩ := bcell hb1; have hz1 : w.heap.size < w1.heap.size := (by have := hb1.size; simp at this; omega); have hq1 : Below w.heap.size w w1 := ((Below.refl _ _).alloc (Nat.le_refl _) _).trans (hb1.mono (by simp)); have H1 := H w1 hq1))
          | (go_at_call 45; ((with_reducible refine H1.mono ?_); rintro e w2 ⟨rfl, hb2⟩; have hq2 := hq1.trans (hb2.mono hq1.size))))
        all_goals
          go_ret
          refine post_of ?_ (by first | exact hq2 | exact hq1)
          have hf := HF.out
          clear H HF
          refine Eq.trans ?_ (congrArg (· && b) hf.symm)
          rw [Bool.eq_iff_iff]
          simp_all [fitQ, exprT, namedB]
          try omega
      · have n1 : (n != 0) = true := by rw [bne_iff_ne]; omega
        have n2 : decide (n < 0) = true := decide_eq_true hn3
        go_enter Tryd.func59, Tryd.ntmps59
        go_wp2_with (first
          | (go_at_call 21; ((with_reducible refine (rname_any _ _ hs).mono ?_); rintro e w1 ⟨rfl, hb1⟩; obtain ⟨hc1, hf1⟩ := bcell hb1; have hz1 : w.heap.size < w1.heap.size := (by have := hb1.size; simp at this; omega); have hq1 : Below w.heap.size w w1 := ((Below.refl _ _).alloc (Nat.le_refl _) _).trans (hb1.mono (by simp)); have H1 := H w1 hq1))
          | (go_at_call 45; ((with_reducible refine H1.mono ?_); rintro e w2 ⟨rfl, hb2⟩; have hq2 := hq1.trans (hb2.mono hq1.size))))
        all_goals
          go_ret
          refine post_of ?_ (by first | exact hq2 | exact hq1)
          have hf := HF.out
          clear H HF
          refine Eq.trans ?_ (congrArg (· && b) hf.symm)
          rw [Bool.eq_iff_iff]
          simp_all [fitQ, exprT, namedB]
          try omega
      · have n1 : (n != 0) = true := by rw [bne_iff_ne]; omega
        have n2 : decide (n < 0) = false := decide_eq_false (by omega)
        go_enter Tryd.func59, Tryd.ntmps59
        go_wp2_with (first
          | (go_at_call 21; ((with_reducible refine (rname_any _ _ hs).mono ?_); rintro e w1 ⟨rfl, hb1⟩; obtain ⟨hc1, hf1⟩ := bcell hb1; have hz1 : w.heap.size < w1.heap.size := (by have := hb1.size; simp at this; omega); have hq1 : Below w.heap.size w w1 := ((Below.refl _ _).alloc (Nat.le_refl _) _).trans (hb1.mono (by simp)); have H1 := H w1 hq1))
          | (go_at_call 45; ((with_reducible refine H1.mono ?_); rintro e w2 ⟨rfl, hb2⟩; have hq2 := hq1.trans (hb2.mono hq1.size))))
        all_goals
          go_ret
          refine post_of ?_ (by first | exact hq2 | exact hq1)
          have hf := HF.out
          clear H HF
          refine Eq.trans ?_ (congrArg (· && b) hf.symm)
          rw [Bool.eq_iff_iff]
          simp_all [fitQ, exprT, namedB]
          try omega
    | true =>
      have hn3 : n = 0 ∨ n < 0 ∨ 0 < n := by omega
      rcases hn3 with rfl | hn3 | hn3
      · go_enter Tryd.func59, Tryd.ntmps59
        go_wp2_with (first
          | (go_at_call 21; ((with_reducible refine (rname_any _ _ hs).mono ?_); rintro e w1 ⟨rfl, hb1⟩; obtain ⟨hc1, hf1⟩ := bcell hb1; have hz1 : w.heap.size < w1.heap.size := (by have := hb1.size; simp at this; omega); have hq1 : Below w.heap.size w w1 := ((Below.refl _ _).alloc (Nat.le_refl _) _).trans (hb1.mono (by simp)); have H1 := H w1 hq1))
          | (go_at_call 45; ((with_reducible refine H1.mono ?_); rintro e w2 ⟨rfl, hb2⟩; have hq2 := hq1.trans (hb2.mono hq1.size))))
        all_goals
          go_ret
          refine post_of ?_ (by first | exact hq2 | exact hq1)
          have hf := HF.out
          clear H HF
          refine Eq.trans ?_ (congrArg (· && b) hf.symm)
          rw [Bool.eq_iff_iff]
          simp_all [fitQ, exprT, namedB]
          try omega
      · have n1 : (n != 0) = true := by rw [bne_iff_ne]; omega
        have n2 : decide (n < 0) = true := decide_eq_true hn3
        go_enter Tryd.func59, Tryd.ntmps59
        go_wp2_with (first
          | (go_at_call 21; ((with_reducible refine (rname_any _ _ hs).mono ?_); rintro e w1 ⟨rfl, hb1⟩; obtain ⟨hc1, hf1⟩ := bcell hb1; have hz1 : w.heap.size < w1.heap.size := (by have := hb1.size; simp at this; omega); have hq1 : Below w.heap.size w w1 := ((Below.refl _ _).alloc (Nat.le_refl _) _).trans (hb1.mono (by simp)); have H1 := H w1 hq1))
          | (go_at_call 45; ((with_reducible refine H1.mono ?_); rintro e w2 ⟨rfl, hb2⟩; have hq2 := hq1.trans (hb2.mono hq1.size))))
        all_goals
          go_ret
          refine post_of ?_ (by first | exact hq2 | exact hq1)
          have hf := HF.out
          clear H HF
          refine Eq.trans ?_ (congrArg (· && b) hf.symm)
          rw [Bool.eq_iff_iff]
          simp_all [fitQ, exprT, namedB]
          try omega
      · have n1 : (n != 0) = true := by rw [bne_iff_ne]; omega
        have n2 : decide (n < 0) = false := decide_eq_false (by omega)
        go_enter Tryd.func59, Tryd.ntmps59
        go_wp2_with (first
          | (go_at_call 21; ((with_reducible refine (rname_any _ _ hs).mono ?_); rintro e w1 ⟨rfl, hb1⟩; obtain ⟨hc1, hf1⟩ := bcell hb1; have hz1 : w.heap.size < w1.heap.size := (by have := hb1.size; simp at this; omega); have hq1 : Below w.heap.size w w1 := ((Below.refl _ _).alloc (Nat.le_refl _) _).trans (hb1.mono (by simp)); have H1 := H w1 hq1))
          | (go_at_call 45; ((with_reducible refine H1.mono ?_); rintro e w2 ⟨rfl, hb2⟩; have hq2 := hq1.trans (hb2.mono hq1.size))))
        all_goals
          go_ret
          refine post_of ?_ (by first | exact hq2 | exact hq1)
          have hf := HF.out
          clear H HF
          refine Eq.trans ?_ (congrArg (· && b) hf.symm)
          rw [Bool.eq_iff_iff]
          simp_all [fitQ, exprT, namedB]
          try omega

set_option maxRecDepth 100000 in
set_option maxHeartbeats 2000000 in
theorem rexpr_7 (n : Int) (s : ByteArray) (A : Option Addr) (k cap : Nat) (b : Bool) (w : World) (hs : s.size ≤ 9223372036854775807) (_hk : k ≤ 9223372036854775807)
    (H : ∀ W, Below w.heap.size w W → Calls Tryd.prog 45 #[.slice A k cap] W fun e w' => e = .returned (.bool b) ∧ Below W.heap.size W w') :
    Calls Tryd.prog 59 #[.agg #[.int .i64 7, .int .i64 n, .string s, .slice A k cap]] w (ExprPost 7 n s k b w) := by
  have HF := Lib.hid (fitE_lit 7 n s k (by decide))
  cases he : s.toList.isEmpty with
  | true =>
    obtain rfl := empty_of he
    clear he
    have hnb := nm_empty
    have hn3 : n = 0 ∨ n < 0 ∨ 0 < n := by omega
    rcases hn3 with rfl | hn3 | hn3
    · go_enter Tryd.func59, Tryd.ntmps59
      go_wp2_with (first
        | (go_at_call 21; ((with_reducible refine (rname_any _ _ hs).mono ?_); rintro e w1 ⟨rfl, hb1⟩; obtain ⟨hc1, hf1⟩ := bcell hb1; have hz1 : w.heap.size < w1.heap.size := (by have := hb1.size; simp at this; omega); have hq1 : Below w.heap.size w w1 := ((Below.refl _ _).alloc (Nat.le_refl _) _).trans (hb1.mono (by simp)); have H1 := H w1 hq1))
        | (go_at_call 45; ((with_reducible refine H1.mono ?_); rintro e w2 ⟨rfl, hb2⟩; have hq2 := hq1.trans (hb2.mono hq1.size))))
      all_goals
        go_ret
        refine post_of ?_ (by first | exact hq2 | exact hq1)
        have hf := HF.out
        clear H HF
        refine Eq.trans ?_ (congrArg (· && b) hf.symm)
        rw [Bool.eq_iff_iff]
        simp_all [fitQ, exprT, namedB]
        try omega
    · have n1 : (n != 0) = true := by rw [bne_iff_ne]; omega
      have n2 : decide (n < 0) = true := decide_eq_true hn3
      go_enter Tryd.func59, Tryd.ntmps59
      go_wp2_with (first
        | (go_at_call 21; ((with_reducible refine (rname_any _ _ hs).mono ?_); rintro e w1 ⟨rfl, hb1⟩; obtain ⟨hc1, hf1⟩ := bcell hb1; have hz1 : w.heap.size < w1.heap.size := (by have := hb1.size; simp at this; omega); have hq1 : Below w.heap.size w w1 := ((Below.refl _ _).alloc (Nat.le_refl _) _).trans (hb1.mono (by simp)); have H1 := H w1 hq1))
        | (go_at_call 45; ((with_reducible refine H1.mono ?_); rintro e w2 ⟨rfl, hb2⟩; have hq2 := hq1.trans (hb2.mono hq1.size))))
      all_goals
        go_ret
        refine post_of ?_ (by first | exact hq2 | exact hq1)
        have hf := HF.out
        clear H HF
        refine Eq.trans ?_ (congrArg (· && b) hf.symm)
        rw [Bool.eq_iff_iff]
        simp_all [fitQ, exprT, namedB]
        try omega
    · have n1 : (n != 0) = true := by rw [bne_iff_ne]; omega
      have n2 : decide (n < 0) = false := decide_eq_false (by omega)
      go_enter Tryd.func59, Tryd.ntmps59
      go_wp2_with (first
        | (go_at_call 21; ((with_reducible refine (rname_any _ _ hs).mono ?_); rintro e w1 ⟨rfl, hb1⟩; obtain ⟨hc1, hf1⟩ := bcell hb1; have hz1 : w.heap.size < w1.heap.size := (by have := hb1.size; simp at this; omega); have hq1 : Below w.heap.size w w1 := ((Below.refl _ _).alloc (Nat.le_refl _) _).trans (hb1.mono (by simp)); have H1 := H w1 hq1))
        | (go_at_call 45; ((with_reducible refine H1.mono ?_); rintro e w2 ⟨rfl, hb2⟩; have hq2 := hq1.trans (hb2.mono hq1.size))))
      all_goals
        go_ret
        refine post_of ?_ (by first | exact hq2 | exact hq1)
        have hf := HF.out
        clear H HF
        refine Eq.trans ?_ (congrArg (· && b) hf.symm)
        rw [Bool.eq_iff_iff]
        simp_all [fitQ, exprT, namedB]
        try omega
  | false =>
    have he1 : ¬ s.toList = [] := by intro h; rw [h] at he; cases he
    have he3 : (s.toList == []) = false := by rw [beq_eq_false_iff_ne]; exact he1
    have he4 : (s.toList != []) = true := by rw [bne, he3]; rfl
    cases hnb : nameB s with
    | false =>
      have hn3 : n = 0 ∨ n < 0 ∨ 0 < n := by omega
      rcases hn3 with rfl | hn3 | hn3
      · go_enter Tryd.func59, Tryd.ntmps59
        go_wp2_with (first
          | (go_at_call 21; ((with_reducible refine (rname_any _ _ hs).mono ?_); rintro e w1 ⟨rfl, hb1⟩; obtain ⟨hc1, hf1⟩ := bcell hb1; have hz1 : w.heap.size < w1.heap.size := (by have := hb1.size; simp at this; omega); have hq1 : Below w.heap.size w w1 := ((Below.refl _ _).alloc (Nat.le_refl _) _).trans (hb1.mono (by simp)); have H1 := H w1 hq1))
          | (go_at_call 45; ((with_reducible refine H1.mono ?_); rintro e w2 ⟨rfl, hb2⟩; have hq2 := hq1.trans (hb2.mono hq1.size))))
        all_goals
          go_ret
          refine post_of ?_ (by first | exact hq2 | exact hq1)
          have hf := HF.out
          clear H HF
          refine Eq.trans ?_ (congrArg (· && b) hf.symm)
          rw [Bool.eq_iff_iff]
          simp_all [fitQ, exprT, namedB]
          try omega
      · have n1 : (n != 0) = true := by rw [bne_iff_ne]; omega
        have n2 : decide (n < 0) = true := decide_eq_true hn3
        go_enter Tryd.func59, Tryd.ntmps59
        go_wp2_with (first
          | (go_at_call 21; ((with_reducible refine (rname_any _ _ hs).mono ?_); rintro e w1 ⟨rfl, hb1⟩; obtain ⟨hc1, hf1⟩ := bcell hb1; have hz1 : w.heap.size < w1.heap.size := (by have := hb1.size; simp at this; omega); have hq1 : Below w.heap.size w w1 := ((Below.refl _ _).alloc (Nat.le_refl _) _).trans (hb1.mono (by simp)); have H1 := H w1 hq1))
          | (go_at_call 45; ((with_reducible refine H1.mono ?_); rintro e w2 ⟨rfl, hb2⟩; have hq2 := hq1.trans (hb2.mono hq1.size))))
        all_goals
          go_ret
          refine post_of ?_ (by first | exact hq2 | exact hq1)
          have hf := HF.out
          clear H HF
          refine Eq.trans ?_ (congrArg (· && b) hf.symm)
          rw [Bool.eq_iff_iff]
          simp_all [fitQ, exprT, namedB]
          try omega
      · have n1 : (n != 0) = true := by rw [bne_iff_ne]; omega
        have n2 : decide (n < 0) = false := decide_eq_false (by omega)
        go_enter Tryd.func59, Tryd.ntmps59
        go_wp2_with (first
          | (go_at_call 21; ((with_reducible refine (rname_any _ _ hs).mono ?_); rintro e w1 ⟨rfl, hb1⟩; obtain ⟨hc1, hf1⟩ := bcell hb1; have hz1 : w.heap.size < w1.heap.size := (by have := hb1.size; simp at this; omega); have hq1 : Below w.heap.size w w1 := ((Below.refl _ _).alloc (Nat.le_refl _) _).trans (hb1.mono (by simp)); have H1 := H w1 hq1))
          | (go_at_call 45; ((with_reducible refine H1.mono ?_); rintro e w2 ⟨rfl, hb2⟩; have hq2 := hq1.trans (hb2.mono hq1.size))))
        all_goals
          go_ret
          refine post_of ?_ (by first | exact hq2 | exact hq1)
          have hf := HF.out
          clear H HF
          refine Eq.trans ?_ (congrArg (· && b) hf.symm)
          rw [Bool.eq_iff_iff]
          simp_all [fitQ, exprT, namedB]
          try omega
    | true =>
      have hn3 : n = 0 ∨ n < 0 ∨ 0 < n := by omega
      rcases hn3 with rfl | hn3 | hn3
      · go_enter Tryd.func59, Tryd.ntmps59
        go_wp2_with (first
          | (go_at_call 21; ((with_reducible refine (rname_any _ _ hs).mono ?_); rintro e w1 ⟨rfl, hb1⟩; obtain ⟨hc1, hf1⟩ := bcell hb1; have hz1 : w.heap.size < w1.heap.size := (by have := hb1.size; simp at this; omega); have hq1 : Below w.heap.size w w1 := ((Below.refl _ _).alloc (Nat.le_refl _) _).trans (hb1.mono (by simp)); have H1 := H w1 hq1))
          | (go_at_call 45; ((with_reducible refine H1.mono ?_); rintro e w2 ⟨rfl, hb2⟩; have hq2 := hq1.trans (hb2.mono hq1.size))))
        all_goals
          go_ret
          refine post_of ?_ (by first | exact hq2 | exact hq1)
          have hf := HF.out
          clear H HF
          refine Eq.trans ?_ (congrArg (· && b) hf.symm)
          rw [Bool.eq_iff_iff]
          simp_all [fitQ, exprT, namedB]
          try omega
      · have n1 : (n != 0) = true := by rw [bne_iff_ne]; omega
        have n2 : decide (n < 0) = true := decide_eq_true hn3
        go_enter Tryd.func59, Tryd.ntmps59
        go_wp2_with (first
          | (go_at_call 21; ((with_reducible refine (rname_any _ _ hs).mono ?_); rintro e w1 ⟨rfl, hb1⟩; obtain ⟨hc1, hf1⟩ := bcell hb1; have hz1 : w.heap.size < w1.heap.size := (by have := hb1.size; simp at this; omega); have hq1 : Below w.heap.size w w1 := ((Below.refl _ _).alloc (Nat.le_refl _) _).trans (hb1.mono (by simp)); have H1 := H w1 hq1))
          | (go_at_call 45; ((with_reducible refine H1.mono ?_); rintro e w2 ⟨rfl, hb2⟩; have hq2 := hq1.trans (hb2.mono hq1.size))))
        all_goals
          go_ret
          refine post_of ?_ (by first | exact hq2 | exact hq1)
          have hf := HF.out
          clear H HF
          refine Eq.trans ?_ (congrArg (· && b) hf.symm)
          rw [Bool.eq_iff_iff]
          simp_all [fitQ, exprT, namedB]
          try omega
      · have n1 : (n != 0) = true := by rw [bne_iff_ne]; omega
        have n2 : decide (n < 0) = false := decide_eq_false (by omega)
        go_enter Tryd.func59, Tryd.ntmps59
        go_wp2_with (first
          | (go_at_call 21; ((with_reducible refine (rname_any _ _ hs).mono ?_); rintro e w1 ⟨rfl, hb1⟩; obtain ⟨hc1, hf1⟩ := bcell hb1; have hz1 : w.heap.size < w1.heap.size := (by have := hb1.size; simp at this; omega); have hq1 : Below w.heap.size w w1 := ((Below.refl _ _).alloc (Nat.le_refl _) _).trans (hb1.mono (by simp)); have H1 := H w1 hq1))
          | (go_at_call 45; ((with_reducible refine H1.mono ?_); rintro e w2 ⟨rfl, hb2⟩; have hq2 := hq1.trans (hb2.mono hq1.size))))
        all_goals
          go_ret
          refine post_of ?_ (by first | exact hq2 | exact hq1)
          have hf := HF.out
          clear H HF
          refine Eq.trans ?_ (congrArg (· && b) hf.symm)
          rw [Bool.eq_iff_iff]
          simp_all [fitQ, exprT, namedB]
          try omega

set_option maxRecDepth 100000 in
set_option maxHeartbeats 2000000 in
theorem rexpr_8 (op : Int) (ho : 8 ≤ op ∧ op ≤ 16) (n : Int) (s : ByteArray) (A : Option Addr) (k cap : Nat) (b : Bool) (w : World) (hs : s.size ≤ 9223372036854775807) (_hk : k ≤ 9223372036854775807)
    (H : ∀ W, Below w.heap.size w W → Calls Tryd.prog 45 #[.slice A k cap] W fun e w' => e = .returned (.bool b) ∧ Below W.heap.size W w') :
    Calls Tryd.prog 59 #[.agg #[.int .i64 op, .int .i64 n, .string s, .slice A k cap]] w (ExprPost op n s k b w) := by
  have p1 : (op == 1) = false := by rw [beq_eq_false_iff_ne]; omega
  have p2 : (op == 2) = false := by rw [beq_eq_false_iff_ne]; omega
  have p3 : (op == 3) = false := by rw [beq_eq_false_iff_ne]; omega
  have p4 : (op == 4) = false := by rw [beq_eq_false_iff_ne]; omega
  have p5 : (op == 5) = false := by rw [beq_eq_false_iff_ne]; omega
  have p6 : (op == 6) = false := by rw [beq_eq_false_iff_ne]; omega
  have p7 : (op == 7) = false := by rw [beq_eq_false_iff_ne]; omega
  have p1n : (op != 1) = true := by rw [bne, p1]; rfl
  have p8 : decide (op < 8) = false := decide_eq_false (by omega)
  have p16 : decide (16 < op) = false := decide_eq_false (by omega)
  have HF := Lib.hid (fitE_two op n s k ho)
  clear ho
  cases he : s.toList.isEmpty with
  | true =>
    obtain rfl := empty_of he
    clear he
    have hnb := nm_empty
    have hn3 : n = 0 ∨ n < 0 ∨ 0 < n := by omega
    rcases hn3 with rfl | hn3 | hn3
    · go_enter Tryd.func59, Tryd.ntmps59
      go_wp2_with (first
        | (go_at_call 21; ((with_reducible refine (rname_any _ _ hs).mono ?_); rintro e w1 ⟨rfl, hb1⟩; obtain ⟨hc1, hf1⟩ := bcell hb1; have hz1 : w.heap.size < w1.heap.size := (by have := hb1.size; simp at this; omega); have hq1 : Below w.heap.size w w1 := ((Below.refl _ _).alloc (Nat.le_refl _) _).trans (hb1.mono (by simp)); have H1 := H w1 hq1))
        | (go_at_call 45; ((with_reducible refine H1.mono ?_); rintro e w2 ⟨rfl, hb2⟩; have hq2 := hq1.trans (hb2.mono hq1.size))))
      all_goals
        go_ret
        refine post_of ?_ (by first | exact hq2 | exact hq1)
        have hf := HF.out
        clear H HF
        rw [hf]
        rw [Bool.eq_iff_iff]
        simp_all
        try omega
    · have n1 : (n != 0) = true := by rw [bne_iff_ne]; omega
      have n2 : decide (n < 0) = true := decide_eq_true hn3
      go_enter Tryd.func59, Tryd.ntmps59
      go_wp2_with (first
        | (go_at_call 21; ((with_reducible refine (rname_any _ _ hs).mono ?_); rintro e w1 ⟨rfl, hb1⟩; obtain ⟨hc1, hf1⟩ := bcell hb1; have hz1 : w.heap.size < w1.heap.size := (by have := hb1.size; simp at this; omega); have hq1 : Below w.heap.size w w1 := ((Below.refl _ _).alloc (Nat.le_refl _) _).trans (hb1.mono (by simp)); have H1 := H w1 hq1))
        | (go_at_call 45; ((with_reducible refine H1.mono ?_); rintro e w2 ⟨rfl, hb2⟩; have hq2 := hq1.trans (hb2.mono hq1.size))))
      all_goals
        go_ret
        refine post_of ?_ (by first | exact hq2 | exact hq1)
        have hf := HF.out
        clear H HF
        rw [hf]
        rw [Bool.eq_iff_iff]
        simp_all
        try omega
    · have n1 : (n != 0) = true := by rw [bne_iff_ne]; omega
      have n2 : decide (n < 0) = false := decide_eq_false (by omega)
      go_enter Tryd.func59, Tryd.ntmps59
      go_wp2_with (first
        | (go_at_call 21; ((with_reducible refine (rname_any _ _ hs).mono ?_); rintro e w1 ⟨rfl, hb1⟩; obtain ⟨hc1, hf1⟩ := bcell hb1; have hz1 : w.heap.size < w1.heap.size := (by have := hb1.size; simp at this; omega); have hq1 : Below w.heap.size w w1 := ((Below.refl _ _).alloc (Nat.le_refl _) _).trans (hb1.mono (by simp)); have H1 := H w1 hq1))
        | (go_at_call 45; ((with_reducible refine H1.mono ?_); rintro e w2 ⟨rfl, hb2⟩; have hq2 := hq1.trans (hb2.mono hq1.size))))
      all_goals
        go_ret
        refine post_of ?_ (by first | exact hq2 | exact hq1)
        have hf := HF.out
        clear H HF
        rw [hf]
        rw [Bool.eq_iff_iff]
        simp_all
        try omega
  | false =>
    have he1 : ¬ s.toList = [] := by intro h; rw [h] at he; cases he
    have he3 : (s.toList == []) = false := by rw [beq_eq_false_iff_ne]; exact he1
    have he4 : (s.toList != []) = true := by rw [bne, he3]; rfl
    cases hnb : nameB s with
    | false =>
      have hn3 : n = 0 ∨ n < 0 ∨ 0 < n := by omega
      rcases hn3 with rfl | hn3 | hn3
      · go_enter Tryd.func59, Tryd.ntmps59
        go_wp2_with (first
          | (go_at_call 21; ((with_reducible refine (rname_any _ _ hs).mono ?_); rintro e w1 ⟨rfl, hb1⟩; obtain ⟨hc1, hf1⟩ := bcell hb1; have hz1 : w.heap.size < w1.heap.size := (by have := hb1.size; simp at this; omega); have hq1 : Below w.heap.size w w1 := ((Below.refl _ _).alloc (Nat.le_refl _) _).trans (hb1.mono (by simp)); have H1 := H w1 hq1))
          | (go_at_call 45; ((with_reducible refine H1.mono ?_); rintro e w2 ⟨rfl, hb2⟩; have hq2 := hq1.trans (hb2.mono hq1.size))))
        all_goals
          go_ret
          refine post_of ?_ (by first | exact hq2 | exact hq1)
          have hf := HF.out
          clear H HF
          rw [hf]
          rw [Bool.eq_iff_iff]
          simp_all
          try omega
      · have n1 : (n != 0) = true := by rw [bne_iff_ne]; omega
        have n2 : decide (n < 0) = true := decide_eq_true hn3
        go_enter Tryd.func59, Tryd.ntmps59
        go_wp2_with (first
          | (go_at_call 21; ((with_reducible refine (rname_any _ _ hs).mono ?_); rintro e w1 ⟨rfl, hb1⟩; obtain ⟨hc1, hf1⟩ := bcell hb1; have hz1 : w.heap.size < w1.heap.size := (by have := hb1.size; simp at this; omega); have hq1 : Below w.heap.size w w1 := ((Below.refl _ _).alloc (Nat.le_refl _) _).trans (hb1.mono (by simp)); have H1 := H w1 hq1))
          | (go_at_call 45; ((with_reducible refine H1.mono ?_); rintro e w2 ⟨rfl, hb2⟩; have hq2 := hq1.trans (hb2.mono hq1.size))))
        all_goals
          go_ret
          refine post_of ?_ (by first | exact hq2 | exact hq1)
          have hf := HF.out
          clear H HF
          rw [hf]
          rw [Bool.eq_iff_iff]
          simp_all
          try omega
      · have n1 : (n != 0) = true := by rw [bne_iff_ne]; omega
        have n2 : decide (n < 0) = false := decide_eq_false (by omega)
        go_enter Tryd.func59, Tryd.ntmps59
        go_wp2_with (first
          | (go_at_call 21; ((with_reducible refine (rname_any _ _ hs).mono ?_); rintro e w1 ⟨rfl, hb1⟩; obtain ⟨hc1, hf1⟩ := bcell hb1; have hz1 : w.heap.size < w1.heap.size := (by have := hb1.size; simp at this; omega); have hq1 : Below w.heap.size w w1 := ((Below.refl _ _).alloc (Nat.le_refl _) _).trans (hb1.mono (by simp)); have H1 := H w1 hq1))
          | (go_at_call 45; ((with_reducible refine H1.mono ?_); rintro e w2 ⟨rfl, hb2⟩; have hq2 := hq1.trans (hb2.mono hq1.size))))
        all_goals
          go_ret
          refine post_of ?_ (by first | exact hq2 | exact hq1)
          have hf := HF.out
          clear H HF
          rw [hf]
          rw [Bool.eq_iff_iff]
          simp_all
          try omega
    | true =>
      have hn3 : n = 0 ∨ n < 0 ∨ 0 < n := by omega
      rcases hn3 with rfl | hn3 | hn3
      · go_enter Tryd.func59, Tryd.ntmps59
        go_wp2_with (first
          | (go_at_call 21; ((with_reducible refine (rname_any _ _ hs).mono ?_); rintro e w1 ⟨rfl, hb1⟩; obtain ⟨hc1, hf1⟩ := bcell hb1; have hz1 : w.heap.size < w1.heap.size := (by have := hb1.size; simp at this; omega); have hq1 : Below w.heap.size w w1 := ((Below.refl _ _).alloc (Nat.le_refl _) _).trans (hb1.mono (by simp)); have H1 := H w1 hq1))
          | (go_at_call 45; ((with_reducible refine H1.mono ?_); rintro e w2 ⟨rfl, hb2⟩; have hq2 := hq1.trans (hb2.mono hq1.size))))
        all_goals
          go_ret
          refine post_of ?_ (by first | exact hq2 | exact hq1)
          have hf := HF.out
          clear H HF
          rw [hf]
          rw [Bool.eq_iff_iff]
          simp_all
          try omega
      · have n1 : (n != 0) = true := by rw [bne_iff_ne]; omega
        have n2 : decide (n < 0) = true := decide_eq_true hn3
        go_enter Tryd.func59, Tryd.ntmps59
        go_wp2_with (first
          | (go_at_call 21; ((with_reducible refine (rname_any _ _ hs).mono ?_); rintro e w1 ⟨rfl, hb1⟩; obtain ⟨hc1, hf1⟩ := bcell hb1; have hz1 : w.heap.size < w1.heap.size := (by have := hb1.size; simp at this; omega); have hq1 : Below w.heap.size w w1 := ((Below.refl _ _).alloc (Nat.le_refl _) _).trans (hb1.mono (by simp)); have H1 := H w1 hq1))
          | (go_at_call 45; ((with_reducible refine H1.mono ?_); rintro e w2 ⟨rfl, hb2⟩; have hq2 := hq1.trans (hb2.mono hq1.size))))
        all_goals
          go_ret
          refine post_of ?_ (by first | exact hq2 | exact hq1)
          have hf := HF.out
          clear H HF
          rw [hf]
          rw [Bool.eq_iff_iff]
          simp_all
          try omega
      · have n1 : (n != 0) = true := by rw [bne_iff_ne]; omega
        have n2 : decide (n < 0) = false := decide_eq_false (by omega)
        go_enter Tryd.func59, Tryd.ntmps59
        go_wp2_with (first
          | (go_at_call 21; ((with_reducible refine (rname_any _ _ hs).mono ?_); rintro e w1 ⟨rfl, hb1⟩; obtain ⟨hc1, hf1⟩ := bcell hb1; have hz1 : w.heap.size < w1.heap.size := (by have := hb1.size; simp at this; omega); have hq1 : Below w.heap.size w w1 := ((Below.refl _ _).alloc (Nat.le_refl _) _).trans (hb1.mono (by simp)); have H1 := H w1 hq1))
          | (go_at_call 45; ((with_reducible refine H1.mono ?_); rintro e w2 ⟨rfl, hb2⟩; have hq2 := hq1.trans (hb2.mono hq1.size))))
        all_goals
          go_ret
          refine post_of ?_ (by first | exact hq2 | exact hq1)
          have hf := HF.out
          clear H HF
          rw [hf]
          rw [Bool.eq_iff_iff]
          simp_all
          try omega

set_option maxRecDepth 100000 in
set_option maxHeartbeats 2000000 in
theorem rexpr_x (op : Int) (ho : op < 1 ∨ 16 < op) (n : Int) (s : ByteArray) (A : Option Addr) (k cap : Nat) (b : Bool) (w : World) (hs : s.size ≤ 9223372036854775807) (_hk : k ≤ 9223372036854775807)
    (H : ∀ W, Below w.heap.size w W → Calls Tryd.prog 45 #[.slice A k cap] W fun e w' => e = .returned (.bool b) ∧ Below W.heap.size W w') :
    Calls Tryd.prog 59 #[.agg #[.int .i64 op, .int .i64 n, .string s, .slice A k cap]] w (ExprPost op n s k b w) := by
  have p1 : (op == 1) = false := by rw [beq_eq_false_iff_ne]; omega
  have p2 : (op == 2) = false := by rw [beq_eq_false_iff_ne]; omega
  have p3 : (op == 3) = false := by rw [beq_eq_false_iff_ne]; omega
  have p4 : (op == 4) = false := by rw [beq_eq_false_iff_ne]; omega
  have p5 : (op == 5) = false := by rw [beq_eq_false_iff_ne]; omega
  have p6 : (op == 6) = false := by rw [beq_eq_false_iff_ne]; omega
  have p7 : (op == 7) = false := by rw [beq_eq_false_iff_ne]; omega
  have p1n : (op != 1) = true := by rw [bne, p1]; rfl
  have HF := Lib.hid (fitE_out op n s k ho)
  have p8 : (decide (op < 8) || decide (16 < op)) = true := by simp; omega
  have HO : op < 8 ∨ (decide (op < 8) = false ∧ decide (16 < op) = true) := by simp; omega
  clear p8
  rcases HO with p8' | ⟨p8, p16⟩
  · have p8 : decide (op < 8) = true := decide_eq_true p8'
    clear p8' ho
    all_goals
      cases he : s.toList.isEmpty with
      | true =>
        obtain rfl := empty_of he
        clear he
        have hnb := nm_empty
        have hn3 : n = 0 ∨ n < 0 ∨ 0 < n := by omega
        rcases hn3 with rfl | hn3 | hn3
        · go_enter Tryd.func59, Tryd.ntmps59
          go_wp2_with (first
            | (go_at_call 21; ((with_reducible refine (rname_any _ _ hs).mono ?_); rintro e w1 ⟨rfl, hb1⟩; obtain ⟨hc1, hf1⟩ := bcell hb1; have hz1 : w.heap.size < w1.heap.size := (by have := hb1.size; simp at this; omega); have hq1 : Below w.heap.size w w1 := ((Below.refl _ _).alloc (Nat.le_refl _) _).trans (hb1.mono (by simp)); have H1 := H w1 hq1))
            | (go_at_call 45; ((with_reducible refine H1.mono ?_); rintro e w2 ⟨rfl, hb2⟩; have hq2 := hq1.trans (hb2.mono hq1.size))))
          all_goals
            go_ret
            refine post_of ?_ (by first | exact hq2 | exact hq1)
            have hf := HF.out
            clear H HF
            rw [hf]
            rw [Bool.eq_iff_iff]
            simp_all
            try omega
        · have n1 : (n != 0) = true := by rw [bne_iff_ne]; omega
          have n2 : decide (n < 0) = true := decide_eq_true hn3
          go_enter Tryd.func59, Tryd.ntmps59
          go_wp2_with (first
            | (go_at_call 21; ((with_reducible refine (rname_any _ _ hs).mono ?_); rintro e w1 ⟨rfl, hb1⟩; obtain ⟨hc1, hf1⟩ := bcell hb1; have hz1 : w.heap.size < w1.heap.size := (by have := hb1.size; simp at this; omega); have hq1 : Below w.heap.size w w1 := ((Below.refl _ _).alloc (Nat.le_refl _) _).trans (hb1.mono (by simp)); have H1 := H w1 hq1))
            | (go_at_call 45; ((with_reducible refine H1.mono ?_); rintro e w2 ⟨rfl, hb2⟩; have hq2 := hq1.trans (hb2.mono hq1.size))))
          all_goals
            go_ret
            refine post_of ?_ (by first | exact hq2 | exact hq1)
            have hf := HF.out
            clear H HF
            rw [hf]
            rw [Bool.eq_iff_iff]
            simp_all
            try omega
        · have n1 : (n != 0) = true := by rw [bne_iff_ne]; omega
          have n2 : decide (n < 0) = false := decide_eq_false (by omega)
          go_enter Tryd.func59, Tryd.ntmps59
          go_wp2_with (first
            | (go_at_call 21; ((with_reducible refine (rname_any _ _ hs).mono ?_); rintro e w1 ⟨rfl, hb1⟩; obtain ⟨hc1, hf1⟩ := bcell hb1; have hz1 : w.heap.size < w1.heap.size := (by have := hb1.size; simp at this; omega); have hq1 : Below w.heap.size w w1 := ((Below.refl _ _).alloc (Nat.le_refl _) _).trans (hb1.mono (by simp)); have H1 := H w1 hq1))
            | (go_at_call 45; ((with_reducible refine H1.mono ?_); rintro e w2 ⟨rfl, hb2⟩; have hq2 := hq1.trans (hb2.mono hq1.size))))
          all_goals
            go_ret
            refine post_of ?_ (by first | exact hq2 | exact hq1)
            have hf := HF.out
            clear H HF
            rw [hf]
            rw [Bool.eq_iff_iff]
            simp_all
            try omega
      | false =>
        have he1 : ¬ s.toList = [] := by intro h; rw [h] at he; cases he
        have he3 : (s.toList == []) = false := by rw [beq_eq_false_iff_ne]; exact he1
        have he4 : (s.toList != []) = true := by rw [bne, he3]; rfl
        cases hnb : nameB s with
        | false =>
          have hn3 : n = 0 ∨ n < 0 ∨ 0 < n := by omega
          rcases hn3 with rfl | hn3 | hn3
          · go_enter Tryd.func59, Tryd.ntmps59
            go_wp2_with (first
              | (go_at_call 21; ((with_reducible refine (rname_any _ _ hs).mono ?_); rintro e w1 ⟨rfl, hb1⟩; obtain ⟨hc1, hf1⟩ := bcell hb1; have hz1 : w.heap.size < w1.heap.size := (by have := hb1.size; simp at this; omega); have hq1 : Below w.heap.size w w1 := ((Below.refl _ _).alloc (Nat.le_refl _) _).trans (hb1.mono (by simp)); have H1 := H w1 hq1))
              | (go_at_call 45; ((with_reducible refine H1.mono ?_); rintro e w2 ⟨rfl, hb2⟩; have hq2 := hq1.trans (hb2.mono hq1.size))))
            all_goals
              go_ret
              refine post_of ?_ (by first | exact hq2 | exact hq1)
              have hf := HF.out
              clear H HF
              rw [hf]
              rw [Bool.eq_iff_iff]
              simp_all
              try omega
          · have n1 : (n != 0) = true := by rw [bne_iff_ne]; omega
            have n2 : decide (n < 0) = true := decide_eq_true hn3
            go_enter Tryd.func59, Tryd.ntmps59
            go_wp2_with (first
              | (go_at_call 21; ((with_reducible refine (rname_any _ _ hs).mono ?_); rintro e w1 ⟨rfl, hb1⟩; obtain ⟨hc1, hf1⟩ := bcell hb1; have hz1 : w.heap.size < w1.heap.size := (by have := hb1.size; simp at this; omega); have hq1 : Below w.heap.size w w1 := ((Below.refl _ _).alloc (Nat.le_refl _) _).trans (hb1.mono (by simp)); have H1 := H w1 hq1))
              | (go_at_call 45; ((with_reducible refine H1.mono ?_); rintro e w2 ⟨rfl, hb2⟩; have hq2 := hq1.trans (hb2.mono hq1.size))))
            all_goals
              go_ret
              refine post_of ?_ (by first | exact hq2 | exact hq1)
              have hf := HF.out
              clear H HF
              rw [hf]
              rw [Bool.eq_iff_iff]
              simp_all
              try omega
          · have n1 : (n != 0) = true := by rw [bne_iff_ne]; omega
            have n2 : decide (n < 0) = false := decide_eq_false (by omega)
            go_enter Tryd.func59, Tryd.ntmps59
            go_wp2_with (first
              | (go_at_call 21; ((with_reducible refine (rname_any _ _ hs).mono ?_); rintro e w1 ⟨rfl, hb1⟩; obtain ⟨hc1, hf1⟩ := bcell hb1; have hz1 : w.heap.size < w1.heap.size := (by have := hb1.size; simp at this; omega); have hq1 : Below w.heap.size w w1 := ((Below.refl _ _).alloc (Nat.le_refl _) _).trans (hb1.mono (by simp)); have H1 := H w1 hq1))
              | (go_at_call 45; ((with_reducible refine H1.mono ?_); rintro e w2 ⟨rfl, hb2⟩; have hq2 := hq1.trans (hb2.mono hq1.size))))
            all_goals
              go_ret
              refine post_of ?_ (by first | exact hq2 | exact hq1)
              have hf := HF.out
              clear H HF
              rw [hf]
              rw [Bool.eq_iff_iff]
              simp_all
              try omega
        | true =>
          have hn3 : n = 0 ∨ n < 0 ∨ 0 < n := by omega
          rcases hn3 with rfl | hn3 | hn3
          · go_enter Tryd.func59, Tryd.ntmps59
            go_wp2_with (first
              | (go_at_call 21; ((with_reducible refine (rname_any _ _ hs).mono ?_); rintro e w1 ⟨rfl, hb1⟩; obtain ⟨hc1, hf1⟩ := bcell hb1; have hz1 : w.heap.size < w1.heap.size := (by have := hb1.size; simp at this; omega); have hq1 : Below w.heap.size w w1 := ((Below.refl _ _).alloc (Nat.le_refl _) _).trans (hb1.mono (by simp)); have H1 := H w1 hq1))
              | (go_at_call 45; ((with_reducible refine H1.mono ?_); rintro e w2 ⟨rfl, hb2⟩; have hq2 := hq1.trans (hb2.mono hq1.size))))
            all_goals
              go_ret
              refine post_of ?_ (by first | exact hq2 | exact hq1)
              have hf := HF.out
              clear H HF
              rw [hf]
              rw [Bool.eq_iff_iff]
              simp_all
              try omega
          · have n1 : (n != 0) = true := by rw [bne_iff_ne]; omega
            have n2 : decide (n < 0) = true := decide_eq_true hn3
            go_enter Tryd.func59, Tryd.ntmps59
            go_wp2_with (first
              | (go_at_call 21; ((with_reducible refine (rname_any _ _ hs).mono ?_); rintro e w1 ⟨rfl, hb1⟩; obtain ⟨hc1, hf1⟩ := bcell hb1; have hz1 : w.heap.size < w1.heap.size := (by have := hb1.size; simp at this; omega); have hq1 : Below w.heap.size w w1 := ((Below.refl _ _).alloc (Nat.le_refl _) _).trans (hb1.mono (by simp)); have H1 := H w1 hq1))
              | (go_at_call 45; ((with_reducible refine H1.mono ?_); rintro e w2 ⟨rfl, hb2⟩; have hq2 := hq1.trans (hb2.mono hq1.size))))
            all_goals
              go_ret
              refine post_of ?_ (by first | exact hq2 | exact hq1)
              have hf := HF.out
              clear H HF
              rw [hf]
              rw [Bool.eq_iff_iff]
              simp_all
              try omega
          · have n1 : (n != 0) = true := by rw [bne_iff_ne]; omega
            have n2 : decide (n < 0) = false := decide_eq_false (by omega)
            go_enter Tryd.func59, Tryd.ntmps59
            go_wp2_with (first
              | (go_at_call 21; ((with_reducible refine (rname_any _ _ hs).mono ?_); rintro e w1 ⟨rfl, hb1⟩; obtain ⟨hc1, hf1⟩ := bcell hb1; have hz1 : w.heap.size < w1.heap.size := (by have := hb1.size; simp at this; omega); have hq1 : Below w.heap.size w w1 := ((Below.refl _ _).alloc (Nat.le_refl _) _).trans (hb1.mono (by simp)); have H1 := H w1 hq1))
              | (go_at_call 45; ((with_reducible refine H1.mono ?_); rintro e w2 ⟨rfl, hb2⟩; have hq2 := hq1.trans (hb2.mono hq1.size))))
            all_goals
              go_ret
              refine post_of ?_ (by first | exact hq2 | exact hq1)
              have hf := HF.out
              clear H HF
              rw [hf]
              rw [Bool.eq_iff_iff]
              simp_all
              try omega
  · clear ho
    cases he : s.toList.isEmpty with
    | true =>
      obtain rfl := empty_of he
      clear he
      have hnb := nm_empty
      have hn3 : n = 0 ∨ n < 0 ∨ 0 < n := by omega
      rcases hn3 with rfl | hn3 | hn3
      · go_enter Tryd.func59, Tryd.ntmps59
        go_wp2_with (first
          | (go_at_call 21; ((with_reducible refine (rname_any _ _ hs).mono ?_); rintro e w1 ⟨rfl, hb1⟩; obtain ⟨hc1, hf1⟩ := bcell hb1; have hz1 : w.heap.size < w1.heap.size := (by have := hb1.size; simp at this; omega); have hq1 : Below w.heap.size w w1 := ((Below.refl _ _).alloc (Nat.le_refl _) _).trans (hb1.mono (by simp)); have H1 := H w1 hq1))
          | (go_at_call 45; ((with_reducible refine H1.mono ?_); rintro e w2 ⟨rfl, hb2⟩; have hq2 := hq1.trans (hb2.mono hq1.size))))
        all_goals
          go_ret
          refine post_of ?_ (by first | exact hq2 | exact hq1)
          have hf := HF.out
          clear H HF
          rw [hf]
          rw [Bool.eq_iff_iff]
          simp_all
          try omega
      · have n1 : (n != 0) = true := by rw [bne_iff_ne]; omega
        have n2 : decide (n < 0) = true := decide_eq_true hn3
        go_enter Tryd.func59, Tryd.ntmps59
        go_wp2_with (first
          | (go_at_call 21; ((with_reducible refine (rname_any _ _ hs).mono ?_); rintro e w1 ⟨rfl, hb1⟩; obtain ⟨hc1, hf1⟩ := bcell hb1; have hz1 : w.heap.size < w1.heap.size := (by have := hb1.size; simp at this; omega); have hq1 : Below w.heap.size w w1 := ((Below.refl _ _).alloc (Nat.le_refl _) _).trans (hb1.mono (by simp)); have H1 := H w1 hq1))
          | (go_at_call 45; ((with_reducible refine H1.mono ?_); rintro e w2 ⟨rfl, hb2⟩; have hq2 := hq1.trans (hb2.mono hq1.size))))
        all_goals
          go_ret
          refine post_of ?_ (by first | exact hq2 | exact hq1)
          have hf := HF.out
          clear H HF
          rw [hf]
          rw [Bool.eq_iff_iff]
          simp_all
          try omega
      · have n1 : (n != 0) = true := by rw [bne_iff_ne]; omega
        have n2 : decide (n < 0) = false := decide_eq_false (by omega)
        go_enter Tryd.func59, Tryd.ntmps59
        go_wp2_with (first
          | (go_at_call 21; ((with_reducible refine (rname_any _ _ hs).mono ?_); rintro e w1 ⟨rfl, hb1⟩; obtain ⟨hc1, hf1⟩ := bcell hb1; have hz1 : w.heap.size < w1.heap.size := (by have := hb1.size; simp at this; omega); have hq1 : Below w.heap.size w w1 := ((Below.refl _ _).alloc (Nat.le_refl _) _).trans (hb1.mono (by simp)); have H1 := H w1 hq1))
          | (go_at_call 45; ((with_reducible refine H1.mono ?_); rintro e w2 ⟨rfl, hb2⟩; have hq2 := hq1.trans (hb2.mono hq1.size))))
        all_goals
          go_ret
          refine post_of ?_ (by first | exact hq2 | exact hq1)
          have hf := HF.out
          clear H HF
          rw [hf]
          rw [Bool.eq_iff_iff]
          simp_all
          try omega
    | false =>
      have he1 : ¬ s.toList = [] := by intro h; rw [h] at he; cases he
      have he3 : (s.toList == []) = false := by rw [beq_eq_false_iff_ne]; exact he1
      have he4 : (s.toList != []) = true := by rw [bne, he3]; rfl
      cases hnb : nameB s with
      | false =>
        have hn3 : n = 0 ∨ n < 0 ∨ 0 < n := by omega
        rcases hn3 with rfl | hn3 | hn3
        · go_enter Tryd.func59, Tryd.ntmps59
          go_wp2_with (first
            | (go_at_call 21; ((with_reducible refine (rname_any _ _ hs).mono ?_); rintro e w1 ⟨rfl, hb1⟩; obtain ⟨hc1, hf1⟩ := bcell hb1; have hz1 : w.heap.size < w1.heap.size := (by have := hb1.size; simp at this; omega); have hq1 : Below w.heap.size w w1 := ((Below.refl _ _).alloc (Nat.le_refl _) _).trans (hb1.mono (by simp)); have H1 := H w1 hq1))
            | (go_at_call 45; ((with_reducible refine H1.mono ?_); rintro e w2 ⟨rfl, hb2⟩; have hq2 := hq1.trans (hb2.mono hq1.size))))
          all_goals
            go_ret
            refine post_of ?_ (by first | exact hq2 | exact hq1)
            have hf := HF.out
            clear H HF
            rw [hf]
            rw [Bool.eq_iff_iff]
            simp_all
            try omega
        · have n1 : (n != 0) = true := by rw [bne_iff_ne]; omega
          have n2 : decide (n < 0) = true := decide_eq_true hn3
          go_enter Tryd.func59, Tryd.ntmps59
          go_wp2_with (first
            | (go_at_call 21; ((with_reducible refine (rname_any _ _ hs).mono ?_); rintro e w1 ⟨rfl, hb1⟩; obtain ⟨hc1, hf1⟩ := bcell hb1; have hz1 : w.heap.size < w1.heap.size := (by have := hb1.size; simp at this; omega); have hq1 : Below w.heap.size w w1 := ((Below.refl _ _).alloc (Nat.le_refl _) _).trans (hb1.mono (by simp)); have H1 := H w1 hq1))
            | (go_at_call 45; ((with_reducible refine H1.mono ?_); rintro e w2 ⟨rfl, hb2⟩; have hq2 := hq1.trans (hb2.mono hq1.size))))
          all_goals
            go_ret
            refine post_of ?_ (by first | exact hq2 | exact hq1)
            have hf := HF.out
            clear H HF
            rw [hf]
            rw [Bool.eq_iff_iff]
            simp_all
            try omega
        · have n1 : (n != 0) = true := by rw [bne_iff_ne]; omega
          have n2 : decide (n < 0) = false := decide_eq_false (by omega)
          go_enter Tryd.func59, Tryd.ntmps59
          go_wp2_with (first
            | (go_at_call 21; ((with_reducible refine (rname_any _ _ hs).mono ?_); rintro e w1 ⟨rfl, hb1⟩; obtain ⟨hc1, hf1⟩ := bcell hb1; have hz1 : w.heap.size < w1.heap.size := (by have := hb1.size; simp at this; omega); have hq1 : Below w.heap.size w w1 := ((Below.refl _ _).alloc (Nat.le_refl _) _).trans (hb1.mono (by simp)); have H1 := H w1 hq1))
            | (go_at_call 45; ((with_reducible refine H1.mono ?_); rintro e w2 ⟨rfl, hb2⟩; have hq2 := hq1.trans (hb2.mono hq1.size))))
          all_goals
            go_ret
            refine post_of ?_ (by first | exact hq2 | exact hq1)
            have hf := HF.out
            clear H HF
            rw [hf]
            rw [Bool.eq_iff_iff]
            simp_all
            try omega
      | true =>
        have hn3 : n = 0 ∨ n < 0 ∨ 0 < n := by omega
        rcases hn3 with rfl | hn3 | hn3
        · go_enter Tryd.func59, Tryd.ntmps59
          go_wp2_with (first
            | (go_at_call 21; ((with_reducible refine (rname_any _ _ hs).mono ?_); rintro e w1 ⟨rfl, hb1⟩; obtain ⟨hc1, hf1⟩ := bcell hb1; have hz1 : w.heap.size < w1.heap.size := (by have := hb1.size; simp at this; omega); have hq1 : Below w.heap.size w w1 := ((Below.refl _ _).alloc (Nat.le_refl _) _).trans (hb1.mono (by simp)); have H1 := H w1 hq1))
            | (go_at_call 45; ((with_reducible refine H1.mono ?_); rintro e w2 ⟨rfl, hb2⟩; have hq2 := hq1.trans (hb2.mono hq1.size))))
          all_goals
            go_ret
            refine post_of ?_ (by first | exact hq2 | exact hq1)
            have hf := HF.out
            clear H HF
            rw [hf]
            rw [Bool.eq_iff_iff]
            simp_all
            try omega
        · have n1 : (n != 0) = true := by rw [bne_iff_ne]; omega
          have n2 : decide (n < 0) = true := decide_eq_true hn3
          go_enter Tryd.func59, Tryd.ntmps59
          go_wp2_with (first
            | (go_at_call 21; ((with_reducible refine (rname_any _ _ hs).mono ?_); rintro e w1 ⟨rfl, hb1⟩; obtain ⟨hc1, hf1⟩ := bcell hb1; have hz1 : w.heap.size < w1.heap.size := (by have := hb1.size; simp at this; omega); have hq1 : Below w.heap.size w w1 := ((Below.refl _ _).alloc (Nat.le_refl _) _).trans (hb1.mono (by simp)); have H1 := H w1 hq1))
            | (go_at_call 45; ((with_reducible refine H1.mono ?_); rintro e w2 ⟨rfl, hb2⟩; have hq2 := hq1.trans (hb2.mono hq1.size))))
          all_goals
            go_ret
            refine post_of ?_ (by first | exact hq2 | exact hq1)
            have hf := HF.out
            clear H HF
            rw [hf]
            rw [Bool.eq_iff_iff]
            simp_all
            try omega
        · have n1 : (n != 0) = true := by rw [bne_iff_ne]; omega
          have n2 : decide (n < 0) = false := decide_eq_false (by omega)
          go_enter Tryd.func59, Tryd.ntmps59
          go_wp2_with (first
            | (go_at_call 21; ((with_reducible refine (rname_any _ _ hs).mono ?_); rintro e w1 ⟨rfl, hb1⟩; obtain ⟨hc1, hf1⟩ := bcell hb1; have hz1 : w.heap.size < w1.heap.size := (by have := hb1.size; simp at this; omega); have hq1 : Below w.heap.size w w1 := ((Below.refl _ _).alloc (Nat.le_refl _) _).trans (hb1.mono (by simp)); have H1 := H w1 hq1))
            | (go_at_call 45; ((with_reducible refine H1.mono ?_); rintro e w2 ⟨rfl, hb2⟩; have hq2 := hq1.trans (hb2.mono hq1.size))))
          all_goals
            go_ret
            refine post_of ?_ (by first | exact hq2 | exact hq1)
            have hf := HF.out
            clear H HF
            rw [hf]
            rw [Bool.eq_iff_iff]
            simp_all
            try omega

end Go.Proofs.YtaedlhjjfmmpdaaDoor
