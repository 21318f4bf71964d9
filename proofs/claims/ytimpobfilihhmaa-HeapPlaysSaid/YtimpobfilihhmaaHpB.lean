/-
  A heap's calls that read.
-/
import Derived.Test.YtimpobfilihhmaaHpA
namespace Go.Proofs.Ytimpobfilihhmaa
open Go Go.RowKit Go.Lib

/-- A heap that has arrays. -/
theorem HpI.open_ {F : List Nat} {g q : Nat} {A : List (List Int)} {W : World} (h : HpI F g q A W) {k : Nat} {a : List Int} (ha : A[k]? = some a) :
    ∃ cb cc eb ce, W.heap[g]? = some (hpO q (.slice (some ⟨cb, 0, none⟩) A.flatten.length cc) (.slice (some ⟨eb, 0, none⟩) A.length ce)) ∧ A.flatten.length ≤ cc ∧ cc ≤ 9223372036854775807 ∧ A.length ≤ ce ∧ ce ≤ 9223372036854775807 ∧ cb ∈ F ∧
      W.ownsRow 0 2 1 (.slice (some ⟨cb, 0, none⟩) A.flatten.length cc) A.flatten.length (i64V A.flatten) ∧ W.ownsRow 0 3 1 (.slice (some ⟨eb, 0, none⟩) A.length ce) A.length (i64V (ens 0 A)) ∧
      (∀ i, i < A.length → W.cell? ⟨eb, i, none⟩ = some (.int .i64 (off A (i + 1) : Nat))) ∧ (∀ j x, a[j]? = some x → W.cell? ⟨cb, off A k + j, none⟩ = some (.int .i64 x)) ∧ off A (k + 1) = off A k + a.length ∧ off A (k + 1) ≤ A.flatten.length ∧ k < A.length ∧ 1 ≤ a.length ∧ A.length ≤ A.flatten.length ∧ A.flatten.length ≤ 1048576 := by
  obtain ⟨vc, ve, h1, h2, h3, h4, h5⟩ := h.row
  have hk : k < A.length := by
    rcases Nat.lt_or_ge k A.length with h' | h'
    · exact h'
    · rw [List.getElem?_eq_none h'] at ha; cases ha
  have ho := off_succ A k a ha
  have hle := off_le A (k + 1)
  have hp := h.pos a (List.mem_of_getElem? ha)
  have hlt := len_tot A h.pos
  obtain ⟨cb, cc, rfl, e1, e2, e3, e4⟩ := own_cells h2 (by omega)
  obtain ⟨eb, ce, rfl, f1, f2, f3, f4⟩ := own_cells h3 (by omega)
  refine ⟨cb, cc, eb, ce, h1, e1, e2, f1, f2, h4 cb rfl, h2, h3, fun i hi => f4 i _ (i64V_at ?_), fun j x hj => e4 _ _ (i64V_at ?_), ho, hle, hk, hp, hlt, Nat.le_trans h.fit h.q1⟩
  · rw [ens_at A 0 i hi, Nat.zero_add]
  · have hj' : j < a.length := by
      rcases Nat.lt_or_ge j a.length with h' | h'
      · exact h'
      · rw [List.getElem?_eq_none h'] at hj; cases hj
    rw [cel_at A k j a ha hj', hj]

set_option maxRecDepth 100000 in
set_option maxHeartbeats 2000000 in
/-- array: what there is. -/
theorem array_in {F : List Nat} {g q : Nat} {A : List (List Int)} {W : World} (h : HpI F g q A W) {k : Nat} {a : List Int} (ha : A[k]? = some a) {cb nb cc : Nat} {ve : Value} (hg : W.heap[g]? = some (hpO q (.slice (some ⟨cb, 0, none⟩) nb cc) ve)) :
    Calls Try.prog 21 #[.pointer (some ⟨g, 0, none⟩), .int .i64 (k : Int)] W fun e W' => e = .returned (.slice (some ⟨cb, off A k, none⟩) a.length a.length) ∧ ∃ m, W' = W.drewN m := by
  obtain ⟨cb', cc', eb, ce, h1, hc1, hc2, he1, he2, -, -, -, hE, -, ho, hle, hk, hp, hlt, hmx⟩ := h.open_ ha
  obtain ⟨rfl, rfl, rfl⟩ : cb = cb' ∧ nb = A.flatten.length ∧ cc = cc' := by rw [h1] at hg; simp [-List.length_flatten] at hg; exact ⟨hg.1.1.symm, hg.1.2.1.symm, hg.1.2.2.symm⟩
  clear hg
  have c1 : W.cell? ⟨g, 1, none⟩ = some (.slice (some ⟨cb, 0, none⟩) A.flatten.length cc) := (blk_cell h1 1).trans rfl
  have c2 : W.cell? ⟨g, 2, none⟩ = some (.slice (some ⟨eb, 0, none⟩) A.length ce) := (blk_cell h1 2).trans rfl
  clear h1 h
  have q1 := hE k hk
  rw [ho] at q1
  have q0 : 0 < k → W.cell? ⟨eb, k - 1, none⟩ = some (.int .i64 (off A k : Nat)) := fun h0 => by
    have := hE (k - 1) (by omega)
    rwa [show k - 1 + 1 = k by omega] at this
  clear hE
  have HZ : Hid (k = 0 → off A k = 0) := Lib.hid fun e => by rw [e]; exact off_zero A
  generalize A.flatten.length = N at *
  generalize A.length = m at *
  generalize off A k = o at *
  generalize off A (k + 1) = o' at *
  generalize a.length = n at *
  subst ho
  have b0 : decide ((k : Int) < 0) = false := by simp
  have b1 : decide ((m : Int) ≤ (k : Int)) = false := by simp; omega
  go_enter Try.func21, Try.ntmps21
  go_wp2
  go_quiet (fail)
  cases k with
  | zero =>
    go_wp2
    obtain rfl := HZ.out trivial
    go_ret
    refine ⟨?_, _, rfl⟩
    rw [Nat.zero_add]; rfl
  | succ k =>
    have q2 := q0 (by omega)
    rw [Nat.add_sub_cancel] at q2
    clear q0
    have e1 : IntKind.i64.wrap (((k + 1 : Nat) : Int) - 1) = (k : Int) := by rw [IntWalk.i64_in _ (by omega)]; omega
    go_wp2
    go_ret
    refine ⟨?_, _, rfl⟩
    rw [Nat.add_sub_cancel_left]; rfl

set_option maxRecDepth 100000 in
set_option maxHeartbeats 1000000 in
/-- array: what there is not. -/
theorem array_out {F : List Nat} {g q : Nat} {A : List (List Int)} {W : World} (h : HpI F g q A W) {id : Int} (ho : ¬ (0 ≤ id ∧ id < (A.length : Int))) :
    Calls Try.prog 21 #[.pointer (some ⟨g, 0, none⟩), .int .i64 id] W fun e W' => e = .returned (.slice none 0 0) ∧ W' = W := by
  obtain ⟨vc, ve, h1, -, h3, -, -⟩ := h.row
  obtain ⟨Xe, ce, rfl⟩ := own_form h3
  have c2 : W.cell? ⟨g, 2, none⟩ = some (.slice Xe A.length ce) := (blk_cell h1 2).trans rfl
  clear h1 h3 h
  generalize A.length = m at *
  by_cases h0 : id < 0
  · have b0 : decide (id < 0) = true := decide_eq_true h0
    go_enter Try.func21, Try.ntmps21
    go_wp2
    go_ret
    exact ⟨rfl, rfl⟩
  · have b0 : decide (id < 0) = false := decide_eq_false h0
    have b1 : decide ((m : Int) ≤ id) = true := decide_eq_true (by omega)
    go_enter Try.func21, Try.ntmps21
    go_wp2
    go_ret
    exact ⟨rfl, rfl⟩
set_option maxRecDepth 100000 in
theorem has_w (X : Option Addr) (n c : Nat) (i : Int) (W : World) :
    Calls Try.prog 22 #[.slice X n c, .int .i64 i] W fun e W' => e = .returned (.bool (decide (0 ≤ i ∧ i < (n : Int)))) ∧ W' = W := by
  by_cases h0 : 0 ≤ i
  · have b0 : decide (0 ≤ i) = true := decide_eq_true h0
    have e : decide (0 ≤ i ∧ i < (n : Int)) = decide (i < (n : Int)) := by simp [h0]
    rw [e]
    go_enter Try.func22, Try.ntmps22
    go_wp2
    go_ret
    exact ⟨rfl, rfl⟩
  · have b0 : decide (0 ≤ i) = false := decide_eq_false h0
    have e : decide (0 ≤ i ∧ i < (n : Int)) = false := by simp; omega
    rw [e]
    go_enter Try.func22, Try.ntmps22
    go_wp2
    go_ret
    exact ⟨rfl, rfl⟩
theorem in_row {A : List (List Int)} {id : Int} (h : 0 ≤ id ∧ id < (A.length : Int)) : ∃ (k : Nat) (a : List Int), id = (k : Int) ∧ A[k]? = some a :=
  ⟨id.toNat, A[id.toNat]'(by omega), by omega, List.getElem?_eq_getElem _⟩
set_option maxRecDepth 100000 in
set_option maxHeartbeats 1000000 in
/-- Len. -/
theorem len_w {F : List Nat} {g q : Nat} {A : List (List Int)} {W : World} (h : HpI F g q A W) (id : Int) :
    Calls Try.prog 19 #[.pointer (some ⟨g, 0, none⟩), .int .i64 id] W fun e W' => e = .returned (.int .i64 ((arr A id).length : Int)) ∧ ∃ m, W' = W.drewN m := by
  by_cases hi : 0 ≤ id ∧ id < (A.length : Int)
  · obtain ⟨k, a, rfl, ha⟩ := in_row hi
    obtain ⟨cb, cc, eb, ce, h1, -⟩ := h.open_ ha
    have HC := Lib.hid (array_in h ha h1)
    rw [arr_nat ha]
    clear h hi ha h1
    go_enter Try.func19, Try.ntmps19
    go_wp2_with (go_at_call 21; ((with_reducible refine HC.out.mono ?_); rintro e w1 ⟨rfl, m1, rfl⟩))
    go_ret
    exact ⟨rfl, _, rfl⟩
  · have HC := Lib.hid (array_out h hi)
    rw [arr_out hi]
    clear h hi
    go_enter Try.func19, Try.ntmps19
    go_wp2_with (go_at_call 21; ((with_reducible refine HC.out.mono ?_); rintro e w1 ⟨rfl, rfl⟩))
    go_ret
    exact ⟨rfl, 0, rfl⟩
set_option maxRecDepth 100000 in
set_option maxHeartbeats 2000000 in
/-- Get. -/
theorem get_w {F : List Nat} {g q : Nat} {A : List (List Int)} {W : World} (h : HpI F g q A W) (id i : Int) :
    Calls Try.prog 15 #[.pointer (some ⟨g, 0, none⟩), .int .i64 id, .int .i64 i] W fun e W' => e = .returned (.tuple #[.int .i64 (gtV A id i), .bool (inR A id i)]) ∧ ∃ m, W' = W.drewN m := by
  by_cases hi : 0 ≤ id ∧ id < (A.length : Int)
  · obtain ⟨k, a, rfl, ha⟩ := in_row hi
    obtain ⟨cb, cc, eb, ce, h1, -, -, -, -, -, -, -, -, hcell, -, -, -, -, -, -⟩ := h.open_ ha
    unfold gtV inR
    rw [arr_nat ha]
    have HC := Lib.hid (array_in h ha h1)
    have HL := Lib.hid hcell
    clear h hi ha h1 hcell
    by_cases hj : 0 ≤ i ∧ i < (a.length : Int)
    · obtain ⟨j, rfl⟩ : ∃ j : Nat, i = (j : Int) := ⟨i.toNat, by omega⟩
      have hb : decide (0 ≤ (j : Int) ∧ (j : Int) < (a.length : Int)) = true := decide_eq_true hj
      have hjl : j < a.length := by omega
      have HV : Hid (W.cell? ⟨cb, off A k + j, none⟩ = some (.int .i64 (a.getD j 0))) := Lib.hid (HL.out j _ (by rw [List.getD_eq_getElem?_getD, List.getElem?_eq_getElem hjl]; rfl))
      rw [hb, if_pos rfl, Int.toNat_natCast]
      generalize a.getD j 0 = x at *
      generalize off A k = o at *
      generalize a.length = n at *
      have HH := Lib.hid (fun X W => has_w X n n (j : Int) W)
      clear hj
      go_enter Try.func15, Try.ntmps15
      go_wp2_with (first | (go_at_call 21; ((with_reducible refine HC.out.mono ?_); rintro e w1 ⟨rfl, m1, rfl⟩; have hv := HV.out)) | (go_at_call 22; ((with_reducible refine (HH.out _ _).mono ?_); rw [hb]; rintro e w1 ⟨rfl, rfl⟩)))
      go_ret2
      exact ⟨rfl, _, rfl⟩
    · have hb : decide (0 ≤ i ∧ i < (a.length : Int)) = false := decide_eq_false hj
      rw [hb, if_neg (by decide)]
      generalize off A k = o at *
      generalize a.length = n at *
      have HH := Lib.hid (fun X W => has_w X n n i W)
      clear hj
      go_enter Try.func15, Try.ntmps15
      go_wp2_with (first | (go_at_call 21; ((with_reducible refine HC.out.mono ?_); rintro e w1 ⟨rfl, m1, rfl⟩)) | (go_at_call 22; ((with_reducible refine (HH.out _ _).mono ?_); rw [hb]; rintro e w1 ⟨rfl, rfl⟩)))
      go_ret2
      exact ⟨rfl, _, rfl⟩
  · have HC := Lib.hid (array_out h hi)
    have hb : decide (0 ≤ i ∧ i < ((0 : Nat) : Int)) = false := decide_eq_false (by omega)
    unfold gtV inR
    rw [arr_out hi, List.length_nil, hb, if_neg (by decide)]
    clear h hi
    have HH := Lib.hid (fun X W => has_w X 0 0 i W)
    go_enter Try.func15, Try.ntmps15
    go_wp2_with (first | (go_at_call 21; ((with_reducible refine HC.out.mono ?_); rintro e w1 ⟨rfl, rfl⟩)) | (go_at_call 22; ((with_reducible refine (HH.out _ _).mono ?_); rw [hb]; rintro e w1 ⟨rfl, rfl⟩)))
    go_ret2
    exact ⟨rfl, 0, rfl⟩
end Go.Proofs.Ytimpobfilihhmaa
