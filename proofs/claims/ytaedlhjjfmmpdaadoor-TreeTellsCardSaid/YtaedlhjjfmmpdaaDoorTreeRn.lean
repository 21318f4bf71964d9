/-
  A name, as the document tells it by tokens: one word, whole, that is no keyword.
-/
import Derived.Test.YtaedlhjjfmmpdaaDoorTreeN
import Derived.Test.YtaedlhjjfmmpdaaDoorTreeLm
namespace Go.Proofs.YtaedlhjjfmmpdaaDoor
open Go

theorem reachL_len {p : Int → Bool} : ∀ {l : List UInt8}, reachL p l = l.length → l.all (fun c => p (bv c)) = true
  | [], _ => rfl
  | c :: l, h => by
    rw [reachL_cons] at h
    by_cases hc : p (bv c) = true
    · rw [if_pos hc] at h
      rw [List.all_cons, hc, reachL_len (l := l) (by simpa using h)]; rfl
    · rw [if_neg hc] at h; simp at h
theorem reachL_all {p : Int → Bool} : ∀ {l : List UInt8}, l.all (fun c => p (bv c)) = true → reachL p l = l.length
  | [], _ => rfl
  | c :: l, h => by
    rw [List.all_cons, Bool.and_eq_true] at h
    rw [reachL_cons, if_pos h.1, reachL_all h.2]; rfl

/-- One word, whole. -/
def wordB (l : List UInt8) : Bool := decide (0 < l.length) && decide (l.length ≤ 32) && letB (nth l 0) && l.all (fun c => inwB (bv c))
theorem nameB_word (s : ByteArray) : nameB s = (wordB (bs s) && !kwL (bs s)) := rfl

theorem word_toks {l : List UInt8} (h : wordB l = true) : lexS 0 l = .ok [⟨1, l, 0⟩] := by
  unfold wordB at h
  simp only [Bool.and_eq_true, decide_eq_true_eq] at h
  obtain ⟨⟨⟨h0, h1⟩, h2⟩, h3⟩ := h
  cases l with
  | nil => simp at h0
  | cons c r =>
    have hc : letB (bv c) = true := h2
    have hr := reachL_all (p := inwB) h3
    have hk : firstK (c :: r) = 1 := by rw [firstK_cons, if_pos hc]
    have hn : firstN (c :: r) = (c :: r).length := by rw [firstN_cons, if_pos hc, hr]
    have hl : (65 ≤ bv c ∧ bv c ≤ 90) ∨ (97 ≤ bv c ∧ bv c ≤ 122) := by unfold letB at hc; exact of_decide_eq_true hc
    have hb : blkB (bv c) = false := by
      unfold blkB
      rw [Bool.eq_false_iff]
      intro h
      simp only [Bool.or_eq_true, beq_iff_eq] at h
      omega
    have hq : c ≠ 35 := by intro e; subst e; revert hl; decide
    rw [lexS_tok hb hq (by rw [hk, hn]; omega) (by rw [hk]; omega), hk, hn, List.take_length, List.drop_length, lexS_nil]
    rfl

theorem tok_fits : ∀ (f p : Nat) (l : List UInt8) (ts : List Tok), l.length ≤ f → lexS p l = .ok ts → ∀ t ∈ ts, t.text.length ≤ l.length
  | _, p, [], ts, _, h, t, ht => by
    rw [lexS_nil] at h
    injection h with h
    subst h
    cases ht
  | 0, p, c :: r, ts, hf, _, _, _ => by simp at hf
  | f + 1, p, c :: r, ts, hf, h, t, ht => by
    simp only [List.length_cons] at hf ⊢
    rcases ok_ways h with ⟨_, h2⟩ | ⟨_, h2⟩ | ⟨_, _, h3, _, ts', h5, rfl⟩
    · have := tok_fits f _ r ts (by omega) h2 t ht; omega
    · have hd : ((c :: r).drop (commL (c :: r))).length ≤ r.length + 1 := by simp
      have hm1 : 1 ≤ commL (c :: r) := by
        rename_i hc
        rw [commL_cons, if_neg (by rw [hc]; decide)]; omega
      have hd2 : ((c :: r).drop (commL (c :: r))).length ≤ f := by simp; omega
      have := tok_fits f _ _ ts hd2 h2 t ht; omega
    · have hn1 := firstN_pos (c := c) (l := r) (fun e => h3 (.inl e))
      have hd2 : ((c :: r).drop (firstN (c :: r))).length ≤ f := by simp; omega
      rcases List.mem_cons.1 ht with rfl | ht
      · simp; omega
      · have := tok_fits f _ _ ts' hd2 h5 t ht
        simp at this; omega

theorem toks_word {l : List UInt8} {a : Nat} (h : lexS 0 l = .ok [⟨1, l, a⟩]) : wordB l = true := by
  cases l with
  | nil => rw [lexS_nil] at h; injection h with h; cases h
  | cons c r =>
    rcases ok_ways h with ⟨_, h2⟩ | ⟨h1, h2⟩ | ⟨h1, h2, h3, h4, ts', h5, h6⟩
    · have := tok_fits _ _ _ _ (Nat.le_refl _) h2 _ (List.mem_singleton.2 rfl)
      simp at this
      omega
    · have := tok_fits _ _ _ _ (Nat.le_refl _) h2 _ (List.mem_singleton.2 rfl)
      have hm1 : 1 ≤ commL (c :: r) := by rw [commL_cons, if_neg (by rw [h1]; decide)]; omega
      simp at this
      omega
    · injection h6 with h6 _
      injection h6 with h6 h7 _
      have hc : letB (bv c) = true := by
        rw [firstK_cons] at h6
        by_cases hc : letB (bv c) = true
        · exact hc
        · rw [if_neg hc] at h6
          split at h6
          · omega
          · split at h6 <;> omega
      have hn : firstN (c :: r) = (c :: r).length := by
        have h8 := congrArg List.length h7
        have h9 : firstN (c :: r) ≤ (c :: r).length := firstN_le
        rw [List.length_take] at h8
        omega
      have hk : firstK (c :: r) = 1 := by rw [firstK_cons, if_pos hc]
      have hl : (c :: r).length ≤ 32 := by
        rcases Nat.lt_or_ge 32 (c :: r).length with h | h
        · exact absurd (.inr ⟨hk, by rw [hn]; exact h⟩) h3
        · exact h
      have hr : reachL inwB (c :: r) = (c :: r).length := by rw [← hn, firstN_cons, if_pos hc]
      unfold wordB
      rw [reachL_len hr, decide_eq_true hl, decide_eq_true (show 0 < (c :: r).length by simp), show letB (nth (c :: r) 0) = true from hc]
      rfl

end Go.Proofs.YtaedlhjjfmmpdaaDoor
