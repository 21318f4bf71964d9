/-
  Plain mathematics of tokens: where they stand, and what stands between them.
-/
import Derived.Test.YtaajolemjgdfnaaDoorLexM
namespace Go.Proofs.YtaajolemjgdfnaaDoor
open Go

/-- Whether a comment goes on behind a byte. -/
def stepC (c : Bool) (x : Int) : Bool := if x = 10 then false else if x = 35 then true else c
/-- Whether a comment goes on, so many bytes behind a place. -/
def cmN (b : List UInt8) (s : Nat) : Nat → Bool
  | 0 => false
  | j + 1 => stepC (cmN b s j) (nth b (s + j))
/-- Between two places stands nothing that tells. -/
def Gap (b : List UInt8) (s p : Nat) : Prop := ∀ j, s + j < p → cmN b s (j + 1) = true ∨ blkB (nth b (s + j)) = true
/-- Tokens stand where they say, from a place on. -/
def Placed (b : List UInt8) : Nat → List Tok → Prop
  | _, [] => True
  | p, t :: r => (p ≤ t.at_ ∧ t.at_ + t.text.length ≤ b.length ∧ (t.text = [] ↔ t.kind = 4) ∧ (t.kind = 4 ↔ r = []) ∧ Gap b p t.at_ ∧ (cmN b p (t.at_ - p) = true → t.kind = 4) ∧ (b.drop t.at_).take t.text.length = t.text ∧ (t.kind = 4 → t.at_ = b.length)) ∧ Placed b (t.at_ + t.text.length) r

theorem firstK_ne4 (l : List UInt8) : firstK l ≠ 4 := by
  unfold firstK
  split
  · omega
  · split
    · omega
    · split
      · omega
      · split <;> omega

theorem nth_of_drop {b : List UInt8} {p : Nat} {c : UInt8} {r : List UInt8} (h : b.drop p = c :: r) : nth b p = bv c ∧ p < b.length ∧ b.drop (p + 1) = r := by
  have hlt : p < b.length := by
    rcases Nat.lt_or_ge p b.length with h' | h'
    · exact h'
    · rw [List.drop_eq_nil_of_le h'] at h; cases h
  rw [drop_cons hlt] at h
  injection h with h1 h2
  exact ⟨by unfold nth; rw [h1], hlt, h2⟩
theorem drop_add {b : List UInt8} {p n : Nat} {x : List UInt8} (h : b.drop p = x) : b.drop (p + n) = x.drop n := by
  rw [← h, List.drop_drop]

theorem comm_bytes : ∀ (l : List UInt8) (i : Nat), i < commL l → nth l i ≠ 10
  | [], i, h => by simp [commL] at h
  | c :: l, i, h => by
    rw [commL_cons] at h
    by_cases hc : c = 10
    · rw [if_pos hc] at h; omega
    · rw [if_neg hc] at h
      cases i with
      | zero =>
        intro e
        exact hc (bv_inj (n := 10) e (by decide))
      | succ i => exact comm_bytes l i (by omega)
theorem comm_end : ∀ (l : List UInt8), commL l = l.length ∨ nth l (commL l) = 10
  | [] => .inl rfl
  | c :: l => by
    rw [commL_cons]
    by_cases hc : c = 10
    · rw [if_pos hc]; right; subst hc; rfl
    · rw [if_neg hc]
      rcases comm_end l with h | h
      · left; rw [h]; rfl
      · right; exact h

theorem gap_run {b : List UInt8} {s p n : Nat} (hsp : s ≤ p) (hg : Gap b s p) (h35 : nth b p = 35) (hn : ∀ i, i < n → nth b (p + i) ≠ 10) : ∀ i, i ≤ n → Gap b s (p + i) ∧ (0 < i → cmN b s (p + i - s) = true)
  | 0, _ => ⟨hg, fun h => by omega⟩
  | i + 1, hi => by
    obtain ⟨g, hc⟩ := gap_run hsp hg h35 hn i (by omega)
    have e : p + (i + 1) - s = (p + i - s) + 1 := by omega
    have e2 : s + (p + i - s) = p + i := by omega
    have hst : cmN b s (p + i - s + 1) = true := by
      show stepC _ _ = true
      rw [e2]
      unfold stepC
      rw [if_neg (hn i (by omega))]
      cases i with
      | zero => rw [if_pos (by simpa using h35)]
      | succ i =>
        split
        · rfl
        · exact hc (by omega)
    refine ⟨fun j hj => ?_, fun _ => by rw [e]; exact hst⟩
    by_cases h : s + j < p + i
    · exact g j h
    · left
      have : j = p + i - s := by omega
      subst this
      exact hst
theorem placed_ok : ∀ (f : Nat) (b : List UInt8) (s p : Nat) (ts : List Tok), b.length - p ≤ f → s ≤ p → p ≤ b.length → Gap b s p → (cmN b s (p - s) = false ∨ p = b.length ∨ nth b p = 10) → lexS p (b.drop p) = .ok ts → Placed b s (fin ts b.length) := by
  intro f
  induction f with
  | zero =>
    intro b s p ts hf hsp hp hg hc h
    have e : p = b.length := by omega
    subst e
    rw [List.drop_length, lexS_nil] at h
    injection h with h
    subst h
    refine ⟨⟨hsp, Nat.le_refl _, by simp, by simp, hg, fun _ => rfl, by simp, fun _ => rfl⟩, trivial⟩
  | succ f ih =>
    intro b s p ts hf hsp hp hg hc h
    by_cases e : p = b.length
    · subst e
      rw [List.drop_length, lexS_nil] at h
      injection h with h
      subst h
      exact ⟨⟨hsp, Nat.le_refl _, by simp, by simp, hg, fun _ => rfl, by simp, fun _ => rfl⟩, trivial⟩
    · have hlt : p < b.length := by omega
      cases hd : b.drop p with
      | nil => rw [drop_cons hlt] at hd; cases hd
      | cons c r =>
        obtain ⟨hn, _, hr⟩ := nth_of_drop hd
        have hlen : (c :: r).length = b.length - p := by rw [← hd]; simp
        rw [hd] at h
        rcases ok_ways h with ⟨h1, h2⟩ | ⟨h1, h2⟩ | ⟨h1, h2, h3, h4, ts', h5, rfl⟩
        · refine ih b s (p + 1) ts (by omega) (by omega) (by omega) ?_ ?_ (by rw [hr]; exact h2)
          · intro j hj
            by_cases hj' : s + j < p
            · exact hg j hj'
            · right
              rw [show s + j = p by omega, hn]; exact h1
          · left
            rw [show p + 1 - s = (p - s) + 1 by omega]
            show stepC _ _ = false
            rw [show s + (p - s) = p by omega]
            unfold stepC
            by_cases h10 : nth b p = 10
            · rw [if_pos h10]
            · rw [if_neg h10, if_neg (by
                rw [hn]; intro e; rw [e] at h1; revert h1; decide)]
              rcases hc with hc | hc | hc
              · exact hc
              · omega
              · exact absurd hc h10
        · subst h1
          have hm := commL_le (35 :: r)
          have hb10 : ∀ i, i < commL (35 :: r) → nth b (p + i) ≠ 10 := fun i hi => by
            have := comm_bytes (35 :: r) i hi
            rw [← hd, nth_drop] at this; exact this
          have hm1 : 1 ≤ commL (35 :: r) := by rw [commL_cons, if_neg (by decide)]; omega
          obtain ⟨g, _⟩ := gap_run hsp hg (by rw [hn]; rfl) hb10 _ (Nat.le_refl _)
          refine ih b s (p + commL (35 :: r)) ts (by omega) (by omega) (by omega) g ?_ (by rw [drop_add hd]; exact h2)
          right
          rcases comm_end (35 :: r) with he | he
          · left; omega
          · right
            rw [← hd, nth_drop, hd] at he; exact he
        · have hn1 := firstN_pos (c := c) (l := r) (fun e => h3 (.inl e))
          have hn2 : firstN (c :: r) ≤ (c :: r).length := firstN_le
          have htl : ((c :: r).take (firstN (c :: r))).length = firstN (c :: r) := by rw [List.length_take]; omega
          have hcf : cmN b s (p - s) = false := by
            rcases hc with hc | hc | hc
            · exact hc
            · omega
            · rw [hn] at hc; rw [hc] at h1; exact absurd h1 (by decide)
          refine ⟨⟨hsp, ?_, ?_, ?_, hg, ?_, ?_, ?_⟩, ?_⟩
          · show p + ((c :: r).take (firstN (c :: r))).length ≤ _; rw [htl]; omega
          · constructor
            · intro e; show firstK (c :: r) = 4
              have : ((c :: r).take (firstN (c :: r))).length = 0 := by rw [show (c :: r).take (firstN (c :: r)) = [] from e]; rfl
              omega
            · intro e; exact absurd e (firstK_ne4 (c :: r))
          · constructor
            · intro e; exact absurd e (firstK_ne4 (c :: r))
            · intro e; simp at e
          · intro e; rw [show cmN b s (p - s) = true from e] at hcf; cases hcf
          · show (b.drop p).take ((c :: r).take (firstN (c :: r))).length = (c :: r).take (firstN (c :: r))
            rw [htl, hd]
          · intro e; exact absurd e (firstK_ne4 (c :: r))
          · show Placed b (p + ((c :: r).take (firstN (c :: r))).length) (ts' ++ [⟨4, [], b.length⟩])
            rw [htl]
            exact ih b (p + firstN (c :: r)) (p + firstN (c :: r)) ts' (by omega) (Nat.le_refl _) (by omega) (fun j hj => by omega) (.inl (by rw [Nat.sub_self]; rfl)) (by rw [drop_add hd]; exact h5)
theorem placed_of {b : List UInt8} {ts : List Tok} (h : lexS 0 b = .ok ts) : Placed b 0 (fin ts b.length) :=
  placed_ok b.length b 0 0 ts (by omega) (Nat.le_refl _) (Nat.zero_le _) (fun j hj => by omega) (.inl rfl) h
theorem bad_lt : ∀ (f p : Nat) (l : List UInt8) (k : Nat), l.length ≤ f → lexS p l = .bad k → k < p + l.length
  | f, p, [], k, _, h => by rw [lexS_nil] at h; cases h
  | 0, p, c :: r, k, hf, _ => by simp at hf
  | f + 1, p, c :: r, k, hf, h => by
    simp only [List.length_cons] at hf ⊢
    by_cases h1 : blkB (bv c) = true
    · rw [lexS_blank h1] at h
      have := bad_lt f _ _ k (by omega) h; omega
    · have h1' : blkB (bv c) = false := by simpa using h1
      by_cases h2 : c = 35
      · subst h2
        have hm1 : 1 ≤ commL (35 :: r) := by rw [commL_cons, if_neg (by decide)]; omega
        have hm := commL_le (35 :: r)
        simp only [List.length_cons] at hm
        rw [lexS_comm] at h
        have hd : ((35 :: r).drop (commL (35 :: r))).length = r.length + 1 - commL (35 :: r) := by simp
        have := bad_lt f _ _ k (by rw [hd]; omega) h; rw [hd] at this; omega
      · by_cases h3 : firstK (c :: r) = 0 ∨ (firstK (c :: r) = 1 ∧ 32 < firstN (c :: r))
        · rw [lexS_bad h1' h2 h3] at h
          injection h with h; omega
        · have hn1 := firstN_pos (c := c) (l := r) (fun e => h3 (.inl e))
          have hn2 : firstN (c :: r) ≤ (c :: r).length := firstN_le
          simp only [List.length_cons] at hn2
          by_cases h4 : firstK (c :: r) = 2 ∧ glued (c :: r) (firstN (c :: r)) = true
          · rw [lexS_glued h1' h2 h3 h4] at h
            injection h with h
            have hg := h4.2
            unfold glued at hg
            rw [Bool.and_eq_true] at hg
            have := of_decide_eq_true hg.1
            simp only [List.length_cons] at this
            omega
          · rw [lexS_tok h1' h2 h3 h4] at h
            have hd : ((c :: r).drop (firstN (c :: r))).length = r.length + 1 - firstN (c :: r) := by simp
            cases hr : lexS (p + firstN (c :: r)) ((c :: r).drop (firstN (c :: r))) with
            | ok ts => rw [hr] at h; cases h
            | bad k' =>
              rw [hr] at h
              have e : k' = k := by simpa [Res.cons] using h
              subst e
              have := bad_lt f _ _ k' (by rw [hd]; omega) hr; rw [hd] at this; omega

end Go.Proofs.YtaajolemjgdfnaaDoor
