/-
  Plain mathematics of tokens: bytes that are right, and others behind that part tokens: the tokens of both.
-/
import Derived.Test.YtldakohmcmcfjaaLexM
namespace Go.Proofs.Ytldakohmcmcfjaa
open Go

/-- Bytes whose first one belongs to no token that stands ahead of it. -/
def Parted (z : List UInt8) : Prop := ∃ c z', z = c :: z' ∧ inwB (bv c) = false ∧ c ≠ 61
theorem parted_10 (l : List UInt8) : Parted (10 :: l) := ⟨10, l, rfl, by decide, by decide⟩
theorem parted_32 (l : List UInt8) : Parted (32 :: l) := ⟨32, l, rfl, by decide, by decide⟩
theorem parted_35 (l : List UInt8) : Parted (35 :: l) := ⟨35, l, rfl, by decide, by decide⟩
theorem inw_no {x : Int} (h : inwB x = false) : letB x = false ∧ digB x = false ∧ (x == 95) = false := by
  unfold inwB at h
  rw [Bool.or_eq_false_iff, Bool.or_eq_false_iff] at h
  exact ⟨h.1.1, h.1.2, h.2⟩

theorem reachL_app (p : Int → Bool) (z : List UInt8) (hz : reachL p z = 0) : ∀ b, reachL p (b ++ z) = reachL p b
  | [] => by simpa [reachL] using hz
  | c :: b => by
    rw [List.cons_append, reachL_cons, reachL_cons, reachL_app p z hz b]
theorem reachL_no {p : Int → Bool} {z : List UInt8} (h : ∃ c z', z = c :: z' ∧ p (bv c) = false) : reachL p z = 0 := by
  obtain ⟨c, z', rfl, h⟩ := h
  rw [reachL_cons, if_neg (by rw [h]; decide)]
theorem commL_app (z : List UInt8) : ∀ b, commL (b ++ z) = if commL b < b.length then commL b else b.length + commL z
  | [] => by simp [commL]
  | c :: b => by
    rw [List.cons_append, commL_cons, commL_cons]
    by_cases h : c = 10
    · rw [if_pos h, if_pos h]; simp
    · rw [if_neg h, if_neg h, commL_app z b, List.length_cons]
      by_cases h2 : commL b < b.length
      · rw [if_pos h2, if_pos (by omega)]
      · rw [if_neg h2, if_neg (by omega)]; omega
theorem commL_none : ∀ (z : List UInt8), (∀ c ∈ z, c ≠ 10) → commL z = z.length
  | [], _ => rfl
  | c :: z, h => by
    rw [commL_cons, if_neg (h c (by simp)), commL_none z (fun d hd => h d (by simp [hd]))]; rfl

theorem firstK_app {c : UInt8} {r z : List UInt8} : firstK (c :: (r ++ z)) = firstK (c :: r) := rfl
theorem firstN_app {c : UInt8} {r z : List UInt8} (hz : Parted z) : firstN (c :: (r ++ z)) = firstN (c :: r) := by
  obtain ⟨d, z', rfl, h1, h2⟩ := hz
  obtain ⟨_, h4, _⟩ := inw_no h1
  have e1 := reachL_app inwB (d :: z') (reachL_no ⟨d, z', rfl, h1⟩) (c :: r)
  have e2 := reachL_app digB (d :: z') (reachL_no ⟨d, z', rfl, h4⟩) (c :: r)
  rw [List.cons_append] at e1 e2
  rw [firstN_cons, firstN_cons, e1, e2]
  have e3 : (r ++ d :: z').head? = some 61 ↔ r.head? = some 61 := by
    cases r with
    | nil => simp [h2]
    | cons a r => simp
  simp only [e3]
theorem glued_app {l z : List UInt8} {n : Nat} (hz : Parted z) (hn : n ≤ l.length) : glued (l ++ z) n = glued l n := by
  obtain ⟨d, z', rfl, h1, h2⟩ := hz
  obtain ⟨h3, _, h5⟩ := inw_no h1
  unfold glued
  by_cases h : n < l.length
  · have e : nth (l ++ d :: z') n = nth l n := by
      unfold nth
      rw [List.getD_eq_getElem?_getD, List.getD_eq_getElem?_getD, List.getElem?_append_left h]
    rw [e, decide_eq_true h, decide_eq_true (by simp; omega)]
  · have hn' : n = l.length := by omega
    have e : nth (l ++ d :: z') n = bv d := by
      unfold nth
      rw [List.getD_eq_getElem?_getD, List.getElem?_append_right (by omega), hn']; simp
    rw [e, h3, h5, decide_eq_false h]; simp

/-- What must be of the bytes behind, for what stands ahead may end in a comment. -/
def Behind (b z : List UInt8) : Prop := (∃ z', z = 10 :: z') ∨ ((∀ c ∈ z, c ≠ 10) ∧ ∀ q, lexS q z = .ok []) ∨ (∀ c ∈ b, c ≠ 35)
theorem Behind.drop {b z : List UInt8} (h : Behind b z) (n : Nat) : Behind (b.drop n) z := by
  rcases h with h | h | h
  · exact .inl h
  · exact .inr (.inl h)
  · exact .inr (.inr fun c hc => h c (List.mem_of_mem_drop hc))

theorem lexS_app : ∀ (f p : Nat) (b z : List UInt8) (ts : List Tok), b.length ≤ f → lexS p b = .ok ts → Parted z → Behind b z → lexS p (b ++ z) = (lexS (p + b.length) z).app ts
  | f, p, [], z, ts, _, h, _, _ => by
    rw [lexS_nil] at h
    injection h with h
    subst h
    rw [Res.app_nil]; rfl
  | 0, p, c :: r, z, ts, hf, _, _, _ => by simp at hf
  | f + 1, p, c :: r, z, ts, hf, h, hz, hb => by
    simp only [List.length_cons] at hf ⊢
    rw [List.cons_append]
    rcases ok_ways h with ⟨h1, h2⟩ | ⟨h1, h2⟩ | ⟨h1, h2, h3, h4, ts', h5, rfl⟩
    · have hb' : Behind r z := hb.drop 1
      rw [lexS_blank h1, lexS_app f (p + 1) r z ts (by omega) h2 hz hb']
      congr 2; omega
    · subst h1
      have hm1 : 1 ≤ commL (35 :: r) := by rw [commL_cons, if_neg (by decide)]; omega
      have ea := commL_app z (35 :: r)
      rw [List.cons_append] at ea
      rw [lexS_comm]
      by_cases hlt : commL (35 :: r) < (35 :: r).length
      · rw [if_pos hlt] at ea
        have hd : ((35 :: r).drop (commL (35 :: r))).length = r.length + 1 - commL (35 :: r) := by simp
        simp only [List.length_cons] at hlt
        rw [ea, ← List.cons_append, List.drop_append_of_le_length (by simp only [List.length_cons]; omega),
          lexS_app f _ _ z ts (by rw [hd]; omega) h2 hz (hb.drop _), hd]
        congr 2; omega
      · have hle := commL_le (35 :: r)
        have he : commL (35 :: r) = (35 :: r).length := by omega
        rw [if_neg hlt] at ea
        rw [he, List.drop_length, lexS_nil] at h2
        injection h2 with h2
        subst h2
        rw [Res.app_nil]
        rcases hb with ⟨z', rfl⟩ | ⟨hz1, hz2⟩ | hno
        · have e0 : commL (10 :: z') = 0 := by rw [commL_cons, if_pos rfl]
          rw [ea, e0, Nat.add_zero, ← List.cons_append, List.drop_append_of_le_length (Nat.le_refl _), List.drop_length]
          rfl
        · rw [ea, commL_none z hz1, ← List.cons_append, List.drop_eq_nil_of_le (by simp; omega), lexS_nil, hz2]
        · exact absurd rfl (hno 35 (by simp))
    · have hn1 := firstN_pos (c := c) (l := r) (fun e => h3 (.inl e))
      have hn2 : firstN (c :: r) ≤ (c :: r).length := firstN_le
      have eN := firstN_app (c := c) (r := r) hz
      have eg := glued_app (l := c :: r) (n := firstN (c :: r)) hz hn2
      rw [List.cons_append] at eg
      have hd : ((c :: r).drop (firstN (c :: r))).length = r.length + 1 - firstN (c :: r) := by simp
      have et : (c :: (r ++ z)).take (firstN (c :: r)) = (c :: r).take (firstN (c :: r)) := by
        rw [← List.cons_append, List.take_append_of_le_length hn2]
      have ed : (c :: (r ++ z)).drop (firstN (c :: r)) = (c :: r).drop (firstN (c :: r)) ++ z := by
        rw [← List.cons_append, List.drop_append_of_le_length hn2]
      simp only [List.length_cons] at hn2
      rw [lexS_tok h1 h2 (by rw [firstK_app, eN]; exact h3) (by rw [firstK_app, eN, eg]; exact h4), firstK_app, eN, et, ed,
        lexS_app f _ _ z ts' (by rw [hd]; omega) h5 hz (hb.drop _), hd]
      have ep : p + firstN (c :: r) + (r.length + 1 - firstN (c :: r)) = p + (r.length + 1) := by omega
      rw [ep]
      cases lexS (p + (r.length + 1)) z <;> rfl

end Go.Proofs.Ytldakohmcmcfjaa
