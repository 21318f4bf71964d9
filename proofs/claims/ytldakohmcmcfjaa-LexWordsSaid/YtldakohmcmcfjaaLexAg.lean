/-
  Plain mathematics of tokens: tokens with a space between each two are the same tokens; bytes further on are the same tokens further on.
-/
import Derived.Test.YtldakohmcmcfjaaLexSuf
namespace Go.Proofs.Ytldakohmcmcfjaa
open Go

def Tok.far (d : Nat) (t : Tok) : Tok := ⟨t.kind, t.text, t.at_ + d⟩
def Res.far (d : Nat) : Res → Res
  | .ok ts => .ok (ts.map (Tok.far d))
  | .bad k => .bad (k + d)
theorem far_cons (d : Nat) (t : Tok) (r : Res) : (r.cons t).far d = (r.far d).cons (t.far d) := by cases r <;> rfl
theorem lexS_far (d : Nat) : ∀ (f p : Nat) (l : List UInt8), l.length ≤ f → lexS (p + d) l = (lexS p l).far d
  | f, p, [], _ => by rw [lexS_nil, lexS_nil]; rfl
  | 0, p, c :: r, hf => by simp at hf
  | f + 1, p, c :: r, hf => by
    simp only [List.length_cons] at hf
    by_cases h1 : blkB (bv c) = true
    · rw [lexS_blank h1, lexS_blank h1, ← lexS_far d f (p + 1) r (by omega)]; congr 1; omega
    · have h1' : blkB (bv c) = false := by simpa using h1
      by_cases h2 : c = 35
      · subst h2
        have hm1 : 1 ≤ commL (35 :: r) := by rw [commL_cons, if_neg (by decide)]; omega
        have hd : ((35 :: r).drop (commL (35 :: r))).length = r.length + 1 - commL (35 :: r) := by simp
        rw [lexS_comm, lexS_comm, ← lexS_far d f _ _ (by rw [hd]; omega)]; congr 1; omega
      · by_cases h3 : firstK (c :: r) = 0 ∨ (firstK (c :: r) = 1 ∧ 32 < firstN (c :: r))
        · rw [lexS_bad h1' h2 h3, lexS_bad h1' h2 h3]; rfl
        · have hn1 := firstN_pos (c := c) (l := r) (fun e => h3 (.inl e))
          have hd : ((c :: r).drop (firstN (c :: r))).length = r.length + 1 - firstN (c :: r) := by simp
          by_cases h4 : firstK (c :: r) = 2 ∧ glued (c :: r) (firstN (c :: r)) = true
          · rw [lexS_glued h1' h2 h3 h4, lexS_glued h1' h2 h3 h4]
            show Res.bad _ = Res.bad _
            congr 1; omega
          · rw [lexS_tok h1' h2 h3 h4, lexS_tok h1' h2 h3 h4, far_cons, ← lexS_far d f _ _ (by rw [hd]; omega), show p + firstN (c :: r) + d = p + d + firstN (c :: r) by omega]
            rfl

theorem bad_le : ∀ (f p : Nat) (l : List UInt8) (k : Nat), l.length ≤ f → lexS p l = .bad k → k ≤ p + l.length
  | f, p, [], k, _, h => by rw [lexS_nil] at h; cases h
  | 0, p, c :: r, k, hf, _ => by simp at hf
  | f + 1, p, c :: r, k, hf, h => by
    simp only [List.length_cons] at hf ⊢
    by_cases h1 : blkB (bv c) = true
    · rw [lexS_blank h1] at h
      have := bad_le f _ _ k (by omega) h; omega
    · have h1' : blkB (bv c) = false := by simpa using h1
      by_cases h2 : c = 35
      · subst h2
        have hm1 : 1 ≤ commL (35 :: r) := by rw [commL_cons, if_neg (by decide)]; omega
        have hm := commL_le (35 :: r)
        simp only [List.length_cons] at hm
        rw [lexS_comm] at h
        have hd : ((35 :: r).drop (commL (35 :: r))).length = r.length + 1 - commL (35 :: r) := by simp
        have := bad_le f _ _ k (by rw [hd]; omega) h; rw [hd] at this; omega
      · by_cases h3 : firstK (c :: r) = 0 ∨ (firstK (c :: r) = 1 ∧ 32 < firstN (c :: r))
        · rw [lexS_bad h1' h2 h3] at h
          injection h with h; omega
        · have hn1 := firstN_pos (c := c) (l := r) (fun e => h3 (.inl e))
          have hn2 : firstN (c :: r) ≤ (c :: r).length := firstN_le
          simp only [List.length_cons] at hn2
          by_cases h4 : firstK (c :: r) = 2 ∧ glued (c :: r) (firstN (c :: r)) = true
          · rw [lexS_glued h1' h2 h3 h4] at h
            injection h with h
            omega
          · rw [lexS_tok h1' h2 h3 h4] at h
            have hd : ((c :: r).drop (firstN (c :: r))).length = r.length + 1 - firstN (c :: r) := by simp
            cases hr : lexS (p + firstN (c :: r)) ((c :: r).drop (firstN (c :: r))) with
            | ok ts => rw [hr] at h; cases h
            | bad k' =>
              rw [hr] at h
              have e : k' = k := by simpa [Res.cons] using h
              subst e
              have := bad_le f _ _ k' (by rw [hd]; omega) hr; rw [hd] at this; omega

/-- A token's text alone, with a space behind it, is that token. -/
def Alone (t : Tok) : Prop := ∀ q rest, lexS q (t.text ++ 32 :: rest) = (lexS (q + t.text.length + 1) rest).cons ⟨t.kind, t.text, q⟩
theorem alone_tok {c : UInt8} {r : List UInt8} (h1 : blkB (bv c) = false) (h2 : c ≠ 35) (h3 : ¬ (firstK (c :: r) = 0 ∨ (firstK (c :: r) = 1 ∧ 32 < firstN (c :: r)))) (p : Nat) :
    Alone ⟨firstK (c :: r), (c :: r).take (firstN (c :: r)), p⟩ := by
  intro q rest
  have hn1 := firstN_pos (c := c) (l := r) (fun e => h3 (.inl e))
  have hn2 : firstN (c :: r) ≤ (c :: r).length := firstN_le
  have e2 := firstN_take (c :: r) (firstN (c :: r)) hn1 (Nat.le_refl _)
  have e1 := firstK_take (c :: r) (firstN (c :: r)) hn1
  have hl : ((c :: r).take (firstN (c :: r))).length = firstN (c :: r) := by rw [List.length_take]; omega
  show lexS q ((c :: r).take (firstN (c :: r)) ++ 32 :: rest) = _
  generalize hT : (c :: r).take (firstN (c :: r)) = T at e1 e2 hl ⊢
  generalize firstN (c :: r) = n at *
  generalize firstK (c :: r) = k at *
  cases T with
  | nil => simp at hl; omega
  | cons c' T =>
    have hc : c' = c := by
      obtain ⟨n, rfl⟩ : ∃ m, n = m + 1 := ⟨n - 1, by omega⟩
      rw [List.take_succ_cons] at hT
      injection hT with hT _
      exact hT.symm
    subst hc
    have eN := firstN_app (c := c') (r := T) (parted_32 rest)
    have eg : glued (c' :: (T ++ 32 :: rest)) n = false := by
      have := glued_app (l := c' :: T) (n := n) (parted_32 rest) (by omega)
      rw [List.cons_append] at this
      rw [this]
      unfold glued
      rw [decide_eq_false (by omega)]; rfl
    rw [List.cons_append, lexS_tok h1 h2 (by rw [firstK_app, eN, e1, e2]; exact h3) (by rw [firstK_app, eN, e1, e2, eg]; simp), firstK_app, eN, e1, e2]
    have ed : (c' :: (T ++ 32 :: rest)).drop n = 32 :: rest := by
      rw [← List.cons_append, List.drop_append_of_le_length (by omega), List.drop_eq_nil_of_le (by omega)]; rfl
    have et : (c' :: (T ++ 32 :: rest)).take n = c' :: T := by
      rw [← List.cons_append, List.take_append_of_le_length (by omega), List.take_of_length_le (by omega)]
    rw [ed, et, lexS_blank (by decide), hl]
theorem alone_all : ∀ (f p : Nat) (l : List UInt8) (ts : List Tok), l.length ≤ f → lexS p l = .ok ts → ∀ t ∈ ts, Alone t
  | f, p, [], ts, _, h => by rw [lexS_nil] at h; injection h with h; subst h; simp
  | 0, p, c :: r, ts, hf, _ => by simp at hf
  | f + 1, p, c :: r, ts, hf, h => by
    simp only [List.length_cons] at hf
    rcases ok_ways h with ⟨_, h2⟩ | ⟨h1, h2⟩ | ⟨h1, h2, h3, h4, ts', h5, rfl⟩
    · exact alone_all f _ r ts (by omega) h2
    · have hm1 : 1 ≤ commL (c :: r) := by rw [commL_cons, if_neg (by rw [h1]; decide)]; omega
      have hd : ((c :: r).drop (commL (c :: r))).length = r.length + 1 - commL (c :: r) := by simp
      exact alone_all f _ _ ts (by rw [hd]; omega) h2
    · have hn1 := firstN_pos (c := c) (l := r) (fun e => h3 (.inl e))
      have hd : ((c :: r).drop (firstN (c :: r))).length = r.length + 1 - firstN (c :: r) := by simp
      intro t ht
      rcases List.mem_cons.1 ht with rfl | ht
      · exact alone_tok h1 h2 h3 p
      · exact alone_all f _ _ ts' (by rw [hd]; omega) h5 t ht

/-- Tokens' texts, a space behind each. -/
def joinT (ts : List Tok) : List UInt8 := ts.flatMap fun t => t.text ++ [32]
theorem joinT_cons (t : Tok) (ts : List Tok) : joinT (t :: ts) = t.text ++ 32 :: joinT ts := by unfold joinT; rw [List.flatMap_cons]; simp
theorem joinT_app (a b : List Tok) : joinT (a ++ b) = joinT a ++ joinT b := by unfold joinT; rw [List.flatMap_append]
theorem joinT_snoc {ts : List Tok} {k : Nat} {t : Tok} (h : ts[k]? = some t) : joinT (ts.take (k + 1)) = joinT (ts.take k) ++ t.text ++ [32] := by
  have hk := (List.getElem?_eq_some_iff.1 h).1
  have e : ts[k] = t := by rw [List.getElem?_eq_getElem hk] at h; injection h
  rw [List.take_succ_eq_append_getElem hk, joinT_app, e, joinT_cons]
  simp [joinT]
theorem joinT_le (ts : List Tok) (k : Nat) : (joinT (ts.take k)).length ≤ (joinT ts).length := by
  conv => rhs; rw [← List.take_append_drop k ts, joinT_app, List.length_append]
  omega
theorem joinT_size : ∀ (f p : Nat) (l : List UInt8) (ts : List Tok), l.length ≤ f → lexS p l = .ok ts → (joinT ts).length ≤ l.length + ts.length
  | f, p, [], ts, _, h => by rw [lexS_nil] at h; injection h with h; subst h; simp [joinT]
  | 0, p, c :: r, ts, hf, _ => by simp at hf
  | f + 1, p, c :: r, ts, hf, h => by
    simp only [List.length_cons] at hf ⊢
    rcases ok_ways h with ⟨_, h2⟩ | ⟨h1, h2⟩ | ⟨h1, h2, h3, h4, ts', h5, rfl⟩
    · have := joinT_size f _ r ts (by omega) h2; omega
    · have hm1 : 1 ≤ commL (c :: r) := by rw [commL_cons, if_neg (by rw [h1]; decide)]; omega
      have hd : ((c :: r).drop (commL (c :: r))).length = r.length + 1 - commL (c :: r) := by simp
      have := joinT_size f _ _ ts (by rw [hd]; omega) h2; rw [hd] at this; omega
    · have hn1 := firstN_pos (c := c) (l := r) (fun e => h3 (.inl e))
      have hn2 : firstN (c :: r) ≤ (c :: r).length := firstN_le
      have hd : ((c :: r).drop (firstN (c :: r))).length = r.length + 1 - firstN (c :: r) := by simp
      have := joinT_size f _ _ ts' (by rw [hd]; omega) h5
      rw [hd] at this
      rw [joinT_cons, List.length_append, List.length_cons, List.length_cons]
      show ((c :: r).take (firstN (c :: r))).length + _ ≤ _
      rw [List.length_take]
      simp only [List.length_cons] at hn2 ⊢
      omega
/-- The tokens, where they stand with a space behind each. -/
def reAt : Nat → List Tok → List Tok
  | _, [] => []
  | q, t :: ts => ⟨t.kind, t.text, q⟩ :: reAt (q + t.text.length + 1) ts
theorem reAt_length : ∀ (ts : List Tok) (q : Nat), (reAt q ts).length = ts.length
  | [], _ => rfl
  | t :: ts, q => by simp [reAt, reAt_length ts]
theorem reAt_get : ∀ (ts : List Tok) (q i : Nat) (t : Tok), ts[i]? = some t → ∃ a, (reAt q ts)[i]? = some ⟨t.kind, t.text, a⟩
  | [], _, i, t, h => by simp at h
  | s :: ts, q, 0, t, h => by
    have : s = t := by simpa using h
    subst this
    exact ⟨q, rfl⟩
  | s :: ts, q, i + 1, t, h => reAt_get ts _ i t (by simpa using h)
theorem lexS_join : ∀ (ts : List Tok) (q : Nat), (∀ t ∈ ts, Alone t) → lexS q (joinT ts ++ [32]) = .ok (reAt q ts)
  | [], q, _ => by
    show lexS q [32] = _
    rw [lexS_blank (by decide), lexS_nil]; rfl
  | t :: ts, q, h => by
    rw [joinT_cons, List.append_assoc, List.cons_append, h t (by simp), lexS_join ts _ (fun s hs => h s (by simp [hs]))]
    rfl
theorem joinT_fin (ts : List Tok) (n : Nat) : joinT (fin ts n) = joinT ts ++ [32] := by unfold fin; rw [joinT_app]; simp [joinT]
theorem lex_again {b : List UInt8} {ts : List Tok} (n : Nat) (h : lexS 0 b = .ok ts) : lexS 0 (joinT (fin ts n)) = .ok (reAt 0 ts) := by
  rw [joinT_fin]; exact lexS_join ts 0 (alone_all b.length 0 b ts (Nat.le_refl _) h)
theorem fin_re {ts : List Tok} {n k i : Nat} {t : Tok} (h : (fin ts n)[i]? = some t) : ∃ a, (fin (reAt 0 ts) k)[i]? = some ⟨t.kind, t.text, a⟩ := by
  unfold fin at h ⊢
  by_cases hi : i < ts.length
  · rw [List.getElem?_append_left hi] at h
    obtain ⟨a, ha⟩ := reAt_get ts 0 i t h
    exact ⟨a, by rw [List.getElem?_append_left (by rw [reAt_length]; exact hi)]; exact ha⟩
  · have hl := (List.getElem?_eq_some_iff.1 h).1
    simp at hl
    have e : i = ts.length := by omega
    subst e
    have : (⟨4, [], n⟩ : Tok) = t := by simpa using h
    subst this
    exact ⟨k, by rw [List.getElem?_append_right (by rw [reAt_length]; omega)]; simp [reAt_length]⟩
/-- Bytes behind a line's end. -/
theorem lex_behind {b more : List UInt8} {ts : List Tok} (h : lexS 0 b = .ok ts) : lexS 0 (b ++ 10 :: more) = ((lexS 0 more).far (b.length + 1)).app ts := by
  rw [lexS_app b.length 0 b (10 :: more) ts (Nat.le_refl _) h (parted_10 more) (.inl ⟨more, rfl⟩), lexS_blank (by decide), ← lexS_far (b.length + 1) more.length 0 more (Nat.le_refl _)]
  congr 2
theorem fin_two {a c : List Tok} {n k d i : Nat} {t : Tok} (hn : n = k + d) (h : (fin c k)[i]? = some t) : (fin (a ++ c.map (Tok.far d)) n)[a.length + i]? = some (t.far d) := by
  unfold fin at h ⊢
  rw [List.append_assoc, List.getElem?_append_right (by omega), Nat.add_sub_cancel_left]
  have e : c.map (Tok.far d) ++ [(⟨4, [], n⟩ : Tok)] = (c ++ [(⟨4, [], k⟩ : Tok)]).map (Tok.far d) := by simp [Tok.far, hn]
  rw [e, List.getElem?_map, h]; rfl
theorem fin_one {a c : List Tok} {n k i : Nat} (hi : i < a.length) : ∃ t, (fin (a ++ c) n)[i]? = some t ∧ (fin a k)[i]? = some t := by
  refine ⟨a[i], ?_, ?_⟩
  · unfold fin; rw [List.append_assoc, List.getElem?_append_left hi, List.getElem?_eq_getElem hi]
  · unfold fin; rw [List.getElem?_append_left hi, List.getElem?_eq_getElem hi]

end Go.Proofs.Ytldakohmcmcfjaa
