/-
  ParseBlanks, plain: tokens with anything between them that parts tokens.
-/
import Derived.Test.YtmpdnikabkandaaPq5
namespace Go.Proofs.Ytmpdnikabkandaa
open Go

/-- Bytes that part tokens, and are none. -/
structure Sep (z : List UInt8) : Prop where
  parted : ∀ rest, Parted (z ++ rest)
  none : ∀ q rest, lexS q (z ++ rest) = lexS (q + z.length) rest
theorem sep_32 : Sep [32] := ⟨fun rest => ⟨32, rest, rfl, by decide, by decide⟩, fun q rest => lexS_blank (by decide)⟩
theorem sep_10 : Sep [10] := ⟨fun rest => ⟨10, rest, rfl, by decide, by decide⟩, fun q rest => lexS_blank (by decide)⟩
theorem sep_9 : Sep [9] := ⟨fun rest => ⟨9, rest, rfl, by decide, by decide⟩, fun q rest => lexS_blank (by decide)⟩
theorem sep_13 : Sep [13, 10] := ⟨fun rest => ⟨13, _, rfl, by decide, by decide⟩, fun q rest => (lexS_blank (by decide)).trans (lexS_blank (by decide))⟩
theorem sep_35 : Sep [35, 32, 99, 10] := ⟨fun rest => ⟨35, _, rfl, by decide, by decide⟩, fun q rest => by
  have e : commL (35 :: 32 :: 99 :: 10 :: rest) = 3 := by
    rw [commL_cons, if_neg (by decide), commL_cons, if_neg (by decide), commL_cons, if_neg (by decide), commL_cons, if_pos rfl]
  show lexS q (35 :: 32 :: 99 :: 10 :: rest) = _
  rw [lexS_comm, e]
  show lexS (q + 3) (10 :: rest) = _
  rw [lexS_blank (by decide)]
  rfl⟩
/-- A token's text alone, with a separator behind it, is that token. -/
def AloneS (t : Tok) : Prop := ∀ q z, Parted z → lexS q (t.text ++ z) = (lexS (q + t.text.length) z).cons ⟨t.kind, t.text, q⟩
theorem aloneS_tok {c : UInt8} {r : List UInt8} (h1 : blkB (bv c) = false) (h2 : c ≠ 35) (h3 : ¬ (firstK (c :: r) = 0 ∨ (firstK (c :: r) = 1 ∧ 32 < firstN (c :: r)))) (p : Nat) :
    AloneS ⟨firstK (c :: r), (c :: r).take (firstN (c :: r)), p⟩ := by
  intro q z hz
  have hn1 := firstN_pos (c := c) (l := r) (fun e => h3 (.inl e))
  have hn2 : firstN (c :: r) ≤ (c :: r).length := firstN_le
  have e2 := firstN_take (c :: r) (firstN (c :: r)) hn1 (Nat.le_refl _)
  have e1 := firstK_take (c :: r) (firstN (c :: r)) hn1
  have hl : ((c :: r).take (firstN (c :: r))).length = firstN (c :: r) := by rw [List.length_take]; omega
  show lexS q ((c :: r).take (firstN (c :: r)) ++ z) = _
  generalize hT : (c :: r).take (firstN (c :: r)) = T at e1 e2 hl ⊢
  generalize firstN (c :: r) = n at *
  generalize firstK (c :: r) = k at *
  cases T with
  | nil => simp at hl; omega
  | cons c' T =>
    have hc : c' = c := by
      obtain ⟨n, rfl⟩ : ∃ m, n = m + 1 := ⟨n - 1, by omega⟩
      rw [List.take_succ_cons] at hT
      injection hT with hT _
      exact hT.symm
    subst hc
    have eN := firstN_app (c := c') (r := T) hz
    have eg : glued (c' :: (T ++ z)) n = false := by
      have := glued_app (l := c' :: T) (n := n) hz (by omega)
      rw [List.cons_append] at this
      rw [this]
      unfold glued
      rw [decide_eq_false (by omega)]; rfl
    rw [List.cons_append, lexS_tok h1 h2 (by rw [firstK_app, eN, e1, e2]; exact h3) (by rw [firstK_app, eN, e1, e2, eg]; simp), firstK_app, eN, e1, e2]
    have ed : (c' :: (T ++ z)).drop n = z := by
      rw [← List.cons_append, List.drop_append_of_le_length (by omega), List.drop_eq_nil_of_le (by omega)]; rfl
    have et : (c' :: (T ++ z)).take n = c' :: T := by
      rw [← List.cons_append, List.take_append_of_le_length (by omega), List.take_of_length_le (by omega)]
    rw [ed, et, hl]
theorem aloneS_all : ∀ (f p : Nat) (l : List UInt8) (ts : List Tok), l.length ≤ f → lexS p l = .ok ts → ∀ t ∈ ts, AloneS t
  | f, p, [], ts, _, h => by rw [lexS_nil] at h; injection h with h; subst h; simp
  | 0, p, c :: r, ts, hf, _ => by simp at hf
  | f + 1, p, c :: r, ts, hf, h => by
    simp only [List.length_cons] at hf
    rcases ok_ways h with ⟨_, h2⟩ | ⟨h1, h2⟩ | ⟨h1, h2, h3, h4, ts', h5, rfl⟩
    · exact aloneS_all f _ r ts (by omega) h2
    · have hm1 : 1 ≤ commL (c :: r) := by rw [commL_cons, if_neg (by rw [h1]; decide)]; omega
      have hd : ((c :: r).drop (commL (c :: r))).length = r.length + 1 - commL (c :: r) := by simp
      exact aloneS_all f _ _ ts (by rw [hd]; omega) h2
    · have hn1 := firstN_pos (c := c) (l := r) (fun e => h3 (.inl e))
      have hd : ((c :: r).drop (firstN (c :: r))).length = r.length + 1 - firstN (c :: r) := by simp
      intro t ht
      rcases List.mem_cons.1 ht with rfl | ht
      · exact aloneS_tok h1 h2 h3 p
      · exact aloneS_all f _ _ ts' (by rw [hd]; omega) h5 t ht

/-- Tokens' texts, a separator behind each. -/
def joinS (z : List UInt8) (ts : List Tok) : List UInt8 := ts.flatMap fun t => t.text ++ z
theorem joinS_cons (z : List UInt8) (t : Tok) (ts : List Tok) : joinS z (t :: ts) = t.text ++ (z ++ joinS z ts) := by unfold joinS; rw [List.flatMap_cons]; simp
theorem joinS_app (z : List UInt8) (a b : List Tok) : joinS z (a ++ b) = joinS z a ++ joinS z b := by unfold joinS; rw [List.flatMap_append]
theorem joinS_snoc {z : List UInt8} {ts : List Tok} {k : Nat} {t : Tok} (h : ts[k]? = some t) : joinS z (ts.take (k + 1)) = joinS z (ts.take k) ++ t.text ++ z := by
  have hk := (List.getElem?_eq_some_iff.1 h).1
  have e : ts[k] = t := by rw [List.getElem?_eq_getElem hk] at h; injection h
  rw [List.take_succ_eq_append_getElem hk, joinS_app, e, joinS_cons]
  simp [joinS]
theorem joinS_le (z : List UInt8) (ts : List Tok) (k : Nat) : (joinS z (ts.take k)).length ≤ (joinS z ts).length := by
  conv => rhs; rw [← List.take_append_drop k ts, joinS_app, List.length_append]
  omega
theorem joinS_joinT (z : List UInt8) : ∀ ts : List Tok, (joinS z ts).length + ts.length = (joinT ts).length + ts.length * z.length
  | [] => by simp [joinS, joinT]
  | t :: ts => by
    have := joinS_joinT z ts
    rw [joinS_cons, joinT_cons]
    simp only [List.length_append, List.length_cons, Nat.add_mul]
    omega
/-- The tokens, where they stand with a separator behind each. -/
def reS (d : Nat) : Nat → List Tok → List Tok
  | _, [] => []
  | q, t :: ts => ⟨t.kind, t.text, q⟩ :: reS d (q + t.text.length + d) ts
theorem reS_length (d : Nat) : ∀ (ts : List Tok) (q : Nat), (reS d q ts).length = ts.length
  | [], _ => rfl
  | t :: ts, q => by simp [reS, reS_length d ts]
theorem reS_get (z : List UInt8) : ∀ (ts : List Tok) (q i : Nat) (t : Tok), ts[i]? = some t → (reS z.length q ts)[i]? = some ⟨t.kind, t.text, q + (joinS z (ts.take i)).length⟩
  | [], _, i, t, h => by simp at h
  | s :: ts, q, 0, t, h => by
    have : s = t := by simpa using h
    subst this
    simp [reS, joinS]
  | s :: ts, q, i + 1, t, h => by
    have := reS_get z ts (q + s.text.length + z.length) i t (by simpa using h)
    rw [reS, List.getElem?_cons_succ, this, List.take_succ_cons, joinS_cons]
    congr 2
    simp only [List.length_append]
    omega
theorem lexS_joinS {z : List UInt8} (hz : Sep z) : ∀ (ts : List Tok) (q : Nat), (∀ t ∈ ts, AloneS t) → lexS q (joinS z ts ++ z) = .ok (reS z.length q ts)
  | [], q, _ => by
    show lexS q z = _
    have := hz.none q []
    rw [List.append_nil] at this
    rw [this, lexS_nil]; rfl
  | t :: ts, q, h => by
    rw [joinS_cons, List.append_assoc, List.append_assoc, h t (by simp) q _ (hz.parted _), hz.none, lexS_joinS hz ts _ (fun s hs => h s (by simp [hs]))]
    rfl
theorem joinS_fin (z : List UInt8) (ts : List Tok) (n : Nat) : joinS z (fin ts n) = joinS z ts ++ z := by unfold fin; rw [joinS_app]; simp [joinS]
/-- Where a token stood, and where it stands. -/
def Moved (z : List UInt8) (ts : List Tok) (N L p q : Nat) : Prop := (∃ i t, ts[i]? = some t ∧ t.at_ = p ∧ q = (joinS z (ts.take i)).length) ∨ (p = N ∧ q = L)
theorem al_re {z : List UInt8} {N L : Nat} : ∀ (a ts : List Tok) (q : Nat), (∀ t ∈ ts, t.kind ≠ 4) → q = (joinS z a).length → Al (Moved z (a ++ ts) N L) (fin ts N) (fin (reS z.length q ts) L)
  | a, [], q, _, _ => .fin _ _ (.inr ⟨rfl, rfl⟩)
  | a, t :: ts, q, h, hq => by
    refine .cons _ _ _ _ _ _ (h t (by simp)) (.inl ⟨a.length, t, by simp, rfl, by simp [hq]⟩) ?_
    have := al_re (z := z) (N := N) (L := L) (a ++ [t]) ts (q + t.text.length + z.length) (fun x hx => h x (by simp [hx])) (by
      rw [joinS_app, joinS_cons, show joinS z [] = [] from rfl, List.length_append, List.length_append, List.length_append, List.length_nil]
      omega)
    rw [List.append_assoc] at this
    exact this
/-- What is told of tokens with a separator behind each. -/
theorem tl_blanks {b z : List UInt8} {ts : List Tok} (hz : Sep z) (h : lexS 0 b = .ok ts) (n : Nat) : Sx (Moved z ts b.length (joinS z (fin ts n)).length) (tl b) (tl (joinS z (fin ts n))) := by
  have hk : ∀ t ∈ ts, t.kind ≠ 4 := fun t ht => Nat.ne_of_lt ((lex_few _ 0 b ts (Nat.le_refl _) h).2 t ht)
  have h2 : lexS 0 (joinS z (fin ts n)) = .ok (reS z.length 0 ts) := by rw [joinS_fin]; exact lexS_joinS hz ts 0 (aloneS_all b.length 0 b ts (Nat.le_refl _) h)
  unfold tl
  rw [h, h2]
  exact prog_al _ _ (al_re (z := z) [] ts 0 hk (by simp [joinS]))
end Go.Proofs.Ytmpdnikabkandaa
