/-
  ParseNests, plain: what Parse tells of brackets round a number, and of marks ahead of it.
-/
import Derived.Test.YtmpdnikabkandaaPq5
import Derived.Test.YtmpdnikabkandaaPdFm
namespace Go.Proofs.Ytmpdnikabkandaa
open Go Go.RowKit

/-- One byte's tokens, one behind the other. -/
def rowT (c : UInt8) : Nat → Nat → List Tok
  | _, 0 => []
  | p, k + 1 => ⟨3, [c], p⟩ :: rowT c (p + 1) k
theorem rowT_snoc (c : UInt8) : ∀ k p, rowT c p (k + 1) = rowT c p k ++ [⟨3, [c], p + k⟩]
  | 0, p => rfl
  | k + 1, p => by
    show ⟨3, [c], p⟩ :: rowT c (p + 1) (k + 1) = ⟨3, [c], p⟩ :: (rowT c (p + 1) k ++ [⟨3, [c], p + (k + 1)⟩])
    rw [rowT_snoc c k (p + 1), show p + 1 + k = p + (k + 1) by omega]
theorem lex_rowT {c : UInt8} (hc : ∀ p r, lexS p (c :: r) = (lexS (p + 1) r).cons ⟨3, [c], p⟩) : ∀ k p z, lexS p (List.replicate k c ++ z) = (lexS (p + k) z).app (rowT c p k)
  | 0, p, z => by rw [Nat.add_zero]; show lexS p z = _; cases lexS p z <;> rfl
  | k + 1, p, z => by
    rw [List.replicate_succ, List.cons_append, hc, lex_rowT hc k (p + 1) z, show p + 1 + k = p + (k + 1) by omega]
    cases lexS (p + (k + 1)) z <;> rfl
theorem lex_mark {c : UInt8} (h1 : blkB (bv c) = false) (h2 : c ≠ 35) (h3 : letB (bv c) = false) (h4 : digB (bv c) = false) (h5 : c ≠ 61) (h6 : mrkB c = true) (p : Nat) (r : List UInt8) : lexS p (c :: r) = (lexS (p + 1) r).cons ⟨3, [c], p⟩ := by
  have hk : firstK (c :: r) = 3 := by rw [firstK_cons, h3, h4, h6]; rfl
  have hn : firstN (c :: r) = 1 := by
    rw [firstN_cons, h3, h4, h6]
    simp [h5]
  rw [lexS_tok h1 h2 (by rw [hk]; omega) (by rw [hk]; omega), hk, hn]
  rfl
theorem lex_40 (p : Nat) (r : List UInt8) : lexS p (40 :: r) = (lexS (p + 1) r).cons ⟨3, [40], p⟩ := lex_mark (by decide) (by decide) (by decide) (by decide) (by decide) (by decide) p r
theorem lex_41 (p : Nat) (r : List UInt8) : lexS p (41 :: r) = (lexS (p + 1) r).cons ⟨3, [41], p⟩ := lex_mark (by decide) (by decide) (by decide) (by decide) (by decide) (by decide) p r
theorem lex_45 (p : Nat) (r : List UInt8) : lexS p (45 :: r) = (lexS (p + 1) r).cons ⟨3, [45], p⟩ := lex_mark (by decide) (by decide) (by decide) (by decide) (by decide) (by decide) p r
theorem lex_59 (p : Nat) (r : List UInt8) : lexS p (59 :: r) = (lexS (p + 1) r).cons ⟨3, [59], p⟩ := lex_mark (by decide) (by decide) (by decide) (by decide) (by decide) (by decide) p r
theorem lex_print (p : Nat) (z : List UInt8) : lexS p ([112, 114, 105, 110, 116] ++ 32 :: z) = (lexS (p + 6) z).cons ⟨1, [112, 114, 105, 110, 116], p⟩ := by
  have h : lexS 0 [112, 114, 105, 110, 116] = .ok [⟨1, [112, 114, 105, 110, 116], 0⟩] := by rw [lexS_eq 5 0 _ (by decide)]; decide
  have := aloneS_all 5 0 _ _ (by decide) h ⟨1, [112, 114, 105, 110, 116], 0⟩ (by simp) p (32 :: z) (parted_32 z)
  rw [this, lexS_blank (by decide)]
  rfl
theorem lex_one (p : Nat) (z : List UInt8) (hz : Parted z) : lexS p ([49] ++ z) = (lexS (p + 1) z).cons ⟨2, [49], p⟩ := by
  have h : lexS 0 [49] = .ok [⟨2, [49], 0⟩] := by rw [lexS_eq 1 0 _ (by decide)]; decide
  exact aloneS_all 1 0 _ _ (by decide) h ⟨2, [49], 0⟩ (by simp) p z hz

theorem ok_bind {α β : Type} (v : α) (r : List Tok) (f : α → List Tok → PR β) : (PR.ok v r).bind f = f v r := rfl
theorem isT_cons (k p : Nat) (t s : List UInt8) (r : List Tok) : isT (⟨k, t, p⟩ :: r) s = decide (t = s) := rfl
def oneE : Ex := ⟨1, 1, nilS, .nil⟩
theorem single_one (ex : Nat → Nat → List Tok → PR Ex) (m o p : Nat) (X : List Tok) : singleT ex (m + 1) o (⟨2, [49], p⟩ :: X) = .ok oneE X := by
  have e : numT 0 9223372036854775807 (⟨2, [49], p⟩ :: X) = .ok 1 X := by
    unfold numT
    rw [if_pos (show (hdT (⟨2, [49], p⟩ :: X)).kind = 2 from rfl), show parseL (hdT (⟨2, [49], p⟩ :: X)).text = some 1 from (by decide : parseL [49] = some 1)]
    rfl
  unfold singleT
  rw [isT_cons, isT_cons, isT_cons, isT_cons, if_neg (by decide), if_neg (by decide), if_neg (by decide), if_neg (by decide), if_pos (show (hdT (⟨2, [49], p⟩ :: X)).kind = 2 from rfl), e]
  rfl
theorem loop_no (ex : Nat → Nat → List Tok → PR Ex) (m : Nat) (e : Ex) (o : Nat) (X : List Tok) (hX : (opT (hdT X).text).2 = 0) : loopT ex (m + 1) 1 e o X = .ok e X := by
  unfold loopT
  rw [if_pos (by rw [hX]; decide)]
theorem nest_ok : ∀ k f o p q X, o + k ≤ 256 → k < f → (opT (hdT X).text).2 = 0 → exT f 1 o (rowT 40 p k ++ ⟨2, [49], p + k⟩ :: (rowT 41 q k ++ X)) = .ok oneE X
  | _, 0, _, _, _, _, _, hf, _ => absurd hf (by omega)
  | 0, f + 1, o, p, q, X, _, _, hX => by
    show (singleT (exT f) (f + 1) o (⟨2, [49], p + 0⟩ :: X)).bind _ = _
    rw [single_one]
    exact loop_no _ _ _ _ _ hX
  | k + 1, f + 1, o, p, q, X, ho, hf, hX => by
    have ih := nest_ok k f (o + 1) (p + 1) q (⟨3, [41], q + k⟩ :: X) (by omega) (by omega) (by show (opT [41]).2 = 0; decide)
    have e : rowT 40 p (k + 1) ++ ⟨2, [49], p + (k + 1)⟩ :: (rowT 41 q (k + 1) ++ X) = ⟨3, [40], p⟩ :: (rowT 40 (p + 1) k ++ ⟨2, [49], p + 1 + k⟩ :: (rowT 41 q k ++ ⟨3, [41], q + k⟩ :: X)) := by
      rw [rowT_snoc 41, List.append_assoc, show p + (k + 1) = p + 1 + k by omega]
      rfl
    rw [e]
    show (singleT (exT f) (f + 1) o (⟨3, [40], p⟩ :: _)).bind _ = _
    unfold singleT
    rw [isT_cons, isT_cons, isT_cons, if_neg (by decide), if_neg (by decide), if_pos (by decide)]
    unfold withinT enterT
    rw [isT_cons, if_pos (by decide), if_neg (show ¬ o = 256 by omega)]
    show (((exT f 1 (o + 1) _).bind _).bind _) = _
    rw [List.tail_cons, ih, ok_bind]
    unfold wantT
    rw [isT_cons, if_pos (by decide)]
    exact loop_no _ _ _ _ _ hX
theorem nest_bad : ∀ j f o p X, o + j = 256 → j < f → exT f 1 o (rowT 40 p (j + 1) ++ X) = .bad (p + j) 3
  | _, 0, _, _, _, _, hf => absurd hf (by omega)
  | 0, f + 1, o, p, X, ho, _ => by
    show (singleT (exT f) (f + 1) o (⟨3, [40], p⟩ :: _)).bind _ = _
    unfold singleT
    rw [isT_cons, isT_cons, isT_cons, if_neg (by decide), if_neg (by decide), if_pos (by decide)]
    unfold withinT enterT
    rw [isT_cons, if_pos (by decide), if_pos (show o = 256 by omega)]
    rfl
  | j + 1, f + 1, o, p, X, ho, hf => by
    have ih := nest_bad j f (o + 1) (p + 1) X (by omega) (by omega)
    show (singleT (exT f) (f + 1) o (⟨3, [40], p⟩ :: _)).bind _ = _
    unfold singleT
    rw [isT_cons, isT_cons, isT_cons, if_neg (by decide), if_neg (by decide), if_pos (by decide)]
    unfold withinT enterT
    rw [isT_cons, if_pos (by decide), if_neg (show ¬ o = 256 by omega)]
    show (((exT f 1 (o + 1) (rowT 40 (p + 1) (j + 1) ++ X)).bind _).bind _) = _
    rw [ih, show p + (j + 1) = p + 1 + j by omega]
    rfl
def negE : Nat → Ex
  | 0 => oneE
  | k + 1 => ⟨6, 0, nilS, toES (negE k) .nil⟩
theorem neg_ok (ex : Nat → Nat → List Tok → PR Ex) : ∀ k m o p X, o + k ≤ 256 → k < m → singleT ex m o (rowT 45 p k ++ ⟨2, [49], p + k⟩ :: X) = .ok (negE k) X
  | _, 0, _, _, _, _, hm => absurd hm (by omega)
  | 0, m + 1, o, p, X, _, _ => single_one ex m o _ X
  | k + 1, m + 1, o, p, X, ho, hm => by
    have ih := neg_ok ex k m (o + 1) (p + 1) X (by omega) (by omega)
    rw [show p + (k + 1) = p + 1 + k by omega]
    show singleT ex (m + 1) o (⟨3, [45], p⟩ :: (rowT 45 (p + 1) k ++ _)) = _
    rw [singleT, isT_cons, if_pos (by decide)]
    unfold enterT
    rw [isT_cons, if_pos (by decide), if_neg (show ¬ o = 256 by omega)]
    show (singleT ex m (o + 1) _).bind _ = _
    rw [List.tail_cons, ih]
    rfl
theorem neg_bad (ex : Nat → Nat → List Tok → PR Ex) : ∀ j m o p X, o + j = 256 → j < m → singleT ex m o (rowT 45 p (j + 1) ++ X) = .bad (p + j) 3
  | _, 0, _, _, _, _, hm => absurd hm (by omega)
  | 0, m + 1, o, p, X, ho, _ => by
    show singleT ex (m + 1) o (⟨3, [45], p⟩ :: _) = _
    rw [singleT, isT_cons, if_pos (by decide)]
    unfold enterT
    rw [isT_cons, if_pos (by decide), if_pos (show o = 256 by omega)]
    rfl
  | j + 1, m + 1, o, p, X, ho, hm => by
    have ih := neg_bad ex j m (o + 1) (p + 1) X (by omega) (by omega)
    show singleT ex (m + 1) o (⟨3, [45], p⟩ :: _) = _
    rw [singleT, isT_cons, if_pos (by decide)]
    unfold enterT
    rw [isT_cons, if_pos (by decide), if_neg (show ¬ o = 256 by omega)]
    show (singleT ex m (o + 1) (rowT 45 (p + 1) (j + 1) ++ X)).bind _ = _
    rw [ih, show p + (j + 1) = p + 1 + j by omega]
    rfl
theorem neg_deep : ∀ k, k ≤ 1000 → (toES (negE k) .nil).deep = k + 1
  | 0, _ => by
    show max (wrap64 (1 + 0)) 0 = ((0 : Nat) : Int) + 1
    rw [wrap_def]
    rfl
  | k + 1, h => by
    have ih := neg_deep k (by omega)
    show max (wrap64 (1 + (toES (negE k) .nil).deep)) 0 = _
    rw [ih, wrap_def]
    omega
/-- A program that is one Print. -/
theorem prog_print (n : Nat) (Y : List Tok) : progT (n + 2) (⟨1, [112, 114, 105, 110, 116], 0⟩ :: Y) =
    ((semiT (tellT (n + 2) 5 0 Y)).bind fun t r => if 64 < (toSS t .nil).deep then .bad 0 3 else .ok t r).bind fun t r => (mainT (n + 2) (n + 1) [t] r).bind fun m r => .ok ⟨[], smSS m⟩ r := by
  have e1 : funcsT (n + 2) (n + 2) [] (⟨1, [112, 114, 105, 110, 116], 0⟩ :: Y) = .ok [] (⟨1, [112, 114, 105, 110, 116], 0⟩ :: Y) := by rw [funcsT, isT_cons, if_neg (by decide)]
  have e2 : smT (n + 2) 0 (⟨1, [112, 114, 105, 110, 116], 0⟩ :: Y) = semiT (tellT (n + 2) 5 0 Y) := by
    rw [smT, isT_cons, isT_cons, isT_cons, if_neg (by decide), if_neg (by decide), if_pos (by decide)]
    rfl
  have e3 : mainT (n + 2) (n + 2) [] (⟨1, [112, 114, 105, 110, 116], 0⟩ :: Y) = ((semiT (tellT (n + 2) 5 0 Y)).bind fun t r => if 64 < (toSS t .nil).deep then .bad 0 3 else .ok t r).bind fun t r => mainT (n + 2) (n + 1) [t] r := by
    rw [mainT, if_neg (show ¬ (hdT (⟨1, [112, 114, 105, 110, 116], 0⟩ :: Y)).kind = 4 from (by decide : ¬ (1 : Nat) = 4))]
    unfold outerT
    rw [e2]
    rfl
  unfold progT
  rw [e1]
  show (mainT (n + 2) (n + 2) [] _).bind _ = _
  rw [e3]
  cases (semiT (tellT (n + 2) 5 0 Y)).bind fun t r => if 64 < (toSS t .nil).deep then .bad 0 3 else .ok t r <;> rfl
theorem print_ok (n : Nat) (Y : List Tok) (e : Ex) (p q : Nat) (h : exT (n + 2) 1 0 Y = .ok e [⟨3, [59], p⟩, ⟨4, [], q⟩]) (hd : (toES e .nil).deep ≤ 63) (h0 : 0 ≤ (toES e .nil).deep) :
    progT (n + 2) (⟨1, [112, 114, 105, 110, 116], 0⟩ :: Y) = .ok ⟨[], .cons 5 nilS 0 (toES e .nil) .nil .nil .nil⟩ [⟨4, [], q⟩] := by
  rw [prog_print]
  unfold tellT
  rw [h]
  show (((PR.ok (⟨5, nilS, 0, toES e .nil, .nil, .nil⟩ : Sm) [⟨4, [], q⟩]).bind _).bind _) = _
  show ((if 64 < (SS.cons 5 nilS 0 (toES e .nil) .nil .nil .nil).deep then _ else _ : PR Sm).bind _) = _
  rw [if_neg]
  · rfl
  · simp only [SS.deep]
    rw [wrap_def]
    omega
theorem print_deep (n : Nat) (Y : List Tok) (e : Ex) (p q : Nat) (h : exT (n + 2) 1 0 Y = .ok e [⟨3, [59], p⟩, ⟨4, [], q⟩]) (hd : 63 < (toES e .nil).deep) (h0 : (toES e .nil).deep ≤ 1000) :
    progT (n + 2) (⟨1, [112, 114, 105, 110, 116], 0⟩ :: Y) = .bad 0 3 := by
  rw [prog_print]
  unfold tellT
  rw [h]
  show (((PR.ok (⟨5, nilS, 0, toES e .nil, .nil, .nil⟩ : Sm) [⟨4, [], q⟩]).bind _).bind _) = _
  show ((if 64 < (SS.cons 5 nilS 0 (toES e .nil) .nil .nil .nil).deep then _ else _ : PR Sm).bind _) = _
  rw [if_pos]
  · rfl
  · simp only [SS.deep]
    rw [wrap_def]
    omega
theorem print_bad (n : Nat) (Y : List Tok) (p c : Nat) (h : exT (n + 2) 1 0 Y = .bad p c) : progT (n + 2) (⟨1, [112, 114, 105, 110, 116], 0⟩ :: Y) = .bad p c := by
  rw [prog_print]
  unfold tellT
  rw [h]
  rfl

def tOpen (n : Nat) : List UInt8 := [112, 114, 105, 110, 116, 32] ++ List.replicate n 40 ++ [49] ++ List.replicate n 41 ++ [59]
def tMark (n : Nat) : List UInt8 := [112, 114, 105, 110, 116, 32] ++ List.replicate n 45 ++ [49, 59]
theorem parted_41 (n : Nat) (z : List UInt8) : Parted (List.replicate n 41 ++ 59 :: z) := by
  cases n with
  | zero => exact ⟨59, z, rfl, by decide, by decide⟩
  | succ n => exact ⟨41, _, rfl, by decide, by decide⟩
theorem open_toks (n : Nat) : lexS 0 (tOpen n) = .ok (⟨1, [112, 114, 105, 110, 116], 0⟩ :: (rowT 40 6 n ++ ⟨2, [49], 6 + n⟩ :: (rowT 41 (6 + n + 1) n ++ [⟨3, [59], 6 + n + 1 + n⟩]))) := by
  have e : tOpen n = [112, 114, 105, 110, 116] ++ 32 :: (List.replicate n 40 ++ ([49] ++ (List.replicate n 41 ++ 59 :: []))) := by unfold tOpen; simp
  rw [e, lex_print, lex_rowT lex_40, lex_one _ _ (parted_41 n []), lex_rowT lex_41, lex_59, lexS_nil]
  simp [Res.cons, Res.app]
theorem mark_toks (n : Nat) : lexS 0 (tMark n) = .ok (⟨1, [112, 114, 105, 110, 116], 0⟩ :: (rowT 45 6 n ++ ⟨2, [49], 6 + n⟩ :: [⟨3, [59], 6 + n + 1⟩])) := by
  have e : tMark n = [112, 114, 105, 110, 116] ++ 32 :: (List.replicate n 45 ++ ([49] ++ 59 :: [])) := by unfold tMark; simp
  rw [e, lex_print, lex_rowT lex_45, lex_one _ _ ⟨59, [], rfl, by decide, by decide⟩, lex_59, lexS_nil]
  simp [Res.cons, Res.app]
theorem rowT_length (c : UInt8) : ∀ k p, (rowT c p k).length = k
  | 0, _ => rfl
  | k + 1, p => by rw [rowT, List.length_cons, rowT_length c k]
theorem open_is {n : Nat} (_h : n ≤ 300) : (n ≤ 256 ∧ ∃ q r, tl (tOpen n) = .ok q r ∧ cntL q.pts = 2) ∨ (256 < n ∧ tl (tOpen n) = .bad 262 3) := by
  have hl := open_toks n
  obtain ⟨L, hL⟩ : ∃ L, (tOpen n).length = L := ⟨_, rfl⟩
  obtain ⟨f, hf, hn⟩ : ∃ f, (⟨1, [112, 114, 105, 110, 116], 0⟩ :: (rowT 40 6 n ++ ⟨2, [49], 6 + n⟩ :: (rowT 41 (6 + n + 1) n ++ [⟨3, [59], 6 + n + 1 + n⟩])) : List Tok).length = f ∧ n < f := ⟨_, rfl, by simp [rowT_length]; omega⟩
  have ht : tl (tOpen n) = progT (f + 2) (⟨1, [112, 114, 105, 110, 116], 0⟩ :: (rowT 40 6 n ++ ⟨2, [49], 6 + n⟩ :: (rowT 41 (6 + n + 1) n ++ [⟨3, [59], 6 + n + 1 + n⟩, ⟨4, [], L⟩]))) := by
    unfold tl
    rw [hl]
    show progT (_ + 2) (fin _ _) = _
    rw [hf, hL]
    unfold fin
    simp
  rw [ht]
  have hd1 : (toES oneE .nil).deep = 1 := neg_deep 0 (by omega)
  by_cases h : n ≤ 256
  · refine .inl ⟨h, _, _, print_ok f _ oneE _ _ (nest_ok n (f + 2) 0 6 _ _ (by omega) (by omega) (by show (opT [59]).2 = 0; decide)) (by rw [hd1]; decide) (by rw [hd1]; decide), by decide⟩
  · refine .inr ⟨by omega, print_bad f _ 262 3 ?_⟩
    have hb := nest_bad 256 (f + 2) 0 6 (rowT 40 (6 + 257) (n - 257) ++ ⟨2, [49], 6 + n⟩ :: (rowT 41 (6 + n + 1) n ++ [⟨3, [59], 6 + n + 1 + n⟩, ⟨4, [], L⟩])) rfl (by omega)
    have hs : ∀ a b p, rowT 40 p (a + b) = rowT 40 p a ++ rowT 40 (p + a) b := by
      intro a
      induction a with
      | zero => intro b p; rw [Nat.zero_add]; rfl
      | succ a ih => intro b p; rw [show a + 1 + b = (a + b) + 1 by omega, rowT, ih, rowT, show p + 1 + a = p + (a + 1) by omega]; rfl
    rw [show rowT 40 6 n = rowT 40 6 (256 + 1) ++ rowT 40 (6 + 257) (n - 257) by rw [← hs, show 256 + 1 + (n - 257) = n by omega], List.append_assoc]
    exact hb
theorem mark_is {n : Nat} (h300 : n ≤ 300) : (n ≤ 62 ∧ ∃ q r, tl (tMark n) = .ok q r) ∨ (62 < n ∧ n ≤ 256 ∧ tl (tMark n) = .bad 0 3) ∨ (256 < n ∧ tl (tMark n) = .bad 262 3) := by
  have hl := mark_toks n
  obtain ⟨L, hL⟩ : ∃ L, (tMark n).length = L := ⟨_, rfl⟩
  obtain ⟨f, hf, hn⟩ : ∃ f, (⟨1, [112, 114, 105, 110, 116], 0⟩ :: (rowT 45 6 n ++ ⟨2, [49], 6 + n⟩ :: [⟨3, [59], 6 + n + 1⟩]) : List Tok).length = f ∧ n < f := ⟨_, rfl, by simp [rowT_length]; omega⟩
  have ht : tl (tMark n) = progT (f + 2) (⟨1, [112, 114, 105, 110, 116], 0⟩ :: (rowT 45 6 n ++ ⟨2, [49], 6 + n⟩ :: [⟨3, [59], 6 + n + 1⟩, ⟨4, [], L⟩])) := by
    unfold tl
    rw [hl]
    show progT (_ + 2) (fin _ _) = _
    rw [hf, hL]
    unfold fin
    simp
  rw [ht]
  have he : n ≤ 256 → exT (f + 2) 1 0 (rowT 45 6 n ++ ⟨2, [49], 6 + n⟩ :: [⟨3, [59], 6 + n + 1⟩, ⟨4, [], L⟩]) = .ok (negE n) [⟨3, [59], 6 + n + 1⟩, ⟨4, [], L⟩] := fun h => by
    show (singleT (exT (f + 1)) (f + 2) 0 _).bind _ = _
    rw [neg_ok _ n (f + 2) 0 6 _ (by omega) (by omega)]
    exact loop_no _ _ _ _ _ (by show (opT [59]).2 = 0; decide)
  have hd := neg_deep n (by omega)
  by_cases h : n ≤ 62
  · exact .inl ⟨h, _, _, print_ok f _ (negE n) _ _ (he (by omega)) (by omega) (by omega)⟩
  · by_cases h2 : n ≤ 256
    · exact .inr (.inl ⟨by omega, h2, print_deep f _ (negE n) _ _ (he h2) (by omega) (by omega)⟩)
    · refine .inr (.inr ⟨by omega, print_bad f _ 262 3 ?_⟩)
      have hb := neg_bad (exT (f + 1)) 256 (f + 2) 0 6 (rowT 45 (6 + 257) (n - 257) ++ ⟨2, [49], 6 + n⟩ :: [⟨3, [59], 6 + n + 1⟩, ⟨4, [], L⟩]) rfl (by omega)
      have hs : ∀ a b p, rowT 45 p (a + b) = rowT 45 p a ++ rowT 45 (p + a) b := by
        intro a
        induction a with
        | zero => intro b p; rw [Nat.zero_add]; rfl
        | succ a ih => intro b p; rw [show a + 1 + b = (a + b) + 1 by omega, rowT, ih, rowT, show p + 1 + a = p + (a + 1) by omega]; rfl
      rw [show rowT 45 6 n = rowT 45 6 (256 + 1) ++ rowT 45 (6 + 257) (n - 257) by rw [← hs, show 256 + 1 + (n - 257) = n by omega], List.append_assoc]
      show (singleT (exT (f + 1)) (f + 2) 0 _).bind _ = _
      rw [hb]
      rfl
/-- The same byte, so many times. -/
def rp (c : UInt8) (k : Nat) : ByteArray := baT (List.replicate k c)
theorem rp_size (c : UInt8) (k : Nat) : (rp c k).size = k := by unfold rp; rw [baT_size]; simp
theorem rp_succ (c : UInt8) (k : Nat) : rp c k ++ ⟨#[c]⟩ = rp c (k + 1) := by
  unfold rp
  rw [List.replicate_succ']
  exact ByteArray.ext (by rw [ByteArray.data_append]; exact Array.ext' (by simp [baT]))
end Go.Proofs.Ytmpdnikabkandaa
