/-
  Texts LexR LexM: put together.
-/
import Derived.Test.YtaajolemjgdfnaaDoorLexL
import Derived.Laws.OwnMore
import Derived.Laws.Rows
/-
  Lex's contract in its callers' words: the tokens as a row of cells; a frame that is said from the statement's own entry world; how lexS is reckoned at known bytes.
-/
namespace Go.Proofs.YtaajolemjgdfnaaDoor
open Go Go.RowKit Go.Lib

/- lexS with a count of steps, for known bytes. -/
def lexF : Nat → Nat → List UInt8 → Res
  | 0, _, _ => .ok []
  | _ + 1, _, [] => .ok []
  | f + 1, p, c :: r =>
    if blkB (bv c) then lexF f (p + 1) r
    else if c = 35 then lexF f (p + commL (c :: r)) ((c :: r).drop (commL (c :: r)))
    else if firstK (c :: r) = 0 ∨ (firstK (c :: r) = 1 ∧ 32 < firstN (c :: r)) then .bad p
    else if firstK (c :: r) = 2 ∧ glued (c :: r) (firstN (c :: r)) = true then .bad (p + firstN (c :: r))
    else (lexF f (p + firstN (c :: r)) ((c :: r).drop (firstN (c :: r)))).cons ⟨firstK (c :: r), (c :: r).take (firstN (c :: r)), p⟩
theorem lexS_eq : ∀ (f p : Nat) (l : List UInt8), l.length ≤ f → lexS p l = lexF f p l
  | 0, p, l, h => by
    obtain rfl : l = [] := List.eq_nil_of_length_eq_zero (by omega)
    rw [lexS_nil]; rfl
  | f + 1, p, [], _ => by rw [lexS_nil]; rfl
  | f + 1, p, c :: r, h => by
    simp only [List.length_cons] at h
    rw [lexS, lexF]
    by_cases h1 : blkB (bv c) = true
    · rw [if_pos h1, if_pos h1, lexS_eq f _ _ (by omega)]
    · rw [if_neg h1, if_neg h1]
      by_cases h2 : c = 35
      · have : commL (c :: r) = commL r + 1 := by rw [commL_cons, if_neg (by rw [h2]; decide)]
        rw [if_pos h2, if_pos h2, lexS_eq f _ _ (by simp only [List.length_drop, List.length_cons]; omega)]
      · rw [if_neg h2, if_neg h2]
        by_cases h3 : firstK (c :: r) = 0 ∨ (firstK (c :: r) = 1 ∧ 32 < firstN (c :: r))
        · rw [if_pos h3, if_pos h3]
        · rw [if_neg h3, if_neg h3]
          have := firstN_pos (c := c) (l := r) (fun e => h3 (.inl e))
          split
          · rfl
          · rw [lexS_eq f _ _ (by simp only [List.length_drop, List.length_cons]; omega)]

/-- Nothing of w0 has turned. -/
def Fr (w0 w : World) : Prop := Below w0.heap.size w0 w
theorem Fr.refl (w : World) : Fr w w := Below.refl _ _
theorem Fr.below {w0 w w' : World} (h : Fr w0 w) (hb : Below w.heap.size w w') : Fr w0 w' := Below.trans h (hb.mono h.size)
theorem Fr.alloc {w0 w : World} (h : Fr w0 w) (o : Obj) : Fr w0 (w.alloc o) := Below.alloc h h.size o
theorem Fr.size {w0 w : World} (h : Fr w0 w) : w0.heap.size ≤ w.heap.size := Below.size h

/-- Tokens in a block of memory. -/
def TokRow (w : World) (g : Nat) (ts : List Tok) : Prop :=
  g < w.heap.size ∧ ∀ i t, ts[i]? = some t → w.cell? ⟨g, i * 3, none⟩ = some (.int .i64 t.kind) ∧ w.cell? ⟨g, i * 3 + 1, none⟩ = some (.string ⟨t.text.toArray⟩) ∧ w.cell? ⟨g, i * 3 + 2, none⟩ = some (.int .i64 t.at_)
theorem TokRow.below {w w' : World} {g B : Nat} {ts : List Tok} (h : TokRow w g ts) (hb : Below B w w') (hg : g < B) : TokRow w' g ts := by
  refine ⟨Nat.lt_of_lt_of_le h.1 hb.size, fun i t ht => ?_⟩
  obtain ⟨a, b, c⟩ := h.2 i t ht
  exact ⟨(hb.cell hg).trans a, (hb.cell hg).trans b, (hb.cell hg).trans c⟩
theorem TokRow.alloc {w : World} {g : Nat} {ts : List Tok} (h : TokRow w g ts) (o : Obj) : TokRow (w.alloc o) g ts :=
  h.below (B := w.heap.size) ((Below.refl _ w).alloc (Nat.le_refl _) o) h.1
theorem TokRow.past {w w' : World} {g : Nat} {ts : List Tok} (h : TokRow w g ts) (hb : Below w.heap.size w w') : TokRow w' g ts := h.below hb h.1

theorem toks_at : ∀ (ts : List Tok) (i : Nat) (t : Tok), ts[i]? = some t → (toks ts)[i * 3]? = some (.int .i64 t.kind) ∧ (toks ts)[i * 3 + 1]? = some (.string ⟨t.text.toArray⟩) ∧ (toks ts)[i * 3 + 2]? = some (.int .i64 t.at_)
  | [], i, t, h => by simp at h
  | s :: ts, 0, t, h => by
    have : s = t := by simpa using h
    subst this
    exact ⟨rfl, rfl, rfl⟩
  | s :: ts, i + 1, t, h => by
    have ih := toks_at ts i t (by simpa using h)
    have e : toks (s :: ts) = .int .i64 s.kind :: .string ⟨s.text.toArray⟩ :: .int .i64 s.at_ :: toks ts := by simp [toks]
    rw [e]
    rw [show (i + 1) * 3 = i * 3 + 3 by omega]
    exact ih
theorem row_of_own {w : World} {B n : Nat} {v : Value} {ts : List Tok} (h : w.ownsRow B 101 3 v n (toks ts)) (hn : 0 < n) : ∃ g cap, v = .slice (some ⟨g, 0, none⟩) n cap ∧ B ≤ g ∧ n ≤ cap ∧ TokRow w g ts := by
  rcases h.2 with ⟨rfl, rfl⟩ | ⟨g, cap, cur, rfl, hg, hh, hnc, hrest⟩
  · omega
  · have hlt := h.lt g rfl
    refine ⟨g, cap, rfl, hg, hnc, hlt.2, fun i t ht => ?_⟩
    have hc := h.cells (g := g) rfl
    have e : ∀ j, (⟨g, 0, none⟩ : Addr).add j = ⟨g, j, none⟩ := fun j => by unfold Addr.add; split <;> simp_all
    obtain ⟨a1, a2, a3⟩ := toks_at ts i t ht
    exact ⟨by rw [← e]; exact hc _ _ a1, by rw [← e]; exact hc _ _ a2, by rw [← e]; exact hc _ _ a3⟩

/-- The end behind the tokens. -/
def fin (ts : List Tok) (n : Nat) : List Tok := ts ++ [⟨4, [], n⟩]
theorem fin_length (ts : List Tok) (n : Nat) : (fin ts n).length = ts.length + 1 := by simp [fin]

theorem lex_ok (A : Option Addr) (n cap m : Nat) (l : List UInt8) (ts : List Tok) (w : World) (hn : l.length = n) (hl : n ≤ 65536) (hcap : n ≤ cap) (hr : Row w A l) (hok : lexS 0 l = .ok ts) (hm : ts.length + 1 = m) :
    Calls Tryd.prog 39 #[.slice A n cap] w fun e w' => ∃ g cap', e = .returned (.tuple #[.slice (some ⟨g, 0, none⟩) m cap', .int .i64 0, .int .i64 0]) ∧ w.heap.size ≤ g ∧ m ≤ cap' ∧ TokRow w' g (fin ts n) ∧ Below w.heap.size w w' :=
  (lex_any A n cap l w hn (by omega) hcap hr).mono fun e w' ⟨hb, h⟩ => by
    subst hm
    rcases h with ⟨p, h1, _⟩ | ⟨ts', v, h1, h2, h3⟩
    · rw [hok] at h1; cases h1
    · rw [hok] at h1
      injection h1 with h1
      subst h1
      obtain ⟨g, cap', rfl, h4, h5, h6⟩ := row_of_own h3 (by omega)
      subst hn
      exact ⟨g, cap', h2, h4, h5, h6, hb⟩
theorem lex_no (A : Option Addr) (n cap : Nat) (l : List UInt8) (p : Nat) (w : World) (hn : l.length = n) (hl : n ≤ 65536) (hcap : n ≤ cap) (hr : Row w A l) (hok : lexS 0 l = .bad p) :
    Calls Tryd.prog 39 #[.slice A n cap] w fun e w' => e = .returned (.tuple #[.slice none 0 0, .int .i64 p, .int .i64 2]) ∧ Below w.heap.size w w' :=
  (lex_any A n cap l w hn (by omega) hcap hr).mono fun e w' ⟨hb, h⟩ => by
    rcases h with ⟨q, h1, h2⟩ | ⟨ts', v, h1, _⟩
    · rw [hok] at h1
      injection h1 with h1
      subst h1
      exact ⟨h2, hb⟩
    · rw [hok] at h1; cases h1

/-- A row of known bytes, just made. -/
theorem row_new (w : World) (l : List UInt8) (cs : Array Value) (t : TypeId) {fz : Nat × Nat} (hcs : cs = (l.map fun c => Value.int .u8 (bv c)).toArray) : Row (w.alloc (.cells cs t fz)) (some ⟨w.heap.size, 0, none⟩) l := by
  intro _
  refine ⟨w.heap.size, 0, rfl, by simp, fun i hi => ?_⟩
  subst hcs
  unfold nth
  rw [List.getD_eq_getElem?_getD, List.getElem?_eq_getElem hi, cell_of_row _ _ _ _ _ _ (heap_alloc_new w _)]
  simp [hi]

end Go.Proofs.YtaajolemjgdfnaaDoor

/-
  Plain mathematics of tokens: bytes that are cut ahead of a token have the tokens that are there.
-/
namespace Go.Proofs.YtaajolemjgdfnaaDoor
open Go

theorem reachL_cons (p : Int → Bool) (c : UInt8) (l : List UInt8) : reachL p (c :: l) = if p (bv c) then reachL p l + 1 else 0 := rfl
theorem reachL_take (p : Int → Bool) : ∀ (l : List UInt8) (k : Nat), reachL p (l.take k) = min (reachL p l) k
  | [], k => by simp [reachL]
  | c :: l, 0 => by simp [reachL]
  | c :: l, k + 1 => by
    rw [List.take_succ_cons, reachL_cons, reachL_cons]
    split
    · rw [reachL_take p l k]; omega
    · omega
theorem commL_take : ∀ (l : List UInt8) (k : Nat), commL (l.take k) = min (commL l) k
  | [], k => by simp [commL]
  | c :: l, 0 => by simp [commL]
  | c :: l, k + 1 => by
    rw [List.take_succ_cons, commL_cons, commL_cons]
    split
    · omega
    · rw [commL_take l k]; omega

theorem firstK_take (l : List UInt8) (k : Nat) (h : 1 ≤ k) : firstK (l.take k) = firstK l := by
  cases l with
  | nil => simp
  | cons c l =>
    obtain ⟨k, rfl⟩ : ∃ j, k = j + 1 := ⟨k - 1, by omega⟩
    rw [List.take_succ_cons]; rfl
theorem firstN_take (l : List UInt8) (k : Nat) (h : 1 ≤ k) (h2 : firstN l ≤ k) : firstN (l.take k) = firstN l := by
  cases l with
  | nil => simp
  | cons c l =>
    obtain ⟨k, rfl⟩ : ∃ j, k = j + 1 := ⟨k - 1, by omega⟩
    have e := reachL_take inwB (c :: l) (k + 1)
    have e' := reachL_take digB (c :: l) (k + 1)
    rw [List.take_succ_cons] at e e' ⊢
    rw [firstN_cons] at h2 ⊢
    rw [firstN_cons, e, e']
    by_cases h1 : letB (bv c) = true
    · rw [if_pos h1] at h2 ⊢
      rw [if_pos h1]; omega
    · rw [if_neg h1] at h2 ⊢
      rw [if_neg h1]
      by_cases h3 : digB (bv c) = true
      · rw [if_pos h3] at h2 ⊢
        rw [if_pos h3]; omega
      · rw [if_neg h3] at h2 ⊢
        rw [if_neg h3]
        by_cases h4 : c = 61 ∧ l.head? = some 61
        · rw [if_pos h4] at h2 ⊢
          rw [if_pos]
          refine ⟨h4.1, ?_⟩
          cases l with
          | nil => simp at h4
          | cons d l =>
            obtain ⟨k, rfl⟩ : ∃ j, k = j + 1 := ⟨k - 1, by omega⟩
            simpa using h4.2
        · rw [if_neg h4, if_neg]
          intro h5
          apply h4
          refine ⟨h5.1, ?_⟩
          cases l with
          | nil => simp at h5
          | cons d l =>
            cases k with
            | zero => simp at h5
            | succ k => simpa using h5.2
theorem nth_take {l : List UInt8} {k i : Nat} (h : i < k) : nth (l.take k) i = nth l i := by
  unfold nth
  rw [List.getD_eq_getElem?_getD, List.getD_eq_getElem?_getD, List.getElem?_take_of_lt h]
theorem glued_take {l : List UInt8} {k n : Nat} (h : glued (l.take k) n = true) : glued l n = true := by
  unfold glued at h ⊢
  rw [Bool.and_eq_true] at h ⊢
  obtain ⟨h1, h2⟩ := h
  have h1' := of_decide_eq_true h1
  rw [List.length_take] at h1'
  refine ⟨decide_eq_true (by omega), ?_⟩
  rw [nth_take (by omega)] at h2
  exact h2

theorem cons_ok {t : Tok} {r : Res} {ts : List Tok} (h : r.cons t = .ok ts) : ∃ ts', r = .ok ts' ∧ ts = t :: ts' := by
  cases r with
  | ok a => simp [Res.cons] at h; exact ⟨a, rfl, h.symm⟩
  | bad k => simp [Res.cons] at h

/-- The four ways of bytes that are tokens. -/
theorem ok_ways {p : Nat} {c : UInt8} {r : List UInt8} {ts : List Tok} (h : lexS p (c :: r) = .ok ts) :
    (blkB (bv c) = true ∧ lexS (p + 1) r = .ok ts) ∨
    (c = 35 ∧ lexS (p + commL (c :: r)) ((c :: r).drop (commL (c :: r))) = .ok ts) ∨
    (blkB (bv c) = false ∧ c ≠ 35 ∧ ¬ (firstK (c :: r) = 0 ∨ (firstK (c :: r) = 1 ∧ 32 < firstN (c :: r))) ∧ ¬ (firstK (c :: r) = 2 ∧ glued (c :: r) (firstN (c :: r)) = true) ∧
      ∃ ts', lexS (p + firstN (c :: r)) ((c :: r).drop (firstN (c :: r))) = .ok ts' ∧ ts = ⟨firstK (c :: r), (c :: r).take (firstN (c :: r)), p⟩ :: ts') := by
  by_cases h1 : blkB (bv c) = true
  · exact .inl ⟨h1, by rw [← h, lexS_blank h1]⟩
  · have h1' : blkB (bv c) = false := by simpa using h1
    by_cases h2 : c = 35
    · subst h2
      exact .inr (.inl ⟨rfl, by rw [← h, lexS_comm]⟩)
    · by_cases h3 : firstK (c :: r) = 0 ∨ (firstK (c :: r) = 1 ∧ 32 < firstN (c :: r))
      · rw [lexS_bad h1' h2 h3] at h; cases h
      · by_cases h4 : firstK (c :: r) = 2 ∧ glued (c :: r) (firstN (c :: r)) = true
        · rw [lexS_glued h1' h2 h3 h4] at h; cases h
        · rw [lexS_tok h1' h2 h3 h4] at h
          exact .inr (.inr ⟨h1', h2, h3, h4, cons_ok h⟩)

theorem cut_ok : ∀ (f p : Nat) (l : List UInt8) (ts : List Tok), l.length ≤ f → lexS p l = .ok ts → ∀ i t, (fin ts (p + l.length))[i]? = some t →
    p ≤ t.at_ ∧ t.at_ ≤ p + l.length ∧ lexS p (l.take (t.at_ - p)) = .ok (ts.take i)
  | f, p, [], ts, _, h, i, t, ht => by
    rw [lexS_nil] at h
    injection h with h
    subst h
    have hi : i = 0 := by
      have := (List.getElem?_eq_some_iff.1 ht).1
      simp [fin] at this; omega
    subst hi
    have : (⟨4, [], p + ([] : List UInt8).length⟩ : Tok) = t := by simpa [fin] using ht
    subst this
    simp [lexS_nil]
  | 0, p, c :: r, ts, hf, _, _, _, _ => by simp at hf
  | f + 1, p, c :: r, ts, hf, h, i, t, ht => by
    simp only [List.length_cons] at hf ⊢
    rcases ok_ways h with ⟨h1, h2⟩ | ⟨h1, h2⟩ | ⟨h1, h2, h3, h4, ts', h5, rfl⟩
    · obtain ⟨a, b, d⟩ := cut_ok f (p + 1) r ts (by omega) h2 i t (by rw [show p + 1 + r.length = p + (r.length + 1) by omega]; exact ht)
      refine ⟨by omega, by omega, ?_⟩
      rw [show t.at_ - p = (t.at_ - (p + 1)) + 1 by omega, List.take_succ_cons, lexS_blank h1]
      exact d
    · subst h1
      have hm := commL_le (35 :: r)
      have hm1 : 1 ≤ commL (35 :: r) := by rw [commL_cons, if_neg (by decide)]; omega
      have hd : ((35 :: r).drop (commL (35 :: r))).length = r.length + 1 - commL (35 :: r) := by simp
      simp only [List.length_cons] at hm
      obtain ⟨a, b, d⟩ := cut_ok f (p + commL (35 :: r)) _ ts (by rw [hd]; omega) h2 i t (by rw [hd, show p + commL (35 :: r) + (r.length + 1 - commL (35 :: r)) = p + (r.length + 1) by omega]; exact ht)
      rw [hd] at b
      refine ⟨by omega, by omega, ?_⟩
      have e := commL_take (35 :: r) (t.at_ - p)
      rw [Nat.min_eq_left (by omega)] at e
      have ed : ((35 :: r).take (t.at_ - p)).drop (commL (35 :: r)) = ((35 :: r).drop (commL (35 :: r))).take (t.at_ - (p + commL (35 :: r))) := by
        rw [List.drop_take]; congr 1; omega
      obtain ⟨k, hk⟩ : ∃ k, t.at_ - p = k + 1 := ⟨t.at_ - p - 1, by omega⟩
      rw [hk, List.take_succ_cons] at e ed ⊢
      rw [lexS_comm, e, ed]
      exact d
    · have hn1 := firstN_pos (c := c) (l := r) (fun e => h3 (.inl e))
      have hn2 : firstN (c :: r) ≤ (c :: r).length := firstN_le
      simp only [List.length_cons] at hn2
      cases i with
      | zero =>
        have : (⟨firstK (c :: r), (c :: r).take (firstN (c :: r)), p⟩ : Tok) = t := by simpa [fin] using ht
        subst this
        simp [lexS_nil]
      | succ i =>
        have hd : ((c :: r).drop (firstN (c :: r))).length = r.length + 1 - firstN (c :: r) := by simp
        obtain ⟨a, b, d⟩ := cut_ok f (p + firstN (c :: r)) _ ts' (by rw [hd]; omega) h5 i t (by rw [hd, show p + firstN (c :: r) + (r.length + 1 - firstN (c :: r)) = p + (r.length + 1) by omega]; simpa [fin] using ht)
        rw [hd] at b
        refine ⟨by omega, by omega, ?_⟩
        have e1 := firstK_take (c :: r) (t.at_ - p) (by omega)
        have e2 := firstN_take (c :: r) (t.at_ - p) (by omega) (by omega)
        have ed : ((c :: r).take (t.at_ - p)).drop (firstN (c :: r)) = ((c :: r).drop (firstN (c :: r))).take (t.at_ - (p + firstN (c :: r))) := by
          rw [List.drop_take]; congr 1; omega
        have et : ((c :: r).take (t.at_ - p)).take (firstN (c :: r)) = (c :: r).take (firstN (c :: r)) := by
          rw [List.take_take, Nat.min_eq_left (by omega)]
        have eg : glued ((c :: r).take (t.at_ - p)) (firstN (c :: r)) = true → glued (c :: r) (firstN (c :: r)) = true := glued_take
        obtain ⟨k, hk⟩ : ∃ k, t.at_ - p = k + 1 := ⟨t.at_ - p - 1, by omega⟩
        rw [hk, List.take_succ_cons] at e1 e2 ed et eg ⊢
        rw [lexS_tok h1 h2 (by rw [e1, e2]; exact h3) (by rw [e1, e2]; exact fun h => h4 ⟨h.1, eg h.2⟩), e1, e2, ed, et, d]
        rfl

end Go.Proofs.YtaajolemjgdfnaaDoor

