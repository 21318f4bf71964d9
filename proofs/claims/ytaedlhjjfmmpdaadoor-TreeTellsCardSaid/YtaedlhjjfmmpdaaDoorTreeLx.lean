/-
  Plain words of tokens, for a seat without package lex.
-/
import Derived.Test.YtaedlhjjfmmpdaaDoorTreeN
import Derived.Lib.BytesEntry
import Derived.Laws.OwnMore
import Derived.Laws.Rows
namespace Go.Proofs.YtaedlhjjfmmpdaaDoor
open Go Go.RowKit Go.Lib

theorem reachL_at (p : Int → Bool) (l : List UInt8) (k : Nat) (h : k < l.length) : reachL p (l.drop k) = if p (nth l k) then reachL p (l.drop (k + 1)) + 1 else 0 := by
  rw [drop_cons h, reachL]; rfl

theorem commL_cons (b : UInt8) (l : List UInt8) : commL (b :: l) = if b = 10 then 0 else commL l + 1 := rfl

theorem firstK_nth {l : List UInt8} (h : 0 < l.length) : firstK l = if letB (nth l 0) then 1 else if digB (nth l 0) then 2 else if mrkB (l.getD 0 0) then 3 else 0 := by
  cases l with
  | nil => simp at h
  | cons c l => rfl

theorem firstN_nth {l : List UInt8} (h : 0 < l.length) : firstN l = if letB (nth l 0) then reachL inwB l else if digB (nth l 0) then reachL digB l
      else if nth l 0 = 61 ∧ 1 < l.length ∧ nth l 1 = 61 then 2 else if mrkB (l.getD 0 0) then 1 else 0 := by
  cases l with
  | nil => simp at h
  | cons c l =>
    rw [firstN_cons]
    have e : (c = 61 ∧ l.head? = some 61) ↔ (nth (c :: l) 0 = 61 ∧ 1 < (c :: l).length ∧ nth (c :: l) 1 = 61) := by
      have key : ∀ d : UInt8, d = 61 ↔ bv d = 61 := fun d => ⟨fun h => by rw [h]; rfl, fun h => bv_inj (n := 61) h (by decide)⟩
      cases l with
      | nil => simp
      | cons d l =>
        simp only [List.head?_cons, Option.some.injEq, List.length_cons]
        rw [key c, key d]
        exact ⟨fun ⟨h1, h2⟩ => ⟨h1, by omega, h2⟩, fun ⟨h1, _, h2⟩ => ⟨h1, h2⟩⟩
    simp only [e]
    rfl

theorem u8_back (c : UInt8) : (bv c).toNat.toUInt8 = c := by simp [bv]

/-- The cells of tokens in a row. -/
def toks (ts : List Tok) : List Value := ts.flatMap fun t => [.int .i64 t.kind, .string ⟨t.text.toArray⟩, .int .i64 t.at_]

theorem toks_snoc (ts : List Tok) (t : Tok) : toks (ts ++ [t]) = toks ts ++ [.int .i64 t.kind, .string ⟨t.text.toArray⟩, .int .i64 t.at_] := by
  simp [toks]

theorem three_one {k a : Int} {s : ByteArray} : ∀ u ∈ [Value.int .i64 k, .string s, .int .i64 a], u.oneCell' = true := by
  intro u hu
  simp at hu
  rcases hu with rfl | rfl | rfl <;> rfl

theorem go_comm {l : List UInt8} {k : Nat} {acc : List Tok} (hlt : k < l.length) (hc : (nth l k == 35) = true) (hgo : (lexS k (l.drop k)).app acc = lexS 0 l) : (lexS (k + commL (l.drop k)) (l.drop (k + commL (l.drop k)))).app acc = lexS 0 l := by
  have e : l.getD k 0 = 35 := bv_inj (n := 35) (by simpa [nth] using hc) (by decide)
  have ed : l.drop k = 35 :: l.drop (k + 1) := by rw [drop_cons hlt, e]
  rw [← hgo]
  conv => rhs; rw [ed, lexS_comm, ← ed, List.drop_drop]

theorem comm_pos {l : List UInt8} {k : Nat} (hlt : k < l.length) (hc : (nth l k == 35) = true) : 1 ≤ commL (l.drop k) := by
  have e : l.getD k 0 = 35 := bv_inj (n := 35) (by simpa [nth] using hc) (by decide)
  rw [drop_cons hlt, e, commL_cons, if_neg (by decide)]; omega

theorem at_bad {l : List UInt8} {k : Nat} (hlt : k < l.length) (hb : blkB (nth l k) = false) (hc : (nth l k == 35) = false) (h : firstK (l.drop k) = 0 ∨ (firstK (l.drop k) = 1 ∧ 32 < firstN (l.drop k))) : lexS k (l.drop k) = .bad k := by
  rw [drop_cons hlt] at h ⊢
  exact lexS_bad hb (fun e => by rw [show nth l k = 35 by unfold nth; rw [e]; rfl] at hc; simp at hc) h

theorem at_glued {l : List UInt8} {k : Nat} (hlt : k < l.length) (hb : blkB (nth l k) = false) (hc : (nth l k == 35) = false) (h : firstK (l.drop k) = 2) (hg : glued (l.drop k) (firstN (l.drop k)) = true) : lexS k (l.drop k) = .bad (k + firstN (l.drop k)) := by
  rw [drop_cons hlt] at h hg ⊢
  exact lexS_glued hb (fun e => by rw [show nth l k = 35 by unfold nth; rw [e]; rfl] at hc; simp at hc) (by omega) ⟨h, hg⟩

def lexF : Nat → Nat → List UInt8 → Res
  | 0, _, _ => .ok []
  | _ + 1, _, [] => .ok []
  | f + 1, p, c :: r =>
    if blkB (bv c) then lexF f (p + 1) r
    else if c = 35 then lexF f (p + commL (c :: r)) ((c :: r).drop (commL (c :: r)))
    else if firstK (c :: r) = 0 ∨ (firstK (c :: r) = 1 ∧ 32 < firstN (c :: r)) then .bad p
    else if firstK (c :: r) = 2 ∧ glued (c :: r) (firstN (c :: r)) = true then .bad (p + firstN (c :: r))
    else (lexF f (p + firstN (c :: r)) ((c :: r).drop (firstN (c :: r)))).cons ⟨firstK (c :: r), (c :: r).take (firstN (c :: r)), p⟩

theorem lexS_eq : ∀ (f p : Nat) (l : List UInt8), l.length ≤ f → lexS p l = lexF f p l
  | 0, p, l, h => by
    obtain rfl : l = [] := List.eq_nil_of_length_eq_zero (by omega)
    rw [lexS_nil]; rfl
  | f + 1, p, [], _ => by rw [lexS_nil]; rfl
  | f + 1, p, c :: r, h => by
    simp only [List.length_cons] at h
    rw [lexS, lexF]
    by_cases h1 : blkB (bv c) = true
    · rw [if_pos h1, if_pos h1, lexS_eq f _ _ (by omega)]
    · rw [if_neg h1, if_neg h1]
      by_cases h2 : c = 35
      · have : commL (c :: r) = commL r + 1 := by rw [commL_cons, if_neg (by rw [h2]; decide)]
        rw [if_pos h2, if_pos h2, lexS_eq f _ _ (by simp only [List.length_drop, List.length_cons]; omega)]
      · rw [if_neg h2, if_neg h2]
        by_cases h3 : firstK (c :: r) = 0 ∨ (firstK (c :: r) = 1 ∧ 32 < firstN (c :: r))
        · rw [if_pos h3, if_pos h3]
        · rw [if_neg h3, if_neg h3]
          have := firstN_pos (c := c) (l := r) (fun e => h3 (.inl e))
          split
          · rfl
          · rw [lexS_eq f _ _ (by simp only [List.length_drop, List.length_cons]; omega)]

theorem toks_at : ∀ (ts : List Tok) (i : Nat) (t : Tok), ts[i]? = some t → (toks ts)[i * 3]? = some (.int .i64 t.kind) ∧ (toks ts)[i * 3 + 1]? = some (.string ⟨t.text.toArray⟩) ∧ (toks ts)[i * 3 + 2]? = some (.int .i64 t.at_)
  | [], i, t, h => by simp at h
  | s :: ts, 0, t, h => by
    have : s = t := by simpa using h
    subst this
    exact ⟨rfl, rfl, rfl⟩
  | s :: ts, i + 1, t, h => by
    have ih := toks_at ts i t (by simpa using h)
    have e : toks (s :: ts) = .int .i64 s.kind :: .string ⟨s.text.toArray⟩ :: .int .i64 s.at_ :: toks ts := by simp [toks]
    rw [e]
    rw [show (i + 1) * 3 = i * 3 + 3 by omega]
    exact ih

/-- The end behind the tokens. -/
def fin (ts : List Tok) (n : Nat) : List Tok := ts ++ [⟨4, [], n⟩]

theorem fin_length (ts : List Tok) (n : Nat) : (fin ts n).length = ts.length + 1 := by simp [fin]

end Go.Proofs.YtaedlhjjfmmpdaaDoor
