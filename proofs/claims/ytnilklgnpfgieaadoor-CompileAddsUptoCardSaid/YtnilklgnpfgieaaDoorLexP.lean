/-
  Plain mathematics for the statements of layer 2 (lex): bytes as tokens, as a function on lists of bytes. No program is named here.
-/
import Derived.WalkKit
import Derived.RowKit
namespace Go.Proofs.YtnilklgnpfgieaaDoor
open Go

/- What a byte is. -/
def letB (x : Int) : Bool := decide ((65 ≤ x ∧ x ≤ 90) ∨ (97 ≤ x ∧ x ≤ 122))
def digB (x : Int) : Bool := decide (48 ≤ x ∧ x ≤ 57)
def inwB (x : Int) : Bool := letB x || digB x || x == 95
def blkB (x : Int) : Bool := x == 9 || x == 10 || x == 13 || x == 32
def marksL : List UInt8 := [40, 41, 123, 125, 91, 93, 44, 59, 61, 43, 45, 42, 47, 37, 60, 33, 38, 124]
def mrkB (c : UInt8) : Bool := marksL.contains c
/-- A byte as a number. -/
def bv (c : UInt8) : Int := (c.toNat : Int)
/-- The byte at a place, as a number. -/
def nth (l : List UInt8) (i : Nat) : Int := bv (l.getD i 0)

/-- How many bytes from the first on are of a kind. -/
def reachL (p : Int → Bool) : List UInt8 → Nat
  | [] => 0
  | c :: l => if p (bv c) then reachL p l + 1 else 0
/-- How many bytes stand ahead of the line's end. -/
def commL : List UInt8 → Nat
  | [] => 0
  | c :: l => if c = 10 then 0 else commL l + 1
/-- What the token is with which bytes begin, and how many it has. -/
def firstK : List UInt8 → Nat
  | [] => 0
  | c :: _ => if letB (bv c) then 1 else if digB (bv c) then 2 else if mrkB c then 3 else 0
def firstN : List UInt8 → Nat
  | [] => 0
  | c :: l => if letB (bv c) then reachL inwB (c :: l) else if digB (bv c) then reachL digB (c :: l)
      else if c = 61 ∧ l.head? = some 61 then 2 else if mrkB c then 1 else 0

structure Tok where
  kind : Nat
  text : List UInt8
  at_ : Nat
deriving DecidableEq, Repr

inductive Res where
  | ok (ts : List Tok)
  | bad (at_ : Nat)
deriving DecidableEq, Repr

def Res.cons (t : Tok) : Res → Res
  | .ok ts => .ok (t :: ts)
  | .bad k => .bad k
def Res.app (a : List Tok) : Res → Res
  | .ok ts => .ok (a ++ ts)
  | .bad k => .bad k

/-- A letter or '_' right behind a Number. -/
def glued (l : List UInt8) (n : Nat) : Bool := decide (n < l.length) && (letB (nth l n) || nth l n == 95)

theorem reachL_le (p : Int → Bool) : ∀ l, reachL p l ≤ l.length
  | [] => Nat.le_refl _
  | c :: l => by
    have := reachL_le p l
    unfold reachL
    split
    · simp; omega
    · simp
theorem commL_le : ∀ l, commL l ≤ l.length
  | [] => Nat.le_refl _
  | c :: l => by
    have := commL_le l
    unfold commL
    split
    · simp
    · simp; omega
theorem reachL_pos {p : Int → Bool} {c : UInt8} {l : List UInt8} (h : p (bv c) = true) : 1 ≤ reachL p (c :: l) := by
  rw [reachL, if_pos h]; omega
theorem firstK_cons (c : UInt8) (l : List UInt8) : firstK (c :: l) = if letB (bv c) then 1 else if digB (bv c) then 2 else if mrkB c then 3 else 0 := rfl
theorem firstN_cons (c : UInt8) (l : List UInt8) : firstN (c :: l) = if letB (bv c) then reachL inwB (c :: l) else if digB (bv c) then reachL digB (c :: l)
      else if c = 61 ∧ l.head? = some 61 then 2 else if mrkB c then 1 else 0 := rfl
theorem firstN_pos {c : UInt8} {l : List UInt8} (h : firstK (c :: l) ≠ 0) : 1 ≤ firstN (c :: l) := by
  rw [firstK_cons] at h
  rw [firstN_cons]
  by_cases hl : letB (bv c) = true
  · rw [if_pos hl]; exact reachL_pos (by simp only [inwB, hl, Bool.true_or])
  · rw [if_neg hl] at h ⊢
    by_cases hd : digB (bv c) = true
    · rw [if_pos hd]; exact reachL_pos hd
    · rw [if_neg hd] at h ⊢
      split
      · omega
      · split
        · omega
        · rename_i hm; rw [if_neg hm] at h; omega
theorem firstN_le {l : List UInt8} : firstN l ≤ l.length := by
  unfold firstN
  split
  · simp
  · split
    · exact reachL_le _ _
    · split
      · exact reachL_le _ _
      · rename_i c l _ _
        split
        · rename_i h
          cases l with
          | nil => simp at h
          | cons d l => simp
        · split <;> simp

/-- Bytes as tokens, from a place on: the tokens ahead of the end, or the place of what is wrong. -/
def lexS (p : Nat) (l : List UInt8) : Res :=
  match l with
  | [] => .ok []
  | c :: r =>
    if blkB (bv c) then lexS (p + 1) r
    else if c = 35 then lexS (p + commL (c :: r)) ((c :: r).drop (commL (c :: r)))
    else if firstK (c :: r) = 0 ∨ (firstK (c :: r) = 1 ∧ 32 < firstN (c :: r)) then .bad p
    else if firstK (c :: r) = 2 ∧ glued (c :: r) (firstN (c :: r)) = true then .bad (p + firstN (c :: r))
    else (lexS (p + firstN (c :: r)) ((c :: r).drop (firstN (c :: r)))).cons ⟨firstK (c :: r), (c :: r).take (firstN (c :: r)), p⟩
termination_by l.length
decreasing_by
  · simp
  · rename_i hc
    have : commL (c :: r) = commL r + 1 := by rw [commL, if_neg (by rw [hc]; decide)]
    simp only [List.length_drop, List.length_cons]; omega
  · rename_i hk _
    have := firstN_pos (c := c) (l := r) (fun h => hk (.inl h))
    simp only [List.length_drop, List.length_cons]; omega

theorem lexS_nil (p : Nat) : lexS p [] = .ok [] := by rw [lexS]
theorem lexS_blank {p : Nat} {c : UInt8} {r : List UInt8} (h : blkB (bv c) = true) : lexS p (c :: r) = lexS (p + 1) r := by
  rw [lexS, if_pos h]
theorem lexS_comm {p : Nat} {r : List UInt8} : lexS p (35 :: r) = lexS (p + commL (35 :: r)) ((35 :: r).drop (commL (35 :: r))) := by
  rw [lexS, if_neg (by decide), if_pos rfl]
theorem lexS_bad {p : Nat} {c : UInt8} {r : List UInt8} (hb : blkB (bv c) = false) (hc : c ≠ 35) (h : firstK (c :: r) = 0 ∨ (firstK (c :: r) = 1 ∧ 32 < firstN (c :: r))) : lexS p (c :: r) = .bad p := by
  rw [lexS, if_neg (by rw [hb]; decide), if_neg hc, if_pos h]
theorem lexS_glued {p : Nat} {c : UInt8} {r : List UInt8} (hb : blkB (bv c) = false) (hc : c ≠ 35) (h : ¬ (firstK (c :: r) = 0 ∨ (firstK (c :: r) = 1 ∧ 32 < firstN (c :: r)))) (hg : firstK (c :: r) = 2 ∧ glued (c :: r) (firstN (c :: r)) = true) : lexS p (c :: r) = .bad (p + firstN (c :: r)) := by
  rw [lexS, if_neg (by rw [hb]; decide), if_neg hc, if_neg h, if_pos hg]
theorem lexS_tok {p : Nat} {c : UInt8} {r : List UInt8} (hb : blkB (bv c) = false) (hc : c ≠ 35) (h : ¬ (firstK (c :: r) = 0 ∨ (firstK (c :: r) = 1 ∧ 32 < firstN (c :: r)))) (hg : ¬ (firstK (c :: r) = 2 ∧ glued (c :: r) (firstN (c :: r)) = true)) :
    lexS p (c :: r) = (lexS (p + firstN (c :: r)) ((c :: r).drop (firstN (c :: r)))).cons ⟨firstK (c :: r), (c :: r).take (firstN (c :: r)), p⟩ := by
  rw [lexS, if_neg (by rw [hb]; decide), if_neg hc, if_neg h, if_neg hg]

theorem Res.app_nil (r : Res) : r.app [] = r := by cases r <;> simp [Res.app]
theorem Res.app_cons (a : List Tok) (t : Tok) (r : Res) : (r.cons t).app a = r.app (a ++ [t]) := by cases r <;> simp [Res.app, Res.cons]

theorem bv_range (c : UInt8) : 0 ≤ bv c ∧ bv c ≤ 255 := by
  have := c.toNat_lt
  unfold bv; omega
theorem nth_range (l : List UInt8) (i : Nat) : 0 ≤ nth l i ∧ nth l i ≤ 255 := bv_range _
theorem bv_inj {c : UInt8} {n : Nat} (h : bv c = n) (hn : n < 256) : c = UInt8.ofNat n := by
  apply UInt8.toNat_inj.1
  unfold bv at h
  have : c.toNat = n := by omega
  rw [this]; simp; omega
theorem nth_drop (l : List UInt8) (k i : Nat) : nth (l.drop k) i = nth l (k + i) := by
  unfold nth
  rw [List.getD_eq_getElem?_getD, List.getD_eq_getElem?_getD, List.getElem?_drop]
theorem drop_cons {l : List UInt8} {k : Nat} (h : k < l.length) : l.drop k = l.getD k 0 :: l.drop (k + 1) := by
  rw [List.drop_eq_getElem_cons h, List.getD_eq_getElem?_getD, List.getElem?_eq_getElem h]; rfl

end Go.Proofs.YtnilklgnpfgieaaDoor
