/-
  Texts LexP TreeN TreeP TreeI TreeJ TreeD TreeO PnP PaP PnQ PaC PaD PaN PaE PaF PaG PaH PaI: put together.
-/
import Derived.WalkKit
import Derived.RowKit
import Derived.Test.YtppagjhmlgkamaaGreatDoorChecked
import Derived.Lib.Hide
import Derived.BigQuiet
import Derived.RangeFuncNested
import Derived.RangeFuncBound
import Derived.RangeFuncCalls
import Derived.RangeFuncLeaves
import Derived.Shelf.Abstract
import Derived.Shelf.RegionOpen
import Derived.OwnWalkIn
import Derived.TacticsInMore
import Derived.LoopNIn
import Derived.LoopIn
import Derived.Lib.OthersKept
import Derived.WalkMore
import Derived.WalkLawsBesides
import Derived.Deep.RegionHeld3
import Derived.Deep.DeepCutAuto
/-
  Plain mathematics for the statements of layer 2 (lex): bytes as tokens, as a function on lists of bytes. No program is named here.
-/
namespace Go.Proofs.YtppagjhmlgkamaaGreatDoor
open Go

/- What a byte is. -/
def letB (x : Int) : Bool := decide ((65 ≤ x ∧ x ≤ 90) ∨ (97 ≤ x ∧ x ≤ 122))
def digB (x : Int) : Bool := decide (48 ≤ x ∧ x ≤ 57)
def inwB (x : Int) : Bool := letB x || digB x || x == 95
def blkB (x : Int) : Bool := x == 9 || x == 10 || x == 13 || x == 32
def marksL : List UInt8 := [40, 41, 123, 125, 91, 93, 44, 59, 61, 43, 45, 42, 47, 37, 60, 33, 38, 124]
def mrkB (c : UInt8) : Bool := marksL.contains c
/-- A byte as a number. -/
def bv (c : UInt8) : Int := (c.toNat : Int)
/-- The byte at a place, as a number. -/
def nth (l : List UInt8) (i : Nat) : Int := bv (l.getD i 0)

/-- How many bytes from the first on are of a kind. -/
def reachL (p : Int → Bool) : List UInt8 → Nat
  | [] => 0
  | c :: l => if p (bv c) then reachL p l + 1 else 0
/-- How many bytes stand ahead of the line's end. -/
def commL : List UInt8 → Nat
  | [] => 0
  | c :: l => if c = 10 then 0 else commL l + 1
/-- What the token is with which bytes begin, and how many it has. -/
def firstK : List UInt8 → Nat
  | [] => 0
  | c :: _ => if letB (bv c) then 1 else if digB (bv c) then 2 else if mrkB c then 3 else 0
def firstN : List UInt8 → Nat
  | [] => 0
  | c :: l => if letB (bv c) then reachL inwB (c :: l) else if digB (bv c) then reachL digB (c :: l)
      else if c = 61 ∧ l.head? = some 61 then 2 else if mrkB c then 1 else 0

structure Tok where
  kind : Nat
  text : List UInt8
  at_ : Nat
deriving DecidableEq, Repr

inductive Res where
  | ok (ts : List Tok)
  | bad (at_ : Nat)
deriving DecidableEq, Repr

def Res.cons (t : Tok) : Res → Res
  | .ok ts => .ok (t :: ts)
  | .bad k => .bad k
def Res.app (a : List Tok) : Res → Res
  | .ok ts => .ok (a ++ ts)
  | .bad k => .bad k

/-- A letter or '_' right behind a Number. -/
def glued (l : List UInt8) (n : Nat) : Bool := decide (n < l.length) && (letB (nth l n) || nth l n == 95)

theorem reachL_le (p : Int → Bool) : ∀ l, reachL p l ≤ l.length
  | [] => Nat.le_refl _
  | c :: l => by
    have := reachL_le p l
    unfold reachL
    split
    · simp; omega
    · simp
theorem commL_le : ∀ l, commL l ≤ l.length
  | [] => Nat.le_refl _
  | c :: l => by
    have := commL_le l
    unfold commL
    split
    · simp
    · simp; omega
theorem reachL_pos {p : Int → Bool} {c : UInt8} {l : List UInt8} (h : p (bv c) = true) : 1 ≤ reachL p (c :: l) := by
  rw [reachL, if_pos h]; omega
theorem firstK_cons (c : UInt8) (l : List UInt8) : firstK (c :: l) = if letB (bv c) then 1 else if digB (bv c) then 2 else if mrkB c then 3 else 0 := rfl
theorem firstN_cons (c : UInt8) (l : List UInt8) : firstN (c :: l) = if letB (bv c) then reachL inwB (c :: l) else if digB (bv c) then reachL digB (c :: l)
      else if c = 61 ∧ l.head? = some 61 then 2 else if mrkB c then 1 else 0 := rfl
theorem firstN_pos {c : UInt8} {l : List UInt8} (h : firstK (c :: l) ≠ 0) : 1 ≤ firstN (c :: l) := by
  rw [firstK_cons] at h
  rw [firstN_cons]
  by_cases hl : letB (bv c) = true
  · rw [if_pos hl]; exact reachL_pos (by simp only [inwB, hl, Bool.true_or])
  · rw [if_neg hl] at h ⊢
    by_cases hd : digB (bv c) = true
    · rw [if_pos hd]; exact reachL_pos hd
    · rw [if_neg hd] at h ⊢
      split
      · omega
      · split
        · omega
        · rename_i hm; rw [if_neg hm] at h; omega
theorem firstN_le {l : List UInt8} : firstN l ≤ l.length := by
  unfold firstN
  split
  · simp
  · split
    · exact reachL_le _ _
    · split
      · exact reachL_le _ _
      · rename_i c l _ _
        split
        · rename_i h
          cases l with
          | nil => simp at h
          | cons d l => simp
        · split <;> simp

/-- Bytes as tokens, from a place on: the tokens ahead of the end, or the place of what is wrong. -/
def lexS (p : Nat) (l : List UInt8) : Res :=
  match l with
  | [] => .ok []
  | c :: r =>
    if blkB (bv c) then lexS (p + 1) r
    else if c = 35 then lexS (p + commL (c :: r)) ((c :: r).drop (commL (c :: r)))
    else if firstK (c :: r) = 0 ∨ (firstK (c :: r) = 1 ∧ 32 < firstN (c :: r)) then .bad p
    else if firstK (c :: r) = 2 ∧ glued (c :: r) (firstN (c :: r)) = true then .bad (p + firstN (c :: r))
    else (lexS (p + firstN (c :: r)) ((c :: r).drop (firstN (c :: r)))).cons ⟨firstK (c :: r), (c :: r).take (firstN (c :: r)), p⟩
termination_by l.length
decreasing_by
  · simp
  · rename_i hc
    have : commL (c :: r) = commL r + 1 := by rw [commL, if_neg (by rw [hc]; decide)]
    simp only [List.length_drop, List.length_cons]; omega
  · rename_i hk _
    have := firstN_pos (c := c) (l := r) (fun h => hk (.inl h))
    simp only [List.length_drop, List.length_cons]; omega

theorem lexS_nil (p : Nat) : lexS p [] = .ok [] := by rw [lexS]
theorem lexS_blank {p : Nat} {c : UInt8} {r : List UInt8} (h : blkB (bv c) = true) : lexS p (c :: r) = lexS (p + 1) r := by
  rw [lexS, if_pos h]
theorem lexS_comm {p : Nat} {r : List UInt8} : lexS p (35 :: r) = lexS (p + commL (35 :: r)) ((35 :: r).drop (commL (35 :: r))) := by
  rw [lexS, if_neg (by decide), if_pos rfl]
theorem lexS_bad {p : Nat} {c : UInt8} {r : List UInt8} (hb : blkB (bv c) = false) (hc : c ≠ 35) (h : firstK (c :: r) = 0 ∨ (firstK (c :: r) = 1 ∧ 32 < firstN (c :: r))) : lexS p (c :: r) = .bad p := by
  rw [lexS, if_neg (by rw [hb]; decide), if_neg hc, if_pos h]
theorem lexS_glued {p : Nat} {c : UInt8} {r : List UInt8} (hb : blkB (bv c) = false) (hc : c ≠ 35) (h : ¬ (firstK (c :: r) = 0 ∨ (firstK (c :: r) = 1 ∧ 32 < firstN (c :: r)))) (hg : firstK (c :: r) = 2 ∧ glued (c :: r) (firstN (c :: r)) = true) : lexS p (c :: r) = .bad (p + firstN (c :: r)) := by
  rw [lexS, if_neg (by rw [hb]; decide), if_neg hc, if_neg h, if_pos hg]
theorem lexS_tok {p : Nat} {c : UInt8} {r : List UInt8} (hb : blkB (bv c) = false) (hc : c ≠ 35) (h : ¬ (firstK (c :: r) = 0 ∨ (firstK (c :: r) = 1 ∧ 32 < firstN (c :: r)))) (hg : ¬ (firstK (c :: r) = 2 ∧ glued (c :: r) (firstN (c :: r)) = true)) :
    lexS p (c :: r) = (lexS (p + firstN (c :: r)) ((c :: r).drop (firstN (c :: r)))).cons ⟨firstK (c :: r), (c :: r).take (firstN (c :: r)), p⟩ := by
  rw [lexS, if_neg (by rw [hb]; decide), if_neg hc, if_neg h, if_neg hg]

theorem Res.app_nil (r : Res) : r.app [] = r := by cases r <;> simp [Res.app]
theorem Res.app_cons (a : List Tok) (t : Tok) (r : Res) : (r.cons t).app a = r.app (a ++ [t]) := by cases r <;> simp [Res.app, Res.cons]

theorem bv_range (c : UInt8) : 0 ≤ bv c ∧ bv c ≤ 255 := by
  have := c.toNat_lt
  unfold bv; omega
theorem nth_range (l : List UInt8) (i : Nat) : 0 ≤ nth l i ∧ nth l i ≤ 255 := bv_range _
theorem bv_inj {c : UInt8} {n : Nat} (h : bv c = n) (hn : n < 256) : c = UInt8.ofNat n := by
  apply UInt8.toNat_inj.1
  unfold bv at h
  have : c.toNat = n := by omega
  rw [this]; simp; omega
theorem nth_drop (l : List UInt8) (k i : Nat) : nth (l.drop k) i = nth l (k + i) := by
  unfold nth
  rw [List.getD_eq_getElem?_getD, List.getD_eq_getElem?_getD, List.getElem?_drop]
theorem drop_cons {l : List UInt8} {k : Nat} (h : k < l.length) : l.drop k = l.getD k 0 :: l.drop (k + 1) := by
  rw [List.drop_eq_getElem_cons h, List.getD_eq_getElem?_getD, List.getElem?_eq_getElem h]; rfl

end Go.Proofs.YtppagjhmlgkamaaGreatDoor

/-
  tree.Name and what it calls: letter, inName, keyword; named.
-/
namespace Go.Proofs.YtppagjhmlgkamaaGreatDoor
open Go Go.RowKit Go.Lib

theorem ret_bool {a b : Bool} (h : a = b) : Ending.returned (.bool a) = .returned (.bool b) := by rw [h]
theorem ret_int {k : IntKind} {a b : Int} (h : a = b) : Ending.returned (.int k a) = .returned (.int k b) := by rw [h]

theorem letter_any (x : Int) (w : World) (h0 : 0 ≤ x) (h1 : x ≤ 255) :
    Calls Tryz.prog 83 #[.int .u8 x] w fun e w' => e = .returned (.bool (letB x)) ∧ w = w' := by
  go_enter Tryz.func83, Tryz.ntmps83
  go_wp2
  all_goals
    go_ret
    refine ⟨ret_bool ?_, rfl⟩
    unfold letB
    rw [Bool.eq_iff_iff]
    simp only [decide_eq_true_eq, Bool.or_eq_true, Bool.false_eq_true, false_iff, true_iff]
    omega

theorem inname_any (x : Int) (w : World) (h0 : 0 ≤ x) (h1 : x ≤ 255) :
    Calls Tryz.prog 84 #[.int .u8 x] w fun e w' => e = .returned (.bool (inwB x)) ∧ w = w' := by
  go_enter Tryz.func84, Tryz.ntmps84
  go_wp2_with (go_at_call 83; ((with_reducible refine (letter_any _ _ h0 h1).mono ?_); rintro e w1 ⟨rfl, rfl⟩))
  all_goals
    go_ret
    refine ⟨ret_bool ?_, rfl⟩
    unfold inwB digB
    rw [Bool.eq_iff_iff]
    simp_all
  all_goals omega

/-- The bytes of a text. -/
def bs (s : ByteArray) : List UInt8 := s.data.toList
theorem bs_length (s : ByteArray) : (bs s).length = s.size := rfl
theorem bs_nth (s : ByteArray) (k : Nat) (h : k < s.size) : ((s[k]'h).toNat : Int) = nth (bs s) k := by
  unfold nth bv bs
  rw [List.getD_eq_getElem?_getD, List.getElem?_eq_getElem (by simpa using h)]; rfl

/-- A keyword. -/
def kwL (l : List UInt8) : Bool :=
  l == [102, 117, 110, 99] || l == [97, 114, 114, 97, 121] || l == [105, 110, 112, 117, 116] || l == [112, 114, 105, 110, 116] || l == [107, 101, 101, 112] || l == [105, 102] || l == [101, 108, 115, 101] || l == [119, 104, 105, 108, 101] || l == [114, 101, 116, 117, 114, 110] || l == [99, 108, 111, 99, 107]

set_option maxHeartbeats 1000000 in
theorem keyword_any (s : ByteArray) (w : World) :
    Calls Tryz.prog 85 #[.string s] w fun e w' => e = .returned (.bool (kwL (bs s))) ∧ w = w' := by
  have e0 : kwL (bs s) = kwL s.toList := by rw [ByteArray.toList_eq]; rfl
  rw [e0]
  clear e0
  go_enter Tryz.func85, Tryz.ntmps85
  go_wp2
  all_goals
    go_ret
    refine ⟨ret_bool ?_, rfl⟩
    unfold kwL
    simp_all

/-- A name: C1. -/
def nameB (s : ByteArray) : Bool := decide (0 < s.size) && decide (s.size ≤ 32) && letB (nth (bs s) 0) && (bs s).all (fun c => inwB (bv c)) && !kwL (bs s)

theorem all_take (l : List UInt8) (k : Nat) (h : k < l.length) : (l.take (k + 1)).all (fun c => inwB (bv c)) = ((l.take k).all (fun c => inwB (bv c)) && inwB (nth l k)) := by
  unfold nth
  rw [List.take_succ_eq_append_getElem h, List.all_append, List.getD_eq_getElem?_getD, List.getElem?_eq_getElem h]
  simp
theorem all_not {l : List UInt8} {k : Nat} (h : k < l.length) (hk : inwB (nth l k) = false) : l.all (fun c => inwB (bv c)) = false := by
  rw [List.all_eq_false]
  refine ⟨l[k], List.getElem_mem h, ?_⟩
  have e : nth l k = bv l[k] := by
    unfold nth
    rw [List.getD_eq_getElem?_getD, List.getElem?_eq_getElem h]
    simp
  rw [← e, hk]
  decide

set_option maxHeartbeats 1000000 in
theorem name_any (s : ByteArray) (w : World) (hs : s.size ≤ 9223372036854775807) :
    Calls Tryz.prog 52 #[.string s] w fun e w' => e = .returned (.bool (nameB s)) ∧ w = w' := by
  by_cases h0 : 0 < s.size
  · have hne : ¬ s.toList = [] := by
      rw [ByteArray.toList_eq]
      intro h
      have h1 : s.data.toList.length = s.size := rfl
      rw [h] at h1
      simp at h1
      omega
    have hne2 : s.toList.isEmpty = false := by cases h : s.toList with | nil => exact absurd h hne | cons => rfl
    have hne3 : (s.toList == []) = false := by cases h : s.toList with | nil => exact absurd h hne | cons => rfl
    by_cases h32 : s.size ≤ 32
    · obtain ⟨r0, r1⟩ := nth_range (bs s) 0
      have hs0 := bs_nth s 0 h0
      cases hl : letB (nth (bs s) 0) with
      | false =>
        go_enter Tryz.func52, Tryz.ntmps52
        go_wp2_with (go_at_call 83; ((with_reducible refine (letter_any _ _ r0 r1).mono ?_); rintro e w1 ⟨rfl, rfl⟩))
        go_ret
        exact ⟨ret_bool (by simp [nameB, hl]), rfl⟩
      | true =>
        go_enter Tryz.func52, Tryz.ntmps52
        go_wp2_with (go_at_call 83; ((with_reducible refine (letter_any _ _ r0 r1).mono ?_); rintro e w1 ⟨rfl, rfl⟩))
        have HE := Lib.hid hs0
        clear hs0
        go_loop [19] (fun i => ∃ k : Nat, k ≤ s.size ∧ i = .int .i64 k ∧ ((bs s).take k).all (fun c => inwB (bv c)) = true) (fun i => s.size - (intOf i).toNat)
        case atStart => exact ⟨0, Nat.zero_le _, rfl, rfl⟩
        case round =>
          obtain ⟨k, hk, rfl, hr⟩ := hrel
          have HR := Lib.hid hr; clear hr
          have HL := Lib.hid hl; clear hl
          by_cases hlt : k < s.size
          · have hsk := bs_nth s k hlt
            obtain ⟨q0, q1⟩ := nth_range (bs s) k
            have HT := Lib.hid (all_take (bs s) k (by rw [bs_length]; exact hlt))
            cases hw : inwB (nth (bs s) k) with
            | true =>
              go_wp2_with (go_at_call 84; ((with_reducible refine (inname_any _ _ q0 q1).mono ?_); rintro e w1 ⟨rfl, rfl⟩))
              go_round
              case rel => exact ⟨k + 1, by omega, by go_num, by rw [HT.out, HR.out, hw]; rfl⟩
              case measure => simp [intOf]; omega
            | false =>
              go_wp2_with (go_at_call 84; ((with_reducible refine (inname_any _ _ q0 q1).mono ?_); rintro e w1 ⟨rfl, rfl⟩))
              go_ret
              refine ⟨ret_bool ?_, rfl⟩
              have hn := all_not (l := bs s) (k := k) (by rw [bs_length]; exact hlt) hw
              simp [nameB, hn]
          · go_wp2_with (go_at_call 85; ((with_reducible refine (keyword_any _ _).mono ?_); rintro e w1 ⟨rfl, rfl⟩))
            go_ret
            refine ⟨ret_bool ?_, rfl⟩
            have hall : (bs s).all (fun c => inwB (bv c)) = true := by rw [← HR.out, List.take_of_length_le (by rw [bs_length]; omega)]
            unfold nameB
            rw [hall, HL.out, decide_eq_true h0, decide_eq_true h32]
            rfl
    · go_enter Tryz.func52, Tryz.ntmps52
      go_wp2
      go_ret
      exact ⟨ret_bool (by simp [nameB, h32]), rfl⟩
  · have hne : s.toList = [] := by
      rw [ByteArray.toList_eq]
      apply List.eq_nil_of_length_eq_zero
      have h1 : s.data.toList.length = s.size := rfl
      omega
    go_enter Tryz.func52, Tryz.ntmps52
    go_wp2
    go_ret
    exact ⟨ret_bool (by simp [nameB, h0]), rfl⟩

end Go.Proofs.YtppagjhmlgkamaaGreatDoor

/-
  Plain words for layer 3: expressions, statements, functions, programs; how they lie in memory; what stands right inside of one.
-/
namespace Go.Proofs.YtppagjhmlgkamaaGreatDoor
open Go Go.RowKit

/-- A list of expressions: op, N, name, the parts of the first one, the rest. -/
inductive ES where
  | nil
  | cons (op n : Int) (s : ByteArray) (l r : ES)
/-- A list of statements: op, name, N, the expressions, body and else of the first one, the rest. -/
inductive SS where
  | nil
  | cons (op : Int) (s : ByteArray) (n : Int) (l : ES) (b e r : SS)

def ES.len : ES → Nat
  | .nil => 0
  | .cons _ _ _ _ r => r.len + 1
def SS.len : SS → Nat
  | .nil => 0
  | .cons _ _ _ _ _ _ r => r.len + 1

def I64 (n : Int) : Prop := -9223372036854775808 ≤ n ∧ n ≤ 9223372036854775807

/-- A slice of n things that lie as P says from its address on: the address is asked for only where there is a thing. -/
def RowV (P : Nat → Nat → Prop) (B n : Nat) (v : Value) : Prop :=
  ∃ A cap, v = .slice A n cap ∧ n ≤ cap ∧ cap ≤ 9223372036854775807 ∧ (0 < n → ∃ b o, A = some ⟨b, o, none⟩ ∧ b < B ∧ P b o)

/-- The expressions lie in W, one behind the other, in blocks below B. -/
def ES.In (B : Nat) (W : World) : ES → Nat → Nat → Prop
  | .nil => fun _ _ => True
  | .cons op n s l r => fun b o => W.cell? ⟨b, o, none⟩ = some (.int .i64 op) ∧ W.cell? ⟨b, o + 1, none⟩ = some (.int .i64 n) ∧ W.cell? ⟨b, o + 2, none⟩ = some (.string s) ∧
      (∃ v, W.cell? ⟨b, o + 3, none⟩ = some v ∧ RowV (l.In B W) B l.len v) ∧ (I64 op ∧ I64 n ∧ s.size ≤ 9223372036854775807) ∧ r.In B W b (o + 4)
def SS.In (B : Nat) (W : World) : SS → Nat → Nat → Prop
  | .nil => fun _ _ => True
  | .cons op s n l x y r => fun b o => W.cell? ⟨b, o, none⟩ = some (.int .i64 op) ∧ W.cell? ⟨b, o + 1, none⟩ = some (.string s) ∧ W.cell? ⟨b, o + 2, none⟩ = some (.int .i64 n) ∧
      (∃ v, W.cell? ⟨b, o + 3, none⟩ = some v ∧ RowV (l.In B W) B l.len v) ∧ (∃ v, W.cell? ⟨b, o + 4, none⟩ = some v ∧ RowV (x.In B W) B x.len v) ∧ (∃ v, W.cell? ⟨b, o + 5, none⟩ = some v ∧ RowV (y.In B W) B y.len v) ∧
      (I64 op ∧ I64 n ∧ s.size ≤ 9223372036854775807) ∧ r.In B W b (o + 6)

abbrev EV (B : Nat) (W : World) (v : Value) (l : ES) : Prop := RowV (l.In B W) B l.len v
abbrev SV (B : Nat) (W : World) (v : Value) (l : SS) : Prop := RowV (l.In B W) B l.len v

theorem RowV.imp {P Q : Nat → Nat → Prop} {B B' n : Nat} {v : Value} (h : RowV P B n v) (hB : B ≤ B') (hi : ∀ b o, b < B → P b o → Q b o) : RowV Q B' n v := by
  obtain ⟨A, cap, e, h1, h2, h3⟩ := h
  exact ⟨A, cap, e, h1, h2, fun hn => by obtain ⟨b, o, ea, hb, hp⟩ := h3 hn; exact ⟨b, o, ea, by omega, hi b o hb hp⟩⟩

/-- What lies below B lies on, wherever nothing below B has turned; and below any greater bound. -/
theorem ES.In.below {B B' : Nat} {W W' : World} (h : Below B W W') (hB : B ≤ B') : ∀ {l : ES} {b o : Nat}, b < B → l.In B W b o → l.In B' W' b o
  | .nil, _, _, _, _ => trivial
  | .cons _ _ _ _ _, b, o, hb, ⟨h0, h1, h2, ⟨v, h3, hl⟩, h4, hr⟩ =>
    ⟨(h.cell (p := ⟨b, o, none⟩) hb).trans h0, (h.cell (p := ⟨b, o + 1, none⟩) hb).trans h1, (h.cell (p := ⟨b, o + 2, none⟩) hb).trans h2,
      ⟨v, (h.cell (p := ⟨b, o + 3, none⟩) hb).trans h3, hl.imp hB fun _ _ hb' hp => ES.In.below h hB hb' hp⟩, h4, ES.In.below h hB hb hr⟩
theorem SS.In.below {B B' : Nat} {W W' : World} (h : Below B W W') (hB : B ≤ B') : ∀ {l : SS} {b o : Nat}, b < B → l.In B W b o → l.In B' W' b o
  | .nil, _, _, _, _ => trivial
  | .cons _ _ _ _ _ _ _, b, o, hb, ⟨h0, h1, h2, ⟨v, h3, hl⟩, ⟨v', h3', hx⟩, ⟨v'', h3'', hy⟩, h4, hr⟩ =>
    ⟨(h.cell (p := ⟨b, o, none⟩) hb).trans h0, (h.cell (p := ⟨b, o + 1, none⟩) hb).trans h1, (h.cell (p := ⟨b, o + 2, none⟩) hb).trans h2,
      ⟨v, (h.cell (p := ⟨b, o + 3, none⟩) hb).trans h3, hl.imp hB fun _ _ hb' hp => ES.In.below h hB hb' hp⟩,
      ⟨v', (h.cell (p := ⟨b, o + 4, none⟩) hb).trans h3', hx.imp hB fun _ _ hb' hp => SS.In.below h hB hb' hp⟩,
      ⟨v'', (h.cell (p := ⟨b, o + 5, none⟩) hb).trans h3'', hy.imp hB fun _ _ hb' hp => SS.In.below h hB hb' hp⟩, h4, SS.In.below h hB hb hr⟩
theorem EV.below {B B' : Nat} {W W' : World} {v : Value} {l : ES} (hv : EV B W v l) (h : Below B W W') (hB : B ≤ B') : EV B' W' v l := RowV.imp hv hB fun _ _ hb hp => hp.below h hB hb
theorem SV.below {B B' : Nat} {W W' : World} {v : Value} {l : SS} (hv : SV B W v l) (h : Below B W W') (hB : B ≤ B') : SV B' W' v l := RowV.imp hv hB fun _ _ hb hp => hp.below h hB hb

/-- An expression or a statement, in the one form of a part. -/
structure Pt where
  st : Bool
  op : Int
  s : ByteArray
  n : Int
  l : ES
  b : SS
  e : SS

def ES.pts : ES → List Pt
  | .nil => []
  | .cons op n s l r => ⟨false, op, s, n, l, .nil, .nil⟩ :: r.pts
def SS.pts : SS → List Pt
  | .nil => []
  | .cons op s n l b e r => ⟨true, op, s, n, l, b, e⟩ :: r.pts
theorem ES.pts_len : ∀ l : ES, l.pts.length = l.len
  | .nil => rfl
  | .cons _ _ _ _ r => by simp [ES.pts, ES.len, ES.pts_len r]
theorem SS.pts_len : ∀ l : SS, l.pts.length = l.len
  | .nil => rfl
  | .cons _ _ _ _ _ _ r => by simp [SS.pts, SS.len, SS.pts_len r]

/-- What stands right inside of a part. -/
def Pt.sub (p : Pt) : List Pt := p.l.pts ++ (p.b.pts ++ p.e.pts)

/-- A part's value. -/
def PV (B : Nat) (W : World) (v : Value) (p : Pt) : Prop :=
  ∃ vl vb ve, v = .agg #[.bool p.st, .int .i64 p.op, .string p.s, .int .i64 p.n, vl, vb, ve] ∧ EV B W vl p.l ∧ SV B W vb p.b ∧ SV B W ve p.e ∧ (I64 p.op ∧ I64 p.n ∧ p.s.size ≤ 9223372036854775807)
theorem PV.below {B B' : Nat} {W W' : World} {v : Value} {p : Pt} (hv : PV B W v p) (h : Below B W W') (hB : B ≤ B') : PV B' W' v p := by
  obtain ⟨vl, vb, ve, e, h1, h2, h3, h4⟩ := hv
  exact ⟨vl, vb, ve, e, h1.below h hB, h2.below h hB, h3.below h hB, h4⟩

/-- How many parts there are, all the way down. -/
def ES.cnt : ES → Nat
  | .nil => 0
  | .cons _ _ _ l r => 1 + l.cnt + r.cnt
def SS.cnt : SS → Nat
  | .nil => 0
  | .cons _ _ _ l b e r => 1 + (l.cnt + (b.cnt + e.cnt)) + r.cnt
def Pt.cnt (p : Pt) : Nat := 1 + (p.l.cnt + (p.b.cnt + p.e.cnt))
def cntL : List Pt → Nat
  | [] => 0
  | p :: r => p.cnt + cntL r
theorem cntL_append : ∀ a b : List Pt, cntL (a ++ b) = cntL a + cntL b
  | [], b => by simp [cntL]
  | p :: r, b => by simp [cntL, cntL_append r b]; omega
theorem ES.cntL : ∀ l : ES, cntL l.pts = l.cnt
  | .nil => rfl
  | .cons _ _ _ l r => by simp [ES.pts, Go.Proofs.YtppagjhmlgkamaaGreatDoor.cntL, ES.cnt, Pt.cnt, ES.cntL r, SS.cnt]
theorem SS.cntL : ∀ l : SS, cntL l.pts = l.cnt
  | .nil => rfl
  | .cons _ _ _ l b e r => by simp [SS.pts, Go.Proofs.YtppagjhmlgkamaaGreatDoor.cntL, SS.cnt, Pt.cnt, SS.cntL r]
theorem Pt.cnt_sub (p : Pt) : p.cnt = 1 + Go.Proofs.YtppagjhmlgkamaaGreatDoor.cntL p.sub := by
  simp [Pt.sub, cntL_append, ES.cntL, SS.cntL, Pt.cnt]
theorem cntL_mem {p : Pt} : ∀ {l : List Pt}, p ∈ l → p.cnt ≤ cntL l
  | q :: r, h => by
    rcases List.mem_cons.1 h with rfl | h
    · simp [cntL]
    · have := cntL_mem h; simp [cntL]; omega

end Go.Proofs.YtppagjhmlgkamaaGreatDoor

/-
  The iterators of package tree: ofExpr, ofStmt, hand; the closures of parts and outer.
-/
namespace Go.Proofs.YtppagjhmlgkamaaGreatDoor
open Go Go.RowKit Go.Shelf

theorem wide_fn (f : FuncId) : Fence.wide.fn f = True := by simp [Fence.wide]
theorem wide_depth : Fence.wide.depth.isSome = false := rfl
theorem round_fn (l : Nat) (f : FuncId) : (Fence.wide.inRound l).fn f = True := by simp [Fence.wide, Fence.inRound]
theorem round_depth (l : Nat) : (Fence.wide.inRound l).depth.isSome = false := rfl
attribute [local go_sem] Oper.semAt_some wide_fn wide_depth round_fn round_depth

theorem bcell {B : Nat} {W w1 : World} (hb : Below B W w1) : (∀ b o, b < B → w1.cell? ⟨b, o, none⟩ = W.cell? ⟨b, o, none⟩) ∧ (∀ b o, b < B → w1.frozen? ⟨b, o, none⟩ = W.frozen? ⟨b, o, none⟩) :=
  ⟨fun b o h => hb.cell (p := ⟨b, o, none⟩) h, fun b o h => hb.frozen (p := ⟨b, o, none⟩) h⟩

set_option maxHeartbeats 1000000 in
theorem ofExpr_any (op n : Int) (s : ByteArray) (A : Option Addr) (k cap : Nat) (w : World) :
    Calls Tryz.prog 89 #[.agg #[.int .i64 op, .int .i64 n, .string s, .slice A k cap]] w fun e w' =>
      e = .returned (.agg #[.bool false, .int .i64 op, .string s, .int .i64 n, .slice A k cap, .slice none 0 0, .slice none 0 0]) ∧ Below w.heap.size w w' := by
  go_enter Tryz.func89, Tryz.ntmps89
  go_wp2
  refine bodyPost_ret (v := .agg #[.bool false, .int .i64 op, .string s, .int .i64 n, .slice A k cap, .slice none 0 0, .slice none 0 0]) (by simp [results, Tryz.results89, go_sem]) rfl ⟨rfl, ?_⟩
  exact ((Below.refl _ _).alloc (Nat.le_refl _) _).alloc (by simp) _

set_option maxHeartbeats 1000000 in
theorem ofStmt_any (op n : Int) (s : ByteArray) (A A' A'' : Option Addr) (k cap k' cap' k'' cap'' : Nat) (w : World) :
    Calls Tryz.prog 90 #[.agg #[.int .i64 op, .string s, .int .i64 n, .slice A k cap, .slice A' k' cap', .slice A'' k'' cap'']] w fun e w' =>
      e = .returned (.agg #[.bool true, .int .i64 op, .string s, .int .i64 n, .slice A k cap, .slice A' k' cap', .slice A'' k'' cap'']) ∧ Below w.heap.size w w' := by
  go_enter Tryz.func90, Tryz.ntmps90
  go_wp2
  refine bodyPost_ret (v := .agg #[.bool true, .int .i64 op, .string s, .int .i64 n, .slice A k cap, .slice A' k' cap', .slice A'' k'' cap'']) (by simp [results, Tryz.results90, go_sem]) rfl ⟨rfl, ?_⟩
  exact ((Below.refl _ _).alloc (Nat.le_refl _) _).alloc (by simp) _

/-- An element handed on: its value, what it is, and a bound on how much it holds. -/
structure PX (B : Nat) (w : World) (K : Nat) where
  v : Value
  p : Pt
  h : PV B w v p
  hk : p.cnt ≤ K

theorem room_wide (k : Nat) : Fence.wide.room k := fun d h => by cases h
theorem RoundIn.wide {m m' : Nat} {P : Program} {l : Nat} {f : FuncId} {tmps : Array Value} {assign body : Code} {w : World} {R : Ending → World → Prop}
    (h : RoundIn Fence.wide m P l f tmps assign body w R) : RoundIn Fence.wide m' P l f tmps assign body w R := ⟨h.1, fun c cs _ => h.2 c cs (room_wide _)⟩
theorem YieldAt.wide {m : Nat} (m' : Nat) {P : Program} {l : Nat} {args : Array Value} {W : World} {R : Ending → World → Prop} (h : YieldAt Fence.wide m P l args W R) : YieldAt Fence.wide m' P l args W R := by
  obtain ⟨fn, tmps, assign, body, hy, hR⟩ := h
  exact ⟨fn, tmps, assign, body, hy, RoundIn.wide hR⟩

/-- What a round of the caller's may do. -/
def Rounds (B : Nat) (w0 : World) (K l N : Nat) (J Jx : List (PX B w0 K) → World → Prop) : Prop :=
  ∀ m pre x W, J pre W → pre.length < N → YieldAt Fence.wide m Tryz.prog l #[x.v] W fun e W' =>
    (e = .returned (.bool true) ∧ J (pre ++ [x]) W' ∧ Below B W W') ∨ (e = .returned (.bool false) ∧ Jx (pre ++ [x]) W')

theorem abides_below {β : Type} {B : Nat} {J : β → World → Prop} (h : AbidesFrom B J) {s : β} {W W' : World} (hs : J s W) (hb : Below W.heap.size W W') : J s W' :=
  h s W W' none hs ⟨hb.os, hb.tape, hb.output, hb.size, fun k hk _ => hb.block k hk⟩ (fun r e => by cases e)

def HandRel (B : Nat) (w0 W : World) (K N len : Nat) (J : List (PX B w0 K) → World → Prop) (A : Option Addr) (s : SS) (pre : List (PX B w0 K)) (i : Value) (wr : World) : Prop :=
  ∃ (k : Nat) (xs : List (PX B w0 K)) (r : SS), i = .int .i64 k ∧ s.pts = xs.map (·.p) ++ r.pts ∧ k + r.len = len ∧ r.cnt ≤ K ∧ (0 < r.len → ∃ b o, A = some ⟨b, o, none⟩ ∧ b < B ∧ r.In B w0 b (o + k * 6)) ∧ pre.length + xs.length + r.len ≤ N ∧ J (pre ++ xs) wr ∧ Below B w0 wr ∧ Below B W wr
def HandPost (B : Nat) (w0 W : World) (K : Nat) (J Jx : List (PX B w0 K) → World → Prop) (l : List Pt) (pre : List (PX B w0 K)) (e : Ending) (W' : World) : Prop :=
  (e = .returned (.bool true) ∧ ∃ xs : List (PX B w0 K), xs.map (·.p) = l ∧ J (pre ++ xs) W' ∧ Below B W W') ∨ (e = .returned (.bool false) ∧ ∃ q : List (PX B w0 K), q.map (·.p) <+: l ∧ Jx (pre ++ q) W')

theorem hand_step {n B : Nat} {w0 wr w1 : World} {K l N : Nat} {J Jx : List (PX B w0 K) → World → Prop} (hY : Rounds B w0 K l N J Jx) {BJ : Nat} (hJa : AbidesFrom BJ J) {xs : List (PX B w0 K)} (hJ : J xs wr) (hb : Below wr.heap.size wr w1) (hN : xs.length < N) (x : PX B w0 K) :
    YieldAt Fence.wide n Tryz.prog l #[x.v] w1 fun e W' =>
    (e = .returned (.bool true) ∧ J (xs ++ [x]) W' ∧ Below B w1 W') ∨ (e = .returned (.bool false) ∧ Jx (xs ++ [x]) W') :=
  hY n xs x w1 (abides_below hJa hJ hb) hN

set_option maxRecDepth 100000 in
set_option maxHeartbeats 4000000 in
/-- hand: all have come, or a round has said 'no more'. -/
theorem hand_in (n B : Nat) (w0 : World) (K l N BJ : Nat) (J Jx : List (PX B w0 K) → World → Prop) (hJa : AbidesFrom BJ J) (hY : Rounds B w0 K l N J Jx)
    (A : Option Addr) (cap : Nat) (s : SS) (pre : List (PX B w0 K)) (W : World) (hs : SV B w0 (.slice A s.len cap) s) (hB0 : B ≤ w0.heap.size) (hK : s.cnt ≤ K) (hW : Below B w0 W) (hJ : J pre W) (hN : pre.length + s.len ≤ N) :
    CallsIn Fence.wide n Tryz.prog 57 #[.slice A s.len cap, .func (.yield l) #[] #[]] W (HandPost B w0 W K J Jx s.pts pre) := by
  obtain ⟨A', cap', e1, hc1, hc2, hrow⟩ := hs
  injection e1 with e2 e3 e4
  subst e2 e4
  clear e3
  obtain ⟨len, hlen⟩ : ∃ len, s.len = len := ⟨_, rfl⟩
  rw [hlen] at hc1 hrow hN ⊢
  have HL := Lib.hid hlen; clear hlen
  refine callsIn_of_wp Tryz.func57 rfl trivial ?_ rfl
  simp only [Tryz.ntmps57, List.size_toArray, List.length_cons, List.length_nil, Nat.reduceAdd, Nat.reduceSub, Array.replicate_succ, Array.replicate_zero, List.push_toArray, List.append_toArray, List.nil_append, List.cons_append]
  gi_wp2
  gi_loopw [9] (fun i wr => HandRel B w0 W K N len J A s pre i wr) (fun i _ => len - (intOf i).toNat)
  case atStart =>
    exact ⟨0, [], s, rfl, rfl, by have := HL.out; omega, hK, by simpa [HL.out] using hrow, by simp [HL.out]; omega, by simpa using hJ, hW, Below.refl _ _⟩
  case round =>
    obtain ⟨k, xs, r, rfl, hp, hk, hrK, hrow', hN', hJ', hW', hW''⟩ := hrel
    cases r with
    | nil =>
      have hk0 : k = len := by simpa [SS.len] using hk
      subst hk0
      clear hk hrow hrow'
      have HP := Lib.hid hp; clear hp
      gi_wp2
      go_ret
      exact .inl ⟨rfl, xs, by rw [HP.out]; simp [SS.pts], hJ', hW''⟩
    | cons op s1 n1 l1 b1 e1 r =>
      obtain ⟨b, o, rfl, hb, c0, c1, c2, ⟨v3, c3, h3⟩, ⟨v4, c4, h4⟩, ⟨v5, c5, h5⟩, h6, hr⟩ := hrow' (by simp [SS.len])
      clear hrow hrow'
      obtain ⟨A3, cap3, rfl, _⟩ := id h3
      obtain ⟨A4, cap4, rfl, _⟩ := id h4
      obtain ⟨A5, cap5, rfl, _⟩ := id h5
      have hlt : k < len := by simp [SS.len] at hk; omega
      have hN2 : (pre ++ xs).length < N := by simp [SS.len] at hN' ⊢; omega
      have d0 := (hW'.cell (p := ⟨b, o + k * 6, none⟩) hb).trans c0
      have d1 := (hW'.cell (p := ⟨b, o + k * 6 + 1, none⟩) hb).trans c1
      have d2 := (hW'.cell (p := ⟨b, o + k * 6 + 2, none⟩) hb).trans c2
      have d3 := (hW'.cell (p := ⟨b, o + k * 6 + 3, none⟩) hb).trans c3
      have d4 := (hW'.cell (p := ⟨b, o + k * 6 + 4, none⟩) hb).trans c4
      have d5 := (hW'.cell (p := ⟨b, o + k * 6 + 5, none⟩) hb).trans c5
      clear c0 c1 c2 c3 c4 c5
      have hcnt : (Pt.mk true op s1 n1 l1 b1 e1).cnt ≤ K ∧ r.cnt ≤ K := by simp only [SS.cnt, Pt.cnt] at hrK ⊢; omega
      obtain ⟨x, hxv, hxp⟩ : ∃ x : PX B w0 K, x.v = .agg #[.bool true, .int .i64 op, .string s1, .int .i64 n1, .slice A3 l1.len cap3, .slice A4 b1.len cap4, .slice A5 e1.len cap5] ∧ x.p = ⟨true, op, s1, n1, l1, b1, e1⟩ :=
        ⟨⟨_, ⟨true, op, s1, n1, l1, b1, e1⟩, ⟨_, _, _, rfl, h3, h4, h5, h6⟩, hcnt.1⟩, rfl, rfl⟩
      have HY := fun w1 (hb : Below wr.heap.size wr w1) => hand_step (n := n - 1) hY hJa hJ' hb hN2 x
      rw [hxv] at HY
      have HXP := Lib.hid hxp
      clear hxv hxp
      have HP := Lib.hid hp; clear hp
      have HK := Lib.hid hk; clear hk
      gi_wp2_with (first
        | (gi_at_call 90; refine (callsIn_wide.2 (ofStmt_any _ _ _ _ _ _ _ _ _ _ _ _ _)).mono ?_; rintro e w1 ⟨rfl, hb1⟩; have hb2 : Below wr.heap.size wr w1 := ((Below.refl _ _).alloc (Nat.le_refl _) _).trans (hb1.mono (by simp)); obtain ⟨fn, tmps, assign, body, hy, hR⟩ := HY w1 hb2)
        | (refine hR.mono ?_; clear hR; rintro e W3 (⟨rfl, hJ3, hb3⟩ | ⟨rfl, hJx3⟩)))
      · go_roundw
        case rel =>
          have hb4 : Below B wr W3 := (hb2.mono (by have := hW'.size; omega)).trans hb3
          refine ⟨k + 1, xs ++ [x], r, by go_num, ?_, ?_, hcnt.2, fun h => ⟨b, o, rfl, hb, ?_⟩, ?_, ?_, hW'.trans hb4, hW''.trans hb4⟩
          · rw [HP.out]; simp [SS.pts, HXP.out]
          · have := HK.out; simp [SS.len] at this; omega
          · rw [show o + (k + 1) * 6 = o + k * 6 + 6 by omega]; exact hr
          · simp [SS.len] at hN' ⊢; omega
          · simpa [List.append_assoc] using hJ3
        case measure => simp [intOf]; omega
      · go_ret
        refine .inr ⟨rfl, xs ++ [x], ⟨r.pts, by rw [HP.out]; simp [SS.pts, HXP.out]⟩, by simpa [List.append_assoc] using hJx3⟩

end Go.Proofs.YtppagjhmlgkamaaGreatDoor

/-
  The closures of (part).parts and outer: what they hand on; 'SeqStopsK' for each.
-/
namespace Go.Proofs.YtppagjhmlgkamaaGreatDoor
open Go Go.RowKit Go.Shelf

attribute [local go_sem] Oper.semAt_some wide_fn wide_depth round_fn round_depth

theorem cell_new (w : World) (cs : Array Value) (t : TypeId) (i : Nat) : (w.alloc (.cells cs t)).cell? ⟨w.heap.size, i, none⟩ = cs[i]? := by
  have h := World.alloc_heap_new w (.cells cs t)
  simp only [World.cell?, h]
  rfl
theorem sv_nil (B : Nat) (w : World) : SV B w (.slice none 0 0) .nil := ⟨none, 0, rfl, Nat.le_refl _, by decide, fun h => by simp [SS.len] at h⟩
theorem ev_nil (B : Nat) (w : World) : EV B w (.slice none 0 0) .nil := ⟨none, 0, rfl, Nat.le_refl _, by decide, fun h => by simp [ES.len] at h⟩
/-- A part's box: its seven cells. -/
structure BoxP (w : World) (B Bp : Nat) (p : Pt) (A3 : Option Addr) (cap3 : Nat) (A4 : Option Addr) (cap4 : Nat) (A5 : Option Addr) (cap5 : Nat) : Prop where
  lt : Bp < B
  c4 : w.cell? ⟨Bp, 4, none⟩ = some (.slice A3 p.l.len cap3)
  c5 : w.cell? ⟨Bp, 5, none⟩ = some (.slice A4 p.b.len cap4)
  c6 : w.cell? ⟨Bp, 6, none⟩ = some (.slice A5 p.e.len cap5)
  h3 : EV B w (.slice A3 p.l.len cap3) p.l
  h4 : SV B w (.slice A4 p.b.len cap4) p.b
  h5 : SV B w (.slice A5 p.e.len cap5) p.e

def PartsRel (B : Nat) (w0 : World) (K N len : Nat) (J : List (PX B w0 K) → World → Prop) (A : Option Addr) (s : ES) (i : Value) (wr : World) : Prop :=
  ∃ (k : Nat) (xs : List (PX B w0 K)) (r : ES), i = .int .i64 k ∧ s.pts = xs.map (·.p) ++ r.pts ∧ k + r.len = len ∧ r.cnt ≤ K ∧ (0 < r.len → ∃ b o, A = some ⟨b, o, none⟩ ∧ b < B ∧ r.In B w0 b (o + k * 4)) ∧ xs.length + r.len + N ≤ s.len + N ∧ J xs wr ∧ Below B w0 wr

def AllPost (B : Nat) (w0 : World) (K : Nat) (J Jx : List (PX B w0 K) → World → Prop) (l : List Pt) (e : Ending) (W' : World) : Prop :=
  (∃ v, e = .returned v) ∧ ((∃ xs : List (PX B w0 K), xs.map (·.p) = l ∧ J xs W') ∨ (∃ pre : List (PX B w0 K), pre.map (·.p) <+: l ∧ Jx pre W'))

/-- Two lists of statements handed on, one behind the other. -/
theorem hand_two (n B : Nat) (w0 : World) (K l N BJ : Nat) (J Jx : List (PX B w0 K) → World → Prop) (hJa : AbidesFrom BJ J) (hY : Rounds B w0 K l N J Jx)
    (A A' : Option Addr) (cap cap' : Nat) (s s' : SS) (pre : List (PX B w0 K)) (W : World) (hs : SV B w0 (.slice A s.len cap) s) (hs' : SV B w0 (.slice A' s'.len cap') s') (hB0 : B ≤ w0.heap.size) (hK : s.cnt ≤ K) (hK' : s'.cnt ≤ K) (hW : Below B w0 W) (hJ : J pre W) (hN : pre.length + (s.len + s'.len) ≤ N)
    (p : Addr) (v : Value) (hp : p.block < B) (hv : w0.cell? p = some v) :
    CallsIn Fence.wide n Tryz.prog 57 #[.slice A s.len cap, .func (.yield l) #[] #[]] W fun e W' =>
      (e = .returned (.bool true) ∧ W'.cell? p = some v ∧ ∃ xs : List (PX B w0 K), Hid (xs.map (·.p) = s.pts) ∧ CallsIn Fence.wide n Tryz.prog 57 #[.slice A' s'.len cap', .func (.yield l) #[] #[]] W' (HandPost B w0 W' K J Jx s'.pts (pre ++ xs))) ∨
      (e = .returned (.bool false) ∧ ∃ q : List (PX B w0 K), q.map (·.p) <+: s.pts ∧ Jx (pre ++ q) W') :=
  (hand_in n B w0 K l N BJ J Jx hJa hY A cap s pre W hs hB0 hK hW hJ (by omega)).mono fun e W' h => h.elim
    (fun ⟨he, xs, hxs, hJ', hb⟩ => .inl ⟨he, ((hW.trans hb).cell hp).trans hv, xs, Lib.hid hxs, hand_in n B w0 K l N BJ J Jx hJa hY A' cap' s' (pre ++ xs) W' hs' hB0 hK' (hW.trans hb) hJ' (by
      have : xs.length = s.len := by rw [← SS.pts_len, ← hxs, List.length_map]
      simp; omega)⟩) .inr

set_option maxRecDepth 100000 in
set_option maxHeartbeats 4000000 in
theorem parts1_in (n B Bp : Nat) (w0 : World) (K l BJ : Nat) (p : Pt) (A3 A4 A5 : Option Addr) (cap3 cap4 cap5 : Nat) (hbox : BoxP w0 B Bp p A3 cap3 A4 cap4 A5 cap5) (hB0 : B ≤ w0.heap.size)
    (J Jx : List (PX B w0 K) → World → Prop) (hJa : AbidesFrom BJ J) (hY : Rounds B w0 K l p.sub.length J Jx) (W : World) (hW : Below B w0 W) (hJ : J [] W) (hK : cntL p.sub ≤ K) :
    CallsIn Fence.wide n Tryz.prog 88 #[.func (.yield l) #[] #[], .pointer (some ⟨Bp, 0, none⟩)] W (AllPost B w0 K J Jx p.sub) := by
  obtain ⟨N, hN⟩ : ∃ N, p.sub.length = N := ⟨_, rfl⟩
  rw [hN] at hY
  have hN' : p.l.len + (p.b.len + p.e.len) = N := by rw [← hN]; simp [Pt.sub, ES.pts_len, SS.pts_len]
  have hKK : p.l.cnt ≤ K ∧ p.b.cnt ≤ K ∧ p.e.cnt ≤ K := by simp [Pt.sub, cntL_append, ES.cntL, SS.cntL] at hK; omega
  clear hN hK
  obtain ⟨hlt, cc4, cc5, cc6, h3, h4, h5⟩ := hbox
  obtain ⟨A', cap', e1, hc1, hc2, hrow⟩ := id h3
  injection e1 with e2 e3 e4
  subst e2 e4
  clear e3
  obtain ⟨len, hlen⟩ : ∃ len, p.l.len = len := ⟨_, rfl⟩
  rw [hlen] at hc1 hrow hN' cc4
  have e4 := (hW.cell (p := ⟨Bp, 4, none⟩) hlt).trans cc4
  have HL := Lib.hid hlen; clear hlen
  have HN := Lib.hid hN'; clear hN'
  refine callsIn_of_wp Tryz.func88 rfl trivial ?_ rfl
  simp only [Tryz.ntmps88, List.size_toArray, List.length_cons, List.length_nil, Nat.reduceAdd, Nat.reduceSub, Array.replicate_succ, Array.replicate_zero, List.push_toArray, List.append_toArray, List.nil_append, List.cons_append]
  gi_wp2
  gi_loopw [9] (fun i wr => PartsRel B w0 K N len J A3 p.l i wr) (fun i _ => len - (intOf i).toNat)
  case atStart =>
    exact ⟨0, [], p.l, rfl, rfl, by have := HL.out; omega, hKK.1, by simpa [HL.out] using hrow, by simp, hJ, hW⟩
  case round =>
    obtain ⟨k, xs, r, rfl, hp, hk, hrK, hrow', hN', hJ', hW'⟩ := hrel
    have hpl : xs.length + r.len = len := by
      have := congrArg List.length hp
      simp [ES.pts_len] at this
      have := HL.out
      omega
    cases r with
    | nil =>
      have hk0 : k = len := by simpa [ES.len] using hk
      subst hk0
      clear hk hrow hrow'
      have e5 := (hW'.cell (p := ⟨Bp, 5, none⟩) hlt).trans cc5
      have H1 := hand_two (n - 1) B w0 K l N BJ J Jx hJa hY A4 A5 cap4 cap5 p.b p.e xs wr h4 h5 hB0 hKK.2.1 hKK.2.2 hW' hJ' (by have := HN.out; simp [ES.len] at hpl; omega) ⟨Bp, 6, none⟩ _ hlt cc6
      have HP := Lib.hid hp; clear hp
      have HPL := Lib.hid hpl; clear hpl
      clear cc4 cc5 cc6 e4 hN'
      gi_wp2_with (first
        | (gi_at_call 57; refine H1.mono ?_; clear H1; rintro e W2 (⟨rfl, e6, ys, HYS, H2⟩ | ⟨rfl, q, hq, hx⟩))
        | (gi_at_call 57; refine H2.mono ?_; clear H2; rintro e W3 (⟨rfl, zs, hzs, hJ3, hb3⟩ | ⟨rfl, q, hq, hx⟩)))
      · go_end0
        exact ⟨⟨_, rfl⟩, .inl ⟨xs ++ ys ++ zs, by simp [Pt.sub, HP.out, HYS.out, hzs, ES.pts], hJ3⟩⟩
      · go_end0
        obtain ⟨t, ht⟩ := hq
        exact ⟨⟨_, rfl⟩, .inr ⟨xs ++ ys ++ q, ⟨t, by simp [Pt.sub, HP.out, HYS.out, ← ht, ES.pts]⟩, hx⟩⟩
      · go_end0
        obtain ⟨t, ht⟩ := hq
        exact ⟨⟨_, rfl⟩, .inr ⟨xs ++ q, ⟨t ++ p.e.pts, by simp [Pt.sub, HP.out, ← ht, ES.pts]⟩, hx⟩⟩
    | cons op n1 s1 l1 r =>
      obtain ⟨b, o, rfl, hb, c0, c1, c2, ⟨v3, c3, h3'⟩, h6, hr⟩ := hrow' (by simp [ES.len])
      clear hrow hrow'
      obtain ⟨A6, cap6, rfl, _⟩ := id h3'
      have hlt2 : k < len := by simp [ES.len] at hk; omega
      have hN2 : xs.length < N := by have := HN.out; simp [ES.len] at hpl; omega
      have d0 := (hW'.cell (p := ⟨b, o + k * 4, none⟩) hb).trans c0
      have d1 := (hW'.cell (p := ⟨b, o + k * 4 + 1, none⟩) hb).trans c1
      have d2 := (hW'.cell (p := ⟨b, o + k * 4 + 2, none⟩) hb).trans c2
      have d3 := (hW'.cell (p := ⟨b, o + k * 4 + 3, none⟩) hb).trans c3
      clear c0 c1 c2 c3 cc4 cc5 cc6 e4
      have hcnt : (Pt.mk false op s1 n1 l1 .nil .nil).cnt ≤ K ∧ r.cnt ≤ K := by simp only [ES.cnt, SS.cnt, Pt.cnt] at hrK ⊢; omega
      obtain ⟨x, hxv, hxp⟩ : ∃ x : PX B w0 K, x.v = .agg #[.bool false, .int .i64 op, .string s1, .int .i64 n1, .slice A6 l1.len cap6, .slice none 0 0, .slice none 0 0] ∧ x.p = ⟨false, op, s1, n1, l1, .nil, .nil⟩ :=
        ⟨⟨_, ⟨false, op, s1, n1, l1, .nil, .nil⟩, ⟨_, _, _, rfl, h3', sv_nil _ _, sv_nil _ _, h6⟩, hcnt.1⟩, rfl, rfl⟩
      have HY := fun w1 (hb : Below wr.heap.size wr w1) => hand_step (n := n - 1) hY hJa hJ' hb hN2 x
      rw [hxv] at HY
      have HXP := Lib.hid hxp
      clear hxv hxp
      have HP := Lib.hid hp; clear hp
      have HK := Lib.hid hk; clear hk
      have HPL := Lib.hid hpl; clear hpl
      gi_wp2_with (first
        | (gi_at_call 89; refine (callsIn_wide.2 (ofExpr_any _ _ _ _ _ _ _)).mono ?_; rintro e w1 ⟨rfl, hb1⟩; have hb2 : Below wr.heap.size wr w1 := ((Below.refl _ _).alloc (Nat.le_refl _) _).trans (hb1.mono (by simp)); obtain ⟨fn, tmps, assign, body, hy, hR⟩ := HY w1 hb2)
        | (refine hR.mono ?_; clear hR; rintro e W3 (⟨rfl, hJ3, hb3⟩ | ⟨rfl, hJx3⟩)))
      · go_roundw
        case rel =>
          have hb4 : Below B wr W3 := (hb2.mono (by have := hW'.size; omega)).trans hb3
          refine ⟨k + 1, xs ++ [x], r, by go_num, ?_, ?_, hcnt.2, fun h => ⟨b, o, rfl, hb, ?_⟩, ?_, hJ3, hW'.trans hb4⟩
          · rw [HP.out]; simp [ES.pts, HXP.out]
          · have := HK.out; simp [ES.len] at this; omega
          · rw [show o + (k + 1) * 4 = o + k * 4 + 4 by omega]; exact hr
          · simp [ES.len] at hN' ⊢; omega
        case measure => simp [intOf]; omega
      · refine bodyPost_ret (results_none rfl _ _ _) rfl ?_
        refine ⟨⟨_, rfl⟩, .inr ⟨xs ++ [x], ⟨r.pts ++ (p.b.pts ++ p.e.pts), by simp [Pt.sub, HP.out, ES.pts, HXP.out]⟩, hJx3⟩⟩

/-- p.parts(): the part is boxed; the function value captures the box. -/
theorem parts_any (c0 : Bool) (c1 c3 : Int) (c2 : ByteArray) (A3 A4 A5 : Option Addr) (k3 k4 k5 cap3 cap4 cap5 : Nat) (w : World) :
    Calls Tryz.prog 55 #[.agg #[.bool c0, .int .i64 c1, .string c2, .int .i64 c3, .slice A3 k3 cap3, .slice A4 k4 cap4, .slice A5 k5 cap5]] w fun e w' =>
      e = .returned (.func (.func 88) #[] #[.pointer (some ⟨w.heap.size, 0, none⟩)]) ∧ w.alloc (.cells #[.bool c0, .int .i64 c1, .string c2, .int .i64 c3, .slice A3 k3 cap3, .slice A4 k4 cap4, .slice A5 k5 cap5] 94) = w' := by
  go_enter Tryz.func55, Tryz.ntmps55
  go_wp2
  go_ret
  exact ⟨rfl, rfl⟩

/-- An iterator that hands on the parts of l. -/
def SeqP (B : Nat) (w : World) (g : Nat) (lb : Array Value) (K : Nat) (l : List Pt) : Prop :=
  ∀ n, SeqStopsK Fence.wide n Tryz.prog g lb (fun x : PX B w K => #[x.v]) (Below B) (fun xs => xs.map (·.p) = l) (fun pre => pre.map (·.p) <+: l) l.length w

theorem parts_seq (B Bp : Nat) (w : World) (K : Nat) (p : Pt) (A3 A4 A5 : Option Addr) (cap3 cap4 cap5 : Nat) (hbox : BoxP w B Bp p A3 cap3 A4 cap4 A5 cap5) (hB0 : B ≤ w.heap.size) (hK : cntL p.sub ≤ K) :
    SeqP B w 88 #[.pointer (some ⟨Bp, 0, none⟩)] K p.sub := by
  intro n l J Jx W hW hJ _ hY h0
  exact parts1_in n B Bp w K l _ p A3 A4 A5 cap3 cap4 cap5 hbox hB0 J Jx hJ (fun m pre x W1 hj hl => YieldAt.wide m (hY pre x W1 hj hl)) W (hW.mono hB0) h0 hK

/-- What p.parts() hands back, in a world in which p's own slices lie. -/
theorem parts_new (w : World) (B K : Nat) (p : Pt) (A3 A4 A5 : Option Addr) (cap3 cap4 cap5 : Nat) (hB : B ≤ w.heap.size) (h3 : EV B w (.slice A3 p.l.len cap3) p.l) (h4 : SV B w (.slice A4 p.b.len cap4) p.b) (h5 : SV B w (.slice A5 p.e.len cap5) p.e) (hK : cntL p.sub ≤ K) (o : Obj)
    (ho : o = .cells #[.bool p.st, .int .i64 p.op, .string p.s, .int .i64 p.n, .slice A3 p.l.len cap3, .slice A4 p.b.len cap4, .slice A5 p.e.len cap5] 94) :
    SeqP (w.heap.size + 1) (w.alloc o) 88 #[.pointer (some ⟨w.heap.size, 0, none⟩)] K p.sub := by
  subst ho
  have hb : Below B w (w.alloc (.cells #[.bool p.st, .int .i64 p.op, .string p.s, .int .i64 p.n, .slice A3 p.l.len cap3, .slice A4 p.b.len cap4, .slice A5 p.e.len cap5] 94)) := (Below.refl _ _).alloc hB _
  refine parts_seq _ w.heap.size _ K p A3 A4 A5 cap3 cap4 cap5 ⟨by omega, by rw [cell_new]; rfl, by rw [cell_new]; rfl, by rw [cell_new]; rfl, h3.below hb (by omega), h4.below hb (by omega), h5.below hb (by omega)⟩ (by simp) hK

end Go.Proofs.YtppagjhmlgkamaaGreatDoor

/-
  deepest, count, allRight: each over whatever iterator hands on the parts of l.
-/
namespace Go.Proofs.YtppagjhmlgkamaaGreatDoor
open Go Go.RowKit Go.Shelf

attribute [local go_sem] Oper.semAt_some wide_fn wide_depth round_fn round_depth

def ES.deep : ES → Int
  | .nil => 0
  | .cons _ _ _ l r => max (wrap64 (1 + l.deep)) r.deep
def SS.deep : SS → Int
  | .nil => 0
  | .cons _ _ _ l b e r => max (wrap64 (1 + max l.deep (max b.deep e.deep))) r.deep
def Pt.deep (p : Pt) : Int := max p.l.deep (max p.b.deep p.e.deep)
def deepL : List Pt → Int
  | [] => 0
  | p :: r => max (wrap64 (1 + p.deep)) (deepL r)
theorem deepL_nn : ∀ l, 0 ≤ deepL l
  | [] => Int.le_refl _
  | p :: r => by have := deepL_nn r; simp only [deepL]; omega
theorem deepL_append : ∀ a b, deepL (a ++ b) = max (deepL a) (deepL b)
  | [], b => by have := deepL_nn b; simp only [List.nil_append, deepL]; omega
  | p :: r, b => by simp only [List.cons_append, deepL, deepL_append r b]; omega
theorem ES.deep_nn : ∀ l : ES, 0 ≤ l.deep
  | .nil => Int.le_refl _
  | .cons _ _ _ l r => by have := ES.deep_nn r; simp only [ES.deep]; omega
theorem SS.deep_nn : ∀ l : SS, 0 ≤ l.deep
  | .nil => Int.le_refl _
  | .cons _ _ _ _ _ _ r => by have := SS.deep_nn r; simp only [SS.deep]; omega
theorem ES.deepL : ∀ l : ES, deepL l.pts = l.deep
  | .nil => rfl
  | .cons _ _ _ l r => by
    have := ES.deep_nn l
    simp only [ES.pts, Go.Proofs.YtppagjhmlgkamaaGreatDoor.deepL, ES.deep, Pt.deep, ES.deepL r, SS.deep]
    rw [show max l.deep (max (0 : Int) 0) = l.deep by omega]
theorem SS.deepL : ∀ l : SS, deepL l.pts = l.deep
  | .nil => rfl
  | .cons _ _ _ l b e r => by simp only [SS.pts, Go.Proofs.YtppagjhmlgkamaaGreatDoor.deepL, SS.deep, Pt.deep, SS.deepL r]
theorem Pt.deepL (p : Pt) : deepL p.sub = p.deep := by
  simp only [Pt.sub, deepL_append, ES.deepL, SS.deepL, Pt.deep]
theorem deepL_snoc (l : List Pt) (p : Pt) : deepL (l ++ [p]) = max (deepL l) (wrap64 (1 + p.deep)) := by
  have := deepL_nn l
  rw [deepL_append]
  simp only [deepL]
  omega

theorem cells_own {β : Type} (B : Nat) (cs : Array Value) (t : TypeId) : Own (fun (_ : β) W => W.heap[B]? = some (.cells cs t (0, 0))) := fun s X Y row hs hg hrow =>
  (hg.block B (Array.getElem?_eq_some_iff.1 hs).1 (fun e' => by obtain ⟨o, ho, hc⟩ := hrow B e'.symm; rw [hs] at ho; cases ho; cases hc)).trans hs

/-- The loop variable's box. -/
def PBox {B : Nat} {w : World} {K : Nat} (W : World) (Bx : Nat) (x : PX B w K) (A3 : Option Addr) (cap3 : Nat) (A4 : Option Addr) (cap4 : Nat) (A5 : Option Addr) (cap5 : Nat) : Prop :=
  x.v = .agg #[.bool x.p.st, .int .i64 x.p.op, .string x.p.s, .int .i64 x.p.n, .slice A3 x.p.l.len cap3, .slice A4 x.p.b.len cap4, .slice A5 x.p.e.len cap5] ∧
  EV B w (.slice A3 x.p.l.len cap3) x.p.l ∧ SV B w (.slice A4 x.p.b.len cap4) x.p.b ∧ SV B w (.slice A5 x.p.e.len cap5) x.p.e ∧
  W.heap[Bx]? = some (.cells #[.bool x.p.st, .int .i64 x.p.op, .string x.p.s, .int .i64 x.p.n, .slice A3 x.p.l.len cap3, .slice A4 x.p.b.len cap4, .slice A5 x.p.e.len cap5] 94 (0, 0))

theorem px_slices {B : Nat} {w : World} {K : Nat} (x : PX B w K) : ∃ A3 cap3 A4 cap4 A5 cap5,
    x.v = .agg #[.bool x.p.st, .int .i64 x.p.op, .string x.p.s, .int .i64 x.p.n, .slice A3 x.p.l.len cap3, .slice A4 x.p.b.len cap4, .slice A5 x.p.e.len cap5] ∧
    EV B w (.slice A3 x.p.l.len cap3) x.p.l ∧ SV B w (.slice A4 x.p.b.len cap4) x.p.b ∧ SV B w (.slice A5 x.p.e.len cap5) x.p.e := by
  obtain ⟨vl, vb, ve, e, h3, h4, h5, _⟩ := x.h
  obtain ⟨A3, cap3, rfl, _⟩ := id h3
  obtain ⟨A4, cap4, rfl, _⟩ := id h4
  obtain ⟨A5, cap5, rfl, _⟩ := id h5
  exact ⟨A3, cap3, A4, cap4, A5, cap5, e, h3, h4, h5⟩

theorem keeps_below {B : Nat} {W W' : World} (hb : Below W.heap.size W W') : KeepsFrom B W W' :=
  KeepsFrom.of_grownBy (row := none) ⟨hb.os, hb.tape, hb.output, hb.size, fun k hk _ => hb.block k hk⟩ (fun j e => by cases e)
theorem round_done {B : Nat} {w W W2 : World} {v v' : Value} {t : TypeId} (hb : Below W.heap.size W W2) (bS : Boxed W w.heap.size t v) (hB1 : Below w.heap.size w W) :
    KeepsFrom B W (W2.setCell ⟨w.heap.size, 0, none⟩ v') ∧ Below w.heap.size W (W2.setCell ⟨w.heap.size, 0, none⟩ v') ∧ Boxed (W2.setCell ⟨w.heap.size, 0, none⟩ v') w.heap.size t v' ∧ Below w.heap.size w (W2.setCell ⟨w.heap.size, 0, none⟩ v') := by
  have hb' := hb.mono hB1.size
  refine ⟨(keeps_below hb).trans ((KeepsOthers.setCell _ _ _).from _), hb'.setCell (Nat.le_refl _) _, ?_, (hB1.trans hb').setCell (Nat.le_refl _) _⟩
  exact (bS.kept (row := none) ⟨hb.os, hb.tape, hb.output, hb.size, fun k hk _ => hb.block k hk⟩ (by simp)).set _
theorem wrapEq (x : Int) : IntKind.i64.wrap x = wrap64 x := by rw [IntKind.wrap_i64]; unfold wrap64; rfl
theorem deep_if {B : Nat} {w : World} {K : Nat} (pre : List (PX B w K)) (x : PX B w K) :
    (if deepL (pre.map fun x => x.p) < IntKind.i64.wrap (1 + deepL x.p.sub) then IntKind.i64.wrap (1 + deepL x.p.sub) else deepL (pre.map fun x => x.p)) = deepL ((pre ++ [x]).map fun x => x.p) := by
  rw [List.map_append, List.map_cons, List.map_nil, deepL_snoc, wrapEq, Pt.deepL]
  split <;> omega
theorem wrap_def (x : Int) : wrap64 x = (x + 9223372036854775808) % 18446744073709551616 - 9223372036854775808 := by unfold wrap64; rfl
theorem cnt_snoc {B : Nat} {w : World} {K : Nat} (pre : List (PX B w K)) (x : PX B w K) :
    IntKind.i64.wrap (wrap64 (cntL (pre.map fun x => x.p)) + IntKind.i64.wrap (1 + wrap64 (cntL x.p.sub))) = wrap64 (cntL ((pre ++ [x]).map fun x => x.p)) := by
  rw [List.map_append, List.map_cons, List.map_nil, cntL_append, wrapEq, wrapEq]
  simp only [cntL, Pt.cnt_sub x.p, wrap_def]
  omega

set_option maxRecDepth 100000 in
set_option maxHeartbeats 4000000 in
theorem deepest_any (K : Nat) : ∀ (g : Nat) (lb : Array Value) (l : List Pt) (w : World), (∀ args w, (callFunc g args).run Tryz.prog w = .ok (.enter g args) w) → SeqP w.heap.size w g lb K l →
    Calls Tryz.prog 37 #[.func (.func g) #[] lb] w fun e w' => e = .returned (.int .i64 (deepL l)) ∧ Below w.heap.size w w' := by
  induction K using Nat.strongRecOn with
  | ind K ih =>
    intro g lb l w eg hseq
    refine (callsIn_wide (n := 9)).1 ?_
    refine callsIn_of_wp_marks Tryz.func37 rfl trivial ?_ rfl
    simp only [Tryz.ntmps37, List.size_toArray, List.length_cons, List.length_nil, Nat.reduceAdd, Nat.reduceSub, Array.replicate_succ, Array.replicate_zero, List.push_toArray, List.append_toArray, List.nil_append, List.cons_append]
    gi_wp2
    have bS := Boxed.new w 3 (.int .i64 0)
    have hB0 : Below w.heap.size w (w.alloc (.cells #[.int .i64 0] 3)) := (Below.refl _ w).alloc (Nat.le_refl _) _
    have hsz : (w.alloc (.cells #[.int .i64 0] 3)).heap.size = w.heap.size + 1 := by simp
    obtain ⟨W0, hW0⟩ : ∃ W0, w.alloc (.cells #[.int .i64 0] 3) = W0 := ⟨_, rfl⟩
    rw [hW0] at bS hB0 hsz ⊢
    clear hW0
    refine wpIn_rangeFunc_ownH rfl (by decide) (gf := g) (lb := lb) rfl trivial eg (hseq _) belowK_t (belowK_b (by omega)) hB0 (fun _ => rfl)
      (fun pre W => Boxed W w.heap.size 3 (.int .i64 (deepL (pre.map (·.p)))) ∧ Below w.heap.size w W)
      (fun _ _ _ => False)
      (OwnFrom.and (Own.from (boxed_own _ _ _) _) (ownFrom_below (Nat.le_refl _) (by omega)))
      (fun _ _ _ _ _ hs _ _ => hs)
      ⟨bS, hB0⟩
      (fun x a' W => ∃ Bx A3 cap3 A4 cap4 A5 cap5, w.heap.size < Bx ∧ PBox W Bx x A3 cap3 A4 cap4 A5 cap5 ∧ a' = { tmps := #[.func (.func g) #[] lb, undef, .int .i64 0, .pointer (some ⟨w.heap.size, 0, none⟩), .pointer (some ⟨Bx, 0, none⟩), .func (.func g) #[] lb, x.v, undef, undef, undef, undef, undef, undef, undef], defers := [] })
      (fun x a' _ X Y row hs hg hr => by
        obtain ⟨Bx, A3, cap3, A4, cap4, A5, cap5, h1, ⟨h2, h3, h4, h5, h6⟩, h7⟩ := hs
        exact ⟨Bx, A3, cap3, A4, cap4, A5, cap5, h1, ⟨h2, h3, h4, h5, cells_own Bx _ _ () X Y row h6 hg (fun r e => (hr r e).2)⟩, h7⟩)
      ?assign ?body ?done ?stop
    case assign =>
      rintro l pre x W K ⟨bS1, hB1⟩ hK
      obtain ⟨A3, cap3, A4, cap4, A5, cap5, hv, h3, h4, h5⟩ := px_slices x
      have HB : PBox (W.alloc (.cells #[.bool x.p.st, .int .i64 x.p.op, .string x.p.s, .int .i64 x.p.n, .slice A3 x.p.l.len cap3, .slice A4 x.p.b.len cap4, .slice A5 x.p.e.len cap5] 94)) W.heap.size x A3 cap3 A4 cap4 A5 cap5 := ⟨hv, h3, h4, h5, World.alloc_heap_new W _⟩
      have hK' := hK _ _ ((KeepsOthers.alloc _ _).from _) ((Below.refl _ W).alloc hB1.size _) ⟨bS1.alloc _, hB1.alloc hB1.size _⟩ ⟨W.heap.size, A3, cap3, A4, cap4, A5, cap5, bS1.lt, HB, rfl⟩
      clear hK HB h3 h4 h5
      rw [hv] at hK' ⊢
      clear hv
      gi_wp2
      exact hK'
    case body =>
      rintro l pre x a' W hl ⟨r, hr⟩ ⟨bS1, hB1⟩ ⟨Bx, A3, cap3, A4, cap4, A5, cap5, hBx, ⟨hv, h3, h4, h5, hbx⟩, rfl⟩ hlt
      have hmx : Tryz.prog.follows .mixedOrders = true := by kernel_rfl
      have hsub : cntL x.p.sub < K := by have := x.hk; rw [Pt.cnt_sub] at this; omega
      have HS := fun (W1 : World) (hb : Below w.heap.size w W1) => parts_new W1 w.heap.size (cntL x.p.sub) x.p A3 A4 A5 cap3 cap4 cap5 hb.size (h3.below hb (Nat.le_refl _)) (h4.below hb (Nat.le_refl _)) (h5.below hb (Nat.le_refl _)) (Nat.le_refl _) _ rfl
      have IH := fun (W1 : World) (hb : Below w.heap.size w W1) => ih _ hsub 88 #[.pointer (some ⟨W1.heap.size, 0, none⟩)] x.p.sub (W1.alloc _) (enters_of Tryz.func88 (by kernel_rfl) rfl) (by rw [World.size_alloc]; exact HS W1 hb)
      clear HS ih h3 h4 h5
      have x0 : W.cell? ⟨Bx, 0, none⟩ = some (.bool x.p.st) := by simp [World.cell?, hbx]
      have x1 : W.cell? ⟨Bx, 1, none⟩ = some (.int .i64 x.p.op) := by simp [World.cell?, hbx]
      have x2 : W.cell? ⟨Bx, 2, none⟩ = some (.string x.p.s) := by simp [World.cell?, hbx]
      have x3 : W.cell? ⟨Bx, 3, none⟩ = some (.int .i64 x.p.n) := by simp [World.cell?, hbx]
      have x4 : W.cell? ⟨Bx, 4, none⟩ = some (.slice A3 x.p.l.len cap3) := by simp [World.cell?, hbx]
      have x5 : W.cell? ⟨Bx, 5, none⟩ = some (.slice A4 x.p.b.len cap4) := by simp [World.cell?, hbx]
      have x6 : W.cell? ⟨Bx, 6, none⟩ = some (.slice A5 x.p.e.len cap5) := by simp [World.cell?, hbx]
      have hBxl : Bx < W.heap.size := (Array.getElem?_eq_some_iff.1 hbx).1
      have HV := Lib.hid hv
      clear hbx hv
      have cS := bS1.cell
      have fS := bS1.frozen
      have hsS := bS1.lt
      have I1 := IH W hB1
      have I2 := IH W.drew hB1.drew
      simp only [World.alloc_drew, World.size_drew] at I2
      clear IH
      gi_wp2
      gi_region_with_o (first
        | (gi_at_call 55; ((with_reducible refine (CallsIn.inRound l (callsIn_wide.2 (parts_any _ _ _ _ _ _ _ _ _ _ _ _ _ _))).mono ?_); rintro e w1 ⟨rfl, rfl⟩))
        | (gi_at_call 37; ((with_reducible refine (CallsIn.inRound l (callsIn_wide.2 I2)).mono ?_); rintro e w2 ⟨rfl, hb2⟩; obtain ⟨hc2, hf2⟩ := bcell hb2; simp only [World.size_alloc] at hc2 hf2))
        | (gi_at_call 37; ((with_reducible refine (CallsIn.inRound l (callsIn_wide.2 I1)).mono ?_); rintro e w2 ⟨rfl, hb2⟩; obtain ⟨hc2, hf2⟩ := bcell hb2; simp only [World.size_alloc] at hc2 hf2)))
      all_goals
        have hbW : Below W.heap.size W w2 := by first | exact ((Below.refl _ W).alloc (Nat.le_refl _) _).trans (hb2.mono (by simp)) | exact (((Below.refl _ W).alloc (Nat.le_refl _) _).drew).trans (hb2.mono (by simp))
        rw [deep_if pre x]
        exact round_done hbW bS1 hB1
    case done =>
      rintro D xs W hD hxs ⟨bS1, hB1⟩ hK
      have cS := bS1.cell
      gi_wp2
      refine ⟨by simp, .inl ⟨_, _, rfl, run_takeDeferred hK, ?_⟩⟩
      exact ⟨_, results_tmp rfl _ _ _, by rw [← hxs]; rfl, hB1.trans (belowK_b (w := w) (Nat.le_refl _) W D _ _ (by omega) hK rfl rfl)⟩
    case stop =>
      rintro D c pre W _ _ h _
      exact h.elim

end Go.Proofs.YtppagjhmlgkamaaGreatDoor

/-
  Programs in memory; outer: what stands in no other part; Depth, Size.
-/
namespace Go.Proofs.YtppagjhmlgkamaaGreatDoor
open Go Go.RowKit Go.Shelf

attribute [local go_sem] Oper.semAt_some wide_fn wide_depth round_fn round_depth

/-- A function; a program. -/
structure Fn where
  s : ByteArray
  ps : List ByteArray
  b : SS
structure Pg where
  fs : List Fn
  m : SS

/-- Texts lie one behind the other. -/
def PsIn (W : World) : List ByteArray → Nat → Nat → Prop
  | [] => fun _ _ => True
  | s :: r => fun b o => W.cell? ⟨b, o, none⟩ = some (.string s) ∧ s.size ≤ 9223372036854775807 ∧ PsIn W r b (o + 1)
/-- Functions lie one behind the other. -/
def FsIn (B : Nat) (W : World) : List Fn → Nat → Nat → Prop
  | [] => fun _ _ => True
  | f :: r => fun b o => W.cell? ⟨b, o, none⟩ = some (.string f.s) ∧ (∃ v, W.cell? ⟨b, o + 1, none⟩ = some v ∧ RowV (PsIn W f.ps) B f.ps.length v) ∧
      (∃ v, W.cell? ⟨b, o + 2, none⟩ = some v ∧ SV B W v f.b) ∧ f.s.size ≤ 9223372036854775807 ∧ FsIn B W r b (o + 3)
abbrev FV (B : Nat) (W : World) (v : Value) (l : List Fn) : Prop := RowV (FsIn B W l) B l.length v

theorem PsIn.below {B : Nat} {W W' : World} (h : Below B W W') : ∀ {l : List ByteArray} {b o : Nat}, b < B → PsIn W l b o → PsIn W' l b o
  | [], _, _, _, _ => trivial
  | _ :: _, b, o, hb, ⟨h0, h1, hr⟩ => ⟨(h.cell (p := ⟨b, o, none⟩) hb).trans h0, h1, PsIn.below h hb hr⟩
theorem FsIn.below {B B' : Nat} {W W' : World} (h : Below B W W') (hB : B ≤ B') : ∀ {l : List Fn} {b o : Nat}, b < B → FsIn B W l b o → FsIn B' W' l b o
  | [], _, _, _, _ => trivial
  | _ :: _, b, o, hb, ⟨h0, ⟨v, h1, hp⟩, ⟨v', h2, hs⟩, h3, hr⟩ =>
    ⟨(h.cell (p := ⟨b, o, none⟩) hb).trans h0, ⟨v, (h.cell (p := ⟨b, o + 1, none⟩) hb).trans h1, hp.imp hB fun _ _ hb' hq => PsIn.below h hb' hq⟩,
      ⟨v', (h.cell (p := ⟨b, o + 2, none⟩) hb).trans h2, hs.below h hB⟩, h3, FsIn.below h hB hb hr⟩
theorem FV.below {B B' : Nat} {W W' : World} {v : Value} {l : List Fn} (hv : FV B W v l) (h : Below B W W') (hB : B ≤ B') : FV B' W' v l := RowV.imp hv hB fun _ _ hb hp => FsIn.below h hB hb hp

def fsPts : List Fn → List Pt
  | [] => []
  | f :: r => f.b.pts ++ fsPts r
def Pg.pts (p : Pg) : List Pt := fsPts p.fs ++ p.m.pts

/-- A program's value. -/
def PgV (B : Nat) (W : World) (v : Value) (p : Pg) : Prop :=
  ∃ A cap A' cap', v = .agg #[.slice A p.fs.length cap, .slice A' p.m.len cap'] ∧ FV B W (.slice A p.fs.length cap) p.fs ∧ SV B W (.slice A' p.m.len cap') p.m
theorem PgV.below {B B' : Nat} {W W' : World} {v : Value} {p : Pg} (hv : PgV B W v p) (h : Below B W W') (hB : B ≤ B') : PgV B' W' v p := by
  obtain ⟨A, cap, A', cap', e, h1, h2⟩ := hv
  exact ⟨A, cap, A', cap', e, h1.below h hB, h2.below h hB⟩

/-- A program's box. -/
structure BoxG (w : World) (B Bp : Nat) (p : Pg) (A : Option Addr) (cap : Nat) (A' : Option Addr) (cap' : Nat) : Prop where
  lt : Bp < B
  c0 : w.cell? ⟨Bp, 0, none⟩ = some (.slice A p.fs.length cap)
  c1 : w.cell? ⟨Bp, 1, none⟩ = some (.slice A' p.m.len cap')
  h0 : FV B w (.slice A p.fs.length cap) p.fs
  h1 : SV B w (.slice A' p.m.len cap') p.m

def OutRel (B : Nat) (w0 : World) (K len : Nat) (J : List (PX B w0 K) → World → Prop) (A : Option Addr) (p : Pg) (i : Value) (wr : World) : Prop :=
  ∃ (k : Nat) (xs : List (PX B w0 K)) (r : List Fn), i = .int .i64 k ∧ fsPts p.fs = xs.map (·.p) ++ fsPts r ∧ k + r.length = len ∧ cntL (fsPts r) ≤ K ∧ (0 < r.length → ∃ b o, A = some ⟨b, o, none⟩ ∧ b < B ∧ FsIn B w0 r b (o + k * 3)) ∧ J xs wr ∧ Below B w0 wr

set_option maxRecDepth 100000 in
set_option maxHeartbeats 4000000 in
theorem outer1_in (n B Bp : Nat) (w0 : World) (K l BJ : Nat) (p : Pg) (A A' : Option Addr) (cap cap' : Nat) (hbox : BoxG w0 B Bp p A cap A' cap') (hB0 : B ≤ w0.heap.size)
    (J Jx : List (PX B w0 K) → World → Prop) (hJa : AbidesFrom BJ J) (hY : Rounds B w0 K l p.pts.length J Jx) (W : World) (hW : Below B w0 W) (hJ : J [] W) (hK : cntL p.pts ≤ K) :
    CallsIn Fence.wide n Tryz.prog 56 #[.func (.yield l) #[] #[], .pointer (some ⟨Bp, 0, none⟩)] W (AllPost B w0 K J Jx p.pts) := by
  obtain ⟨N, hN⟩ : ∃ N, p.pts.length = N := ⟨_, rfl⟩
  rw [hN] at hY
  have hN' : (fsPts p.fs).length + p.m.len = N := by rw [← hN]; simp [Pg.pts, SS.pts_len]
  have hKK : cntL (fsPts p.fs) ≤ K ∧ p.m.cnt ≤ K := by simp [Pg.pts, cntL_append, SS.cntL] at hK; omega
  clear hN hK
  obtain ⟨hlt, cc0, cc1, h0, h1⟩ := hbox
  obtain ⟨A1, cap1, e1, hc1, hc2, hrow⟩ := id h0
  injection e1 with e2 e3 e4
  subst e2 e4
  clear e3
  obtain ⟨len, hlen⟩ : ∃ len, p.fs.length = len := ⟨_, rfl⟩
  rw [hlen] at hc1 hrow cc0
  have e0 := (hW.cell (p := ⟨Bp, 0, none⟩) hlt).trans cc0
  have HL := Lib.hid hlen; clear hlen
  have HN := Lib.hid hN'; clear hN'
  refine callsIn_of_wp Tryz.func56 rfl trivial ?_ rfl
  simp only [Tryz.ntmps56, List.size_toArray, List.length_cons, List.length_nil, Nat.reduceAdd, Nat.reduceSub, Array.replicate_succ, Array.replicate_zero, List.push_toArray, List.append_toArray, List.nil_append, List.cons_append]
  gi_wp2
  gi_loopw [8] (fun i wr => OutRel B w0 K len J A p i wr) (fun i _ => len - (intOf i).toNat)
  case atStart =>
    exact ⟨0, [], p.fs, rfl, rfl, by have := HL.out; omega, hKK.1, by simpa [HL.out] using hrow, hJ, hW⟩
  case round =>
    obtain ⟨k, xs, r, rfl, hp, hk, hrK, hrow', hJ', hW'⟩ := hrel
    have hpl : xs.length + (fsPts r).length + p.m.len = N := by
      have := congrArg List.length hp
      simp at this
      have := HN.out
      omega
    cases r with
    | nil =>
      have hk0 : k = len := by simpa using hk
      subst hk0
      clear hk hrow hrow'
      have e1 := (hW'.cell (p := ⟨Bp, 1, none⟩) hlt).trans cc1
      have H1 := hand_in (n - 1) B w0 K l N BJ J Jx hJa hY A' cap' p.m xs wr h1 hB0 hKK.2 hW' hJ' (by simp [fsPts] at hpl; omega)
      have HP := Lib.hid hp; clear hp
      clear cc0 cc1 e0 hpl
      gi_wp2_with (gi_at_call 57; refine H1.mono ?_; clear H1; rintro e W3 (⟨rfl, zs, hzs, hJ3, hb3⟩ | ⟨rfl, q, hq, hx⟩))
      · go_end0
        exact ⟨⟨_, rfl⟩, .inl ⟨xs ++ zs, by simp [Pg.pts, HP.out, hzs, fsPts], hJ3⟩⟩
      · go_end0
        obtain ⟨t, ht⟩ := hq
        exact ⟨⟨_, rfl⟩, .inr ⟨xs ++ q, ⟨t, by simp [Pg.pts, HP.out, ← ht, fsPts]⟩, hx⟩⟩
    | cons f r =>
      obtain ⟨b, o, rfl, hb, c0, ⟨v1, c1, h1'⟩, ⟨v2, c2, h2'⟩, h6, hr⟩ := hrow' (by simp)
      clear hrow hrow'
      obtain ⟨A6, cap6, rfl, _⟩ := id h1'
      obtain ⟨A7, cap7, rfl, _⟩ := id h2'
      have hlt2 : k < len := by simp at hk; omega
      have d0 := (hW'.cell (p := ⟨b, o + k * 3, none⟩) hb).trans c0
      have d1 := (hW'.cell (p := ⟨b, o + k * 3 + 1, none⟩) hb).trans c1
      have d2 := (hW'.cell (p := ⟨b, o + k * 3 + 2, none⟩) hb).trans c2
      clear c0 c1 c2 cc0 cc1 e0
      have hcnt : f.b.cnt ≤ K ∧ cntL (fsPts r) ≤ K := by simp only [fsPts, cntL_append, SS.cntL] at hrK; omega
      have hsz := hW'.size
      have HH := fun o => hand_in (n - 1) B w0 K l N BJ J Jx hJa hY A7 cap7 f.b xs (wr.alloc o) h2' hB0 hcnt.1 (hW'.trans ((Below.refl _ _).alloc (by omega) _)) (abides_below hJa hJ' ((Below.refl _ _).alloc (Nat.le_refl _) _)) (by simp [fsPts, SS.pts_len] at hpl; omega)
      have HP := Lib.hid hp; clear hp
      have HK := Lib.hid hk; clear hk
      have HPL := Lib.hid hpl; clear hpl
      gi_wp2_with (gi_at_call 57; refine (HH _).mono ?_; clear HH; rintro e W3 (⟨rfl, zs, hzs, hJ3, hb3⟩ | ⟨rfl, q, hq, hx⟩))
      · go_roundw
        case rel =>
          have hb4 : Below B wr W3 := ((Below.refl _ _).alloc (by omega) _).trans hb3
          refine ⟨k + 1, xs ++ zs, r, by go_num, ?_, ?_, hcnt.2, fun h => ⟨b, o, rfl, hb, ?_⟩, hJ3, hW'.trans hb4⟩
          · rw [HP.out]; simp [fsPts, hzs]
          · have := HK.out; simp at this; omega
          · rw [show o + (k + 1) * 3 = o + k * 3 + 3 by omega]; exact hr
        case measure => simp [intOf]; omega
      · refine bodyPost_ret (results_none rfl _ _ _) rfl ?_
        obtain ⟨t, ht⟩ := hq
        exact ⟨⟨_, rfl⟩, .inr ⟨xs ++ q, ⟨t ++ (fsPts r ++ p.m.pts), by simp [Pg.pts, HP.out, fsPts, ← ht]⟩, hx⟩⟩

theorem outer_any (A A' : Option Addr) (k cap k' cap' : Nat) (w : World) :
    Calls Tryz.prog 28 #[.agg #[.slice A k cap, .slice A' k' cap']] w fun e w' =>
      e = .returned (.func (.func 56) #[] #[.pointer (some ⟨w.heap.size, 0, none⟩)]) ∧ w.alloc (.cells #[.slice A k cap, .slice A' k' cap'] 25) = w' := by
  go_enter Tryz.func28, Tryz.ntmps28
  go_wp2
  go_ret
  exact ⟨rfl, rfl⟩

/-- What outer(p) hands back. -/
theorem outer_new (w : World) (B : Nat) (p : Pg) (A A' : Option Addr) (cap cap' : Nat) (hB : B ≤ w.heap.size) (h0 : FV B w (.slice A p.fs.length cap) p.fs) (h1 : SV B w (.slice A' p.m.len cap') p.m) (o : Obj)
    (ho : o = .cells #[.slice A p.fs.length cap, .slice A' p.m.len cap'] 25) :
    SeqP (w.alloc o).heap.size (w.alloc o) 56 #[.pointer (some ⟨w.heap.size, 0, none⟩)] (cntL p.pts) p.pts := by
  subst ho
  rw [World.size_alloc]
  have hb : Below B w (w.alloc (.cells #[.slice A p.fs.length cap, .slice A' p.m.len cap'] 25)) := (Below.refl _ _).alloc hB _
  intro n l J Jx W hW hJ _ hY h
  exact outer1_in n _ w.heap.size _ _ l _ p A A' cap cap' ⟨by omega, by rw [cell_new]; rfl, by rw [cell_new]; rfl, h0.below hb (by omega), h1.below hb (by omega)⟩ (by simp) J Jx hJ (fun m pre x W1 hj hl => YieldAt.wide m (hY pre x W1 hj hl)) W (hW.mono (by simp)) h (Nat.le_refl _)

theorem enters_outer : ∀ args w, (callFunc 56 args).run Tryz.prog w = .ok (.enter 56 args) w := enters_of Tryz.func56 (by kernel_rfl) rfl

set_option maxHeartbeats 1000000 in
theorem depth_any (v : Value) (p : Pg) (w : World) (B : Nat) (hB : B ≤ w.heap.size) (hv : PgV B w v p) :
    Calls Tryz.prog 17 #[v] w fun e w' => e = .returned (.int .i64 (deepL p.pts)) ∧ Below w.heap.size w w' := by
  obtain ⟨A, cap, A', cap', rfl, h0, h1⟩ := hv
  have HD := deepest_any _ _ _ _ _ enters_outer (outer_new (w.alloc (.cells #[.slice A p.fs.length cap, .slice A' p.m.len cap'] 25)) B p A A' cap cap' (by simp; omega) (h0.below ((Below.refl _ _).alloc hB _) (Nat.le_refl _)) (h1.below ((Below.refl _ _).alloc hB _) (Nat.le_refl _)) _ rfl)
  simp only [World.size_alloc] at HD
  clear h0 h1
  go_enter Tryz.func17, Tryz.ntmps17
  go_wp2_with (first
    | (go_at_call 28; ((with_reducible refine (outer_any _ _ _ _ _ _ _).mono ?_); rintro e w1 ⟨rfl, rfl⟩))
    | (go_at_call 37; ((with_reducible refine HD.mono ?_); rintro e w2 ⟨rfl, hb2⟩)))
  go_ret
  exact ⟨rfl, (((Below.refl _ _).alloc (Nat.le_refl _) _).alloc (by simp) _).trans (hb2.mono (by omega))⟩

end Go.Proofs.YtppagjhmlgkamaaGreatDoor

/-
  Plain mathematics for the statements of layer 1 (wrap): what Parse tells, as a function on lists of bytes. No program is named here.
-/
namespace Go.Proofs.YtppagjhmlgkamaaGreatDoor
open Go

/-- The digits one by one, as Parse goes through them: the number so far, and what is left of the text. -/
def pgo : Int → List UInt8 → Option Int
  | n, [] => some n
  | n, c :: l => if 48 ≤ (c.toNat : Int) ∧ (c.toNat : Int) ≤ 57 ∧ n ≤ (9223372036854775807 - ((c.toNat : Int) - 48)) / 10 then pgo (n * 10 + ((c.toNat : Int) - 48)) l else none

/-- What Parse tells of a text's bytes. -/
def parseL (l : List UInt8) : Option Int := if l = [] ∨ (1 < l.length ∧ l.head? = some 48) then none else pgo 0 l
def pval (l : List UInt8) : Int := (parseL l).getD 0
def pok (l : List UInt8) : Bool := (parseL l).isSome

theorem pgo_cons (n : Int) (c : UInt8) (l : List UInt8) : pgo n (c :: l) = if 48 ≤ (c.toNat : Int) ∧ (c.toNat : Int) ≤ 57 ∧ n ≤ (9223372036854775807 - ((c.toNat : Int) - 48)) / 10 then pgo (n * 10 + ((c.toNat : Int) - 48)) l else none := by
  rw [pgo]

theorem pgo_bounds : ∀ (l : List UInt8) (n v : Int), 0 ≤ n → n ≤ 9223372036854775807 → pgo n l = some v → 0 ≤ v ∧ v ≤ 9223372036854775807
  | [], n, v, h0, h1, h => by
    have : n = v := by simpa [pgo] using h
    omega
  | c :: l, n, v, h0, h1, h => by
    rw [pgo_cons] at h
    split at h
    · rename_i hc
      exact pgo_bounds l _ v (by omega) (by omega) h
    · cases h

theorem parseL_bounds {l : List UInt8} {v : Int} (h : parseL l = some v) : 0 ≤ v ∧ v ≤ 9223372036854775807 := by
  unfold parseL at h
  split at h
  · cases h
  · exact pgo_bounds l 0 v (by omega) (by omega) h

theorem parse_none {l : List UInt8} (h : parseL l = none) : pval l = 0 ∧ pok l = false := by simp [pval, pok, h]
theorem parse_some {l : List UInt8} {v : Int} (h : parseL l = some v) : pval l = v ∧ pok l = true := by simp [pval, pok, h]

/- The operations of A1, on numbers of 64 bits. -/
def gAdd (a b : Int) : Int := RowKit.wrap64 (a + b)
def gSub (a b : Int) : Int := RowKit.wrap64 (a - b)
def gMul (a b : Int) : Int := RowKit.wrap64 (a * b)
def gNeg (a : Int) : Int := RowKit.wrap64 (-a)
def g01 (p : Bool) : Int := if p then 1 else 0
def gNot (a : Int) : Int := g01 (a == 0)
def gLess (a b : Int) : Int := g01 (decide (a < b))
def gSame (a b : Int) : Int := g01 (a == b)
def gAnd (a b : Int) : Int := bits BinOp.and IntKind.i64 a b
def gOr (a b : Int) : Int := bits BinOp.or IntKind.i64 a b
def gDiv (a b : Int) : Int := if b = 0 then 0 else RowKit.wrap64 (a.tdiv b)
def gMod (a b : Int) : Int := if b = 0 then 0 else a.tmod b
def nz (b : Int) : Bool := !(b == 0)

/-- A number of 64 bits. -/

instance (a : Int) : Decidable (I64 a) := by unfold I64; infer_instance

theorem drop_at (s : ByteArray) (k : Nat) (h : k < s.size) : s.data.toList.drop k = s[k] :: s.data.toList.drop (k + 1) := by
  rw [List.drop_eq_getElem_cons (by simpa using h)]; rfl

end Go.Proofs.YtppagjhmlgkamaaGreatDoor

/-
  What package parse tells, as functions on tokens (plain). 'out' says that the count of steps handed in was too small: no real input comes there.
-/
namespace Go.Proofs.YtppagjhmlgkamaaGreatDoor
open Go

inductive PR (α : Type) where
  | ok (v : α) (r : List Tok)
  | bad (p c : Nat)
  | out
def PR.bind {α β : Type} (x : PR α) (f : α → List Tok → PR β) : PR β :=
  match x with
  | .ok v r => f v r
  | .bad p c => .bad p c
  | .out => .out
def hdT (ts : List Tok) : Tok := ts.headD ⟨4, [], 0⟩
def isT (ts : List Tok) (s : List UInt8) : Bool := decide ((hdT ts).text = s)
def baT (l : List UInt8) : ByteArray := ⟨l.toArray⟩

/-- An expression; a statement. -/
structure Ex where
  op : Int
  n : Int
  s : ByteArray
  l : ES
def toES (e : Ex) (r : ES) : ES := .cons e.op e.n e.s e.l r
def exES : List Ex → ES
  | [] => .nil
  | e :: r => toES e (exES r)
structure Sm where
  op : Int
  s : ByteArray
  n : Int
  l : ES
  x : SS
  y : SS
def toSS (t : Sm) (r : SS) : SS := .cons t.op t.s t.n t.l t.x t.y r
def smSS : List Sm → SS
  | [] => .nil
  | t :: r => toSS t (smSS r)
def nilS : ByteArray := ⟨#[]⟩

def wantT (s : List UInt8) (ts : List Tok) : PR Unit := if isT ts s then .ok () ts.tail else .bad (hdT ts).at_ 2
def enterT (s : List UInt8) (o : Nat) (ts : List Tok) : PR Unit := if isT ts s then (if o = 256 then .bad (hdT ts).at_ 3 else .ok () ts.tail) else .bad (hdT ts).at_ 2
def nameT (ts : List Tok) : PR ByteArray := if nameB (baT (hdT ts).text) then .ok (baT (hdT ts).text) ts.tail else .bad (hdT ts).at_ 2
def numT (low high : Int) (ts : List Tok) : PR Int :=
  if (hdT ts).kind = 2 then
    match parseL (hdT ts).text with
    | some n => if n < low ∨ high < n then .bad (hdT ts).at_ 1 else .ok n ts.tail
    | none => .bad (hdT ts).at_ 1
  else .bad (hdT ts).at_ 2
/-- An operation of two, and how strongly it binds. -/
def opT (l : List UInt8) : Int × Nat :=
  if l = [124] then (16, 1) else if l = [38] then (15, 2) else if l = [61, 61] then (14, 3) else if l = [60] then (13, 3) else if l = [43] then (8, 4) else if l = [45] then (9, 4)
  else if l = [42] then (10, 5) else if l = [47] then (11, 5) else if l = [37] then (12, 5) else (0, 0)

section
variable {α : Type}
def moreT (one : List Tok → PR α) : Nat → List α → List Tok → PR (List α)
  | 0, _, _ => .out
  | m + 1, l, ts =>
    if isT ts [44] then (if l.length = 8 then .bad (hdT ts.tail).at_ 10 else (one ts.tail).bind fun x r => moreT one m (l ++ [x]) r)
    else (wantT [41] ts).bind fun _ r => .ok l r
def severalT (one : List Tok → PR α) (m o : Nat) (ts : List Tok) : PR (List α) :=
  (enterT [40] o ts).bind fun _ r => if isT r [41] then (wantT [41] r).bind fun _ r => .ok [] r else (one r).bind fun x r => moreT one m [x] r
end

section
variable (ex : Nat → Nat → List Tok → PR Ex)
def withinT (a b : List UInt8) (o : Nat) (ts : List Tok) : PR Ex :=
  (enterT a o ts).bind fun _ r => (ex 1 (o + 1) r).bind fun e r => (wantT b r).bind fun _ r => .ok e r
def namedT (m o : Nat) (ts : List Tok) : PR Ex :=
  (nameT ts).bind fun s r =>
    if isT r [91] then (withinT ex [91] [93] o r).bind fun e r => .ok ⟨4, 0, s, toES e .nil⟩ r
    else if isT r [40] then (severalT (ex 1 (o + 1)) m o r).bind fun l r => .ok ⟨5, 0, s, exES l⟩ r
    else .ok ⟨2, 0, s, .nil⟩ r
def singleT : Nat → Nat → List Tok → PR Ex
  | 0, _, _ => .out
  | m + 1, o, ts =>
    if isT ts [45] then (enterT [45] o ts).bind fun _ r => (singleT m (o + 1) r).bind fun e r => .ok ⟨6, 0, nilS, toES e .nil⟩ r
    else if isT ts [33] then (enterT [33] o ts).bind fun _ r => (singleT m (o + 1) r).bind fun e r => .ok ⟨7, 0, nilS, toES e .nil⟩ r
    else if isT ts [40] then withinT ex [40] [41] o ts
    else if isT ts [99, 108, 111, 99, 107] then .ok ⟨3, 0, nilS, .nil⟩ ts.tail
    else if (hdT ts).kind = 2 then (numT 0 9223372036854775807 ts).bind fun n r => .ok ⟨1, n, nilS, .nil⟩ r
    else namedT ex (m + 1) o ts
def loopT : Nat → Nat → Ex → Nat → List Tok → PR Ex
  | 0, _, _, _, _ => .out
  | m + 1, least, e, o, ts =>
    if (opT (hdT ts).text).2 < least then .ok e ts
    else (ex ((opT (hdT ts).text).2 + 1) o ts.tail).bind fun e2 r => loopT m least ⟨(opT (hdT ts).text).1, 0, nilS, toES e (toES e2 .nil)⟩ o r
end
/-- An expression whose operations of two bind at least that strongly; so many are open. -/
def exT : Nat → Nat → Nat → List Tok → PR Ex
  | 0, _, _, _ => .out
  | n + 1, least, o, ts => (singleT (exT n) (n + 1) o ts).bind fun e r => loopT (exT n) (n + 1) least e o r

def bodyT (one : List Tok → PR Sm) : Nat → List Sm → List Tok → PR (List Sm)
  | 0, _, _ => .out
  | m + 1, l, ts => if isT ts [125] then (wantT [125] ts).bind fun _ r => .ok l r else (one ts).bind fun t r => bodyT one m (l ++ [t]) r
def blockT (one : List Tok → PR Sm) (m o : Nat) (ts : List Tok) : PR (List Sm) := (enterT [123] o ts).bind fun _ r => bodyT one m [] r
def tellT (n : Nat) (op : Int) (o : Nat) (ts : List Tok) : PR Sm := (exT n 1 o ts).bind fun e r => .ok ⟨op, nilS, 0, toES e .nil, .nil, .nil⟩ r
def storeT (n o : Nat) (ts : List Tok) : PR Sm :=
  (nameT ts).bind fun s r =>
    if isT r [91] then (withinT (exT n) [91] [93] o r).bind fun i r => (wantT [61] r).bind fun _ r => (exT n 1 o r).bind fun e r => .ok ⟨2, s, 0, toES i (toES e .nil), .nil, .nil⟩ r
    else (wantT [61] r).bind fun _ r => (exT n 1 o r).bind fun e r => .ok ⟨1, s, 0, toES e .nil, .nil, .nil⟩ r
def semiT (x : PR Sm) : PR Sm := x.bind fun t r => (wantT [59] r).bind fun _ r => .ok t r
/-- A statement. -/
def smT : Nat → Nat → List Tok → PR Sm
  | 0, _, _ => .out
  | n + 1, o, ts =>
    if isT ts [97, 114, 114, 97, 121] then semiT ((nameT ts.tail).bind fun s r => (numT 1 4096 r).bind fun k r => .ok ⟨3, s, k, .nil, .nil, .nil⟩ r)
    else if isT ts [105, 110, 112, 117, 116] then semiT ((nameT ts.tail).bind fun s r => .ok ⟨4, s, 0, .nil, .nil, .nil⟩ r)
    else if isT ts [112, 114, 105, 110, 116] then semiT (tellT (n + 1) 5 o ts.tail)
    else if isT ts [107, 101, 101, 112] then semiT (tellT (n + 1) 6 o ts.tail)
    else if isT ts [114, 101, 116, 117, 114, 110] then semiT (tellT (n + 1) 9 o ts.tail)
    else if isT ts [105, 102] then
      (tellT (n + 1) 7 o ts.tail).bind fun t r => (blockT (smT n (o + 1)) (n + 1) o r).bind fun b r =>
        if isT r [101, 108, 115, 101] then (blockT (smT n (o + 1)) (n + 1) o r.tail).bind fun c r => .ok ⟨7, nilS, 0, t.l, smSS b, smSS c⟩ r
        else .ok ⟨7, nilS, 0, t.l, smSS b, .nil⟩ r
    else if isT ts [119, 104, 105, 108, 101] then (tellT (n + 1) 8 o ts.tail).bind fun t r => (blockT (smT n (o + 1)) (n + 1) o r).bind fun b r => .ok ⟨8, nilS, 0, t.l, smSS b, .nil⟩ r
    else semiT (storeT (n + 1) o ts)
def outerT (n o : Nat) (ts : List Tok) : PR Sm := (smT n o ts).bind fun t r => if 64 < (toSS t .nil).deep then .bad (hdT ts).at_ 3 else .ok t r
def funcT (n : Nat) (ts : List Tok) : PR Fn :=
  (wantT [102, 117, 110, 99] ts).bind fun _ r => (nameT r).bind fun s r => (severalT nameT n 0 r).bind fun ps r => (blockT (outerT n 1) n 0 r).bind fun b r => .ok ⟨s, ps, smSS b⟩ r
def funcsT (n : Nat) : Nat → List Fn → List Tok → PR (List Fn)
  | 0, _, _ => .out
  | m + 1, l, ts => if isT ts [102, 117, 110, 99] then (if l.length = 32 then .bad (hdT ts).at_ 10 else (funcT n ts).bind fun f r => funcsT n m (l ++ [f]) r) else .ok l ts
def mainT (n : Nat) : Nat → List Sm → List Tok → PR (List Sm)
  | 0, _, _ => .out
  | m + 1, l, ts => if (hdT ts).kind = 4 then .ok l ts else (outerT n 0 ts).bind fun t r => mainT n m (l ++ [t]) r
/-- A program. -/
def progT (n : Nat) (ts : List Tok) : PR Pg := (funcsT n n [] ts).bind fun fs r => (mainT n n [] r).bind fun m r => .ok ⟨fs, smSS m⟩ r

end Go.Proofs.YtppagjhmlgkamaaGreatDoor

/-
  The contract of wrap.Parse, at every string: it tells what 'parseL' tells of the text's bytes; of what was there nothing has turned.
-/
namespace Go.Proofs.YtppagjhmlgkamaaGreatDoor
open Go Go.RowKit Go.Lib

/-- What is told of a number that is, or of none. -/
def told (o : Option Int) : Ending := .returned (.tuple #[.int .i64 (o.getD 0), .bool o.isSome])

/-- What holds at the head of each round of Parse's loop: the digits ahead of pos are done. -/
def ParseAt (s : ByteArray) (w : World) (v : Value) (wr : World) : Prop :=
  ∃ (pos : Nat) (n : Int), pos ≤ s.size ∧ 0 ≤ n ∧ n ≤ 9223372036854775807 ∧ v = .int .i64 n ∧ wr.heap[w.heap.size]? = some (.stringIter s pos) ∧ Below w.heap.size w wr ∧ pgo n (s.data.toList.drop pos) = pgo 0 s.data.toList

theorem pgo_no {s : ByteArray} {pos : Nat} {n c : Int} (hp : pos < s.size) (hc : c = ((s[pos]'hp).toNat : Int)) (h : c < 48 ∨ 57 < c ∨ (9223372036854775807 - (c - 48)) / 10 < n) : pgo n (s.data.toList.drop pos) = none := by
  rw [drop_at s pos hp, pgo_cons, if_neg (by omega)]

theorem pgo_yes {s : ByteArray} {pos : Nat} {n c : Int} (hp : pos < s.size) (hc : c = ((s[pos]'hp).toNat : Int)) (h : 48 ≤ c ∧ c ≤ 57 ∧ n ≤ (9223372036854775807 - (c - 48)) / 10) : pgo n (s.data.toList.drop pos) = pgo (n * 10 + (c - 48)) (s.data.toList.drop (pos + 1)) := by
  subst hc
  rw [drop_at s pos hp, pgo_cons, if_pos h]

theorem told_none : told none = .returned (.tuple #[.int .i64 0, .bool false]) := rfl
theorem told_some (n : Int) : told (some n) = .returned (.tuple #[.int .i64 n, .bool true]) := rfl

set_option maxHeartbeats 800000 in
set_option maxRecDepth 100000 in
theorem parse_loop1 (s : ByteArray) (w : World) (hs : s.size ≤ 9223372036854775807) (h0 : 0 < s.size) (h1 : (s.size : Int) ≤ 1) :
    Calls Tryz.prog 122 #[.string s] w fun e w' => e = told (pgo 0 s.data.toList) ∧ Below w.heap.size w w' := by
  have e1 : ¬ s.toList = [] := by
    rw [ByteArray.toList_eq]
    intro h
    have : s.data.toList.length = s.size := rfl
    rw [h] at this; simp at this; omega
  have e2 : s.toList.isEmpty = false := by simpa using e1
  go_enter Tryz.func122, Tryz.ntmps122
  go_wp2
  clear e1 e2
  go_loopw [4] (fun v wr => ParseAt s w v wr) (fun _ wr => s.size - wr.iterPos w.heap.size)
  case atStart =>
    refine ⟨0, 0, by omega, by omega, by omega, rfl, ?_, (Below.refl _ w).alloc (Nat.le_refl _) _, rfl⟩
    simpa using World.iter_heap w s 0
  case round =>
    obtain ⟨pos, n, hp1, hn0, hn1, rfl, hit, hbw, hgo⟩ := hrel
    have HG := Lib.hid hgo; clear hgo
    have hsz : w.heap.size < wr.heap.size := (Array.getElem?_eq_some_iff.1 hit).1
    by_cases hp : pos < s.size
    · by_cases ha : (s[pos]'hp).toNat < 128
      · have hbw2 := Lib.below_iterAt hbw (k := w.heap.size) (by omega) s (pos + 1)
        have hit2 := Lib.iterAt_heap wr (w.heap.size) s pos (pos + 1) hit
        have hnx : ∀ ty, (Instr.next (.pointer (some ⟨w.heap.size, 0, none⟩)) true ty).run Tryz.prog wr = _ := fun ty => Lib.run_next_ascii_at wr (w.heap.size) s pos ty hit hp ha
        obtain ⟨c, hc⟩ : ∃ c : Int, c = ((s[pos]'hp).toNat : Int) := ⟨_, rfl⟩
        rw [← hc] at hnx
        have hc0 : 0 ≤ c := by omega
        have hc1 : c < 128 := by omega
        have HC := Lib.hid hc; clear hc
        go_wp2
        · go_ret2
          exact ⟨by rw [← HG.out, pgo_no hp HC.out (by omega)]; rfl, hbw2⟩
        · go_ret2
          exact ⟨by rw [← HG.out, pgo_no hp HC.out (by omega)]; rfl, hbw2⟩
        · refine ⟨⟨pos + 1, _, by omega, by omega, by omega, rfl, hit2, hbw2, ?_⟩, ?_⟩
          · rw [← HG.out, pgo_yes hp HC.out (by omega)]
          · simp only [World.iterPos, hit2, hit]
            omega
        · go_ret2
          exact ⟨by rw [← HG.out, pgo_no hp HC.out (by omega)]; rfl, hbw2⟩
      · have hd := decode_high s pos hp (by omega)
        have hd1 := decode_le s pos
        have hbw2 := Lib.below_iterAt hbw (k := w.heap.size) (by omega) s (pos + (Utf8.decode s pos).2)
        have hnx : ∀ ty, (Instr.next (.pointer (some ⟨w.heap.size, 0, none⟩)) true ty).run Tryz.prog wr = _ := fun ty => Lib.run_next_any_at wr (w.heap.size) s pos ty hit hp
        obtain ⟨c, hc⟩ : ∃ c : Int, c = ((Utf8.decode s pos).1 : Int) := ⟨_, rfl⟩
        rw [← hc] at hnx
        have hc0 : 128 ≤ c := by omega
        have hc1 : c ≤ 2147483647 := by omega
        have hc2 : ¬ c < 48 := by omega
        have hc3 : 57 < c := by omega
        clear hc hd hd1
        go_wp2
        go_ret2
        exact ⟨by rw [← HG.out, pgo_no hp rfl (by omega)]; rfl, hbw2⟩
    · have hnx : ∀ ty, (Instr.next (.pointer (some ⟨w.heap.size, 0, none⟩)) true ty).run Tryz.prog wr = _ := fun ty => Lib.run_next_end_at wr (w.heap.size) s pos ty hit hp
      go_wp2
      go_ret2
      have hd : s.data.toList.drop pos = [] := List.drop_eq_nil_of_le (by have : s.data.toList.length = s.size := rfl
                                                                          omega)
      exact ⟨by rw [← HG.out, hd]; rfl, hbw⟩

set_option maxHeartbeats 800000 in
set_option maxRecDepth 100000 in
theorem parse_loop2 (s : ByteArray) (w : World) (hs : s.size ≤ 9223372036854775807) (h0 : 0 < s.size) (h1 : 1 < (s.size : Int)) (hz : s[0].toNat ≠ 48) :
    Calls Tryz.prog 122 #[.string s] w fun e w' => e = told (pgo 0 s.data.toList) ∧ Below w.heap.size w w' := by
  have e1 : ¬ s.toList = [] := by
    rw [ByteArray.toList_eq]
    intro h
    have : s.data.toList.length = s.size := rfl
    rw [h] at this; simp at this; omega
  have e2 : s.toList.isEmpty = false := by simpa using e1
  have e3 : ((s[0].toNat : Int) == 48) = false := by
    simp; omega
  clear hz
  go_enter Tryz.func122, Tryz.ntmps122
  go_wp2
  clear e1 e2
  clear e3
  go_loopw [4] (fun v wr => ParseAt s w v wr) (fun _ wr => s.size - wr.iterPos w.heap.size)
  case atStart =>
    refine ⟨0, 0, by omega, by omega, by omega, rfl, ?_, (Below.refl _ w).alloc (Nat.le_refl _) _, rfl⟩
    simpa using World.iter_heap w s 0
  case round =>
    obtain ⟨pos, n, hp1, hn0, hn1, rfl, hit, hbw, hgo⟩ := hrel
    have HG := Lib.hid hgo; clear hgo
    have hsz : w.heap.size < wr.heap.size := (Array.getElem?_eq_some_iff.1 hit).1
    by_cases hp : pos < s.size
    · by_cases ha : (s[pos]'hp).toNat < 128
      · have hbw2 := Lib.below_iterAt hbw (k := w.heap.size) (by omega) s (pos + 1)
        have hit2 := Lib.iterAt_heap wr (w.heap.size) s pos (pos + 1) hit
        have hnx : ∀ ty, (Instr.next (.pointer (some ⟨w.heap.size, 0, none⟩)) true ty).run Tryz.prog wr = _ := fun ty => Lib.run_next_ascii_at wr (w.heap.size) s pos ty hit hp ha
        obtain ⟨c, hc⟩ : ∃ c : Int, c = ((s[pos]'hp).toNat : Int) := ⟨_, rfl⟩
        rw [← hc] at hnx
        have hc0 : 0 ≤ c := by omega
        have hc1 : c < 128 := by omega
        have HC := Lib.hid hc; clear hc
        go_wp2
        · go_ret2
          exact ⟨by rw [← HG.out, pgo_no hp HC.out (by omega)]; rfl, hbw2⟩
        · go_ret2
          exact ⟨by rw [← HG.out, pgo_no hp HC.out (by omega)]; rfl, hbw2⟩
        · refine ⟨⟨pos + 1, _, by omega, by omega, by omega, rfl, hit2, hbw2, ?_⟩, ?_⟩
          · rw [← HG.out, pgo_yes hp HC.out (by omega)]
          · simp only [World.iterPos, hit2, hit]
            omega
        · go_ret2
          exact ⟨by rw [← HG.out, pgo_no hp HC.out (by omega)]; rfl, hbw2⟩
      · have hd := decode_high s pos hp (by omega)
        have hd1 := decode_le s pos
        have hbw2 := Lib.below_iterAt hbw (k := w.heap.size) (by omega) s (pos + (Utf8.decode s pos).2)
        have hnx : ∀ ty, (Instr.next (.pointer (some ⟨w.heap.size, 0, none⟩)) true ty).run Tryz.prog wr = _ := fun ty => Lib.run_next_any_at wr (w.heap.size) s pos ty hit hp
        obtain ⟨c, hc⟩ : ∃ c : Int, c = ((Utf8.decode s pos).1 : Int) := ⟨_, rfl⟩
        rw [← hc] at hnx
        have hc0 : 128 ≤ c := by omega
        have hc1 : c ≤ 2147483647 := by omega
        have hc2 : ¬ c < 48 := by omega
        have hc3 : 57 < c := by omega
        clear hc hd hd1
        go_wp2
        go_ret2
        exact ⟨by rw [← HG.out, pgo_no hp rfl (by omega)]; rfl, hbw2⟩
    · have hnx : ∀ ty, (Instr.next (.pointer (some ⟨w.heap.size, 0, none⟩)) true ty).run Tryz.prog wr = _ := fun ty => Lib.run_next_end_at wr (w.heap.size) s pos ty hit hp
      go_wp2
      go_ret2
      have hd : s.data.toList.drop pos = [] := List.drop_eq_nil_of_le (by have : s.data.toList.length = s.size := rfl
                                                                          omega)
      exact ⟨by rw [← HG.out, hd]; rfl, hbw⟩

set_option maxRecDepth 100000 in
theorem parse_empty (s : ByteArray) (w : World) (h0 : s.size = 0) :
    Calls Tryz.prog 122 #[.string s] w fun e w' => e = told none ∧ Below w.heap.size w w' := by
  have e1 : s.toList = [] := by
    rw [ByteArray.toList_eq]
    exact List.eq_nil_of_length_eq_zero h0
  have e2 : s.toList.isEmpty = true := by simpa using e1
  go_enter Tryz.func122, Tryz.ntmps122
  go_wp2
  go_ret2
  exact ⟨rfl, Below.refl _ _⟩

set_option maxRecDepth 100000 in
theorem parse_nought (s : ByteArray) (w : World) (hs : s.size ≤ 9223372036854775807) (h1 : 1 < (s.size : Int)) (h0 : 0 < s.size) (hz : s[0].toNat = 48) :
    Calls Tryz.prog 122 #[.string s] w fun e w' => e = told none ∧ Below w.heap.size w w' := by
  have e1 : ¬ s.toList = [] := by
    rw [ByteArray.toList_eq]
    intro h
    have : s.data.toList.length = s.size := rfl
    rw [h] at this; simp at this; omega
  have e2 : s.toList.isEmpty = false := by simpa using e1
  have e3 : ((s[0].toNat : Int) == 48) = true := by
    simp; omega
  clear hz
  go_enter Tryz.func122, Tryz.ntmps122
  go_wp2
  go_ret2
  exact ⟨rfl, Below.refl _ _⟩

/-- wrap.Parse, AT EVERY STRING. -/
theorem parse_any (s : ByteArray) (w : World) (hs : s.size ≤ 9223372036854775807) :
    Calls Tryz.prog 122 #[.string s] w fun e w' => e = told (parseL s.data.toList) ∧ Below w.heap.size w w' := by
  have hl : s.data.toList.length = s.size := rfl
  by_cases h0 : 0 < s.size
  · have hd := drop_at s 0 h0
    rw [List.drop_zero] at hd
    have hne : s.data.toList ≠ [] := by rw [hd]; simp
    have hh : s.data.toList.head? = some s[0] := by rw [hd]; rfl
    by_cases h1 : 1 < s.size
    · by_cases hz : s[0].toNat = 48
      · have : parseL s.data.toList = none := by
          unfold parseL
          rw [if_pos (Or.inr ⟨by omega, by rw [hh]; exact congrArg some (UInt8.toNat_inj.1 hz)⟩)]
        rw [this]
        exact parse_nought s w hs (by omega) h0 hz
      · have : parseL s.data.toList = pgo 0 s.data.toList := by
          unfold parseL
          rw [if_neg]
          rintro (h | ⟨_, h⟩)
          · exact hne h
          · rw [hh] at h
            exact hz (by rw [Option.some.inj h]; rfl)
        rw [this]
        exact parse_loop2 s w hs h0 (by omega) hz
    · have : parseL s.data.toList = pgo 0 s.data.toList := by
        unfold parseL
        rw [if_neg]
        rintro (h | ⟨h, _⟩)
        · exact hne h
        · omega
      rw [this]
      exact parse_loop1 s w hs h0 (by omega)
  · have : parseL s.data.toList = none := by
      unfold parseL
      rw [if_pos (Or.inl (List.eq_nil_of_length_eq_zero (by omega)))]
    rw [this]
    exact parse_empty s w (by omega)

end Go.Proofs.YtppagjhmlgkamaaGreatDoor

/-
  Package parse's reader in memory; what each of its small calls does.
-/
namespace Go.Proofs.YtppagjhmlgkamaaGreatDoor
open Go Go.RowKit Go.Lib

/-- Tokens in a block of memory. -/
def Tk (W : World) (g : Nat) (T : List Tok) : Prop :=
  g < W.heap.size ∧ ∀ (i : Nat) (t : Tok), T[i]? = some t → W.cell? ⟨g, i * 3, none⟩ = some (.int .i64 t.kind) ∧ W.cell? ⟨g, i * 3 + 1, none⟩ = some (.string (baT t.text)) ∧ W.cell? ⟨g, i * 3 + 2, none⟩ = some (.int .i64 t.at_)
/-- What is so of tokens. -/
structure TokOk (T : List Tok) : Prop where
  len : T.length ≤ 65537
  one : ∀ (i : Nat) (t : Tok), T[i]? = some t → t.text.length ≤ 65536 ∧ t.at_ ≤ 65536 ∧ t.kind ≤ 4
  last : ∃ (b : List Tok) (p : Nat), T = b ++ [⟨4, [], p⟩] ∧ ∀ t ∈ b, t.kind ≠ 4
/-- The reader's box, and its tokens. -/
structure Rd (W : World) (rb g N cT : Nat) (T : List Tok) (i o : Nat) : Prop where
  c0 : W.cell? ⟨rb, 0, none⟩ = some (.slice (some ⟨g, 0, none⟩) N cT)
  c1 : W.cell? ⟨rb, 1, none⟩ = some (.int .i64 i)
  c2 : W.cell? ⟨rb, 2, none⟩ = some (.int .i64 o)
  fz : ∀ j, W.frozen? ⟨rb, j, none⟩ = false
  rlt : rb < W.heap.size
  tok : Tk W g T
  ne : g ≠ rb
  len : T.length = N
  lt : i < N
  small : o ≤ 256
  good : TokOk T

theorem lt_heap {W : World} {k : Nat} {o : Obj} (h : W.heap[k]? = some o) : k < W.heap.size := by
  rcases Nat.lt_or_ge k W.heap.size with h' | h'
  · exact h'
  · rw [Array.getElem?_eq_none h'] at h; cases h
theorem box_cell {W : World} {k : Nat} {cs : Array Value} {t : TypeId} {fz : Nat × Nat} (h : W.heap[k]? = some (.cells cs t fz)) (i : Nat) : W.cell? ⟨k, i, none⟩ = cs[i]? := by
  simp [World.cell?, h]
theorem box_frozen {W : World} {k : Nat} {cs : Array Value} {t : TypeId} (h : W.heap[k]? = some (.cells cs t)) (i : Nat) : W.frozen? ⟨k, i, none⟩ = false := by
  simp [World.frozen?, h]

theorem new_block (W : World) (o : Obj) : (W.alloc o).heap[W.heap.size]? = some o := heap_alloc_new W o
/-- What is left to be read. -/
theorem Rd.now {W : World} {rb g N cT i o : Nat} {T : List Tok} (h : Rd W rb g N cT T i o) : T[i]? = some (hdT (T.drop i)) := by
  have hl : i < T.length := by rw [h.len]; exact h.lt
  rw [List.getElem?_eq_getElem hl]
  unfold hdT
  rw [List.drop_eq_getElem_cons hl]
  rfl
theorem Tk.step {W W' : World} {g : Nat} {T : List Tok} (h : Tk W g T) (hs : W.heap.size ≤ W'.heap.size) (hb : W'.heap[g]? = W.heap[g]?) : Tk W' g T :=
  ⟨Nat.lt_of_lt_of_le h.1 hs, fun j t hj => by
    obtain ⟨a, b, c⟩ := h.2 j t hj
    have e : ∀ k, W'.cell? ⟨g, k, none⟩ = W.cell? ⟨g, k, none⟩ := fun k => World.cell?_of_block (a := ⟨g, k, none⟩) hb
    exact ⟨(e _).trans a, (e _).trans b, (e _).trans c⟩⟩
theorem Rd.below {W W' : World} {rb g N cT i o : Nat} {T : List Tok} (h : Rd W rb g N cT T i o) (hb : Below W.heap.size W W') : Rd W' rb g N cT T i o :=
  ⟨(hb.cell (p := ⟨rb, 0, none⟩) h.rlt).trans h.c0, (hb.cell (p := ⟨rb, 1, none⟩) h.rlt).trans h.c1, (hb.cell (p := ⟨rb, 2, none⟩) h.rlt).trans h.c2, fun j => (hb.frozen (p := ⟨rb, j, none⟩) h.rlt).trans (h.fz j),
    Nat.lt_of_lt_of_le h.rlt hb.size, h.tok.step hb.size (hb.block g h.tok.1), h.ne, h.len, h.lt, h.small, h.good⟩

/-- All that was there stays, but for the reader's box. -/
def Gr (rb : Nat) (W W' : World) : Prop := W.grownBy W' (some rb)
theorem Gr.of {rb : Nat} {W W' : World} (hb : Below W.heap.size W W') : Gr rb W W' := ⟨hb.os, hb.tape, hb.output, hb.size, fun k hk _ => hb.block k hk⟩
theorem Gr.size {rb : Nat} {W W' : World} (h : Gr rb W W') : W.heap.size ≤ W'.heap.size := World.grownBy.size h
theorem Gr.block {rb k : Nat} {W W' : World} (h : Gr rb W W') (hk : k < W.heap.size) (hne : k ≠ rb) : W'.heap[k]? = W.heap[k]? := World.grownBy.block h k hk (fun e => hne (Option.some.inj e))
theorem Gr.trans {rb : Nat} {W W' W'' : World} (h : Gr rb W W') (h' : Gr rb W' W'') : Gr rb W W'' :=
  ⟨(World.grownBy.os h').trans (World.grownBy.os h), (World.grownBy.tape h').trans (World.grownBy.tape h), (World.grownBy.output h').trans (World.grownBy.output h), Nat.le_trans h.size h'.size, fun k hk hne => (h'.block (Nat.lt_of_lt_of_le hk h.size) (fun e => hne (by rw [e]))).trans (h.block hk (fun e => hne (by rw [e])))⟩
theorem Gr.set {rb : Nat} {W : World} (j : Nat) (u : Value) : Gr rb W (W.setCell ⟨rb, j, none⟩ u) := ⟨rfl, rfl, rfl, by simp, fun k _ hk => Below.heap_setCell W ⟨rb, j, none⟩ u k (fun e => hk (by rw [e]))⟩
theorem Rd.next {W : World} {rb g N cT i o : Nat} {T : List Tok} (h : Rd W rb g N cT T i o) {i' : Nat} (hi : i' < N) : Rd (W.setCell ⟨rb, 1, none⟩ (.int .i64 i')) rb g N cT T i' o :=
  ⟨(World.cell?_setCell_other _ _ _ _ (by simp)).trans h.c0, World.cell?_setCell_same _ _ _ h.c1, (World.cell?_setCell_other _ _ _ _ (by simp)).trans h.c2, fun j => (World.frozen?_setCell _ _ _ _).trans (h.fz j),
    by simpa using h.rlt, h.tok.step (by simp) (Below.heap_setCell W ⟨rb, 1, none⟩ _ g h.ne), h.ne, h.len, hi, h.small, h.good⟩
theorem Rd.open_ {W : World} {rb g N cT i o : Nat} {T : List Tok} (h : Rd W rb g N cT T i o) {o' : Nat} (ho : o' ≤ 256) : Rd (W.setCell ⟨rb, 2, none⟩ (.int .i64 o')) rb g N cT T i o' :=
  ⟨(World.cell?_setCell_other _ _ _ _ (by simp)).trans h.c0, (World.cell?_setCell_other _ _ _ _ (by simp)).trans h.c1, World.cell?_setCell_same _ _ _ h.c2, fun j => (World.frozen?_setCell _ _ _ _).trans (h.fz j),
    by simpa using h.rlt, h.tok.step (by simp) (Below.heap_setCell W ⟨rb, 2, none⟩ _ g h.ne), h.ne, h.len, h.lt, ho, h.good⟩

set_option maxRecDepth 100000 in
theorem now_any {W : World} {rb g N cT i o : Nat} {T : List Tok} (h : Rd W rb g N cT T i o) (t : Tok) (ht : hdT (T.drop i) = t) :
    Calls Tryz.prog 61 #[.pointer (some ⟨rb, 0, none⟩)] W fun e w' => e = .returned (.agg #[.int .i64 t.kind, .string (baT t.text), .int .i64 t.at_]) ∧ Below W.heap.size W w' := by
  obtain ⟨k0, k1, k2⟩ := h.tok.2 i t (by rw [h.now, ht])
  have hgl := h.tok.1
  have hrl := h.rlt
  have hil := h.lt
  have HA : ∀ (C : Obj) (b j : Nat), b < W.heap.size → (W.alloc C).cell? ⟨b, j, none⟩ = W.cell? ⟨b, j, none⟩ := fun C b j hb => World.cell?_of_block (a := ⟨b, j, none⟩) (Below.heap_alloc W C b hb)
  have c0 : W.cell? ⟨rb, 0, none⟩ = some (.slice (some ⟨g, 0, none⟩) N cT) := h.c0
  have c1 : W.cell? ⟨rb, 1, none⟩ = some (.int .i64 i) := h.c1
  have hN : (N : Int) ≤ 65537 := by have := h.good.len; have := h.len; omega
  go_enter Tryz.func61, Tryz.ntmps61
  go_upto_region 1 with fail
  obtain ⟨w1, hw1⟩ : ∃ w1, W.alloc (.cells #[.int .i64 0, .string ⟨#[]⟩, .int .i64 0] 83) = w1 := ⟨_, rfl⟩
  have d0 : w1.cell? ⟨rb, 0, none⟩ = some (.slice (some ⟨g, 0, none⟩) N cT) := by rw [← hw1, HA _ _ _ hrl]; exact c0
  have d1 : w1.cell? ⟨rb, 1, none⟩ = some (.int .i64 i) := by rw [← hw1, HA _ _ _ hrl]; exact c1
  have e0 : w1.cell? ⟨g, i * 3, none⟩ = some (.int .i64 t.kind) := by rw [← hw1, HA _ _ _ hgl]; exact k0
  have e1 : w1.cell? ⟨g, i * 3 + 1, none⟩ = some (.string (baT t.text)) := by rw [← hw1, HA _ _ _ hgl]; exact k1
  have e2 : w1.cell? ⟨g, i * 3 + 2, none⟩ = some (.int .i64 t.at_) := by rw [← hw1, HA _ _ _ hgl]; exact k2
  have hb1 : Below W.heap.size W w1 := by rw [← hw1]; exact (Below.refl _ _).alloc (Nat.le_refl _) _
  have hn : w1.heap[W.heap.size]? = some (.cells #[.int .i64 0, .string ⟨#[]⟩, .int .i64 0] 83) := by rw [← hw1]; exact new_block _ _
  rw [hw1]
  clear hw1 HA
  obtain ⟨n, hnn⟩ : ∃ n, W.heap.size = n := ⟨_, rfl⟩
  rw [hnn] at hn hb1 hgl hrl ⊢
  have n0 : w1.cell? ⟨n, 0, none⟩ = some (.int .i64 0) := box_cell hn 0
  have n1 : w1.cell? ⟨n, 1, none⟩ = some (.string ⟨#[]⟩) := box_cell hn 1
  have n2 : w1.cell? ⟨n, 2, none⟩ = some (.int .i64 0) := box_cell hn 2
  have f0 := box_frozen hn 0
  have f1 := box_frozen hn 1
  have f2 := box_frozen hn 2
  go_region
  go_wp2
  refine bodyPost_ret (v := .agg #[.int .i64 t.kind, .string (baT t.text), .int .i64 t.at_]) ?_ rfl ⟨rfl, ?_⟩
  · simp [results, Tryz.results61, go_sem, n0, n1, n2]
  · rw [hnn]
    exact (((hb1.setCell (p := ⟨n, 0, none⟩) (Nat.le_refl _) _).setCell (p := ⟨n, 1, none⟩) (Nat.le_refl _) _).setCell (p := ⟨n, 2, none⟩) (Nat.le_refl _) _).trans ⟨rfl, rfl, rfl, Nat.le_refl _, fun _ _ => rfl⟩

theorem baT_toList (l : List UInt8) : (baT l).toList = l := by rw [ByteArray.toList_eq]; rfl
theorem beq_dec (a b : List UInt8) : (a == b) = decide (a = b) := by rw [Bool.eq_iff_iff]; simp
theorem run_tok0 (w : World) (k a : Int) (s : ByteArray) : (Instr.field 83 (.agg #[.int .i64 k, .string s, .int .i64 a]) 0).run Tryz.prog w = .ok (.int .i64 k) w := by kernel_rfl
theorem run_tok1 (w : World) (k a : Int) (s : ByteArray) : (Instr.field 83 (.agg #[.int .i64 k, .string s, .int .i64 a]) 1).run Tryz.prog w = .ok (.string s) w := by kernel_rfl
theorem run_tok2 (w : World) (k a : Int) (s : ByteArray) : (Instr.field 83 (.agg #[.int .i64 k, .string s, .int .i64 a]) 2).run Tryz.prog w = .ok (.int .i64 a) w := by kernel_rfl
attribute [local go_sem high] run_tok0 run_tok1 run_tok2

set_option maxRecDepth 100000 in
theorem is_any {W : World} {rb g N cT i o : Nat} {T : List Tok} (h : Rd W rb g N cT T i o) (s : List UInt8) (b : Bool) (hb : isT (T.drop i) s = b) :
    Calls Tryz.prog 58 #[.pointer (some ⟨rb, 0, none⟩), .string (baT s)] W fun e w' => e = .returned (.bool b) ∧ Below W.heap.size W w' := by
  have HN := now_any h _ rfl
  obtain ⟨t, ht⟩ : ∃ t, hdT (T.drop i) = t := ⟨_, rfl⟩
  unfold isT at hb
  rw [ht] at HN hb
  clear ht
  go_enter Tryz.func58, Tryz.ntmps58
  go_wp2_with (go_at_call 61; ((with_reducible refine HN.mono ?_); rintro e w1 ⟨rfl, h1⟩))
  go_ret
  refine ⟨?_, h1⟩
  show Ending.returned (.bool ((baT t.text).toList == (baT s).toList)) = _
  rw [baT_toList, baT_toList, ← hb, beq_dec]

/-- What is panicked with. -/
abbrev flt (p c : Nat) : Ending := .panicked [{ v := .iface 67 (.agg #[.int .i64 p, .int .i64 c]), recovered := false }]

set_option maxRecDepth 100000 in
theorem fail_any {W : World} {rb g N cT i o : Nat} {T : List Tok} (h : Rd W rb g N cT T i o) (c p : Nat) (c' : Int) (hc : c' = c) (hp : (hdT (T.drop i)).at_ = p) :
    Calls Tryz.prog 59 #[.pointer (some ⟨rb, 0, none⟩), .int .i64 c'] W fun e w' => e = flt p c ∧ Below W.heap.size W w' := by
  have HN := now_any h _ rfl
  obtain ⟨t, ht⟩ : ∃ t, hdT (T.drop i) = t := ⟨_, rfl⟩
  rw [ht] at HN hp
  clear ht
  subst hp hc
  go_enter Tryz.func59, Tryz.ntmps59
  go_wp2_with (go_at_call 61; ((with_reducible refine HN.mono ?_); rintro e w1 ⟨rfl, h1⟩))
  exact ⟨rfl, rfl, h1⟩

theorem last_end {T : List Tok} (h : TokOk T) {i : Nat} {t : Tok} (ht : T[i]? = some t) (hk : t.text ≠ [] ∨ t.kind ≠ 4) : i + 1 < T.length := by
  have hl := (List.getElem?_eq_some_iff.1 ht).1
  rcases Nat.lt_or_ge (i + 1) T.length with h1 | h1
  · exact h1
  · exfalso
    obtain ⟨b, p, e, _⟩ := h.last
    have hb : T.length = b.length + 1 := by rw [e]; simp
    have hi : i = b.length := by omega
    subst hi
    rw [e, List.getElem?_append_right (Nat.le_refl _), Nat.sub_self] at ht
    have := Option.some.inj ht
    subst this
    simp at hk
theorem Rd.more {W : World} {rb g N cT i o : Nat} {T : List Tok} (h : Rd W rb g N cT T i o) (hk : (hdT (T.drop i)).text ≠ [] ∨ (hdT (T.drop i)).kind ≠ 4) : i + 1 < N := by
  rw [← h.len]
  exact last_end h.good h.now hk
theorem Rd.end_ {W : World} {rb g N cT i o : Nat} {T : List Tok} (h : Rd W rb g N cT T i o) (hk : (hdT (T.drop i)).kind ≠ 4) : i + 1 < N := h.more (.inr hk)
theorem isT_ne {ts : List Tok} {s : List UInt8} (h : isT ts s = true) (hs : s ≠ []) : (hdT ts).text ≠ [] := by
  unfold isT at h
  rw [of_decide_eq_true h]
  exact hs
theorem drop_tail (T : List Tok) (i : Nat) : (T.drop i).tail = T.drop (i + 1) := by rw [List.tail_drop]

theorem step_num {i N : Nat} (h : i + 1 < N) (hN : N ≤ 65537) : IntKind.i64.wrap ((i : Int) + 1) = ((i + 1 : Nat) : Int) := by
  rw [IntWalk.i64_in _ (by omega)]
  rfl

set_option maxRecDepth 100000 in
theorem take_yes {W : World} {rb g N cT i o : Nat} {T : List Tok} (h : Rd W rb g N cT T i o) (s : List UInt8) (hs : s ≠ []) (hb : isT (T.drop i) s = true) :
    Calls Tryz.prog 106 #[.pointer (some ⟨rb, 0, none⟩), .string (baT s)] W fun e w' => e = .returned (.bool true) ∧ Rd w' rb g N cT T (i + 1) o ∧ Gr rb W w' := by
  have HI := is_any h s true hb
  have hm := h.more (.inl (isT_ne hb hs))
  have hw := step_num hm (by have := h.good.len; have := h.len; omega)
  have HR := Lib.hid (fun w1 (h1 : Below W.heap.size W w1) => h.below h1)
  have HC := Lib.hid (fun w1 (h1 : Below W.heap.size W w1) => (h.below h1).next hm)
  have c1 := fun w1 (h1 : Below W.heap.size W w1) => (h.below h1).c1
  have HC1 := Lib.hid c1
  have HF := Lib.hid (fun w1 (h1 : Below W.heap.size W w1) => (h.below h1).fz 1)
  clear c1 hb hm
  go_enter Tryz.func106, Tryz.ntmps106
  go_wp2_with (go_at_call 58; ((with_reducible refine HI.mono ?_); rintro e w1 ⟨rfl, h1⟩; have k1 := HC1.out w1 h1; have k2 := HF.out w1 h1))
  go_ret
  refine ⟨rfl, HC.out w1 h1, (Gr.of h1).trans (Gr.set 1 _)⟩

set_option maxRecDepth 100000 in
theorem take_no {W : World} {rb g N cT i o : Nat} {T : List Tok} (h : Rd W rb g N cT T i o) (s : List UInt8) (hb : isT (T.drop i) s = false) :
    Calls Tryz.prog 106 #[.pointer (some ⟨rb, 0, none⟩), .string (baT s)] W fun e w' => e = .returned (.bool false) ∧ Below W.heap.size W w' := by
  have HI := is_any h s false hb
  go_enter Tryz.func106, Tryz.ntmps106
  go_wp2_with (go_at_call 58; ((with_reducible refine HI.mono ?_); rintro e w1 ⟨rfl, h1⟩))
  go_ret
  exact ⟨rfl, h1⟩

set_option maxRecDepth 100000 in
theorem want_yes {W : World} {rb g N cT i o : Nat} {T : List Tok} (h : Rd W rb g N cT T i o) (s : List UInt8) (hs : s ≠ []) (hb : isT (T.drop i) s = true) :
    Calls Tryz.prog 91 #[.pointer (some ⟨rb, 0, none⟩), .string (baT s)] W fun e w' => e = .returned (.tuple #[]) ∧ Rd w' rb g N cT T (i + 1) o ∧ Gr rb W w' := by
  have HI := take_yes h s hs hb
  go_enter Tryz.func91, Tryz.ntmps91
  go_wp2_with (go_at_call 106; ((with_reducible refine HI.mono ?_); rintro e w1 ⟨rfl, h1, h2⟩))
  go_end0
  exact ⟨rfl, h1, h2⟩

set_option maxRecDepth 100000 in
theorem want_no {W : World} {rb g N cT i o : Nat} {T : List Tok} (h : Rd W rb g N cT T i o) (s : List UInt8) (hb : isT (T.drop i) s = false) (p : Nat) (hp : (hdT (T.drop i)).at_ = p) :
    Calls Tryz.prog 91 #[.pointer (some ⟨rb, 0, none⟩), .string (baT s)] W fun e w' => e = flt p 2 ∧ Below W.heap.size W w' := by
  have HI := take_no h s hb
  have HFL := Lib.hid (fun w1 (h1 : Below W.heap.size W w1) => fail_any (h.below h1) 2 p 2 rfl hp)
  go_enter Tryz.func91, Tryz.ntmps91
  go_wp2_with (first
    | (go_at_call 106; ((with_reducible refine HI.mono ?_); rintro e w1 ⟨rfl, h1⟩))
    | (go_at_call 59; ((with_reducible refine (HFL.out _ h1).mono ?_); rintro e w2 ⟨rfl, h2⟩)))
  exact ⟨rfl, rfl, h1.trans (h2.mono h1.size)⟩

set_option maxRecDepth 100000 in
theorem enter_yes {W : World} {rb g N cT i o : Nat} {T : List Tok} (h : Rd W rb g N cT T i o) (s : List UInt8) (hs : s ≠ []) (hb : isT (T.drop i) s = true) (ho : o < 256) :
    Calls Tryz.prog 107 #[.pointer (some ⟨rb, 0, none⟩), .string (baT s)] W fun e w' => e = .returned (.tuple #[]) ∧ Rd w' rb g N cT T (i + 1) (o + 1) ∧ Gr rb W w' := by
  have HI := is_any h s true hb
  have HWT := Lib.hid (fun w1 (h1 : Below W.heap.size W w1) => want_yes (h.below h1) s hs hb)
  have HC2 := Lib.hid (fun w1 (h1 : Below W.heap.size W w1) => (h.below h1).c2)
  have hno : ((o : Int) == 256) = false := by rw [beq_eq_false_iff_ne]; omega
  have hno' : decide ((o : Int) = 256) = false := decide_eq_false (by omega)
  have hwo : IntKind.i64.wrap ((o : Int) + 1) = ((o + 1 : Nat) : Int) := by rw [IntWalk.i64_in _ (by omega)]; rfl
  clear hb hs
  go_enter Tryz.func107, Tryz.ntmps107
  go_wp2_with (first
    | (go_at_call 58; ((with_reducible refine HI.mono ?_); rintro e w1 ⟨rfl, h1⟩; have k2 := HC2.out w1 h1))
    | (go_at_call 91; ((with_reducible refine (HWT.out _ h1).mono ?_); rintro e w2 ⟨rfl, h2, h3⟩; have k3 := h2.c2; have k4 := h2.fz 2)))
  go_end0
  refine ⟨rfl, h2.open_ (o' := o + 1) (by omega), (Gr.of h1).trans (h3.trans (Gr.set 2 _))⟩

set_option maxRecDepth 100000 in
theorem enter_deep {W : World} {rb g N cT i : Nat} {T : List Tok} (h : Rd W rb g N cT T i 256) (s : List UInt8) (hb : isT (T.drop i) s = true) (p : Nat) (hp : (hdT (T.drop i)).at_ = p) :
    Calls Tryz.prog 107 #[.pointer (some ⟨rb, 0, none⟩), .string (baT s)] W fun e w' => e = flt p 3 ∧ Below W.heap.size W w' := by
  have HI := is_any h s true hb
  have HFL := Lib.hid (fun w1 (h1 : Below W.heap.size W w1) => fail_any (h.below h1) 3 p 3 rfl hp)
  have HC2 := Lib.hid (fun w1 (h1 : Below W.heap.size W w1) => (show w1.cell? ⟨rb, 2, none⟩ = some (.int .i64 256) from (h.below h1).c2))
  go_enter Tryz.func107, Tryz.ntmps107
  go_wp2_with (first
    | (go_at_call 58; ((with_reducible refine HI.mono ?_); rintro e w1 ⟨rfl, h1⟩; have k2 := HC2.out w1 h1))
    | (go_at_call 59; ((with_reducible refine (HFL.out _ h1).mono ?_); rintro e w2 ⟨rfl, h2⟩)))
  exact ⟨rfl, rfl, h1.trans (h2.mono h1.size)⟩

set_option maxRecDepth 100000 in
theorem enter_no {W : World} {rb g N cT i o : Nat} {T : List Tok} (h : Rd W rb g N cT T i o) (s : List UInt8) (hb : isT (T.drop i) s = false) (p : Nat) (hp : (hdT (T.drop i)).at_ = p) :
    Calls Tryz.prog 107 #[.pointer (some ⟨rb, 0, none⟩), .string (baT s)] W fun e w' => e = flt p 2 ∧ Below W.heap.size W w' := by
  have HI := is_any h s false hb
  have HWT := Lib.hid (fun w1 (h1 : Below W.heap.size W w1) => want_no (h.below h1) s hb p hp)
  go_enter Tryz.func107, Tryz.ntmps107
  go_wp2_with (first
    | (go_at_call 58; ((with_reducible refine HI.mono ?_); rintro e w1 ⟨rfl, h1⟩))
    | (go_at_call 91; ((with_reducible refine (HWT.out _ h1).mono ?_); rintro e w2 ⟨rfl, h2⟩)))
  exact ⟨rfl, rfl, h1.trans (h2.mono h1.size)⟩

set_option maxRecDepth 100000 in
theorem leave_yes {W : World} {rb g N cT i o : Nat} {T : List Tok} (h : Rd W rb g N cT T i (o + 1)) (s : List UInt8) (hs : s ≠ []) (hb : isT (T.drop i) s = true) :
    Calls Tryz.prog 108 #[.pointer (some ⟨rb, 0, none⟩), .string (baT s)] W fun e w' => e = .returned (.tuple #[]) ∧ Rd w' rb g N cT T (i + 1) o ∧ Gr rb W w' := by
  have HWT := want_yes h s hs hb
  have hwo : IntKind.i64.wrap ((o + 1 : Nat) - 1) = (o : Int) := by have := h.small; rw [IntWalk.i64_in _ (by omega)]; omega
  have ho : o ≤ 256 := by have := h.small; omega
  clear hb hs
  go_enter Tryz.func108, Tryz.ntmps108
  go_wp2_with (go_at_call 91; ((with_reducible refine HWT.mono ?_); rintro e w2 ⟨rfl, h2, h3⟩; have k3 := h2.c2; have k4 := h2.fz 2))
  go_end0
  refine ⟨rfl, h2.open_ ho, h3.trans (Gr.set 2 _)⟩

set_option maxRecDepth 100000 in
theorem leave_no {W : World} {rb g N cT i o : Nat} {T : List Tok} (h : Rd W rb g N cT T i o) (s : List UInt8) (hb : isT (T.drop i) s = false) (p : Nat) (hp : (hdT (T.drop i)).at_ = p) :
    Calls Tryz.prog 108 #[.pointer (some ⟨rb, 0, none⟩), .string (baT s)] W fun e w' => e = flt p 2 ∧ Below W.heap.size W w' := by
  have HWT := want_no h s hb p hp
  go_enter Tryz.func108, Tryz.ntmps108
  go_wp2_with (go_at_call 91; ((with_reducible refine HWT.mono ?_); rintro e w2 ⟨rfl, h2⟩))
  exact ⟨rfl, rfl, h2⟩

end Go.Proofs.YtppagjhmlgkamaaGreatDoor

/-
  Package parse: a name, a number, and which operation of two a mark is.
-/
namespace Go.Proofs.YtppagjhmlgkamaaGreatDoor
open Go Go.RowKit Go.Lib
attribute [local go_sem high] run_tok0 run_tok1 run_tok2

theorem baT_size (l : List UInt8) : (baT l).size = l.length := by simp [baT, ByteArray.size]
theorem Rd.text {W : World} {rb g N cT i o : Nat} {T : List Tok} (h : Rd W rb g N cT T i o) : (baT (hdT (T.drop i)).text).size ≤ 9223372036854775807 := by
  have := (h.good.one i _ h.now).1
  rw [baT_size]
  omega

set_option maxRecDepth 100000 in
theorem name_yes {W : World} {rb g N cT i o : Nat} {T : List Tok} (h : Rd W rb g N cT T i o) (t : List UInt8) (ht : (hdT (T.drop i)).text = t) (hb : nameB (baT t) = true) :
    Calls Tryz.prog 92 #[.pointer (some ⟨rb, 0, none⟩)] W fun e w' => e = .returned (.string (baT t)) ∧ Rd w' rb g N cT T (i + 1) o ∧ Gr rb W w' := by
  have hne : (hdT (T.drop i)).text ≠ [] := by
    intro e
    rw [← ht, e] at hb
    revert hb
    decide +kernel
  have hm := h.more (.inl hne)
  have hw := step_num hm (by have := h.good.len; have := h.len; omega)
  have HN := now_any h _ rfl
  have hsz := h.text
  rw [ht] at hsz
  have HNM := Lib.hid (fun w1 => name_any (baT t) w1 hsz)
  rw [ht] at HN
  obtain ⟨k, hk⟩ : ∃ k, (hdT (T.drop i)).kind = k := ⟨_, rfl⟩
  obtain ⟨a, ha⟩ : ∃ a, (hdT (T.drop i)).at_ = a := ⟨_, rfl⟩
  rw [hk, ha] at HN
  have HC := Lib.hid (fun w1 (h1 : Below W.heap.size W w1) => (h.below h1).next hm)
  have HC1 := Lib.hid (fun w1 (h1 : Below W.heap.size W w1) => (h.below h1).c1)
  have HF := Lib.hid (fun w1 (h1 : Below W.heap.size W w1) => (h.below h1).fz 1)
  have hb' := hb
  clear hne hm hk ha ht hsz
  go_enter Tryz.func92, Tryz.ntmps92
  go_wp2_with (first
    | (go_at_call 61; ((with_reducible refine HN.mono ?_); rintro e w1 ⟨rfl, h1⟩; have k1 := HC1.out w1 h1; have k2 := HF.out w1 h1))
    | (go_at_call 52; ((with_reducible refine (HNM.out _).mono ?_); rintro e w2 ⟨rfl, rfl⟩)))
  go_ret
  exact ⟨rfl, HC.out w1 h1, (Gr.of h1).trans (Gr.set 1 _)⟩

set_option maxRecDepth 100000 in
theorem name_no {W : World} {rb g N cT i o : Nat} {T : List Tok} (h : Rd W rb g N cT T i o) (hb : nameB (baT (hdT (T.drop i)).text) = false) (p : Nat) (hp : (hdT (T.drop i)).at_ = p) :
    Calls Tryz.prog 92 #[.pointer (some ⟨rb, 0, none⟩)] W fun e w' => e = flt p 2 ∧ Below W.heap.size W w' := by
  have HN := now_any h _ rfl
  have hsz := h.text
  have HFL := Lib.hid (fun w1 (h1 : Below W.heap.size W w1) => fail_any (h.below h1) 2 p 2 rfl hp)
  obtain ⟨t, ht⟩ : ∃ t, hdT (T.drop i) = t := ⟨_, rfl⟩
  rw [ht] at HN hb hsz
  have HNM := Lib.hid (fun w1 => name_any (baT t.text) w1 hsz)
  clear ht hsz
  go_enter Tryz.func92, Tryz.ntmps92
  go_wp2_with (first
    | (go_at_call 61; ((with_reducible refine HN.mono ?_); rintro e w1 ⟨rfl, h1⟩))
    | (go_at_call 52; ((with_reducible refine (HNM.out _).mono ?_); rintro e w2 ⟨rfl, rfl⟩))
    | (go_at_call 59; ((with_reducible refine (HFL.out _ h1).mono ?_); rintro e w2 ⟨rfl, h2⟩)))
  exact ⟨rfl, rfl, h1.trans (h2.mono h1.size)⟩

attribute [local go_sem high] baT_toList
set_option maxRecDepth 100000 in
theorem oftwo_any (l : List UInt8) (w : World) :
    Calls Tryz.prog 136 #[.string (baT l)] w fun e w' => e = .returned (.tuple #[.int .i64 (opT l).1, .int .i64 (opT l).2]) ∧ w = w' := by
  by_cases h : l = [124] ∨ l = [38] ∨ l = [61, 61] ∨ l = [60] ∨ l = [43] ∨ l = [45] ∨ l = [42] ∨ l = [47] ∨ l = [37]
  · rcases h with rfl | rfl | rfl | rfl | rfl | rfl | rfl | rfl | rfl
    all_goals
      go_enter Tryz.func136, Tryz.ntmps136
      go_wp2
      go_ret2
      exact ⟨rfl, rfl⟩
  · simp only [not_or] at h
    obtain ⟨h1, h2, h3, h4, h5, h6, h7, h8, h9⟩ := h
    have e : opT l = (0, 0) := by simp [opT, h1, h2, h3, h4, h5, h6, h7, h8, h9]
    rw [e]
    have b1 : (l == [124]) = false := by simpa using h1
    have b2 : (l == [38]) = false := by simpa using h2
    have b3 : (l == [61, 61]) = false := by simpa using h3
    have b4 : (l == [60]) = false := by simpa using h4
    have b5 : (l == [43]) = false := by simpa using h5
    have b6 : (l == [45]) = false := by simpa using h6
    have b7 : (l == [42]) = false := by simpa using h7
    have b8 : (l == [47]) = false := by simpa using h8
    have b9 : (l == [37]) = false := by simpa using h9
    clear h1 h2 h3 h4 h5 h6 h7 h8 h9 e
    go_enter Tryz.func136, Tryz.ntmps136
    go_wp2
    go_ret2
    exact ⟨rfl, rfl⟩

end Go.Proofs.YtppagjhmlgkamaaGreatDoor

/-
  Package parse: a number.
-/
namespace Go.Proofs.YtppagjhmlgkamaaGreatDoor
open Go Go.RowKit Go.Lib
attribute [local go_sem high] run_tok0 run_tok1 run_tok2

theorem wparse_some {l : List UInt8} {n : Int} (w : World) (h : parseL l = some n) (hl : l.length ≤ 65536) : Calls Tryz.prog 122 #[.string (baT l)] w fun e w' => e = .returned (.tuple #[.int .i64 n, .bool true]) ∧ Below w.heap.size w w' :=
  (parse_any (baT l) w (by rw [baT_size]; omega)).mono fun e w' ⟨he, hb⟩ => by
    have e0 : (baT l).data.toList = l := rfl
    rw [e0, h] at he
    exact ⟨he, hb⟩
theorem wparse_none {l : List UInt8} (w : World) (h : parseL l = none) (hl : l.length ≤ 65536) : Calls Tryz.prog 122 #[.string (baT l)] w fun e w' => e = .returned (.tuple #[.int .i64 0, .bool false]) ∧ Below w.heap.size w w' :=
  (parse_any (baT l) w (by rw [baT_size]; omega)).mono fun e w' ⟨he, hb⟩ => by
    have e0 : (baT l).data.toList = l := rfl
    rw [e0, h] at he
    exact ⟨he, hb⟩

set_option maxRecDepth 100000 in
theorem num_kind {W : World} {rb g N cT i o : Nat} {T : List Tok} (h : Rd W rb g N cT T i o) (low high : Int) (hk : (hdT (T.drop i)).kind ≠ 2) (p : Nat) (hp : (hdT (T.drop i)).at_ = p) :
    Calls Tryz.prog 109 #[.pointer (some ⟨rb, 0, none⟩), .int .i64 low, .int .i64 high] W fun e w' => e = flt p 2 ∧ Below W.heap.size W w' := by
  have HN := now_any h _ rfl
  have HFL := Lib.hid (fun w1 (h1 : Below W.heap.size W w1) => fail_any (h.below h1) 2 p 2 rfl hp)
  obtain ⟨t, ht⟩ : ∃ t, hdT (T.drop i) = t := ⟨_, rfl⟩
  rw [ht] at HN hk
  have k1 : ((t.kind : Int) == 2) = false := by rw [beq_eq_false_iff_ne]; omega
  have k2 : ((t.kind : Int) != 2) = true := by rw [bne, k1]; rfl
  clear ht hk
  go_enter Tryz.func109, Tryz.ntmps109
  go_wp2_with (first
    | (go_at_call 61; ((with_reducible refine HN.mono ?_); rintro e w1 ⟨rfl, h1⟩))
    | (go_at_call 59; ((with_reducible refine (HFL.out _ h1).mono ?_); rintro e w2 ⟨rfl, h2⟩)))
  exact ⟨rfl, rfl, h1.trans (h2.mono h1.size)⟩

set_option maxRecDepth 100000 in
theorem num_none {W : World} {rb g N cT i o : Nat} {T : List Tok} (h : Rd W rb g N cT T i o) (low high : Int) (hk : (hdT (T.drop i)).kind = 2) (hn : parseL (hdT (T.drop i)).text = none) (p : Nat) (hp : (hdT (T.drop i)).at_ = p) :
    Calls Tryz.prog 109 #[.pointer (some ⟨rb, 0, none⟩), .int .i64 low, .int .i64 high] W fun e w' => e = flt p 1 ∧ Below W.heap.size W w' := by
  have HN := Lib.hid (fun w1 (h1 : Below W.heap.size W w1) => now_any (h.below h1) _ rfl)
  have HFL := Lib.hid (fun w1 (h1 : Below W.heap.size W w1) => fail_any (h.below h1) 1 p 1 rfl hp)
  have hsz := (h.good.one i _ h.now).1
  obtain ⟨t, ht⟩ : ∃ t, hdT (T.drop i) = t := ⟨_, rfl⟩
  rw [ht] at HN hk hn hsz
  have k1 : ((t.kind : Int) == 2) = true := by rw [hk]; rfl
  have k2 : ((t.kind : Int) != 2) = false := by rw [bne, k1]; rfl
  have HP := Lib.hid (fun w1 => wparse_none w1 hn hsz)
  clear ht hk hn hsz
  go_enter Tryz.func109, Tryz.ntmps109
  go_wp2_with (first
    | (go_at_call 61; ((with_reducible refine (HN.out _ (Below.refl _ _)).mono ?_); rintro e w1 ⟨rfl, h1⟩))
    | (go_at_call 61; ((with_reducible refine (HN.out _ h1).mono ?_); rintro e w2 ⟨rfl, h2⟩))
    | (go_at_call 122; ((with_reducible refine (HP.out _).mono ?_); rintro e w3 ⟨rfl, h3⟩; have h3 := h1.trans ((h2.trans (h3.mono h2.size)).mono h1.size)))
    | (go_at_call 59; ((with_reducible refine (HFL.out _ h3).mono ?_); rintro e w4 ⟨rfl, h4⟩)))
  exact ⟨rfl, rfl, h3.trans (h4.mono h3.size)⟩

set_option maxRecDepth 100000 in
theorem num_out {W : World} {rb g N cT i o : Nat} {T : List Tok} (h : Rd W rb g N cT T i o) (low high n : Int) (hk : (hdT (T.drop i)).kind = 2) (hn : parseL (hdT (T.drop i)).text = some n) (hr : n < low ∨ high < n) (p : Nat) (hp : (hdT (T.drop i)).at_ = p) :
    Calls Tryz.prog 109 #[.pointer (some ⟨rb, 0, none⟩), .int .i64 low, .int .i64 high] W fun e w' => e = flt p 1 ∧ Below W.heap.size W w' := by
  have HN := Lib.hid (fun w1 (h1 : Below W.heap.size W w1) => now_any (h.below h1) _ rfl)
  have HFL := Lib.hid (fun w1 (h1 : Below W.heap.size W w1) => fail_any (h.below h1) 1 p 1 rfl hp)
  have hsz := (h.good.one i _ h.now).1
  obtain ⟨t, ht⟩ : ∃ t, hdT (T.drop i) = t := ⟨_, rfl⟩
  rw [ht] at HN hk hn hsz
  have k1 : ((t.kind : Int) == 2) = true := by rw [hk]; rfl
  have k2 : ((t.kind : Int) != 2) = false := by rw [bne, k1]; rfl
  have HP := Lib.hid (fun w1 => wparse_some w1 hn hsz)
  clear ht hk hn hsz
  by_cases hl : n < low
  · have d1 : decide (n < low) = true := decide_eq_true hl
    go_enter Tryz.func109, Tryz.ntmps109
    go_wp2_with (first
      | (go_at_call 61; ((with_reducible refine (HN.out _ (Below.refl _ _)).mono ?_); rintro e w1 ⟨rfl, h1⟩))
      | (go_at_call 61; ((with_reducible refine (HN.out _ h1).mono ?_); rintro e w2 ⟨rfl, h2⟩))
      | (go_at_call 122; ((with_reducible refine (HP.out _).mono ?_); rintro e w3 ⟨rfl, h3⟩; have h3 := h1.trans ((h2.trans (h3.mono h2.size)).mono h1.size)))
      | (go_at_call 59; ((with_reducible refine (HFL.out _ h3).mono ?_); rintro e w4 ⟨rfl, h4⟩)))
    exact ⟨rfl, rfl, h3.trans (h4.mono h3.size)⟩
  · have d1 : decide (n < low) = false := decide_eq_false hl
    have d2 : decide (high < n) = true := decide_eq_true (by omega)
    clear hl hr
    go_enter Tryz.func109, Tryz.ntmps109
    go_wp2_with (first
      | (go_at_call 61; ((with_reducible refine (HN.out _ (Below.refl _ _)).mono ?_); rintro e w1 ⟨rfl, h1⟩))
      | (go_at_call 61; ((with_reducible refine (HN.out _ h1).mono ?_); rintro e w2 ⟨rfl, h2⟩))
      | (go_at_call 122; ((with_reducible refine (HP.out _).mono ?_); rintro e w3 ⟨rfl, h3⟩; have h3 := h1.trans ((h2.trans (h3.mono h2.size)).mono h1.size)))
      | (go_at_call 59; ((with_reducible refine (HFL.out _ h3).mono ?_); rintro e w4 ⟨rfl, h4⟩)))
    exact ⟨rfl, rfl, h3.trans (h4.mono h3.size)⟩

set_option maxRecDepth 100000 in
theorem num_yes {W : World} {rb g N cT i o : Nat} {T : List Tok} (h : Rd W rb g N cT T i o) (low high n : Int) (hk : (hdT (T.drop i)).kind = 2) (hn : parseL (hdT (T.drop i)).text = some n) (hr : low ≤ n ∧ n ≤ high) :
    Calls Tryz.prog 109 #[.pointer (some ⟨rb, 0, none⟩), .int .i64 low, .int .i64 high] W fun e w' => e = .returned (.int .i64 n) ∧ Rd w' rb g N cT T (i + 1) o ∧ Gr rb W w' := by
  have hm := h.end_ (by rw [hk]; decide)
  have hw := step_num hm (by have := h.good.len; have := h.len; omega)
  have HN := Lib.hid (fun w1 (h1 : Below W.heap.size W w1) => now_any (h.below h1) _ rfl)
  have HC := Lib.hid (fun w1 (h1 : Below W.heap.size W w1) => (h.below h1).next hm)
  have HC1 := Lib.hid (fun w1 (h1 : Below W.heap.size W w1) => (h.below h1).c1)
  have HF := Lib.hid (fun w1 (h1 : Below W.heap.size W w1) => (h.below h1).fz 1)
  have hsz := (h.good.one i _ h.now).1
  obtain ⟨t, ht⟩ : ∃ t, hdT (T.drop i) = t := ⟨_, rfl⟩
  rw [ht] at HN hk hn hsz
  have k1 : ((t.kind : Int) == 2) = true := by rw [hk]; rfl
  have k2 : ((t.kind : Int) != 2) = false := by rw [bne, k1]; rfl
  have HP := Lib.hid (fun w1 => wparse_some w1 hn hsz)
  have d1 : decide (n < low) = false := decide_eq_false (by omega)
  have d2 : decide (high < n) = false := decide_eq_false (by omega)
  clear ht hk hn hsz hm hr
  go_enter Tryz.func109, Tryz.ntmps109
  go_wp2_with (first
    | (go_at_call 61; ((with_reducible refine (HN.out _ (Below.refl _ _)).mono ?_); rintro e w1 ⟨rfl, h1⟩))
    | (go_at_call 61; ((with_reducible refine (HN.out _ h1).mono ?_); rintro e w2 ⟨rfl, h2⟩))
    | (go_at_call 122; ((with_reducible refine (HP.out _).mono ?_); rintro e w3 ⟨rfl, h3⟩; have h3 := h1.trans ((h2.trans (h3.mono h2.size)).mono h1.size); have q1 := HC1.out w3 h3; have q2 := HF.out w3 h3)))
  go_ret
  exact ⟨rfl, HC.out w3 h3, (Gr.of h3).trans (Gr.set 1 _)⟩

end Go.Proofs.YtppagjhmlgkamaaGreatDoor

/-
  What a call of the reader's makes: it lies in blocks of the call's own; what stays of it.
-/
namespace Go.Proofs.YtppagjhmlgkamaaGreatDoor
open Go Go.RowKit Go.Lib

theorem ES.In.ext {B B' : Nat} {W W' : World} (hB : B ≤ B') (h : ∀ b j v, b < B → W.cell? ⟨b, j, none⟩ = some v → W'.cell? ⟨b, j, none⟩ = some v) : ∀ {l : ES} {b o : Nat}, b < B → l.In B W b o → l.In B' W' b o
  | .nil, _, _, _, _ => trivial
  | .cons _ _ _ _ _, _, _, hb, ⟨h0, h1, h2, ⟨v, h3, hl⟩, h4, hr⟩ =>
    ⟨h _ _ _ hb h0, h _ _ _ hb h1, h _ _ _ hb h2, ⟨v, h _ _ _ hb h3, hl.imp hB fun _ _ hb' hp => ES.In.ext hB h hb' hp⟩, h4, ES.In.ext hB h hb hr⟩
theorem SS.In.ext {B B' : Nat} {W W' : World} (hB : B ≤ B') (h : ∀ b j v, b < B → W.cell? ⟨b, j, none⟩ = some v → W'.cell? ⟨b, j, none⟩ = some v) : ∀ {l : SS} {b o : Nat}, b < B → l.In B W b o → l.In B' W' b o
  | .nil, _, _, _, _ => trivial
  | .cons _ _ _ _ _ _ _, _, _, hb, ⟨h0, h1, h2, ⟨v, h3, hl⟩, ⟨v', h3', hx⟩, ⟨v'', h3'', hy⟩, h4, hr⟩ =>
    ⟨h _ _ _ hb h0, h _ _ _ hb h1, h _ _ _ hb h2, ⟨v, h _ _ _ hb h3, hl.imp hB fun _ _ hb' hp => ES.In.ext hB h hb' hp⟩,
      ⟨v', h _ _ _ hb h3', hx.imp hB fun _ _ hb' hp => SS.In.ext hB h hb' hp⟩, ⟨v'', h _ _ _ hb h3'', hy.imp hB fun _ _ hb' hp => SS.In.ext hB h hb' hp⟩, h4, SS.In.ext hB h hb hr⟩

/-- The world without the blocks below lo. -/
def er (lo : Nat) (W : World) : World := { W with heap := W.heap.mapIdx fun k o => if k < lo then .cells #[] 0 else o }
theorem er_cell (lo : Nat) (W : World) (b j : Nat) : (er lo W).cell? ⟨b, j, none⟩ = if b < lo then none else W.cell? ⟨b, j, none⟩ := by
  by_cases h : b < lo
  · rw [if_pos h]
    cases hw : W.heap[b]? with
    | none => simp [er, World.cell?, hw]
    | some o => simp [er, World.cell?, hw, h]
  · rw [if_neg h]
    cases hw : W.heap[b]? with
    | none => simp [er, World.cell?, hw]
    | some o => simp [er, World.cell?, hw, h]

/-- All blocks from lo on stay. -/
structure Kp (lo : Nat) (W W' : World) : Prop where
  size : W.heap.size ≤ W'.heap.size
  block : ∀ k, lo ≤ k → k < W.heap.size → W'.heap[k]? = W.heap[k]?
theorem Kp.refl (lo : Nat) (W : World) : Kp lo W W := ⟨Nat.le_refl _, fun _ _ _ => rfl⟩
theorem Kp.trans {lo : Nat} {W W' W'' : World} (h : Kp lo W W') (h' : Kp lo W' W'') : Kp lo W W'' := ⟨Nat.le_trans h.size h'.size, fun k hk hl => (h'.block k hk (Nat.lt_of_lt_of_le hl h.size)).trans (h.block k hk hl)⟩
theorem Kp.below {lo : Nat} {W W' : World} (h : Below W.heap.size W W') : Kp lo W W' := ⟨h.size, fun k _ hl => h.block k hl⟩
theorem Kp.gr {lo rb : Nat} {W W' : World} (h : Gr rb W W') (hr : rb < lo) : Kp lo W W' := ⟨h.size, fun k hk hl => h.block hl (by omega)⟩
theorem Kp.set {lo b j : Nat} {W : World} (u : Value) (hb : b < lo) : Kp lo W (W.setCell ⟨b, j, none⟩ u) := ⟨by simp, fun k hk _ => Below.heap_setCell W ⟨b, j, none⟩ u k (show k ≠ b by omega)⟩
theorem Kp.drew {lo : Nat} {W : World} : Kp lo W W.drew := ⟨Nat.le_refl _, fun _ _ _ => rfl⟩
theorem er_ext {lo lo' : Nat} {W W' : World} (h : Kp lo W W') (hl : lo' ≤ lo) : ∀ b j v, b < W.heap.size → (er lo W).cell? ⟨b, j, none⟩ = some v → (er lo' W').cell? ⟨b, j, none⟩ = some v := by
  intro b j v hb hc
  rw [er_cell] at hc ⊢
  by_cases e : b < lo
  · rw [if_pos e] at hc; cases hc
  · rw [if_neg e] at hc
    rw [if_neg (by omega), World.cell?_of_block (a := ⟨b, j, none⟩) (h.block b (by omega) hb)]
    exact hc

abbrev EX (lo : Nat) (W : World) (v : Value) (l : ES) : Prop := EV W.heap.size (er lo W) v l
abbrev SX (lo : Nat) (W : World) (v : Value) (l : SS) : Prop := SV W.heap.size (er lo W) v l
theorem EX.kp {lo lo' : Nat} {W W' : World} {v : Value} {l : ES} (hv : EX lo W v l) (h : Kp lo W W') (hl : lo' ≤ lo) : EX lo' W' v l := RowV.imp hv h.size fun _ _ hb hp => ES.In.ext h.size (er_ext h hl) hb hp
theorem SX.kp {lo lo' : Nat} {W W' : World} {v : Value} {l : SS} (hv : SX lo W v l) (h : Kp lo W W') (hl : lo' ≤ lo) : SX lo' W' v l := RowV.imp hv h.size fun _ _ hb hp => SS.In.ext h.size (er_ext h hl) hb hp
theorem ex_nil (lo : Nat) (W : World) : EX lo W (.slice none 0 0) .nil := ⟨none, 0, rfl, Nat.le_refl _, by decide, fun h => by simp [ES.len] at h⟩
theorem sx_nil (lo : Nat) (W : World) : SX lo W (.slice none 0 0) .nil := ⟨none, 0, rfl, Nat.le_refl _, by decide, fun h => by simp [SS.len] at h⟩

/-- What can be an expression's cells. -/
def okE (e : Ex) : Prop := I64 e.op ∧ I64 e.n ∧ e.s.size ≤ 9223372036854775807
theorem i64_0 : I64 0 := by unfold I64; omega
theorem okE_of {op : Int} {l : ES} (h : I64 op) : okE ⟨op, 0, nilS, l⟩ := ⟨h, i64_0, by show nilS.size ≤ _; decide⟩
/-- An expression's value. -/
def XV (lo : Nat) (W : World) (v : Value) (e : Ex) : Prop := ∃ vl, v = .agg #[.int .i64 e.op, .int .i64 e.n, .string e.s, vl] ∧ EX lo W vl e.l ∧ okE e
theorem XV.kp {lo lo' : Nat} {W W' : World} {v : Value} {e : Ex} (hv : XV lo W v e) (h : Kp lo W W') (hl : lo' ≤ lo) : XV lo' W' v e := by
  obtain ⟨vl, e1, h1, h2⟩ := hv
  exact ⟨vl, e1, h1.kp h hl, h2⟩
theorem er_at {lo n j : Nat} {W : World} {cs : Array Value} {t : TypeId} {u : Value} (hc : W.heap[n]? = some (.cells cs t)) (hl : lo ≤ n) (hu : cs[j]? = some u) : (er lo W).cell? ⟨n, j, none⟩ = some u := by
  rw [er_cell, if_neg (by omega), box_cell hc, hu]
/-- One expression; two. -/
theorem ex_one {lo n : Nat} {W : World} {e : Ex} {vl : Value} {t : TypeId} (hc : W.heap[n]? = some (.cells #[.int .i64 e.op, .int .i64 e.n, .string e.s, vl] t)) (hl : lo ≤ n) (hv : EX lo W vl e.l) (ho : okE e) : EX lo W (.slice (some ⟨n, 0, none⟩) 1 1) (toES e .nil) :=
  ⟨some ⟨n, 0, none⟩, 1, rfl, Nat.le_refl _, by decide, fun _ => ⟨n, 0, rfl, lt_heap hc, er_at hc hl rfl, er_at hc hl rfl, er_at hc hl rfl, ⟨vl, er_at hc hl rfl, hv⟩, ho, trivial⟩⟩
theorem ex_two {lo n : Nat} {W : World} {e e' : Ex} {vl vl' : Value} {t : TypeId} (hc : W.heap[n]? = some (.cells #[.int .i64 e.op, .int .i64 e.n, .string e.s, vl, .int .i64 e'.op, .int .i64 e'.n, .string e'.s, vl'] t)) (hl : lo ≤ n) (hv : EX lo W vl e.l) (ho : okE e) (hv' : EX lo W vl' e'.l) (ho' : okE e') :
    EX lo W (.slice (some ⟨n, 0, none⟩) 2 2) (toES e (toES e' .nil)) :=
  ⟨some ⟨n, 0, none⟩, 2, rfl, Nat.le_refl _, by decide, fun _ => ⟨n, 0, rfl, lt_heap hc, er_at hc hl rfl, er_at hc hl rfl, er_at hc hl rfl, ⟨vl, er_at hc hl rfl, hv⟩, ho, er_at hc hl rfl, er_at hc hl rfl, er_at hc hl rfl, ⟨vl', er_at hc hl rfl, hv'⟩, ho', trivial⟩⟩

/-- The reader, wherever another block is written to. -/
theorem Rd.set {W : World} {rb g N cT i o b j : Nat} {T : List Tok} (h : Rd W rb g N cT T i o) (u : Value) (hb : b ≠ rb) (hg : b ≠ g) : Rd (W.setCell ⟨b, j, none⟩ u) rb g N cT T i o :=
  ⟨(World.cell?_setCell_other _ _ _ _ (fun e => hb (congrArg Addr.block e))).trans h.c0, (World.cell?_setCell_other _ _ _ _ (fun e => hb (congrArg Addr.block e))).trans h.c1, (World.cell?_setCell_other _ _ _ _ (fun e => hb (congrArg Addr.block e))).trans h.c2, fun k => (World.frozen?_setCell _ _ _ _).trans (h.fz k),
    by simpa using h.rlt, h.tok.step (by simp) (Below.heap_setCell W ⟨b, j, none⟩ u g (Ne.symm hg)), h.ne, h.len, h.lt, h.small, h.good⟩
theorem Rd.alloc {W : World} {rb g N cT i o : Nat} {T : List Tok} (h : Rd W rb g N cT T i o) (c : Obj) : Rd (W.alloc c) rb g N cT T i o := h.below ((Below.refl _ _).alloc (Nat.le_refl _) c)
theorem Rd.drew {W : World} {rb g N cT i o : Nat} {T : List Tok} (h : Rd W rb g N cT T i o) : Rd W.drew rb g N cT T i o := h.below ⟨rfl, rfl, rfl, Nat.le_refl _, fun _ _ => rfl⟩
theorem Gr.setNew {rb b j : Nat} {W W' : World} (h : Gr rb W W') (u : Value) (hb : W.heap.size ≤ b) : Gr rb W (W'.setCell ⟨b, j, none⟩ u) :=
  ⟨(show W'.os = W.os from World.grownBy.os h), (show W'.tape = W.tape from World.grownBy.tape h), (show W'.output = W.output from World.grownBy.output h), by simpa using h.size, fun k hk hne => (Below.heap_setCell W' ⟨b, j, none⟩ u k (show k ≠ b by omega)).trans (h.block hk (fun e => hne (by rw [e])))⟩
theorem Gr.alloc {rb : Nat} {W W' : World} (h : Gr rb W W') (c : Obj) : Gr rb W (W'.alloc c) := h.trans (Gr.of ((Below.refl _ _).alloc (Nat.le_refl _) c))
theorem Gr.drew {rb : Nat} {W W' : World} (h : Gr rb W W') : Gr rb W W'.drew := h.trans (Gr.of ⟨rfl, rfl, rfl, Nat.le_refl _, fun _ _ => rfl⟩)
theorem Gr.refl (rb : Nat) (W : World) : Gr rb W W := Gr.of (Below.refl _ _)

/-- Four cells that are stored one behind the other. -/
def put4 (W : World) (n : Nat) (a b c d : Value) : World := (((W.setCell ⟨n, 0, none⟩ a).setCell ⟨n, 1, none⟩ b).setCell ⟨n, 2, none⟩ c).setCell ⟨n, 3, none⟩ d
theorem Rd.put4 {W : World} {rb g N cT i o n : Nat} {T : List Tok} {a b c d : Value} (h : Rd W rb g N cT T i o) (hb : n ≠ rb) (hg : n ≠ g) : Rd (put4 W n a b c d) rb g N cT T i o := (((h.set a hb hg).set b hb hg).set c hb hg).set d hb hg
theorem Gr.put4 {rb n : Nat} {W W' : World} {a b c d : Value} (h : Gr rb W W') (hb : W.heap.size ≤ n) : Gr rb W (put4 W' n a b c d) := (((h.setNew a hb).setNew b hb).setNew c hb).setNew d hb
theorem Kp.put4 {lo n : Nat} {W : World} {a b c d : Value} (hb : n < lo) : Kp lo W (put4 W n a b c d) := (((Kp.set a hb).trans (Kp.set b hb)).trans (Kp.set c hb)).trans (Kp.set d hb)
theorem put4_cells {W : World} {n : Nat} {a b c d x y z u : Value} {t : TypeId} (h : W.heap[n]? = some (.cells #[x, y, z, u] t)) :
    (put4 W n a b c d).cell? ⟨n, 0, none⟩ = some a ∧ (put4 W n a b c d).cell? ⟨n, 1, none⟩ = some b ∧ (put4 W n a b c d).cell? ⟨n, 2, none⟩ = some c ∧ (put4 W n a b c d).cell? ⟨n, 3, none⟩ = some d := by
  have h0 : W.cell? ⟨n, 0, none⟩ = some x := box_cell h 0
  have h1 : W.cell? ⟨n, 1, none⟩ = some y := box_cell h 1
  have h2 : W.cell? ⟨n, 2, none⟩ = some z := box_cell h 2
  have h3 : W.cell? ⟨n, 3, none⟩ = some u := box_cell h 3
  have ne : ∀ p q : Nat, p ≠ q → (⟨n, p, none⟩ : Addr) ≠ ⟨n, q, none⟩ := fun p q hpq e => hpq (congrArg Addr.off e)
  have ot : ∀ {V : World} {p q : Nat} {v : Value}, p ≠ q → (V.setCell ⟨n, p, none⟩ v).cell? ⟨n, q, none⟩ = V.cell? ⟨n, q, none⟩ := fun hpq => World.cell?_setCell_other _ _ _ _ (ne _ _ hpq)
  unfold put4
  refine ⟨?_, ?_, ?_, ?_⟩
  · rw [ot (by decide), ot (by decide), ot (by decide)]; exact World.cell?_setCell_same _ _ _ h0
  · rw [ot (by decide), ot (by decide)]; exact World.cell?_setCell_same (u := y) _ _ _ (by rw [ot (by decide)]; exact h1)
  · rw [ot (by decide)]; exact World.cell?_setCell_same (u := z) _ _ _ (by rw [ot (by decide), ot (by decide)]; exact h2)
  · exact World.cell?_setCell_same (u := u) _ _ _ (by rw [ot (by decide), ot (by decide), ot (by decide)]; exact h3)

/-- What a call that reads an expression has done. -/
def XP (rb g N cT o : Nat) (T : List Tok) (W : World) (x : PR Ex) (e : Ending) (W' : World) : Prop :=
  match x with
  | .ok v r => (∃ vv, e = .returned vv ∧ XV W.heap.size W' vv v) ∧ (∃ i, Rd W' rb g N cT T i o ∧ T.drop i = r) ∧ Gr rb W W'
  | .bad p c => e = flt p c ∧ Gr rb W W'
  | .out => True

end Go.Proofs.YtppagjhmlgkamaaGreatDoor

/-
  Package parse: an operation of one, and an expression in brackets.
-/
namespace Go.Proofs.YtppagjhmlgkamaaGreatDoor
open Go Go.RowKit Go.Lib

set_option maxRecDepth 100000 in
theorem one_yes {W : World} {rb g N cT i o : Nat} {T : List Tok} (h : Rd W rb g N cT T i o) (op : Int) (hop : I64 op) (s : List UInt8) (hs : s ≠ []) (hb : isT (T.drop i) s = true) (ho : o < 256) (v : Ex) (r : List Tok)
    (HS : ∀ W2, Rd W2 rb g N cT T (i + 1) (o + 1) → Calls Tryz.prog 135 #[.pointer (some ⟨rb, 0, none⟩)] W2 (XP rb g N cT (o + 1) T W2 (.ok v r))) :
    Calls Tryz.prog 139 #[.pointer (some ⟨rb, 0, none⟩), .int .i64 op, .string (baT s)] W (XP rb g N cT o T W (.ok ⟨op, 0, nilS, toES v .nil⟩ r)) := by
  have HE := Lib.hid (fun W1 (h1 : Rd W1 rb g N cT T i o) => enter_yes h1 s hs hb ho)
  have HSS := Lib.hid HS
  have HR := Lib.hid h
  have hrl := h.rlt
  have hgl := h.tok.1
  clear HS h hb
  go_enter Tryz.func139, Tryz.ntmps139
  go_upto_region 3 with (first
    | (go_at_call 107; ((with_reducible refine (HE.out _ (HR.out.alloc _)).mono ?_); rintro e w1 ⟨rfl, h1, g1⟩))
    | (go_at_call 135; ((with_reducible refine (HSS.out _ h1).mono ?_); rintro e w2 ⟨⟨vv, rfl, vl, rfl, hv, hok⟩, ⟨i', h2, hd⟩, g2⟩)))
  have z1 := g1.size
  have z2 := g2.size
  rw [World.size_alloc] at z1
  have B6 : w2.heap[W.heap.size]? = some (.cells #[.int .i64 0, .int .i64 0, .string ⟨#[]⟩, .slice none 0 0] 38) :=
    (g2.block (by omega) (by omega)).trans ((g1.block (by simp) (by omega)).trans (heap_alloc_new W _))
  have hA := heap_alloc_new w2 (.cells #[.int .i64 v.op, .int .i64 v.n, .string v.s, vl] 38)
  have hB := heap_alloc_new (w2.alloc (.cells #[.int .i64 v.op, .int .i64 v.n, .string v.s, vl] 38)) (.cells #[.int .i64 op, .int .i64 0, .string ⟨#[]⟩, .slice (some ⟨w2.heap.size, 0, none⟩) 1 1] 38)
  rw [World.size_alloc] at hB
  have hA := (Below.heap_alloc _ (.cells #[.int .i64 op, .int .i64 0, .string ⟨#[]⟩, .slice (some ⟨w2.heap.size, 0, none⟩) 1 1] 38) w2.heap.size (by simp)).trans hA
  have hb3 : Below w2.heap.size w2 ((w2.alloc (.cells #[.int .i64 v.op, .int .i64 v.n, .string v.s, vl] 38)).alloc (.cells #[.int .i64 op, .int .i64 0, .string ⟨#[]⟩, .slice (some ⟨w2.heap.size, 0, none⟩) 1 1] 38)) := ((Below.refl _ _).alloc (Nat.le_refl _) _).alloc (by simp) _
  obtain ⟨w3, hw3⟩ : ∃ W3, (w2.alloc (.cells #[.int .i64 v.op, .int .i64 v.n, .string v.s, vl] 38)).alloc (.cells #[.int .i64 op, .int .i64 0, .string ⟨#[]⟩, .slice (some ⟨w2.heap.size, 0, none⟩) 1 1] 38) = W3 := ⟨_, rfl⟩
  rw [hw3] at hA hB hb3 ⊢
  clear hw3
  have h3 := h2.below hb3
  have B6 := (hb3.block _ (by omega)).trans B6
  have hEX : EX (W.heap.size + 1) w3 (.slice (some ⟨w2.heap.size, 0, none⟩) 1 1) (toES v .nil) := ex_one hA (by omega) (hv.kp (Kp.below hb3) (by omega)) hok
  have k2 := h3.c2
  have k4 := h3.fz 2
  have hwo : IntKind.i64.wrap ((o + 1 : Nat) - 1) = (o : Int) := by have := h3.small; rw [IntWalk.i64_in _ (by omega)]; omega
  go_upto_region 4 with fail
  have h4 := h3.open_ (o' := o) (by omega)
  have g4 : Gr rb W (w3.setCell ⟨rb, 2, none⟩ (.int .i64 o)) := ((Gr.refl rb W).alloc _).trans (g1.trans (g2.trans ((Gr.of hb3).trans (Gr.set 2 _))))
  have hK : Kp (W.heap.size + 1) w3 (w3.setCell ⟨rb, 2, none⟩ (.int .i64 o)) := Kp.set _ (by omega)
  have hs4 : (w3.setCell ⟨rb, 2, none⟩ (.int .i64 o)).heap.size = w3.heap.size := by simp
  have B7 := (Below.heap_setCell w3 ⟨rb, 2, none⟩ (.int .i64 o) (w2.heap.size + 1) (show w2.heap.size + 1 ≠ rb by omega)).trans hB
  have B6 := (Below.heap_setCell w3 ⟨rb, 2, none⟩ (.int .i64 o) W.heap.size (show W.heap.size ≠ rb by omega)).trans B6
  obtain ⟨w4, hw4⟩ : ∃ W4, w3.setCell ⟨rb, 2, none⟩ (.int .i64 o) = W4 := ⟨_, rfl⟩
  rw [hw4] at h4 g4 hK B7 B6 hs4 ⊢
  have c70 : w4.cell? ⟨w2.heap.size + 1, 0, none⟩ = some (.int .i64 op) := box_cell B7 0
  have c71 : w4.cell? ⟨w2.heap.size + 1, 1, none⟩ = some (.int .i64 0) := box_cell B7 1
  have c72 : w4.cell? ⟨w2.heap.size + 1, 2, none⟩ = some (.string ⟨#[]⟩) := box_cell B7 2
  have c73 : w4.cell? ⟨w2.heap.size + 1, 3, none⟩ = some (.slice (some ⟨w2.heap.size, 0, none⟩) 1 1) := box_cell B7 3
  have c60 : w4.cell? ⟨W.heap.size, 0, none⟩ = some (.int .i64 0) := box_cell B6 0
  have c61 : w4.cell? ⟨W.heap.size, 1, none⟩ = some (.int .i64 0) := box_cell B6 1
  have c62 : w4.cell? ⟨W.heap.size, 2, none⟩ = some (.string ⟨#[]⟩) := box_cell B6 2
  have c63 : w4.cell? ⟨W.heap.size, 3, none⟩ = some (.slice none 0 0) := box_cell B6 3
  have f60 := box_frozen B6 0
  have f61 := box_frozen B6 1
  have f62 := box_frozen B6 2
  have f63 := box_frozen B6 3
  have hP := put4_cells (a := .int .i64 op) (b := .int .i64 0) (c := .string ⟨#[]⟩) (d := .slice (some ⟨w2.heap.size, 0, none⟩) 1 1) B6
  have hfin : XP rb g N cT o T W (.ok ⟨op, 0, nilS, toES v .nil⟩ r) (.returned (.agg #[.int .i64 op, .int .i64 0, .string ⟨#[]⟩, .slice (some ⟨w2.heap.size, 0, none⟩) 1 1])) (put4 w4 W.heap.size (.int .i64 op) (.int .i64 0) (.string ⟨#[]⟩) (.slice (some ⟨w2.heap.size, 0, none⟩) 1 1)) :=
    ⟨⟨_, rfl, _, rfl, hEX.kp (hK.trans (Kp.put4 (Nat.lt_succ_self _))) (Nat.le_succ _), okE_of hop⟩, ⟨i', h4.put4 (by omega) (by omega), hd⟩, g4.put4 (Nat.le_refl _)⟩
  go_wp2
  obtain ⟨p0, p1, p2, p3⟩ := hP
  obtain ⟨w5, hw5⟩ : ∃ W5, put4 w4 W.heap.size (.int .i64 op) (.int .i64 0) (.string ⟨#[]⟩) (.slice (some ⟨w2.heap.size, 0, none⟩) 1 1) = W5 := ⟨_, rfl⟩
  show bodyPost _ _ _ _ _ (put4 w4 W.heap.size (.int .i64 op) (.int .i64 0) (.string ⟨#[]⟩) (.slice (some ⟨w2.heap.size, 0, none⟩) 1 1))
  rw [hw5] at p0 p1 p2 p3 hfin ⊢
  exact bodyPost_ret (v := .agg #[.int .i64 op, .int .i64 0, .string ⟨#[]⟩, .slice (some ⟨w2.heap.size, 0, none⟩) 1 1]) (by simp [results, Tryz.results139, go_sem, p0, p1, p2, p3]) rfl hfin

set_option maxRecDepth 100000 in
theorem one_bad {W : World} {rb g N cT i o : Nat} {T : List Tok} (h : Rd W rb g N cT T i o) (op : Int) (s : List UInt8) (hs : s ≠ []) (hb : isT (T.drop i) s = true) (ho : o < 256) (p c : Nat)
    (HS : ∀ W2, Rd W2 rb g N cT T (i + 1) (o + 1) → Calls Tryz.prog 135 #[.pointer (some ⟨rb, 0, none⟩)] W2 (XP rb g N cT (o + 1) T W2 (.bad p c))) :
    Calls Tryz.prog 139 #[.pointer (some ⟨rb, 0, none⟩), .int .i64 op, .string (baT s)] W (XP rb g N cT o T W (.bad p c)) := by
  have HE := Lib.hid (fun W1 (h1 : Rd W1 rb g N cT T i o) => enter_yes h1 s hs hb ho)
  have HSS := Lib.hid HS
  have HR := Lib.hid h
  clear HS h hb
  go_enter Tryz.func139, Tryz.ntmps139
  go_wp2_with (first
    | (go_at_call 107; ((with_reducible refine (HE.out _ (HR.out.alloc _)).mono ?_); rintro e w1 ⟨rfl, h1, g1⟩))
    | (go_at_call 135; ((with_reducible refine (HSS.out _ h1).mono ?_); rintro e w2 ⟨rfl, g2⟩)))
  exact ⟨rfl, rfl, ((Gr.refl rb W).alloc _).trans (g1.trans g2)⟩

set_option maxRecDepth 100000 in
theorem one_deep {W : World} {rb g N cT i : Nat} {T : List Tok} (h : Rd W rb g N cT T i 256) (op : Int) (s : List UInt8) (hb : isT (T.drop i) s = true) (p : Nat) (hp : (hdT (T.drop i)).at_ = p) :
    Calls Tryz.prog 139 #[.pointer (some ⟨rb, 0, none⟩), .int .i64 op, .string (baT s)] W (XP rb g N cT 256 T W (.bad p 3)) := by
  have HE := Lib.hid (fun W1 (h1 : Rd W1 rb g N cT T i 256) => enter_deep h1 s hb p hp)
  have HR := Lib.hid h
  clear h hb
  go_enter Tryz.func139, Tryz.ntmps139
  go_wp2_with (go_at_call 107; ((with_reducible refine (HE.out _ (HR.out.alloc _)).mono ?_); rintro e w1 ⟨rfl, h1⟩))
  exact ⟨rfl, rfl, ((Gr.refl rb W).alloc _).trans (Gr.of h1)⟩

/-- An operation of one. -/
theorem on_any {W : World} {rb g N cT i o : Nat} {T : List Tok} (h : Rd W rb g N cT T i o) (op : Int) (hop : I64 op) (s : List UInt8) (hs : s ≠ []) (hb : isT (T.drop i) s = true) (x : PR Ex) (hx : o < 256 → x ≠ .out)
    (HS : ∀ W2, Rd W2 rb g N cT T (i + 1) (o + 1) → Calls Tryz.prog 135 #[.pointer (some ⟨rb, 0, none⟩)] W2 (XP rb g N cT (o + 1) T W2 x)) :
    Calls Tryz.prog 139 #[.pointer (some ⟨rb, 0, none⟩), .int .i64 op, .string (baT s)] W (XP rb g N cT o T W ((enterT s o (T.drop i)).bind fun _ _ => x.bind fun e r => .ok ⟨op, 0, nilS, toES e .nil⟩ r)) := by
  unfold enterT
  rw [if_pos hb]
  by_cases ho : o = 256
  · subst ho
    exact one_deep h op s hb _ rfl
  · rw [if_neg ho]
    have ho' : o < 256 := by have := h.small; omega
    cases x with
    | ok v r => exact one_yes h op hop s hs hb ho' v r HS
    | bad p c => exact one_bad h op s hs hb ho' p c HS
    | out => exact absurd rfl (hx ho')

/-- A struct that a call hands back: read out of its cell. -/
theorem ret4 {W : World} {n : Nat} {a b c d x y z u : Value} {t : TypeId} (h : W.heap[n]? = some (.cells #[x, y, z, u] t)) : ∀ j, j < 4 → (put4 W n a b c d).cell? ⟨n, j, none⟩ = #[a, b, c, d][j]? := by
  obtain ⟨p0, p1, p2, p3⟩ := put4_cells (a := a) (b := b) (c := c) (d := d) h
  intro j hj
  have hj' : j = 0 ∨ j = 1 ∨ j = 2 ∨ j = 3 := by omega
  rcases hj' with rfl | rfl | rfl | rfl
  · exact p0
  · exact p1
  · exact p2
  · exact p3

set_option maxRecDepth 100000 in
theorem expr_yes {W : World} {rb g N cT i o : Nat} {T : List Tok} (h : Rd W rb g N cT T i o) (v : Ex) (r : List Tok)
    (HS : ∀ W2, Rd W2 rb g N cT T i o → Calls Tryz.prog 129 #[.pointer (some ⟨rb, 0, none⟩), .int .i64 1] W2 (XP rb g N cT o T W2 (.ok v r))) :
    Calls Tryz.prog 123 #[.pointer (some ⟨rb, 0, none⟩)] W (XP rb g N cT o T W (.ok v r)) := by
  have HSS := Lib.hid HS
  have HR := Lib.hid h
  have hrl := h.rlt
  have hgl := h.tok.1
  clear HS h
  go_enter Tryz.func123, Tryz.ntmps123
  go_upto_region 1 with fail
  have h1 := HR.out.alloc (.cells #[.int .i64 0, .int .i64 0, .string ⟨#[]⟩, .slice none 0 0] 38)
  have B6 := heap_alloc_new W (.cells #[.int .i64 0, .int .i64 0, .string ⟨#[]⟩, .slice none 0 0] 38)
  have g1 := (Gr.refl rb W).alloc (.cells #[.int .i64 0, .int .i64 0, .string ⟨#[]⟩, .slice none 0 0] 38)
  have z1 : (W.alloc (.cells #[.int .i64 0, .int .i64 0, .string ⟨#[]⟩, .slice none 0 0] 38)).heap.size = W.heap.size + 1 := by simp
  obtain ⟨w1, hw1⟩ : ∃ W1, W.alloc (.cells #[.int .i64 0, .int .i64 0, .string ⟨#[]⟩, .slice none 0 0] 38) = W1 := ⟨_, rfl⟩
  rw [hw1] at h1 B6 g1 z1 ⊢
  have HB := Lib.hid (fun w2 (g2 : Gr rb w1 w2) => (g2.block (by omega) (by omega)).trans B6)
  have HC := Lib.hid (fun w2 (g2 : Gr rb w1 w2) (j : Nat) => box_cell (HB.out w2 g2) j)
  have HFZ := Lib.hid (fun w2 (g2 : Gr rb w1 w2) (j : Nat) => box_frozen (HB.out w2 g2) j)
  clear hw1 B6
  go_wp2_with (go_at_call 129; ((with_reducible refine (HSS.out _ h1).mono ?_); rintro e w2 ⟨⟨vv, rfl, vl, rfl, hv, hok⟩, ⟨i', h2, hd⟩, g2⟩; obtain ⟨Al, cl, el, _⟩ := id hv; subst el; have c0 := HC.out w2 g2 0; have c1 := HC.out w2 g2 1; have c2 := HC.out w2 g2 2; have c3 := HC.out w2 g2 3; have f0 := HFZ.out w2 g2 0; have f1 := HFZ.out w2 g2 1; have f2 := HFZ.out w2 g2 2; have f3 := HFZ.out w2 g2 3; simp at c0 c1 c2 c3))
  have hP := ret4 (a := .int .i64 v.op) (b := .int .i64 v.n) (c := .string v.s) (d := .slice Al v.l.len cl) (HB.out w2 g2)
  have z2 := g2.size
  have hfin : XP rb g N cT o T W (.ok v r) (.returned (.agg #[.int .i64 v.op, .int .i64 v.n, .string v.s, .slice Al v.l.len cl])) (put4 w2 W.heap.size (.int .i64 v.op) (.int .i64 v.n) (.string v.s) (.slice Al v.l.len cl)) :=
    ⟨⟨_, rfl, _, rfl, hv.kp (Kp.put4 (by omega)) (by omega), hok⟩, ⟨i', h2.put4 (by omega) (by omega), hd⟩, (g1.trans g2).put4 (Nat.le_refl _)⟩
  obtain ⟨w5, hw5⟩ : ∃ W5, put4 w2 W.heap.size (.int .i64 v.op) (.int .i64 v.n) (.string v.s) (.slice Al v.l.len cl) = W5 := ⟨_, rfl⟩
  show bodyPost _ _ _ _ _ (put4 w2 W.heap.size (.int .i64 v.op) (.int .i64 v.n) (.string v.s) (.slice Al v.l.len cl))
  rw [hw5] at hP hfin ⊢
  have p0 := hP 0 (by decide)
  have p1 := hP 1 (by decide)
  have p2 := hP 2 (by decide)
  have p3 := hP 3 (by decide)
  exact bodyPost_ret (v := .agg #[.int .i64 v.op, .int .i64 v.n, .string v.s, .slice Al v.l.len cl]) (by simp [results, Tryz.results123, go_sem, p0, p1, p2, p3]) rfl hfin

set_option maxRecDepth 100000 in
theorem expr_bad {W : World} {rb g N cT i o : Nat} {T : List Tok} (h : Rd W rb g N cT T i o) (p c : Nat)
    (HS : ∀ W2, Rd W2 rb g N cT T i o → Calls Tryz.prog 129 #[.pointer (some ⟨rb, 0, none⟩), .int .i64 1] W2 (XP rb g N cT o T W2 (.bad p c))) :
    Calls Tryz.prog 123 #[.pointer (some ⟨rb, 0, none⟩)] W (XP rb g N cT o T W (.bad p c)) := by
  have HSS := Lib.hid HS
  have HR := Lib.hid h
  clear HS h
  go_enter Tryz.func123, Tryz.ntmps123
  go_wp2_with (go_at_call 129; ((with_reducible refine (HSS.out _ (HR.out.alloc _)).mono ?_); rintro e w2 ⟨rfl, g2⟩))
  exact ⟨rfl, rfl, ((Gr.refl rb W).alloc _).trans g2⟩

/-- An expression. -/
theorem expr_any {W : World} {rb g N cT i o : Nat} {T : List Tok} (h : Rd W rb g N cT T i o) (x : PR Ex) (hx : x ≠ .out)
    (HS : ∀ W2, Rd W2 rb g N cT T i o → Calls Tryz.prog 129 #[.pointer (some ⟨rb, 0, none⟩), .int .i64 1] W2 (XP rb g N cT o T W2 x)) :
    Calls Tryz.prog 123 #[.pointer (some ⟨rb, 0, none⟩)] W (XP rb g N cT o T W x) := by
  cases x with
  | ok v r => exact expr_yes h v r HS
  | bad p c => exact expr_bad h p c HS
  | out => exact absurd rfl hx

end Go.Proofs.YtppagjhmlgkamaaGreatDoor

/-
  Package parse: an expression in brackets; what begins with a name.
-/
namespace Go.Proofs.YtppagjhmlgkamaaGreatDoor
open Go Go.RowKit Go.Lib

/-- An empty expression's cells, and those of one. -/
abbrev z4 : Obj := .cells #[.int .i64 0, .int .i64 0, .string ⟨#[]⟩, .slice none 0 0] 38

set_option maxRecDepth 100000 in
theorem within_yes {W : World} {rb g N cT i o : Nat} {T : List Tok} (h : Rd W rb g N cT T i o) (s t : List UInt8) (hs : s ≠ []) (ht : t ≠ []) (hb : isT (T.drop i) s = true) (ho : o < 256) (v : Ex) (r : List Tok) (hc : isT r t = true)
    (HS : ∀ W2, Rd W2 rb g N cT T (i + 1) (o + 1) → Calls Tryz.prog 123 #[.pointer (some ⟨rb, 0, none⟩)] W2 (XP rb g N cT (o + 1) T W2 (.ok v r))) :
    Calls Tryz.prog 124 #[.pointer (some ⟨rb, 0, none⟩), .string (baT s), .string (baT t)] W (XP rb g N cT o T W (.ok v r.tail)) := by
  have HE := Lib.hid (fun W1 (h1 : Rd W1 rb g N cT T i o) => enter_yes h1 s hs hb ho)
  have HSS := Lib.hid HS
  have HL := Lib.hid (fun W1 i' (h1 : Rd W1 rb g N cT T i' (o + 1)) (hd : T.drop i' = r) => leave_yes h1 t ht (by rw [hd]; exact hc))
  have HR := Lib.hid h
  have hrl := h.rlt
  have hgl := h.tok.1
  clear HS h hb hc
  go_enter Tryz.func124, Tryz.ntmps124
  go_upto_region 1 with fail
  have h0 := HR.out.alloc (.cells #[.int .i64 0, .int .i64 0, .string ⟨#[]⟩, .slice none 0 0] 38)
  have B6 := heap_alloc_new W (.cells #[.int .i64 0, .int .i64 0, .string ⟨#[]⟩, .slice none 0 0] 38)
  have g0 := (Gr.refl rb W).alloc (.cells #[.int .i64 0, .int .i64 0, .string ⟨#[]⟩, .slice none 0 0] 38)
  have z0 : (W.alloc (.cells #[.int .i64 0, .int .i64 0, .string ⟨#[]⟩, .slice none 0 0] 38)).heap.size = W.heap.size + 1 := by simp
  obtain ⟨w0, hw0⟩ : ∃ W1, W.alloc (.cells #[.int .i64 0, .int .i64 0, .string ⟨#[]⟩, .slice none 0 0] 38) = W1 := ⟨_, rfl⟩
  rw [hw0] at h0 B6 g0 z0 ⊢
  clear hw0
  go_upto_region 3 with (first
    | (go_at_call 107; ((with_reducible refine (HE.out _ h0).mono ?_); rintro e w1 ⟨rfl, h1, g1⟩))
    | (go_at_call 123; ((with_reducible refine (HSS.out _ h1).mono ?_); rintro e w2 ⟨⟨vv, rfl, vl, rfl, hv, hok⟩, ⟨i', h2, hd⟩, g2⟩; obtain ⟨Al, cl, el, _⟩ := id hv; subst el)))
  have z1 := g1.size
  have z2 := g2.size
  have h3 := h2.alloc (.cells #[.int .i64 v.op, .int .i64 v.n, .string v.s, .slice Al v.l.len cl] 38)
  have B7 := heap_alloc_new w2 (.cells #[.int .i64 v.op, .int .i64 v.n, .string v.s, .slice Al v.l.len cl] 38)
  have g3 := (g0.trans (g1.trans g2)).alloc (.cells #[.int .i64 v.op, .int .i64 v.n, .string v.s, .slice Al v.l.len cl] 38)
  have g03 := (g1.trans g2).alloc (.cells #[.int .i64 v.op, .int .i64 v.n, .string v.s, .slice Al v.l.len cl] 38)
  have z3 : (w2.alloc (.cells #[.int .i64 v.op, .int .i64 v.n, .string v.s, .slice Al v.l.len cl] 38)).heap.size = w2.heap.size + 1 := by simp
  have hv3 : EX w1.heap.size (w2.alloc (.cells #[.int .i64 v.op, .int .i64 v.n, .string v.s, .slice Al v.l.len cl] 38)) (.slice Al v.l.len cl) v.l := hv.kp (Kp.below ((Below.refl _ _).alloc (Nat.le_refl _) _)) (Nat.le_refl _)
  obtain ⟨w3, hw3⟩ : ∃ W1, w2.alloc (.cells #[.int .i64 v.op, .int .i64 v.n, .string v.s, .slice Al v.l.len cl] 38) = W1 := ⟨_, rfl⟩
  rw [hw3] at h3 B7 g3 g03 z3 hv3 ⊢
  clear hw3 hv
  have HB6 := Lib.hid (fun w4 (g4 : Gr rb w3 w4) => (g4.block (by omega) (by omega)).trans ((g03.block (by omega) (by omega)).trans B6))
  have HB7 := Lib.hid (fun w4 (g4 : Gr rb w3 w4) => (g4.block (by omega) (by omega)).trans B7)
  have HC := Lib.hid (fun w2 (g2 : Gr rb w3 w2) (j : Nat) => box_cell (HB6.out w2 g2) j)
  have HFZ := Lib.hid (fun w2 (g2 : Gr rb w3 w2) (j : Nat) => box_frozen (HB6.out w2 g2) j)
  have HC7 := Lib.hid (fun w2 (g2 : Gr rb w3 w2) (j : Nat) => box_cell (HB7.out w2 g2) j)
  clear B6 B7
  go_wp2_with (go_at_call 108; ((with_reducible refine (HL.out _ _ h3 hd).mono ?_); rintro e w4 ⟨rfl, h4, g4⟩; have c0 := HC.out w4 g4 0; have c1 := HC.out w4 g4 1; have c2 := HC.out w4 g4 2; have c3 := HC.out w4 g4 3; have f0 := HFZ.out w4 g4 0; have f1 := HFZ.out w4 g4 1; have f2 := HFZ.out w4 g4 2; have f3 := HFZ.out w4 g4 3; have d0 := HC7.out w4 g4 0; have d1 := HC7.out w4 g4 1; have d2 := HC7.out w4 g4 2; have d3 := HC7.out w4 g4 3; simp at c0 c1 c2 c3 d0 d1 d2 d3))
  have hP := ret4 (a := .int .i64 v.op) (b := .int .i64 v.n) (c := .string v.s) (d := .slice Al v.l.len cl) (HB6.out w4 g4)
  have z4' := g4.size
  have hfin : XP rb g N cT o T W (.ok v r.tail) (.returned (.agg #[.int .i64 v.op, .int .i64 v.n, .string v.s, .slice Al v.l.len cl])) (put4 w4 W.heap.size (.int .i64 v.op) (.int .i64 v.n) (.string v.s) (.slice Al v.l.len cl)) :=
    ⟨⟨_, rfl, _, rfl, hv3.kp ((Kp.gr g4 (by omega)).trans (Kp.put4 (by omega))) (by omega), hok⟩, ⟨i' + 1, h4.put4 (by omega) (by omega), by rw [← drop_tail, hd]⟩, (g3.trans g4).put4 (Nat.le_refl _)⟩
  obtain ⟨w5, hw5⟩ : ∃ W5, put4 w4 W.heap.size (.int .i64 v.op) (.int .i64 v.n) (.string v.s) (.slice Al v.l.len cl) = W5 := ⟨_, rfl⟩
  show bodyPost _ _ _ _ _ (put4 w4 W.heap.size (.int .i64 v.op) (.int .i64 v.n) (.string v.s) (.slice Al v.l.len cl))
  rw [hw5] at hP hfin ⊢
  have p0 := hP 0 (by decide)
  have p1 := hP 1 (by decide)
  have p2 := hP 2 (by decide)
  have p3 := hP 3 (by decide)
  exact bodyPost_ret (v := .agg #[.int .i64 v.op, .int .i64 v.n, .string v.s, .slice Al v.l.len cl]) (by simp [results, Tryz.results124, go_sem, p0, p1, p2, p3]) rfl hfin

set_option maxRecDepth 100000 in
theorem within_shut {W : World} {rb g N cT i o : Nat} {T : List Tok} (h : Rd W rb g N cT T i o) (s t : List UInt8) (hs : s ≠ []) (hb : isT (T.drop i) s = true) (ho : o < 256) (v : Ex) (r : List Tok) (hc : isT r t = false)
    (HS : ∀ W2, Rd W2 rb g N cT T (i + 1) (o + 1) → Calls Tryz.prog 123 #[.pointer (some ⟨rb, 0, none⟩)] W2 (XP rb g N cT (o + 1) T W2 (.ok v r))) :
    Calls Tryz.prog 124 #[.pointer (some ⟨rb, 0, none⟩), .string (baT s), .string (baT t)] W (XP rb g N cT o T W (.bad (hdT r).at_ 2)) := by
  have HE := Lib.hid (fun W1 (h1 : Rd W1 rb g N cT T i o) => enter_yes h1 s hs hb ho)
  have HSS := Lib.hid HS
  have HL := Lib.hid (fun W1 i' (h1 : Rd W1 rb g N cT T i' (o + 1)) (hd : T.drop i' = r) => leave_no h1 t (by rw [hd]; exact hc) (hdT r).at_ (by rw [hd]))
  have HR := Lib.hid h
  clear HS h hb hc
  go_enter Tryz.func124, Tryz.ntmps124
  go_wp2_with (first
    | (go_at_call 107; ((with_reducible refine (HE.out _ (HR.out.alloc _)).mono ?_); rintro e w1 ⟨rfl, h1, g1⟩))
    | (go_at_call 123; ((with_reducible refine (HSS.out _ h1).mono ?_); rintro e w2 ⟨⟨vv, rfl, vl, rfl, hv, hok⟩, ⟨i', h2, hd⟩, g2⟩; obtain ⟨Al, cl, el, _⟩ := id hv; subst el))
    | (go_at_call 108; ((with_reducible refine (HL.out _ _ (h2.alloc _) hd).mono ?_); rintro e w4 ⟨rfl, h4⟩)))
  exact ⟨rfl, rfl, ((Gr.refl rb W).alloc _).trans (g1.trans (g2.trans (((Gr.refl rb w2).alloc _).trans (Gr.of h4))))⟩

set_option maxRecDepth 100000 in
theorem within_bad {W : World} {rb g N cT i o : Nat} {T : List Tok} (h : Rd W rb g N cT T i o) (s t : List UInt8) (hs : s ≠ []) (hb : isT (T.drop i) s = true) (ho : o < 256) (p c : Nat)
    (HS : ∀ W2, Rd W2 rb g N cT T (i + 1) (o + 1) → Calls Tryz.prog 123 #[.pointer (some ⟨rb, 0, none⟩)] W2 (XP rb g N cT (o + 1) T W2 (.bad p c))) :
    Calls Tryz.prog 124 #[.pointer (some ⟨rb, 0, none⟩), .string (baT s), .string (baT t)] W (XP rb g N cT o T W (.bad p c)) := by
  have HE := Lib.hid (fun W1 (h1 : Rd W1 rb g N cT T i o) => enter_yes h1 s hs hb ho)
  have HSS := Lib.hid HS
  have HR := Lib.hid h
  clear HS h hb
  go_enter Tryz.func124, Tryz.ntmps124
  go_wp2_with (first
    | (go_at_call 107; ((with_reducible refine (HE.out _ (HR.out.alloc _)).mono ?_); rintro e w1 ⟨rfl, h1, g1⟩))
    | (go_at_call 123; ((with_reducible refine (HSS.out _ h1).mono ?_); rintro e w2 ⟨rfl, g2⟩)))
  exact ⟨rfl, rfl, ((Gr.refl rb W).alloc _).trans (g1.trans g2)⟩

set_option maxRecDepth 100000 in
theorem within_deep {W : World} {rb g N cT i : Nat} {T : List Tok} (h : Rd W rb g N cT T i 256) (s t : List UInt8) (hb : isT (T.drop i) s = true) (p : Nat) (hp : (hdT (T.drop i)).at_ = p) :
    Calls Tryz.prog 124 #[.pointer (some ⟨rb, 0, none⟩), .string (baT s), .string (baT t)] W (XP rb g N cT 256 T W (.bad p 3)) := by
  have HE := Lib.hid (fun W1 (h1 : Rd W1 rb g N cT T i 256) => enter_deep h1 s hb p hp)
  have HR := Lib.hid h
  clear h hb
  go_enter Tryz.func124, Tryz.ntmps124
  go_wp2_with (go_at_call 107; ((with_reducible refine (HE.out _ (HR.out.alloc _)).mono ?_); rintro e w1 ⟨rfl, h1⟩))
  exact ⟨rfl, rfl, ((Gr.refl rb W).alloc _).trans (Gr.of h1)⟩

/-- An expression in brackets. -/
theorem within_any {W : World} {rb g N cT i o : Nat} {T : List Tok} (h : Rd W rb g N cT T i o) (s t : List UInt8) (hs : s ≠ []) (ht : t ≠ []) (hb : isT (T.drop i) s = true) (ex : Nat → Nat → List Tok → PR Ex) (hx : o < 256 → ex 1 (o + 1) (T.drop (i + 1)) ≠ .out)
    (HS : ∀ W2, Rd W2 rb g N cT T (i + 1) (o + 1) → Calls Tryz.prog 123 #[.pointer (some ⟨rb, 0, none⟩)] W2 (XP rb g N cT (o + 1) T W2 (ex 1 (o + 1) (T.drop (i + 1))))) :
    Calls Tryz.prog 124 #[.pointer (some ⟨rb, 0, none⟩), .string (baT s), .string (baT t)] W (XP rb g N cT o T W (withinT ex s t o (T.drop i))) := by
  unfold withinT enterT
  rw [if_pos hb]
  by_cases ho : o = 256
  · subst ho
    exact within_deep h s t hb _ rfl
  · rw [if_neg ho, drop_tail]
    have ho' : o < 256 := by have := h.small; omega
    show Calls _ _ _ _ (XP rb g N cT o T W ((ex 1 (o + 1) (T.drop (i + 1))).bind fun e r => (wantT t r).bind fun _ r => .ok e r))
    cases hxx : ex 1 (o + 1) (T.drop (i + 1)) with
    | ok v r =>
      rw [hxx] at HS
      show Calls _ _ _ _ (XP rb g N cT o T W ((wantT t r).bind fun _ r => .ok v r))
      unfold wantT
      by_cases hc : isT r t = true
      · rw [if_pos hc]
        exact within_yes h s t hs ht hb ho' v r hc HS
      · rw [if_neg hc]
        exact within_shut h s t hs hb ho' v r (by simpa using hc) HS
    | bad p c => rw [hxx] at HS; exact within_bad h s t hs hb ho' p c HS
    | out => exact absurd hxx (hx ho')

end Go.Proofs.YtppagjhmlgkamaaGreatDoor

/-
  Package parse: what operations of two stand between (single), way by way.
-/
namespace Go.Proofs.YtppagjhmlgkamaaGreatDoor
open Go Go.RowKit Go.Lib
attribute [local go_sem high] run_tok0 run_tok1 run_tok2

set_option maxRecDepth 100000 in
theorem sg_neg_ok {W : World} {rb g N cT i o : Nat} {T : List Tok} (h : Rd W rb g N cT T i o) (b0 : isT (T.drop i) [45] = true) (v : Ex) (r : List Tok)
    (HS : ∀ W2, Rd W2 rb g N cT T i o → Calls Tryz.prog 139 #[.pointer (some ⟨rb, 0, none⟩), .int .i64 6, .string ⟨#[45]⟩] W2 (XP rb g N cT o T W2 (.ok v r))) :
    Calls Tryz.prog 135 #[.pointer (some ⟨rb, 0, none⟩)] W (XP rb g N cT o T W (.ok v r)) := by
  have HI0 := Lib.hid (fun w1 (h1 : Below W.heap.size W w1) => (show Calls Tryz.prog 58 #[.pointer (some ⟨rb, 0, none⟩), .string ⟨#[45]⟩] w1 fun e w' => e = .returned (.bool true) ∧ Below w1.heap.size w1 w' from is_any (h.below h1) [45] true b0))
  have HSS := Lib.hid HS
  have HR := Lib.hid (fun w1 (h1 : Below W.heap.size W w1) => h.below h1)
  have hrl := h.rlt
  have hgl := h.tok.1
  have q0 : Below W.heap.size W (W.alloc (.cells #[.int .i64 0, .int .i64 0, .string ⟨#[]⟩, .slice none 0 0] 38)) := (Below.refl _ _).alloc (Nat.le_refl _) _
  have B6 := heap_alloc_new W (.cells #[.int .i64 0, .int .i64 0, .string ⟨#[]⟩, .slice none 0 0] 38)
  have z0 : (W.alloc (.cells #[.int .i64 0, .int .i64 0, .string ⟨#[]⟩, .slice none 0 0] 38)).heap.size = W.heap.size + 1 := by simp
  clear HS h b0
  go_enter Tryz.func135, Tryz.ntmps135
  go_upto_region 1 with fail
  obtain ⟨w0, hw0⟩ : ∃ W1, W.alloc (.cells #[.int .i64 0, .int .i64 0, .string ⟨#[]⟩, .slice none 0 0] 38) = W1 := ⟨_, rfl⟩
  rw [hw0] at B6 q0 z0 ⊢
  clear hw0
  have t0 : Below w0.heap.size w0 w0 := Below.refl _ _
  go_wp2_with (first
    | (go_at_call 58; ((with_reducible refine (HI0.out _ q0).mono ?_); rintro e w1 ⟨rfl, e1⟩; have q1 := q0.trans (e1.mono q0.size); have t1 := t0.trans (e1.mono t0.size)))
    | (go_at_call 139; ((with_reducible refine (HSS.out _ (HR.out _ q1)).mono ?_); rintro e w9 ⟨⟨vv, rfl, vl, rfl, hv, hok⟩, ⟨i', h9, hd⟩, g9⟩; obtain ⟨Al, cl, el, _⟩ := id hv; subst el; have y9 := t1.size; have B9 := (g9.block (k := W.heap.size) (by omega) (by omega)).trans ((t1.block W.heap.size (by omega)).trans B6); have c0 := box_cell B9 0; have c1 := box_cell B9 1; have c2 := box_cell B9 2; have c3 := box_cell B9 3; have f0 := box_frozen B9 0; have f1 := box_frozen B9 1; have f2 := box_frozen B9 2; have f3 := box_frozen B9 3; simp at c0 c1 c2 c3)))
  have hP := ret4 (a := .int .i64 v.op) (b := .int .i64 v.n) (c := .string v.s) (d := .slice Al v.l.len cl) B9
  have hz := q1.size
  have hz9 := g9.size
  have hfin : XP rb g N cT o T W (.ok v r) (.returned (.agg #[.int .i64 v.op, .int .i64 v.n, .string v.s, .slice Al v.l.len cl])) (put4 w9 W.heap.size (.int .i64 v.op) (.int .i64 v.n) (.string v.s) (.slice Al v.l.len cl)) :=
    ⟨⟨_, rfl, _, rfl, hv.kp (Kp.put4 (by omega)) (by omega), hok⟩, ⟨i', h9.put4 (by omega) (by omega), hd⟩, ((Gr.of q1).trans g9).put4 (Nat.le_refl _)⟩
  obtain ⟨w5, hw5⟩ : ∃ W5, put4 w9 W.heap.size (.int .i64 v.op) (.int .i64 v.n) (.string v.s) (.slice Al v.l.len cl) = W5 := ⟨_, rfl⟩
  show bodyPost _ _ _ _ _ (put4 w9 W.heap.size (.int .i64 v.op) (.int .i64 v.n) (.string v.s) (.slice Al v.l.len cl))
  rw [hw5] at hP hfin ⊢
  have p0 := hP 0 (by decide)
  have p1 := hP 1 (by decide)
  have p2 := hP 2 (by decide)
  have p3 := hP 3 (by decide)
  exact bodyPost_ret (v := .agg #[.int .i64 v.op, .int .i64 v.n, .string v.s, .slice Al v.l.len cl]) (by simp [results, Tryz.results135, go_sem, p0, p1, p2, p3]) rfl hfin

set_option maxRecDepth 100000 in
theorem sg_neg_bad {W : World} {rb g N cT i o : Nat} {T : List Tok} (h : Rd W rb g N cT T i o) (b0 : isT (T.drop i) [45] = true) (p c : Nat)
    (HS : ∀ W2, Rd W2 rb g N cT T i o → Calls Tryz.prog 139 #[.pointer (some ⟨rb, 0, none⟩), .int .i64 6, .string ⟨#[45]⟩] W2 (XP rb g N cT o T W2 (.bad p c))) :
    Calls Tryz.prog 135 #[.pointer (some ⟨rb, 0, none⟩)] W (XP rb g N cT o T W (.bad p c)) := by
  have HI0 := Lib.hid (fun w1 (h1 : Below W.heap.size W w1) => (show Calls Tryz.prog 58 #[.pointer (some ⟨rb, 0, none⟩), .string ⟨#[45]⟩] w1 fun e w' => e = .returned (.bool true) ∧ Below w1.heap.size w1 w' from is_any (h.below h1) [45] true b0))
  have HSS := Lib.hid HS
  have HR := Lib.hid (fun w1 (h1 : Below W.heap.size W w1) => h.below h1)
  have hrl := h.rlt
  have hgl := h.tok.1
  have q0 : Below W.heap.size W (W.alloc (.cells #[.int .i64 0, .int .i64 0, .string ⟨#[]⟩, .slice none 0 0] 38)) := (Below.refl _ _).alloc (Nat.le_refl _) _
  have B6 := heap_alloc_new W (.cells #[.int .i64 0, .int .i64 0, .string ⟨#[]⟩, .slice none 0 0] 38)
  have z0 : (W.alloc (.cells #[.int .i64 0, .int .i64 0, .string ⟨#[]⟩, .slice none 0 0] 38)).heap.size = W.heap.size + 1 := by simp
  clear HS h b0
  go_enter Tryz.func135, Tryz.ntmps135
  go_upto_region 1 with fail
  obtain ⟨w0, hw0⟩ : ∃ W1, W.alloc (.cells #[.int .i64 0, .int .i64 0, .string ⟨#[]⟩, .slice none 0 0] 38) = W1 := ⟨_, rfl⟩
  rw [hw0] at B6 q0 z0 ⊢
  clear hw0
  have t0 : Below w0.heap.size w0 w0 := Below.refl _ _
  go_wp2_with (first
    | (go_at_call 58; ((with_reducible refine (HI0.out _ q0).mono ?_); rintro e w1 ⟨rfl, e1⟩; have q1 := q0.trans (e1.mono q0.size); have t1 := t0.trans (e1.mono t0.size)))
    | (go_at_call 139; ((with_reducible refine (HSS.out _ (HR.out _ q1)).mono ?_); rintro e w9 ⟨rfl, g9⟩)))
  exact ⟨rfl, rfl, (Gr.of q1).trans g9⟩

set_option maxRecDepth 100000 in
theorem sg_not_ok {W : World} {rb g N cT i o : Nat} {T : List Tok} (h : Rd W rb g N cT T i o) (b0 : isT (T.drop i) [45] = false) (b1 : isT (T.drop i) [33] = true) (v : Ex) (r : List Tok)
    (HS : ∀ W2, Rd W2 rb g N cT T i o → Calls Tryz.prog 139 #[.pointer (some ⟨rb, 0, none⟩), .int .i64 7, .string ⟨#[33]⟩] W2 (XP rb g N cT o T W2 (.ok v r))) :
    Calls Tryz.prog 135 #[.pointer (some ⟨rb, 0, none⟩)] W (XP rb g N cT o T W (.ok v r)) := by
  have HI0 := Lib.hid (fun w1 (h1 : Below W.heap.size W w1) => (show Calls Tryz.prog 58 #[.pointer (some ⟨rb, 0, none⟩), .string ⟨#[45]⟩] w1 fun e w' => e = .returned (.bool false) ∧ Below w1.heap.size w1 w' from is_any (h.below h1) [45] false b0))
  have HI1 := Lib.hid (fun w1 (h1 : Below W.heap.size W w1) => (show Calls Tryz.prog 58 #[.pointer (some ⟨rb, 0, none⟩), .string ⟨#[33]⟩] w1 fun e w' => e = .returned (.bool true) ∧ Below w1.heap.size w1 w' from is_any (h.below h1) [33] true b1))
  have HSS := Lib.hid HS
  have HR := Lib.hid (fun w1 (h1 : Below W.heap.size W w1) => h.below h1)
  have hrl := h.rlt
  have hgl := h.tok.1
  have q0 : Below W.heap.size W (W.alloc (.cells #[.int .i64 0, .int .i64 0, .string ⟨#[]⟩, .slice none 0 0] 38)) := (Below.refl _ _).alloc (Nat.le_refl _) _
  have B6 := heap_alloc_new W (.cells #[.int .i64 0, .int .i64 0, .string ⟨#[]⟩, .slice none 0 0] 38)
  have z0 : (W.alloc (.cells #[.int .i64 0, .int .i64 0, .string ⟨#[]⟩, .slice none 0 0] 38)).heap.size = W.heap.size + 1 := by simp
  clear HS h b0 b1
  go_enter Tryz.func135, Tryz.ntmps135
  go_upto_region 1 with fail
  obtain ⟨w0, hw0⟩ : ∃ W1, W.alloc (.cells #[.int .i64 0, .int .i64 0, .string ⟨#[]⟩, .slice none 0 0] 38) = W1 := ⟨_, rfl⟩
  rw [hw0] at B6 q0 z0 ⊢
  clear hw0
  have t0 : Below w0.heap.size w0 w0 := Below.refl _ _
  go_wp2_with (first
    | (go_at_call 58; ((with_reducible refine (HI0.out _ q0).mono ?_); rintro e w1 ⟨rfl, e1⟩; have q1 := q0.trans (e1.mono q0.size); have t1 := t0.trans (e1.mono t0.size)))
    | (go_at_call 58; ((with_reducible refine (HI1.out _ q1).mono ?_); rintro e w2 ⟨rfl, e2⟩; have q2 := q1.trans (e2.mono q1.size); have t2 := t1.trans (e2.mono t1.size)))
    | (go_at_call 139; ((with_reducible refine (HSS.out _ (HR.out _ q2)).mono ?_); rintro e w9 ⟨⟨vv, rfl, vl, rfl, hv, hok⟩, ⟨i', h9, hd⟩, g9⟩; obtain ⟨Al, cl, el, _⟩ := id hv; subst el; have y9 := t2.size; have B9 := (g9.block (k := W.heap.size) (by omega) (by omega)).trans ((t2.block W.heap.size (by omega)).trans B6); have c0 := box_cell B9 0; have c1 := box_cell B9 1; have c2 := box_cell B9 2; have c3 := box_cell B9 3; have f0 := box_frozen B9 0; have f1 := box_frozen B9 1; have f2 := box_frozen B9 2; have f3 := box_frozen B9 3; simp at c0 c1 c2 c3)))
  have hP := ret4 (a := .int .i64 v.op) (b := .int .i64 v.n) (c := .string v.s) (d := .slice Al v.l.len cl) B9
  have hz := q2.size
  have hz9 := g9.size
  have hfin : XP rb g N cT o T W (.ok v r) (.returned (.agg #[.int .i64 v.op, .int .i64 v.n, .string v.s, .slice Al v.l.len cl])) (put4 w9 W.heap.size (.int .i64 v.op) (.int .i64 v.n) (.string v.s) (.slice Al v.l.len cl)) :=
    ⟨⟨_, rfl, _, rfl, hv.kp (Kp.put4 (by omega)) (by omega), hok⟩, ⟨i', h9.put4 (by omega) (by omega), hd⟩, ((Gr.of q2).trans g9).put4 (Nat.le_refl _)⟩
  obtain ⟨w5, hw5⟩ : ∃ W5, put4 w9 W.heap.size (.int .i64 v.op) (.int .i64 v.n) (.string v.s) (.slice Al v.l.len cl) = W5 := ⟨_, rfl⟩
  show bodyPost _ _ _ _ _ (put4 w9 W.heap.size (.int .i64 v.op) (.int .i64 v.n) (.string v.s) (.slice Al v.l.len cl))
  rw [hw5] at hP hfin ⊢
  have p0 := hP 0 (by decide)
  have p1 := hP 1 (by decide)
  have p2 := hP 2 (by decide)
  have p3 := hP 3 (by decide)
  exact bodyPost_ret (v := .agg #[.int .i64 v.op, .int .i64 v.n, .string v.s, .slice Al v.l.len cl]) (by simp [results, Tryz.results135, go_sem, p0, p1, p2, p3]) rfl hfin

set_option maxRecDepth 100000 in
theorem sg_not_bad {W : World} {rb g N cT i o : Nat} {T : List Tok} (h : Rd W rb g N cT T i o) (b0 : isT (T.drop i) [45] = false) (b1 : isT (T.drop i) [33] = true) (p c : Nat)
    (HS : ∀ W2, Rd W2 rb g N cT T i o → Calls Tryz.prog 139 #[.pointer (some ⟨rb, 0, none⟩), .int .i64 7, .string ⟨#[33]⟩] W2 (XP rb g N cT o T W2 (.bad p c))) :
    Calls Tryz.prog 135 #[.pointer (some ⟨rb, 0, none⟩)] W (XP rb g N cT o T W (.bad p c)) := by
  have HI0 := Lib.hid (fun w1 (h1 : Below W.heap.size W w1) => (show Calls Tryz.prog 58 #[.pointer (some ⟨rb, 0, none⟩), .string ⟨#[45]⟩] w1 fun e w' => e = .returned (.bool false) ∧ Below w1.heap.size w1 w' from is_any (h.below h1) [45] false b0))
  have HI1 := Lib.hid (fun w1 (h1 : Below W.heap.size W w1) => (show Calls Tryz.prog 58 #[.pointer (some ⟨rb, 0, none⟩), .string ⟨#[33]⟩] w1 fun e w' => e = .returned (.bool true) ∧ Below w1.heap.size w1 w' from is_any (h.below h1) [33] true b1))
  have HSS := Lib.hid HS
  have HR := Lib.hid (fun w1 (h1 : Below W.heap.size W w1) => h.below h1)
  have hrl := h.rlt
  have hgl := h.tok.1
  have q0 : Below W.heap.size W (W.alloc (.cells #[.int .i64 0, .int .i64 0, .string ⟨#[]⟩, .slice none 0 0] 38)) := (Below.refl _ _).alloc (Nat.le_refl _) _
  have B6 := heap_alloc_new W (.cells #[.int .i64 0, .int .i64 0, .string ⟨#[]⟩, .slice none 0 0] 38)
  have z0 : (W.alloc (.cells #[.int .i64 0, .int .i64 0, .string ⟨#[]⟩, .slice none 0 0] 38)).heap.size = W.heap.size + 1 := by simp
  clear HS h b0 b1
  go_enter Tryz.func135, Tryz.ntmps135
  go_upto_region 1 with fail
  obtain ⟨w0, hw0⟩ : ∃ W1, W.alloc (.cells #[.int .i64 0, .int .i64 0, .string ⟨#[]⟩, .slice none 0 0] 38) = W1 := ⟨_, rfl⟩
  rw [hw0] at B6 q0 z0 ⊢
  clear hw0
  have t0 : Below w0.heap.size w0 w0 := Below.refl _ _
  go_wp2_with (first
    | (go_at_call 58; ((with_reducible refine (HI0.out _ q0).mono ?_); rintro e w1 ⟨rfl, e1⟩; have q1 := q0.trans (e1.mono q0.size); have t1 := t0.trans (e1.mono t0.size)))
    | (go_at_call 58; ((with_reducible refine (HI1.out _ q1).mono ?_); rintro e w2 ⟨rfl, e2⟩; have q2 := q1.trans (e2.mono q1.size); have t2 := t1.trans (e2.mono t1.size)))
    | (go_at_call 139; ((with_reducible refine (HSS.out _ (HR.out _ q2)).mono ?_); rintro e w9 ⟨rfl, g9⟩)))
  exact ⟨rfl, rfl, (Gr.of q2).trans g9⟩

set_option maxRecDepth 100000 in
theorem sg_par_ok {W : World} {rb g N cT i o : Nat} {T : List Tok} (h : Rd W rb g N cT T i o) (b0 : isT (T.drop i) [45] = false) (b1 : isT (T.drop i) [33] = false) (b2 : isT (T.drop i) [40] = true) (v : Ex) (r : List Tok)
    (HS : ∀ W2, Rd W2 rb g N cT T i o → Calls Tryz.prog 124 #[.pointer (some ⟨rb, 0, none⟩), .string ⟨#[40]⟩, .string ⟨#[41]⟩] W2 (XP rb g N cT o T W2 (.ok v r))) :
    Calls Tryz.prog 135 #[.pointer (some ⟨rb, 0, none⟩)] W (XP rb g N cT o T W (.ok v r)) := by
  have HI0 := Lib.hid (fun w1 (h1 : Below W.heap.size W w1) => (show Calls Tryz.prog 58 #[.pointer (some ⟨rb, 0, none⟩), .string ⟨#[45]⟩] w1 fun e w' => e = .returned (.bool false) ∧ Below w1.heap.size w1 w' from is_any (h.below h1) [45] false b0))
  have HI1 := Lib.hid (fun w1 (h1 : Below W.heap.size W w1) => (show Calls Tryz.prog 58 #[.pointer (some ⟨rb, 0, none⟩), .string ⟨#[33]⟩] w1 fun e w' => e = .returned (.bool false) ∧ Below w1.heap.size w1 w' from is_any (h.below h1) [33] false b1))
  have HI2 := Lib.hid (fun w1 (h1 : Below W.heap.size W w1) => (show Calls Tryz.prog 58 #[.pointer (some ⟨rb, 0, none⟩), .string ⟨#[40]⟩] w1 fun e w' => e = .returned (.bool true) ∧ Below w1.heap.size w1 w' from is_any (h.below h1) [40] true b2))
  have HSS := Lib.hid HS
  have HR := Lib.hid (fun w1 (h1 : Below W.heap.size W w1) => h.below h1)
  have hrl := h.rlt
  have hgl := h.tok.1
  have q0 : Below W.heap.size W (W.alloc (.cells #[.int .i64 0, .int .i64 0, .string ⟨#[]⟩, .slice none 0 0] 38)) := (Below.refl _ _).alloc (Nat.le_refl _) _
  have B6 := heap_alloc_new W (.cells #[.int .i64 0, .int .i64 0, .string ⟨#[]⟩, .slice none 0 0] 38)
  have z0 : (W.alloc (.cells #[.int .i64 0, .int .i64 0, .string ⟨#[]⟩, .slice none 0 0] 38)).heap.size = W.heap.size + 1 := by simp
  clear HS h b0 b1 b2
  go_enter Tryz.func135, Tryz.ntmps135
  go_upto_region 1 with fail
  obtain ⟨w0, hw0⟩ : ∃ W1, W.alloc (.cells #[.int .i64 0, .int .i64 0, .string ⟨#[]⟩, .slice none 0 0] 38) = W1 := ⟨_, rfl⟩
  rw [hw0] at B6 q0 z0 ⊢
  clear hw0
  have t0 : Below w0.heap.size w0 w0 := Below.refl _ _
  go_wp2_with (first
    | (go_at_call 58; ((with_reducible refine (HI0.out _ q0).mono ?_); rintro e w1 ⟨rfl, e1⟩; have q1 := q0.trans (e1.mono q0.size); have t1 := t0.trans (e1.mono t0.size)))
    | (go_at_call 58; ((with_reducible refine (HI1.out _ q1).mono ?_); rintro e w2 ⟨rfl, e2⟩; have q2 := q1.trans (e2.mono q1.size); have t2 := t1.trans (e2.mono t1.size)))
    | (go_at_call 58; ((with_reducible refine (HI2.out _ q2).mono ?_); rintro e w3 ⟨rfl, e3⟩; have q3 := q2.trans (e3.mono q2.size); have t3 := t2.trans (e3.mono t2.size)))
    | (go_at_call 124; ((with_reducible refine (HSS.out _ (HR.out _ q3)).mono ?_); rintro e w9 ⟨⟨vv, rfl, vl, rfl, hv, hok⟩, ⟨i', h9, hd⟩, g9⟩; obtain ⟨Al, cl, el, _⟩ := id hv; subst el; have y9 := t3.size; have B9 := (g9.block (k := W.heap.size) (by omega) (by omega)).trans ((t3.block W.heap.size (by omega)).trans B6); have c0 := box_cell B9 0; have c1 := box_cell B9 1; have c2 := box_cell B9 2; have c3 := box_cell B9 3; have f0 := box_frozen B9 0; have f1 := box_frozen B9 1; have f2 := box_frozen B9 2; have f3 := box_frozen B9 3; simp at c0 c1 c2 c3)))
  have hP := ret4 (a := .int .i64 v.op) (b := .int .i64 v.n) (c := .string v.s) (d := .slice Al v.l.len cl) B9
  have hz := q3.size
  have hz9 := g9.size
  have hfin : XP rb g N cT o T W (.ok v r) (.returned (.agg #[.int .i64 v.op, .int .i64 v.n, .string v.s, .slice Al v.l.len cl])) (put4 w9 W.heap.size (.int .i64 v.op) (.int .i64 v.n) (.string v.s) (.slice Al v.l.len cl)) :=
    ⟨⟨_, rfl, _, rfl, hv.kp (Kp.put4 (by omega)) (by omega), hok⟩, ⟨i', h9.put4 (by omega) (by omega), hd⟩, ((Gr.of q3).trans g9).put4 (Nat.le_refl _)⟩
  obtain ⟨w5, hw5⟩ : ∃ W5, put4 w9 W.heap.size (.int .i64 v.op) (.int .i64 v.n) (.string v.s) (.slice Al v.l.len cl) = W5 := ⟨_, rfl⟩
  show bodyPost _ _ _ _ _ (put4 w9 W.heap.size (.int .i64 v.op) (.int .i64 v.n) (.string v.s) (.slice Al v.l.len cl))
  rw [hw5] at hP hfin ⊢
  have p0 := hP 0 (by decide)
  have p1 := hP 1 (by decide)
  have p2 := hP 2 (by decide)
  have p3 := hP 3 (by decide)
  exact bodyPost_ret (v := .agg #[.int .i64 v.op, .int .i64 v.n, .string v.s, .slice Al v.l.len cl]) (by simp [results, Tryz.results135, go_sem, p0, p1, p2, p3]) rfl hfin

set_option maxRecDepth 100000 in
theorem sg_par_bad {W : World} {rb g N cT i o : Nat} {T : List Tok} (h : Rd W rb g N cT T i o) (b0 : isT (T.drop i) [45] = false) (b1 : isT (T.drop i) [33] = false) (b2 : isT (T.drop i) [40] = true) (p c : Nat)
    (HS : ∀ W2, Rd W2 rb g N cT T i o → Calls Tryz.prog 124 #[.pointer (some ⟨rb, 0, none⟩), .string ⟨#[40]⟩, .string ⟨#[41]⟩] W2 (XP rb g N cT o T W2 (.bad p c))) :
    Calls Tryz.prog 135 #[.pointer (some ⟨rb, 0, none⟩)] W (XP rb g N cT o T W (.bad p c)) := by
  have HI0 := Lib.hid (fun w1 (h1 : Below W.heap.size W w1) => (show Calls Tryz.prog 58 #[.pointer (some ⟨rb, 0, none⟩), .string ⟨#[45]⟩] w1 fun e w' => e = .returned (.bool false) ∧ Below w1.heap.size w1 w' from is_any (h.below h1) [45] false b0))
  have HI1 := Lib.hid (fun w1 (h1 : Below W.heap.size W w1) => (show Calls Tryz.prog 58 #[.pointer (some ⟨rb, 0, none⟩), .string ⟨#[33]⟩] w1 fun e w' => e = .returned (.bool false) ∧ Below w1.heap.size w1 w' from is_any (h.below h1) [33] false b1))
  have HI2 := Lib.hid (fun w1 (h1 : Below W.heap.size W w1) => (show Calls Tryz.prog 58 #[.pointer (some ⟨rb, 0, none⟩), .string ⟨#[40]⟩] w1 fun e w' => e = .returned (.bool true) ∧ Below w1.heap.size w1 w' from is_any (h.below h1) [40] true b2))
  have HSS := Lib.hid HS
  have HR := Lib.hid (fun w1 (h1 : Below W.heap.size W w1) => h.below h1)
  have hrl := h.rlt
  have hgl := h.tok.1
  have q0 : Below W.heap.size W (W.alloc (.cells #[.int .i64 0, .int .i64 0, .string ⟨#[]⟩, .slice none 0 0] 38)) := (Below.refl _ _).alloc (Nat.le_refl _) _
  have B6 := heap_alloc_new W (.cells #[.int .i64 0, .int .i64 0, .string ⟨#[]⟩, .slice none 0 0] 38)
  have z0 : (W.alloc (.cells #[.int .i64 0, .int .i64 0, .string ⟨#[]⟩, .slice none 0 0] 38)).heap.size = W.heap.size + 1 := by simp
  clear HS h b0 b1 b2
  go_enter Tryz.func135, Tryz.ntmps135
  go_upto_region 1 with fail
  obtain ⟨w0, hw0⟩ : ∃ W1, W.alloc (.cells #[.int .i64 0, .int .i64 0, .string ⟨#[]⟩, .slice none 0 0] 38) = W1 := ⟨_, rfl⟩
  rw [hw0] at B6 q0 z0 ⊢
  clear hw0
  have t0 : Below w0.heap.size w0 w0 := Below.refl _ _
  go_wp2_with (first
    | (go_at_call 58; ((with_reducible refine (HI0.out _ q0).mono ?_); rintro e w1 ⟨rfl, e1⟩; have q1 := q0.trans (e1.mono q0.size); have t1 := t0.trans (e1.mono t0.size)))
    | (go_at_call 58; ((with_reducible refine (HI1.out _ q1).mono ?_); rintro e w2 ⟨rfl, e2⟩; have q2 := q1.trans (e2.mono q1.size); have t2 := t1.trans (e2.mono t1.size)))
    | (go_at_call 58; ((with_reducible refine (HI2.out _ q2).mono ?_); rintro e w3 ⟨rfl, e3⟩; have q3 := q2.trans (e3.mono q2.size); have t3 := t2.trans (e3.mono t2.size)))
    | (go_at_call 124; ((with_reducible refine (HSS.out _ (HR.out _ q3)).mono ?_); rintro e w9 ⟨rfl, g9⟩)))
  exact ⟨rfl, rfl, (Gr.of q3).trans g9⟩

set_option maxRecDepth 100000 in
theorem sg_name_ok {W : World} {rb g N cT i o : Nat} {T : List Tok} (h : Rd W rb g N cT T i o) (b0 : isT (T.drop i) [45] = false) (b1 : isT (T.drop i) [33] = false) (b2 : isT (T.drop i) [40] = false) (b3 : isT (T.drop i) [99, 108, 111, 99, 107] = false) (hk : (hdT (T.drop i)).kind ≠ 2) (v : Ex) (r : List Tok)
    (HS : ∀ W2, Rd W2 rb g N cT T i o → Calls Tryz.prog 140 #[.pointer (some ⟨rb, 0, none⟩)] W2 (XP rb g N cT o T W2 (.ok v r))) :
    Calls Tryz.prog 135 #[.pointer (some ⟨rb, 0, none⟩)] W (XP rb g N cT o T W (.ok v r)) := by
  have HI0 := Lib.hid (fun w1 (h1 : Below W.heap.size W w1) => (show Calls Tryz.prog 58 #[.pointer (some ⟨rb, 0, none⟩), .string ⟨#[45]⟩] w1 fun e w' => e = .returned (.bool false) ∧ Below w1.heap.size w1 w' from is_any (h.below h1) [45] false b0))
  have HI1 := Lib.hid (fun w1 (h1 : Below W.heap.size W w1) => (show Calls Tryz.prog 58 #[.pointer (some ⟨rb, 0, none⟩), .string ⟨#[33]⟩] w1 fun e w' => e = .returned (.bool false) ∧ Below w1.heap.size w1 w' from is_any (h.below h1) [33] false b1))
  have HI2 := Lib.hid (fun w1 (h1 : Below W.heap.size W w1) => (show Calls Tryz.prog 58 #[.pointer (some ⟨rb, 0, none⟩), .string ⟨#[40]⟩] w1 fun e w' => e = .returned (.bool false) ∧ Below w1.heap.size w1 w' from is_any (h.below h1) [40] false b2))
  have HI3 := Lib.hid (fun w1 (h1 : Below W.heap.size W w1) => (show Calls Tryz.prog 106 #[.pointer (some ⟨rb, 0, none⟩), .string ⟨#[99, 108, 111, 99, 107]⟩] w1 fun e w' => e = .returned (.bool false) ∧ Below w1.heap.size w1 w' from take_no (h.below h1) [99, 108, 111, 99, 107] b3))
  obtain ⟨tk, htk⟩ : ∃ tk, hdT (T.drop i) = tk := ⟨_, rfl⟩
  have HN := Lib.hid (fun w1 (h1 : Below W.heap.size W w1) => now_any (h.below h1) tk htk)
  rw [htk] at hk
  have k1 : ((tk.kind : Int) == 2) = false := by rw [beq_eq_false_iff_ne]; omega
  clear htk hk
  have HSS := Lib.hid HS
  have HR := Lib.hid (fun w1 (h1 : Below W.heap.size W w1) => h.below h1)
  have hrl := h.rlt
  have hgl := h.tok.1
  have q0 : Below W.heap.size W (W.alloc (.cells #[.int .i64 0, .int .i64 0, .string ⟨#[]⟩, .slice none 0 0] 38)) := (Below.refl _ _).alloc (Nat.le_refl _) _
  have B6 := heap_alloc_new W (.cells #[.int .i64 0, .int .i64 0, .string ⟨#[]⟩, .slice none 0 0] 38)
  have z0 : (W.alloc (.cells #[.int .i64 0, .int .i64 0, .string ⟨#[]⟩, .slice none 0 0] 38)).heap.size = W.heap.size + 1 := by simp
  clear HS h b0 b1 b2 b3
  go_enter Tryz.func135, Tryz.ntmps135
  go_upto_region 1 with fail
  obtain ⟨w0, hw0⟩ : ∃ W1, W.alloc (.cells #[.int .i64 0, .int .i64 0, .string ⟨#[]⟩, .slice none 0 0] 38) = W1 := ⟨_, rfl⟩
  rw [hw0] at B6 q0 z0 ⊢
  clear hw0
  have t0 : Below w0.heap.size w0 w0 := Below.refl _ _
  go_wp2_with (first
    | (go_at_call 58; ((with_reducible refine (HI0.out _ q0).mono ?_); rintro e w1 ⟨rfl, e1⟩; have q1 := q0.trans (e1.mono q0.size); have t1 := t0.trans (e1.mono t0.size)))
    | (go_at_call 58; ((with_reducible refine (HI1.out _ q1).mono ?_); rintro e w2 ⟨rfl, e2⟩; have q2 := q1.trans (e2.mono q1.size); have t2 := t1.trans (e2.mono t1.size)))
    | (go_at_call 58; ((with_reducible refine (HI2.out _ q2).mono ?_); rintro e w3 ⟨rfl, e3⟩; have q3 := q2.trans (e3.mono q2.size); have t3 := t2.trans (e3.mono t2.size)))
    | (go_at_call 106; ((with_reducible refine (HI3.out _ q3).mono ?_); rintro e w4 ⟨rfl, e4⟩; have q4 := q3.trans (e4.mono q3.size); have t4 := t3.trans (e4.mono t3.size)))
    | (go_at_call 61; ((with_reducible refine (HN.out _ q4).mono ?_); rintro e wn ⟨rfl, en⟩; have qn := q4.trans (en.mono q4.size); have tn := t4.trans (en.mono t4.size)))
    | (go_at_call 140; ((with_reducible refine (HSS.out _ (HR.out _ qn)).mono ?_); rintro e w9 ⟨⟨vv, rfl, vl, rfl, hv, hok⟩, ⟨i', h9, hd⟩, g9⟩; obtain ⟨Al, cl, el, _⟩ := id hv; subst el; have y9 := tn.size; have B9 := (g9.block (k := W.heap.size) (by omega) (by omega)).trans ((tn.block W.heap.size (by omega)).trans B6); have c0 := box_cell B9 0; have c1 := box_cell B9 1; have c2 := box_cell B9 2; have c3 := box_cell B9 3; have f0 := box_frozen B9 0; have f1 := box_frozen B9 1; have f2 := box_frozen B9 2; have f3 := box_frozen B9 3; simp at c0 c1 c2 c3)))
  have hP := ret4 (a := .int .i64 v.op) (b := .int .i64 v.n) (c := .string v.s) (d := .slice Al v.l.len cl) B9
  have hz := qn.size
  have hz9 := g9.size
  have hfin : XP rb g N cT o T W (.ok v r) (.returned (.agg #[.int .i64 v.op, .int .i64 v.n, .string v.s, .slice Al v.l.len cl])) (put4 w9 W.heap.size (.int .i64 v.op) (.int .i64 v.n) (.string v.s) (.slice Al v.l.len cl)) :=
    ⟨⟨_, rfl, _, rfl, hv.kp (Kp.put4 (by omega)) (by omega), hok⟩, ⟨i', h9.put4 (by omega) (by omega), hd⟩, ((Gr.of qn).trans g9).put4 (Nat.le_refl _)⟩
  obtain ⟨w5, hw5⟩ : ∃ W5, put4 w9 W.heap.size (.int .i64 v.op) (.int .i64 v.n) (.string v.s) (.slice Al v.l.len cl) = W5 := ⟨_, rfl⟩
  show bodyPost _ _ _ _ _ (put4 w9 W.heap.size (.int .i64 v.op) (.int .i64 v.n) (.string v.s) (.slice Al v.l.len cl))
  rw [hw5] at hP hfin ⊢
  have p0 := hP 0 (by decide)
  have p1 := hP 1 (by decide)
  have p2 := hP 2 (by decide)
  have p3 := hP 3 (by decide)
  exact bodyPost_ret (v := .agg #[.int .i64 v.op, .int .i64 v.n, .string v.s, .slice Al v.l.len cl]) (by simp [results, Tryz.results135, go_sem, p0, p1, p2, p3]) rfl hfin

set_option maxRecDepth 100000 in
theorem sg_name_bad {W : World} {rb g N cT i o : Nat} {T : List Tok} (h : Rd W rb g N cT T i o) (b0 : isT (T.drop i) [45] = false) (b1 : isT (T.drop i) [33] = false) (b2 : isT (T.drop i) [40] = false) (b3 : isT (T.drop i) [99, 108, 111, 99, 107] = false) (hk : (hdT (T.drop i)).kind ≠ 2) (p c : Nat)
    (HS : ∀ W2, Rd W2 rb g N cT T i o → Calls Tryz.prog 140 #[.pointer (some ⟨rb, 0, none⟩)] W2 (XP rb g N cT o T W2 (.bad p c))) :
    Calls Tryz.prog 135 #[.pointer (some ⟨rb, 0, none⟩)] W (XP rb g N cT o T W (.bad p c)) := by
  have HI0 := Lib.hid (fun w1 (h1 : Below W.heap.size W w1) => (show Calls Tryz.prog 58 #[.pointer (some ⟨rb, 0, none⟩), .string ⟨#[45]⟩] w1 fun e w' => e = .returned (.bool false) ∧ Below w1.heap.size w1 w' from is_any (h.below h1) [45] false b0))
  have HI1 := Lib.hid (fun w1 (h1 : Below W.heap.size W w1) => (show Calls Tryz.prog 58 #[.pointer (some ⟨rb, 0, none⟩), .string ⟨#[33]⟩] w1 fun e w' => e = .returned (.bool false) ∧ Below w1.heap.size w1 w' from is_any (h.below h1) [33] false b1))
  have HI2 := Lib.hid (fun w1 (h1 : Below W.heap.size W w1) => (show Calls Tryz.prog 58 #[.pointer (some ⟨rb, 0, none⟩), .string ⟨#[40]⟩] w1 fun e w' => e = .returned (.bool false) ∧ Below w1.heap.size w1 w' from is_any (h.below h1) [40] false b2))
  have HI3 := Lib.hid (fun w1 (h1 : Below W.heap.size W w1) => (show Calls Tryz.prog 106 #[.pointer (some ⟨rb, 0, none⟩), .string ⟨#[99, 108, 111, 99, 107]⟩] w1 fun e w' => e = .returned (.bool false) ∧ Below w1.heap.size w1 w' from take_no (h.below h1) [99, 108, 111, 99, 107] b3))
  obtain ⟨tk, htk⟩ : ∃ tk, hdT (T.drop i) = tk := ⟨_, rfl⟩
  have HN := Lib.hid (fun w1 (h1 : Below W.heap.size W w1) => now_any (h.below h1) tk htk)
  rw [htk] at hk
  have k1 : ((tk.kind : Int) == 2) = false := by rw [beq_eq_false_iff_ne]; omega
  clear htk hk
  have HSS := Lib.hid HS
  have HR := Lib.hid (fun w1 (h1 : Below W.heap.size W w1) => h.below h1)
  have hrl := h.rlt
  have hgl := h.tok.1
  have q0 : Below W.heap.size W (W.alloc (.cells #[.int .i64 0, .int .i64 0, .string ⟨#[]⟩, .slice none 0 0] 38)) := (Below.refl _ _).alloc (Nat.le_refl _) _
  have B6 := heap_alloc_new W (.cells #[.int .i64 0, .int .i64 0, .string ⟨#[]⟩, .slice none 0 0] 38)
  have z0 : (W.alloc (.cells #[.int .i64 0, .int .i64 0, .string ⟨#[]⟩, .slice none 0 0] 38)).heap.size = W.heap.size + 1 := by simp
  clear HS h b0 b1 b2 b3
  go_enter Tryz.func135, Tryz.ntmps135
  go_upto_region 1 with fail
  obtain ⟨w0, hw0⟩ : ∃ W1, W.alloc (.cells #[.int .i64 0, .int .i64 0, .string ⟨#[]⟩, .slice none 0 0] 38) = W1 := ⟨_, rfl⟩
  rw [hw0] at B6 q0 z0 ⊢
  clear hw0
  have t0 : Below w0.heap.size w0 w0 := Below.refl _ _
  go_wp2_with (first
    | (go_at_call 58; ((with_reducible refine (HI0.out _ q0).mono ?_); rintro e w1 ⟨rfl, e1⟩; have q1 := q0.trans (e1.mono q0.size); have t1 := t0.trans (e1.mono t0.size)))
    | (go_at_call 58; ((with_reducible refine (HI1.out _ q1).mono ?_); rintro e w2 ⟨rfl, e2⟩; have q2 := q1.trans (e2.mono q1.size); have t2 := t1.trans (e2.mono t1.size)))
    | (go_at_call 58; ((with_reducible refine (HI2.out _ q2).mono ?_); rintro e w3 ⟨rfl, e3⟩; have q3 := q2.trans (e3.mono q2.size); have t3 := t2.trans (e3.mono t2.size)))
    | (go_at_call 106; ((with_reducible refine (HI3.out _ q3).mono ?_); rintro e w4 ⟨rfl, e4⟩; have q4 := q3.trans (e4.mono q3.size); have t4 := t3.trans (e4.mono t3.size)))
    | (go_at_call 61; ((with_reducible refine (HN.out _ q4).mono ?_); rintro e wn ⟨rfl, en⟩; have qn := q4.trans (en.mono q4.size); have tn := t4.trans (en.mono t4.size)))
    | (go_at_call 140; ((with_reducible refine (HSS.out _ (HR.out _ qn)).mono ?_); rintro e w9 ⟨rfl, g9⟩)))
  exact ⟨rfl, rfl, (Gr.of qn).trans g9⟩

set_option maxRecDepth 100000 in
theorem sg_clock {W : World} {rb g N cT i o : Nat} {T : List Tok} (h : Rd W rb g N cT T i o) (b0 : isT (T.drop i) [45] = false) (b1 : isT (T.drop i) [33] = false) (b2 : isT (T.drop i) [40] = false) (b3 : isT (T.drop i) [99, 108, 111, 99, 107] = true) :
    Calls Tryz.prog 135 #[.pointer (some ⟨rb, 0, none⟩)] W (XP rb g N cT o T W (.ok ⟨3, 0, nilS, .nil⟩ (T.drop i).tail)) := by
  have HI0 := Lib.hid (fun w1 (h1 : Below W.heap.size W w1) => (show Calls Tryz.prog 58 #[.pointer (some ⟨rb, 0, none⟩), .string ⟨#[45]⟩] w1 fun e w' => e = .returned (.bool false) ∧ Below w1.heap.size w1 w' from is_any (h.below h1) [45] false b0))
  have HI1 := Lib.hid (fun w1 (h1 : Below W.heap.size W w1) => (show Calls Tryz.prog 58 #[.pointer (some ⟨rb, 0, none⟩), .string ⟨#[33]⟩] w1 fun e w' => e = .returned (.bool false) ∧ Below w1.heap.size w1 w' from is_any (h.below h1) [33] false b1))
  have HI2 := Lib.hid (fun w1 (h1 : Below W.heap.size W w1) => (show Calls Tryz.prog 58 #[.pointer (some ⟨rb, 0, none⟩), .string ⟨#[40]⟩] w1 fun e w' => e = .returned (.bool false) ∧ Below w1.heap.size w1 w' from is_any (h.below h1) [40] false b2))
  have HI3 := Lib.hid (fun w1 (h1 : Below W.heap.size W w1) => (show Calls Tryz.prog 106 #[.pointer (some ⟨rb, 0, none⟩), .string ⟨#[99, 108, 111, 99, 107]⟩] w1 fun e w' => e = .returned (.bool true) ∧ Rd w' rb g N cT T (i + 1) o ∧ Gr rb w1 w' from take_yes (h.below h1) [99, 108, 111, 99, 107] (by decide) b3))
  have hrl := h.rlt
  have hgl := h.tok.1
  have q0 : Below W.heap.size W (W.alloc (.cells #[.int .i64 0, .int .i64 0, .string ⟨#[]⟩, .slice none 0 0] 38)) := (Below.refl _ _).alloc (Nat.le_refl _) _
  have B6 := heap_alloc_new W (.cells #[.int .i64 0, .int .i64 0, .string ⟨#[]⟩, .slice none 0 0] 38)
  have z0 : (W.alloc (.cells #[.int .i64 0, .int .i64 0, .string ⟨#[]⟩, .slice none 0 0] 38)).heap.size = W.heap.size + 1 := by simp
  clear h b0 b1 b2 b3
  go_enter Tryz.func135, Tryz.ntmps135
  go_upto_region 1 with fail
  obtain ⟨w0, hw0⟩ : ∃ W1, W.alloc (.cells #[.int .i64 0, .int .i64 0, .string ⟨#[]⟩, .slice none 0 0] 38) = W1 := ⟨_, rfl⟩
  rw [hw0] at B6 q0 z0 ⊢
  clear hw0
  have t0 : Below w0.heap.size w0 w0 := Below.refl _ _
  go_wp2_with (first
    | (go_at_call 58; ((with_reducible refine (HI0.out _ q0).mono ?_); rintro e w1 ⟨rfl, e1⟩; have q1 := q0.trans (e1.mono q0.size); have t1 := t0.trans (e1.mono t0.size)))
    | (go_at_call 58; ((with_reducible refine (HI1.out _ q1).mono ?_); rintro e w2 ⟨rfl, e2⟩; have q2 := q1.trans (e2.mono q1.size); have t2 := t1.trans (e2.mono t1.size)))
    | (go_at_call 58; ((with_reducible refine (HI2.out _ q2).mono ?_); rintro e w3 ⟨rfl, e3⟩; have q3 := q2.trans (e3.mono q2.size); have t3 := t2.trans (e3.mono t2.size)))
    | (go_at_call 106; ((with_reducible refine (HI3.out _ q3).mono ?_); rintro e w4 ⟨rfl, hy, gy⟩; have y9 := t3.size; have B9 := (gy.block (k := W.heap.size) (by omega) (by omega)).trans ((t3.block W.heap.size (by omega)).trans B6); have c0 := box_cell B9 0; have c1 := box_cell B9 1; have c2 := box_cell B9 2; have c3 := box_cell B9 3; have f0 := box_frozen B9 0; have f1 := box_frozen B9 1; have f2 := box_frozen B9 2; have f3 := box_frozen B9 3; simp at c0 c1 c2 c3)))
  have hP := ret4 (a := .int .i64 3) (b := .int .i64 0) (c := .string ⟨#[]⟩) (d := .slice none 0 0) B9
  have hz := q3.size
  have hz9 := gy.size
  have hfin : XP rb g N cT o T W (.ok ⟨3, 0, nilS, .nil⟩ (T.drop i).tail) (.returned (.agg #[.int .i64 3, .int .i64 0, .string ⟨#[]⟩, .slice none 0 0])) (put4 w4 W.heap.size (.int .i64 3) (.int .i64 0) (.string ⟨#[]⟩) (.slice none 0 0)) :=
    ⟨⟨_, rfl, _, rfl, ex_nil _ _, okE_of (by unfold I64; omega)⟩, ⟨i + 1, hy.put4 (by omega) (by omega), by rw [drop_tail]⟩, ((Gr.of q3).trans gy).put4 (Nat.le_refl _)⟩
  obtain ⟨w5, hw5⟩ : ∃ W5, put4 w4 W.heap.size (.int .i64 3) (.int .i64 0) (.string ⟨#[]⟩) (.slice none 0 0) = W5 := ⟨_, rfl⟩
  show bodyPost _ _ _ _ _ (put4 w4 W.heap.size (.int .i64 3) (.int .i64 0) (.string ⟨#[]⟩) (.slice none 0 0))
  rw [hw5] at hP hfin ⊢
  have p0 := hP 0 (by decide)
  have p1 := hP 1 (by decide)
  have p2 := hP 2 (by decide)
  have p3 := hP 3 (by decide)
  exact bodyPost_ret (v := .agg #[.int .i64 3, .int .i64 0, .string ⟨#[]⟩, .slice none 0 0]) (by simp [results, Tryz.results135, go_sem, p0, p1, p2, p3]) rfl hfin

set_option maxRecDepth 100000 in
theorem sg_num_ok {W : World} {rb g N cT i o : Nat} {T : List Tok} (h : Rd W rb g N cT T i o) (b0 : isT (T.drop i) [45] = false) (b1 : isT (T.drop i) [33] = false) (b2 : isT (T.drop i) [40] = false) (b3 : isT (T.drop i) [99, 108, 111, 99, 107] = false) (hk : (hdT (T.drop i)).kind = 2) (n : Int) (hn : I64 n)
    (HS : ∀ W2, Rd W2 rb g N cT T i o → Calls Tryz.prog 109 #[.pointer (some ⟨rb, 0, none⟩), .int .i64 0, .int .i64 9223372036854775807] W2 fun e w' => e = .returned (.int .i64 n) ∧ Rd w' rb g N cT T (i + 1) o ∧ Gr rb W2 w') :
    Calls Tryz.prog 135 #[.pointer (some ⟨rb, 0, none⟩)] W (XP rb g N cT o T W (.ok ⟨1, n, nilS, .nil⟩ (T.drop i).tail)) := by
  have HI0 := Lib.hid (fun w1 (h1 : Below W.heap.size W w1) => (show Calls Tryz.prog 58 #[.pointer (some ⟨rb, 0, none⟩), .string ⟨#[45]⟩] w1 fun e w' => e = .returned (.bool false) ∧ Below w1.heap.size w1 w' from is_any (h.below h1) [45] false b0))
  have HI1 := Lib.hid (fun w1 (h1 : Below W.heap.size W w1) => (show Calls Tryz.prog 58 #[.pointer (some ⟨rb, 0, none⟩), .string ⟨#[33]⟩] w1 fun e w' => e = .returned (.bool false) ∧ Below w1.heap.size w1 w' from is_any (h.below h1) [33] false b1))
  have HI2 := Lib.hid (fun w1 (h1 : Below W.heap.size W w1) => (show Calls Tryz.prog 58 #[.pointer (some ⟨rb, 0, none⟩), .string ⟨#[40]⟩] w1 fun e w' => e = .returned (.bool false) ∧ Below w1.heap.size w1 w' from is_any (h.below h1) [40] false b2))
  have HI3 := Lib.hid (fun w1 (h1 : Below W.heap.size W w1) => (show Calls Tryz.prog 106 #[.pointer (some ⟨rb, 0, none⟩), .string ⟨#[99, 108, 111, 99, 107]⟩] w1 fun e w' => e = .returned (.bool false) ∧ Below w1.heap.size w1 w' from take_no (h.below h1) [99, 108, 111, 99, 107] b3))
  obtain ⟨tk, htk⟩ : ∃ tk, hdT (T.drop i) = tk := ⟨_, rfl⟩
  have HN := Lib.hid (fun w1 (h1 : Below W.heap.size W w1) => now_any (h.below h1) tk htk)
  rw [htk] at hk
  have k1 : ((tk.kind : Int) == 2) = true := by rw [hk]; rfl
  clear htk hk
  have HSS := Lib.hid HS
  have HR := Lib.hid (fun w1 (h1 : Below W.heap.size W w1) => h.below h1)
  have hrl := h.rlt
  have hgl := h.tok.1
  have q0 : Below W.heap.size W (W.alloc (.cells #[.int .i64 0, .int .i64 0, .string ⟨#[]⟩, .slice none 0 0] 38)) := (Below.refl _ _).alloc (Nat.le_refl _) _
  have B6 := heap_alloc_new W (.cells #[.int .i64 0, .int .i64 0, .string ⟨#[]⟩, .slice none 0 0] 38)
  have z0 : (W.alloc (.cells #[.int .i64 0, .int .i64 0, .string ⟨#[]⟩, .slice none 0 0] 38)).heap.size = W.heap.size + 1 := by simp
  clear HS h b0 b1 b2 b3
  go_enter Tryz.func135, Tryz.ntmps135
  go_upto_region 1 with fail
  obtain ⟨w0, hw0⟩ : ∃ W1, W.alloc (.cells #[.int .i64 0, .int .i64 0, .string ⟨#[]⟩, .slice none 0 0] 38) = W1 := ⟨_, rfl⟩
  rw [hw0] at B6 q0 z0 ⊢
  clear hw0
  have t0 : Below w0.heap.size w0 w0 := Below.refl _ _
  go_wp2_with (first
    | (go_at_call 58; ((with_reducible refine (HI0.out _ q0).mono ?_); rintro e w1 ⟨rfl, e1⟩; have q1 := q0.trans (e1.mono q0.size); have t1 := t0.trans (e1.mono t0.size)))
    | (go_at_call 58; ((with_reducible refine (HI1.out _ q1).mono ?_); rintro e w2 ⟨rfl, e2⟩; have q2 := q1.trans (e2.mono q1.size); have t2 := t1.trans (e2.mono t1.size)))
    | (go_at_call 58; ((with_reducible refine (HI2.out _ q2).mono ?_); rintro e w3 ⟨rfl, e3⟩; have q3 := q2.trans (e3.mono q2.size); have t3 := t2.trans (e3.mono t2.size)))
    | (go_at_call 106; ((with_reducible refine (HI3.out _ q3).mono ?_); rintro e w4 ⟨rfl, e4⟩; have q4 := q3.trans (e4.mono q3.size); have t4 := t3.trans (e4.mono t3.size)))
    | (go_at_call 61; ((with_reducible refine (HN.out _ q4).mono ?_); rintro e wn ⟨rfl, en⟩; have qn := q4.trans (en.mono q4.size); have tn := t4.trans (en.mono t4.size)))
    | (go_at_call 109; ((with_reducible refine (HSS.out _ (HR.out _ qn)).mono ?_); rintro e w9 ⟨rfl, hy, gy⟩; have y9 := tn.size; have B9 := (gy.block (k := W.heap.size) (by omega) (by omega)).trans ((tn.block W.heap.size (by omega)).trans B6); have c0 := box_cell B9 0; have c1 := box_cell B9 1; have c2 := box_cell B9 2; have c3 := box_cell B9 3; have f0 := box_frozen B9 0; have f1 := box_frozen B9 1; have f2 := box_frozen B9 2; have f3 := box_frozen B9 3; simp at c0 c1 c2 c3)))
  have hP := ret4 (a := .int .i64 1) (b := .int .i64 n) (c := .string ⟨#[]⟩) (d := .slice none 0 0) B9
  have hz := qn.size
  have hz9 := gy.size
  have hfin : XP rb g N cT o T W (.ok ⟨1, n, nilS, .nil⟩ (T.drop i).tail) (.returned (.agg #[.int .i64 1, .int .i64 n, .string ⟨#[]⟩, .slice none 0 0])) (put4 w9 W.heap.size (.int .i64 1) (.int .i64 n) (.string ⟨#[]⟩) (.slice none 0 0)) :=
    ⟨⟨_, rfl, _, rfl, ex_nil _ _, (show I64 1 by unfold I64; omega), hn, by show nilS.size ≤ _; decide⟩, ⟨i + 1, hy.put4 (by omega) (by omega), by rw [drop_tail]⟩, ((Gr.of qn).trans gy).put4 (Nat.le_refl _)⟩
  obtain ⟨w5, hw5⟩ : ∃ W5, put4 w9 W.heap.size (.int .i64 1) (.int .i64 n) (.string ⟨#[]⟩) (.slice none 0 0) = W5 := ⟨_, rfl⟩
  show bodyPost _ _ _ _ _ (put4 w9 W.heap.size (.int .i64 1) (.int .i64 n) (.string ⟨#[]⟩) (.slice none 0 0))
  rw [hw5] at hP hfin ⊢
  have p0 := hP 0 (by decide)
  have p1 := hP 1 (by decide)
  have p2 := hP 2 (by decide)
  have p3 := hP 3 (by decide)
  exact bodyPost_ret (v := .agg #[.int .i64 1, .int .i64 n, .string ⟨#[]⟩, .slice none 0 0]) (by simp [results, Tryz.results135, go_sem, p0, p1, p2, p3]) rfl hfin

set_option maxRecDepth 100000 in
theorem sg_num_bad {W : World} {rb g N cT i o : Nat} {T : List Tok} (h : Rd W rb g N cT T i o) (b0 : isT (T.drop i) [45] = false) (b1 : isT (T.drop i) [33] = false) (b2 : isT (T.drop i) [40] = false) (b3 : isT (T.drop i) [99, 108, 111, 99, 107] = false) (hk : (hdT (T.drop i)).kind = 2) (p c : Nat)
    (HS : ∀ W2, Rd W2 rb g N cT T i o → Calls Tryz.prog 109 #[.pointer (some ⟨rb, 0, none⟩), .int .i64 0, .int .i64 9223372036854775807] W2 fun e w' => e = flt p c ∧ Below W2.heap.size W2 w') :
    Calls Tryz.prog 135 #[.pointer (some ⟨rb, 0, none⟩)] W (XP rb g N cT o T W (.bad p c)) := by
  have HI0 := Lib.hid (fun w1 (h1 : Below W.heap.size W w1) => (show Calls Tryz.prog 58 #[.pointer (some ⟨rb, 0, none⟩), .string ⟨#[45]⟩] w1 fun e w' => e = .returned (.bool false) ∧ Below w1.heap.size w1 w' from is_any (h.below h1) [45] false b0))
  have HI1 := Lib.hid (fun w1 (h1 : Below W.heap.size W w1) => (show Calls Tryz.prog 58 #[.pointer (some ⟨rb, 0, none⟩), .string ⟨#[33]⟩] w1 fun e w' => e = .returned (.bool false) ∧ Below w1.heap.size w1 w' from is_any (h.below h1) [33] false b1))
  have HI2 := Lib.hid (fun w1 (h1 : Below W.heap.size W w1) => (show Calls Tryz.prog 58 #[.pointer (some ⟨rb, 0, none⟩), .string ⟨#[40]⟩] w1 fun e w' => e = .returned (.bool false) ∧ Below w1.heap.size w1 w' from is_any (h.below h1) [40] false b2))
  have HI3 := Lib.hid (fun w1 (h1 : Below W.heap.size W w1) => (show Calls Tryz.prog 106 #[.pointer (some ⟨rb, 0, none⟩), .string ⟨#[99, 108, 111, 99, 107]⟩] w1 fun e w' => e = .returned (.bool false) ∧ Below w1.heap.size w1 w' from take_no (h.below h1) [99, 108, 111, 99, 107] b3))
  obtain ⟨tk, htk⟩ : ∃ tk, hdT (T.drop i) = tk := ⟨_, rfl⟩
  have HN := Lib.hid (fun w1 (h1 : Below W.heap.size W w1) => now_any (h.below h1) tk htk)
  rw [htk] at hk
  have k1 : ((tk.kind : Int) == 2) = true := by rw [hk]; rfl
  clear htk hk
  have HSS := Lib.hid HS
  have HR := Lib.hid (fun w1 (h1 : Below W.heap.size W w1) => h.below h1)
  have hrl := h.rlt
  have hgl := h.tok.1
  have q0 : Below W.heap.size W (W.alloc (.cells #[.int .i64 0, .int .i64 0, .string ⟨#[]⟩, .slice none 0 0] 38)) := (Below.refl _ _).alloc (Nat.le_refl _) _
  have B6 := heap_alloc_new W (.cells #[.int .i64 0, .int .i64 0, .string ⟨#[]⟩, .slice none 0 0] 38)
  have z0 : (W.alloc (.cells #[.int .i64 0, .int .i64 0, .string ⟨#[]⟩, .slice none 0 0] 38)).heap.size = W.heap.size + 1 := by simp
  clear HS h b0 b1 b2 b3 hrl hgl
  go_enter Tryz.func135, Tryz.ntmps135
  go_upto_region 1 with fail
  obtain ⟨w0, hw0⟩ : ∃ W1, W.alloc (.cells #[.int .i64 0, .int .i64 0, .string ⟨#[]⟩, .slice none 0 0] 38) = W1 := ⟨_, rfl⟩
  rw [hw0] at B6 q0 z0 ⊢
  clear hw0
  have t0 : Below w0.heap.size w0 w0 := Below.refl _ _
  go_wp2_with (first
    | (go_at_call 58; ((with_reducible refine (HI0.out _ q0).mono ?_); rintro e w1 ⟨rfl, e1⟩; have q1 := q0.trans (e1.mono q0.size); have t1 := t0.trans (e1.mono t0.size)))
    | (go_at_call 58; ((with_reducible refine (HI1.out _ q1).mono ?_); rintro e w2 ⟨rfl, e2⟩; have q2 := q1.trans (e2.mono q1.size); have t2 := t1.trans (e2.mono t1.size)))
    | (go_at_call 58; ((with_reducible refine (HI2.out _ q2).mono ?_); rintro e w3 ⟨rfl, e3⟩; have q3 := q2.trans (e3.mono q2.size); have t3 := t2.trans (e3.mono t2.size)))
    | (go_at_call 106; ((with_reducible refine (HI3.out _ q3).mono ?_); rintro e w4 ⟨rfl, e4⟩; have q4 := q3.trans (e4.mono q3.size); have t4 := t3.trans (e4.mono t3.size)))
    | (go_at_call 61; ((with_reducible refine (HN.out _ q4).mono ?_); rintro e wn ⟨rfl, en⟩; have qn := q4.trans (en.mono q4.size); have tn := t4.trans (en.mono t4.size)))
    | (go_at_call 109; ((with_reducible refine (HSS.out _ (HR.out _ qn)).mono ?_); rintro e w9 ⟨rfl, hy⟩)))
  exact ⟨rfl, rfl, (Gr.of qn).trans (Gr.of hy)⟩

end Go.Proofs.YtppagjhmlgkamaaGreatDoor

/-
  Package parse: what operations of two stand between, whole.
-/
namespace Go.Proofs.YtppagjhmlgkamaaGreatDoor
open Go Go.RowKit Go.Lib

theorem enter_bind {α : Type} (s : List UInt8) (o : Nat) (ts : List Tok) (f : List Tok → PR α) : ((enterT s o ts).bind fun _ r => f r) = (enterT s o ts).bind fun _ _ => f ts.tail := by
  unfold enterT
  split
  · split <;> rfl
  · rfl

section
variable {rb g N cT : Nat} {T : List Tok} (ex : Nat → Nat → List Tok → PR Ex)
    (HEX : ∀ W i o, Rd W rb g N cT T i o → ex 1 o (T.drop i) ≠ .out → Calls Tryz.prog 123 #[.pointer (some ⟨rb, 0, none⟩)] W (XP rb g N cT o T W (ex 1 o (T.drop i))))
    (HNM : ∀ m W i o, Rd W rb g N cT T i o → namedT ex m o (T.drop i) ≠ .out → Calls Tryz.prog 140 #[.pointer (some ⟨rb, 0, none⟩)] W (XP rb g N cT o T W (namedT ex m o (T.drop i))))
include HEX HNM

theorem single_any : ∀ m W i o, Rd W rb g N cT T i o → singleT ex m o (T.drop i) ≠ .out → Calls Tryz.prog 135 #[.pointer (some ⟨rb, 0, none⟩)] W (XP rb g N cT o T W (singleT ex m o (T.drop i)))
  | 0, _, _, _, _, hx => absurd rfl hx
  | m + 1, W, i, o, h, hx => by
    have IH := single_any m
    rw [singleT] at hx ⊢
    by_cases b0 : isT (T.drop i) [45] = true
    · rw [if_pos b0] at hx ⊢
      rw [enter_bind, drop_tail] at hx ⊢
      have HO : ∀ W2, Rd W2 rb g N cT T i o → Calls Tryz.prog 139 #[.pointer (some ⟨rb, 0, none⟩), .int .i64 6, .string ⟨#[45]⟩] W2 (XP rb g N cT o T W2 ((enterT [45] o (T.drop i)).bind fun _ _ => (singleT ex m (o + 1) (T.drop (i + 1))).bind fun e r => .ok ⟨6, 0, nilS, toES e .nil⟩ r)) := by
        intro W2 h2
        have hq : o < 256 → singleT ex m (o + 1) (T.drop (i + 1)) ≠ .out := by
          intro ho e
          rw [e] at hx
          unfold enterT at hx
          rw [if_pos b0, if_neg (by omega)] at hx
          exact hx rfl
        refine on_any h2 6 (by unfold I64; omega) [45] (by decide) b0 _ hq (fun W3 h3 => ?_)
        exact IH W3 (i + 1) (o + 1) h3 (hq (by have := h3.small; omega))
      generalize ((enterT [45] o (T.drop i)).bind fun _ _ => (singleT ex m (o + 1) (T.drop (i + 1))).bind fun e r => (PR.ok ⟨6, 0, nilS, toES e .nil⟩ r : PR Ex)) = y at HO hx ⊢
      cases y with
      | ok v r => exact sg_neg_ok h b0 v r HO
      | bad p c => exact sg_neg_bad h b0 p c HO
      | out => exact absurd rfl hx
    · have b0 : isT (T.drop i) [45] = false := by simpa using b0
      rw [if_neg (by rw [b0]; decide)] at hx ⊢
      by_cases b1 : isT (T.drop i) [33] = true
      · rw [if_pos b1] at hx ⊢
        rw [enter_bind, drop_tail] at hx ⊢
        have HO : ∀ W2, Rd W2 rb g N cT T i o → Calls Tryz.prog 139 #[.pointer (some ⟨rb, 0, none⟩), .int .i64 7, .string ⟨#[33]⟩] W2 (XP rb g N cT o T W2 ((enterT [33] o (T.drop i)).bind fun _ _ => (singleT ex m (o + 1) (T.drop (i + 1))).bind fun e r => .ok ⟨7, 0, nilS, toES e .nil⟩ r)) := by
          intro W2 h2
          have hq : o < 256 → singleT ex m (o + 1) (T.drop (i + 1)) ≠ .out := by
            intro ho e
            rw [e] at hx
            unfold enterT at hx
            rw [if_pos b1, if_neg (by omega)] at hx
            exact hx rfl
          refine on_any h2 7 (by unfold I64; omega) [33] (by decide) b1 _ hq (fun W3 h3 => ?_)
          exact IH W3 (i + 1) (o + 1) h3 (hq (by have := h3.small; omega))
        generalize ((enterT [33] o (T.drop i)).bind fun _ _ => (singleT ex m (o + 1) (T.drop (i + 1))).bind fun e r => (PR.ok ⟨7, 0, nilS, toES e .nil⟩ r : PR Ex)) = y at HO hx ⊢
        cases y with
        | ok v r => exact sg_not_ok h b0 b1 v r HO
        | bad p c => exact sg_not_bad h b0 b1 p c HO
        | out => exact absurd rfl hx
      · have b1 : isT (T.drop i) [33] = false := by simpa using b1
        rw [if_neg (by rw [b1]; decide)] at hx ⊢
        by_cases b2 : isT (T.drop i) [40] = true
        · rw [if_pos b2] at hx ⊢
          have HO : ∀ W2, Rd W2 rb g N cT T i o → Calls Tryz.prog 124 #[.pointer (some ⟨rb, 0, none⟩), .string ⟨#[40]⟩, .string ⟨#[41]⟩] W2 (XP rb g N cT o T W2 (withinT ex [40] [41] o (T.drop i))) := by
            intro W2 h2
            have hq : o < 256 → ex 1 (o + 1) (T.drop (i + 1)) ≠ .out := by
              intro ho e
              unfold withinT at hx
              rw [enter_bind (f := fun r => (ex 1 (o + 1) r).bind fun e r => (wantT [41] r).bind fun _ r => PR.ok e r), drop_tail, e] at hx
              unfold enterT at hx
              rw [if_pos b2, if_neg (by omega)] at hx
              exact hx rfl
            refine within_any h2 [40] [41] (by decide) (by decide) b2 ex hq (fun W3 h3 => ?_)
            exact HEX W3 (i + 1) (o + 1) h3 (hq (by have := h3.small; omega))
          generalize withinT ex [40] [41] o (T.drop i) = y at HO hx ⊢
          cases y with
          | ok v r => exact sg_par_ok h b0 b1 b2 v r HO
          | bad p c => exact sg_par_bad h b0 b1 b2 p c HO
          | out => exact absurd rfl hx
        · have b2 : isT (T.drop i) [40] = false := by simpa using b2
          rw [if_neg (by rw [b2]; decide)] at hx ⊢
          by_cases b3 : isT (T.drop i) [99, 108, 111, 99, 107] = true
          · rw [if_pos b3]
            exact sg_clock h b0 b1 b2 b3
          · have b3 : isT (T.drop i) [99, 108, 111, 99, 107] = false := by simpa using b3
            rw [if_neg (by rw [b3]; decide)] at hx ⊢
            by_cases hk : (hdT (T.drop i)).kind = 2
            · rw [if_pos hk] at hx ⊢
              unfold numT
              rw [if_pos hk]
              cases hn : parseL (hdT (T.drop i)).text with
              | none => exact sg_num_bad h b0 b1 b2 b3 hk _ 1 (fun W2 h2 => num_none h2 _ _ hk hn _ rfl)
              | some n =>
                by_cases hr : n < 0 ∨ 9223372036854775807 < n
                · simp only [if_pos hr]
                  exact sg_num_bad h b0 b1 b2 b3 hk _ 1 (fun W2 h2 => num_out h2 _ _ n hk hn hr _ rfl)
                · simp only [if_neg hr]
                  exact sg_num_ok h b0 b1 b2 b3 hk n (by unfold I64; omega) (fun W2 h2 => num_yes h2 _ _ n hk hn (by omega))
            · rw [if_neg hk] at hx ⊢
              have HO : ∀ W2, Rd W2 rb g N cT T i o → Calls Tryz.prog 140 #[.pointer (some ⟨rb, 0, none⟩)] W2 (XP rb g N cT o T W2 (namedT ex (m + 1) o (T.drop i))) := fun W2 h2 => HNM (m + 1) W2 i o h2 hx
              generalize namedT ex (m + 1) o (T.drop i) = y at HO hx ⊢
              cases y with
              | ok v r => exact sg_name_ok h b0 b1 b2 b3 hk v r HO
              | bad p c => exact sg_name_bad h b0 b1 b2 b3 hk p c HO
              | out => exact absurd rfl hx
end

end Go.Proofs.YtppagjhmlgkamaaGreatDoor

