/-
  CanonExprs, plain: what an expression's text is in a statement, in an index, in a difference.
-/
import Derived.Test.YtdadigmjenjpnaaGreatDoorCq5
import Derived.Test.YtdadigmjenjpnaaGreatDoorCnZm
namespace Go.Proofs.YtdadigmjenjpnaaGreatDoor
open Go Go.RowKit Go.Lib

theorem one_more' {d : Int} (h0 : 0 ≤ d) (h1 : d ≤ 5000000) : wrap64 (1 + d) = 1 + d := by rw [wrap_def]; omega
theorem ES.deep_le' : ∀ l : ES, l.cnt ≤ 5000000 → l.deep ≤ l.cnt
  | .nil, _ => by simp [ES.deep, ES.cnt]
  | .cons _ _ _ l r, h => by
    simp only [ES.cnt] at h
    have h1 := ES.deep_le' l (by omega)
    have h2 := ES.deep_le' r (by omega)
    have h3 := ES.deep_nn l
    simp only [ES.deep, ES.cnt, one_more' h3 (by omega)]
    omega

/-- Three statements of one expression. -/
def pr3 (E : ES) : Pg := ⟨[], .cons 5 ⟨#[]⟩ 0 E .nil .nil (.cons 6 ⟨#[]⟩ 0 E .nil .nil (.cons 8 ⟨#[]⟩ 0 E .nil .nil .nil))⟩
theorem fit_one (op : Int) (hop : op = 5 ∨ op = 6 ∨ op = 8) (E : ES) (h : E.len = 1) : fitP ⟨true, op, ⟨#[]⟩, 0, E, .nil, .nil⟩ = true := by
  unfold fitP
  simp only [h, SS.len]
  rcases hop with rfl | rfl | rfl <;> decide +kernel
theorem right_iff {m : SS} : rightN ⟨[], m⟩ = 0 ↔ m.ok = true ∧ m.deep ≤ 64 := by
  unfold rightN
  simp only [Pg.pts, fsPts, List.nil_append, SS.okL, SS.deepL, show funcsB [] = true from rfl, Bool.true_and]
  by_cases h1 : m.ok = true
  · by_cases h2 : 64 < m.deep
    · simp only [h1, if_true, h2]; simp; omega
    · simp only [h1, if_true, h2, if_false]; simp; omega
  · simp [h1]
theorem prE_iff (op n : Int) (s : ByteArray) (l : ES) (hc : l.cnt ≤ 4000000) : rightN (prE op n s l) = 0 ↔ (ES.cons op n s l .nil).ok = true ∧ 1 + (1 + l.deep) ≤ 64 := by
  unfold prE
  rw [right_iff]
  have a1 := ES.deep_le' l (by omega)
  have a2 := ES.deep_nn l
  simp only [SS.ok, fit_one 5 (.inl rfl) (.cons op n s l .nil) rfl, SS.deep, ES.deep, one_more' a2 (by omega)]
  rw [show max (max (1 + l.deep) 0) (max (0 : Int) 0) = 1 + l.deep by omega, one_more' (by omega) (by omega)]
  simp
  omega
theorem pr3_iff (op n : Int) (s : ByteArray) (l : ES) (hc : l.cnt ≤ 4000000) : rightN (pr3 (.cons op n s l .nil)) = 0 ↔ (ES.cons op n s l .nil).ok = true ∧ 1 + (1 + l.deep) ≤ 64 := by
  unfold pr3
  rw [right_iff]
  have a1 := ES.deep_le' l (by omega)
  have a2 := ES.deep_nn l
  simp only [SS.ok, fit_one 5 (.inl rfl) (.cons op n s l .nil) rfl, fit_one 6 (.inr (.inl rfl)) (.cons op n s l .nil) rfl, fit_one 8 (.inr (.inr rfl)) (.cons op n s l .nil) rfl, SS.deep, ES.deep, one_more' a2 (by omega)]
  rw [show max (max (1 + l.deep) 0) (max (0 : Int) 0) = 1 + l.deep by omega, one_more' (by omega) (by omega)]
  simp
  omega
theorem pr3_depth (op n : Int) (s : ByteArray) (l : ES) (hc : l.cnt ≤ 4000000) : deepL (pr3 (.cons op n s l .nil)).pts = 1 + (1 + l.deep) := by
  have a1 := ES.deep_le' l (by omega)
  have a2 := ES.deep_nn l
  simp only [pr3, Pg.pts, fsPts, List.nil_append, SS.deepL, SS.deep, ES.deep, one_more' a2 (by omega)]
  rw [show max (max (1 + l.deep) 0) (max (0 : Int) 0) = 1 + l.deep by omega, one_more' (by omega) (by omega)]
  omega

theorem dd_ne' (m : Nat) : decDigits m ≠ [] := by
  rw [decDigits]
  split <;> simp
theorem itoa_ne (n : Int) : itoa n ≠ [] := by
  unfold itoa
  split
  · simp
  · exact dd_ne' _
/-- A right expression's text is not empty. -/
theorem exX_ne {op n : Int} {s : ByteArray} {l : ES} (h : fitP ⟨false, op, s, n, l, .nil, .nil⟩ = true) (ts : List (List UInt8)) : exX op n s.data.toList ts ≠ [] := by
  have hs : op = 2 ∨ op = 4 ∨ op = 5 → s.data.toList ≠ [] := by
    intro ho e
    unfold fitP fitQ shOf at h
    have hz : s.size = 0 := by
      have : s.data.toList.length = 0 := by rw [e]; rfl
      rw [Array.length_toList] at this
      exact this
    have hn : nameB s = false := by unfold nameB; simp [hz]
    rcases ho with rfl | rfl | rfl <;> simp [exprT, namedB, hn] at h
  unfold exX
  repeat' split
  · exact itoa_ne n
  · exact hs (.inl (by assumption))
  · simp
  · simp
  · simp
  · simp
  · simp
  · simp
theorem deep_ok {op n : Int} {s : ByteArray} {l : ES} (hf : fitP ⟨false, op, s, n, l, .nil, .nil⟩ = true) (hl : l.ok = true) (hc : l.cnt ≤ 4000000) (hd : 1 + (1 + l.deep) ≤ 64) : rightN (prE op n s l) = 0 :=
  (prE_iff op n s l hc).2 ⟨by simp only [ES.ok, hf, hl]; rfl, hd⟩
theorem index_text (op n : Int) (s : ByteArray) (l : ES) (hc : l.cnt ≤ 3000000) (h : (ES.cons op n s l .nil).ok = true) (hd : 1 + (1 + l.deep) ≤ 60) :
    exprP 4 0 ⟨#[97]⟩ (.cons op n s l .nil) = [97, 91] ++ exX op n s.data.toList l.txs ++ [93] := by
  have a1 := ES.deep_le' l (by omega)
  have a2 := ES.deep_nn l
  have hr : rightN (prE 4 0 ⟨#[97]⟩ (.cons op n s l .nil)) = 0 := deep_ok (by unfold fitP; simp only [show (ES.cons op n s l .nil).len = 1 from rfl, SS.len]; decide +kernel) h (by simp only [ES.cnt]; omega) (by simp only [ES.deep, one_more' a2 (by omega)]; omega)
  unfold exprP
  rw [if_pos hr]
  simp [exX, ES.txs, gapT, restT]
theorem sub_text (op n : Int) (s : ByteArray) (l : ES) (hc : l.cnt ≤ 1900000) (h : (ES.cons op n s l .nil).ok = true) (hd : 1 + (1 + l.deep) ≤ 60) :
    exprP 9 0 ⟨#[]⟩ (.cons op n s l (.cons 6 0 ⟨#[]⟩ (.cons op n s l .nil) .nil)) = [40] ++ exX op n s.data.toList l.txs ++ [32, 45, 32, 45] ++ exX op n s.data.toList l.txs ++ [41] := by
  have a1 := ES.deep_le' l (by omega)
  have a2 := ES.deep_nn l
  have h' := h
  simp only [ES.ok, Bool.and_eq_true] at h'
  have hr : rightN (prE 9 0 ⟨#[]⟩ (.cons op n s l (.cons 6 0 ⟨#[]⟩ (.cons op n s l .nil) .nil))) = 0 := deep_ok (by unfold fitP; simp only [ES.len, SS.len]; decide +kernel)
    (by simp only [ES.ok, h'.1.1, h'.1.2]; unfold fitP; simp only [ES.len, SS.len]; decide +kernel) (by simp only [ES.cnt]; omega) (by simp only [ES.deep, one_more' a2 (by omega)]; rw [show max (1 + l.deep) 0 = 1 + l.deep by omega, one_more' (by omega) (by omega)]; omega)
  unfold exprP
  rw [if_pos hr]
  simp [exX, ES.txs, gapT, restT, hdT', betw, betwT]
theorem pr3_text (op n : Int) (s : ByteArray) (l : ES) (h : rightN (pr3 (.cons op n s l .nil)) = 0) :
    textP (pr3 (.cons op n s l .nil)) = [112, 114, 105, 110, 116, 32] ++ exX op n s.data.toList l.txs ++ [59, 10, 107, 101, 101, 112, 32] ++ exX op n s.data.toList l.txs ++ [59, 10, 119, 104, 105, 108, 101, 32] ++ exX op n s.data.toList l.txs ++ [32, 123, 10, 125, 10] := by
  unfold textP
  rw [if_pos h]
  simp [pr3, Pg.txt, fsX, SS.txt, stX, ES.txs, hdT', blkT, tabsT]

end Go.Proofs.YtdadigmjenjpnaaGreatDoor
