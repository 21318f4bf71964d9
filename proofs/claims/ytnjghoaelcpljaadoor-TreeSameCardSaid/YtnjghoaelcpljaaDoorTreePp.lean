/-
  What is right, and not too great, has parts that are right.
-/
import Derived.Test.YtnjghoaelcpljaaDoorTreeS
import Derived.Test.YtnjghoaelcpljaaDoorTreeG
namespace Go.Proofs.YtnjghoaelcpljaaDoor
open Go Go.RowKit

theorem one_more {d : Int} (h0 : 0 ≤ d) (h1 : d ≤ 2000000) : wrap64 (1 + d) = 1 + d := by rw [wrap_def]; omega
theorem ES.deep_le : ∀ l : ES, l.cnt ≤ 2000000 → l.deep ≤ l.cnt
  | .nil, _ => by simp [ES.deep, ES.cnt]
  | .cons _ _ _ l r, h => by
    simp only [ES.cnt] at h
    have h1 := ES.deep_le l (by omega)
    have h2 := ES.deep_le r (by omega)
    have h3 := ES.deep_nn l
    simp only [ES.deep, ES.cnt, one_more h3 (by omega)]
    omega
theorem SS.deep_le : ∀ l : SS, l.cnt ≤ 2000000 → l.deep ≤ l.cnt
  | .nil, _ => by simp [SS.deep, SS.cnt]
  | .cons _ _ _ l x y r, h => by
    simp only [SS.cnt] at h
    have h1 := ES.deep_le l (by omega)
    have h2 := SS.deep_le r (by omega)
    have h3 := SS.deep_le x (by omega)
    have h4 := SS.deep_le y (by omega)
    have h5 := ES.deep_nn l
    simp only [SS.deep, SS.cnt, one_more (show 0 ≤ max l.deep (max x.deep y.deep) by omega) (by omega)]
    omega
theorem SS.len_le : ∀ l : SS, l.len ≤ l.cnt
  | .nil => Nat.le_refl _
  | .cons _ _ _ _ _ _ r => by have := SS.len_le r; simp only [SS.len, SS.cnt]; omega

/-- Right, and neither too deep nor too great. -/
structure GoodS (l : SS) : Prop where
  ok : l.ok = true
  deep : l.deep ≤ 64
  cnt : l.cnt ≤ 2000000
structure GoodE (l : ES) : Prop where
  ok : l.ok = true
  deep : l.deep ≤ 63
  cnt : l.cnt ≤ 2000000
theorem GoodS.cons {op : Int} {s : ByteArray} {n : Int} {l : ES} {x y r : SS} (h : GoodS (.cons op s n l x y r)) : GoodE l ∧ GoodS x ∧ GoodS y ∧ GoodS r := by
  obtain ⟨h1, h2, h3⟩ := h
  simp only [SS.ok, Bool.and_eq_true] at h1
  simp only [SS.cnt] at h3
  have a1 := ES.deep_le l (by omega)
  have a2 := SS.deep_le x (by omega)
  have a3 := SS.deep_le y (by omega)
  have a4 := ES.deep_nn l
  simp only [SS.deep, one_more (show 0 ≤ max l.deep (max x.deep y.deep) by omega) (by omega)] at h2
  exact ⟨⟨h1.1.2.1, by omega, by omega⟩, ⟨h1.1.2.2.1, by omega, by omega⟩, ⟨h1.1.2.2.2, by omega, by omega⟩, ⟨h1.2, by omega, by omega⟩⟩
theorem GoodE.rest {op n : Int} {s : ByteArray} {l r : ES} (h : GoodE (.cons op n s l r)) : GoodE r := by
  obtain ⟨h1, h2, h3⟩ := h
  simp only [ES.ok, Bool.and_eq_true] at h1
  simp only [ES.cnt] at h3
  simp only [ES.deep] at h2
  exact ⟨h1.2, by omega, by omega⟩
theorem SS.nil_good : GoodS .nil := ⟨rfl, by simp [SS.deep], by simp [SS.cnt]⟩

theorem rightN_zero {p : Pg} (h1 : funcsB p.fs = true) (h2 : okL p.pts = true) (h3 : deepL p.pts ≤ 64) : rightN p = 0 := by
  unfold rightN
  rw [h1, h2, if_pos (by rfl), if_neg (by omega)]
theorem rightN_ok {p : Pg} (h : rightN p = 0) : funcsB p.fs = true ∧ okL p.pts = true ∧ deepL p.pts ≤ 64 := by
  unfold rightN at h
  by_cases h1 : (funcsB p.fs && okL p.pts) = true
  · rw [if_pos h1] at h
    by_cases h2 : 64 < deepL p.pts
    · rw [if_pos h2] at h; cases h
    · rw [Bool.and_eq_true] at h1
      exact ⟨h1.1, h1.2, by omega⟩
  · rw [if_neg h1] at h; cases h
theorem main_right {l : SS} (h1 : l.ok = true) (h2 : l.deep ≤ 64) : rightN ⟨[], l⟩ = 0 :=
  rightN_zero (show funcsB [] = true by decide) (by simp only [Pg.pts, fsPts, List.nil_append, SS.okL]; exact h1) (by simp only [Pg.pts, fsPts, List.nil_append, SS.deepL]; exact h2)
theorem GoodS.right {l : SS} (h : GoodS l) : rightN ⟨[], l⟩ = 0 := main_right h.ok h.deep

def GoodF : List Fn → Prop
  | [] => True
  | f :: r => GoodS f.b ∧ GoodF r
theorem goodF_of : ∀ l : List Fn, okL (fsPts l) = true → deepL (fsPts l) ≤ 64 → cntL (fsPts l) ≤ 2000000 → GoodF l
  | [], _, _, _ => trivial
  | f :: r, h1, h2, h3 => by
    simp only [fsPts, okL_append, Bool.and_eq_true, SS.okL] at h1
    simp only [fsPts, deepL_append, SS.deepL] at h2
    simp only [fsPts, cntL_append, SS.cntL] at h3
    exact ⟨⟨h1.1, by omega, by omega⟩, goodF_of r h1.2 (by omega) (by omega)⟩
theorem right_good {p : Pg} (h : rightN p = 0) (hc : cntL p.pts ≤ 2000000) : GoodS p.m ∧ GoodF p.fs ∧ rightN ⟨p.fs, .nil⟩ = 0 := by
  obtain ⟨h1, h2, h3⟩ := rightN_ok h
  simp only [Pg.pts, okL_append, Bool.and_eq_true, SS.okL] at h2
  simp only [Pg.pts, deepL_append, SS.deepL] at h3
  simp only [Pg.pts, cntL_append, SS.cntL] at hc
  exact ⟨⟨h2.2, by omega, by omega⟩, goodF_of p.fs h2.1 (by omega) (by omega), rightN_zero h1 (by simp only [Pg.pts, SS.pts, List.append_nil]; exact h2.1) (by simp only [Pg.pts, SS.pts, List.append_nil]; omega)⟩

theorem print_fit (l : ES) (h : l.len = 1) : fitP ⟨true, 5, ⟨#[]⟩, 0, l, .nil, .nil⟩ = true := by
  unfold fitP
  simp only [h, SS.len]
  decide +kernel
theorem GoodE.print {op n : Int} {s : ByteArray} {l r : ES} (h : GoodE (.cons op n s l r)) : rightN ⟨[], .cons 5 ⟨#[]⟩ 0 (.cons op n s l .nil) .nil .nil .nil⟩ = 0 := by
  obtain ⟨h1, h2, h3⟩ := h
  simp only [ES.ok, Bool.and_eq_true] at h1
  simp only [ES.cnt] at h3
  have a1 := ES.deep_le l (by omega)
  have a2 := ES.deep_nn l
  simp only [ES.deep, one_more a2 (by omega)] at h2
  refine main_right ?_ ?_
  · simp only [SS.ok, ES.ok, print_fit (.cons op n s l .nil) rfl, h1.1.1, h1.1.2]
    rfl
  · simp only [SS.deep, ES.deep, one_more a2 (by omega)]
    rw [show max (max (1 + l.deep) 0) (max (0 : Int) 0) = 1 + l.deep by omega, one_more (by omega) (by omega)]
    omega

def SS.take : Nat → SS → SS
  | 0, _ => .nil
  | _ + 1, .nil => .nil
  | k + 1, .cons op s n l x y r => .cons op s n l x y (r.take k)
theorem SS.take_len : ∀ (k : Nat) (l : SS), k ≤ l.len → (l.take k).len = k
  | 0, _, _ => rfl
  | k + 1, .nil, h => by simp [SS.len] at h
  | k + 1, .cons _ _ _ _ _ _ r, h => by simp only [SS.len] at h; simp only [SS.take, SS.len, SS.take_len k r (by omega)]
theorem GoodS.take : ∀ (k : Nat) {l : SS}, GoodS l → GoodS (l.take k)
  | 0, _, _ => SS.nil_good
  | k + 1, .nil, h => h
  | k + 1, .cons op s n l x y r, h => by
    obtain ⟨_, _, _, hr⟩ := h.cons
    have ht := GoodS.take k hr
    have hc : (r.take k).cnt ≤ r.cnt := by
      have : ∀ (k : Nat) (l : SS), (l.take k).cnt ≤ l.cnt := by
        intro k l
        induction l generalizing k with
        | nil => cases k <;> simp [SS.take, SS.cnt]
        | cons op s n l x y r _ _ ih =>
          cases k with
          | zero => simp [SS.take, SS.cnt]
          | succ k => have := ih k; simp only [SS.take, SS.cnt]; omega
      exact this k r
    obtain ⟨h1, h2, h3⟩ := h
    obtain ⟨t1, t2, t3⟩ := ht
    simp only [SS.ok, Bool.and_eq_true] at h1
    simp only [SS.deep] at h2
    simp only [SS.cnt] at h3
    refine ⟨?_, ?_, ?_⟩
    · simp only [SS.take, SS.ok, Bool.and_eq_true] at t1 ⊢
      refine ⟨?_, t1⟩
      have e : fitP ⟨true, op, s, n, l, x, y⟩ = true := h1.1.1
      exact ⟨e, h1.1.2⟩
    · simp only [SS.take, SS.deep]
      omega
    · simp only [SS.take, SS.cnt]
      omega
theorem SS.In.take {B : Nat} {W : World} : ∀ (k : Nat) {l : SS} {b o : Nat}, l.In B W b o → (l.take k).In B W b o
  | 0, _, _, _, _ => trivial
  | _ + 1, .nil, _, _, _ => trivial
  | k + 1, .cons _ _ _ _ _ _ _, _, _, ⟨h0, h1, h2, h3, h4, h5, h6, hr⟩ => ⟨h0, h1, h2, h3, h4, h5, h6, SS.In.take k hr⟩
theorem SV.take {B : Nat} {W : World} {A : Option Addr} {n cap k : Nat} {l : SS} (h : SV B W (.slice A n cap) l) (hk : k ≤ l.len) : SV B W (.slice A k cap) (l.take k) := by
  obtain ⟨A1, cap1, e, h1, h2, hr⟩ := h
  injection e with e1 e2 e3
  subst e1 e2 e3
  refine ⟨A, cap, by rw [SS.take_len k l hk], by rw [SS.take_len k l hk]; omega, h2, fun h => ?_⟩
  rw [SS.take_len k l hk] at h
  obtain ⟨b, o, ea, hb, hi⟩ := hr (by omega)
  exact ⟨b, o, ea, hb, hi.take k⟩

end Go.Proofs.YtnjghoaelcpljaaDoor
