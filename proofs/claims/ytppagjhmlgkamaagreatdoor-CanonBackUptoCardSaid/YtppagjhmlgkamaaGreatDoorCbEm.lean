/-
  What parse tells of the tokens of a right expression: the expression. Plain.
-/
import Derived.Test.YtppagjhmlgkamaaGreatDoorCq5
import Derived.Test.YtppagjhmlgkamaaGreatDoorCbTm
namespace Go.Proofs.YtppagjhmlgkamaaGreatDoor
open Go Go.RowKit Go.Lib

/-- How deep, without going round. -/
def ES.dn : ES → Nat
  | .nil => 0
  | .cons _ _ _ l r => max (1 + l.dn) r.dn

theorem kts_cons {te : List Tok} {k : TK} {r : List TK} (h : kts te = k :: r) : ∃ t te', te = t :: te' ∧ t.kind = k.1 ∧ t.text = k.2 ∧ kts te' = r := by
  cases te with
  | nil => cases h
  | cons t te' =>
    unfold kts at h
    rw [List.map_cons] at h
    injection h with h1 h2
    exact ⟨t, te', rfl, by rw [← h1]; rfl, by rw [← h1]; rfl, h2⟩
theorem kts_split {te : List Tok} {a b : List TK} (h : kts te = a ++ b) : ∃ x y, te = x ++ y ∧ kts x = a ∧ kts y = b := List.map_eq_append_iff.1 h
theorem kts_nil {te : List Tok} (h : kts te = []) : te = [] := List.map_eq_nil_iff.1 h
theorem isT_yes {t : Tok} {X : List Tok} {s : List UInt8} (h : t.text = s) : isT (t :: X) s = true := decide_eq_true h
theorem isT_no {t : Tok} {X : List Tok} {s : List UInt8} (h : t.text ≠ s) : isT (t :: X) s = false := decide_eq_false h
theorem baT_data (s : ByteArray) : baT s.data.toList = s := rfl
theorem name_ne {s : ByteArray} (h : nameB s = true) {L : List UInt8} (hL : nameB (baT L) = false) : s.data.toList ≠ L := by
  rintro e
  rw [← e, baT_data, h] at hL
  cases hL
theorem named_nil {s : ByteArray} (h : namedB false s = true) : s = nilS := by
  have e : s.toList = [] := by simpa [namedB] using h
  rw [ByteArray.toList_eq] at e
  have : s.data = #[] := Array.toList_inj.1 e
  exact ByteArray.ext this
theorem es_nil {l : ES} (h : (l.len : Int) ≤ 0) : l = .nil := by
  cases l with
  | nil => rfl
  | cons _ _ _ _ _ => simp only [ES.len] at h; omega
theorem es_one {l : ES} (h1 : (1 : Int) ≤ (l.len : Int)) (h2 : (l.len : Int) ≤ 1) : ∃ op n s l1, l = .cons op n s l1 .nil := by
  cases l with
  | nil => simp only [ES.len] at h1; omega
  | cons op n s l1 r => exact ⟨op, n, s, l1, by rw [es_nil (l := r) (by simp only [ES.len] at h2; omega)]⟩
theorem es_two {l : ES} (h1 : (2 : Int) ≤ (l.len : Int)) (h2 : (l.len : Int) ≤ 2) : ∃ op n s l1 op' n' s' l1', l = .cons op n s l1 (.cons op' n' s' l1' .nil) := by
  cases l with
  | nil => simp only [ES.len] at h1; omega
  | cons op n s l1 r =>
    obtain ⟨op', n', s', l1', rfl⟩ := es_one (l := r) (by simp only [ES.len] at h1; omega) (by simp only [ES.len] at h2; omega)
    exact ⟨op, n, s, l1, op', n', s', l1', rfl⟩

/-- What may stand behind an expression. -/
def Aft (X : List Tok) : Prop := (hdT X).text ≠ [91] ∧ (hdT X).text ≠ [40]
theorem aft_of {t : Tok} {X : List Tok} {s : List UInt8} (h : t.text = s) (h1 : s ≠ [91]) (h2 : s ≠ [40]) : Aft (t :: X) := by
  subst h
  exact ⟨h1, h2⟩
def SOK (e : Ex) (tk : List TK) (d : Nat) : Prop :=
  ∃ N, ∀ n m o te X, N ≤ n → N ≤ m → o + d ≤ 256 → kts te = tk → Aft X → singleT (exT n) m o (te ++ X) = .ok e X
def EOK (e : Ex) (tk : List TK) (d : Nat) : Prop :=
  ∃ N, ∀ n least o te X, N ≤ n → o + d ≤ 256 → kts te = tk → Aft X → (opT (hdT X).text).2 < least → exT n least o (te ++ X) = .ok e X
theorem SOK.e {e : Ex} {tk : List TK} {d : Nat} (h : SOK e tk d) : EOK e tk d := by
  obtain ⟨N, h⟩ := h
  refine ⟨N + 1, fun n least o te X hn ho ht hX hl => ?_⟩
  obtain ⟨k, rfl⟩ : ∃ k, n = k + 1 := ⟨n - 1, by omega⟩
  rw [exT, h k (k + 1) o te X (by omega) (by omega) ho ht hX, ok_bind]
  exact loop_stop _ _ _ _ _ _ hl

section
variable (ex : Nat → Nat → List Tok → PR Ex)
theorem enter_ok {t : Tok} {X : List Tok} {a : List UInt8} {o : Nat} (h : t.text = a) (ho : o ≠ 256) : enterT a o (t :: X) = .ok () X := by
  rw [enterT, if_pos (isT_yes h), if_neg ho]; rfl
theorem want_ok {t : Tok} {X : List Tok} {a : List UInt8} (h : t.text = a) : wantT a (t :: X) = .ok () X := by
  rw [wantT, if_pos (isT_yes h)]; rfl
theorem within_ok {t t2 : Tok} {te X : List Tok} {a b : List UInt8} {o : Nat} {e : Ex} (h1 : t.text = a) (ho : o ≠ 256) (h2 : t2.text = b) (he : ex 1 (o + 1) (te ++ t2 :: X) = .ok e (t2 :: X)) : withinT ex a b o (t :: (te ++ t2 :: X)) = .ok e X := by
  rw [withinT, enter_ok h1 ho, ok_bind, he, ok_bind, want_ok h2]; rfl
theorem single_neg {t : Tok} {X Y : List Tok} {m o : Nat} {e : Ex} (h : t.text = [45]) (ho : o ≠ 256) (he : singleT ex m (o + 1) X = .ok e Y) : singleT ex (m + 1) o (t :: X) = .ok ⟨6, 0, nilS, toES e .nil⟩ Y := by
  rw [singleT, if_pos (isT_yes h), enter_ok h ho, ok_bind, he]; rfl
theorem single_not {t : Tok} {X Y : List Tok} {m o : Nat} {e : Ex} (h : t.text = [33]) (ho : o ≠ 256) (he : singleT ex m (o + 1) X = .ok e Y) : singleT ex (m + 1) o (t :: X) = .ok ⟨7, 0, nilS, toES e .nil⟩ Y := by
  rw [singleT, isT_no (by rw [h]; decide), isT_yes h, enter_ok h ho, ok_bind, he]; rfl
theorem single_par {t : Tok} {X : List Tok} {m o : Nat} (h : t.text = [40]) : singleT ex (m + 1) o (t :: X) = withinT ex [40] [41] o (t :: X) := by
  rw [singleT, isT_no (by rw [h]; decide), isT_no (by rw [h]; decide), isT_yes h]; rfl
theorem single_clock {t : Tok} {X : List Tok} {m o : Nat} (h : t.text = [99, 108, 111, 99, 107]) : singleT ex (m + 1) o (t :: X) = .ok ⟨3, 0, nilS, .nil⟩ X := by
  rw [singleT, isT_no (by rw [h]; decide), isT_no (by rw [h]; decide), isT_no (by rw [h]; decide), isT_yes h]; rfl
theorem dig_ne {l L : List UInt8} (_h1 : l ≠ []) (h2 : ∀ d ∈ l, digB (bv d) = true) (hL : L.all (fun d => digB (bv d)) = false) : l ≠ L := by
  rintro rfl
  rw [List.all_eq_false] at hL
  obtain ⟨x, hx, hx2⟩ := hL
  exact hx2 (h2 x hx)
theorem single_num' {t : Tok} {X : List Tok} {m o : Nat} {n : Int} (hk : t.kind = 2) (h : t.text = itoa n) (h0 : 0 ≤ n) (hn : n ≤ 9223372036854775807) (hp : parseL (itoa n) = some n) : singleT ex (m + 1) o (t :: X) = .ok ⟨1, n, nilS, .nil⟩ X := by
  obtain ⟨a1, a2⟩ := itoa_all h0
  rw [singleT, isT_no (by rw [h]; exact dig_ne a1 a2 (by decide)), isT_no (by rw [h]; exact dig_ne a1 a2 (by decide)), isT_no (by rw [h]; exact dig_ne a1 a2 (by decide)), isT_no (by rw [h]; exact dig_ne a1 a2 (by decide))]
  have hk' : (hdT (t :: X)).kind = 2 := hk
  have ht' : (hdT (t :: X)).text = itoa n := h
  simp only [Bool.false_eq_true, if_false, if_pos hk']
  rw [numT, if_pos hk', ht', hp]
  simp only
  rw [if_neg (by omega)]
  rfl
theorem single_name {t : Tok} {X : List Tok} {m o : Nat} {s : ByteArray} (hk : t.kind = 1) (h : t.text = s.data.toList) (hs : nameB s = true) : singleT ex (m + 1) o (t :: X) = namedT ex (m + 1) o (t :: X) := by
  rw [singleT, isT_no (by rw [h]; exact name_ne hs (by decide)), isT_no (by rw [h]; exact name_ne hs (by decide)), isT_no (by rw [h]; exact name_ne hs (by decide)), isT_no (by rw [h]; exact name_ne hs (by decide))]
  have hk' : (hdT (t :: X)).kind ≠ 2 := by
    show t.kind ≠ 2
    omega
  simp only [Bool.false_eq_true, if_false, if_neg hk']
theorem nameT_ok {t : Tok} {X : List Tok} {s : ByteArray} (h : t.text = s.data.toList) (hs : nameB s = true) : nameT (t :: X) = .ok s X := by
  have e : baT (hdT (t :: X)).text = s := by
    show baT t.text = s
    rw [h]; rfl
  rw [nameT, e, if_pos hs]; rfl
theorem named_var {t : Tok} {X : List Tok} {m o : Nat} {s : ByteArray} (h : t.text = s.data.toList) (hs : nameB s = true) (hX : Aft X) : namedT ex m o (t :: X) = .ok ⟨2, 0, s, .nil⟩ X := by
  have e1 : isT X [91] = false := decide_eq_false hX.1
  have e2 : isT X [40] = false := decide_eq_false hX.2
  rw [namedT, nameT_ok h hs, ok_bind, e1, e2]; rfl
theorem named_ix {t t1 t2 : Tok} {te X : List Tok} {m o : Nat} {s : ByteArray} {e : Ex} (h : t.text = s.data.toList) (hs : nameB s = true) (h1 : t1.text = [91]) (ho : o ≠ 256) (h2 : t2.text = [93]) (he : ex 1 (o + 1) (te ++ t2 :: X) = .ok e (t2 :: X)) :
    namedT ex m o (t :: t1 :: (te ++ t2 :: X)) = .ok ⟨4, 0, s, toES e .nil⟩ X := by
  rw [namedT, nameT_ok h hs, ok_bind, if_pos (isT_yes h1), within_ok ex h1 ho h2 he]; rfl
theorem named_call {t t1 : Tok} {Y X : List Tok} {m o : Nat} {s : ByteArray} {l : List Ex} (h : t.text = s.data.toList) (hs : nameB s = true) (h1 : t1.text = [40]) (he : severalT (ex 1 (o + 1)) m o (t1 :: Y) = .ok l X) :
    namedT ex m o (t :: t1 :: Y) = .ok ⟨5, 0, s, exES l⟩ X := by
  rw [namedT, nameT_ok h hs, ok_bind, isT_no (by rw [h1]; decide), isT_yes h1]
  simp only [Bool.false_eq_true, if_false, if_true]
  rw [he]; rfl
end

/-- Two things, a mark between, in brackets. -/
theorem pair_ok {e1 e2 : Ex} {k1 k2 : List TK} {d1 d2 : Nat} (h1 : SOK e1 k1 d1) (h2 : SOK e2 k2 d2) (m : Nat) (hm8 : 8 ≤ m) (hm16 : m ≤ 16) (d : Nat) (hd1 : d1 + 1 ≤ d) (hd2 : d2 + 1 ≤ d) :
    SOK ⟨(m : Int), 0, nilS, toES e1 (toES e2 .nil)⟩ ((3, [40]) :: (k1 ++ ((3, opm (m : Int)) :: (k2 ++ [(3, [41])])))) d := by
  have hop : ∀ m : Fin 17, 8 ≤ m.val → (opT (opm (m.val : Int))).1 = (m.val : Int) ∧ 1 ≤ (opT (opm (m.val : Int))).2 ∧ opm (m.val : Int) ≠ [91] ∧ opm (m.val : Int) ≠ [40] := by decide
  obtain ⟨o1, o2, o3, o4⟩ := hop ⟨m, by omega⟩ hm8
  simp only at o1 o2 o3 o4
  obtain ⟨N1, f1⟩ := h1
  obtain ⟨N2, f2⟩ := h2.e
  refine ⟨N1 + N2 + 3, fun n q o te X hn hq ho ht hX => ?_⟩
  obtain ⟨t, te, rfl, _, ht1, ht⟩ := kts_cons ht
  obtain ⟨x1, y1, rfl, hx1, hy1⟩ := kts_split ht
  obtain ⟨tm, y2, rfl, _, htm, hy2⟩ := kts_cons hy1
  obtain ⟨x2, y3, rfl, hx2, hy3⟩ := kts_split hy2
  obtain ⟨tc, y4, rfl, _, htc, hy4⟩ := kts_cons hy3
  obtain rfl := kts_nil hy4
  obtain ⟨q, rfl⟩ : ∃ k, q = k + 1 := ⟨q - 1, by omega⟩
  obtain ⟨n, rfl⟩ : ∃ k, n = k + 2 := ⟨n - 2, by omega⟩
  simp only at ht1 htm htc
  have e : t :: (x1 ++ tm :: (x2 ++ [tc])) ++ X = t :: ((x1 ++ tm :: x2) ++ tc :: X) := by simp
  rw [e, single_par _ ht1]
  refine within_ok _ ht1 (by omega) htc ?_
  have e' : (x1 ++ tm :: x2) ++ tc :: X = x1 ++ (tm :: (x2 ++ tc :: X)) := by simp
  have hop' : opT (hdT (tm :: (x2 ++ tc :: X))).text = opT (opm (m : Int)) := by
    show opT tm.text = _
    rw [htm]
  have hoc : (opT (hdT (tc :: X)).text).2 = 0 := by
    show (opT tc.text).2 = 0
    rw [htc]; decide
  rw [e', exT, f1 (n + 1) (n + 2) (o + 1) x1 _ (by omega) (by omega) (by omega) hx1 (aft_of htm o3 o4), ok_bind, loopT, hop', if_neg (by omega), List.tail_cons,
    f2 (n + 1) _ (o + 1) x2 (tc :: X) (by omega) (by omega) hx2 (aft_of htc (by decide) (by decide)) (by rw [hoc]; omega), ok_bind, o1]
  exact loop_stop _ _ _ _ _ _ (by rw [hoc]; decide)

/-- Each of them is read alone. -/
def ES.sok : ES → Prop
  | .nil => True
  | .cons op n s l r => SOK ⟨op, n, s, l⟩ (exK op n s.data.toList l.tks) (1 + l.dn) ∧ r.sok
def exs : ES → List Ex
  | .nil => []
  | .cons op n s l r => ⟨op, n, s, l⟩ :: exs r
theorem exES_exs : ∀ l : ES, exES (exs l) = l
  | .nil => rfl
  | .cons op n s l r => by rw [exs, exES, exES_exs r]; rfl
/-- The arguments behind the first one. -/
theorem more_ok : ∀ (r : ES), r.sok → ∃ N, ∀ n m o (acc : List Ex) te tc X, N ≤ n → N ≤ m → o + r.dn ≤ 256 → acc.length + r.len ≤ 8 → kts te = restK [(3, [44])] r.tks → tc.text = [41] →
    moreT (exT n 1 o) m acc (te ++ tc :: X) = .ok (acc ++ exs r) X
  | .nil, _ => ⟨1, fun n m o acc te tc X _ hm _ _ ht hc => by
    obtain rfl := kts_nil ht
    obtain ⟨m, rfl⟩ : ∃ k, m = k + 1 := ⟨m - 1, by omega⟩
    rw [List.nil_append, moreT, isT_no (by rw [hc]; decide)]
    simp only [Bool.false_eq_true, if_false]
    rw [want_ok hc, ok_bind, exs, List.append_nil]⟩
  | .cons op k s l r, ⟨h1, h2⟩ => by
    obtain ⟨N1, f1⟩ := h1.e
    obtain ⟨N2, f2⟩ := more_ok r h2
    refine ⟨N1 + N2 + 1, fun n m o acc te tc X hn hm ho hlen ht hc => ?_⟩
    obtain ⟨m, rfl⟩ : ∃ k, m = k + 1 := ⟨m - 1, by omega⟩
    have ht' : kts te = (3, [44]) :: (exK op k s.data.toList l.tks ++ restK [(3, [44])] r.tks) := by rw [ht]; simp [ES.tks, restK]
    obtain ⟨t, y, rfl, _, ht1, hy⟩ := kts_cons ht'
    obtain ⟨x1, x2, rfl, hx1, hx2⟩ := kts_split hy
    simp only at ht1
    simp only [ES.dn, ES.len] at ho hlen
    have hX : Aft (x2 ++ tc :: X) ∧ (opT (hdT (x2 ++ tc :: X)).text).2 = 0 := by
      cases r with
      | nil =>
        obtain rfl := kts_nil hx2
        exact ⟨aft_of hc (by decide) (by decide), by show (opT tc.text).2 = 0; rw [hc]; decide⟩
      | cons op' k' s' l' r' =>
        have hx2' : kts x2 = (3, [44]) :: (exK op' k' s'.data.toList l'.tks ++ restK [(3, [44])] r'.tks) := by rw [hx2]; simp [ES.tks, restK]
        obtain ⟨u, z, rfl, _, hu, _⟩ := kts_cons hx2'
        simp only at hu
        exact ⟨aft_of hu (by decide) (by decide), by show (opT u.text).2 = 0; rw [hu]; decide⟩
    rw [List.cons_append, List.append_assoc, moreT, if_pos (isT_yes ht1), if_neg (by omega), List.tail_cons, f1 n 1 o x1 _ (by omega) (by omega) hx1 hX.1 (by rw [hX.2]; decide), ok_bind,
      f2 n m o (acc ++ [Ex.mk op k s l]) x2 tc X (by omega) (by omega) (by omega) (by simp; omega) hx2 hc, exs]
    simp

theorem exK_head {op n : Int} {s : ByteArray} {l : ES} (h : fitP ⟨false, op, s, n, l, .nil, .nil⟩ = true) : ∃ t r, exK op n s.data.toList l.tks = t :: r ∧ t.2 ≠ [41] := by
  obtain ⟨m, rfl, h1, h16, hn, hlo, _⟩ := fit_in h
  by_cases h8 : 8 ≤ m
  · rw [exK_two (by omega)]
    exact ⟨_, _, rfl, by decide⟩
  · match m, h1, h8, hn, hlo with
    | 1, _, _, _, hlo => exact ⟨_, _, rfl, dig_ne (itoa_all hlo).1 (itoa_all hlo).2 (by decide)⟩
    | 2, _, _, hn, _ => exact ⟨_, _, rfl, name_ne hn (by decide)⟩
    | 3, _, _, _, _ => exact ⟨_, _, rfl, by decide⟩
    | 4, _, _, hn, _ => exact ⟨_, _, rfl, name_ne hn (by decide)⟩
    | 5, _, _, hn, _ => exact ⟨_, _, rfl, name_ne hn (by decide)⟩
    | 6, _, _, _, _ => exact ⟨_, _, rfl, by decide⟩
    | 7, _, _, _, _ => exact ⟨_, _, rfl, by decide⟩
    | m + 8, _, h, _, _ => exact absurd h (by omega)

/-- Arguments in brackets. -/
theorem args_ok (l : ES) (hok : l.ok = true) (hs : l.sok) (h8 : l.len ≤ 8) : ∃ N, ∀ n m o te t1 tc X, N ≤ n → N ≤ m → o + 1 + l.dn ≤ 256 → kts te = gapK [(3, [44])] l.tks → t1.text = [40] → tc.text = [41] →
    severalT (exT n 1 (o + 1)) m o (t1 :: (te ++ tc :: X)) = .ok (exs l) X := by
  cases l with
  | nil =>
    refine ⟨0, fun n m o te t1 tc X _ _ ho ht h1 hc => ?_⟩
    obtain rfl := kts_nil ht
    rw [severalT, enter_ok h1 (by omega), ok_bind, List.nil_append, if_pos (isT_yes hc), want_ok hc]; rfl
  | cons op k s l r =>
    obtain ⟨f1, f2⟩ := hs
    obtain ⟨N1, f1⟩ := f1.e
    obtain ⟨N2, f2⟩ := more_ok r f2
    refine ⟨N1 + N2 + 1, fun n m o te t1 tc X hn hm ho ht h1 hc => ?_⟩
    simp only [ES.ok, Bool.and_eq_true] at hok
    obtain ⟨hd, hr, hk, hne⟩ := exK_head hok.1.1
    have ht' : kts te = exK op k s.data.toList l.tks ++ restK [(3, [44])] r.tks := ht
    obtain ⟨x1, x2, rfl, hx1, hx2⟩ := kts_split ht'
    simp only [ES.dn, ES.len] at ho h8
    have hX : Aft (x2 ++ tc :: X) ∧ (opT (hdT (x2 ++ tc :: X)).text).2 = 0 := by
      cases r with
      | nil =>
        obtain rfl := kts_nil hx2
        exact ⟨aft_of hc (by decide) (by decide), by show (opT tc.text).2 = 0; rw [hc]; decide⟩
      | cons op' k' s' l' r' =>
        have hx2' : kts x2 = (3, [44]) :: (exK op' k' s'.data.toList l'.tks ++ restK [(3, [44])] r'.tks) := by rw [hx2]; simp [ES.tks, restK]
        obtain ⟨u, z, rfl, _, hu, _⟩ := kts_cons hx2'
        simp only at hu
        exact ⟨aft_of hu (by decide) (by decide), by show (opT u.text).2 = 0; rw [hu]; decide⟩
    have hfirst : isT (x1 ++ (x2 ++ tc :: X)) [41] = false := by
      rw [hk] at hx1
      obtain ⟨u, z, rfl, _, hu, _⟩ := kts_cons hx1
      exact isT_no (by rw [hu]; exact hne)
    rw [severalT, enter_ok h1 (by omega), ok_bind, List.append_assoc, hfirst]
    simp only [Bool.false_eq_true, if_false]
    rw [f1 n 1 (o + 1) x1 _ (by omega) (by omega) hx1 hX.1 (by rw [hX.2]; decide), ok_bind, f2 n m (o + 1) [Ex.mk op k s l] x2 tc X (by omega) (by omega) (by omega) (by simp; omega) hx2 hc]
    rfl
end Go.Proofs.YtppagjhmlgkamaaGreatDoor
