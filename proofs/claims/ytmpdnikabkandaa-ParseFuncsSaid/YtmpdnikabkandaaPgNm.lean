/-
  ParseBinds, plain: what Parse tells of two operations of two between three numbers.
-/
import Derived.Test.YtmpdnikabkandaaPq5
import Derived.Test.YtmpdnikabkandaaPeNm
namespace Go.Proofs.Ytmpdnikabkandaa
open Go Go.RowKit

theorem lex_digits {D : List UInt8} (h0 : D ≠ []) (hD : ∀ d ∈ D, digB (bv d) = true) (p : Nat) (c : UInt8) (z : List UInt8) (hc : inwB (bv c) = false) : lexS p (D ++ c :: z) = (lexS (p + D.length) (c :: z)).cons ⟨2, D, p⟩ := by
  cases D with
  | nil => exact absurd rfl h0
  | cons d r =>
    have hd := hD d (by simp)
    have hd2 : 48 ≤ bv d ∧ bv d ≤ 57 := of_decide_eq_true hd
    have hl : letB (bv d) = false := decide_eq_false (by omega)
    have hb : blkB (bv d) = false := by
      unfold blkB
      simp only [Bool.or_eq_false_iff, beq_eq_false_iff_ne]
      omega
    have h35 : d ≠ 35 := by
      rintro rfl
      have : bv 35 = 35 := by decide
      omega
    obtain ⟨c1, c2, c3⟩ := inw_no hc
    have hall : ∀ l : List UInt8, (∀ x ∈ l, digB (bv x) = true) → reachL digB l = l.length := by
      intro l
      induction l with
      | nil => intro _; rfl
      | cons x l ih => intro h; rw [reachL_cons, if_pos (h x (by simp)), ih (fun y hy => h y (by simp [hy]))]; rfl
    have hr : reachL digB (d :: (r ++ c :: z)) = (d :: r).length := by
      have := reachL_app digB (c :: z) (reachL_no ⟨c, z, rfl, c2⟩) (d :: r)
      rw [List.cons_append] at this
      rw [this, hall _ hD]
    have hk : firstK (d :: (r ++ c :: z)) = 2 := by rw [firstK_cons, hl, hd]; rfl
    have hn : firstN (d :: (r ++ c :: z)) = (d :: r).length := by rw [firstN_cons, hl, hd]; simpa using hr
    have hg : glued (d :: (r ++ c :: z)) (d :: r).length = false := by
      unfold glued
      have e : nth (d :: (r ++ c :: z)) (d :: r).length = bv c := by
        unfold nth
        rw [← List.cons_append, List.getD_eq_getElem?_getD, List.getElem?_append_right (Nat.le_refl _)]
        simp
      rw [e, c1, c3]
      simp
    rw [List.cons_append, lexS_tok hb h35 (by rw [hk]; omega) (by rw [hk, hn, hg]; simp), hk, hn]
    rw [← List.cons_append, List.drop_left, List.take_left]
theorem dg_digits : ∀ m : Fin 100, (dg m.val).all (fun d => digB (bv d)) = true := by decide
theorem lex_num {x : Nat} (hx : x < 100) (p : Nat) (c : UInt8) (z : List UInt8) (hc : inwB (bv c) = false) : lexS p (dg x ++ c :: z) = (lexS (p + (dg x).length) (c :: z)).cons ⟨2, dg x, p⟩ := by
  refine lex_digits ?_ (fun d hd => ?_) p c z hc
  · unfold dg; split <;> simp
  · exact (List.all_eq_true.1 (dg_digits ⟨x, hx⟩)) d hd
/-- The marks of the operations of two, their numbers, and how strongly they bind. -/
def mkL : List (List UInt8) := [[43], [45], [42], [47], [37], [60], [61, 61], [38], [124]]
def mkB (a : Nat) : List UInt8 := mkL.getD a []
def opN (a : Nat) : Int := 8 + a
def lvL : List Nat := [4, 4, 5, 5, 5, 3, 3, 2, 1]
def lv (a : Nat) : Nat := lvL.getD a 0
theorem mk_op : ∀ a : Fin 9, opT (mkB a.val) = (opN a.val, lv a.val) := by decide
theorem lv_pos : ∀ a : Fin 9, 1 ≤ lv a.val := by decide
theorem lex_eqs (p : Nat) (r : List UInt8) : lexS p (61 :: 61 :: r) = (lexS (p + 2) r).cons ⟨3, [61, 61], p⟩ := by
  have hk : firstK (61 :: 61 :: r) = 3 := rfl
  have hn : firstN (61 :: 61 :: r) = 2 := rfl
  rw [lexS_tok (by decide) (by decide) (by rw [hk]; omega) (by rw [hk]; omega), hk, hn]
  rfl
theorem lex_mk {a : Nat} (ha : a < 9) (p : Nat) (z : List UInt8) : lexS p (mkB a ++ z) = (lexS (p + (mkB a).length) z).cons ⟨3, mkB a, p⟩ := by
  have h : a = 0 ∨ a = 1 ∨ a = 2 ∨ a = 3 ∨ a = 4 ∨ a = 5 ∨ a = 6 ∨ a = 7 ∨ a = 8 := by omega
  rcases h with rfl | rfl | rfl | rfl | rfl | rfl | rfl | rfl | rfl
  all_goals first
    | exact lex_eqs p z
    | exact lex_mark (by decide) (by decide) (by decide) (by decide) (by decide) (by decide) p z
theorem mk_head {a : Nat} (ha : a < 9) : ∃ c r, mkB a = c :: r ∧ inwB (bv c) = false := by
  have h : a = 0 ∨ a = 1 ∨ a = 2 ∨ a = 3 ∨ a = 4 ∨ a = 5 ∨ a = 6 ∨ a = 7 ∨ a = 8 := by omega
  rcases h with rfl | rfl | rfl | rfl | rfl | rfl | rfl | rfl | rfl <;> exact ⟨_, _, rfl, by decide⟩
theorem lex_num_mk {x a : Nat} (hx : x < 100) (ha : a < 9) (p : Nat) (z : List UInt8) : lexS p (dg x ++ (mkB a ++ z)) = (lexS (p + (dg x).length) (mkB a ++ z)).cons ⟨2, dg x, p⟩ := by
  obtain ⟨c, r, e, hc⟩ := mk_head ha
  rw [e, List.cons_append]
  exact lex_num hx p c _ hc

def numE (x : Nat) : Ex := ⟨1, x, nilS, .nil⟩
def twoE (a : Nat) (e f : Ex) : Ex := ⟨opN a, 0, nilS, toES e (toES f .nil)⟩
theorem dg_no : ∀ m : Fin 100, dg m.val ≠ [45] ∧ dg m.val ≠ [33] ∧ dg m.val ≠ [40] ∧ dg m.val ≠ [99, 108, 111, 99, 107] ∧ parseL (dg m.val) = some (m.val : Int) := by decide
theorem single_num (ex : Nat → Nat → List Tok → PR Ex) (m o p : Nat) (X : List Tok) {x : Nat} (hx : x < 100) : singleT ex (m + 1) o (⟨2, dg x, p⟩ :: X) = .ok (numE x) X := by
  obtain ⟨h1, h2, h3, h4, h5⟩ := dg_no ⟨x, hx⟩
  have e : numT 0 9223372036854775807 (⟨2, dg x, p⟩ :: X) = .ok (x : Int) X := by
    unfold numT
    rw [if_pos (show (hdT (⟨2, dg x, p⟩ :: X)).kind = 2 from rfl), show parseL (hdT (⟨2, dg x, p⟩ :: X)).text = some (x : Int) from h5]
    show (if (x : Int) < 0 ∨ 9223372036854775807 < (x : Int) then _ else _ : PR Int) = _
    rw [if_neg (by omega)]
    rfl
  unfold singleT
  rw [isT_cons, isT_cons, isT_cons, isT_cons, if_neg (by rw [decide_eq_false h1]; decide), if_neg (by rw [decide_eq_false h2]; decide), if_neg (by rw [decide_eq_false h3]; decide), if_neg (by rw [decide_eq_false h4]; decide), if_pos (show (hdT (⟨2, dg x, p⟩ :: X)).kind = 2 from rfl), e]
  rfl
theorem loop_stop (ex : Nat → Nat → List Tok → PR Ex) (m least : Nat) (e : Ex) (o : Nat) (X : List Tok) (hX : (opT (hdT X).text).2 < least) : loopT ex (m + 1) least e o X = .ok e X := by
  unfold loopT
  rw [if_pos hX]
theorem loop_step (ex : Nat → Nat → List Tok → PR Ex) (m least : Nat) (e : Ex) (o p : Nat) (X : List Tok) {a : Nat} (ha : a < 9) (hl : least ≤ lv a) :
    loopT ex (m + 1) least e o (⟨3, mkB a, p⟩ :: X) = (ex (lv a + 1) o X).bind fun e2 r => loopT ex m least (twoE a e e2) o r := by
  have h : opT (hdT (⟨3, mkB a, p⟩ :: X)).text = (opN a, lv a) := mk_op ⟨a, ha⟩
  rw [loopT, h]
  dsimp only
  rw [if_neg (by omega)]
  rfl
theorem stop_mk {a least p : Nat} {X : List Tok} (ha : a < 9) (h : lv a < least) : (opT (hdT (⟨3, mkB a, p⟩ :: X)).text).2 < least := by
  rw [show opT (hdT (⟨3, mkB a, p⟩ :: X)).text = (opN a, lv a) from mk_op ⟨a, ha⟩]; exact h
/-- A number, and behind it what binds less. -/
theorem ex_num (f least o p : Nat) (X : List Tok) {x : Nat} (hx : x < 100) (hX : (opT (hdT X).text).2 < least) : exT (f + 1) least o (⟨2, dg x, p⟩ :: X) = .ok (numE x) X := by
  show (singleT (exT f) (f + 1) o _).bind _ = _
  rw [single_num _ _ _ _ _ hx, ok_bind]
  exact loop_stop _ _ _ _ _ _ hX
/-- A number, an operation, a number, and behind it what binds less. -/
theorem ex_pair (f least o p p2 p3 : Nat) (X : List Tok) {x y a : Nat} (hx : x < 100) (hy : y < 100) (ha : a < 9) (hl : least ≤ lv a) (h1 : 1 ≤ least) (hX : (opT (hdT X).text).2 = 0) :
    exT (f + 3) least o (⟨2, dg x, p⟩ :: ⟨3, mkB a, p2⟩ :: ⟨2, dg y, p3⟩ :: X) = .ok (twoE a (numE x) (numE y)) X := by
  show (singleT (exT (f + 2)) (f + 3) o _).bind _ = _
  rw [single_num _ _ _ _ _ hx, ok_bind]
  show loopT _ (f + 2 + 1) _ _ _ _ = _
  rw [loop_step _ _ _ _ _ _ _ ha hl, ex_num (f + 1) _ _ _ _ hy (by rw [hX]; omega), ok_bind]
  exact loop_stop _ _ _ _ _ _ (by rw [hX]; omega)
theorem ex_brack (f o p p4 : Nat) (R Y : List Tok) {e : Ex} (ho : o < 256) (hR : exT (f + 1) 1 (o + 1) R = .ok e (⟨3, [41], p4⟩ :: Y)) (m : Nat) : singleT (exT (f + 1)) (m + 1) o (⟨3, [40], p⟩ :: R) = .ok e Y := by
  unfold singleT
  rw [isT_cons, isT_cons, isT_cons, if_neg (by decide), if_neg (by decide), if_pos (by decide)]
  unfold withinT enterT
  rw [isT_cons, if_pos (by decide), if_neg (show ¬ o = 256 by omega), ok_bind]
  rw [List.tail_cons, hR, ok_bind]
  unfold wantT
  rw [isT_cons, if_pos (by decide)]
  rfl
section
variable {x y z a b : Nat} (hx : x < 100) (hy : y < 100) (hz : z < 100) (ha : a < 9) (hb : b < 9)
include hx hy hz ha hb
theorem ex_plain_l (f p1 p2 p3 p4 p5 : Nat) (X : List Tok) (hX : (opT (hdT X).text).2 = 0) (h : lv b ≤ lv a) :
    exT (f + 4) 1 0 (⟨2, dg x, p1⟩ :: ⟨3, mkB a, p2⟩ :: ⟨2, dg y, p3⟩ :: ⟨3, mkB b, p4⟩ :: ⟨2, dg z, p5⟩ :: X) = .ok (twoE b (twoE a (numE x) (numE y)) (numE z)) X := by
  show (singleT (exT (f + 3)) (f + 4) 0 _).bind _ = _
  rw [single_num _ _ _ _ _ hx, ok_bind]
  show loopT _ (f + 3 + 1) _ _ _ _ = _
  rw [loop_step _ _ _ _ _ _ _ ha (lv_pos ⟨a, ha⟩), ex_num (f + 2) _ _ _ _ hy (stop_mk hb (by omega)), ok_bind]
  show loopT _ (f + 2 + 1) _ _ _ _ = _
  rw [loop_step _ _ _ _ _ _ _ hb (lv_pos ⟨b, hb⟩), ex_num (f + 2) _ _ _ _ hz (by rw [hX]; omega), ok_bind]
  exact loop_stop _ _ _ _ _ _ (by rw [hX]; omega)
theorem ex_plain_r (f p1 p2 p3 p4 p5 : Nat) (X : List Tok) (hX : (opT (hdT X).text).2 = 0) (h : lv a < lv b) :
    exT (f + 4) 1 0 (⟨2, dg x, p1⟩ :: ⟨3, mkB a, p2⟩ :: ⟨2, dg y, p3⟩ :: ⟨3, mkB b, p4⟩ :: ⟨2, dg z, p5⟩ :: X) = .ok (twoE a (numE x) (twoE b (numE y) (numE z))) X := by
  show (singleT (exT (f + 3)) (f + 4) 0 _).bind _ = _
  rw [single_num _ _ _ _ _ hx, ok_bind]
  show loopT _ (f + 3 + 1) _ _ _ _ = _
  rw [loop_step _ _ _ _ _ _ _ ha (lv_pos ⟨a, ha⟩), ex_pair f _ _ _ _ _ _ hy hz hb (by omega) (by omega) hX, ok_bind]
  exact loop_stop _ _ _ _ _ _ (by rw [hX]; omega)
theorem ex_left (f p0 p1 p2 p3 p6 p4 p5 : Nat) (X : List Tok) (hX : (opT (hdT X).text).2 = 0) :
    exT (f + 4) 1 0 (⟨3, [40], p0⟩ :: ⟨2, dg x, p1⟩ :: ⟨3, mkB a, p2⟩ :: ⟨2, dg y, p3⟩ :: ⟨3, [41], p6⟩ :: ⟨3, mkB b, p4⟩ :: ⟨2, dg z, p5⟩ :: X) = .ok (twoE b (twoE a (numE x) (numE y)) (numE z)) X := by
  show (singleT (exT (f + 3)) (f + 4) 0 _).bind _ = _
  rw [ex_brack (f + 2) 0 _ _ _ _ (by omega) (ex_pair f 1 1 _ _ _ (⟨3, [41], p6⟩ :: _) hx hy ha (lv_pos ⟨a, ha⟩) (Nat.le_refl _) (by show (opT [41]).2 = 0; decide)), ok_bind]
  show loopT _ (f + 3 + 1) _ _ _ _ = _
  rw [loop_step _ _ _ _ _ _ _ hb (lv_pos ⟨b, hb⟩), ex_num (f + 2) _ _ _ _ hz (by rw [hX]; omega), ok_bind]
  exact loop_stop _ _ _ _ _ _ (by rw [hX]; omega)
theorem ex_right (f p0 p1 p2 p3 p6 p4 p5 : Nat) (X : List Tok) (hX : (opT (hdT X).text).2 = 0) :
    exT (f + 5) 1 0 (⟨2, dg x, p1⟩ :: ⟨3, mkB a, p2⟩ :: ⟨3, [40], p0⟩ :: ⟨2, dg y, p3⟩ :: ⟨3, mkB b, p4⟩ :: ⟨2, dg z, p5⟩ :: ⟨3, [41], p6⟩ :: X) = .ok (twoE a (numE x) (twoE b (numE y) (numE z))) X := by
  show (singleT (exT (f + 4)) (f + 5) 0 _).bind _ = _
  rw [single_num _ _ _ _ _ hx, ok_bind]
  show loopT _ (f + 4 + 1) _ _ _ _ = _
  have hin : exT (f + 4) (lv a + 1) 0 (⟨3, [40], p0⟩ :: ⟨2, dg y, p3⟩ :: ⟨3, mkB b, p4⟩ :: ⟨2, dg z, p5⟩ :: ⟨3, [41], p6⟩ :: X) = .ok (twoE b (numE y) (numE z)) X := by
    show (singleT (exT (f + 3)) (f + 4) 0 _).bind _ = _
    rw [ex_brack (f + 2) 0 _ _ _ _ (by omega) (ex_pair f 1 1 _ _ _ (⟨3, [41], p6⟩ :: _) hy hz hb (lv_pos ⟨b, hb⟩) (Nat.le_refl _) (by show (opT [41]).2 = 0; decide)), ok_bind]
    exact loop_stop _ _ _ _ _ _ (by rw [hX]; omega)
  rw [loop_step _ _ _ _ _ _ _ ha (lv_pos ⟨a, ha⟩), hin, ok_bind]
  exact loop_stop _ _ _ _ _ _ (by rw [hX]; omega)

def tPl (x y z a b : Nat) : List UInt8 := [112, 114, 105, 110, 116, 32] ++ dg x ++ [32] ++ mkB a ++ [32] ++ dg y ++ [32] ++ mkB b ++ [32] ++ dg z ++ [59]
def tLe (x y z a b : Nat) : List UInt8 := [112, 114, 105, 110, 116, 32, 40] ++ dg x ++ mkB a ++ dg y ++ [41] ++ mkB b ++ dg z ++ [59]
def tRi (x y z a b : Nat) : List UInt8 := [112, 114, 105, 110, 116, 32] ++ dg x ++ mkB a ++ [40] ++ dg y ++ mkB b ++ dg z ++ [41, 59]
def eLe (x y z a b : Nat) : Ex := twoE b (twoE a (numE x) (numE y)) (numE z)
def eRi (x y z a b : Nat) : Ex := twoE a (numE x) (twoE b (numE y) (numE z))
def pE (e : Ex) : Pg := ⟨[], .cons 5 nilS 0 (toES e .nil) .nil .nil .nil⟩
omit hx hy hz ha hb in
theorem le_deep : (toES (eLe x y z a b) .nil).deep = 3 := by
  simp only [eLe, twoE, numE, toES, ES.deep, wrap_def]; rfl
omit hx hy hz ha hb in
theorem ri_deep : (toES (eRi x y z a b) .nil).deep = 3 := by
  simp only [eRi, twoE, numE, toES, ES.deep, wrap_def]; rfl
theorem plain_toks : ∃ p1 p2 p3 p4 p5 p6, lexS 0 (tPl x y z a b) = .ok [⟨1, [112, 114, 105, 110, 116], 0⟩, ⟨2, dg x, p1⟩, ⟨3, mkB a, p2⟩, ⟨2, dg y, p3⟩, ⟨3, mkB b, p4⟩, ⟨2, dg z, p5⟩, ⟨3, [59], p6⟩] := by
  have e : tPl x y z a b = [112, 114, 105, 110, 116] ++ 32 :: (dg x ++ 32 :: (mkB a ++ 32 :: (dg y ++ 32 :: (mkB b ++ 32 :: (dg z ++ 59 :: []))))) := by unfold tPl; simp
  iterate 6 apply Exists.intro
  rw [e, lex_print, lex_num hx _ _ _ (by decide), lexS_blank (by decide), lex_mk ha, lexS_blank (by decide), lex_num hy _ _ _ (by decide), lexS_blank (by decide), lex_mk hb, lexS_blank (by decide), lex_num hz _ _ _ (by decide), lex_59, lexS_nil]
  rfl
theorem left_toks : ∃ p0 p1 p2 p3 p4 p5 p6 p7, lexS 0 (tLe x y z a b) = .ok [⟨1, [112, 114, 105, 110, 116], 0⟩, ⟨3, [40], p0⟩, ⟨2, dg x, p1⟩, ⟨3, mkB a, p2⟩, ⟨2, dg y, p3⟩, ⟨3, [41], p4⟩, ⟨3, mkB b, p5⟩, ⟨2, dg z, p6⟩, ⟨3, [59], p7⟩] := by
  have e : tLe x y z a b = [112, 114, 105, 110, 116] ++ 32 :: (40 :: (dg x ++ (mkB a ++ (dg y ++ 41 :: (mkB b ++ (dg z ++ 59 :: [])))))) := by unfold tLe; simp
  iterate 8 apply Exists.intro
  rw [e, lex_print, lex_40, lex_num_mk hx ha, lex_mk ha, lex_num hy _ _ _ (by decide), lex_41, lex_mk hb, lex_num hz _ _ _ (by decide), lex_59, lexS_nil]
  rfl
theorem right_toks : ∃ p0 p1 p2 p3 p4 p5 p6 p7, lexS 0 (tRi x y z a b) = .ok [⟨1, [112, 114, 105, 110, 116], 0⟩, ⟨2, dg x, p1⟩, ⟨3, mkB a, p2⟩, ⟨3, [40], p0⟩, ⟨2, dg y, p3⟩, ⟨3, mkB b, p4⟩, ⟨2, dg z, p5⟩, ⟨3, [41], p6⟩, ⟨3, [59], p7⟩] := by
  have e : tRi x y z a b = [112, 114, 105, 110, 116] ++ 32 :: (dg x ++ (mkB a ++ 40 :: (dg y ++ (mkB b ++ (dg z ++ 41 :: (59 :: [])))))) := by unfold tRi; simp
  iterate 8 apply Exists.intro
  rw [e, lex_print, lex_num_mk hx ha, lex_mk ha, lex_40, lex_num_mk hy hb, lex_mk hb, lex_num hz _ _ _ (by decide), lex_41, lex_59, lexS_nil]
  rfl
theorem plain_is : ∃ r, tl (tPl x y z a b) = .ok (pE (if lv b ≤ lv a then eLe x y z a b else eRi x y z a b)) r := by
  obtain ⟨p1, p2, p3, p4, p5, p6, h⟩ := plain_toks hx hy hz ha hb
  apply Exists.intro
  unfold tl
  rw [h]
  show progT (7 + 2) (⟨1, [112, 114, 105, 110, 116], 0⟩ :: _) = _
  by_cases hl : lv b ≤ lv a
  · rw [if_pos hl]
    exact print_ok 7 _ (eLe x y z a b) _ _ (ex_plain_l hx hy hz ha hb 5 _ _ _ _ _ _ (by show (opT [59]).2 = 0; decide) hl) (by rw [le_deep]; decide) (by rw [le_deep]; decide)
  · rw [if_neg hl]
    exact print_ok 7 _ (eRi x y z a b) _ _ (ex_plain_r hx hy hz ha hb 5 _ _ _ _ _ _ (by show (opT [59]).2 = 0; decide) (by omega)) (by rw [ri_deep]; decide) (by rw [ri_deep]; decide)
theorem left_is : ∃ r, tl (tLe x y z a b) = .ok (pE (eLe x y z a b)) r := by
  obtain ⟨p0, p1, p2, p3, p4, p5, p6, p7, h⟩ := left_toks hx hy hz ha hb
  apply Exists.intro
  unfold tl
  rw [h]
  exact print_ok 9 _ (eLe x y z a b) _ _ (ex_left hx hy hz ha hb 7 _ _ _ _ _ _ _ _ (by show (opT [59]).2 = 0; decide)) (by rw [le_deep]; decide) (by rw [le_deep]; decide)
theorem right_is : ∃ r, tl (tRi x y z a b) = .ok (pE (eRi x y z a b)) r := by
  obtain ⟨p0, p1, p2, p3, p4, p5, p6, p7, h⟩ := right_toks hx hy hz ha hb
  apply Exists.intro
  unfold tl
  rw [h]
  exact print_ok 9 _ (eRi x y z a b) _ _ (ex_right hx hy hz ha hb 6 _ _ _ _ _ _ _ _ (by show (opT [59]).2 = 0; decide)) (by rw [ri_deep]; decide) (by rw [ri_deep]; decide)
end
theorem le_ne_ri {x y z a b : Nat} (ha : a < 9) : pE (eLe x y z a b) ≠ pE (eRi x y z a b) := by
  intro h
  simp only [pE, Pg.mk.injEq, SS.cons.injEq, eLe, eRi, twoE, numE, toES, ES.cons.injEq, opN] at h
  omega
end Go.Proofs.Ytmpdnikabkandaa
