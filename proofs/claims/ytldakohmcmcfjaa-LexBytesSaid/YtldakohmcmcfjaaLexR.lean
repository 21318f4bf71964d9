/-
  Lex's contract in its callers' words: the tokens as a row of cells; a frame that is said from the statement's own entry world; how lexS is reckoned at known bytes.
-/
import Derived.Test.YtldakohmcmcfjaaLexL
import Derived.Laws.OwnMore
import Derived.Laws.Rows
namespace Go.Proofs.Ytldakohmcmcfjaa
open Go Go.RowKit Go.Lib

/- lexS with a count of steps, for known bytes. -/
def lexF : Nat → Nat → List UInt8 → Res
  | 0, _, _ => .ok []
  | _ + 1, _, [] => .ok []
  | f + 1, p, c :: r =>
    if blkB (bv c) then lexF f (p + 1) r
    else if c = 35 then lexF f (p + commL (c :: r)) ((c :: r).drop (commL (c :: r)))
    else if firstK (c :: r) = 0 ∨ (firstK (c :: r) = 1 ∧ 32 < firstN (c :: r)) then .bad p
    else if firstK (c :: r) = 2 ∧ glued (c :: r) (firstN (c :: r)) = true then .bad (p + firstN (c :: r))
    else (lexF f (p + firstN (c :: r)) ((c :: r).drop (firstN (c :: r)))).cons ⟨firstK (c :: r), (c :: r).take (firstN (c :: r)), p⟩
theorem lexS_eq : ∀ (f p : Nat) (l : List UInt8), l.length ≤ f → lexS p l = lexF f p l
  | 0, p, l, h => by
    obtain rfl : l = [] := List.eq_nil_of_length_eq_zero (by omega)
    rw [lexS_nil]; rfl
  | f + 1, p, [], _ => by rw [lexS_nil]; rfl
  | f + 1, p, c :: r, h => by
    simp only [List.length_cons] at h
    rw [lexS, lexF]
    by_cases h1 : blkB (bv c) = true
    · rw [if_pos h1, if_pos h1, lexS_eq f _ _ (by omega)]
    · rw [if_neg h1, if_neg h1]
      by_cases h2 : c = 35
      · have : commL (c :: r) = commL r + 1 := by rw [commL_cons, if_neg (by rw [h2]; decide)]
        rw [if_pos h2, if_pos h2, lexS_eq f _ _ (by simp only [List.length_drop, List.length_cons]; omega)]
      · rw [if_neg h2, if_neg h2]
        by_cases h3 : firstK (c :: r) = 0 ∨ (firstK (c :: r) = 1 ∧ 32 < firstN (c :: r))
        · rw [if_pos h3, if_pos h3]
        · rw [if_neg h3, if_neg h3]
          have := firstN_pos (c := c) (l := r) (fun e => h3 (.inl e))
          split
          · rfl
          · rw [lexS_eq f _ _ (by simp only [List.length_drop, List.length_cons]; omega)]

/-- Nothing of w0 has turned. -/
def Fr (w0 w : World) : Prop := Below w0.heap.size w0 w
theorem Fr.refl (w : World) : Fr w w := Below.refl _ _
theorem Fr.below {w0 w w' : World} (h : Fr w0 w) (hb : Below w.heap.size w w') : Fr w0 w' := Below.trans h (hb.mono h.size)
theorem Fr.alloc {w0 w : World} (h : Fr w0 w) (o : Obj) : Fr w0 (w.alloc o) := Below.alloc h h.size o
theorem Fr.size {w0 w : World} (h : Fr w0 w) : w0.heap.size ≤ w.heap.size := Below.size h

/-- Tokens in a block of memory. -/
def TokRow (w : World) (g : Nat) (ts : List Tok) : Prop :=
  g < w.heap.size ∧ ∀ i t, ts[i]? = some t → w.cell? ⟨g, i * 3, none⟩ = some (.int .i64 t.kind) ∧ w.cell? ⟨g, i * 3 + 1, none⟩ = some (.string ⟨t.text.toArray⟩) ∧ w.cell? ⟨g, i * 3 + 2, none⟩ = some (.int .i64 t.at_)
theorem TokRow.below {w w' : World} {g B : Nat} {ts : List Tok} (h : TokRow w g ts) (hb : Below B w w') (hg : g < B) : TokRow w' g ts := by
  refine ⟨Nat.lt_of_lt_of_le h.1 hb.size, fun i t ht => ?_⟩
  obtain ⟨a, b, c⟩ := h.2 i t ht
  exact ⟨(hb.cell hg).trans a, (hb.cell hg).trans b, (hb.cell hg).trans c⟩
theorem TokRow.alloc {w : World} {g : Nat} {ts : List Tok} (h : TokRow w g ts) (o : Obj) : TokRow (w.alloc o) g ts :=
  h.below (B := w.heap.size) ((Below.refl _ w).alloc (Nat.le_refl _) o) h.1
theorem TokRow.past {w w' : World} {g : Nat} {ts : List Tok} (h : TokRow w g ts) (hb : Below w.heap.size w w') : TokRow w' g ts := h.below hb h.1

theorem toks_at : ∀ (ts : List Tok) (i : Nat) (t : Tok), ts[i]? = some t → (toks ts)[i * 3]? = some (.int .i64 t.kind) ∧ (toks ts)[i * 3 + 1]? = some (.string ⟨t.text.toArray⟩) ∧ (toks ts)[i * 3 + 2]? = some (.int .i64 t.at_)
  | [], i, t, h => by simp at h
  | s :: ts, 0, t, h => by
    have : s = t := by simpa using h
    subst this
    exact ⟨rfl, rfl, rfl⟩
  | s :: ts, i + 1, t, h => by
    have ih := toks_at ts i t (by simpa using h)
    have e : toks (s :: ts) = .int .i64 s.kind :: .string ⟨s.text.toArray⟩ :: .int .i64 s.at_ :: toks ts := by simp [toks]
    rw [e]
    rw [show (i + 1) * 3 = i * 3 + 3 by omega]
    exact ih
theorem row_of_own {w : World} {B n : Nat} {v : Value} {ts : List Tok} (h : w.ownsRow B 32 3 v n (toks ts)) (hn : 0 < n) : ∃ g cap, v = .slice (some ⟨g, 0, none⟩) n cap ∧ B ≤ g ∧ n ≤ cap ∧ TokRow w g ts := by
  rcases h.2 with ⟨rfl, rfl⟩ | ⟨g, cap, cur, rfl, hg, hh, hnc, hrest⟩
  · omega
  · have hlt := h.lt g rfl
    refine ⟨g, cap, rfl, hg, hnc, hlt.2, fun i t ht => ?_⟩
    have hc := h.cells (g := g) rfl
    have e : ∀ j, (⟨g, 0, none⟩ : Addr).add j = ⟨g, j, none⟩ := fun j => by unfold Addr.add; split <;> simp_all
    obtain ⟨a1, a2, a3⟩ := toks_at ts i t ht
    exact ⟨by rw [← e]; exact hc _ _ a1, by rw [← e]; exact hc _ _ a2, by rw [← e]; exact hc _ _ a3⟩

/-- The end behind the tokens. -/
def fin (ts : List Tok) (n : Nat) : List Tok := ts ++ [⟨4, [], n⟩]
theorem fin_length (ts : List Tok) (n : Nat) : (fin ts n).length = ts.length + 1 := by simp [fin]

theorem lex_ok (A : Option Addr) (n cap m : Nat) (l : List UInt8) (ts : List Tok) (w : World) (hn : l.length = n) (hl : n ≤ 65536) (hcap : n ≤ cap) (hr : Row w A l) (hok : lexS 0 l = .ok ts) (hm : ts.length + 1 = m) :
    Calls Try.prog 11 #[.slice A n cap] w fun e w' => ∃ g cap', e = .returned (.tuple #[.slice (some ⟨g, 0, none⟩) m cap', .int .i64 0, .int .i64 0]) ∧ w.heap.size ≤ g ∧ m ≤ cap' ∧ TokRow w' g (fin ts n) ∧ Below w.heap.size w w' :=
  (lex_any A n cap l w hn (by omega) hcap hr).mono fun e w' ⟨hb, h⟩ => by
    subst hm
    rcases h with ⟨p, h1, _⟩ | ⟨ts', v, h1, h2, h3⟩
    · rw [hok] at h1; cases h1
    · rw [hok] at h1
      injection h1 with h1
      subst h1
      obtain ⟨g, cap', rfl, h4, h5, h6⟩ := row_of_own h3 (by omega)
      subst hn
      exact ⟨g, cap', h2, h4, h5, h6, hb⟩
theorem lex_no (A : Option Addr) (n cap : Nat) (l : List UInt8) (p : Nat) (w : World) (hn : l.length = n) (hl : n ≤ 65536) (hcap : n ≤ cap) (hr : Row w A l) (hok : lexS 0 l = .bad p) :
    Calls Try.prog 11 #[.slice A n cap] w fun e w' => e = .returned (.tuple #[.slice none 0 0, .int .i64 p, .int .i64 2]) ∧ Below w.heap.size w w' :=
  (lex_any A n cap l w hn (by omega) hcap hr).mono fun e w' ⟨hb, h⟩ => by
    rcases h with ⟨q, h1, h2⟩ | ⟨ts', v, h1, _⟩
    · rw [hok] at h1
      injection h1 with h1
      subst h1
      exact ⟨h2, hb⟩
    · rw [hok] at h1; cases h1

/-- A row of known bytes, just made. -/
theorem row_new (w : World) (l : List UInt8) (cs : Array Value) (t : TypeId) {fz : Nat × Nat} (hcs : cs = (l.map fun c => Value.int .u8 (bv c)).toArray) : Row (w.alloc (.cells cs t fz)) (some ⟨w.heap.size, 0, none⟩) l := by
  intro _
  refine ⟨w.heap.size, 0, rfl, by simp, fun i hi => ?_⟩
  subst hcs
  unfold nth
  rw [List.getD_eq_getElem?_getD, List.getElem?_eq_getElem hi, cell_of_row _ _ _ _ _ _ (heap_alloc_new w _)]
  simp [hi]

end Go.Proofs.Ytldakohmcmcfjaa
