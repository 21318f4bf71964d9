/-
  ParseBlanks: what the walk needs.
-/
import Derived.Test.YtmpdnikabkandaaPq5
import Derived.Test.YtmpdnikabkandaaPdFm
import Derived.Test.YtmpdnikabkandaaPdQm
import Derived.Test.YtmpdnikabkandaaInm
import Derived.Test.YtmpdnikabkandaaTreeUm
namespace Go.Proofs.Ytmpdnikabkandaa
open Go Go.RowKit Go.Lib

def sepsL : List (List UInt8) := [[32], [10], [9], [35, 32, 99, 10], [13, 10]]
def sepL (k : Nat) : List UInt8 := sepsL.getD k []
theorem sep_is {k : Nat} (h : k < 5) : Sep (sepL k) ∧ (sepL k).length ≤ 4 := by
  have h5 : k = 0 ∨ k = 1 ∨ k = 2 ∨ k = 3 ∨ k = 4 := by omega
  rcases h5 with rfl | rfl | rfl | rfl | rfl
  · exact ⟨sep_32, by decide⟩
  · exact ⟨sep_10, by decide⟩
  · exact ⟨sep_9, by decide⟩
  · exact ⟨sep_35, by decide⟩
  · exact ⟨sep_13, by decide⟩
abbrev OS : Obj := (.cells #[.string ⟨#[32]⟩, .string ⟨#[10]⟩, .string ⟨#[9]⟩, .string ⟨#[35, 32, 99, 10]⟩, .string ⟨#[13, 10]⟩] 9)
theorem sep_cell (w : World) {k : Nat} (h : k < 5) : (w.alloc OS).cell? ⟨w.heap.size, k, none⟩ = some (.string (baT (sepL k))) := by
  rw [World.cell?_alloc_mark]
  have h5 : k = 0 ∨ k = 1 ∨ k = 2 ∨ k = 3 ∨ k = 4 := by omega
  rcases h5 with rfl | rfl | rfl | rfl | rfl <;> rfl
theorem baT_app (a b : List UInt8) : baT a ++ baT b = baT (a ++ b) := ByteArray.ext (by rw [ByteArray.data_append]; exact Array.ext' (by simp [baT]))
/-- Where the tokens stand in the text. -/
def posL (z : List UInt8) (ts : List Tok) (k : Nat) : List Int := (List.range k).map fun i => ((joinS z (ts.take i)).length : Int)
theorem posL_len (z : List UInt8) (ts : List Tok) (k : Nat) : (posL z ts k).length = k := by unfold posL; simp
theorem posL_succ (z : List UInt8) (ts : List Tok) (k : Nat) : posL z ts (k + 1) = posL z ts k ++ [((joinS z (ts.take k)).length : Int)] := by unfold posL; rw [List.range_succ, List.map_append]; rfl
theorem posL_at {z : List UInt8} {ts : List Tok} {k i : Nat} (h : i < k) : (posL z ts k)[i]? = some ((joinS z (ts.take i)).length : Int) := by unfold posL; simp [h]
theorem int_cell (w : World) (x : Int) : (w.alloc (.cells #[.int .i64 x] 3)).cell? ⟨w.heap.size, 0, none⟩ = some (.int .i64 x) := by rw [World.cell?_alloc_mark]; rfl
/-- The place of a token is told once; the end stands behind all. -/
theorem placed_from {b : List UInt8} : ∀ {T : List Tok} {p : Nat}, Placed b p T → ∀ t ∈ T, p ≤ t.at_
  | [], _, _, t, ht => by cases ht
  | s :: r, p, ⟨h, hr⟩, t, ht => by
    rcases List.mem_cons.1 ht with rfl | ht
    · exact h.1
    · have := placed_from hr t ht
      have := h.1
      omega
theorem placed_rise {b : List UInt8} : ∀ {T : List Tok} {p i k : Nat} {t u : Tok}, Placed b p T → i < k → T[i]? = some t → T[k]? = some u → t.kind ≠ 4 → t.at_ < u.at_
  | [], _, _, _, _, _, _, _, h, _, _ => by simp at h
  | s :: r, p, 0, k + 1, t, u, ⟨h, hr⟩, _, ht, hu, hk => by
    have e : s = t := by simpa using ht
    subst e
    have h1 := placed_from hr u (List.mem_of_getElem? (by simpa using hu))
    have h2 : s.text ≠ [] := fun e => hk (h.2.2.1.1 e)
    have h3 : 0 < s.text.length := List.length_pos_iff.2 h2
    omega
  | s :: r, p, i + 1, k + 1, t, u, ⟨_, hr⟩, hik, ht, hu, hk => placed_rise (i := i) (k := k) hr (by omega) (by simpa using ht) (by simpa using hu) hk
theorem place_once {b : List UInt8} {ts : List Tok} (h : lexS 0 b = .ok ts) {i k : Nat} {t u : Tok} (hi : ts[i]? = some t) (hk : ts[k]? = some u) (e : t.at_ = u.at_) : i = k := by
  have hp := placed_of h
  have hf := (lex_few _ 0 b ts (Nat.le_refl _) h).2
  have e1 : ∀ {i : Nat} {t : Tok}, ts[i]? = some t → (fin ts b.length)[i]? = some t := fun {i t} hi => by
    unfold fin
    rw [List.getElem?_append_left (List.getElem?_eq_some_iff.1 hi).1]; exact hi
  rcases Nat.lt_trichotomy i k with h1 | h1 | h1
  · have := placed_rise hp h1 (e1 hi) (e1 hk) (Nat.ne_of_lt (hf t (List.mem_of_getElem? hi)))
    omega
  · exact h1
  · have := placed_rise hp h1 (e1 hk) (e1 hi) (Nat.ne_of_lt (hf u (List.mem_of_getElem? hk)))
    omega
theorem place_end {b : List UInt8} {ts : List Tok} (h : lexS 0 b = .ok ts) {i : Nat} {t : Tok} (hi : ts[i]? = some t) : t.at_ < b.length := by
  have hp := placed_of h
  have hf := (lex_few _ 0 b ts (Nat.le_refl _) h).2
  have hl := (List.getElem?_eq_some_iff.1 hi).1
  exact placed_rise (t := t) (u := ⟨4, [], b.length⟩) hp hl (by unfold fin; rw [List.getElem?_append_left hl]; exact hi) (by unfold fin; simp) (Nat.ne_of_lt (hf t (List.mem_of_getElem? hi)))
/-- What Parse tells of both. -/
theorem blanks_bad {b z : List UInt8} {ts : List Tok} (hz : Sep z) (h : lexS 0 b = .ok ts) {n p c : Nat} (hb : tl b = .bad p c) :
    ∃ q, tl (joinS z (fin ts n)) = .bad q c ∧ q ≤ (joinS z (fin ts n)).length ∧ ((∀ (i : Nat) (t : Tok), ts[i]? = some t → t.at_ = p → q = (joinS z ((fin ts n).take i)).length) ∧ ((∀ (i : Nat) (t : Tok), ts[i]? = some t → t.at_ ≠ p) → p = b.length ∧ q = (joinS z (fin ts n)).length)) := by
  have hs := tl_blanks hz h n
  rw [hb] at hs
  cases ht : tl (joinS z (fin ts n)) with
  | out => exact absurd ht (tl_ne _)
  | ok q r => rw [ht] at hs; exact hs.elim
  | bad q d =>
    rw [ht] at hs
    obtain ⟨hm, rfl⟩ := hs
    refine ⟨q, rfl, (tl_code ht).1, fun i t hi he => ?_, fun hno => ?_⟩
    · rcases hm with ⟨k, u, hk, hu, hq⟩ | ⟨h1, _⟩
      · obtain rfl := place_once h hi hk (he.trans hu.symm)
        have hl := (List.getElem?_eq_some_iff.1 hi).1
        rw [hq]
        unfold fin
        rw [List.take_append_of_le_length (by omega)]
      · have := place_end h hi
        omega
    · rcases hm with ⟨k, u, hk, hu, _⟩ | h1
      · exact absurd hu (hno k u hk)
      · exact h1
theorem blanks_ok {b z : List UInt8} {ts : List Tok} (hz : Sep z) (h : lexS 0 b = .ok ts) {n : Nat} {q : Pg} {r : List Tok} (hb : tl b = .ok q r) : ∃ r', tl (joinS z (fin ts n)) = .ok q r' := by
  have hs := tl_blanks hz h n
  rw [hb] at hs
  cases ht : tl (joinS z (fin ts n)) with
  | out => exact absurd ht (tl_ne _)
  | bad p c => rw [ht] at hs; exact hs.elim
  | ok q' r' =>
    rw [ht] at hs
    obtain ⟨rfl, _⟩ := hs
    exact ⟨r', rfl⟩
theorem pgv_nil (B : Nat) (W : World) : PgV B W (.agg #[.slice none 0 0, .slice none 0 0]) ⟨[], .nil⟩ :=
  ⟨none, 0, none, 0, rfl, ⟨none, 0, rfl, Nat.le_refl _, by decide, fun h => absurd h (by decide)⟩, ⟨none, 0, rfl, Nat.le_refl _, by decide, fun h => absurd h (by decide)⟩⟩
theorem joinS_size {z b : List UInt8} {ts : List Tok} {n N : Nat} (h : lexS 0 b = .ok ts) (hb : b.length = N) (hz : z.length ≤ 4) (k : Nat) : (joinS z ((fin ts n).take k)).length ≤ 5 * N + 4 := by
  have h1 := joinS_le z (fin ts n) k
  have h2 := joinS_joinT z ts
  have h3 := joinT_size N 0 b ts (by omega) h
  have h4 := toks_le N 0 b ts (by omega) h
  rw [joinS_fin, List.length_append] at h1
  have h5 : ts.length * z.length ≤ ts.length * 4 := Nat.mul_le_mul_left _ hz
  omega
end Go.Proofs.Ytmpdnikabkandaa
