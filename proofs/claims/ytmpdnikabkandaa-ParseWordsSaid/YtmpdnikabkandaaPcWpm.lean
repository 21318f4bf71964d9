/-
  ParseWords, plain: what Parse tells of the ninety texts.
-/
import Derived.Test.YtmpdnikabkandaaPq5
namespace Go.Proofs.Ytmpdnikabkandaa
open Go

def wordsW : List ByteArray := [⟨#[102, 117, 110, 99]⟩, ⟨#[97, 114, 114, 97, 121]⟩, ⟨#[105, 110, 112, 117, 116]⟩, ⟨#[112, 114, 105, 110, 116]⟩, ⟨#[107, 101, 101, 112]⟩, ⟨#[105, 102]⟩, ⟨#[101, 108, 115, 101]⟩, ⟨#[119, 104, 105, 108, 101]⟩, ⟨#[114, 101, 116, 117, 114, 110]⟩, ⟨#[99, 108, 111, 99, 107]⟩, ⟨#[102, 117, 110, 99, 115]⟩, ⟨#[73, 102]⟩, ⟨#[120]⟩, ⟨#[97, 95, 98]⟩, ⟨#[67, 108, 111, 99, 107]⟩]
def headsW : List ByteArray := [⟨#[102, 117, 110, 99, 32]⟩, ⟨#[102, 117, 110, 99, 32, 102, 40]⟩, ⟨#[97, 114, 114, 97, 121, 32]⟩, ⟨#[105, 110, 112, 117, 116, 32]⟩, ⟨#[120, 32, 61, 32, 121, 32, 43, 32, 49, 59, 32, 120, 32, 61, 32, 122, 91]⟩, ⟨#[102, 117, 110, 99, 32, 102, 40, 97, 44, 32]⟩]
def tailsW : List ByteArray := [⟨#[40, 41, 32, 123, 32, 125]⟩, ⟨#[41, 32, 123, 32, 125]⟩, ⟨#[32, 51, 59]⟩, ⟨#[59]⟩, ⟨#[91, 49, 93, 93, 59]⟩, ⟨#[41, 32, 123, 32, 125]⟩]
def wdW (m : Nat) : ByteArray := wordsW.getD m ⟨#[]⟩
def hdW (m : Nat) : ByteArray := headsW.getD m ⟨#[]⟩
def taW (m : Nat) : ByteArray := tailsW.getD m ⟨#[]⟩
def chkW (a p : Nat) : Bool :=
  decide ((wdW a).size ≤ 10) && decide ((hdW p).size ≤ 20) && decide ((taW p).size ≤ 20) &&
  match tlF ((hdW p).data.toList ++ (wdW a).data.toList ++ (taW p).data.toList) with
  | .ok _ _ => decide (10 ≤ a)
  | .bad n 2 => decide (a < 10) && (if p = 4 ∧ a = 9 then n == (hdW p).size + 5 else n == (hdW p).size)
  | _ => false
theorem chkW_all : ∀ a : Fin 15, ∀ p : Fin 6, chkW a.val p.val = true := by decide +kernel
theorem clock_is : ∀ a : Fin 15, (wdW a.val == ⟨#[99, 108, 111, 99, 107]⟩) = (a.val == 9) := by decide +kernel
theorem words_is {a p : Nat} (ha : a < 15) (hp : p < 6) : (wdW a).size ≤ 10 ∧ (hdW p).size ≤ 20 ∧ (taW p).size ≤ 20 ∧
    ((10 ≤ a ∧ ∃ q r, tl (hdW p ++ wdW a ++ taW p).data.toList = .ok q r) ∨ (a < 10 ∧ tl (hdW p ++ wdW a ++ taW p).data.toList = .bad ((hdW p).size + if p = 4 ∧ a = 9 then 5 else 0) 2)) := by
  have h1 := chkW_all ⟨a, ha⟩ ⟨p, hp⟩
  unfold chkW at h1
  simp only [Bool.and_eq_true, decide_eq_true_eq] at h1
  obtain ⟨⟨⟨h1, h2⟩, h3⟩, h4⟩ := h1
  refine ⟨h1, h2, h3, ?_⟩
  rw [tl_eq, bat_app, bat_app]
  split at h4
  · rename_i q r e
    exact .inl ⟨by simpa using h4, _, _, e⟩
  · rename_i n e
    simp only [Bool.and_eq_true, decide_eq_true_eq] at h4
    refine .inr ⟨h4.1, ?_⟩
    have h5 := h4.2
    by_cases h : p = 4 ∧ a = 9
    · rw [if_pos h] at h5 ⊢
      rw [e, show n = _ from by simpa using h5]
    · rw [if_neg h] at h5 ⊢
      rw [e, show n = _ from by simpa using h5]; rfl
  · cases h4

end Go.Proofs.Ytmpdnikabkandaa
