/-
  Lex and Parse, in a word each.
-/
import Derived.Test.YtmpdnikabkandaaPq5
import Derived.Test.YtmpdnikabkandaaPdEm
import Derived.Test.YtmpdnikabkandaaPdQm
import Derived.Test.YtmpdnikabkandaaBym
namespace Go.Proofs.Ytmpdnikabkandaa
open Go Go.RowKit Go.Lib

/-- Lex tells whether bytes are tokens. -/
theorem lex_is (A : Option Addr) (n cap : Nat) (l : List UInt8) (w : World) (hn : l.length = n) (hl : n ≤ 65536) (hcap : n ≤ cap) (hr : Row w A l) :
    Calls Try.prog 12 #[.slice A n cap] w fun e w' => (∃ v k c, e = .returned (.tuple #[v, .int .i64 k, .int .i64 c]) ∧ ((c = 0 ∧ ∃ ts, lexS 0 l = .ok ts) ∨ (c = 2 ∧ ∃ p, lexS 0 l = .bad p))) ∧ Below w.heap.size w w' := by
  cases h : lexS 0 l with
  | bad p => exact (lex_no A n cap l p w hn hl hcap hr h).mono fun e w' ⟨h1, h2⟩ => ⟨⟨_, _, _, h1, .inr ⟨rfl, p, rfl⟩⟩, h2⟩
  | ok ts => exact (lex_ok A n cap _ l ts w hn hl hcap hr h rfl).mono fun e w' ⟨g, c, h1, _, _, _, h2⟩ => ⟨⟨_, _, _, h1, .inl ⟨rfl, ts, rfl⟩⟩, h2⟩
/-- Parse tells a program, or what is wrong. -/
theorem parse_is (A : Option Addr) (n cap : Nat) (l : List UInt8) (w : World) (hn : l.length = n) (hl : n ≤ 65536) (hcap : n ≤ cap) (hr : Row w A l) :
    Calls Try.prog 13 #[.slice A n cap] w fun e w' => (∃ x1 m1 y1 x2 m2 y2 p c, e = .returned (.tuple #[.agg #[.slice x1 m1 y1, .slice x2 m2 y2], .int .i64 p, .int .i64 c])) ∧ Below w.heap.size w w' := by
  cases h : tl l with
  | out => exact absurd h (tl_ne l)
  | bad p c => exact (p_bad h A n cap w hn hl hcap hr).mono fun e w' ⟨h1, h2⟩ => ⟨⟨_, _, _, _, _, _, _, _, h1⟩, h2⟩
  | ok q r =>
    refine (p_ok h A n cap w hn hl hcap hr).mono fun e w' h3 => ?_
    obtain ⟨⟨v, h1, hv⟩, h2⟩ := h3
    obtain ⟨x1, y1, x2, y2, rfl, _, _⟩ := hv.pgv
    exact ⟨⟨_, _, _, _, _, _, _, _, h1⟩, h2⟩
end Go.Proofs.Ytmpdnikabkandaa
