/-
  A right program's text is read as the program; two right programs of one text are the same. Plain.
-/
import Derived.Test.YtppagjhmlgkamaaGreatDoorCq5
import Derived.Test.YtppagjhmlgkamaaGreatDoorCbUm
import Derived.Test.YtppagjhmlgkamaaGreatDoorCbCm
namespace Go.Proofs.YtppagjhmlgkamaaGreatDoor
open Go Go.RowKit Go.Lib

theorem al_self {n : Nat} : ∀ {ts : List Tok}, (∀ t ∈ ts, t.kind ≠ 4) → Al (fun _ _ => True) (ts ++ [⟨4, [], n⟩]) (ts ++ [⟨4, [], n⟩])
  | [], _ => Al.fin n n trivial
  | t :: _r, h => Al.cons t.kind t.text t.at_ t.at_ _ _ (h t List.mem_cons_self) trivial (al_self fun t ht => h t (List.mem_cons_of_mem _ ht))
/-- What is printed is read as it is. -/
theorem tl_txt {p : Pg} (h : rightN p = 0) (hc : cntL p.pts ≤ 1000000000000) : ∃ r, tl p.txt = .ok p r := by
  obtain ⟨ts, h1, h2⟩ := txt_lex h
  obtain ⟨N, f⟩ := prog_ok h hc
  have hf := f (max N (ts.length + 2)) ts p.txt.length (Nat.le_max_left _ _) h2
  have hk := (lex_few _ 0 _ ts (Nat.le_refl _) h1).2
  have hs := prog_al (R := fun _ _ => True) (max N (ts.length + 2)) (ts.length + 2) (al_self (n := p.txt.length) (ts := ts) fun t ht => by have := hk t ht; omega)
  have hn := prog_fn (ts.length + 2) (fin ts p.txt.length) (by simp [fin])
  have e : tl p.txt = progT (ts.length + 2) (fin ts p.txt.length) := by unfold tl; rw [h1]
  rw [e]
  have ef : fin ts p.txt.length = ts ++ [⟨4, [], p.txt.length⟩] := rfl
  rw [ef] at hn ⊢
  rw [hf] at hs
  cases hx : progT (ts.length + 2) (ts ++ [⟨4, [], p.txt.length⟩]) with
  | ok q r =>
    rw [hx] at hs
    exact ⟨r, by rw [hs.1]⟩
  | bad _ _ => rw [hx] at hs; exact hs.elim
  | out => exact absurd hx hn
theorem tl_cnt {l : List UInt8} {q : Pg} {r : List Tok} (h : tl l = .ok q r) : cntL q.pts ≤ l.length + 1 := by
  unfold tl at h
  cases hx : lexS 0 l with
  | bad p => rw [hx] at h; cases h
  | ok ts =>
    rw [hx] at h
    have hc := prog_c (ts.length + 2) (fin ts l.length)
    have hk := (lex_few _ 0 _ ts (Nat.le_refl _) hx).1
    have h' : progT (ts.length + 2) (fin ts l.length) = .ok q r := h
    rw [h'] at hc
    have hc' : cntL q.pts + r.length ≤ (fin ts l.length).length := hc
    have hl : (fin ts l.length).length = ts.length + 1 := by simp [fin]
    omega
end Go.Proofs.YtppagjhmlgkamaaGreatDoor
