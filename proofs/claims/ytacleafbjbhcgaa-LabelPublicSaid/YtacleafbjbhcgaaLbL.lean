/-
  Expressions as rows of cells; a row of the call's own as a list of expressions.
-/
import Derived.Test.YtacleafbjbhcgaaLbK
import Derived.Test.YtacleafbjbhcgaaLbS
namespace Go.Proofs.Ytacleafbjbhcgaa
open Go Go.RowKit Go.Lib

def ES.app : ES → ES → ES
  | .nil, m => m
  | .cons op n s l r, m => .cons op n s l (r.app m)
theorem ES.app_len : ∀ a b : ES, (a.app b).len = a.len + b.len
  | .nil, b => by simp [ES.app, ES.len]
  | .cons _ _ _ _ r, b => by simp [ES.app, ES.len, ES.app_len r b]; omega
theorem ES.app_assoc : ∀ a b c : ES, (a.app b).app c = a.app (b.app c)
  | .nil, _, _ => rfl
  | .cons _ _ _ _ r, b, c => by simp only [ES.app, ES.app_assoc r b c]
theorem ES.app_nil : ∀ a : ES, a.app .nil = a
  | .nil => rfl
  | .cons _ _ _ _ r => by rw [ES.app, ES.app_nil r]

/-- The cells of expressions that lie one behind the other; E: how a list of parts reads. -/
def ES.Cells (E : Value → ES → Prop) : ES → List Value → Prop
  | .nil => fun cs => cs = []
  | .cons op n s l r => fun cs => ∃ vl rest, cs = .int .i64 op :: .int .i64 n :: .string s :: vl :: rest ∧ E vl l ∧ (∃ A k c, vl = .slice A k c) ∧ okE op n s ∧ r.Cells E rest
theorem ES.Cells.len {E : Value → ES → Prop} : ∀ {l : ES} {cs : List Value}, l.Cells E cs → cs.length = l.len * 4
  | .nil, _, h => by rw [show _ = [] from h]; rfl
  | .cons _ _ _ _ r, _, ⟨_, rest, e, _, _, _, hr⟩ => by rw [e]; simp [ES.len, ES.Cells.len hr]; omega
theorem ES.Cells.mono {E E' : Value → ES → Prop} (h : ∀ v l, E v l → E' v l) : ∀ {l : ES} {cs : List Value}, l.Cells E cs → l.Cells E' cs
  | .nil, _, h => h
  | .cons _ _ _ _ _, _, ⟨vl, rest, e, h1, h2, h3, hr⟩ => ⟨vl, rest, e, h _ _ h1, h2, h3, ES.Cells.mono h hr⟩
theorem ES.Cells.app {E : Value → ES → Prop} {m : ES} {ds : List Value} (hm : m.Cells E ds) : ∀ {l : ES} {cs : List Value}, l.Cells E cs → (l.app m).Cells E (cs ++ ds)
  | .nil, cs, h => by rw [show cs = [] from h]; exact hm
  | .cons _ _ _ _ _, _, ⟨vl, rest, e, h1, h2, h3, hr⟩ => ⟨vl, rest ++ ds, by rw [e]; rfl, h1, h2, h3, ES.Cells.app hm hr⟩
theorem ES.Cells.one {E : Value → ES → Prop} {op n : Int} {s : ByteArray} {l : ES} {v : Value} (h : E v l) (hs : ∃ A k c, v = .slice A k c) (ho : okE op n s) : (ES.cons op n s l .nil).Cells E [.int .i64 op, .int .i64 n, .string s, v] := ⟨v, [], rfl, h, hs, ho, rfl⟩
theorem one_cells {op n : Int} {s : ByteArray} {v : Value} (hs : ∃ A k c, v = .slice A k c) : ∀ u ∈ [Value.int .i64 op, .int .i64 n, .string s, v], u.oneCell' = true := by
  obtain ⟨A, k, c, rfl⟩ := hs
  intro u hu
  simp only [List.mem_cons, List.not_mem_nil, or_false] at hu
  rcases hu with rfl | rfl | rfl | rfl <;> rfl
theorem ES.Cells.in_ {E : Value → ES → Prop} {B : Nat} {W : World} (hE : ∀ v l, E v l → EV B W v l) : ∀ {l : ES} {cs : List Value} {b o : Nat}, l.Cells E cs → (∀ j u, cs[j]? = some u → W.cell? ⟨b, o + j, none⟩ = some u) → l.In B W b o
  | .nil, _, _, _, _, _ => trivial
  | .cons _ _ _ _ _, _, b, o, ⟨vl, rest, e, h1, _, h3, hr⟩, hq => by
    subst e
    exact ⟨hq 0 _ rfl, hq 1 _ rfl, hq 2 _ rfl, ⟨vl, hq 3 _ rfl, hE _ _ h1⟩, h3, ES.Cells.in_ hE hr fun j u hu => by
      rw [show o + 4 + j = o + (j + 4) by omega]
      exact hq (j + 4) u (by simpa using hu)⟩
theorem own_shape {W : World} {base e size n : Nat} {v : Value} {cs : List Value} (h : W.ownsRow base e size v n cs) : ∃ A cap, v = .slice A n cap ∧ n ≤ cap ∧ cap ≤ 9223372036854775807 ∧ (0 < n → ∃ g, A = some ⟨g, 0, none⟩ ∧ base ≤ g ∧ g < W.heap.size ∧ ∀ m u, cs[m]? = some u → W.cell? ⟨g, m, none⟩ = some u) := by
  rcases h.2 with ⟨e, hn⟩ | ⟨g, cap, cur, e, hg, hh, hnc, hcm, _⟩
  · subst e hn
    exact ⟨none, 0, rfl, Nat.le_refl _, by decide, fun h => by omega⟩
  · subst e
    refine ⟨_, cap, rfl, hnc, by unfold maxLen at hcm; omega, fun _ => ⟨g, rfl, hg, (h.lt g rfl).2, fun m u hu => ?_⟩⟩
    have hc := h.cells (g := g) rfl m u hu
    rwa [at_add, Nat.zero_add] at hc
/-- A row of the call's own that holds such cells is a list of expressions. -/
theorem own_ev {E : Value → ES → Prop} {W : World} {base e n : Nat} {v : Value} {l : ES} {cs : List Value} (h : W.ownsRow base e 4 v n cs) (hE : ∀ v l, E v l → EV W.heap.size W v l) (hc : l.Cells E cs) (hn : n = l.len) : EV W.heap.size W v l := by
  subst hn
  obtain ⟨A, cap, rfl, h1, h2, h3⟩ := own_shape h
  refine ⟨A, cap, rfl, h1, h2, fun h0 => ?_⟩
  obtain ⟨g, rfl, _, hl, hq⟩ := h3 h0
  exact ⟨g, 0, rfl, hl, hc.in_ hE fun j u hu => by rw [Nat.zero_add]; exact hq j u hu⟩
theorem exprInfo : (Try.prog.info? 37).map (fun i => (i.zero, i.size, i.bytes)) = some (some (.agg #[.int .i64 0, .int .i64 0, .string ⟨#[]⟩, .slice none 0 0]), 4, 56) := by kernel_rfl
end Go.Proofs.Ytacleafbjbhcgaa
