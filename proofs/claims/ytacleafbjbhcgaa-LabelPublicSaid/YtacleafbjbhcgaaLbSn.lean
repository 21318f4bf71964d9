/-
  Rows of statements that a call has made; what smallStmts makes, plainly.
-/
import Derived.Test.YtacleafbjbhcgaaLbSp
import Derived.Test.YtacleafbjbhcgaaLbK
namespace Go.Proofs.Ytacleafbjbhcgaa
open Go Go.RowKit Go.Lib

theorem SS.sm_zero : ∀ l : SS, l.sm 0 = .nil
  | .nil => rfl
  | .cons _ _ _ _ _ _ _ => rfl
theorem SS.sm_app : ∀ (a b : SS) (d : Nat), (a.app b).sm (d + 1) = (a.sm (d + 1)).app (b.sm (d + 1))
  | .nil, _, _ => rfl
  | .cons op s n l x y r, b, d => by rw [SS.app, SS.sm, SS.sm, SS.app, SS.sm_app r b d]
theorem SS.sm_len : ∀ (l : SS) (d : Nat), (l.sm d).len ≤ l.len
  | .nil, _ => Nat.le_refl _
  | .cons _ _ _ _ _ _ _, 0 => Nat.zero_le _
  | .cons _ _ _ _ _ _ r, d + 1 => by have := SS.sm_len r (d + 1); simp only [SS.sm, SS.len]; omega
theorem ES.sm_thin : ∀ (l : ES) (d : Nat), l.thin0 → (l.sm d).thin
  | .nil, _, _ => trivial
  | .cons _ _ _ _ _, 0, _ => trivial
  | .cons _ _ s l r, d + 1, ⟨⟨h0, h1⟩, h2, h3⟩ => ⟨⟨by rw [vS_size]; omega, by have := ES.sm_len l d; omega⟩, ES.sm_thin l d h2, ES.sm_thin r (d + 1) h3⟩
theorem SS.sm_thin : ∀ (l : SS) (d : Nat), l.thin0 → (l.sm d).thin
  | .nil, _, _ => trivial
  | .cons _ _ _ _ _ _ _, 0, _ => trivial
  | .cons _ s _ l x y r, d + 1, ⟨⟨h0, h1, h2, h3⟩, h4, h5, h6, h7⟩ =>
    ⟨⟨by rw [vS_size]; omega, by have := ES.sm_len l (d + 2); omega, by have := SS.sm_len x d; omega, by have := SS.sm_len y d; omega⟩, ES.sm_thin l (d + 2) h4, SS.sm_thin x d h5, SS.sm_thin y d h6, SS.sm_thin r (d + 1) h7⟩

def isSl (v : Value) : Prop := ∃ A k c, v = .slice A k c
/-- The cells of statements by what their values are. -/
def SS.CellsG (E : Value → ES → Prop) (S : Value → SS → Prop) : SS → List Value → Prop
  | .nil => fun cs => cs = []
  | .cons op s n l x y r => fun cs => ∃ vl vx vy rest, cs = .int .i64 op :: .string s :: .int .i64 n :: vl :: vx :: vy :: rest ∧ E vl l ∧ S vx x ∧ S vy y ∧ (isSl vl ∧ isSl vx ∧ isSl vy) ∧ (I64 op ∧ I64 n ∧ s.size ≤ 9223372036854775807) ∧ r.CellsG E S rest
theorem SS.CellsG.mono {E E' : Value → ES → Prop} {S S' : Value → SS → Prop} (h : ∀ v l, E v l → E' v l) (h' : ∀ v l, S v l → S' v l) : ∀ {l : SS} {cs : List Value}, l.CellsG E S cs → l.CellsG E' S' cs
  | .nil, _, e => e
  | .cons _ _ _ _ _ _ _, _, ⟨vl, vx, vy, rest, e, h1, h2, h3, h4, h5, hr⟩ => ⟨vl, vx, vy, rest, e, h _ _ h1, h' _ _ h2, h' _ _ h3, h4, h5, SS.CellsG.mono h h' hr⟩
theorem SS.CellsG.app {E : Value → ES → Prop} {S : Value → SS → Prop} {m : SS} {ds : List Value} (hm : m.CellsG E S ds) : ∀ {l : SS} {cs : List Value}, l.CellsG E S cs → (l.app m).CellsG E S (cs ++ ds)
  | .nil, _, e => by rw [show _ = [] from e]; exact hm
  | .cons _ _ _ _ _ _ _, _, ⟨vl, vx, vy, rest, e, h1, h2, h3, h4, h5, hr⟩ => ⟨vl, vx, vy, rest ++ ds, by rw [e]; rfl, h1, h2, h3, h4, h5, SS.CellsG.app hm hr⟩
theorem SS.CellsG.one {E : Value → ES → Prop} {S : Value → SS → Prop} {op n : Int} {s : ByteArray} {l : ES} {x y : SS} {vl vx vy : Value} (h1 : E vl l) (h2 : S vx x) (h3 : S vy y) (h4 : isSl vl ∧ isSl vx ∧ isSl vy) (h5 : I64 op ∧ I64 n ∧ s.size ≤ 9223372036854775807) : (SS.cons op s n l x y .nil).CellsG E S [.int .i64 op, .string s, .int .i64 n, vl, vx, vy] :=
  ⟨vl, vx, vy, [], rfl, h1, h2, h3, h4, h5, rfl⟩
theorem one_stmt {op n : Int} {s : ByteArray} {vl vx vy : Value} (h : isSl vl ∧ isSl vx ∧ isSl vy) : ∀ u ∈ [Value.int .i64 op, .string s, .int .i64 n, vl, vx, vy], u.oneCell' = true := by
  obtain ⟨⟨_, _, _, rfl⟩, ⟨_, _, _, rfl⟩, ⟨_, _, _, rfl⟩⟩ := h
  intro u hu
  simp only [List.mem_cons, List.not_mem_nil, or_false] at hu
  rcases hu with rfl | rfl | rfl | rfl | rfl | rfl <;> rfl
theorem SS.CellsG.in_ {E : Value → ES → Prop} {S : Value → SS → Prop} {B : Nat} {W : World} (hE : ∀ v l, E v l → EV B W v l) (hS : ∀ v l, S v l → SV B W v l) : ∀ {l : SS} {cs : List Value} {b o : Nat}, l.CellsG E S cs → (∀ j u, cs[j]? = some u → W.cell? ⟨b, o + j, none⟩ = some u) → l.In B W b o
  | .nil, _, _, _, _, _ => trivial
  | .cons _ _ _ _ _ _ _, _, b, o, ⟨vl, vx, vy, rest, e, h1, h2, h3, _, h5, hr⟩, hq => by
    subst e
    exact ⟨hq 0 _ rfl, hq 1 _ rfl, hq 2 _ rfl, ⟨vl, hq 3 _ rfl, hE _ _ h1⟩, ⟨vx, hq 4 _ rfl, hS _ _ h2⟩, ⟨vy, hq 5 _ rfl, hS _ _ h3⟩, h5, SS.CellsG.in_ hE hS hr fun j u hu => by
      rw [show o + 6 + j = o + (j + 6) by omega]
      exact hq (j + 6) u (by simpa using hu)⟩

/-- Statements that stay, whatever happens below lo, in block g, and in what is made later. -/
def RobS (lo : Nat) (g : Option Nat) (W : World) (v : Value) (l : SS) : Prop := ∀ W' : World, W.heap.size ≤ W'.heap.size → (∀ b, lo ≤ b → b < W.heap.size → some b ≠ g → W'.heap[b]? = W.heap[b]?) → SV W'.heap.size W' v l
theorem RobS.step {lo : Nat} {g g1 : Option Nat} {W W1 : World} {v : Value} {l : SS} (h : RobS lo g W v l) (hs : W.heap.size ≤ W1.heap.size) (hb : ∀ b, lo ≤ b → b < W.heap.size → some b ≠ g → W1.heap[b]? = W.heap[b]?) (hg : ∀ b, g1 = some b → g = some b ∨ W.heap.size ≤ b) : RobS lo g1 W1 v l := by
  intro W' h1 h2
  refine h W' (Nat.le_trans hs h1) fun b hlo hlt hne => (h2 b hlo (Nat.lt_of_lt_of_le hlt hs) (fun e => ?_)).trans (hb b hlo hlt hne)
  rcases hg b e.symm with h | h
  · exact hne h.symm
  · omega
theorem RobS.new {lo lo1 : Nat} {g : Option Nat} {W : World} {v : Value} {l : SS} (h : RobS lo1 none W v l) (hlo : lo ≤ lo1) (hg : ∀ b, g = some b → b < lo1) : RobS lo g W v l := by
  intro W' h1 h2
  refine h W' h1 fun b hl hlt _ => h2 b (Nat.le_trans hlo hl) hlt fun e => ?_
  have := hg b e.symm
  omega
theorem RobS.nil (lo : Nat) (g : Option Nat) (W : World) : RobS lo g W (.slice none 0 0) .nil := fun _ _ _ => sv_nil _ _
theorem RobS.sl {lo : Nat} {W : World} {v : Value} {l : SS} (h : RobS lo none W v l) : isSl v := by
  obtain ⟨A, c, e, _⟩ := h W (Nat.le_refl _) (fun _ _ _ _ => rfl)
  exact ⟨_, _, _, e⟩
/-- A row of the call's own that holds such statements is one itself. -/
theorem rob_ownS {lo base n : Nat} {W : World} {v : Value} {l : SS} {cs : List Value} (h : W.ownsRow base 40 6 v n cs) (hlo : lo ≤ base) (hc : l.CellsG (Rob lo v.ownBlock W) (RobS lo v.ownBlock W) cs) (hn : n = l.len) : RobS lo none W v l := by
  intro W' h1 h2
  subst hn
  have hE : ∀ v1 l1, Rob lo v.ownBlock W v1 l1 → EV W'.heap.size W' v1 l1 := fun v1 l1 hr => hr W' h1 fun b hb hlt _ => h2 b hb hlt (fun e => by cases e)
  have hS : ∀ v1 l1, RobS lo v.ownBlock W v1 l1 → SV W'.heap.size W' v1 l1 := fun v1 l1 hr => hr W' h1 fun b hb hlt _ => h2 b hb hlt (fun e => by cases e)
  obtain ⟨A, cap, rfl, h3, h4, h5⟩ := own_shape h
  refine ⟨A, cap, rfl, h3, h4, fun h0 => ?_⟩
  obtain ⟨g, rfl, hg, hl, hq⟩ := h5 h0
  refine ⟨g, 0, rfl, Nat.lt_of_lt_of_le hl h1, hc.in_ hE hS fun j u hu => ?_⟩
  have e := h2 g (Nat.le_trans hlo hg) hl (fun e => by cases e)
  rw [Nat.zero_add, ← hq j u hu]
  unfold World.cell?
  simp only [e]

set_option maxRecDepth 100000 in
/-- append(v, y), y a statement in a row of its own. -/
theorem wp_app_st {w : World} {N : Nat} {ops : Array Oper} {rest : List Oper} {o : Oper} {a : Act} {Q : Exit → Act → World → Prop} {s x : Operand} {v : Value} {k : Nat} {cs : List Value} {b c : Nat} {op n : Int} {s0 : ByteArray} {vl vx vy : Value} (hgd : o.guard = none)
    (ho : o.op = .call { callee := .builtin .append, args := #[s, x], argTypes := #[23, 23] })
    (hB : w.ownsRow N 40 6 v k cs) (hN : N ≤ w.heap.size) (hs : a.eval s = v) (hx : a.eval x = .slice (some ⟨b, 0, none⟩) 1 c) (hc : w.heap[b]? = some (.cells #[.int .i64 op, .string s0, .int .i64 n, vl, vx, vy] 40)) (hvl : isSl vl ∧ isSl vx ∧ isSl vy) (hlen : (k + 1) * 104 ≤ 140737488355328)
    (h : ∀ v' w', w'.ownsRow N 40 6 v' (k + 1) (cs ++ [.int .i64 op, .string s0, .int .i64 n, vl, vx, vy]) → w.grownBy w' v.ownBlock → (v'.ownBlock = v.ownBlock ∨ v'.ownBlock = some w.heap.size) → wpList Try.prog ops Q rest (a.put o.dst v') w') : wpList Try.prog ops Q (o :: rest) a w := by
  obtain ⟨i0, hi, hz0, hz1, hz2⟩ := info_parts stmtInfo
  exact wpList_append_own_at _ hgd s x 23 ho N 40 i0 _ 6 104 Try.underlying23 hi hz0 hz1 hz2 rfl (by decide) v k cs hs hB ⟨b, 0, none⟩ 1 c [.int .i64 op, .string s0, .int .i64 n, vl, vx, vy] hx rfl (blk_news hc _ rfl) (one_stmt hvl) (by unfold maxLen; omega) (by omega) hN (fun v' w' h1 h2 _ h4 => h v' w' h1 h2 h4)
abbrev stO (op : Int) (s : ByteArray) (n : Int) (vl vx vy : Value) : Obj := .cells #[.int .i64 op, .string s, .int .i64 n, vl, vx, vy] 40
end Go.Proofs.Ytacleafbjbhcgaa
