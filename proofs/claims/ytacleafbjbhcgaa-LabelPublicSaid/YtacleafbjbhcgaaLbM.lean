/-
  plain: an expression without calls, indices and divisions, to a depth.
-/
import Derived.Test.YtacleafbjbhcgaaLbL
import Derived.Test.YtacleafbjbhcgaaLbT
import Derived.Lib.MinMax
import Derived.Maps.AppendAt
namespace Go.Proofs.Ytacleafbjbhcgaa
open Go Go.RowKit Go.Lib

def plB (op : Int) : Bool := op == 5 || op == 4 || op == 11 || op == 12
def plOp (op : Int) : Int := if plB op = true then 8 else op
theorem plOp_true {op : Int} (h : plB op = true) : plOp op = 8 := if_pos h
theorem plOp_false {op : Int} (h : plB op = false) : plOp op = op := if_neg (by rw [h]; decide)
def ES.pl : ES → Nat → ES
  | .nil, _ => .nil
  | .cons _ _ _ _ _, 0 => .nil
  | .cons op n s l r, d + 1 => .cons (plOp op) n s (l.pl d) (r.pl (d + 1))
theorem ES.pl_zero : ∀ l : ES, l.pl 0 = .nil
  | .nil => rfl
  | .cons _ _ _ _ _ => rfl
theorem ES.pl_app : ∀ (a b : ES) (d : Nat), (a.app b).pl (d + 1) = (a.pl (d + 1)).app (b.pl (d + 1))
  | .nil, _, _ => rfl
  | .cons op n s l r, b, d => by rw [ES.app, ES.pl, ES.pl, ES.app, ES.pl_app r b d]
theorem ES.pl_len : ∀ (l : ES) (d : Nat), (l.pl d).len ≤ l.len
  | .nil, _ => Nat.le_refl _
  | .cons _ _ _ _ _, 0 => Nat.zero_le _
  | .cons _ _ _ _ r, d + 1 => by have := ES.pl_len r (d + 1); simp only [ES.pl, ES.len]; omega
theorem ES.pl_thin0 : ∀ (l : ES) (d : Nat), l.thin0 → (l.pl d).thin0
  | .nil, _, _ => trivial
  | .cons _ _ _ _ _, 0, _ => trivial
  | .cons _ _ _ l r, d + 1, ⟨⟨h0, h1⟩, h2, h3⟩ => ⟨⟨h0, by have := ES.pl_len l d; omega⟩, ES.pl_thin0 l d h2, ES.pl_thin0 r (d + 1) h3⟩
theorem plOp_own (fs : List Fn) (op : Int) (s : ByteArray) (ps : List Bool) : ownE fs (plOp op) s ps = false := by
  cases h : plB op with
  | true => rw [plOp_true h]; rfl
  | false =>
    rw [plOp_false h]
    have hn : ¬ op = 5 ∧ ¬ op = 4 ∧ ¬ op = 11 ∧ ¬ op = 12 := by simpa [plB, and_assoc] using h
    obtain ⟨h5, h4, h11, h12⟩ := hn
    unfold ownE
    rw [if_neg h4, if_neg (by simp [h11, h12]), if_neg h5]
theorem ES.pl_tells (fs : List Fn) : ∀ (l : ES) (d : Nat), (l.pl d).tells fs = false
  | .nil, _ => rfl
  | .cons _ _ _ _ _, 0 => rfl
  | .cons op n s l r, d + 1 => by rw [ES.pl, ES.tells, ES.pl_tells fs l d, ES.pl_tells fs r (d + 1), plOp_own]; rfl
theorem plOp_ok {op n : Int} {s : ByteArray} (h : okE op n s) : okE (plOp op) n s := by
  cases h5 : plB op with
  | true => rw [plOp_true h5]; exact ⟨⟨by decide, by decide⟩, h.2⟩
  | false => rw [plOp_false h5]; exact h

/-- A list that stays, whatever happens below lo, in block g, and in what is made later. -/
def Rob (lo : Nat) (g : Option Nat) (W : World) (v : Value) (l : ES) : Prop := ∀ W' : World, W.heap.size ≤ W'.heap.size → (∀ b, lo ≤ b → b < W.heap.size → some b ≠ g → W'.heap[b]? = W.heap[b]?) → EV W'.heap.size W' v l
theorem Rob.step {lo : Nat} {g g1 : Option Nat} {W W1 : World} {v : Value} {l : ES} (h : Rob lo g W v l) (hs : W.heap.size ≤ W1.heap.size) (hb : ∀ b, lo ≤ b → b < W.heap.size → some b ≠ g → W1.heap[b]? = W.heap[b]?) (hg : ∀ b, g1 = some b → g = some b ∨ W.heap.size ≤ b) : Rob lo g1 W1 v l := by
  intro W' h1 h2
  refine h W' (Nat.le_trans hs h1) fun b hlo hlt hne => (h2 b hlo (Nat.lt_of_lt_of_le hlt hs) (fun e => ?_)).trans (hb b hlo hlt hne)
  rcases hg b e.symm with h | h
  · exact hne h.symm
  · omega
theorem Rob.new {lo lo1 : Nat} {g : Option Nat} {W : World} {v : Value} {l : ES} (h : Rob lo1 none W v l) (hlo : lo ≤ lo1) (hg : ∀ b, g = some b → b < lo1) : Rob lo g W v l := by
  intro W' h1 h2
  refine h W' h1 fun b hl hlt _ => h2 b (Nat.le_trans hlo hl) hlt fun e => ?_
  have := hg b e.symm
  omega
/-- A row of the call's own that holds such lists is one itself. -/
theorem rob_own {lo base n : Nat} {W : World} {v : Value} {l : ES} {cs : List Value} (h : W.ownsRow base 37 4 v n cs) (hlo : lo ≤ base) (hc : l.Cells (Rob lo v.ownBlock W) cs) (hn : n = l.len) : Rob lo none W v l := by
  intro W' h1 h2
  subst hn
  have hE : ∀ v1 l1, Rob lo v.ownBlock W v1 l1 → EV W'.heap.size W' v1 l1 := fun v1 l1 hr => hr W' h1 fun b hb hlt _ => h2 b hb hlt (fun e => by cases e)
  obtain ⟨A, cap, rfl, h3, h4, h5⟩ := own_shape h
  refine ⟨A, cap, rfl, h3, h4, fun h0 => ?_⟩
  obtain ⟨g, rfl, hg, hl, hq⟩ := h5 h0
  refine ⟨g, 0, rfl, Nat.lt_of_lt_of_le hl h1, hc.in_ hE fun j u hu => ?_⟩
  have e := h2 g (Nat.le_trans hlo hg) hl (fun e => by cases e)
  rw [Nat.zero_add, ← hq j u hu]
  unfold World.cell?
  simp only [e]

set_option maxRecDepth 100000 in
/-- append(v, y), y in a row of its own. -/
theorem wp_app_ex {w : World} {N : Nat} {ops : Array Oper} {rest : List Oper} {o : Oper} {a : Act} {Q : Exit → Act → World → Prop} {s x : Operand} {v : Value} {k : Nat} {cs : List Value} {b c : Nat} {op n : Int} {s0 : ByteArray} {vl : Value} (hgd : o.guard = none)
    (ho : o.op = .call { callee := .builtin .append, args := #[s, x], argTypes := #[35, 35] })
    (hB : w.ownsRow N 37 4 v k cs) (hN : N ≤ w.heap.size) (hs : a.eval s = v) (hx : a.eval x = .slice (some ⟨b, 0, none⟩) 1 c) (hc : w.heap[b]? = some (.cells #[.int .i64 op, .int .i64 n, .string s0, vl] 37)) (hvl : ∃ A k c, vl = .slice A k c) (hlen : (k + 1) * 56 ≤ 140737488355328)
    (h : ∀ v' w', w'.ownsRow N 37 4 v' (k + 1) (cs ++ [.int .i64 op, .int .i64 n, .string s0, vl]) → w.grownBy w' v.ownBlock → (v'.ownBlock = v.ownBlock ∨ v'.ownBlock = some w.heap.size) → wpList Try.prog ops Q rest (a.put o.dst v') w') : wpList Try.prog ops Q (o :: rest) a w := by
  obtain ⟨i0, hi, hz0, hz1, hz2⟩ := info_parts exprInfo
  exact wpList_append_own_at _ hgd s x 35 ho N 37 i0 _ 4 56 Try.underlying35 hi hz0 hz1 hz2 rfl (by decide) v k cs hs hB ⟨b, 0, none⟩ 1 c [.int .i64 op, .int .i64 n, .string s0, vl] hx rfl (blk_news hc _ rfl) (one_cells hvl) (by unfold maxLen; omega) (by omega) hN (fun v' w' h1 h2 _ h4 => h v' w' h1 h2 h4)

theorem new2 (W : World) (o o' : Obj) : ((W.alloc o).alloc o').heap[W.heap.size + 1]? = some o' := by
  have := heap_alloc_new (W.alloc o) o'
  rwa [World.size_alloc] at this
abbrev exO (op n : Int) (s : ByteArray) (v : Value) : Obj := .cells #[.int .i64 op, .int .i64 n, .string s, v] 37
theorem plain_end {w wr : World} {o2 n2 op n : Int} {s2 s : ByteArray} {v2 : Value} {X : Option Addr} {k c : Nat} {cs : List Value} {l : ES} (b1 : wr.heap[w.heap.size + 1]? = some (exO o2 n2 s2 v2)) (hown : wr.ownsRow (w.heap.size + 3) 37 4 (.slice X k c) k cs)
    (hc : l.Cells (Rob (w.heap.size + 3) (Value.ownBlock (.slice X k c)) wr) cs) (hlow : Below w.heap.size w wr) (hk : l.len = k) (W : World)
    (hW : (((wr.setCell ⟨w.heap.size + 1, 0, none⟩ (.int .i64 op)).setCell ⟨w.heap.size + 1, 1, none⟩ (.int .i64 n)).setCell ⟨w.heap.size + 1, 2, none⟩ (.string s)).setCell ⟨w.heap.size + 1, 3, none⟩ (.slice X k c) = W) :
    W.heap[w.heap.size + 1]? = some (exO op n s (.slice X k c)) ∧ Rob w.heap.size none W (.slice X k c) l ∧ Below w.heap.size w W := by
  have hne : some (w.heap.size + 1) ≠ (Value.slice X k c).ownBlock := fun e => by have := (hown.lt _ e.symm).1; omega
  have hz : W.heap.size = wr.heap.size := by rw [← hW]; simp
  have hb : ∀ b, w.heap.size + 3 ≤ b → W.heap[b]? = wr.heap[b]? := fun b h => by
    rw [← hW]
    exact (Below.heap_setCell _ _ _ _ (by simp only; omega)).trans ((Below.heap_setCell _ _ _ _ (by simp only; omega)).trans ((Below.heap_setCell _ _ _ _ (by simp only; omega)).trans (Below.heap_setCell _ _ _ _ (by simp only; omega))))
  have ho : W.ownsRow (w.heap.size + 3) 37 4 (.slice X k c) k cs := by rw [← hW]; exact own_set (own_set (own_set (own_set hown hne _) hne _) hne _) hne _
  refine ⟨by rw [← hW]; exact (heap_set ((heap_set ((heap_set ((heap_set b1 0 _).trans rfl) 1 _).trans rfl) 2 _).trans rfl) 3 _).trans rfl, rob_own ho (Nat.le_add_right _ _) (hc.mono fun v l h => ?_) hk.symm, ?_⟩
  · have h1 : Rob (w.heap.size + 3) (Value.ownBlock (.slice X k c)) W v l := h.step (by rw [hz]; exact Nat.le_refl _) (fun b h1 _ _ => hb b h1) (fun b e => Or.inl e)
    exact fun W' h2 h3 => h1 W' h2 fun b h4 => h3 b (Nat.le_trans (Nat.le_add_right _ _) h4)
  · rw [← hW]
    exact (((hlow.setCell (p := ⟨w.heap.size + 1, 0, none⟩) (Nat.le_add_right _ _) _).setCell (p := ⟨w.heap.size + 1, 1, none⟩) (Nat.le_add_right _ _) _).setCell (p := ⟨w.heap.size + 1, 2, none⟩) (Nat.le_add_right _ _) _).setCell (p := ⟨w.heap.size + 1, 3, none⟩) (Nat.le_add_right _ _) _

end Go.Proofs.Ytacleafbjbhcgaa
