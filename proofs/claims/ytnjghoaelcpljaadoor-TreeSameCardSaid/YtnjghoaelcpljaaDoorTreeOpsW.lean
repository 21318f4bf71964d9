/-
  TreeOps: the statement's function, walked.
-/
import Derived.Test.YtnjghoaelcpljaaDoorTreeS
import Derived.Deep.DeepCutAuto
import Derived.Deep.CutBlock
import Derived.Laws.OwnMore
namespace Go.Proofs.YtnjghoaelcpljaaDoor
open Go Go.RowKit Go.Lib

theorem and_16 (n : Int) : ∃ N : Nat, bits BinOp.and IntKind.i64 n 65535 = (N : Int) ∧ N ≤ 65535 := by
  refine ⟨(BitVec.ofInt 64 n &&& BitVec.ofInt 64 65535).toNat, ?_, ?_⟩
  · show IntKind.i64.wrap ((BitVec.ofInt 64 n &&& BitVec.ofInt 64 65535).toNat : Int) = _
    have : (BitVec.ofInt 64 n &&& BitVec.ofInt 64 65535).toNat ≤ 65535 := by
      rw [BitVec.toNat_and]; exact Nat.and_le_right
    exact IntWalk.i64_in _ (by omega)
  · rw [BitVec.toNat_and]; exact Nat.and_le_right

/-- The clocks' cells. -/
def clk : Nat → List Value
  | 0 => []
  | j + 1 => clk j ++ [.int .i64 3, .int .i64 0, .string ⟨#[]⟩, .slice none 0 0]
theorem exprInfo : (Tryd.prog.info? 41).map (fun i => (i.zero, i.size, i.bytes)) = some (some (.agg #[.int .i64 0, .int .i64 0, .string ⟨#[]⟩, .slice none 0 0]), 4, 56) := by kernel_rfl
theorem four_cells {wr : World} {t : TypeId} {a b c d : Value} : ∀ j u, [a, b, c, d][j]? = some u → (wr.alloc (.cells #[a, b, c, d] t)).cell? ((⟨wr.heap.size, 0, none⟩ : Addr).add j) = some u := by
  intro j u hj
  match j, hj with
  | 0, hj => simp at hj; subst hj; simp [Addr.add]
  | 1, hj => simp at hj; subst hj; simp [Addr.add]
  | 2, hj => simp at hj; subst hj; simp [Addr.add]
  | 3, hj => simp at hj; subst hj; simp [Addr.add]
theorem four_one : ∀ u ∈ [Value.int .i64 3, .int .i64 0, .string ⟨#[]⟩, .slice none 0 0], u.oneCell' = true := by
  intro u hu
  simp at hu
  rcases hu with rfl | rfl | rfl | rfl <;> rfl

/-- A list of clocks. -/
def clkE : Nat → ES
  | 0 => .nil
  | j + 1 => .cons 3 0 ⟨#[]⟩ .nil (clkE j)
theorem clkE_len : ∀ j, (clkE j).len = j
  | 0 => rfl
  | j + 1 => by simp [clkE, ES.len, clkE_len j]

structure OpsRel (w : World) (g : Nat) (op n : Int) (s : ByteArray) (k : Nat) (i : Value) (wr : World) (j : Nat) (v : Value) : Prop where
  i_eq : i = .int .i64 j
  le : j ≤ k
  c0 : wr.cell? ⟨g, 0, none⟩ = some (.int .i64 op)
  c1 : wr.cell? ⟨g, 1, none⟩ = some (.int .i64 n)
  c2 : wr.cell? ⟨g, 2, none⟩ = some (.string s)
  c3 : wr.cell? ⟨g, 3, none⟩ = some v
  f3 : wr.frozen? ⟨g, 3, none⟩ = false
  own : wr.ownsRow (g + 1) 41 4 v j (clk j)
  lt : g < wr.heap.size
  ge : w.heap.size ≤ g
  fr : Fr w wr

theorem OpsRel.mid {w : World} {g : Nat} {op n : Int} {s : ByteArray} {k : Nat} {i : Value} {wr w2 : World} {j : Nat} {v : Value} {o : Obj} (h : OpsRel w g op n s k i wr j v) (hg : (wr.alloc o).grownBy w2 v.ownBlock) :
    (∀ m, w2.cell? ⟨g, m, none⟩ = wr.cell? ⟨g, m, none⟩) ∧ (∀ m, w2.frozen? ⟨g, m, none⟩ = wr.frozen? ⟨g, m, none⟩) := by
  have hne : some g ≠ v.ownBlock := fun e => by have := (h.own.lt g e.symm).1; omega
  have hl := h.lt
  have hb : w2.heap[g]? = wr.heap[g]? := (hg.block g (by simp; omega) hne).trans (Below.heap_alloc wr o g hl)
  exact ⟨fun m => World.cell?_of_block (a := ⟨g, m, none⟩) hb, fun m => World.frozen?_of_block (a := ⟨g, m, none⟩) hb⟩

theorem OpsRel.step {w : World} {g : Nat} {op n : Int} {s : ByteArray} {k : Nat} {i : Value} {wr w2 : World} {j : Nat} {v v' : Value} {o : Obj} (h : OpsRel w g op n s k i wr j v) (hlt : j < k) (hg : (wr.alloc o).grownBy w2 v.ownBlock)
    (ho : w2.ownsRow (g + 1) 41 4 v' (j + 1) (clk j ++ [.int .i64 3, .int .i64 0, .string ⟨#[]⟩, .slice none 0 0])) :
    OpsRel w g op n s k (.int .i64 ((j + 1 : Nat) : Int)) (w2.setCell ⟨g, 3, none⟩ v') (j + 1) v' := by
  obtain ⟨hc, hf⟩ := h.mid hg
  have hl := h.lt
  have hge := h.ge
  have hsz : wr.heap.size < w2.heap.size := by have := hg.size; simp at this; omega
  have hfr : Below w.heap.size w w2 := (Below.alloc h.fr (by omega) o).grown hg (by simp; omega) (fun q hq => by have := (h.own.lt q hq).1; omega)
  exact ⟨rfl, by omega, by rw [World.cell?_setCell_other _ _ _ _ (by intro e; simp only [Addr.mk.injEq] at e; omega), hc]; exact h.c0, by rw [World.cell?_setCell_other _ _ _ _ (by intro e; simp only [Addr.mk.injEq] at e; omega), hc]; exact h.c1,
    by rw [World.cell?_setCell_other _ _ _ _ (by intro e; simp only [Addr.mk.injEq] at e; omega), hc]; exact h.c2, World.cell?_setCell_same' _ _ _ (by rw [hc, h.c3]; rfl), by rw [World.frozen?_setCell, hf]; exact h.f3,
    ownsRow_setCell_below ho (by show g < g + 1; omega) _, by simp [World.setCell]; omega, hge, hfr.setCell (p := ⟨g, 3, none⟩) hge _⟩

/-- The clocks that were appended, as a list of expressions. -/
theorem clk_in {W : World} {B g j : Nat} (hW : ∀ m u, (clk j)[m]? = some u → W.cell? ⟨g, m, none⟩ = some u) : ∀ (i r : Nat), i + r = j → (clkE r).In B W g (i * 4) := by
  have hl : ∀ j, (clk j).length = j * 4 := by intro j; induction j with | zero => rfl | succ j ih => simp [clk, ih]; omega
  have hat : ∀ (j i m : Nat) (u : Value), i < j → [Value.int .i64 3, .int .i64 0, .string ⟨#[]⟩, .slice none 0 0][m]? = some u → (clk j)[i * 4 + m]? = some u := by
    intro j
    induction j with
    | zero => intro i m u hi; omega
    | succ j ih =>
      intro i m u hi hm
      have hm4 : m < 4 := (List.getElem?_eq_some_iff.1 hm).1
      by_cases hij : i < j
      · simp only [clk]
        rw [List.getElem?_append_left (by rw [hl]; omega)]
        exact ih i m u hij hm
      · have : i = j := by omega
        subst this
        simp only [clk]
        rw [List.getElem?_append_right (by rw [hl]; omega), hl]
        rw [show i * 4 + m - i * 4 = m by omega]
        exact hm
  intro i r
  induction r generalizing i with
  | zero => intro _; trivial
  | succ r ih =>
    intro hir
    exact ⟨hW _ _ (hat j i 0 _ (by omega) rfl), hW _ _ (hat j i 1 _ (by omega) rfl), hW _ _ (hat j i 2 _ (by omega) rfl), ⟨_, hW _ _ (hat j i 3 _ (by omega) rfl), ev_nil _ _⟩, ⟨i64_of (by decide), i64_of (by decide), by decide⟩,
      by rw [show i * 4 + 4 = (i + 1) * 4 by omega]; exact ih (i + 1) (by omega)⟩
theorem clk_ev {W : World} {base j : Nat} {v : Value} (h : W.ownsRow base 41 4 v j (clk j)) (hj : j ≤ 1000) : EV W.heap.size W v (clkE j) := by
  obtain ⟨hl, hh⟩ := id h
  rcases hh with ⟨rfl, rfl⟩ | ⟨g, cap, cur, rfl, _, hb, hc, hm, _, _⟩
  · exact ev_nil _ _
  · refine ⟨_, _, by rw [clkE_len], by rw [clkE_len]; exact hc, by unfold maxLen at hm; omega, fun _ => ⟨g, 0, rfl, (Array.getElem?_eq_some_iff.1 hb).1, ?_⟩⟩
    have := clk_in (B := W.heap.size) (W := W) (g := g) (j := j) (fun m u hu => by
      have := h.cells (g := g) rfl m u hu
      rwa [show (⟨g, 0, none⟩ : Addr).add m = ⟨g, m, none⟩ by unfold Addr.add; split <;> simp_all] at this) 0 j (by omega)
    simpa using this

/-- What the document asks of an expression's op, of so many parts, with a name or without, and a number. -/
def opsF (op : Int) (k : Nat) (nm : Bool) (n : Int) : Bool :=
  if op = 1 then decide (k = 0) && (!nm && decide (0 ≤ n)) else if op = 2 then decide (k = 0) && (nm && decide (n = 0)) else if op = 3 then decide (k = 0) && (!nm && decide (n = 0)) else
  if op = 4 then decide (k = 1) && (nm && decide (n = 0)) else if op = 5 then decide (k ≤ 8) && (nm && decide (n = 0)) else if op = 6 ∨ op = 7 then decide (k = 1) && (!nm && decide (n = 0)) else
  if 8 ≤ op ∧ op ≤ 16 then decide (k = 2) && (!nm && decide (n = 0)) else false
/-- The same, of the first seven ops alone. -/
def opsS (op : Int) (k : Nat) (nm : Bool) (n : Int) : Bool :=
  if op = 1 then decide (k = 0) && (!nm && decide (0 ≤ n)) else if op = 2 then decide (k = 0) && (nm && decide (n = 0)) else if op = 3 then decide (k = 0) && (!nm && decide (n = 0)) else
  if op = 4 then decide (k = 1) && (nm && decide (n = 0)) else if op = 5 then decide (k ≤ 8) && (nm && decide (n = 0)) else if op = 6 ∨ op = 7 then decide (k = 1) && (!nm && decide (n = 0)) else false
def opsP (op n : Int) (s : ByteArray) (k : Nat) : Pg := ⟨[], .cons 5 ⟨#[]⟩ 0 (.cons op n s (clkE k) .nil) .nil .nil .nil⟩
theorem clkE_ok : ∀ k, (clkE k).ok = true
  | 0 => rfl
  | k + 1 => by
    simp only [clkE, ES.ok, clkE_ok k, Bool.and_true]
    decide +kernel
theorem clkE_deep : ∀ k, (clkE k).deep = if k = 0 then 0 else 1
  | 0 => rfl
  | k + 1 => by
    simp only [clkE, ES.deep, clkE_deep k]
    split <;> simp [wrap_def] <;> rfl
theorem opsF_fit (op n : Int) (k : Nat) (nm : Bool) (hn : I64 n) (hk : k ≤ 10) :
    fitP ⟨false, op, if nm = true then ⟨#[113]⟩ else ⟨#[]⟩, n, clkE k, .nil, .nil⟩ = opsF op k nm n := by
  have hq : nameB ⟨#[113]⟩ = true := by decide +kernel
  have he : nameB ⟨#[]⟩ = false := by decide +kernel
  unfold I64 at hn
  by_cases h : 1 ≤ op ∧ op ≤ 16
  · obtain ⟨m, rfl⟩ := Int.eq_ofNat_of_zero_le (show 0 ≤ op by omega)
    have h1 : 1 ≤ m := by omega
    have h2 : m ≤ 16 := by omega
    have hs : shOf false (m : Int) = some (exprT.getD m sh0) := by unfold shOf; rw [if_neg (by decide), if_pos h]; rfl
    unfold fitP
    simp only [hs, Option.isSome_some, Option.getD_some, clkE_len, SS.len]
    have hm : m = 1 ∨ m = 2 ∨ m = 3 ∨ m = 4 ∨ m = 5 ∨ m = 6 ∨ m = 7 ∨ m = 8 ∨ m = 9 ∨ m = 10 ∨ m = 11 ∨ m = 12 ∨ m = 13 ∨ m = 14 ∨ m = 15 ∨ m = 16 := by omega
    clear hs h h1 h2
    rcases hm with rfl | rfl | rfl | rfl | rfl | rfl | rfl | rfl | rfl | rfl | rfl | rfl | rfl | rfl | rfl | rfl <;> cases nm <;> (rw [Bool.eq_iff_iff]; simp [fitQ, exprT, opsF, namedB, hq, he]; try omega)
  · have hs : shOf false op = none := by unfold shOf; rw [if_neg (by decide), if_neg h]
    unfold fitP
    rw [hs]
    unfold opsF
    rw [if_neg (show ¬ op = 1 by omega), if_neg (show ¬ op = 2 by omega), if_neg (show ¬ op = 3 by omega), if_neg (show ¬ op = 4 by omega), if_neg (show ¬ op = 5 by omega), if_neg (show ¬ (op = 6 ∨ op = 7) by omega), if_neg (show ¬ (8 ≤ op ∧ op ≤ 16) by omega)]
    rfl
theorem ops_right (op n : Int) (k : Nat) (nm : Bool) (hn : I64 n) (hk : k ≤ 10) : rightN (opsP op n (if nm = true then ⟨#[113]⟩ else ⟨#[]⟩) k) = if opsF op k nm n = true then 0 else 1 := by
  have h0 : deepL (opsP op n (if nm = true then ⟨#[113]⟩ else ⟨#[]⟩) k).pts ≤ 64 := by
    simp only [opsP, Pg.pts, fsPts, SS.pts, List.nil_append, deepL, Pt.deep, ES.deep, SS.deep, clkE_deep, wrap_def]
    split <;> omega
  have h1 : okL (opsP op n (if nm = true then ⟨#[113]⟩ else ⟨#[]⟩) k).pts = opsF op k nm n := by
    rw [← opsF_fit op n k nm hn hk]
    simp only [opsP, Pg.pts, fsPts, SS.pts, List.nil_append, okL, Pt.ok, ES.ok, SS.ok, clkE_ok, Bool.and_true]
    rw [show ∀ l, l.len = 1 → fitP ⟨true, 5, ⟨#[]⟩, 0, l, .nil, .nil⟩ = true from fun l hl => by unfold fitP; simp only [hl, SS.len]; decide +kernel]
    · simp
    · rfl
  unfold rightN
  rw [h1, if_neg (show ¬ 64 < deepL (opsP op n (if nm = true then ⟨#[113]⟩ else ⟨#[]⟩) k).pts by omega)]
  simp [opsP, funcsB, fsOk]

theorem ops_call (op n : Int) (k : Nat) (nm : Bool) (s : ByteArray) (hs : s = if nm = true then ⟨#[113]⟩ else ⟨#[]⟩) (hop : I64 op) (hn : I64 n) (hk : k ≤ 10) (W : World) (v : Value) (hv : EV W.heap.size W v (clkE k)) (ht : Tab W) :
    Calls Tryd.prog 12 #[.agg #[.slice none 0 0, .slice (some ⟨W.heap.size + 1, 0, none⟩) 1 1]] ((W.alloc (.cells #[.int .i64 op, .int .i64 n, .string s, v] 41)).alloc (.cells #[.int .i64 5, .string ⟨#[]⟩, .int .i64 0, .slice (some ⟨W.heap.size, 0, none⟩) 1 1, .slice none 0 0, .slice none 0 0] 38)) fun e w' =>
      e = .returned (.int .i64 (if opsF op k nm n = true then 0 else 1)) ∧ Below W.heap.size W w' := by
  have hsz : s.size ≤ 9223372036854775807 := by subst hs; cases nm <;> decide
  have b1 := (Blk.new W #[.int .i64 op, .int .i64 n, .string s, v] 41).alloc (.cells #[.int .i64 5, .string ⟨#[]⟩, .int .i64 0, .slice (some ⟨W.heap.size, 0, none⟩) 1 1, .slice none 0 0, .slice none 0 0] 38)
  have b2 := Blk.new (W.alloc (.cells #[.int .i64 op, .int .i64 n, .string s, v] 41)) #[.int .i64 5, .string ⟨#[]⟩, .int .i64 0, .slice (some ⟨W.heap.size, 0, none⟩) 1 1, .slice none 0 0, .slice none 0 0] 38
  have hb : Below W.heap.size W ((W.alloc (.cells #[.int .i64 op, .int .i64 n, .string s, v] 41)).alloc (.cells #[.int .i64 5, .string ⟨#[]⟩, .int .i64 0, .slice (some ⟨W.heap.size, 0, none⟩) 1 1, .slice none 0 0, .slice none 0 0] 38)) := ((Below.refl _ _).alloc (Nat.le_refl _) _).alloc (by simp) _
  have e := ev_one b1 (EV.below hv hb hb.size) ⟨hop, hn, hsz⟩
  have st := sv_one b2 e (sv_nil _ _) (sv_nil _ _) ⟨i64_of (by decide), i64_of (by decide), by decide⟩
  rw [show (W.alloc (.cells #[.int .i64 op, .int .i64 n, .string s, v] 41)).heap.size = W.heap.size + 1 by simp] at st
  have hp : PgV _ ((W.alloc (.cells #[.int .i64 op, .int .i64 n, .string s, v] 41)).alloc (.cells #[.int .i64 5, .string ⟨#[]⟩, .int .i64 0, .slice (some ⟨W.heap.size, 0, none⟩) 1 1, .slice none 0 0, .slice none 0 0] 38)) (.agg #[.slice none 0 0, .slice (some ⟨W.heap.size + 1, 0, none⟩) 1 1]) (opsP op n s k) :=
    ⟨none, 0, _, _, rfl, ⟨_, _, rfl, Nat.le_refl _, by decide, fun h => by simp [opsP] at h⟩, st⟩
  refine (right_any _ _ _ _ (Nat.le_refl _) hp (ht.step hb)).mono fun _ _ ⟨he, hb'⟩ => ⟨?_, hb.trans (hb'.mono hb.size)⟩
  rw [he, hs, ops_right op n k nm hn hk]

theorem ops_end {b : Bool} : ((if b = true then (0 : Int) else 1) == 0) = b := by cases b <;> rfl

theorem opsS_other {op : Int} (k : Nat) (nm : Bool) (n : Int) (h : op < 1 ∨ 7 < op) : opsS op k nm n = false := by
  unfold opsS
  rw [if_neg (show ¬ op = 1 by omega), if_neg (show ¬ op = 2 by omega), if_neg (show ¬ op = 3 by omega), if_neg (show ¬ op = 4 by omega), if_neg (show ¬ op = 5 by omega), if_neg (show ¬ (op = 6 ∨ op = 7) by omega)]

theorem opsF_high {op : Int} (k : Nat) (nm : Bool) (n : Int) (h : 8 ≤ op ∧ op ≤ 16) : opsF op k nm n = (decide (k = 2) && (!nm && decide (n = 0))) := by
  unfold opsF
  rw [if_neg (show ¬ op = 1 by omega), if_neg (show ¬ op = 2 by omega), if_neg (show ¬ op = 3 by omega), if_neg (show ¬ op = 4 by omega), if_neg (show ¬ op = 5 by omega), if_neg (show ¬ (op = 6 ∨ op = 7) by omega), if_pos h]
theorem opsF_low {op : Int} (k : Nat) (nm : Bool) (n : Int) (h : ¬ (8 ≤ op ∧ op ≤ 16)) : opsF op k nm n = opsS op k nm n := by
  unfold opsF opsS
  rw [if_neg h]

set_option maxRecDepth 100000 in
set_option maxHeartbeats 8000000 in
theorem ops_yes (op p n : Int) (N k : Nat) (w : World) (hop : I64 op) (hn : I64 n) (hand : bits BinOp.and IntKind.i64 p 65535 = (N : Int)) (hN : N ≤ 65535) (hk : (N : Int) % 11 = (k : Int)) (hk2 : k ≤ 10) (ht : Tab w) :
    Calls Tryd.prog 8 #[.int .i64 op, .int .i64 p, .bool true, .int .i64 n] w fun e w' => e = .returned (.bool true) ∧ Below w.heap.size w w' := by
  have h0 := Fr.refl w
  obtain ⟨i0, hi, hz0, hz1, hz2⟩ := info_parts exprInfo
  have HR := fun W v hv h => ops_call op n k true ⟨#[113]⟩ (by rfl) hop hn hk2 W v hv h
  go_enter Tryd.func8, Tryd.ntmps8
  go_wp2_with (go_at_call 11; ((with_reducible refine (shown_fr w _ ht h0).mono ?_); rintro e w1 ⟨rfl, h1⟩))
  simp only [hk]
  have HK := Lib.hid hk
  clear hk
  go_loopw [11] (fun i wr => ∃ j v, OpsRel w w1.heap.size op n ⟨#[113]⟩ k i wr j v) (fun i _ => k - (intOf i).toNat)
  case atStart =>
    exact ⟨0, .slice none 0 0, rfl, Nat.zero_le _, by rw [cell_new]; rfl, by rw [cell_new]; rfl, by rw [cell_new]; rfl, by rw [cell_new]; rfl, by simp, World.ownsRow_nil _ _ _ _, by simp, h1.size, Fr.alloc h1 _⟩
  case round =>
    obtain ⟨j, v, R⟩ := hrel
    obtain ⟨rfl, hjk, c0, c1, c2, c3, f3, hown, hlt, hge, hfr⟩ := id R
    by_cases hjlt : j < k
    · go_wp2_with (at_builtin; refine wpList_append_own _ rfl (.tmp 29) (.tmp 31) 36 rfl (w1.heap.size + 1) 41 i0 _ 4 56 Tryd.underlying36 hi hz0 hz1 hz2 rfl (by decide) v j (clk j) rfl (hown.alloc _) ⟨wr.heap.size, 0, none⟩ 1 1 [.int .i64 3, .int .i64 0, .string ⟨#[]⟩, .slice none 0 0] rfl rfl four_cells four_one (by unfold maxLen; omega) (by omega) (by simp; omega) ?_; intro v1 w2 hown1 hgrow1 _; have R1 := R.step hjlt hgrow1 hown1; obtain ⟨m0, m1⟩ := R.mid hgrow1; have d3 := (m0 3).trans c3; have e3 := (m1 3).trans f3; obtain ⟨g', cap', rfl⟩ := ownsRow_succ hown1; clear m0 m1)
      go_roundw
      case rel => exact ⟨j + 1, _, R1⟩
      case measure => simp [intOf]; omega
    · have hjk2 : j = k := by omega
      subst hjk2
      have HV := clk_ev hown (by omega)
      have HT := ht.step hfr
      have HRw := Lib.hid (HR wr v HV HT)
      clear R hown HR HV HT
      obtain ⟨J, hJ⟩ : ∃ J : Int, (j : Int) = J := ⟨_, rfl⟩
      simp only [hJ]
      have j0 : 0 ≤ J := by omega
      have HJ := Lib.hid hJ
      clear hJ
      have HJC : Hid (J = 0 ∨ J = 1 ∨ J = 2 ∨ 3 ≤ J) := by show _ ∨ _; omega
      go_upto_block 2 with fail
      go_cut [12] (fun x wx => x = .bool (opsS op j true n) ∧ wx = wr)
      case first =>
        have hJc := HJC.out
        have hoc : op = 1 ∨ op = 2 ∨ op = 3 ∨ op = 4 ∨ op = 5 ∨ op = 6 ∨ op = 7 ∨ (op < 1 ∨ 7 < op) := by omega
        clear HRw HJC
        rcases hoc with rfl | rfl | rfl | rfl | rfl | rfl | rfl | ho
        case inr.inr.inr.inr.inr.inr.inr =>
          have f1 : (op == 1) = false := by rw [beq_eq_false_iff_ne]; omega
          have f2 : (op == 2) = false := by rw [beq_eq_false_iff_ne]; omega
          have f3' : (op == 3) = false := by rw [beq_eq_false_iff_ne]; omega
          have f4 : (op == 4) = false := by rw [beq_eq_false_iff_ne]; omega
          have f5 : (op == 5) = false := by rw [beq_eq_false_iff_ne]; omega
          have f6 : (op == 6) = false := by rw [beq_eq_false_iff_ne]; omega
          have f7 : (op == 7) = false := by rw [beq_eq_false_iff_ne]; omega
          have HO := Lib.hid (opsS_other j true n ho)
          clear ho hJc
          go_wp2_with fail
          go_meet
          exact ⟨congrArg Value.bool HO.out.symm, rfl⟩
        all_goals
          rcases hJc with rfl | rfl | rfl | h3
          case inr.inr.inr =>
            have k0 : (J == 0) = false := by rw [beq_eq_false_iff_ne]; omega
            have k1 : (J == 1) = false := by rw [beq_eq_false_iff_ne]; omega
            have e0 : ¬ j = 0 := by have := HJ.out; omega
            have e1 : ¬ j = 1 := by have := HJ.out; omega
            have E0 := Lib.hid e0
            have E1 := Lib.hid e1
            clear e0 e1
            go_wp2_with fail
            all_goals
              go_meet
              refine ⟨congrArg Value.bool ?_, rfl⟩
              have e0 := E0.out
              have e1 := E1.out
              have hJ := HJ.out
              rw [Bool.eq_iff_iff]
              simp [opsS, e0, e1]
              try omega
          all_goals
            go_wp2_with fail
            all_goals
              go_meet
              refine ⟨congrArg Value.bool ?_, rfl⟩
              have hJ := HJ.out
              obtain rfl : j = Int.toNat _ := (Int.toNat_natCast j).symm.trans (congrArg Int.toNat hJ)
              rw [Bool.eq_iff_iff]
              simp [opsS]
              try omega
      case rest =>
      obtain ⟨rfl, rfl⟩ := hcut
      go_upto_region 25 with fail
      go_cut [110] (fun x wx => x = .bool (decide (8 ≤ op ∧ op ≤ 16)) ∧ wx = wc)
      case first =>
        have hoc : op < 8 ∨ (8 ≤ op ∧ op ≤ 16) ∨ 16 < op := by omega
        clear HRw HJC
        rcases hoc with ho | ⟨ho, ho'⟩ | ho
        · have a1 : decide (8 ≤ op) = false := decide_eq_false (by omega)
          go_wp2_with fail
          go_meet
          exact ⟨congrArg Value.bool (decide_eq_false (by omega)).symm, rfl⟩
        · have a1 : decide (8 ≤ op) = true := decide_eq_true ho
          have a2 : decide (op ≤ 16) = true := decide_eq_true ho'
          go_wp2_with fail
          go_meet
          exact ⟨congrArg Value.bool (decide_eq_true ⟨ho, ho'⟩).symm, rfl⟩
        · have a1 : decide (8 ≤ op) = true := decide_eq_true (by omega)
          have a2 : decide (op ≤ 16) = false := decide_eq_false (by omega)
          go_wp2_with fail
          go_meet
          exact ⟨congrArg Value.bool (decide_eq_false (by omega)).symm, rfl⟩
      case rest =>
      obtain ⟨rfl, rfl⟩ := hcut
      go_upto_if 110 with fail
      go_cut [12] (fun x wx => x = .bool (opsF op j true n) ∧ wx = wc)
      case first =>
        have hJc := HJC.out
        clear HRw HJC
        by_cases hr : 8 ≤ op ∧ op ≤ 16
        · have HF := Lib.hid (opsF_high j true n hr)
          rw [decide_eq_true hr]
          clear hr
          by_cases hj2 : J = 2
          · subst hj2
            clear hJc
            go_wp2_with fail
            all_goals
              go_meet
              refine ⟨congrArg Value.bool ?_, rfl⟩
              rw [HF.out]
              have hJ := HJ.out
              obtain rfl : j = Int.toNat _ := (Int.toNat_natCast j).symm.trans (congrArg Int.toNat hJ)
              rw [Bool.eq_iff_iff]
              simp
          · have k2 : (J == 2) = false := by rw [beq_eq_false_iff_ne]; exact hj2
            have HN2 := Lib.hid hj2
            clear hJc hj2
            go_wp2_with fail
            all_goals
              go_meet
              refine ⟨congrArg Value.bool ?_, rfl⟩
              rw [HF.out]
              have hJ := HJ.out
              have hn2 := HN2.out
              rw [decide_eq_false (show ¬ j = 2 by omega)]
              rfl
        · have HF := Lib.hid (opsF_low j true n hr)
          rw [decide_eq_false hr]
          clear hr hJc
          go_wp2_with fail
          go_meet
          exact ⟨congrArg Value.bool HF.out.symm, rfl⟩
      case rest =>
      obtain ⟨rfl, rfl⟩ := hcut
      have HRv := HRw.out
      obtain ⟨b, hb⟩ : ∃ b, opsF op j true n = b := ⟨_, rfl⟩
      rw [hb] at HRv ⊢
      clear hb HRw
      cases b with
      | true =>
        simp only [if_true] at HRv
        go_wp2_with (go_at_call 12; ((with_reducible refine HRv.mono ?_); rintro e w3 ⟨rfl, hb3⟩))
        go_ret
        exact ⟨rfl, hfr.step hb3⟩
      | false =>
        simp only [if_neg (show ¬ (false = true) by decide)] at HRv
        go_wp2_with (go_at_call 12; ((with_reducible refine HRv.mono ?_); rintro e w3 ⟨rfl, hb3⟩))
        go_ret
        exact ⟨rfl, hfr.step hb3⟩

set_option maxRecDepth 100000 in
set_option maxHeartbeats 8000000 in
theorem ops_no (op p n : Int) (N k : Nat) (w : World) (hop : I64 op) (hn : I64 n) (hand : bits BinOp.and IntKind.i64 p 65535 = (N : Int)) (hN : N ≤ 65535) (hk : (N : Int) % 11 = (k : Int)) (hk2 : k ≤ 10) (ht : Tab w) :
    Calls Tryd.prog 8 #[.int .i64 op, .int .i64 p, .bool false, .int .i64 n] w fun e w' => e = .returned (.bool true) ∧ Below w.heap.size w w' := by
  have h0 := Fr.refl w
  obtain ⟨i0, hi, hz0, hz1, hz2⟩ := info_parts exprInfo
  have HR := fun W v hv h => ops_call op n k false ⟨#[]⟩ (by rfl) hop hn hk2 W v hv h
  go_enter Tryd.func8, Tryd.ntmps8
  go_wp2_with (go_at_call 11; ((with_reducible refine (shown_fr w _ ht h0).mono ?_); rintro e w1 ⟨rfl, h1⟩))
  simp only [hk]
  have HK := Lib.hid hk
  clear hk
  go_loopw [11] (fun i wr => ∃ j v, OpsRel w w1.heap.size op n ⟨#[]⟩ k i wr j v) (fun i _ => k - (intOf i).toNat)
  case atStart =>
    exact ⟨0, .slice none 0 0, rfl, Nat.zero_le _, by rw [cell_new]; rfl, by rw [cell_new]; rfl, by rw [cell_new]; rfl, by rw [cell_new]; rfl, by simp, World.ownsRow_nil _ _ _ _, by simp, h1.size, Fr.alloc h1 _⟩
  case round =>
    obtain ⟨j, v, R⟩ := hrel
    obtain ⟨rfl, hjk, c0, c1, c2, c3, f3, hown, hlt, hge, hfr⟩ := id R
    by_cases hjlt : j < k
    · go_wp2_with (at_builtin; refine wpList_append_own _ rfl (.tmp 29) (.tmp 31) 36 rfl (w1.heap.size + 1) 41 i0 _ 4 56 Tryd.underlying36 hi hz0 hz1 hz2 rfl (by decide) v j (clk j) rfl (hown.alloc _) ⟨wr.heap.size, 0, none⟩ 1 1 [.int .i64 3, .int .i64 0, .string ⟨#[]⟩, .slice none 0 0] rfl rfl four_cells four_one (by unfold maxLen; omega) (by omega) (by simp; omega) ?_; intro v1 w2 hown1 hgrow1 _; have R1 := R.step hjlt hgrow1 hown1; obtain ⟨m0, m1⟩ := R.mid hgrow1; have d3 := (m0 3).trans c3; have e3 := (m1 3).trans f3; obtain ⟨g', cap', rfl⟩ := ownsRow_succ hown1; clear m0 m1)
      go_roundw
      case rel => exact ⟨j + 1, _, R1⟩
      case measure => simp [intOf]; omega
    · have hjk2 : j = k := by omega
      subst hjk2
      have HV := clk_ev hown (by omega)
      have HT := ht.step hfr
      have HRw := Lib.hid (HR wr v HV HT)
      clear R hown HR HV HT
      obtain ⟨J, hJ⟩ : ∃ J : Int, (j : Int) = J := ⟨_, rfl⟩
      simp only [hJ]
      have j0 : 0 ≤ J := by omega
      have HJ := Lib.hid hJ
      clear hJ
      have HJC : Hid (J = 0 ∨ J = 1 ∨ J = 2 ∨ 3 ≤ J) := by show _ ∨ _; omega
      go_upto_block 2 with fail
      go_cut [12] (fun x wx => x = .bool (opsS op j false n) ∧ wx = wr)
      case first =>
        have hJc := HJC.out
        have hoc : op = 1 ∨ op = 2 ∨ op = 3 ∨ op = 4 ∨ op = 5 ∨ op = 6 ∨ op = 7 ∨ (op < 1 ∨ 7 < op) := by omega
        clear HRw HJC
        rcases hoc with rfl | rfl | rfl | rfl | rfl | rfl | rfl | ho
        case inr.inr.inr.inr.inr.inr.inr =>
          have f1 : (op == 1) = false := by rw [beq_eq_false_iff_ne]; omega
          have f2 : (op == 2) = false := by rw [beq_eq_false_iff_ne]; omega
          have f3' : (op == 3) = false := by rw [beq_eq_false_iff_ne]; omega
          have f4 : (op == 4) = false := by rw [beq_eq_false_iff_ne]; omega
          have f5 : (op == 5) = false := by rw [beq_eq_false_iff_ne]; omega
          have f6 : (op == 6) = false := by rw [beq_eq_false_iff_ne]; omega
          have f7 : (op == 7) = false := by rw [beq_eq_false_iff_ne]; omega
          have HO := Lib.hid (opsS_other j false n ho)
          clear ho hJc
          go_wp2_with fail
          go_meet
          exact ⟨congrArg Value.bool HO.out.symm, rfl⟩
        all_goals
          rcases hJc with rfl | rfl | rfl | h3
          case inr.inr.inr =>
            have k0 : (J == 0) = false := by rw [beq_eq_false_iff_ne]; omega
            have k1 : (J == 1) = false := by rw [beq_eq_false_iff_ne]; omega
            have e0 : ¬ j = 0 := by have := HJ.out; omega
            have e1 : ¬ j = 1 := by have := HJ.out; omega
            have E0 := Lib.hid e0
            have E1 := Lib.hid e1
            clear e0 e1
            go_wp2_with fail
            all_goals
              go_meet
              refine ⟨congrArg Value.bool ?_, rfl⟩
              have e0 := E0.out
              have e1 := E1.out
              have hJ := HJ.out
              rw [Bool.eq_iff_iff]
              simp [opsS, e0, e1]
              try omega
          all_goals
            go_wp2_with fail
            all_goals
              go_meet
              refine ⟨congrArg Value.bool ?_, rfl⟩
              have hJ := HJ.out
              obtain rfl : j = Int.toNat _ := (Int.toNat_natCast j).symm.trans (congrArg Int.toNat hJ)
              rw [Bool.eq_iff_iff]
              simp [opsS]
              try omega
      case rest =>
      obtain ⟨rfl, rfl⟩ := hcut
      go_upto_region 25 with fail
      go_cut [110] (fun x wx => x = .bool (decide (8 ≤ op ∧ op ≤ 16)) ∧ wx = wc)
      case first =>
        have hoc : op < 8 ∨ (8 ≤ op ∧ op ≤ 16) ∨ 16 < op := by omega
        clear HRw HJC
        rcases hoc with ho | ⟨ho, ho'⟩ | ho
        · have a1 : decide (8 ≤ op) = false := decide_eq_false (by omega)
          go_wp2_with fail
          go_meet
          exact ⟨congrArg Value.bool (decide_eq_false (by omega)).symm, rfl⟩
        · have a1 : decide (8 ≤ op) = true := decide_eq_true ho
          have a2 : decide (op ≤ 16) = true := decide_eq_true ho'
          go_wp2_with fail
          go_meet
          exact ⟨congrArg Value.bool (decide_eq_true ⟨ho, ho'⟩).symm, rfl⟩
        · have a1 : decide (8 ≤ op) = true := decide_eq_true (by omega)
          have a2 : decide (op ≤ 16) = false := decide_eq_false (by omega)
          go_wp2_with fail
          go_meet
          exact ⟨congrArg Value.bool (decide_eq_false (by omega)).symm, rfl⟩
      case rest =>
      obtain ⟨rfl, rfl⟩ := hcut
      go_upto_if 110 with fail
      go_cut [12] (fun x wx => x = .bool (opsF op j false n) ∧ wx = wc)
      case first =>
        have hJc := HJC.out
        clear HRw HJC
        by_cases hr : 8 ≤ op ∧ op ≤ 16
        · have HF := Lib.hid (opsF_high j false n hr)
          rw [decide_eq_true hr]
          clear hr
          by_cases hj2 : J = 2
          · subst hj2
            clear hJc
            go_wp2_with fail
            all_goals
              go_meet
              refine ⟨congrArg Value.bool ?_, rfl⟩
              rw [HF.out]
              have hJ := HJ.out
              obtain rfl : j = Int.toNat _ := (Int.toNat_natCast j).symm.trans (congrArg Int.toNat hJ)
              rw [Bool.eq_iff_iff]
              simp
          · have k2 : (J == 2) = false := by rw [beq_eq_false_iff_ne]; exact hj2
            have HN2 := Lib.hid hj2
            clear hJc hj2
            go_wp2_with fail
            all_goals
              go_meet
              refine ⟨congrArg Value.bool ?_, rfl⟩
              rw [HF.out]
              have hJ := HJ.out
              have hn2 := HN2.out
              rw [decide_eq_false (show ¬ j = 2 by omega)]
              rfl
        · have HF := Lib.hid (opsF_low j false n hr)
          rw [decide_eq_false hr]
          clear hr hJc
          go_wp2_with fail
          go_meet
          exact ⟨congrArg Value.bool HF.out.symm, rfl⟩
      case rest =>
      obtain ⟨rfl, rfl⟩ := hcut
      have HRv := HRw.out
      obtain ⟨b, hb⟩ : ∃ b, opsF op j false n = b := ⟨_, rfl⟩
      rw [hb] at HRv ⊢
      clear hb HRw
      cases b with
      | true =>
        simp only [if_true] at HRv
        go_wp2_with (go_at_call 12; ((with_reducible refine HRv.mono ?_); rintro e w3 ⟨rfl, hb3⟩))
        go_ret
        exact ⟨rfl, hfr.step hb3⟩
      | false =>
        simp only [if_neg (show ¬ (false = true) by decide)] at HRv
        go_wp2_with (go_at_call 12; ((with_reducible refine HRv.mono ?_); rintro e w3 ⟨rfl, hb3⟩))
        go_ret
        exact ⟨rfl, hfr.step hb3⟩

theorem ops_walk (op p : Int) (nm : Bool) (n : Int) (w : World) (hop : I64 op) (_hp : I64 p) (hn : I64 n) (ht : Tab w) :
    Calls Tryd.prog 8 #[.int .i64 op, .int .i64 p, .bool nm, .int .i64 n] w fun e w' => e = .returned (.bool true) ∧ Below w.heap.size w w' := by
  obtain ⟨N, hN, hN2⟩ := and_16 p
  cases nm with
  | true => exact ops_yes op p n N (N % 11) w hop hn hN hN2 (by omega) (by omega) ht
  | false => exact ops_no op p n N (N % 11) w hop hn hN hN2 (by omega) (by omega) ht

end Go.Proofs.YtnjghoaelcpljaaDoor
