/-
  Texts CpM CpN CpO: put together.
-/
import Derived.Test.YtnilklgnpfgieaaDoorCpL
/-
  What the rows' variables give a call; Compile at every program; small programs in memory.
-/
namespace Go.Proofs.YtnilklgnpfgieaaDoor
open Go Go.RowKit Go.Lib

/-- The tables that the calls read. -/
structure TB (w : World) : Prop where
  ct : ∃ lo, CT lo w
  tab : Tab w
  sm : SameAt w
theorem TB.lw {w : World} (h : TB w) : 7 ≤ w.heap.size := h.tab.1
theorem TB.step {w w' : World} (h : TB w) (hb : Below w.heap.size w w') : TB w' := by
  obtain ⟨lo, hc⟩ := h.ct
  exact ⟨⟨lo, hc.step hb⟩, h.tab.below hb h.lw, h.sm.below (Nat.lt_of_lt_of_le (by decide) h.lw) hb⟩

theorem compile_any (v : Value) (p : Pg) (w : World) (hv : PgV w.heap.size w v p) (ht : TB w) (hc : cntL p.pts ≤ 10000000) :
    Calls Tryd.prog 5 #[v] w fun e w' => ∃ vf, e = .returned (.tuple #[.agg #[vf], .int .i64 (resErr p)]) ∧ FcV w'.heap.size w' vf (cmpP p) ∧ Below w.heap.size w w' := by
  by_cases h : resErr p = 0
  · refine (compile_ok v p w hv ht.tab (Nat.lt_of_lt_of_le (by decide) ht.lw) ht.sm hc h).mono ?_
    rintro e w' ⟨vf, rfl, h1, h2⟩
    refine ⟨vf, by rw [h], ?_, h2⟩
    unfold cmpP; rw [if_pos h]; exact h1
  · refine (compile_err v p w hv ht.tab hc h).mono ?_
    rintro e w' ⟨rfl, h2⟩
    exact ⟨_, rfl, fcv_nil _ _ _ h, h2⟩

theorem fv_nil (B : Nat) (W : World) : FV B W (.slice none 0 0) [] := ⟨none, 0, rfl, Nat.le_refl _, by decide, fun h => by simp at h⟩
theorem ev_one {B b : Nat} {W : World} {op m : Int} {s : ByteArray} {vl : Value} {l : ES} (h : W.heap[b]? = some (exprO op m s vl)) (hb : b < B) (hl : EV B W vl l) (hop : I64 op) (hm : I64 m) (hs : s.size ≤ 9223372036854775807) : EV B W (.slice (some ⟨b, 0, none⟩) 1 1) (.cons op m s l .nil) :=
  ⟨_, 1, rfl, Nat.le_refl _, by decide, fun _ => ⟨b, 0, rfl, hb, (blk_cell h 0).trans rfl, (blk_cell h 1).trans rfl, (blk_cell h 2).trans rfl, ⟨vl, (blk_cell h 3).trans rfl, hl⟩, ⟨hop, hm, hs⟩, trivial⟩⟩
theorem ev_two {B b : Nat} {W : World} {op m op' m' : Int} {s s' : ByteArray} {vl vl' : Value} {l l' : ES} {t : TypeId} (h : W.heap[b]? = some (.cells #[.int .i64 op, .int .i64 m, .string s, vl, .int .i64 op', .int .i64 m', .string s', vl'] t)) (hb : b < B) (hl : EV B W vl l) (hl' : EV B W vl' l') (hop : I64 op) (hm : I64 m) (hs : s.size ≤ 9223372036854775807) (hop' : I64 op') (hm' : I64 m') (hs' : s'.size ≤ 9223372036854775807) :
    EV B W (.slice (some ⟨b, 0, none⟩) 2 2) (.cons op m s l (.cons op' m' s' l' .nil)) :=
  ⟨_, 2, rfl, Nat.le_refl _, by decide, fun _ => ⟨b, 0, rfl, hb, (blk_cell h 0).trans rfl, (blk_cell h 1).trans rfl, (blk_cell h 2).trans rfl, ⟨vl, (blk_cell h 3).trans rfl, hl⟩, ⟨hop, hm, hs⟩, (blk_cell h 4).trans rfl, (blk_cell h 5).trans rfl, (blk_cell h 6).trans rfl, ⟨vl', (blk_cell h 7).trans rfl, hl'⟩, ⟨hop', hm', hs'⟩, trivial⟩⟩
theorem sv_one {B b : Nat} {W : World} {op m : Int} {s : ByteArray} {vl vb ve : Value} {l : ES} {x y : SS} (h : W.heap[b]? = some (stmtO op s m vl vb ve)) (hb : b < B) (hl : EV B W vl l) (hx : SV B W vb x) (hy : SV B W ve y) (hop : I64 op) (hm : I64 m) (hs : s.size ≤ 9223372036854775807) : SV B W (.slice (some ⟨b, 0, none⟩) 1 1) (.cons op s m l x y .nil) :=
  ⟨_, 1, rfl, Nat.le_refl _, by decide, fun _ => ⟨b, 0, rfl, hb, (blk_cell h 0).trans rfl, (blk_cell h 1).trans rfl, (blk_cell h 2).trans rfl, ⟨vl, (blk_cell h 3).trans rfl, hl⟩, ⟨vb, (blk_cell h 4).trans rfl, hx⟩, ⟨ve, (blk_cell h 5).trans rfl, hy⟩, ⟨hop, hm, hs⟩, trivial⟩⟩
theorem pg_main {B : Nat} {W : World} {A : Option Addr} {k c : Nat} {m : SS} (h : SV B W (.slice A k c) m) : PgV B W (.agg #[.slice none 0 0, .slice A k c]) ⟨[], m⟩ := by
  obtain ⟨_, _, e, h1⟩ := id h
  injection e with e1 e2 e3
  subst e1 e2 e3
  exact ⟨none, 0, A, c, rfl, fv_nil _ _, h⟩
theorem i64_lit {n : Int} (h : (decide (-9223372036854775808 ≤ n) && decide (n ≤ 9223372036854775807)) = true) : I64 n := by simpa [I64] using h

/-- The three programs of 'shown', and what they are as code. -/
abbrev nox : ByteArray := ⟨#[120]⟩
abbrev nof : ByteArray := ⟨#[102]⟩
abbrev noz : ByteArray := ⟨#[]⟩
def pA : Pg := ⟨[], .cons 5 noz 0 (.cons 8 0 noz (.cons 1 1 noz .nil (.cons 1 2 noz .nil .nil)) .nil) .nil .nil .nil⟩
def pB : Pg := ⟨[], .cons 8 noz 0 (.cons 2 0 nox .nil .nil) (.cons 4 nox 0 .nil .nil .nil .nil) .nil .nil⟩
def pC : Pg := ⟨[], .cons 1 nox 0 (.cons 5 0 nof .nil .nil) .nil .nil .nil⟩
theorem errA : resErr pA = 0 := by decide +kernel
theorem errB : resErr pB = 0 := by decide +kernel
theorem errC : resErr pC = 4 := by decide +kernel
theorem cmpA : cmpP pA = [⟨noz, 0, 0, 0, [(1, 0, 1), (1, 0, 2), (6, 0, 0), (19, 0, 0), (1, 0, 0), (18, 0, 0)]⟩] := by unfold cmpP; rw [if_pos errA]; kernel_rfl
theorem cmpB : cmpP pB = [⟨noz, 0, 1, 0, [(2, 0, 0), (16, 4, 0), (21, 0, 0), (15, 0, 0), (1, 0, 0), (18, 0, 0)]⟩] := by unfold cmpP; rw [if_pos errB]; kernel_rfl
end Go.Proofs.YtnilklgnpfgieaaDoor

/-
  The statements' own 'shown'.
-/
namespace Go.Proofs.YtnilklgnpfgieaaDoor
open Go Go.RowKit Go.Lib

abbrev oneO (a b : Int) : Obj := .cells #[.int .i64 1, .int .i64 a, .string noz, .slice none 0 0, .int .i64 1, .int .i64 b, .string noz, .slice none 0 0] 35
set_option maxHeartbeats 1000000 in
theorem two_any (w : World) : Calls Tryd.prog 7 #[] w fun e w' => e = .returned (.agg #[.int .i64 8, .int .i64 0, .string noz, .slice (some ⟨w.heap.size + 1, 0, none⟩) 2 2]) ∧ w'.heap[w.heap.size + 1]? = some (oneO 1 2) ∧ Below w.heap.size w w' := by
  go_enter Tryd.func7, Tryd.ntmps7
  go_wp2
  have h0 : ((w.alloc (exprO 8 0 noz (.slice (some ⟨w.heap.size + 1, 0, none⟩) 2 2))).alloc (oneO 1 2)).heap[w.heap.size]? = some (exprO 8 0 noz (.slice (some ⟨w.heap.size + 1, 0, none⟩) 2 2)) := blk_alloc (heap_alloc_new _ _) _
  exact bodyPost_ret (v := .agg #[.int .i64 8, .int .i64 0, .string noz, .slice (some ⟨w.heap.size + 1, 0, none⟩) 2 2]) (results_cell_row rfl _ _ w.heap.size 35 _ (0, 0) _ rfl h0 Tryd.underlying35 rfl (by kernel_rfl)) rfl ⟨rfl, new2 _ _ _, ((Below.refl _ _).alloc (Nat.le_refl _) _).alloc (by simp) _⟩

/-- Compile at a program whose code is one function of six instructions. -/
theorem comp_one (v : Value) (p : Pg) (L : List In3) (T : List UInt8) (x y z : Nat) (w : World) (hv : PgV w.heap.size w v p) (ht : TB w) (hc : cntL p.pts ≤ 10000000) (he : resErr p = 0) (hL : cmpP p = [⟨noz, x, y, z, L⟩]) (h6 : L.length = 6) (hok : InsOk L) (hT : textT 0 L = T) :
    Calls Tryd.prog 5 #[v] w fun e w' => ∃ (g o c : Nat) (Av : Option Addr) (cv : Nat), e = .returned (.tuple #[.agg #[.slice (some ⟨g, o, none⟩) 1 c], .int .i64 0]) ∧ 1 ≤ c ∧ c ≤ 9223372036854775807 ∧ g < w'.heap.size ∧ w'.cell? ⟨g, o + 4, none⟩ = some (.slice Av 6 cv) ∧ 6 ≤ cv ∧
      (∀ W, Below w'.heap.size w' W → Calls Tryd.prog 6 #[.slice Av 6 cv] W fun e W' => e = .returned (.string ⟨T.toArray⟩) ∧ Below W.heap.size W W') ∧ Below w.heap.size w w' := by
  refine (compile_any v p w hv ht hc).mono ?_
  rintro e w' ⟨vf, rfl, hf, hb⟩
  rw [hL] at hf
  obtain ⟨A, c, rfl, h1, h2, h3⟩ := hf
  obtain ⟨g, o, rfl, hg, hin⟩ := h3 (by simp)
  obtain ⟨_, _, _, _, ⟨vl, hc4, hl⟩, _⟩ := hin
  obtain ⟨Av, cv, rfl, k1, k2⟩ := id hl
  rw [h6] at hl hc4 k1
  refine ⟨g, o, c, Av, cv, by rw [he]; rfl, h1, h2, hg, hc4, k1, fun W hW => ?_, hb⟩
  obtain ⟨lo, hct⟩ := ((ht.step hb).step hW).ct
  have := text_any L lo W Av cv hct (by rw [h6]; exact InV.below hl hW hW.size) hok (by omega)
  rw [h6, hT] at this
  exact this

def LA : List In3 := [(1, 0, 1), (1, 0, 2), (6, 0, 0), (19, 0, 0), (1, 0, 0), (18, 0, 0)]
def LB : List In3 := [(2, 0, 0), (16, 4, 0), (21, 0, 0), (15, 0, 0), (1, 0, 0), (18, 0, 0)]
abbrev TA : List UInt8 := [48, 32, 112, 117, 115, 104, 32, 49, 10, 49, 32, 112, 117, 115, 104, 32, 50, 10, 50, 32, 97, 100, 100, 10, 51, 32, 112, 114, 105, 110, 116, 10, 52, 32, 112, 117, 115, 104, 32, 48, 10, 53, 32, 114, 101, 116, 117, 114, 110, 10]
abbrev TBB : List UInt8 := [48, 32, 108, 111, 97, 100, 32, 48, 10, 49, 32, 122, 101, 114, 111, 32, 52, 10, 50, 32, 105, 110, 112, 117, 116, 32, 48, 32, 48, 10, 51, 32, 106, 117, 109, 112, 32, 48, 10, 52, 32, 112, 117, 115, 104, 32, 48, 10, 53, 32, 114, 101, 116, 117, 114, 110, 10]
theorem txB : textT 0 LB = TBB := by decide +kernel
theorem txA : textT 0 LA = TA := by decide +kernel
theorem insOk_dec {l : List In3} (h : (l.all fun x => decide (-9223372036854775808 ≤ x.1) && decide (x.1 ≤ 9223372036854775807) && (decide (-9223372036854775808 ≤ x.2.1) && decide (x.2.1 ≤ 9223372036854775807)) && (decide (-9223372036854775808 ≤ x.2.2) && decide (x.2.2 ≤ 9223372036854775807))) = true) : InsOk l := by
  intro x hx
  have := List.all_eq_true.1 h x hx
  simp only [Bool.and_eq_true, decide_eq_true_eq] at this
  exact ⟨⟨this.1.1.1, this.1.1.2⟩, ⟨this.1.2.1, this.1.2.2⟩, this.2.1, this.2.2⟩
end Go.Proofs.YtnilklgnpfgieaaDoor

/-
  'shown' tells true.
-/
namespace Go.Proofs.YtnilklgnpfgieaaDoor
open Go Go.RowKit Go.Lib

theorem callA {b : Nat} {w w1 : World} (ht : TB w) (h1 : Below w.heap.size w w1) (hb : w1.heap[b]? = some (oneO 1 2)) : ∀ _A : Unit,
    Calls Tryd.prog 5 #[.agg #[.slice none 0 0, .slice (some ⟨w1.heap.size + 1, 0, none⟩) 1 1]] ((w1.alloc (exprO 8 0 noz (.slice (some ⟨b, 0, none⟩) 2 2))).alloc (stmtO 5 noz 0 (.slice (some ⟨w1.heap.size, 0, none⟩) 1 1) (.slice none 0 0) (.slice none 0 0))) fun e w' => ∃ (g o c : Nat) (Av : Option Addr) (cv : Nat), e = .returned (.tuple #[.agg #[.slice (some ⟨g, o, none⟩) 1 c], .int .i64 0]) ∧ 1 ≤ c ∧ c ≤ 9223372036854775807 ∧ g < w'.heap.size ∧ w'.cell? ⟨g, o + 4, none⟩ = some (.slice Av 6 cv) ∧ 6 ≤ cv ∧
      (∀ W, Below w'.heap.size w' W → Calls Tryd.prog 6 #[.slice Av 6 cv] W fun e W' => e = .returned (.string ⟨TA.toArray⟩) ∧ Below W.heap.size W W') ∧ Below w.heap.size w w' := fun _ => by
  have hw : Below w.heap.size w ((w1.alloc (exprO 8 0 noz (.slice (some ⟨b, 0, none⟩) 2 2))).alloc (stmtO 5 noz 0 (.slice (some ⟨w1.heap.size, 0, none⟩) 1 1) (.slice none 0 0) (.slice none 0 0))) := (h1.alloc h1.size _).alloc (by have := h1.size; simp only [World.size_alloc]; omega) _
  have b2 := new2 w1 (exprO 8 0 noz (.slice (some ⟨b, 0, none⟩) 2 2)) (stmtO 5 noz 0 (.slice (some ⟨w1.heap.size, 0, none⟩) 1 1) (.slice none 0 0) (.slice none 0 0))
  have b1 := blk_alloc (heap_alloc_new w1 (exprO 8 0 noz (.slice (some ⟨b, 0, none⟩) 2 2))) (stmtO 5 noz 0 (.slice (some ⟨w1.heap.size, 0, none⟩) 1 1) (.slice none 0 0) (.slice none 0 0))
  have b0 := blk_alloc (blk_alloc hb (exprO 8 0 noz (.slice (some ⟨b, 0, none⟩) 2 2))) (stmtO 5 noz 0 (.slice (some ⟨w1.heap.size, 0, none⟩) 1 1) (.slice none 0 0) (.slice none 0 0))
  refine (comp_one _ pA LA TA 0 0 0 _ (pg_main (sv_one b2 (blk_lt b2) (ev_one b1 (blk_lt b1) (ev_two b0 (blk_lt b0) (ev_nil _ _) (ev_nil _ _) (i64_lit rfl) (i64_lit rfl) (by decide) (i64_lit rfl) (i64_lit rfl) (by decide)) (i64_lit rfl) (i64_lit rfl) (by decide)) (sv_nil _ _) (sv_nil _ _) (i64_lit rfl) (i64_lit rfl) (by decide))) (ht.step hw) (by decide +kernel) errA cmpA rfl (insOk_dec (by decide +kernel)) txA).mono ?_
  rintro e w' ⟨g, o, c, Av, cv, rfl, h2, h3, h4, h5, h6, h7, h8⟩
  exact ⟨g, o, c, Av, cv, rfl, h2, h3, h4, h5, h6, h7, hw.trans (h8.mono hw.size)⟩
theorem callB {w w1 : World} (ht : TB w) (h1 : Below w.heap.size w w1) : ∀ _A : Unit,
    Calls Tryd.prog 5 #[.agg #[.slice none 0 0, .slice (some ⟨w1.heap.size + 1 + 1, 0, none⟩) 1 1]] (((w1.alloc (exprO 2 0 nox (.slice none 0 0))).alloc (stmtO 4 nox 0 (.slice none 0 0) (.slice none 0 0) (.slice none 0 0))).alloc (stmtO 8 noz 0 (.slice (some ⟨w1.heap.size, 0, none⟩) 1 1) (.slice (some ⟨w1.heap.size + 1, 0, none⟩) 1 1) (.slice none 0 0))) fun e w' => ∃ (g o c : Nat) (Av : Option Addr) (cv : Nat), e = .returned (.tuple #[.agg #[.slice (some ⟨g, o, none⟩) 1 c], .int .i64 0]) ∧ 1 ≤ c ∧ c ≤ 9223372036854775807 ∧ g < w'.heap.size ∧ w'.cell? ⟨g, o + 4, none⟩ = some (.slice Av 6 cv) ∧ 6 ≤ cv ∧
      (∀ W, Below w'.heap.size w' W → Calls Tryd.prog 6 #[.slice Av 6 cv] W fun e W' => e = .returned (.string ⟨TBB.toArray⟩) ∧ Below W.heap.size W W') ∧ Below w.heap.size w w' := fun _ => by
  obtain ⟨o1, ho1⟩ : ∃ o, exprO 2 0 nox (.slice none 0 0) = o := ⟨_, rfl⟩
  obtain ⟨o2, ho2⟩ : ∃ o, stmtO 4 nox 0 (.slice none 0 0) (.slice none 0 0) (.slice none 0 0) = o := ⟨_, rfl⟩
  obtain ⟨o3, ho3⟩ : ∃ o, stmtO 8 noz 0 (.slice (some ⟨w1.heap.size, 0, none⟩) 1 1) (.slice (some ⟨w1.heap.size + 1, 0, none⟩) 1 1) (.slice none 0 0) = o := ⟨_, rfl⟩
  rw [ho1, ho2, ho3]
  have hw : Below w.heap.size w (((w1.alloc o1).alloc o2).alloc o3) := ((h1.alloc h1.size _).alloc (by have := h1.size; simp only [World.size_alloc]; omega) _).alloc (by have := h1.size; simp only [World.size_alloc]; omega) _
  have b3 : (((w1.alloc o1).alloc o2).alloc o3).heap[w1.heap.size + 1 + 1]? = some o3 := blk_new (by simp only [World.size_alloc])
  have b2 : (((w1.alloc o1).alloc o2).alloc o3).heap[w1.heap.size + 1]? = some o2 := blk_alloc (new2 w1 o1 o2) o3
  have b1 : (((w1.alloc o1).alloc o2).alloc o3).heap[w1.heap.size]? = some o1 := blk_alloc (blk_alloc (heap_alloc_new w1 o1) o2) o3
  subst ho1 ho2 ho3
  refine (comp_one _ pB LB TBB 0 1 0 _ (pg_main (sv_one b3 (blk_lt b3) (ev_one b1 (blk_lt b1) (ev_nil _ _) (i64_lit rfl) (i64_lit rfl) (by decide)) (sv_one b2 (blk_lt b2) (ev_nil _ _) (sv_nil _ _) (sv_nil _ _) (i64_lit rfl) (i64_lit rfl) (by decide)) (sv_nil _ _) (i64_lit rfl) (i64_lit rfl) (by decide))) (ht.step hw) (by decide +kernel) errB cmpB rfl (insOk_dec (by decide +kernel)) txB).mono ?_
  rintro e w' ⟨g, o, c, Av, cv, rfl, h2, h3, h4, h5, h6, h7, h8⟩
  exact ⟨g, o, c, Av, cv, rfl, h2, h3, h4, h5, h6, h7, hw.trans (h8.mono hw.size)⟩
theorem callC {w w1 : World} (ht : TB w) (h1 : Below w.heap.size w w1) : ∀ _A : Unit,
    Calls Tryd.prog 5 #[.agg #[.slice none 0 0, .slice (some ⟨w1.heap.size + 1, 0, none⟩) 1 1]] ((w1.alloc (exprO 5 0 nof (.slice none 0 0))).alloc (stmtO 1 nox 0 (.slice (some ⟨w1.heap.size, 0, none⟩) 1 1) (.slice none 0 0) (.slice none 0 0))) fun e w' => ∃ (A : Option Addr) (c : Nat), e = .returned (.tuple #[.agg #[.slice A 0 c], .int .i64 4]) ∧ Below w.heap.size w w' := fun _ => by
  have hw : Below w.heap.size w ((w1.alloc (exprO 5 0 nof (.slice none 0 0))).alloc (stmtO 1 nox 0 (.slice (some ⟨w1.heap.size, 0, none⟩) 1 1) (.slice none 0 0) (.slice none 0 0))) := (h1.alloc h1.size _).alloc (by have := h1.size; simp only [World.size_alloc]; omega) _
  have b2 := new2 w1 (exprO 5 0 nof (.slice none 0 0)) (stmtO 1 nox 0 (.slice (some ⟨w1.heap.size, 0, none⟩) 1 1) (.slice none 0 0) (.slice none 0 0))
  have b1 := blk_alloc (heap_alloc_new w1 (exprO 5 0 nof (.slice none 0 0))) (stmtO 1 nox 0 (.slice (some ⟨w1.heap.size, 0, none⟩) 1 1) (.slice none 0 0) (.slice none 0 0))
  refine (compile_any _ pC _ (pg_main (sv_one b2 (blk_lt b2) (ev_one b1 (blk_lt b1) (ev_nil _ _) (i64_lit rfl) (i64_lit rfl) (by decide)) (sv_nil _ _) (sv_nil _ _) (i64_lit rfl) (i64_lit rfl) (by decide))) (ht.step hw) (by decide +kernel)).mono ?_
  rintro e w' ⟨vf, rfl, h2, h3⟩
  have hz : (cmpP pC).length = 0 := by unfold cmpP; rw [if_neg (by rw [errC]; decide)]; rfl
  obtain ⟨A, c, rfl, _⟩ := h2
  rw [hz, errC]
  exact ⟨A, c, rfl, hw.trans (h3.mono hw.size)⟩

set_option maxRecDepth 100000 in
set_option maxHeartbeats 8000000 in
theorem shown_any (w : World) (ht : TB w) : Calls Tryd.prog 4 #[] w fun e w' => e = .returned (.bool true) ∧ Below w.heap.size w w' := by
  have HT := Lib.hid ht
  clear ht
  go_enter Tryd.func4, Tryd.ntmps4
  go_wp2_with (first
    | (go_at_call 7; ((with_reducible refine (two_any _).mono ?_); rintro e w1 ⟨rfl, hb1, h1⟩; have HA := Lib.hid (callA HT.out h1 hb1 ()); clear hb1 h1))
    | (go_at_call 5; first
        | ((with_reducible refine HA.out.mono ?_); rintro e w2 ⟨g, o, c, Av, cv, rfl, k1, k2, k3, k4, k5, htx, h2⟩; have HX := Lib.hid (htx _ ((Below.refl _ _).alloc (Nat.le_refl _) (cdO (.slice (some ⟨g, o, none⟩) 1 c)))); have H2 := Lib.hid (h2.alloc h2.size (cdO (.slice (some ⟨g, o, none⟩) 1 c))); clear htx h2)
        | ((with_reducible refine HB.out.mono ?_); rintro e w4 ⟨g4, o4, c4, Av4, cv4, rfl, m1, m2, m3, m4, m5, htx4, h4⟩; have HX4 := Lib.hid (htx4 _ ((Below.refl _ _).alloc (Nat.le_refl _) (cdO (.slice (some ⟨g4, o4, none⟩) 1 c4)))); have H4 := Lib.hid (h4.alloc h4.size (cdO (.slice (some ⟨g4, o4, none⟩) 1 c4))); clear htx4 h4)
        | ((with_reducible refine HC.out.mono ?_); rintro e w6 ⟨A6, c6, rfl, h6⟩))
    | (go_at_call 6; first
        | ((with_reducible refine HX.out.mono ?_); rintro e w3 ⟨rfl, h3⟩; have H3 := Lib.hid (H2.out.trans (h3.mono H2.out.size)); have HB := Lib.hid (callB HT.out H3.out ()); clear h3)
        | ((with_reducible refine HX4.out.mono ?_); rintro e w5 ⟨rfl, h5⟩; have H5 := Lib.hid (H4.out.trans (h5.mono H4.out.size)); have HC := Lib.hid (callC HT.out H5.out ()); clear h5)))
  go_ret
  exact ⟨rfl, h6.alloc h6.size _⟩
end Go.Proofs.YtnilklgnpfgieaaDoor

