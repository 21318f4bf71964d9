/-
  makes: the instruction of an expression.
-/
import Derived.Test.YtnilklgnpfgieaaDoorCpB
import Derived.Laws.Rows
namespace Go.Proofs.YtnilklgnpfgieaaDoor
open Go Go.RowKit Go.Lib

def sameT : List Int := [0, 0, 0, 25, 0, 0, 4, 5, 6, 7, 8, 9, 10, 11, 12, 13, 14]
def SameAt (w : World) : Prop := ∀ k : Nat, k < 17 → w.cell? ⟨4, k, none⟩ = some (.int .i64 (sameT.getD k 0))
theorem SameAt.below {B : Nat} {w w' : World} (h : SameAt w) (hB : 4 < B) (hb : Below B w w') : SameAt w' := fun k hk => (hb.cell (p := ⟨_, k, none⟩) hB).trans (h k hk)
/-- The map of functions' places. -/
def PMap (M : Nat) (pl : ByteArray → Int) (W : World) : Prop :=
  ∃ (N : Nat) (D : DataW Unit), W.ownsMap Tryd.prog 9 (plainElem Tryd.prog 3) M N D ∧ ∀ s : ByteArray, D.atKey (.string s.data.toList) (.lit (.int .i64 0)) = .lit (.int .i64 (pl s))
theorem PMap.below {M B : Nat} {pl : ByteArray → Int} {W W' : World} (h : PMap M pl W) (hM : M < B) (hb : Below B W W') : PMap M pl W' := by
  obtain ⟨N, D, ⟨es, cl, h1, h2⟩, h3⟩ := h
  exact ⟨N, D, ⟨es, cl, (hb.block M hM).trans h1, h2⟩, h3⟩
set_option maxRecDepth 100000 in
theorem PMap.look {M : Nat} {pl : ByteArray → Int} {W : World} (h : PMap M pl W) (s : ByteArray) (hs : s.size ≤ 9223372036854775807) :
    (Instr.lookup 49 (.map (some M)) (.string s) false).run Tryd.prog W = .ok (.int .i64 (pl s)) W := by
  obtain ⟨N, D, h1, h2⟩ := h
  obtain ⟨c, hr, hc, _⟩ := h1.lookup_int (Maps.string_keyed Tryd.underlying9) Tryd.underlying49 Tryd.underlying3 (zeroI _) (Go.WideMaps.keyOf_string_mk Tryd.underlying9 (s := s) (by unfold maxLen; omega))
  rw [h2 s] at hc
  injection hc with hc
  injection hc with _ hc
  rw [hr, hc]
/-- The instruction of an expression. -/
def mkI (s : Sp) (pl : ByteArray → Int) (op m : Int) (x : ByteArray) : In3 :=
  if op = 1 then (1, 0, m) else if op = 2 then (2, slotP s.vs x, 0) else if op = 4 then (23, slotP s.xs x, 0) else if op = 5 then (17, pl x, 0) else (sameT.getD op.toNat 0, 0, 0)
abbrev in3V (i : In3) : Value := .agg #[.int .i64 i.1, .int .i64 i.2.1, .int .i64 i.2.2]

theorem ins_end {w wa : World} {b : Nat} {r0 r1 r2 : Value} (hx : wa.heap[b]? = some (.cells #[r0, r1, r2] 43)) (hb : Below w.heap.size w wa) (x y z : Int) (W : World) (hW : (((wa.setCell ⟨b, 0, none⟩ (.int .i64 x)).setCell ⟨b, 1, none⟩ (.int .i64 y)).setCell ⟨b, 2, none⟩ (.int .i64 z)).drew = W) (hbw : w.heap.size ≤ b := by omega) :
    W.heap[b]? = some (insO x y z) ∧ Below w.heap.size w W := by
  rw [← hW]
  exact ⟨(blk_set ((blk_set ((blk_set hx 0 _).trans rfl) 1 _).trans rfl) 2 _).trans rfl, belowD (((hb.setCell (p := ⟨b, 0, none⟩) hbw _).setCell (p := ⟨b, 1, none⟩) hbw _).setCell (p := ⟨b, 2, none⟩) hbw _)⟩
set_option maxRecDepth 100000 in
set_option maxHeartbeats 4000000 in
theorem makes_w {n N O : Nat} {w0 w : World} {s : Sp} {vv va : Value} {M : Nat} {L : List In3} {pl : ByteArray → Int} (op m : Int) (x : ByteArray) (A : Option Addr) (k c : Nat) (h : WI n N O w0 s vv va M L w) (hvv : RowV (PsIn w0 s.vs) n s.vs.length vv) (hva : RowV (PsIn w0 s.xs) n s.xs.length va)
    (hM : M < n) (hp : PMap M pl w0) (hg : 4 < n) (hsm : SameAt w0) (hop : 1 ≤ op ∧ op ≤ 16) (hx : x.size ≤ 9223372036854775807) :
    Calls Tryd.prog 70 #[.pointer (some ⟨O, 0, none⟩), .agg #[.int .i64 op, .int .i64 m, .string x, .slice A k c]] w fun e w' => e = .returned (in3V (mkI s pl op m x)) ∧ Below w.heap.size w w' := by
  have HH := Lib.hid h
  by_cases h1 : op = 1
  · have hst : mkI s pl op m x = (1, 0, m) := by unfold mkI; rw [if_pos h1]
    rw [hst]
    clear hst h
    subst h1
    go_enter Tryd.func70, Tryd.ntmps70
    go_wp2
    exact bodyPost_ret (v := .agg #[.int .i64 1, .int .i64 0, .int .i64 m]) (results_cell_row rfl _ _ (w.heap.size + 1) 43 _ (0, 0) _ rfl (new2 _ _ _) Tryd.underlying43 rfl (by kernel_rfl)) rfl ⟨rfl, ((Below.refl _ _).alloc (Nat.le_refl _) _).alloc (by simp) _⟩
  by_cases h2 : op = 2
  · have hst : mkI s pl op m x = (2, slotP s.vs x, 0) := by unfold mkI; rw [if_neg h1, if_pos h2]
    rw [hst]
    have HC := Lib.hid (wvar_any x ((h.alloc (exprO op m x (.slice A k c))).alloc (insO 0 0 0)) hvv)
    clear hst h h1
    subst h2
    go_enter Tryd.func70, Tryd.ntmps70
    go_wp2_with (go_at_call 72; ((with_reducible refine HC.out.mono ?_); rintro e w1 ⟨rfl, rfl⟩))
    exact bodyPost_ret (v := .agg #[.int .i64 2, .int .i64 (slotP s.vs x), .int .i64 0]) (results_cell_row rfl _ _ (w.heap.size + 1) 43 _ (0, 0) _ rfl (new2 _ _ _) Tryd.underlying43 rfl (by kernel_rfl)) rfl ⟨rfl, ((Below.refl _ _).alloc (Nat.le_refl _) _).alloc (by simp) _⟩
  by_cases h4 : op = 4
  · have hst : mkI s pl op m x = (23, slotP s.xs x, 0) := by unfold mkI; rw [if_neg h1, if_neg h2, if_pos h4]
    rw [hst]
    have HC := Lib.hid (warr_any x ((h.alloc (exprO op m x (.slice A k c))).alloc (insO 0 0 0)) hva)
    clear hst h h1 h2
    subst h4
    go_enter Tryd.func70, Tryd.ntmps70
    go_wp2_with (go_at_call 73; ((with_reducible refine HC.out.mono ?_); rintro e w1 ⟨rfl, rfl⟩))
    exact bodyPost_ret (v := .agg #[.int .i64 23, .int .i64 (slotP s.xs x), .int .i64 0]) (results_cell_row rfl _ _ (w.heap.size + 1) 43 _ (0, 0) _ rfl (new2 _ _ _) Tryd.underlying43 rfl (by kernel_rfl)) rfl ⟨rfl, ((Below.refl _ _).alloc (Nat.le_refl _) _).alloc (by simp) _⟩
  by_cases h5 : op = 5
  · have hst : mkI s pl op m x = (17, pl x, 0) := by unfold mkI; rw [if_neg h1, if_neg h2, if_neg h4, if_pos h5]
    rw [hst]
    subst h5
    obtain ⟨wa, hwa⟩ : ∃ wa, (w.alloc (exprO 5 m x (.slice A k c))).alloc (insO 0 0 0) = wa := ⟨_, rfl⟩
    have hWa : WI n N O w0 s vv va M L wa := by rw [← hwa]; exact (h.alloc _).alloc _
    obtain ⟨vl, hbx, _⟩ := hWa.row
    have hba : Below w.heap.size w wa := by rw [← hwa]; exact ((Below.refl _ _).alloc (Nat.le_refl _) _).alloc (by simp) _
    have x0 : wa.heap[w.heap.size]? = some (exprO 5 m x (.slice A k c)) := by rw [← hwa]; exact blk_alloc (heap_alloc_new _ _) _
    have x1 : wa.heap[w.heap.size + 1]? = some (insO 0 0 0) := by rw [← hwa]; exact new2 _ _ _
    have hl1 := (hp.below hM (belowD hWa.base)).look x hx
    have y4 : wa.drew.cell? ⟨O, 4, none⟩ = some (.map (some M)) := (blk_cell hbx 4).trans rfl
    have y2 : wa.drew.cell? ⟨w.heap.size, 2, none⟩ = some (.string x) := (blk_cell x0 2).trans rfl
    have y1 : wa.cell? ⟨w.heap.size, 0, none⟩ = some (.int .i64 5) := (blk_cell x0 0).trans rfl
    obtain ⟨r0, r1, r2⟩ : wa.cell? ⟨w.heap.size + 1, 0, none⟩ = some (.int .i64 0) ∧ wa.cell? ⟨w.heap.size + 1, 1, none⟩ = some (.int .i64 0) ∧ wa.cell? ⟨w.heap.size + 1, 2, none⟩ = some (.int .i64 0) := ⟨(blk_cell x1 0).trans rfl, (blk_cell x1 1).trans rfl, (blk_cell x1 2).trans rfl⟩
    obtain ⟨t0, t1, t2⟩ : wa.drew.cell? ⟨w.heap.size + 1, 0, none⟩ = some (.int .i64 0) ∧ wa.drew.cell? ⟨w.heap.size + 1, 1, none⟩ = some (.int .i64 0) ∧ wa.drew.cell? ⟨w.heap.size + 1, 2, none⟩ = some (.int .i64 0) := ⟨r0, r1, r2⟩
    obtain ⟨f0, f1, f2⟩ : wa.frozen? ⟨w.heap.size + 1, 0, none⟩ = false ∧ wa.frozen? ⟨w.heap.size + 1, 1, none⟩ = false ∧ wa.frozen? ⟨w.heap.size + 1, 2, none⟩ = false := ⟨blk_frozen x1 0, blk_frozen x1 1, blk_frozen x1 2⟩
    obtain ⟨g0', g1', g2'⟩ : wa.drew.frozen? ⟨w.heap.size + 1, 0, none⟩ = false ∧ wa.drew.frozen? ⟨w.heap.size + 1, 1, none⟩ = false ∧ wa.drew.frozen? ⟨w.heap.size + 1, 2, none⟩ = false := ⟨f0, f1, f2⟩
    have l1 := blk_lt x1
    have l0 : w.heap.size < wa.heap.size := blk_lt x0
    have lO := blk_lt hbx
    have HX1 := Lib.hid x1
    have HBA := Lib.hid hba
    clear hst h h1 h2 h4 hWa hbx x0 x1 hba
    go_enter Tryd.func70, Tryd.ntmps70
    go_upto_region 9 with fail
    go_still_tail 8, (by kernel_rfl)
    go_wp2
    have hend := ins_end HX1.out HBA.out 17 (pl x) 0 _ rfl
    exact bodyPost_ret (v := .agg #[.int .i64 17, .int .i64 (pl x), .int .i64 0]) (results_cell_row rfl _ _ (w.heap.size + 1) 43 _ (0, 0) _ rfl hend.1 Tryd.underlying43 rfl (by kernel_rfl)) rfl ⟨rfl, hend.2⟩
  · have hst : mkI s pl op m x = (sameT.getD op.toNat 0, 0, 0) := by unfold mkI; rw [if_neg h1, if_neg h2, if_neg h4, if_neg h5]
    rw [hst]
    obtain ⟨j, rfl⟩ : ∃ j : Nat, op = j := ⟨op.toNat, by omega⟩
    have hj : j < 17 := by omega
    have y0 := ((((hsm.below hg h.base).below (B := w.heap.size) (Nat.lt_of_lt_of_le hg (by have := h.hO; have := h.hN; have := h.sz; omega)) (((Below.refl _ _).alloc (Nat.le_refl _) (exprO j m x (.slice A k c))).alloc (by simp) (insO 0 0 0))) j hj))
    have hgw : 4 < w.heap.size := Nat.lt_of_lt_of_le hg (by have := h.hO; have := h.hN; have := h.sz; omega)
    have o1 : ((j : Int) == 1) = false := by simp; omega
    have o2 : ((j : Int) == 2) = false := by simp; omega
    have o4 : ((j : Int) == 4) = false := by simp; omega
    have o5 : ((j : Int) == 5) = false := by simp; omega
    rw [Int.toNat_natCast]
    obtain ⟨z, hz⟩ : ∃ z, sameT.getD j 0 = z := ⟨_, rfl⟩
    rw [hz] at y0 ⊢
    clear hst h h1 h2 h4 h5 hz hop
    go_enter Tryd.func70, Tryd.ntmps70
    go_wp2
    exact bodyPost_ret (v := .agg #[.int .i64 z, .int .i64 0, .int .i64 0]) (results_cell_row rfl _ _ (w.heap.size + 1) 43 _ (0, 0) _ rfl (new2 _ _ _) Tryd.underlying43 rfl (by kernel_rfl)) rfl ⟨rfl, ((Below.refl _ _).alloc (Nat.le_refl _) _).alloc (by simp) _⟩
end Go.Proofs.YtnilklgnpfgieaaDoor
