/-
  CanonExprs: the statement's function, walked.
-/
import Derived.Test.YtdadigmjenjpnaaGreatDoorCq5
import Derived.Test.YtdadigmjenjpnaaGreatDoorCePm
namespace Go.Proofs.YtdadigmjenjpnaaGreatDoor
open Go Go.RowKit Go.Lib

def baL (l : List UInt8) : ByteArray := ⟨l.toArray⟩
theorem baL_app (a b : List UInt8) : baL (a ++ b) = baL a ++ baL b := by unfold baL; rw [ByteArray.mk_append_mk]
theorem baL_size (a : List UInt8) : (baL a).size = a.length := by unfold baL; simp [ByteArray.size]

theorem ev_two' {w : World} {g cap : Nat} {op n op2 n2 : Int} {s s2 : ByteArray} {v v2 : Value} {l l2 : ES} {T : TypeId} {fr : Nat × Nat} (hg : w.heap[g]? = some (.cells #[.int .i64 op, .int .i64 n, .string s, v, .int .i64 op2, .int .i64 n2, .string s2, v2] T fr)) (B : Nat) (hB : g < B) (hv : EV B w v l) (h4 : I64 op ∧ I64 n ∧ s.size ≤ 9223372036854775807) (hv2 : EV B w v2 l2) (h42 : I64 op2 ∧ I64 n2 ∧ s2.size ≤ 9223372036854775807) (h1 : 2 ≤ cap) (h2 : cap ≤ 9223372036854775807) :
    EV B w (.slice (some ⟨g, 0, none⟩) 2 cap) (.cons op n s l (.cons op2 n2 s2 l2 .nil)) :=
  ⟨some ⟨g, 0, none⟩, cap, rfl, h1, h2, fun _ => ⟨g, 0, rfl, hB, cells_at hg 0 rfl, cells_at hg 1 rfl, cells_at hg 2 rfl, ⟨v, cells_at hg 3 rfl, hv⟩, h4, cells_at hg 4 rfl, cells_at hg 5 rfl, cells_at hg 6 rfl, ⟨v2, cells_at hg 7 rfl, hv2⟩, h42, trivial⟩⟩
theorem i64s {n : Int} (h1 : -9223372036854775808 ≤ n) (h2 : n ≤ 9223372036854775807) : I64 n := ⟨h1, h2⟩

/-- The three statements in memory. -/
theorem pv_three {w : World} {g g6 cap cap6 : Nat} {op n : Int} {s : ByteArray} {v : Value} {l : ES} {fr fr6 : Nat × Nat} {T T6 : TypeId} (hg : w.heap[g]? = some (.cells #[.int .i64 op, .int .i64 n, .string s, v] T fr))
    (hg6 : w.heap[g6]? = some (.cells #[.int .i64 5, .string ⟨#[]⟩, .int .i64 0, .slice (some ⟨g, 0, none⟩) 1 cap, .slice none 0 0, .slice none 0 0, .int .i64 6, .string ⟨#[]⟩, .int .i64 0, .slice (some ⟨g, 0, none⟩) 1 cap, .slice none 0 0, .slice none 0 0, .int .i64 8, .string ⟨#[]⟩, .int .i64 0, .slice (some ⟨g, 0, none⟩) 1 cap, .slice none 0 0, .slice none 0 0] T6 fr6))
    (B : Nat) (hB : g < B) (hB6 : g6 < B) (hv : EV B w v l) (h4 : I64 op ∧ I64 n ∧ s.size ≤ 9223372036854775807) (h1 : 1 ≤ cap) (h2 : cap ≤ 9223372036854775807) (h61 : 3 ≤ cap6) (h62 : cap6 ≤ 9223372036854775807) :
    PgV B w (.agg #[.slice none 0 0, .slice (some ⟨g6, 0, none⟩) 3 cap6]) (pr3 (.cons op n s l .nil)) := by
  have hE := ev_one' hg B hB hv h4 h1 h2
  have k5 : I64 5 ∧ I64 0 ∧ (⟨#[]⟩ : ByteArray).size ≤ 9223372036854775807 := ⟨⟨by decide, by decide⟩, ⟨by decide, by decide⟩, by decide⟩
  have k6 : I64 6 ∧ I64 0 ∧ (⟨#[]⟩ : ByteArray).size ≤ 9223372036854775807 := ⟨⟨by decide, by decide⟩, ⟨by decide, by decide⟩, by decide⟩
  have k8 : I64 8 ∧ I64 0 ∧ (⟨#[]⟩ : ByteArray).size ≤ 9223372036854775807 := ⟨⟨by decide, by decide⟩, ⟨by decide, by decide⟩, by decide⟩
  exact ⟨none, 0, some ⟨g6, 0, none⟩, cap6, rfl, fv_nil' _ _, some ⟨g6, 0, none⟩, cap6, rfl, h61, h62, fun _ => ⟨g6, 0, rfl, hB6,
    cells_at hg6 0 rfl, cells_at hg6 1 rfl, cells_at hg6 2 rfl, ⟨_, cells_at hg6 3 rfl, hE⟩, ⟨_, cells_at hg6 4 rfl, sv_nil' _ _⟩, ⟨_, cells_at hg6 5 rfl, sv_nil' _ _⟩, k5,
    cells_at hg6 6 rfl, cells_at hg6 7 rfl, cells_at hg6 8 rfl, ⟨_, cells_at hg6 9 rfl, hE⟩, ⟨_, cells_at hg6 10 rfl, sv_nil' _ _⟩, ⟨_, cells_at hg6 11 rfl, sv_nil' _ _⟩, k6,
    cells_at hg6 12 rfl, cells_at hg6 13 rfl, cells_at hg6 14 rfl, ⟨_, cells_at hg6 15 rfl, hE⟩, ⟨_, cells_at hg6 16 rfl, sv_nil' _ _⟩, ⟨_, cells_at hg6 17 rfl, sv_nil' _ _⟩, k8, trivial⟩⟩

set_option maxHeartbeats 4000000 in
set_option maxRecDepth 100000 in
theorem exprs_walk (op n : Int) (s : ByteArray) (A : Option Addr) (cap : Nat) (l : ES) (W : World) (hv : EV W.heap.size W (.slice A l.len cap) l) (h4 : I64 op ∧ I64 n ∧ s.size ≤ 9223372036854775807) (hc : l.cnt ≤ 1048576) (ht : TT W) :
    Calls Tryz.prog 5 #[.agg #[.int .i64 op, .int .i64 n, .string s, .slice A l.len cap]] W fun e w' => e = .returned (.bool true) ∧ Below W.heap.size W w' := by
  obtain ⟨len, hln⟩ : ∃ len, l.len = len := ⟨_, rfl⟩
  rw [hln] at hv ⊢
  obtain ⟨w2, hw2⟩ : ∃ w2, W.alloc (.cells #[.int .i64 op, .int .i64 n, .string s, .slice A len cap] 38) = w2 := ⟨_, rfl⟩
  have b2 : Below W.heap.size W w2 := by rw [← hw2]; exact (Below.refl _ _).alloc (Nat.le_refl _) _
  have z2 : w2.heap.size = W.heap.size + 1 := by rw [← hw2]; simp
  have g2 : w2.heap[W.heap.size]? = some (.cells #[.int .i64 op, .int .i64 n, .string s, .slice A len cap] 38 (0, 0)) := by rw [← hw2]; exact heap_alloc_new W _
  have hS := shown5_fr w2 (ht.step b2)
  go_enter Tryz.func5, Tryz.ntmps5
  go_upto_region 2 with (go_at_call 10; ((with_reducible refine hS.mono ?_); clear hS; rintro e w3 ⟨rfl, c3⟩))
  have b3 : Below W.heap.size W w3 := b2.trans (c3.mono b2.size)
  have g3 := (c3.block _ (by omega)).trans g2
  have e0 := cells_at g3 0 rfl
  have e1 := cells_at g3 1 rfl
  have e2 := cells_at g3 2 rfl
  have e3 := cells_at g3 3 rfl
  have T3 := ht.step b3
  have q3 := expr_any_p op n s l _ w3 W.heap.size b3.size (EV.below hv b3 (Nat.le_refl _)) h4 T3.tree T3.canon (by omega)
  obtain ⟨X, hX⟩ : ∃ X, (⟨(exprP op n s l).toArray⟩ : ByteArray) = X := ⟨_, rfl⟩
  rw [hX] at q3
  go_upto_region 3 with (go_at_call 16; ((with_reducible refine q3.mono ?_); clear q3; rintro e w4 ⟨rfl, c4⟩))
  have b4 : Below W.heap.size W w4 := b3.trans (c4.mono b3.size)
  have z3 := b3.size
  have g4 := (c4.block W.heap.size (by have := c3.size; omega)).trans g3
  clear e0 e1 e2 e3
  have e0 := cells_at g4 0 rfl
  have e1 := cells_at g4 1 rfl
  have e2 := cells_at g4 2 rfl
  have e3 := cells_at g4 3 rfl
  have z24 : W.heap.size < w4.heap.size := by have := c3.size; have := c4.size; omega
  -- what is laid down
  obtain ⟨i5, hi5⟩ : ∃ i5, w4.heap.size = i5 := ⟨_, rfl⟩
  obtain ⟨w5, hw5⟩ : ∃ w5, w4.alloc (.cells #[.int .i64 op, .int .i64 n, .string s, .slice A len cap] 38) = w5 := ⟨_, rfl⟩
  have d5 : Below w4.heap.size w4 w5 := by rw [← hw5]; exact (Below.refl _ _).alloc (Nat.le_refl _) _
  have z5 : w5.heap.size = i5 + 1 := by rw [← hw5, ← hi5]; simp
  have g5 : w5.heap[i5]? = some (.cells #[.int .i64 op, .int .i64 n, .string s, .slice A len cap] 38 (0, 0)) := by rw [← hw5, ← hi5]; exact heap_alloc_new w4 _
  obtain ⟨w6, hw6⟩ : ∃ w6, w5.alloc (.cells #[.int .i64 5, .string ⟨#[]⟩, .int .i64 0, .slice (some ⟨i5, 0, none⟩) 1 1, .slice none 0 0, .slice none 0 0, .int .i64 6, .string ⟨#[]⟩, .int .i64 0, .slice (some ⟨i5, 0, none⟩) 1 1, .slice none 0 0, .slice none 0 0, .int .i64 8, .string ⟨#[]⟩, .int .i64 0, .slice (some ⟨i5, 0, none⟩) 1 1, .slice none 0 0, .slice none 0 0] 41) = w6 := ⟨_, rfl⟩
  have d6 : Below w5.heap.size w5 w6 := by rw [← hw6]; exact (Below.refl _ _).alloc (Nat.le_refl _) _
  have z6 : w6.heap.size = i5 + 1 + 1 := by rw [← hw6]; simp [z5]
  have g6 : w6.heap[i5 + 1]? = some (.cells #[.int .i64 5, .string ⟨#[]⟩, .int .i64 0, .slice (some ⟨i5, 0, none⟩) 1 1, .slice none 0 0, .slice none 0 0, .int .i64 6, .string ⟨#[]⟩, .int .i64 0, .slice (some ⟨i5, 0, none⟩) 1 1, .slice none 0 0, .slice none 0 0, .int .i64 8, .string ⟨#[]⟩, .int .i64 0, .slice (some ⟨i5, 0, none⟩) 1 1, .slice none 0 0, .slice none 0 0] 41 (0, 0)) := by rw [← hw6, ← z5]; exact heap_alloc_new w5 _
  obtain ⟨w7, hw7⟩ : ∃ w7, w6.alloc (.cells #[.slice none 0 0, .slice (some ⟨i5 + 1, 0, none⟩) 3 3] 25) = w7 := ⟨_, rfl⟩
  have d7 : Below w6.heap.size w6 w7 := by rw [← hw7]; exact (Below.refl _ _).alloc (Nat.le_refl _) _
  have z7 : w7.heap.size = i5 + 1 + 1 + 1 := by rw [← hw7]; simp [z6]
  have g7 : w7.heap[i5 + 1 + 1]? = some (.cells #[.slice none 0 0, .slice (some ⟨i5 + 1, 0, none⟩) 3 3] 25 (0, 0)) := by rw [← hw7, ← z6]; exact heap_alloc_new w6 _
  have g57 := (d7.block i5 (by omega)).trans ((d6.block i5 (by omega)).trans g5)
  have g67 := (d7.block (i5 + 1) (by omega)).trans g6
  have g27 := (d7.block W.heap.size (by omega)).trans ((d6.block W.heap.size (by omega)).trans ((d5.block W.heap.size (by omega)).trans g4))
  have b7 : Below W.heap.size W w7 := b4.trans ((d5.mono (by omega)).trans ((d6.mono (by omega)).trans (d7.mono (by omega))))
  have hvB : EV W.heap.size w7 (.slice A len cap) l := EV.below hv b7 (Nat.le_refl _)
  have P7 := pv_three (cap := 1) (cap6 := 3) g57 g67 w7.heap.size (by omega) (by omega) (EV.below hvB (Below.refl _ _) (by omega)) h4 (by decide) (by decide) (by decide) (by decide)
  have T7 := ht.step b7
  have hcnt : cntL (pr3 (.cons op n s l .nil)).pts ≤ 3200000 := by simp only [pr3, Pg.pts, fsPts, List.nil_append, SS.cntL, SS.cnt, ES.cnt]; omega
  have q7 := text_any_p _ _ w7 w7.heap.size (Nat.le_refl _) P7 T7.tree T7.canon hcnt
  go_upto_region 5 with fail
  have f0 := cells_at g7 0 rfl
  have f1 := cells_at g7 1 rfl
  by_cases hr : rightN (prE op n s l) = 0
  · have hok := (prE_iff op n s l (by omega)).1 hr
    have hr3 := (pr3_iff op n s l (by omega)).2 hok
    have hpt := pr3_text op n s l hr3
    have hXe : X = baL (exX op n s.data.toList l.txs) := by rw [← hX]; unfold exprP; rw [if_pos hr]; rfl
    have hXs : X.size ≠ 0 := by
      rw [hXe, baL_size]
      have := exX_ne (op := op) (n := n) (s := s) (l := l) (by have := hok.1; simp only [ES.ok, Bool.and_eq_true] at this; exact this.1.1) l.txs
      simpa using this
    have hXt : X.toList.isEmpty = false := by
      rw [ByteArray.toList_eq]
      cases h : X.data.toList with
      | nil =>
        have : X.data.toList.length = 0 := by rw [h]; rfl
        rw [Array.length_toList] at this
        exact absurd this hXs
      | cons _ _ => rfl
    have hTx : (⟨(textP (pr3 (.cons op n s l .nil))).toArray⟩ : ByteArray) = ⟨#[112, 114, 105, 110, 116, 32]⟩ ++ X ++ ⟨#[59, 10, 107, 101, 101, 112, 32]⟩ ++ X ++ ⟨#[59, 10, 119, 104, 105, 108, 101, 32]⟩ ++ X ++ ⟨#[32, 123, 10, 125, 10]⟩ := by
      rw [hXe, hpt]
      exact (baL_app _ _).trans (by rw [baL_app, baL_app, baL_app, baL_app, baL_app]; rfl)
    have hXl : X.size ≤ 200000000 := by
      have i1 := ES.txs_leV (by have := hok.1; simp only [ES.ok, Bool.and_eq_true] at this; exact this.1.2) hv
      have i2 := exX_le op n s.data.toList l.txs h4.2.1 (by have := hok.1; simp only [ES.ok, Bool.and_eq_true] at this; have := (fit_e this.1.1).2; rw [Array.length_toList]; exact this)
      rw [hXe, baL_size]
      omega
    have HXe := hid hXe
    rw [hTx] at q7
    clear hXe hX hTx
    go_upto_region 6 with (go_at_call 11; ((with_reducible refine q7.mono ?_); clear q7; rintro e w8 ⟨rfl, c8⟩))
    go_upto_region 8 with fail
    go_upto_region 10 with fail
    have z8 := c8.size
    have b8 := b7.trans (c8.mono b7.size)
    obtain ⟨i9, hi9⟩ : ∃ i9, w8.heap.size = i9 := ⟨_, rfl⟩
    obtain ⟨w9, hw9⟩ : ∃ w9, w8.alloc (.cells #[.int .i64 4, .int .i64 0, .string ⟨#[97]⟩, .slice (some ⟨i5, 0, none⟩) 1 1] 38) = w9 := ⟨_, rfl⟩
    have d9 : Below w8.heap.size w8 w9 := by rw [← hw9]; exact (Below.refl _ _).alloc (Nat.le_refl _) _
    have z9 : w9.heap.size = i9 + 1 := by rw [← hw9, ← hi9]; simp
    have g9 : w9.heap[i9]? = some (.cells #[.int .i64 4, .int .i64 0, .string ⟨#[97]⟩, .slice (some ⟨i5, 0, none⟩) 1 1] 38 (0, 0)) := by rw [← hw9, ← hi9]; exact heap_alloc_new w8 _
    obtain ⟨w10, hw10⟩ : ∃ w10, w9.alloc (.cells #[.int .i64 op, .int .i64 n, .string s, .slice A len cap, .int .i64 6, .int .i64 0, .string ⟨#[]⟩, .slice (some ⟨i5, 0, none⟩) 1 1] 38) = w10 := ⟨_, rfl⟩
    have d10 : Below w9.heap.size w9 w10 := by rw [← hw10]; exact (Below.refl _ _).alloc (Nat.le_refl _) _
    have z10 : w10.heap.size = i9 + 1 + 1 := by rw [← hw10]; simp [z9]
    have g10 : w10.heap[i9 + 1]? = some (.cells #[.int .i64 op, .int .i64 n, .string s, .slice A len cap, .int .i64 6, .int .i64 0, .string ⟨#[]⟩, .slice (some ⟨i5, 0, none⟩) 1 1] 38 (0, 0)) := by rw [← hw10, ← z9]; exact heap_alloc_new w9 _
    obtain ⟨w11, hw11⟩ : ∃ w11, w10.alloc (.cells #[.int .i64 9, .int .i64 0, .string ⟨#[]⟩, .slice (some ⟨i9 + 1, 0, none⟩) 2 2] 38) = w11 := ⟨_, rfl⟩
    have d11 : Below w10.heap.size w10 w11 := by rw [← hw11]; exact (Below.refl _ _).alloc (Nat.le_refl _) _
    have z11 : w11.heap.size = i9 + 1 + 1 + 1 := by rw [← hw11]; simp [z10]
    have g11 : w11.heap[i9 + 1 + 1]? = some (.cells #[.int .i64 9, .int .i64 0, .string ⟨#[]⟩, .slice (some ⟨i9 + 1, 0, none⟩) 2 2] 38 (0, 0)) := by rw [← hw11, ← z10]; exact heap_alloc_new w10 _
    have c78 : Below w7.heap.size w7 w9 := c8.trans (d9.mono (by omega))
    have c711 : Below w7.heap.size w7 w11 := c78.trans ((d10.mono (by omega)).trans (d11.mono (by omega)))
    have b11 := b7.trans (c711.mono b7.size)
    have T11 := ht.step b11
    have g29 := (c78.block W.heap.size (by omega)).trans g27
    have u0 := cells_at g29 0 rfl
    have u1 := cells_at g29 1 rfl
    have u2 := cells_at g29 2 rfl
    have u3 := cells_at g29 3 rfl
    have g711 := (c711.block (i5 + 1 + 1) (by omega)).trans g7
    have g511 := (c711.block i5 (by omega)).trans g57
    have g911 := (d11.block i9 (by omega)).trans ((d10.block i9 (by omega)).trans g9)
    have g1011 := (d11.block (i9 + 1) (by omega)).trans g10
    have hvC : EV W.heap.size w11 (.slice A len cap) l := EV.below hv b11 (Nat.le_refl _)
    have E5 : EV w11.heap.size w11 (.slice (some ⟨i5, 0, none⟩) 1 1) (.cons op n s l .nil) := ev_one' g511 _ (by omega) (EV.below hvC (Below.refl _ _) (by omega)) h4 (by decide) (by decide)
    have E10 : EV w11.heap.size w11 (.slice (some ⟨i9 + 1, 0, none⟩) 2 2) (.cons op n s l (.cons 6 0 ⟨#[]⟩ (.cons op n s l .nil) .nil)) := ev_two' g1011 _ (by omega) (EV.below hvC (Below.refl _ _) (by omega)) h4 E5 ⟨⟨by decide, by decide⟩, ⟨by decide, by decide⟩, by decide⟩ (by decide) (by decide)
    have q12 := depth_any _ _ w11 w7.heap.size c711.size (P7.below c711 (Nat.le_refl _))
    rw [pr3_depth op n s l (by omega)] at q12
    have hv0 := cells_at g711 0 rfl
    have hv1 := cells_at g711 1 rfl
    have hw90 := cells_at g911 0 rfl
    have hw91 := cells_at g911 1 rfl
    have hw92 := cells_at g911 2 rfl
    have hw93 := cells_at g911 3 rfl
    have H9 := hid (fun w' (hb : Below w11.heap.size w11 w') => (⟨(hb.cell (p := ⟨i9, 0, none⟩) (show i9 < w11.heap.size by omega)).trans hw90, (hb.cell (p := ⟨i9, 1, none⟩) (show i9 < w11.heap.size by omega)).trans hw91, (hb.cell (p := ⟨i9, 2, none⟩) (show i9 < w11.heap.size by omega)).trans hw92, (hb.cell (p := ⟨i9, 3, none⟩) (show i9 < w11.heap.size by omega)).trans hw93⟩ :
      w'.cell? ⟨i9, 0, none⟩ = some (.int .i64 4) ∧ w'.cell? ⟨i9, 1, none⟩ = some (.int .i64 0) ∧ w'.cell? ⟨i9, 2, none⟩ = some (.string ⟨#[97]⟩) ∧ w'.cell? ⟨i9, 3, none⟩ = some (.slice (some ⟨i5, 0, none⟩) 1 1)))
    have hy0 := cells_at g11 0 rfl
    have hy1 := cells_at g11 1 rfl
    have hy2 := cells_at g11 2 rfl
    have hy3 := cells_at g11 3 rfl
    have H11 := hid (fun w' (hb : Below w11.heap.size w11 w') => (⟨(hb.cell (p := ⟨i9 + 1 + 1, 0, none⟩) (show i9 + 1 + 1 < w11.heap.size by omega)).trans hy0, (hb.cell (p := ⟨i9 + 1 + 1, 1, none⟩) (show i9 + 1 + 1 < w11.heap.size by omega)).trans hy1, (hb.cell (p := ⟨i9 + 1 + 1, 2, none⟩) (show i9 + 1 + 1 < w11.heap.size by omega)).trans hy2, (hb.cell (p := ⟨i9 + 1 + 1, 3, none⟩) (show i9 + 1 + 1 < w11.heap.size by omega)).trans hy3⟩ :
      w'.cell? ⟨i9 + 1 + 1, 0, none⟩ = some (.int .i64 9) ∧ w'.cell? ⟨i9 + 1 + 1, 1, none⟩ = some (.int .i64 0) ∧ w'.cell? ⟨i9 + 1 + 1, 2, none⟩ = some (.string ⟨#[]⟩) ∧ w'.cell? ⟨i9 + 1 + 1, 3, none⟩ = some (.slice (some ⟨i9 + 1, 0, none⟩) 2 2)))
    obtain ⟨D, hD⟩ : ∃ D : Int, 1 + (1 + l.deep) = D := ⟨_, rfl⟩
    rw [hD] at q12
    by_cases h60 : 60 < D
    · have hd : decide (60 < D) = true := decide_eq_true h60
      go_wp2_with (go_at_call 17; ((with_reducible refine q12.mono ?_); clear q12; rintro e w12 ⟨rfl, c12⟩))
      go_ret
      exact ⟨rfl, b11.trans (c12.mono b11.size)⟩
    · have hd : decide (60 < D) = false := decide_eq_false h60
      have x1 := index_text op n s l (by omega) hok.1 (by omega)
      have x2 := sub_text op n s l (by omega) hok.1 (by omega)
      have q13 : ∀ w', Below w11.heap.size w11 w' → Calls Tryz.prog 16 #[exV 4 0 ⟨#[97]⟩ (.slice (some ⟨i5, 0, none⟩) 1 1)] w' fun e w'' => e = .returned (.string (⟨#[97, 91]⟩ ++ X ++ ⟨#[93]⟩)) ∧ Below w'.heap.size w' w'' := fun w' hb => by
        have := expr_any_p 4 0 ⟨#[97]⟩ (.cons op n s l .nil) _ w' w11.heap.size hb.size (EV.below E5 hb (Nat.le_refl _)) ⟨⟨by decide, by decide⟩, ⟨by decide, by decide⟩, by decide⟩ (T11.step hb).tree (T11.step hb).canon (by simp only [ES.cnt]; omega)
        rw [x1] at this
        refine this.mono ?_
        rintro e w'' ⟨rfl, h⟩
        refine ⟨?_, h⟩
        rw [HXe.out]
        exact congrArg (fun z => Ending.returned (.string z)) ((baL_app _ _).trans (by rw [baL_app]; rfl))
      have q14 : ∀ w', Below w11.heap.size w11 w' → Calls Tryz.prog 16 #[exV 9 0 ⟨#[]⟩ (.slice (some ⟨i9 + 1, 0, none⟩) 2 2)] w' fun e w'' => e = .returned (.string (⟨#[40]⟩ ++ X ++ ⟨#[32, 45, 32, 45]⟩ ++ X ++ ⟨#[41]⟩)) ∧ Below w'.heap.size w' w'' := fun w' hb => by
        have := expr_any_p 9 0 ⟨#[]⟩ _ _ w' w11.heap.size hb.size (EV.below E10 hb (Nat.le_refl _)) ⟨⟨by decide, by decide⟩, ⟨by decide, by decide⟩, by decide⟩ (T11.step hb).tree (T11.step hb).canon (by simp only [ES.cnt]; omega)
        rw [x2] at this
        refine this.mono ?_
        rintro e w'' ⟨rfl, h⟩
        refine ⟨?_, h⟩
        rw [HXe.out]
        exact congrArg (fun z => Ending.returned (.string z)) ((baL_app _ _).trans (by rw [baL_app, baL_app, baL_app]; rfl))
      have Q13 := hid q13
      have Q14 := hid q14
      clear q13 q14 x1 x2
      go_wp2_with (first
        | (go_at_call 17; ((with_reducible refine q12.mono ?_); clear q12; rintro e w12 ⟨rfl, c12⟩; obtain ⟨r0, r1, r2, r3⟩ := H9.out w12 c12; have q := Q13.out w12 c12))
        | (go_at_call 16; ((with_reducible refine q.mono ?_); clear q; rintro e w13 ⟨rfl, c13⟩; have c13' := c12.trans (c13.mono c12.size); obtain ⟨s0, s1, s2, s3⟩ := H11.out w13 c13'; have q' := Q14.out w13 c13'))
        | (go_at_call 16; ((with_reducible refine q'.mono ?_); clear q'; rintro e w14 ⟨rfl, c14⟩)))
      go_ret
      exact ⟨rfl, b11.trans ((c13'.trans (c14.mono c13'.size)).mono b11.size)⟩
  · have hr3 : ¬ rightN (pr3 (.cons op n s l .nil)) = 0 := fun h => hr ((prE_iff op n s l (by omega)).2 ((pr3_iff op n s l (by omega)).1 h))
    have hX0 : X = ⟨#[]⟩ := by rw [← hX]; unfold exprP; rw [if_neg hr]
    subst hX0
    unfold textP at q7
    rw [if_neg hr3] at q7
    have q8 : ∀ w', Below w7.heap.size w7 w' → ∃ m : Int, (m = 1 ∨ m = 3) ∧ Calls Tryz.prog 13 #[.agg #[.slice none 0 0, .slice (some ⟨i5 + 1, 0, none⟩) 3 3]] w' fun e w'' => e = .returned (.int .i64 m) ∧ Below w'.heap.size w' w'' := fun w' hb =>
      ⟨rightN (pr3 (.cons op n s l .nil)), (rightN_cases _).resolve_left hr3, right_any _ _ w' w7.heap.size hb.size (P7.below hb (Nat.le_refl _)) (T7.step hb).tree⟩
    have Q8 := hid q8
    clear q8 hr hr3 hX P7
    go_upto_region 6 with (go_at_call 11; ((with_reducible refine q7.mono ?_); clear q7; rintro e w8 ⟨rfl, c8⟩))
    have h0 := (c8.cell (p := ⟨i5 + 1 + 1, 0, none⟩) (show i5 + 1 + 1 < w7.heap.size by omega)).trans f0
    have h1 := (c8.cell (p := ⟨i5 + 1 + 1, 1, none⟩) (show i5 + 1 + 1 < w7.heap.size by omega)).trans f1
    obtain ⟨m, hm, q8⟩ := Q8.out w8 c8
    rcases hm with rfl | rfl
    all_goals
      go_wp2_with (go_at_call 13; ((with_reducible refine q8.mono ?_); clear q8; rintro e w9 ⟨rfl, c9⟩))
      go_ret
      exact ⟨rfl, (b7.trans (c8.mono b7.size)).trans (c9.mono (by have := b7.size; have := c8.size; omega))⟩

end Go.Proofs.YtdadigmjenjpnaaGreatDoor
