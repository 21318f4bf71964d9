/-
  VerifyMany: so many functions, all alike; the walk.
-/
import Derived.Test.YtahclmofioiibaaDoorVyL
namespace Go.Proofs.YtahclmofioiibaaDoor
open Go Go.RowKit Go.Lib

abbrev mnL : List (Int × Int × Int) := [(1, 0, 0), (18, 0, 0)]
def mnOf (x : Int × Int × Int) : Fv := ⟨⟨#[]⟩, x.1, x.2.1, x.2.2, mnL⟩
def rowF (vl : Value) : List (Int × Int × Int) → List Value
  | [] => []
  | (n, v, x) :: r => .string ⟨#[]⟩ :: .int .i64 n :: .int .i64 v :: .int .i64 x :: vl :: rowF vl r
theorem rowF_app (vl : Value) : ∀ a b : List (Int × Int × Int), rowF vl (a ++ b) = rowF vl a ++ rowF vl b
  | [], _ => rfl
  | (_, _, _) :: r, b => by simp [rowF, rowF_app vl r b]
theorem fv_of {B : Nat} {W : World} {vl : Value} (hl : InV B W vl mnL) : ∀ {l : List (Int × Int × Int)} {b o : Nat}, (∀ j u, (rowF vl l)[j]? = some u → W.cell? ⟨b, o + j, none⟩ = some u) → FvIn B W (l.map mnOf) b o
  | [], _, _, _ => trivial
  | (_, _, _) :: _, b, o, h => ⟨h 0 _ rfl, h 1 _ rfl, h 2 _ rfl, h 3 _ rfl, ⟨vl, h 4 _ rfl, hl⟩, fv_of hl fun j u hu => by
    rw [show o + 5 + j = o + (j + 5) by omega]
    exact h (j + 5) u (by simpa [rowF] using hu)⟩
theorem own_fv {W : World} {base e n : Nat} {v vl : Value} {l : List (Int × Int × Int)} (h : W.ownsRow base e 5 v n (rowF vl l)) (hn : n = l.length) (hl : InV W.heap.size W vl mnL) : FvV W.heap.size W v (l.map mnOf) := by
  subst hn
  have e1 : (l.map mnOf).length = l.length := by simp
  by_cases h0 : 0 < l.length
  · obtain ⟨g, cap, rfl, h1, h2, h3, h4⟩ := own_cells h h0
    exact ⟨_, cap, by rw [e1], by rw [e1]; exact h1, h2, fun _ => ⟨g, 0, rfl, h3, fv_of hl fun j u hu => by rw [Nat.zero_add]; exact h4 j u hu⟩⟩
  · rcases h.2 with ⟨rfl, e⟩ | ⟨g, cap, cur, rfl, _, _, hnc, hcm, _⟩
    · exact ⟨none, 0, by rw [e1, e], by omega, by omega, fun h => absurd h (by rw [e1]; exact h0)⟩
    · exact ⟨_, cap, by rw [e1], by rw [e1]; exact hnc, by unfold maxLen at hcm; omega, fun h => absurd h (by rw [e1]; exact h0)⟩
theorem runs_two (all : List Fv) (x : Int × Int × Int) : runsB all (mnOf x) = true := by kernel_rfl
def mnAll (N : Nat) (p v a : Int) : List (Int × Int × Int) := (0, 0, 0) :: List.replicate N (p, v, a)
def mayFn (p v a : Int) : Prop := 0 ≤ p ∧ p ≤ 8 ∧ p ≤ v ∧ v ≤ 64 ∧ 0 ≤ a ∧ a ≤ 64
instance (p v a : Int) : Decidable (mayFn p v a) := by unfold mayFn; infer_instance
theorem fit_one (p v a : Int) : unfitB (mnOf (p, v, a)) = !decide (mayFn p v a) := by
  unfold unfitB mnOf inI mayFn
  simp only
  by_cases h : 0 ≤ p ∧ p ≤ 8 ∧ p ≤ v ∧ v ≤ 64 ∧ 0 ≤ a ∧ a ≤ 64
  · rw [decide_eq_true h]
    simp only [Bool.not_true, Bool.or_eq_false_iff, Bool.not_eq_false', Bool.and_eq_true, decide_eq_true_eq]
    omega
  · rw [decide_eq_false h]
    simp only [Bool.not_false, Bool.or_eq_true, Bool.not_eq_true', Bool.and_eq_false_iff, decide_eq_false_iff_not]
    omega
theorem any_rep (x : Fv) : ∀ N : Nat, (List.replicate N x).any unfitB = (decide (0 < N) && unfitB x)
  | 0 => rfl
  | N + 1 => by rw [List.replicate_succ, List.any_cons, any_rep x N]; cases unfitB x <;> simp
theorem many_err (N : Nat) (p v a : Int) : codeErr ((mnAll N p v a).map mnOf) = if N ≤ 32 ∧ (N = 0 ∨ mayFn p v a) then 0 else 6 := by
  have hr : ((mnAll N p v a).map mnOf).all (runsB ((mnAll N p v a).map mnOf)) = true := by
    rw [List.all_eq_true]
    intro f hf
    obtain ⟨x, _, rfl⟩ := List.mem_map.1 hf
    exact runs_two _ x
  have h0 : unfitB (mnOf (0, 0, 0)) = false := by decide
  have ha : ((mnAll N p v a).map mnOf).any unfitB = (decide (0 < N) && !decide (mayFn p v a)) := by
    unfold mnAll
    rw [List.map_cons, List.any_cons, h0, List.map_replicate, any_rep, fit_one]
    rfl
  have hlen : ((mnAll N p v a).map mnOf).length = N + 1 := by simp [mnAll]
  have hm : mainOk ((mnAll N p v a).map mnOf) = true := rfl
  unfold codeErr codeB sizedB
  rw [hr, ha, hm, hlen]
  by_cases h32 : N ≤ 32
  · have : inI ((N + 1 : Nat) : Int) 1 33 = true := by unfold inI; simp; omega
    rw [this]
    by_cases hN : N = 0
    · subst hN; simp
    · have hN' : 0 < N := by omega
      by_cases hmay : mayFn p v a
      · simp [hmay, h32]
      · simp [hmay, hN', hN]
  · have : inI ((N + 1 : Nat) : Int) 1 33 = false := by unfold inI; simp; omega
    rw [this]
    simp [h32]
def MnRel (b0 N : Nat) (p v a : Int) (w : World) (i : Value) (wr : World) : Prop :=
  ∃ (k : Nat) (vF : Value), i = .int .i64 k ∧ k ≤ N ∧ wr.heap[b0 + 1 + 1]? = some (.cells #[vF] 29) ∧ wr.heap[b0]? = some (.cells #[.int .i64 1, .int .i64 0, .int .i64 0, .int .i64 18, .int .i64 0, .int .i64 0] 37) ∧ wr.ownsRow (b0 + 1) 39 5 vF (1 + k) (rowF (.slice (some ⟨b0, 0, none⟩) 2 2) (mnAll k p v a)) ∧ Below w.heap.size w wr
theorem mn_snoc (vl : Value) (k : Nat) (p v a : Int) : rowF vl (mnAll (k + 1) p v a) = rowF vl (mnAll k p v a) ++ [.string ⟨#[]⟩, .int .i64 p, .int .i64 v, .int .i64 a, vl] := by
  rw [show mnAll (k + 1) p v a = mnAll k p v a ++ [(p, v, a)] by unfold mnAll; rw [List.replicate_succ', List.cons_append], rowF_app]
  rfl
theorem mnL_ok : InsOk mnL := by
  intro z hz
  simp only [mnL, List.mem_cons, List.not_mem_nil, or_false] at hz
  rcases hz with rfl | rfl <;> exact ⟨⟨by decide, by decide⟩, ⟨by decide, by decide⟩, ⟨by decide, by decide⟩⟩
set_option maxRecDepth 100000 in
set_option maxHeartbeats 8000000 in
theorem many_walk (x0 x1 x2 x3 : Int) (lo : Nat) (w : World) (ht : CT lo w) : Calls Tryd.prog 6 #[.int .i64 x0, .int .i64 x1, .int .i64 x2, .int .i64 x3] w fun e w' => e = .returned (.bool true) ∧ Below w.heap.size w w' := by
  obtain ⟨D, hD, h16⟩ := and_16 x0
  obtain ⟨N, hN⟩ : ∃ N, D % 41 = N := ⟨_, rfl⟩
  have hN41 : N < 41 := by omega
  have hrN : (D : Int) % 41 = (N : Int) := by omega
  have hm1 := Int.tmod_lt_of_pos x1 (show (0 : Int) < 101 by decide)
  have hm2 := Int.tmod_lt_of_pos x2 (show (0 : Int) < 101 by decide)
  have hm3 := Int.tmod_lt_of_pos x3 (show (0 : Int) < 101 by decide)
  have hl1 := Int.lt_tmod_of_pos x1 (show (0 : Int) < 101 by decide)
  have hl2 := Int.lt_tmod_of_pos x2 (show (0 : Int) < 101 by decide)
  have hl3 := Int.lt_tmod_of_pos x3 (show (0 : Int) < 101 by decide)
  obtain ⟨p, hp⟩ : ∃ p, x1.tmod 101 - 1 = p := ⟨_, rfl⟩
  obtain ⟨v, hv⟩ : ∃ v, x2.tmod 101 - 1 = v := ⟨_, rfl⟩
  obtain ⟨a, ha⟩ : ∃ a, x3.tmod 101 - 1 = a := ⟨_, rfl⟩
  have w1' : IntKind.i64.wrap (x1.tmod 101 - 1) = p := by rw [IntWalk.i64_in _ (by omega)]; exact hp
  have w2' : IntKind.i64.wrap (x2.tmod 101 - 1) = v := by rw [IntWalk.i64_in _ (by omega)]; exact hv
  have w3' : IntKind.i64.wrap (x3.tmod 101 - 1) = a := by rw [IntWalk.i64_in _ (by omega)]; exact ha
  have HS := Lib.hid (shown10_any lo w ht)
  have HT := Lib.hid ht
  obtain ⟨i0, hi, hz0, hz1, hz2⟩ := info_parts fvInfo
  have HI := Lib.hid hi
  have HZ0 := Lib.hid hz0
  clear ht hN hi hz0 hm1 hm2 hm3 hl1 hl2 hl3 hp hv ha
  go_enter Tryd.func6, Tryd.ntmps6
  go_upto_region 3 with (go_at_call 7; ((with_reducible refine HS.out.mono ?_); rintro e w1 ⟨rfl, h1⟩))
  rw [hrN]
  go_upto_region 8 with fail
  have H1 := Lib.hid h1
  obtain ⟨b0, hb0⟩ : ∃ b, w1.heap.size = b := ⟨_, rfl⟩
  obtain ⟨W, hW⟩ : ∃ W, ((w1.alloc (.cells #[.int .i64 1, .int .i64 0, .int .i64 0, .int .i64 18, .int .i64 0, .int .i64 0] 37)).alloc (.cells #[.string ⟨#[]⟩, .int .i64 0, .int .i64 0, .int .i64 0, .slice (some ⟨b0, 0, none⟩) 2 2] 39)).alloc (.cells #[.slice (some ⟨b0 + 1, 0, none⟩) 1 1] 29) = W := ⟨_, rfl⟩
  have n0 : W.heap[b0]? = some (.cells #[.int .i64 1, .int .i64 0, .int .i64 0, .int .i64 18, .int .i64 0, .int .i64 0] 37) := by rw [← hW]; exact blk_alloc (blk_alloc (blk_new hb0) _) _
  have n1 : W.heap[b0 + 1]? = some (.cells #[.string ⟨#[]⟩, .int .i64 0, .int .i64 0, .int .i64 0, .slice (some ⟨b0, 0, none⟩) 2 2] 39) := by rw [← hW]; exact blk_alloc (blk_new (by simp [hb0])) _
  have n2 : W.heap[b0 + 1 + 1]? = some (.cells #[.slice (some ⟨b0 + 1, 0, none⟩) 1 1] 29) := by rw [← hW]; exact blk_new (by simp [hb0])
  have hbW : Below w.heap.size w W := by rw [← hW]; exact ((h1.alloc h1.size _).alloc (by have := h1.size; simp only [World.size_alloc]; omega) _).alloc (by have := h1.size; simp only [World.size_alloc]; omega) _
  have hwb : w.heap.size ≤ b0 := by rw [← hb0]; exact h1.size
  have hown0 : W.ownsRow (b0 + 1) 39 5 (.slice (some ⟨b0 + 1, 0, none⟩) 1 1) 1 (rowF (.slice (some ⟨b0, 0, none⟩) 2 2) (mnAll 0 p v a)) := own_lit n1 (Nat.le_refl _) rfl (by decide)
  rw [hb0, hW]
  have N0 := Lib.hid n0
  have N2 := Lib.hid n2
  have HBW := Lib.hid hbW
  have HO0 := Lib.hid hown0
  clear hb0 hW n0 n1 n2 hbW hown0 h1
  go_wp2
  go_loopw [12] (fun i wr => MnRel b0 N p v a w i wr) (fun i _ => N - (RowKit.intOf i).toNat)
  case atStart => exact ⟨0, _, rfl, Nat.zero_le _, N2.out, N0.out, HO0.out, HBW.out⟩
  case round =>
    obtain ⟨k, vF, rfl, hk, hbx, hrw, hown, hbel⟩ := hrel
    have HO := Lib.hid hown
    have HB := Lib.hid hbel
    have HBX := Lib.hid hbx
    have HRW := Lib.hid hrw
    obtain ⟨X, cX, rfl⟩ := own_form hown
    have lbx := blk_lt hbx
    have e0 : wr.cell? ⟨b0 + 1 + 1, 0, none⟩ = some (.slice X (1 + k) cX) := (blk_cell hbx 0).trans rfl
    clear hown hbel hbx hrw
    by_cases hkN : k < N
    · have hlt : decide ((k : Int) < (N : Int)) = true := by simp; omega
      have HKN := Lib.hid hkN
      obtain ⟨wq, hwq⟩ : ∃ W, wr.alloc (.cells #[.string ⟨#[]⟩, .int .i64 p, .int .i64 v, .int .i64 a, .slice (some ⟨b0, 0, none⟩) 2 2] 39) = W := ⟨_, rfl⟩
      have q0 : wq.heap[b0 + 1 + 1]? = some (.cells #[.slice X (1 + k) cX] 29) := by rw [← hwq]; exact blk_alloc HBX.out _
      have q1 : wq.heap[b0]? = some (.cells #[.int .i64 1, .int .i64 0, .int .i64 0, .int .i64 18, .int .i64 0, .int .i64 0] 37) := by rw [← hwq]; exact blk_alloc HRW.out _
      have q2 : wq.heap[wr.heap.size]? = some (.cells #[.string ⟨#[]⟩, .int .i64 p, .int .i64 v, .int .i64 a, .slice (some ⟨b0, 0, none⟩) 2 2] 39) := by rw [← hwq]; exact heap_alloc_new _ _
      have q3 : Below w.heap.size w wq := by rw [← hwq]; exact HB.out.alloc HB.out.size _
      have q4 : wq.ownsRow (b0 + 1) 39 5 (.slice X (1 + k) cX) (1 + k) (rowF (.slice (some ⟨b0, 0, none⟩) 2 2) (mnAll k p v a)) := by rw [← hwq]; exact HO.out.alloc _
      have q5 : wr.heap.size ≤ wq.heap.size := by rw [← hwq]; simp
      have Q0 := Lib.hid q0
      have Q1 := Lib.hid q1
      have Q2 := Lib.hid q2
      have Q3 := Lib.hid q3
      have Q4 := Lib.hid q4
      clear q0 q1 q2 q3 q4
      go_wp2_with (at_builtin; refine wpl_app_own rfl _ _ 27 rfl (b0 + 1) 39 i0 _ 5 64 Tryd.underlying27 HI.out HZ0.out hz1 hz2 rfl (by decide) _ (1 + k) _ rfl Q4.out (some ⟨wr.heap.size, 0, none⟩) 1 1 _ rfl (fun h => by cases h) rfl (blk_news Q2.out) (fun u hu => by (simp only [List.mem_cons, List.not_mem_nil, or_false] at hu; rcases hu with rfl | rfl | rfl | rfl | rfl <;> rfl)) (by unfold maxLen; omega) (by omega) (by omega) ?_; intro v9 w9 hown9 hg9; have r0 := blk_grown_own Q4.out hg9 Q0.out (by decide); have r1 := blk_grown_own Q4.out hg9 Q1.out (by decide); have g0 : w9.cell? ⟨b0 + 1 + 1, 0, none⟩ = some (.slice X (1 + k) cX) := (blk_cell r0 0).trans rfl; have g1 := blk_frozen r0 0; have g2 := blk_lt r0; have r3 := Q3.out.grown hg9 (Nat.le_trans HB.out.size q5) (fun q hq => by have := (Q4.out.lt q hq).1; omega); have R0 := Lib.hid r0; have R1 := Lib.hid r1; have R3 := Lib.hid r3; have RO := Lib.hid hown9; obtain ⟨X9, c9, rfl⟩ := own_form hown9; clear r0 r1 r3 hown9 hg9)
      go_roundw
      case rel =>
        refine ⟨k + 1, .slice X9 (1 + k + 1) c9, by go_num, by have := HKN.out; omega, (blk_set R0.out 0 _).trans rfl, (Below.heap_setCell _ _ _ _ (by simp only; omega)).trans R1.out, ?_, R3.out.setCell (p := ⟨b0 + 1 + 1, 0, none⟩) (by simp only; omega) _⟩
        rw [mn_snoc, show 1 + (k + 1) = 1 + k + 1 by omega]
        exact own_set RO.out (own_ne RO.out R0.out (by decide)) _
      case measure => simp [RowKit.intOf]; omega
    · obtain rfl : k = N := by omega
      have hlt : decide ((k : Int) < (k : Int)) = false := by simp
      have hIL : InV wr.heap.size wr (.slice (some ⟨b0, 0, none⟩) 2 2) mnL := inv_blk HRW.out rfl mnL_ok rfl (by decide)
      have hFV := own_fv HO.out (by simp [mnAll]; omega) hIL
      have hsh : Short ((mnAll k p v a).map mnOf) := by
        intro f hf
        obtain ⟨x, _, rfl⟩ := List.mem_map.1 hf
        show 2 ≤ _; decide
      have herr := many_err k p v a
      have HC := Lib.hid (fun z (hz : codeErr ((mnAll k p v a).map mnOf) = z) => code_t _ _ lo z hz wr hFV hsh (HT.out.on (HB.out.mono HT.out.lw)))
      have HE := Lib.hid herr
      clear hkN hIL hFV hsh herr
      by_cases h0 : 0 ≤ p
      · by_cases h1 : p ≤ 8
        · by_cases h2 : p ≤ v
          · by_cases h3 : v ≤ 64
            · by_cases h4 : 0 ≤ a
              · by_cases h5 : a ≤ 64
                · have m0 : decide ((0 : Int) ≤ p) = true := by simp; omega
                  have m1 : decide (p ≤ (8 : Int)) = true := by simp; omega
                  have m2 : decide (p ≤ v) = true := by simp; omega
                  have m3 : decide (v ≤ (64 : Int)) = true := by simp; omega
                  have m4 : decide ((0 : Int) ≤ a) = true := by simp; omega
                  have m5 : decide (a ≤ (64 : Int)) = true := by simp; omega
                  have hmay : mayFn p v a := by unfold mayFn; omega
                  clear h0 h1 h2 h3 h4 h5
                  rcases (show k = 0 ∨ (k ≠ 0 ∧ k ≤ 32) ∨ 32 < k by omega) with hk0 | ⟨hk0, hk32⟩ | hk32
                  · have t0 : ((k : Int) == 0) = true := by simp; omega
                    have t1 : decide ((k : Int) ≤ 32) = true := by simp; omega
                    have t2 : decide (k ≤ 32) = true := by simp; omega
                    have hz := HE.out
                    rw [if_pos ⟨by omega, .inl hk0⟩] at hz
                    have HZ := Lib.hid (HC.out 0 hz)
                    clear hz hmay hk0
                    go_wp2_with (go_at_call 9; ((with_reducible refine HZ.out.mono ?_); rintro e y0 ⟨rfl, d0⟩))
                    go_ret
                    exact ⟨rfl, HB.out.trans (d0.mono HB.out.size)⟩
                  · have t0 : ((k : Int) == 0) = false := by simp; omega
                    have t1 : decide ((k : Int) ≤ 32) = true := by simp; omega
                    have t2 : decide (k ≤ 32) = true := by simp; omega
                    have hz := HE.out
                    rw [if_pos ⟨hk32, .inr hmay⟩] at hz
                    have HZ := Lib.hid (HC.out 0 hz)
                    clear hz hmay hk0 hk32
                    go_wp2_with (go_at_call 9; ((with_reducible refine HZ.out.mono ?_); rintro e y0 ⟨rfl, d0⟩))
                    go_ret
                    exact ⟨rfl, HB.out.trans (d0.mono HB.out.size)⟩
                  · have t1 : decide ((k : Int) ≤ 32) = false := by simp; omega
                    have t2 : decide (k ≤ 32) = false := by simp; omega
                    have hz := HE.out
                    rw [if_neg (fun h => by omega)] at hz
                    have HZ := Lib.hid (HC.out 6 hz)
                    clear hz hmay  hk32
                    go_wp2_with (go_at_call 9; ((with_reducible refine HZ.out.mono ?_); rintro e y0 ⟨rfl, d0⟩))
                    go_ret
                    exact ⟨rfl, HB.out.trans (d0.mono HB.out.size)⟩
                · have m0 : decide ((0 : Int) ≤ p) = true := by simp; omega
                  have m1 : decide (p ≤ (8 : Int)) = true := by simp; omega
                  have m2 : decide (p ≤ v) = true := by simp; omega
                  have m3 : decide (v ≤ (64 : Int)) = true := by simp; omega
                  have m4 : decide ((0 : Int) ≤ a) = true := by simp; omega
                  have m5 : decide (a ≤ (64 : Int)) = false := by simp; omega
                  have hmay : ¬ mayFn p v a := by unfold mayFn; omega
                  clear h0 h1 h2 h3 h4 h5
                  rcases (show k = 0 ∨ (k ≠ 0 ∧ k ≤ 32) ∨ 32 < k by omega) with hk0 | ⟨hk0, hk32⟩ | hk32
                  · have t0 : ((k : Int) == 0) = true := by simp; omega
                    have t1 : decide ((k : Int) ≤ 32) = true := by simp; omega
                    have t2 : decide (k ≤ 32) = true := by simp; omega
                    have hz := HE.out
                    rw [if_pos ⟨by omega, .inl hk0⟩] at hz
                    have HZ := Lib.hid (HC.out 0 hz)
                    clear hz hmay hk0
                    go_wp2_with (go_at_call 9; ((with_reducible refine HZ.out.mono ?_); rintro e y0 ⟨rfl, d0⟩))
                    go_ret
                    exact ⟨rfl, HB.out.trans (d0.mono HB.out.size)⟩
                  · have t0 : ((k : Int) == 0) = false := by simp; omega
                    have t1 : decide ((k : Int) ≤ 32) = true := by simp; omega
                    have t2 : decide (k ≤ 32) = true := by simp; omega
                    have hz := HE.out
                    rw [if_neg (fun h => h.2.elim hk0 hmay)] at hz
                    have HZ := Lib.hid (HC.out 6 hz)
                    clear hz hmay hk0 hk32
                    go_wp2_with (go_at_call 9; ((with_reducible refine HZ.out.mono ?_); rintro e y0 ⟨rfl, d0⟩))
                    go_ret
                    exact ⟨rfl, HB.out.trans (d0.mono HB.out.size)⟩
                  · have t1 : decide ((k : Int) ≤ 32) = false := by simp; omega
                    have t2 : decide (k ≤ 32) = false := by simp; omega
                    have hz := HE.out
                    rw [if_neg (fun h => by omega)] at hz
                    have HZ := Lib.hid (HC.out 6 hz)
                    clear hz hmay  hk32
                    go_wp2_with (go_at_call 9; ((with_reducible refine HZ.out.mono ?_); rintro e y0 ⟨rfl, d0⟩))
                    go_ret
                    exact ⟨rfl, HB.out.trans (d0.mono HB.out.size)⟩
              · have m0 : decide ((0 : Int) ≤ p) = true := by simp; omega
                have m1 : decide (p ≤ (8 : Int)) = true := by simp; omega
                have m2 : decide (p ≤ v) = true := by simp; omega
                have m3 : decide (v ≤ (64 : Int)) = true := by simp; omega
                have m4 : decide ((0 : Int) ≤ a) = false := by simp; omega
                have hmay : ¬ mayFn p v a := by unfold mayFn; omega
                clear h0 h1 h2 h3 h4
                rcases (show k = 0 ∨ (k ≠ 0 ∧ k ≤ 32) ∨ 32 < k by omega) with hk0 | ⟨hk0, hk32⟩ | hk32
                · have t0 : ((k : Int) == 0) = true := by simp; omega
                  have t1 : decide ((k : Int) ≤ 32) = true := by simp; omega
                  have t2 : decide (k ≤ 32) = true := by simp; omega
                  have hz := HE.out
                  rw [if_pos ⟨by omega, .inl hk0⟩] at hz
                  have HZ := Lib.hid (HC.out 0 hz)
                  clear hz hmay hk0
                  go_wp2_with (go_at_call 9; ((with_reducible refine HZ.out.mono ?_); rintro e y0 ⟨rfl, d0⟩))
                  go_ret
                  exact ⟨rfl, HB.out.trans (d0.mono HB.out.size)⟩
                · have t0 : ((k : Int) == 0) = false := by simp; omega
                  have t1 : decide ((k : Int) ≤ 32) = true := by simp; omega
                  have t2 : decide (k ≤ 32) = true := by simp; omega
                  have hz := HE.out
                  rw [if_neg (fun h => h.2.elim hk0 hmay)] at hz
                  have HZ := Lib.hid (HC.out 6 hz)
                  clear hz hmay hk0 hk32
                  go_wp2_with (go_at_call 9; ((with_reducible refine HZ.out.mono ?_); rintro e y0 ⟨rfl, d0⟩))
                  go_ret
                  exact ⟨rfl, HB.out.trans (d0.mono HB.out.size)⟩
                · have t1 : decide ((k : Int) ≤ 32) = false := by simp; omega
                  have t2 : decide (k ≤ 32) = false := by simp; omega
                  have hz := HE.out
                  rw [if_neg (fun h => by omega)] at hz
                  have HZ := Lib.hid (HC.out 6 hz)
                  clear hz hmay  hk32
                  go_wp2_with (go_at_call 9; ((with_reducible refine HZ.out.mono ?_); rintro e y0 ⟨rfl, d0⟩))
                  go_ret
                  exact ⟨rfl, HB.out.trans (d0.mono HB.out.size)⟩
            · have m0 : decide ((0 : Int) ≤ p) = true := by simp; omega
              have m1 : decide (p ≤ (8 : Int)) = true := by simp; omega
              have m2 : decide (p ≤ v) = true := by simp; omega
              have m3 : decide (v ≤ (64 : Int)) = false := by simp; omega
              have hmay : ¬ mayFn p v a := by unfold mayFn; omega
              clear h0 h1 h2 h3
              rcases (show k = 0 ∨ (k ≠ 0 ∧ k ≤ 32) ∨ 32 < k by omega) with hk0 | ⟨hk0, hk32⟩ | hk32
              · have t0 : ((k : Int) == 0) = true := by simp; omega
                have t1 : decide ((k : Int) ≤ 32) = true := by simp; omega
                have t2 : decide (k ≤ 32) = true := by simp; omega
                have hz := HE.out
                rw [if_pos ⟨by omega, .inl hk0⟩] at hz
                have HZ := Lib.hid (HC.out 0 hz)
                clear hz hmay hk0
                go_wp2_with (go_at_call 9; ((with_reducible refine HZ.out.mono ?_); rintro e y0 ⟨rfl, d0⟩))
                go_ret
                exact ⟨rfl, HB.out.trans (d0.mono HB.out.size)⟩
              · have t0 : ((k : Int) == 0) = false := by simp; omega
                have t1 : decide ((k : Int) ≤ 32) = true := by simp; omega
                have t2 : decide (k ≤ 32) = true := by simp; omega
                have hz := HE.out
                rw [if_neg (fun h => h.2.elim hk0 hmay)] at hz
                have HZ := Lib.hid (HC.out 6 hz)
                clear hz hmay hk0 hk32
                go_wp2_with (go_at_call 9; ((with_reducible refine HZ.out.mono ?_); rintro e y0 ⟨rfl, d0⟩))
                go_ret
                exact ⟨rfl, HB.out.trans (d0.mono HB.out.size)⟩
              · have t1 : decide ((k : Int) ≤ 32) = false := by simp; omega
                have t2 : decide (k ≤ 32) = false := by simp; omega
                have hz := HE.out
                rw [if_neg (fun h => by omega)] at hz
                have HZ := Lib.hid (HC.out 6 hz)
                clear hz hmay  hk32
                go_wp2_with (go_at_call 9; ((with_reducible refine HZ.out.mono ?_); rintro e y0 ⟨rfl, d0⟩))
                go_ret
                exact ⟨rfl, HB.out.trans (d0.mono HB.out.size)⟩
          · have m0 : decide ((0 : Int) ≤ p) = true := by simp; omega
            have m1 : decide (p ≤ (8 : Int)) = true := by simp; omega
            have m2 : decide (p ≤ v) = false := by simp; omega
            have hmay : ¬ mayFn p v a := by unfold mayFn; omega
            clear h0 h1 h2
            rcases (show k = 0 ∨ (k ≠ 0 ∧ k ≤ 32) ∨ 32 < k by omega) with hk0 | ⟨hk0, hk32⟩ | hk32
            · have t0 : ((k : Int) == 0) = true := by simp; omega
              have t1 : decide ((k : Int) ≤ 32) = true := by simp; omega
              have t2 : decide (k ≤ 32) = true := by simp; omega
              have hz := HE.out
              rw [if_pos ⟨by omega, .inl hk0⟩] at hz
              have HZ := Lib.hid (HC.out 0 hz)
              clear hz hmay hk0
              go_wp2_with (go_at_call 9; ((with_reducible refine HZ.out.mono ?_); rintro e y0 ⟨rfl, d0⟩))
              go_ret
              exact ⟨rfl, HB.out.trans (d0.mono HB.out.size)⟩
            · have t0 : ((k : Int) == 0) = false := by simp; omega
              have t1 : decide ((k : Int) ≤ 32) = true := by simp; omega
              have t2 : decide (k ≤ 32) = true := by simp; omega
              have hz := HE.out
              rw [if_neg (fun h => h.2.elim hk0 hmay)] at hz
              have HZ := Lib.hid (HC.out 6 hz)
              clear hz hmay hk0 hk32
              go_wp2_with (go_at_call 9; ((with_reducible refine HZ.out.mono ?_); rintro e y0 ⟨rfl, d0⟩))
              go_ret
              exact ⟨rfl, HB.out.trans (d0.mono HB.out.size)⟩
            · have t1 : decide ((k : Int) ≤ 32) = false := by simp; omega
              have t2 : decide (k ≤ 32) = false := by simp; omega
              have hz := HE.out
              rw [if_neg (fun h => by omega)] at hz
              have HZ := Lib.hid (HC.out 6 hz)
              clear hz hmay  hk32
              go_wp2_with (go_at_call 9; ((with_reducible refine HZ.out.mono ?_); rintro e y0 ⟨rfl, d0⟩))
              go_ret
              exact ⟨rfl, HB.out.trans (d0.mono HB.out.size)⟩
        · have m0 : decide ((0 : Int) ≤ p) = true := by simp; omega
          have m1 : decide (p ≤ (8 : Int)) = false := by simp; omega
          have hmay : ¬ mayFn p v a := by unfold mayFn; omega
          clear h0 h1
          rcases (show k = 0 ∨ (k ≠ 0 ∧ k ≤ 32) ∨ 32 < k by omega) with hk0 | ⟨hk0, hk32⟩ | hk32
          · have t0 : ((k : Int) == 0) = true := by simp; omega
            have t1 : decide ((k : Int) ≤ 32) = true := by simp; omega
            have t2 : decide (k ≤ 32) = true := by simp; omega
            have hz := HE.out
            rw [if_pos ⟨by omega, .inl hk0⟩] at hz
            have HZ := Lib.hid (HC.out 0 hz)
            clear hz hmay hk0
            go_wp2_with (go_at_call 9; ((with_reducible refine HZ.out.mono ?_); rintro e y0 ⟨rfl, d0⟩))
            go_ret
            exact ⟨rfl, HB.out.trans (d0.mono HB.out.size)⟩
          · have t0 : ((k : Int) == 0) = false := by simp; omega
            have t1 : decide ((k : Int) ≤ 32) = true := by simp; omega
            have t2 : decide (k ≤ 32) = true := by simp; omega
            have hz := HE.out
            rw [if_neg (fun h => h.2.elim hk0 hmay)] at hz
            have HZ := Lib.hid (HC.out 6 hz)
            clear hz hmay hk0 hk32
            go_wp2_with (go_at_call 9; ((with_reducible refine HZ.out.mono ?_); rintro e y0 ⟨rfl, d0⟩))
            go_ret
            exact ⟨rfl, HB.out.trans (d0.mono HB.out.size)⟩
          · have t1 : decide ((k : Int) ≤ 32) = false := by simp; omega
            have t2 : decide (k ≤ 32) = false := by simp; omega
            have hz := HE.out
            rw [if_neg (fun h => by omega)] at hz
            have HZ := Lib.hid (HC.out 6 hz)
            clear hz hmay  hk32
            go_wp2_with (go_at_call 9; ((with_reducible refine HZ.out.mono ?_); rintro e y0 ⟨rfl, d0⟩))
            go_ret
            exact ⟨rfl, HB.out.trans (d0.mono HB.out.size)⟩
      · have m0 : decide ((0 : Int) ≤ p) = false := by simp; omega
        have hmay : ¬ mayFn p v a := by unfold mayFn; omega
        clear h0
        rcases (show k = 0 ∨ (k ≠ 0 ∧ k ≤ 32) ∨ 32 < k by omega) with hk0 | ⟨hk0, hk32⟩ | hk32
        · have t0 : ((k : Int) == 0) = true := by simp; omega
          have t1 : decide ((k : Int) ≤ 32) = true := by simp; omega
          have t2 : decide (k ≤ 32) = true := by simp; omega
          have hz := HE.out
          rw [if_pos ⟨by omega, .inl hk0⟩] at hz
          have HZ := Lib.hid (HC.out 0 hz)
          clear hz hmay hk0
          go_wp2_with (go_at_call 9; ((with_reducible refine HZ.out.mono ?_); rintro e y0 ⟨rfl, d0⟩))
          go_ret
          exact ⟨rfl, HB.out.trans (d0.mono HB.out.size)⟩
        · have t0 : ((k : Int) == 0) = false := by simp; omega
          have t1 : decide ((k : Int) ≤ 32) = true := by simp; omega
          have t2 : decide (k ≤ 32) = true := by simp; omega
          have hz := HE.out
          rw [if_neg (fun h => h.2.elim hk0 hmay)] at hz
          have HZ := Lib.hid (HC.out 6 hz)
          clear hz hmay hk0 hk32
          go_wp2_with (go_at_call 9; ((with_reducible refine HZ.out.mono ?_); rintro e y0 ⟨rfl, d0⟩))
          go_ret
          exact ⟨rfl, HB.out.trans (d0.mono HB.out.size)⟩
        · have t1 : decide ((k : Int) ≤ 32) = false := by simp; omega
          have t2 : decide (k ≤ 32) = false := by simp; omega
          have hz := HE.out
          rw [if_neg (fun h => by omega)] at hz
          have HZ := Lib.hid (HC.out 6 hz)
          clear hz hmay  hk32
          go_wp2_with (go_at_call 9; ((with_reducible refine HZ.out.mono ?_); rintro e y0 ⟨rfl, d0⟩))
          go_ret
          exact ⟨rfl, HB.out.trans (d0.mono HB.out.size)⟩
end Go.Proofs.YtahclmofioiibaaDoor
