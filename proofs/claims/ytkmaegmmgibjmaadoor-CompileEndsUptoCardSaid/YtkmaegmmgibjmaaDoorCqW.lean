/-
  CompileDeep's walk.
-/
import Derived.Test.YtkmaegmmgibjmaaDoorCqP
namespace Go.Proofs.YtkmaegmmgibjmaaDoor
open Go Go.RowKit Go.Lib

theorem InsIn.at_ {W : World} : ∀ {l : List In3} {b o i : Nat} {op a n : Int}, InsIn W l b o → l[i]? = some (op, a, n) → W.cell? ⟨b, o + i * 3, none⟩ = some (.int .i64 op) ∧ W.cell? ⟨b, o + i * 3 + 1, none⟩ = some (.int .i64 a) ∧ W.cell? ⟨b, o + i * 3 + 2, none⟩ = some (.int .i64 n)
  | (op', a', n') :: r, b, o, 0, op, a, n, h, e => by
    simp at e
    obtain ⟨rfl, rfl, rfl⟩ := e
    obtain ⟨h0, h1, h2, _, _⟩ := h
    simp only [Nat.zero_mul, Nat.add_zero]
    exact ⟨h0, h1, h2⟩
  | (op', a', n') :: r, b, o, i + 1, op, a, n, h, e => by
    obtain ⟨_, _, _, _, hr⟩ := h
    have := InsIn.at_ hr (i := i) (by simpa using e)
    rw [show o + (i + 1) * 3 = o + 3 + i * 3 by omega]
    exact this
/-- So many times Neg of m, in blocks from lo on. -/
def NgV (m lo : Nat) (W : World) : Nat → Value → Prop
  | 0, v => ∃ b, v = .slice (some ⟨b, 0, none⟩) 1 1 ∧ lo ≤ b ∧ b < W.heap.size ∧ W.heap[b]? = some (exprO 1 m noz (.slice none 0 0))
  | k + 1, v => ∃ b vl, v = .slice (some ⟨b, 0, none⟩) 1 1 ∧ lo ≤ b ∧ b < W.heap.size ∧ W.heap[b]? = some (exprO 6 0 noz vl) ∧ NgV m lo W k vl
theorem NgV.keep {m lo : Nat} {W W' : World} (hs : W.heap.size ≤ W'.heap.size) (h : ∀ b, lo ≤ b → b < W.heap.size → W'.heap[b]? = W.heap[b]?) : ∀ {k : Nat} {v : Value}, NgV m lo W k v → NgV m lo W' k v
  | 0, _, ⟨b, e, h1, h2, h3⟩ => ⟨b, e, h1, by omega, (h b h1 h2).trans h3⟩
  | _ + 1, _, ⟨b, vl, e, h1, h2, h3, h4⟩ => ⟨b, vl, e, h1, by omega, (h b h1 h2).trans h3, NgV.keep hs h h4⟩
theorem NgV.ev {m lo : Nat} {W : World} (hm : m ≤ 4611686018427387903) : ∀ {k : Nat} {v : Value}, NgV m lo W k v → EV W.heap.size W v (ngE m k)
  | 0, _, ⟨b, e, _, h2, h3⟩ => by subst e; exact ev_one h3 h2 (ev_nil _ _) (i64_lit rfl) (by unfold I64; omega) (by decide)
  | k + 1, _, ⟨b, vl, e, _, h2, h3, h4⟩ => by subst e; exact ev_one h3 h2 (NgV.ev hm h4) (i64_lit rfl) (i64_lit rfl) (by decide)
/-- What lies in the box of e behind k rounds. -/
def NgB (m lo : Nat) (W : World) (k : Nat) (op n : Int) (vl : Value) : Prop :=
  ∀ (W' : World) (b : Nat), lo ≤ b → b < W'.heap.size → W.heap.size ≤ W'.heap.size → (∀ b, lo ≤ b → b < W.heap.size → W'.heap[b]? = W.heap[b]?) → W'.heap[b]? = some (exprO op n noz vl) → NgV m lo W' k (.slice (some ⟨b, 0, none⟩) 1 1)
theorem ngB_zero (m lo : Nat) (W : World) : NgB m lo W 0 1 m (.slice none 0 0) := fun _ b h1 h2 _ _ h => ⟨b, rfl, h1, h2, h⟩
theorem ngB_step {m lo : Nat} {W : World} {k : Nat} {v : Value} (h : NgV m lo W k v) : NgB m lo W (k + 1) 6 0 v := fun _ b h1 h2 h3 h4 h5 => ⟨b, v, rfl, h1, h2, h5, h.keep h3 h4⟩

/-- Compile at a program whose code is one function. -/
theorem comp_fn (v : Value) (p : Pg) (L : List In3) (n x y z : Nat) (w : World) (hv : PgV w.heap.size w v p) (ht : TB w) (hc : cntL p.pts ≤ 10000000) (he : resErr p = 0) (hL : cmpP p = [⟨noz, x, y, z, L⟩]) (h6 : L.length = n) (h0 : 0 < n) :
    Calls Tryd.prog 8 #[v] w fun e w' => ∃ (g o c b q cv : Nat), e = .returned (.tuple #[.agg #[.slice (some ⟨g, o, none⟩) 1 c], .int .i64 0]) ∧ 1 ≤ c ∧ c ≤ 9223372036854775807 ∧ g < w'.heap.size ∧ w'.cell? ⟨g, o + 4, none⟩ = some (.slice (some ⟨b, q, none⟩) n cv) ∧ n ≤ cv ∧ b < w'.heap.size ∧ InsIn w' L b q ∧ Below w.heap.size w w' := by
  refine (compile_any v p w hv ht hc).mono ?_
  rintro e w' ⟨vf, rfl, hf, hb⟩
  rw [hL] at hf
  obtain ⟨A, c, rfl, h1, h2, h3⟩ := hf
  obtain ⟨g, o, rfl, hg, hin⟩ := h3 (by simp)
  obtain ⟨_, _, _, _, ⟨vl, hc4, hl⟩, _⟩ := hin
  obtain ⟨Av, cv, rfl, k1, k2, k3⟩ := id hl
  simp only [h6] at hc4 k1 k3
  obtain ⟨b, q, rfl, hbq, hins⟩ := k3 h0
  exact ⟨g, o, c, b, q, cv, by rw [he]; rfl, h1, h2, hg, hc4, k1, hbq, hins, hb⟩
theorem lD_len (m k : Nat) : (lD m k).length = k + 4 := by simp [lD]
theorem lD_at (m k i : Nat) (h1 : 1 ≤ i) (h2 : i ≤ k) : (lD m k)[i]? = some (4, 0, 0) := by
  obtain ⟨j, rfl⟩ : ∃ j, i = j + 1 := ⟨i - 1, by omega⟩
  unfold lD
  rw [List.getElem?_cons_succ, List.getElem?_append_left (by simp; omega), List.getElem?_replicate, if_pos (by omega)]
theorem lD_end (m k : Nat) : (lD m k)[k + 1]? = some (20, 0, 0) := by
  unfold lD
  rw [List.getElem?_cons_succ, List.getElem?_append_right (by simp)]
  simp
def DpRel (m B0 N : Nat) (w : World) (i : Value) (wr : World) : Prop :=
  ∃ (k : Nat) (op n : Int) (A : Option Addr) (kl c : Nat), i = .int .i64 k ∧ k ≤ N ∧ wr.heap[B0]? = some (exprO op n noz (.slice A kl c)) ∧ NgB m (B0 + 1) wr k op n (.slice A kl c) ∧ Below w.heap.size w wr

set_option maxRecDepth 100000 in
set_option maxHeartbeats 8000000 in
theorem deep_walk (x y : Int) (w : World) (ht : TB w) : Calls Tryd.prog 6 #[.int .i64 x, .int .i64 y] w fun e w' => e = .returned (.bool true) ∧ Below w.heap.size w w' := by
  obtain ⟨D, hD, hD2⟩ := and_16 x
  obtain ⟨m, hm, hm2⟩ := and_62 y
  obtain ⟨N, hN⟩ : ∃ N, D % 61 = N := ⟨_, rfl⟩
  have hN60 : N ≤ 60 := by omega
  have hrem : (D : Int) % 61 = (N : Int) := by omega
  have HS := Lib.hid (shown_any w ht)
  have HT := Lib.hid ht
  clear ht hD2 hN
  go_enter Tryd.func6, Tryd.ntmps6
  go_wp2_with (go_at_call 7; ((with_reducible refine HS.out.mono ?_); rintro e w1 ⟨rfl, h1⟩))
  rw [hrem]
  obtain ⟨B0, hB0⟩ : ∃ B, w1.heap.size = B := ⟨_, rfl⟩
  obtain ⟨w2, hw2⟩ : ∃ w2, w1.alloc (exprO 1 m noz (.slice none 0 0)) = w2 := ⟨_, rfl⟩
  have h2 : Below w.heap.size w w2 := by rw [← hw2]; exact h1.alloc h1.size _
  have b2 : w2.heap[B0]? = some (exprO 1 m noz (.slice none 0 0)) := by rw [← hw2]; exact blk_new hB0
  have hwB : w.heap.size ≤ B0 := by rw [← hB0]; exact h1.size
  rw [hw2, hB0]
  have H2 := Lib.hid h2
  have HB2 := Lib.hid b2
  clear hD hm h1 hw2 hB0 h2 b2 hrem
  go_loopw [7] (fun i wr => DpRel m B0 N w i wr) (fun i _ => N - (RowKit.intOf i).toNat)
  case atStart => exact ⟨0, 1, m, none, 0, 0, rfl, Nat.zero_le _, HB2.out, ngB_zero _ _ _, H2.out⟩
  case round =>
    obtain ⟨k, op, n, A, kl, c, rfl, hk, hbx, hng, hbel⟩ := hrel
    obtain ⟨x0, x1, x2, x3⟩ : wr.cell? ⟨B0, 0, none⟩ = some (.int .i64 op) ∧ wr.cell? ⟨B0, 1, none⟩ = some (.int .i64 n) ∧ wr.cell? ⟨B0, 2, none⟩ = some (.string noz) ∧ wr.cell? ⟨B0, 3, none⟩ = some (.slice A kl c) := ⟨(blk_cell hbx 0).trans rfl, (blk_cell hbx 1).trans rfl, (blk_cell hbx 2).trans rfl, (blk_cell hbx 3).trans rfl⟩
    have lB := blk_lt hbx
    have HNG := Lib.hid hng
    have HBL := Lib.hid hbel
    have HBX := Lib.hid hbx
    by_cases hkN : k < N
    · have hlt : decide ((k : Int) < (N : Int)) = true := by simp; omega
      obtain ⟨W1, hW1⟩ : ∃ W1, wr.alloc (exprO op n noz (.slice A kl c)) = W1 := ⟨_, rfl⟩
      have hb1 : W1.heap[B0]? = some (exprO op n noz (.slice A kl c)) := by rw [← hW1]; exact blk_alloc hbx _
      have hn1 : W1.heap[wr.heap.size]? = some (exprO op n noz (.slice A kl c)) := by rw [← hW1]; exact heap_alloc_new _ _
      have hz1 : W1.heap.size = wr.heap.size + 1 := by rw [← hW1, World.size_alloc]
      have hbb : ∀ b, b < wr.heap.size → W1.heap[b]? = wr.heap[b]? := fun b hb => by rw [← hW1]; exact Below.heap_alloc _ _ _ hb
      have hw1 : Below w.heap.size w W1 := by rw [← hW1]; exact hbel.alloc hbel.size _
      obtain ⟨y0, y1, y2, y3⟩ : W1.cell? ⟨B0, 0, none⟩ = some (.int .i64 op) ∧ W1.cell? ⟨B0, 1, none⟩ = some (.int .i64 n) ∧ W1.cell? ⟨B0, 2, none⟩ = some (.string noz) ∧ W1.cell? ⟨B0, 3, none⟩ = some (.slice A kl c) := ⟨(blk_cell hb1 0).trans rfl, (blk_cell hb1 1).trans rfl, (blk_cell hb1 2).trans rfl, (blk_cell hb1 3).trans rfl⟩
      have f0 := blk_frozen hb1 0
      have f1 := blk_frozen hb1 1
      have f2 := blk_frozen hb1 2
      have f3 := blk_frozen hb1 3
      have lW := blk_lt hb1
      have HB1 := Lib.hid hb1
      have HN1 := Lib.hid hn1
      have HZ1 := Lib.hid hz1
      have HBB := Lib.hid hbb
      have HW1 := Lib.hid hw1
      clear hbx hng hbel hb1 hn1 hz1 hbb hw1
      go_wp2
      obtain ⟨W2, hW2⟩ : ∃ W2, (((W1.setCell ⟨B0, 0, none⟩ (.int .i64 6)).setCell ⟨B0, 1, none⟩ (.int .i64 0)).setCell ⟨B0, 2, none⟩ (.string noz)).setCell ⟨B0, 3, none⟩ (.slice (some ⟨wr.heap.size, 0, none⟩) 1 1) = W2 := ⟨_, rfl⟩
      have hz2 : W2.heap.size = wr.heap.size + 1 := by rw [← hW2]; simp only [World.size_setCell]; exact HZ1.out
      have hx2 : W2.heap[B0]? = some (exprO 6 0 noz (.slice (some ⟨wr.heap.size, 0, none⟩) 1 1)) := by rw [← hW2]; exact (blk_set ((blk_set ((blk_set ((blk_set HB1.out 0 _).trans rfl) 1 _).trans rfl) 2 _).trans rfl) 3 _).trans rfl
      have ho2 : ∀ b, b ≠ B0 → W2.heap[b]? = W1.heap[b]? := fun b hb => by
        rw [← hW2]
        exact (Below.heap_setCell _ _ _ _ (by simpa using hb)).trans ((Below.heap_setCell _ _ _ _ (by simpa using hb)).trans ((Below.heap_setCell _ _ _ _ (by simpa using hb)).trans (Below.heap_setCell _ _ _ _ (by simpa using hb))))
      have hv2 : NgV m (B0 + 1) W2 k (.slice (some ⟨wr.heap.size, 0, none⟩) 1 1) := HNG.out W2 wr.heap.size (by omega) (by omega) (by omega) (fun b h1 h2 => (ho2 b (by omega)).trans (HBB.out b h2)) ((ho2 _ (by omega)).trans HN1.out)
      rw [hW2]
      refine ⟨⟨k + 1, 6, 0, _, 1, 1, by go_num, by omega, hx2, ngB_step hv2, ?_⟩, by simp [RowKit.intOf]; omega⟩
      rw [← hW2]
      exact (((HW1.out.setCell (p := ⟨B0, 0, none⟩) hwB _).setCell (p := ⟨B0, 1, none⟩) hwB _).setCell (p := ⟨B0, 2, none⟩) hwB _).setCell (p := ⟨B0, 3, none⟩) hwB _
    · obtain rfl : k = N := by omega
      obtain ⟨W1, hW1⟩ : ∃ W1, (wr.alloc (exprO op n noz (.slice A kl c))).alloc (stmtO 6 noz 0 (.slice (some ⟨wr.heap.size, 0, none⟩) 1 1) (.slice none 0 0) (.slice none 0 0)) = W1 := ⟨_, rfl⟩
      have hn1 : W1.heap[wr.heap.size]? = some (exprO op n noz (.slice A kl c)) := by rw [← hW1]; exact blk_alloc (heap_alloc_new _ _) _
      have hs1 : W1.heap[wr.heap.size + 1]? = some (stmtO 6 noz 0 (.slice (some ⟨wr.heap.size, 0, none⟩) 1 1) (.slice none 0 0) (.slice none 0 0)) := by rw [← hW1]; exact new2 _ _ _
      have hbb : ∀ b, b < wr.heap.size → W1.heap[b]? = wr.heap[b]? := fun b hb => by rw [← hW1]; exact (Below.heap_alloc _ _ _ (by simp only [World.size_alloc]; omega)).trans (Below.heap_alloc _ _ _ hb)
      have hw1 : Below w.heap.size w W1 := by rw [← hW1]; exact (hbel.alloc hbel.size _).alloc (by have := hbel.size; simp only [World.size_alloc]; omega) _
      have hz1 : W1.heap.size = wr.heap.size + 2 := by rw [← hW1]; simp only [World.size_alloc]
      have hv1 : NgV m (B0 + 1) W1 k (.slice (some ⟨wr.heap.size, 0, none⟩) 1 1) := hng W1 wr.heap.size (by omega) (by omega) (by omega) (fun b _ h2 => hbb b h2) hn1
      have hC := comp_fn _ (pD m k) (lD m k) (k + 4) 0 0 0 W1 (pg_main (sv_one hs1 (by omega) (hv1.ev hm2) (sv_nil _ _) (sv_nil _ _) (i64_lit rfl) (i64_lit rfl) (by decide))) (HT.out.step hw1) (pD_cnt m k hN60) (pD_err m k hm2 hN60) (pD_cmp m k hm2 hN60) (lD_len m k) (by omega)
      have HC := Lib.hid hC
      have HW1 := Lib.hid hw1
      have HWW := Lib.hid hW1
      have hnl : decide ((k : Int) < (k : Int)) = false := by simp
      clear hbx hng hbel hn1 hs1 hbb hw1 hz1 hv1 hC hW1 hk hkN
      go_upto_region 10 with (go_at_call 8; rw [HWW.out]; ((with_reducible refine HC.out.mono ?_); rintro e w3 ⟨g, o, cc, b, q, cv, rfl, q1, q2, q3, q4, q5, q6, q7, q8⟩))
      have q3' := q3
      have hi0 := InsIn.at_ (i := 0) q7 (show (lD m k)[0]? = some (1, 0, (m : Int)) from rfl)
      simp only [Nat.zero_mul, Nat.add_zero] at hi0
      obtain ⟨i0, i1, i2⟩ := hi0
      obtain ⟨j0, j1, j2⟩ := InsIn.at_ q7 (lD_end m k)
      obtain ⟨w4, hw4⟩ : ∃ w4, w3.alloc (cdO (.slice (some ⟨g, o, none⟩) 1 cc)) = w4 := ⟨_, rfl⟩
      have hb4 : Below w3.heap.size w3 w4 := by rw [← hw4]; exact (Below.refl _ _).alloc (Nat.le_refl _) _
      have hbx4 : w4.heap[w3.heap.size]? = some (cdO (.slice (some ⟨g, o, none⟩) 1 cc)) := by rw [← hw4]; exact heap_alloc_new _ _
      have e0 : w4.cell? ⟨w3.heap.size, 0, none⟩ = some (.slice (some ⟨g, o, none⟩) 1 cc) := (blk_cell hbx4 0).trans rfl
      have e1 : w4.cell? ⟨g, o + 4, none⟩ = some (.slice (some ⟨b, q, none⟩) (k + 4) cv) := (hb4.cell (p := ⟨g, o + 4, none⟩) q3).trans q4
      have i0' : w4.cell? ⟨b, q, none⟩ = some (.int .i64 1) := (hb4.cell (p := ⟨b, q, none⟩) q6).trans i0
      have i1' : w4.cell? ⟨b, q + 1, none⟩ = some (.int .i64 0) := (hb4.cell (p := ⟨b, q + 1, none⟩) q6).trans i1
      have i2' : w4.cell? ⟨b, q + 2, none⟩ = some (.int .i64 m) := (hb4.cell (p := ⟨b, q + 2, none⟩) q6).trans i2
      have j0' : w4.cell? ⟨b, q + (k + 1) * 3, none⟩ = some (.int .i64 20) := (hb4.cell (p := ⟨b, q + (k + 1) * 3, none⟩) q6).trans j0
      have hwk : IntKind.i64.wrap ((k : Int) + 1) = (k : Int) + 1 := IntWalk.i64_in _ (by omega)
      have hb1 : 0 ≤ (k : Int) + 1 := by omega
      have hb2 : (k : Int) + 1 < (k : Int) + 4 := by omega
      have hb3 : ((k : Int) + 1).toNat = k + 1 := by omega
      have LI : Hid (∀ i, 1 ≤ i → i ≤ k → w4.cell? ⟨b, q + i * 3, none⟩ = some (.int .i64 4) ∧ w4.cell? ⟨b, q + i * 3 + 1, none⟩ = some (.int .i64 0) ∧ w4.cell? ⟨b, q + i * 3 + 2, none⟩ = some (.int .i64 0)) := hid fun i h1 h2 => by
        obtain ⟨a0, a1, a2⟩ := InsIn.at_ q7 (lD_at m k i h1 h2)
        exact ⟨(hb4.cell (p := ⟨b, q + i * 3, none⟩) q6).trans a0, (hb4.cell (p := ⟨b, q + i * 3 + 1, none⟩) q6).trans a1, (hb4.cell (p := ⟨b, q + i * 3 + 2, none⟩) q6).trans a2⟩
      have H4 := Lib.hid (HW1.out.trans ((q8.trans (hb4.mono q8.size)).mono HW1.out.size))
      have lb4 : b < w4.heap.size := Nat.lt_of_lt_of_le q6 hb4.size
      have lg4 : g < w4.heap.size := Nat.lt_of_lt_of_le q3 hb4.size
      have lc4 : w3.heap.size < w4.heap.size := blk_lt hbx4
      rw [hw4]
      clear hw4 i0 i1 i2 j0 j1 j2 q4 q7 q8 hb4 hbx4 q3 q6
      go_wp2
      clear i0' i1' i2' j0'
      go_loop [10] (fun i => ∃ j : Nat, i = .int .i64 j ∧ 1 ≤ j ∧ j ≤ k + 1) (fun i => k + 1 - (RowKit.intOf i).toNat)
      case atStart => exact ⟨1, rfl, Nat.le_refl _, by omega⟩
      case round =>
        obtain ⟨j, rfl, hj1, hj2⟩ := hrel
        by_cases hjk : j ≤ k
        · obtain ⟨a0, a1, a2⟩ := LI.out j hj1 hjk
          have hle : decide ((j : Int) ≤ (k : Int)) = true := by simp; omega
          have hj4 : j < k + 4 := by omega
          go_wp2
          go_round
          case rel => exact ⟨j + 1, by go_num, by omega, by omega⟩
          case measure => simp [RowKit.intOf]; omega
        · have hle : decide ((j : Int) ≤ (k : Int)) = false := by simp; omega
          go_wp2
          go_ret
          exact ⟨rfl, H4.out⟩
end Go.Proofs.YtkmaegmmgibjmaaDoor
