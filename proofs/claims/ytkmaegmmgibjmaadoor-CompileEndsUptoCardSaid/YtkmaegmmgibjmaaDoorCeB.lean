/-
  CompileEnds' walk.
-/
import Derived.Test.YtkmaegmmgibjmaaDoorCeA
import Derived.Test.YtkmaegmmgibjmaaDoorCqW
import Derived.Deep.QuietTactic
import Derived.BigQuiet
namespace Go.Proofs.YtkmaegmmgibjmaaDoor
open Go Go.RowKit Go.Lib

/-- One instruction of a function that goes no further than m. -/
def InsJ (W : World) (m b q i : Nat) : Prop := ∃ op a n : Int, W.cell? ⟨b, q + i * 3, none⟩ = some (.int .i64 op) ∧ W.cell? ⟨b, q + i * 3 + 1, none⟩ = some (.int .i64 a) ∧ W.cell? ⟨b, q + i * 3 + 2, none⟩ = some (.int .i64 n) ∧ (1 ≤ op ∧ op ≤ 25) ∧ (op = 15 ∨ op = 16 → 0 ≤ a ∧ a ≤ m)
/-- A function's row, and its scope's. -/
def EndRow (W : World) (g o g2 o2 k v x m L b q cv : Nat) (A1 A2 : Option Addr) (c1 c2 : Nat) : Prop :=
  (W.cell? ⟨g, o + k * 5 + 2, none⟩ = some (.int .i64 v) ∧ W.cell? ⟨g, o + k * 5 + 3, none⟩ = some (.int .i64 x) ∧ W.cell? ⟨g, o + k * 5 + 4, none⟩ = some (.slice (some ⟨b, q, none⟩) L cv) ∧ W.cell? ⟨g2, o2 + k * 4 + 2, none⟩ = some (.slice A1 v c1) ∧ W.cell? ⟨g2, o2 + k * 4 + 3, none⟩ = some (.slice A2 x c2)) ∧ (L = m + 2 ∧ L ≤ cv ∧ cv ≤ 9223372036854775807) ∧ b < W.heap.size ∧
  (W.cell? ⟨b, q + m * 3, none⟩ = some (.int .i64 1) ∧ W.cell? ⟨b, q + m * 3 + 2, none⟩ = some (.int .i64 0) ∧ W.cell? ⟨b, q + (m + 1) * 3, none⟩ = some (.int .i64 18)) ∧ (∀ i, i < L → InsJ W m b q i)
theorem InsJ.below {B : Nat} {W W' : World} {m b q i : Nat} (h : InsJ W m b q i) (hb : Below B W W') (hB : b < B) : InsJ W' m b q i := by
  obtain ⟨op, a, n, h0, h1, h2, h3⟩ := h
  exact ⟨op, a, n, (hb.cell (p := ⟨b, q + i * 3, none⟩) hB).trans h0, (hb.cell (p := ⟨b, q + i * 3 + 1, none⟩) hB).trans h1, (hb.cell (p := ⟨b, q + i * 3 + 2, none⟩) hB).trans h2, h3⟩
theorem EndRow.step {W W' : World} {g o g2 o2 k v x m L b q cv : Nat} {A1 A2 : Option Addr} {c1 c2 : Nat} (h : EndRow W g o g2 o2 k v x m L b q cv A1 A2 c1 c2) (hb : Below W.heap.size W W') (hg : g < W.heap.size) (hg2 : g2 < W.heap.size) : EndRow W' g o g2 o2 k v x m L b q cv A1 A2 c1 c2 := by
  obtain ⟨⟨h0, h1, h2, h3, h4⟩, h5, h6, ⟨h7, h8, h9⟩, h10⟩ := h
  exact ⟨⟨(hb.cell (p := ⟨g, o + k * 5 + 2, none⟩) hg).trans h0, (hb.cell (p := ⟨g, o + k * 5 + 3, none⟩) hg).trans h1, (hb.cell (p := ⟨g, o + k * 5 + 4, none⟩) hg).trans h2, (hb.cell (p := ⟨g2, o2 + k * 4 + 2, none⟩) hg2).trans h3, (hb.cell (p := ⟨g2, o2 + k * 4 + 3, none⟩) hg2).trans h4⟩, h5, Nat.lt_of_lt_of_le h6 hb.size, ⟨(hb.cell (p := ⟨b, q + m * 3, none⟩) h6).trans h7, (hb.cell (p := ⟨b, q + m * 3 + 2, none⟩) h6).trans h8, (hb.cell (p := ⟨b, q + (m + 1) * 3, none⟩) h6).trans h9⟩, fun i hi => (h10 i hi).below hb h6⟩
theorem fnL_len (s : Sp) (pl : ByteArray → Int) (b : SS) : (fnL s pl b).length = (cS s pl b 0).length + 2 := by simp [fnL]
theorem fnL_end (s : Sp) (pl : ByteArray → Int) (b : SS) : (fnL s pl b)[(cS s pl b 0).length]? = some (1, 0, 0) ∧ (fnL s pl b)[(cS s pl b 0).length + 1]? = some (18, 0, 0) := by
  constructor
  · simp [fnL]
  · unfold fnL
    rw [List.getElem?_append_right (by omega)]
    simp
theorem og_of {p : Pg} (h : resErr p = 0) : ∀ f, f ∈ mainF p :: p.fs → f.b.og := by
  have h1 := right_og (nar_of h).1
  intro f hf
  rcases List.mem_cons.1 hf with rfl | hf
  · exact h1.1
  · exact h1.2 f hf
theorem end_row {p : Pg} {W : World} {g o g2 o2 k : Nat} (he : resErr p = 0) (h1 : FcIn W.heap.size W (cFns p) g o) (h2 : SpsIn W.heap.size W (scopes p) g2 o2) (hk : k < (mainF p :: p.fs).length) :
    ∃ v x m L b q cv A1 A2 c1 c2, EndRow W g o g2 o2 k v x m L b q cv A1 A2 c1 c2 := by
  obtain ⟨f, hf⟩ : ∃ f, (mainF p :: p.fs)[k]? = some f := ⟨_, List.getElem?_eq_getElem hk⟩
  have hog := og_of he f (List.mem_of_getElem? hf)
  have e1 : (cFns p)[k]? = some (fcP p f) := by unfold cFns; rw [List.getElem?_map, hf]; rfl
  have e2 : (scopes p)[k]? = some (spFn (arF p.fs) f) := by unfold scopes; rw [List.getElem?_map, hf]; rfl
  obtain ⟨_, _, a2, a3, v4, a4, hv4⟩ := FcIn.at_ h1 e1
  obtain ⟨_, _, ⟨v5, a5, h5⟩, v6, a6, h6⟩ := SpsIn.at_ h2 e2
  obtain ⟨A5, c5, rfl, _⟩ := h5
  obtain ⟨A6, c6, rfl, _⟩ := h6
  have hL : (fcP p f).L = fnL (spFn (arF p.fs) f) (plOf (scopes p)) f.b := rfl
  rw [hL] at hv4
  obtain ⟨A4, c4, rfl, b1, b2, b3⟩ := hv4
  rw [fnL_len] at a4 b1 b3
  obtain ⟨b, q, rfl, hb, hin⟩ := b3 (by omega)
  obtain ⟨x1, x2⟩ := fnL_end (spFn (arF p.fs) f) (plOf (scopes p)) f.b
  obtain ⟨y0, _, y2⟩ := InsIn.at_ hin x1
  obtain ⟨z0, _, _⟩ := InsIn.at_ hin x2
  refine ⟨_, _, _, _, b, q, c4, A5, A6, c5, c6, ⟨a2, a3, a4, a5, a6⟩, ⟨rfl, b1, b2⟩, hb, ⟨y0, y2, z0⟩, fun i hi => ?_⟩
  obtain ⟨⟨op, a, n⟩, hx⟩ : ∃ x, (fnL (spFn (arF p.fs) f) (plOf (scopes p)) f.b)[i]? = some x := ⟨_, List.getElem?_eq_getElem (by rw [fnL_len]; exact hi)⟩
  obtain ⟨w0, w1, w2⟩ := InsIn.at_ hin hx
  obtain ⟨j1, j2⟩ := fnL_j _ _ _ hog _ (List.mem_of_getElem? hx)
  exact ⟨op, a, n, w0, w1, w2, j1, j2⟩
theorem known_in {op : Int} (h : 1 ≤ op ∧ op ≤ 25) : knownB op = true := by
  unfold knownB
  rw [decide_eq_true h.1, decide_eq_true h.2]
  rfl
theorem drewN_b (w : World) (n : Nat) : Below w.heap.size w (w.drewN n) := ⟨rfl, rfl, rfl, Nat.le_refl _, fun _ _ => rfl⟩
abbrev inO (op a n : Int) : Obj := .cells #[.int .i64 op, .int .i64 a, .int .i64 n] 45

theorem inO_box (w : World) (op a n : Int) : ((w.alloc (inO op a n)).cell? ⟨w.heap.size, 0, none⟩ = some (.int .i64 op) ∧ (w.alloc (inO op a n)).cell? ⟨w.heap.size, 1, none⟩ = some (.int .i64 a)) ∧ Below w.heap.size w (w.alloc (inO op a n)) ∧ w.heap.size < (w.alloc (inO op a n)).heap.size := by
  have h := heap_alloc_new w (inO op a n)
  exact ⟨⟨(blk_cell h 0).trans rfl, (blk_cell h 1).trans rfl⟩, (Below.refl _ _).alloc (Nat.le_refl _) _, blk_lt h⟩

set_option maxRecDepth 100000 in
set_option maxHeartbeats 8000000 in
theorem ends_walk (v : Value) (p : Pg) (w : World) (hv : PgV w.heap.size w v p) (ht : TB w) (hc : cntL p.pts ≤ 10000000) :
    Calls Tryd.prog 4 #[v] w fun e w' => e = .returned (.bool true) ∧ Below w.heap.size w w' := by
  obtain ⟨A, cap, A', cap', rfl, h0, h1⟩ := id hv
  obtain ⟨n, hn⟩ : ∃ n, w.heap.size = n := ⟨_, rfl⟩
  obtain ⟨W1, hW1⟩ : ∃ W1, w.alloc (pgO A p.fs.length cap A' p.m.len cap') = W1 := ⟨_, rfl⟩
  have hbx1 : W1.heap[n]? = some (pgO A p.fs.length cap A' p.m.len cap') := by rw [← hW1]; exact blk_new hn
  have hb1 : Below w.heap.size w W1 := by rw [← hW1]; exact (Below.refl _ _).alloc (Nat.le_refl _) _
  have hs1 : W1.heap.size = n + 1 := by rw [← hW1, World.size_alloc, hn]
  have HS := Lib.hid (shown_any W1 (ht.step hb1))
  have HT1 := Lib.hid (ht.step hb1)
  have HV1 := Lib.hid (show PgV W1.heap.size W1 _ p from hv.below hb1 hb1.size)
  have HB1 := Lib.hid hb1
  have HC := Lib.hid hc
  have x0 : W1.cell? ⟨n, 0, none⟩ = some (.slice A p.fs.length cap) := (blk_cell hbx1 0).trans rfl
  have x1 : W1.cell? ⟨n, 1, none⟩ = some (.slice A' p.m.len cap') := (blk_cell hbx1 1).trans rfl
  obtain ⟨E, hE⟩ : ∃ E, resErr p = E := ⟨_, rfl⟩
  obtain ⟨nf, hnf⟩ : ∃ nf, p.fs.length = nf := ⟨_, rfl⟩
  obtain ⟨nm, hnm⟩ : ∃ nm, p.m.len = nm := ⟨_, rfl⟩
  obtain ⟨N, hN⟩ : ∃ N, p.fs.length + 1 = N := ⟨_, rfl⟩
  have HN := Lib.hid hN
  rw [hnf] at x0 hW1 HV1
  rw [hnm] at x1 hW1 HV1
  rw [hnf, hnm]
  have HE := Lib.hid hE
  clear hv ht hc h0 h1 hb1 hbx1 hE hnf hnm hN
  by_cases hE0 : E = 0
  · subst hE0
    have HCM : Hid (∀ w2, Below W1.heap.size W1 w2 → Calls Tryd.prog 8 #[.agg #[.slice A nf cap, .slice A' nm cap']] w2 fun e w' => ∃ g o c, e = .returned (.tuple #[.agg #[.slice (some ⟨g, o, none⟩) N c], .int .i64 0]) ∧ N ≤ c ∧ c ≤ 9223372036854775807 ∧ g < w'.heap.size ∧ FcIn w'.heap.size w' (cFns p) g o ∧ Below w2.heap.size w2 w') := hid fun w2 h2 => by
      refine (compile_any _ p w2 (HV1.out.below h2 h2.size) (HT1.out.step h2) HC.out).mono ?_
      rintro e w' ⟨vf, rfl, hf, hb⟩
      unfold cmpP at hf
      rw [if_pos HE.out] at hf
      obtain ⟨A3, c, rfl, k1, k2, k3⟩ := hf
      have hlen : (cFns p).length = N := by unfold cFns; rw [List.length_map, List.length_cons, HN.out]
      have h0N : 0 < N := by have := HN.out; omega
      rw [hlen] at k1 k3 ⊢
      obtain ⟨g, o, rfl, hg, hin⟩ := k3 h0N
      exact ⟨g, o, c, by rw [HE.out], k1, k2, hg, hin, hb⟩
    have HRS : Hid (∀ w2, Below W1.heap.size W1 w2 → Calls Tryd.prog 10 #[.agg #[.slice A nf cap, .slice A' nm cap']] w2 fun e w' => ∃ g o c, e = .returned (.tuple #[.slice (some ⟨g, o, none⟩) N c, .int .i64 0]) ∧ N ≤ c ∧ c ≤ 9223372036854775807 ∧ g < w'.heap.size ∧ SpsIn w'.heap.size w' (scopes p) g o ∧ Below w2.heap.size w2 w') := hid fun w2 h2 => by
      refine (resolve_p _ p w2 (HV1.out.below h2 h2.size) (HT1.out.step h2).tab HC.out).mono ?_
      rintro e w' ⟨vf, rfl, hf, hb⟩
      unfold resP at hf
      rw [if_pos HE.out] at hf
      obtain ⟨A3, c, rfl, k1, k2, k3⟩ := hf
      have hlen : (scopes p).length = N := by unfold scopes; rw [List.length_map, List.length_cons, HN.out]
      have h0N : 0 < N := by have := HN.out; omega
      rw [hlen] at k1 k3 ⊢
      obtain ⟨g, o, rfl, hg, hin⟩ := k3 h0N
      exact ⟨g, o, c, by rw [HE.out], k1, k2, hg, hin, hb⟩
    go_enter Tryd.func4, Tryd.ntmps4
    go_upto_region 6 with (first
      | (go_at_call 7; ((with_reducible refine HS.out.mono ?_); rintro e w2 ⟨rfl, h2⟩; have y0 := (h2.cell (p := ⟨n, 0, none⟩) (by simp only; omega)).trans x0; have y1 := (h2.cell (p := ⟨n, 1, none⟩) (by simp only; omega)).trans x1; have hs2 := h2.size; have HCC := Lib.hid (HCM.out w2 h2); have H2 := Lib.hid h2; clear h2))
      | (go_at_call 8; ((with_reducible refine HCC.out.mono ?_); rintro e w3 ⟨g, o, c, rfl, q1, q2, q3, q4, q5⟩; have HQ4 := Lib.hid q4; have H3 := Lib.hid (H2.out.trans (q5.mono H2.out.size)); have z0 := (q5.cell (p := ⟨n, 0, none⟩) (by simp only; omega)).trans y0; have z1 := (q5.cell (p := ⟨n, 1, none⟩) (by simp only; omega)).trans y1; have hs3 := q5.size; clear q4 q5; obtain ⟨w4, hw4⟩ : ∃ w4, w3.alloc (cdO (.slice (some ⟨g, o, none⟩) N c)) = w4 := ⟨_, rfl⟩; have hb4 : Below w3.heap.size w3 w4 := (by rw [← hw4]; exact (Below.refl _ _).alloc (Nat.le_refl _) _); have hbx4 : w4.heap[w3.heap.size]? = some (cdO (.slice (some ⟨g, o, none⟩) N c)) := (by rw [← hw4]; exact heap_alloc_new _ _); have u0 := (hb4.cell (p := ⟨n, 0, none⟩) (by simp only; omega)).trans z0; have u1 := (hb4.cell (p := ⟨n, 1, none⟩) (by simp only; omega)).trans z1; have e4 : w4.cell? ⟨w3.heap.size, 0, none⟩ = some (.slice (some ⟨g, o, none⟩) N c) := (blk_cell hbx4 0).trans rfl; have lc4 := blk_lt hbx4; have HB4 := Lib.hid hb4; have HRR := Lib.hid (HRS.out w4 (H3.out.trans (hb4.mono H3.out.size))); clear hb4 hbx4))
      | (go_at_call 10; ((with_reducible refine HRR.out.mono ?_); rintro e w5 ⟨g2, o2, c2, rfl, r1, r2, r3, r4, r5⟩)))
    have v0 := (r5.cell (p := ⟨w3.heap.size, 0, none⟩) lc4).trans e4
    have lg5 : g < w5.heap.size := Nat.lt_of_lt_of_le (Nat.lt_of_lt_of_le q3 HB4.out.size) r5.size
    have lc5 : w3.heap.size < w5.heap.size := Nat.lt_of_lt_of_le lc4 r5.size
    have HRW : Hid (∀ k, k < N → ∃ v x m L b q cv A1 A2 c1 c2, EndRow w5 g o g2 o2 k v x m L b q cv A1 A2 c1 c2) := hid fun k hk => end_row HE.out ((HQ4.out.below HB4.out HB4.out.size (by omega)).below r5 r5.size (by have := HB4.out.size; omega)) r4 (by rw [List.length_cons, HN.out]; exact hk)
    have H5 := Lib.hid (HB1.out.trans (((H3.out.trans (HB4.out.mono H3.out.size)).trans (r5.mono (Nat.le_trans H3.out.size HB4.out.size))).mono HB1.out.size))
    obtain ⟨nc, hnc⟩ : ∃ nc, w3.heap.size = nc := ⟨_, rfl⟩
    rw [hnc] at v0 lc5 ⊢
    clear hnc e4 lc4 r4 r5 q3 u0 u1 z0 z1 y0 y1
    go_wp2
    go_loopw [8] (fun i wr => ∃ k : Nat, i = .int .i64 k ∧ k ≤ N ∧ Below w5.heap.size w5 wr) (fun i _ => N - (RowKit.intOf i).toNat)
    case atStart => exact ⟨0, rfl, Nat.zero_le _, Below.refl _ _⟩
    case round =>
      obtain ⟨k, rfl, hk, hbel⟩ := hrel
      obtain ⟨wo, rfl⟩ : ∃ wo : World, wo = wr := ⟨_, rfl⟩
      have a0 := (hbel.cell (p := ⟨nc, 0, none⟩) lc5).trans v0
      have hsz := hbel.size
      by_cases hkn : k < N
      · have hlt : decide ((k : Int) < (N : Int)) = true := by simp; omega
        obtain ⟨v, x, m, L, b, q, cv, A1, A2, c1, c2', hrow⟩ := HRW.out k hkn
        obtain ⟨⟨b0, b1, b2, b3, b4⟩, ⟨hL, hL1, hL2⟩, hb, ⟨b5, b6, b7⟩, hins⟩ := hrow.step hbel lg5 r3
        have HI := Lib.hid hins
        have HBL := Lib.hid hbel
        have HLL := Lib.hid hL
        have lg : g < wo.heap.size := by omega
        have lg2 : g2 < wo.heap.size := by omega
        have hl2 : decide ((L : Int) < 2) = false := by simp; omega
        have hwa : IntKind.i64.wrap ((L : Int) - 2) = (m : Int) := by rw [IntWalk.i64_in _ (by omega)]; omega
        have hwb : IntKind.i64.wrap ((L : Int) - 1) = ((m + 1 : Nat) : Int) := by rw [IntWalk.i64_in _ (by omega)]; omega
        have hm1 : m < L := by omega
        have hm2 : m + 1 < L := by omega
        have hLm : L ≤ m + 2 := by omega
        clear hins hbel hrow hL
        have ne0 : ((1 : Int) != 1) = false := rfl
        have ne1 : ((0 : Int) != 0) = false := rfl
        have ne2 : ((18 : Int) != 18) = false := rfl
        have ne3 : ((v : Int) != (v : Int)) = false := by simp
        have ne4 : ((x : Int) != (x : Int)) = false := by simp
        go_wp2
        go_quiet (fail)
        go_wp2
        clear b0 b1 b2 b3 b4 b5 b6 b7
        go_loopw [11] (fun i wr => ∃ j : Nat, i = .int .i64 j ∧ j ≤ L ∧ Below wo.heap.size wo wr) (fun i _ => L - (RowKit.intOf i).toNat)
        case atStart => exact ⟨0, rfl, Nat.zero_le _, drewN_b _ _⟩
        case round =>
          obtain ⟨j, rfl, hj, hbel⟩ := hrel
          have hsj := hbel.size
          by_cases hjl : j < L
          · have hlj : decide ((j : Int) < (L : Int)) = true := by simp; omega
            obtain ⟨op, a, nn, i0, i1, i2, hop, hja⟩ := (HI.out j hjl).below hbel hb
            have lbr : b < wr.heap.size := by omega
            obtain ⟨⟨y0, y1⟩, hbI, hlI⟩ := inO_box wr op a nn
            obtain ⟨wi, hwi⟩ : ∃ wi, wr.alloc (inO op a nn) = wi := ⟨_, rfl⟩
            rw [hwi] at y0 y1 hbI hlI
            have HBI := Lib.hid (hbel.trans (hbI.mono hbel.size))
            have hkw := known_any op wi
            rw [known_in hop] at hkw
            have HKW := Lib.hid hkw
            clear hbel hbI hkw
            by_cases h15 : op = 15
            · have e15 : (op == 15) = true := by simp [h15]
              obtain ⟨ha1, ha2⟩ := hja (.inl h15)
              have f1 : decide (a < 0) = false := by simp; omega
              have f2 : decide ((m : Int) < a) = false := by simp; omega
              clear h15 hja
              go_wp2_with (go_at_call 11; (with_reducible refine HKW.out.mono ?_); rintro e w6 ⟨rfl, rfl⟩)
              go_roundw
              case rel => exact ⟨j + 1, by go_num, by omega, HBI.out⟩
              case measure => simp [RowKit.intOf]; omega
            · have e15 : (op == 15) = false := by simp [h15]
              by_cases h16 : op = 16
              · have e16 : (op == 16) = true := by simp [h16]
                obtain ⟨ha1, ha2⟩ := hja (.inr h16)
                have f1 : decide (a < 0) = false := by simp; omega
                have f2 : decide ((m : Int) < a) = false := by simp; omega
                clear h15 h16 hja
                go_wp2_with (go_at_call 11; (with_reducible refine HKW.out.mono ?_); rintro e w6 ⟨rfl, rfl⟩)
                go_roundw
                case rel => exact ⟨j + 1, by go_num, by omega, HBI.out⟩
                case measure => simp [RowKit.intOf]; omega
              · have e16 : (op == 16) = false := by simp [h16]
                clear h15 h16 hja
                go_wp2_with (go_at_call 11; (with_reducible refine HKW.out.mono ?_); rintro e w6 ⟨rfl, rfl⟩)
                go_roundw
                case rel => exact ⟨j + 1, by go_num, by omega, HBI.out⟩
                case measure => simp [RowKit.intOf]; omega
          · have hlj : decide ((j : Int) < (L : Int)) = false := by simp; omega
            have HBE := Lib.hid (HBL.out.trans (hbel.mono hsz))
            clear hbel
            go_wp2
            go_roundw
            case rel => exact ⟨k + 1, by go_num, by omega, HBE.out⟩
            case measure => simp [RowKit.intOf]; omega
      · have hlt : decide ((k : Int) < (N : Int)) = false := by simp; omega
        have HBE := Lib.hid (H5.out.trans (hbel.mono H5.out.size))
        clear hbel
        go_wp2
        go_ret
        exact ⟨rfl, HBE.out⟩
  · have hne : (E != 0) = true := by simp [hE0]
    have HCM : Hid (∀ w2, Below W1.heap.size W1 w2 → Calls Tryd.prog 8 #[.agg #[.slice A nf cap, .slice A' nm cap']] w2 fun e w' => ∃ A3 l c, e = .returned (.tuple #[.agg #[.slice A3 l c], .int .i64 E]) ∧ Below w2.heap.size w2 w') := hid fun w2 h2 => by
      refine (compile_any _ p w2 (HV1.out.below h2 h2.size) (HT1.out.step h2) HC.out).mono ?_
      rintro e w' ⟨vf, rfl, hf, hb⟩
      obtain ⟨A3, c, rfl, _⟩ := hf
      exact ⟨_, _, _, by rw [HE.out], hb⟩
    clear hE0
    go_enter Tryd.func4, Tryd.ntmps4
    go_wp2_with (first
      | (go_at_call 7; ((with_reducible refine HS.out.mono ?_); rintro e w2 ⟨rfl, h2⟩; have y0 := (h2.cell (p := ⟨n, 0, none⟩) (by simp only; omega)).trans x0; have y1 := (h2.cell (p := ⟨n, 1, none⟩) (by simp only; omega)).trans x1; have HCC := Lib.hid (HCM.out w2 h2); have H2 := Lib.hid h2; clear h2))
      | (go_at_call 8; ((with_reducible refine HCC.out.mono ?_); rintro e w3 ⟨A3, l, c, rfl, q5⟩; have H3 := Lib.hid (HB1.out.trans ((H2.out.trans (q5.mono H2.out.size)).mono HB1.out.size)); clear q5)))
    go_ret
    exact ⟨rfl, H3.out.alloc H3.out.size _⟩
end Go.Proofs.YtkmaegmmgibjmaaDoor
