/-
  CompileApart's walk.
-/
import Derived.Test.YtkmaegmmgibjmaaDoorCfP
import Derived.Deep.RegionHeld3
import Derived.Test.YtkmaegmmgibjmaaDoorCeA
import Derived.Deep.QuietTactic
import Derived.BigQuiet
namespace Go.Proofs.YtkmaegmmgibjmaaDoor
open Go Go.RowKit Go.Lib

theorem FsIn.at_ {B : Nat} {W : World} : ∀ {l : List Fn} {b o k : Nat} {f : Fn}, FsIn B W l b o → l[k]? = some f → W.cell? ⟨b, o + k * 3, none⟩ = some (.string f.s) ∧ ∃ v, W.cell? ⟨b, o + k * 3 + 1, none⟩ = some v ∧ RowV (PsIn W f.ps) B f.ps.length v ∧ f.s.size ≤ 9223372036854775807
  | x :: r, b, o, 0, s, h, e => by
    simp at e
    subst e
    obtain ⟨h0, ⟨v, h1, h2⟩, _, h4, _⟩ := h
    simp only [Nat.zero_mul, Nat.add_zero]
    exact ⟨h0, v, h1, h2, h4⟩
  | x :: r, b, o, k + 1, s, h, e => by
    obtain ⟨_, _, _, _, hr⟩ := h
    have := FsIn.at_ hr (k := k) (by simpa using e)
    rw [show o + (k + 1) * 3 = o + 3 + k * 3 by omega]
    exact this
theorem bs_ne (T : ByteArray) : (T != T) = false := by unfold bne; rw [show (T == T) = true from beq_self_eq_true T.data]; rfl
abbrev lB : List In3 := [(1, 0, 0), (18, 0, 0)]
abbrev bT : ByteArray := ⟨#[48, 32, 112, 117, 115, 104, 32, 48, 10, 49, 32, 114, 101, 116, 117, 114, 110, 10]⟩
theorem text_at {w W : World} {L : List In3} {A : Option Addr} {cap : Nat} {T : ByteArray} (ht : TB w) (hb : Below w.heap.size w W) (hv : InV w.heap.size w (.slice A L.length cap) L) (h0 : 0 < L.length) (hl : L.length ≤ 10000000) (hT : (⟨(textT 0 L).toArray⟩ : ByteArray) = T) :
    Calls Tryd.prog 9 #[.slice A L.length cap] W fun e w' => e = .returned (.string T) ∧ Below w.heap.size w w' := by
  obtain ⟨A1, c1, e1, h1, h2, h3⟩ := id hv
  obtain ⟨b, q, _, _, hin⟩ := h3 h0
  have ht' := ht.step hb
  obtain ⟨lo, hct⟩ := ht'.ct
  refine (text_long L lo W A cap hct (hv.below hb hb.size) hin.ok hl).mono ?_
  rintro e w' ⟨rfl, h⟩
  exact ⟨by rw [hT], hb.trans (h.mono hb.size)⟩
/-- The rows of both codes at one function. -/
def ApRow (W : World) (g o g2 o2 i : Nat) (s : ByteArray) (np b q cv : Nat) : Prop :=
  W.cell? ⟨g, o + i * 5, none⟩ = some (.string s) ∧ W.cell? ⟨g, o + i * 5 + 1, none⟩ = some (.int .i64 np) ∧ W.cell? ⟨g2, o2 + i * 5, none⟩ = some (.string s) ∧ W.cell? ⟨g2, o2 + i * 5 + 1, none⟩ = some (.int .i64 np) ∧ W.cell? ⟨g2, o2 + i * 5 + 2, none⟩ = some (.int .i64 np) ∧
  W.cell? ⟨g2, o2 + i * 5 + 4, none⟩ = some (.slice (some ⟨b, q, none⟩) 2 cv)
theorem ApRow.step {W W' : World} {g o g2 o2 i : Nat} {s : ByteArray} {np b q cv : Nat} (h : ApRow W g o g2 o2 i s np b q cv) (hb : Below W.heap.size W W') (hg : g < W.heap.size) (hg2 : g2 < W.heap.size) : ApRow W' g o g2 o2 i s np b q cv := by
  obtain ⟨h0, h1, h2, h3, h4, h5⟩ := h
  exact ⟨(hb.cell (p := ⟨g, o + i * 5, none⟩) hg).trans h0, (hb.cell (p := ⟨g, o + i * 5 + 1, none⟩) hg).trans h1, (hb.cell (p := ⟨g2, o2 + i * 5, none⟩) hg2).trans h2, (hb.cell (p := ⟨g2, o2 + i * 5 + 1, none⟩) hg2).trans h3, (hb.cell (p := ⟨g2, o2 + i * 5 + 2, none⟩) hg2).trans h4, (hb.cell (p := ⟨g2, o2 + i * 5 + 4, none⟩) hg2).trans h5⟩
theorem ap_row {p : Pg} {W : World} {g o g2 o2 k : Nat} (he : resErr p = 0) (h1 : FcIn W.heap.size W (cFns p) g o) (h2 : FcIn W.heap.size W (cFns (barePg p)) g2 o2) (hk : k < p.fs.length) :
    ∃ s np b q cv, ApRow W g o g2 o2 (k + 1) s np b q cv ∧ InV W.heap.size W (.slice (some ⟨b, q, none⟩) 2 cv) lB := by
  obtain ⟨f, hf⟩ : ∃ f, p.fs[k]? = some f := ⟨_, List.getElem?_eq_getElem hk⟩
  have e1 : (cFns p)[k + 1]? = some (fcP p f) := by unfold cFns; rw [List.map_cons, List.getElem?_cons_succ, List.getElem?_map, hf]; rfl
  have e2 : (cFns (barePg p))[k + 1]? = some ⟨f.s, f.ps.length, f.ps.length, 0, lB⟩ := by rw [bare_cmp he, List.getElem?_cons_succ, List.getElem?_map, hf]; rfl
  obtain ⟨a0, a1, _⟩ := FcIn.at_ h1 e1
  obtain ⟨b0, b1, b2, _, v4, b4, hv4⟩ := FcIn.at_ h2 e2
  obtain ⟨A4, c4, rfl, k1, k2, k3⟩ := id hv4
  obtain ⟨b, q, rfl, hb, hin⟩ := k3 (by show (0 : Nat) < 2; decide)
  exact ⟨f.s, f.ps.length, b, q, c4, ⟨a0, a1, b0, b1, b2, b4⟩, hv4⟩
/-- What lies in q's box, and in its row, behind k rounds. -/
def ApRel (p : Pg) (w4 : World) (B nf nm cap' : Nat) (A' : Option Addr) (i : Value) (wr : World) : Prop :=
  ∃ (k : Nat) (X : Option Addr) (cX : Nat) (cs : List Value), i = .int .i64 k ∧ k ≤ nf ∧ wr.heap[B]? = some (pgO X k cX A' nm cap') ∧ wr.ownsRow (B + 1) 35 3 (.slice X k cX) k cs ∧ fsCells w4.heap.size w4 ((p.fs.take k).map bare) cs ∧ Below w4.heap.size w4 wr

set_option maxRecDepth 100000 in
set_option maxHeartbeats 8000000 in
theorem apart_walk (v : Value) (p : Pg) (w : World) (hv : PgV w.heap.size w v p) (ht : TB w) (hc : cntL p.pts ≤ 2000000) :
    Calls Tryd.prog 3 #[v] w fun e w' => e = .returned (.bool true) ∧ Below w.heap.size w w' := by
  obtain ⟨A, cap, A', cap', rfl, h0, h1⟩ := id hv
  obtain ⟨n, hn⟩ : ∃ n, w.heap.size = n := ⟨_, rfl⟩
  obtain ⟨W1, hW1⟩ : ∃ W1, w.alloc (pgO A p.fs.length cap A' p.m.len cap') = W1 := ⟨_, rfl⟩
  have hbx1 : W1.heap[n]? = some (pgO A p.fs.length cap A' p.m.len cap') := by rw [← hW1]; exact blk_new hn
  have hb1 : Below w.heap.size w W1 := by rw [← hW1]; exact (Below.refl _ _).alloc (Nat.le_refl _) _
  have hs1 : W1.heap.size = n + 1 := by rw [← hW1, World.size_alloc, hn]
  have HS := Lib.hid (shown_any W1 (ht.step hb1))
  have HT1 := Lib.hid (ht.step hb1)
  have HV1 := Lib.hid (show PgV W1.heap.size W1 _ p from hv.below hb1 hb1.size)
  have HF1 := Lib.hid (show FV W1.heap.size W1 _ p.fs from h0.below hb1 hb1.size)
  have HM1 := Lib.hid (show SV W1.heap.size W1 _ p.m from h1.below hb1 hb1.size)
  have HB1 := Lib.hid hb1
  have HC := Lib.hid (show cntL p.pts ≤ 10000000 by omega)
  have HC2 := Lib.hid hc
  have x0 : W1.cell? ⟨n, 0, none⟩ = some (.slice A p.fs.length cap) := (blk_cell hbx1 0).trans rfl
  have x1 : W1.cell? ⟨n, 1, none⟩ = some (.slice A' p.m.len cap') := (blk_cell hbx1 1).trans rfl
  obtain ⟨E, hE⟩ : ∃ E, resErr p = E := ⟨_, rfl⟩
  obtain ⟨nf, hnf⟩ : ∃ nf, p.fs.length = nf := ⟨_, rfl⟩
  obtain ⟨nm, hnm⟩ : ∃ nm, p.m.len = nm := ⟨_, rfl⟩
  obtain ⟨N, hN⟩ : ∃ N, p.fs.length + 1 = N := ⟨_, rfl⟩
  have HN := Lib.hid hN
  have HNF := Lib.hid hnf
  have HNM := Lib.hid hnm
  rw [hnf] at x0 hW1 HV1 HF1 hN
  rw [hnm] at x1 hW1 HV1 HM1
  rw [hnf, hnm]
  have HE := Lib.hid hE
  have HNN := Lib.hid hN
  clear hv ht hc h0 h1 hb1 hbx1 hE hnf hnm hN
  by_cases hE0 : E = 0
  · subst hE0
    have hnf32 : nf ≤ 32 := by have := (right_lims (nar_of HE.out).1).1; rw [HNF.out] at this; exact this
    have HCM : Hid (∀ w2, Below W1.heap.size W1 w2 → Calls Tryd.prog 8 #[.agg #[.slice A nf cap, .slice A' nm cap']] w2 fun e w' => ∃ g o c, e = .returned (.tuple #[.agg #[.slice (some ⟨g, o, none⟩) N c], .int .i64 0]) ∧ N ≤ c ∧ c ≤ 9223372036854775807 ∧ g < w'.heap.size ∧ FcIn w'.heap.size w' (cFns p) g o ∧ Below w2.heap.size w2 w') := hid fun w2 h2 => by
      refine (compile_any _ p w2 (HV1.out.below h2 h2.size) (HT1.out.step h2) HC.out).mono ?_
      rintro e w' ⟨vf, rfl, hf, hb⟩
      unfold cmpP at hf
      rw [if_pos HE.out] at hf
      obtain ⟨A3, c, rfl, k1, k2, k3⟩ := hf
      have hlen : (cFns p).length = N := by unfold cFns; rw [List.length_map, List.length_cons, HN.out]
      have h0N : 0 < N := by have := HN.out; omega
      rw [hlen] at k1 k3 ⊢
      obtain ⟨g, o, rfl, hg, hin⟩ := k3 h0N
      exact ⟨g, o, c, by rw [HE.out], k1, k2, hg, hin, hb⟩
    go_enter Tryd.func3, Tryd.ntmps3
    go_upto_region 6 with (first
      | (go_at_call 7; ((with_reducible refine HS.out.mono ?_); rintro e w2 ⟨rfl, h2⟩; have y0 := (h2.cell (p := ⟨n, 0, none⟩) (by simp only; omega)).trans x0; have y1 := (h2.cell (p := ⟨n, 1, none⟩) (by simp only; omega)).trans x1; have hs2 := h2.size; have HCC := Lib.hid (HCM.out w2 h2); have H2 := Lib.hid h2; clear h2))
      | (go_at_call 8; ((with_reducible refine HCC.out.mono ?_); rintro e w3 ⟨g, o, c, rfl, q1, q2, q3, q4, q5⟩; have HQ4 := Lib.hid q4; have H3 := Lib.hid (H2.out.trans (q5.mono H2.out.size)); have z0 := (q5.cell (p := ⟨n, 0, none⟩) (by simp only; omega)).trans y0; have z1 := (q5.cell (p := ⟨n, 1, none⟩) (by simp only; omega)).trans y1; have hs3 := q5.size; clear q4 q5; obtain ⟨w4, hw4⟩ : ∃ w4, w3.alloc (cdO (.slice (some ⟨g, o, none⟩) N c)) = w4 := ⟨_, rfl⟩; have hb4 : Below w3.heap.size w3 w4 := (by rw [← hw4]; exact (Below.refl _ _).alloc (Nat.le_refl _) _); have hbx4 : w4.heap[w3.heap.size]? = some (cdO (.slice (some ⟨g, o, none⟩) N c)) := (by rw [← hw4]; exact heap_alloc_new _ _); have u0 := (hb4.cell (p := ⟨n, 0, none⟩) (by simp only; omega)).trans z0; have u1 := (hb4.cell (p := ⟨n, 1, none⟩) (by simp only; omega)).trans z1; have e4 : w4.cell? ⟨w3.heap.size, 0, none⟩ = some (.slice (some ⟨g, o, none⟩) N c) := (blk_cell hbx4 0).trans rfl; have lc4 := blk_lt hbx4; have HB4 := Lib.hid hb4; obtain ⟨w5, hw5⟩ : ∃ w5, w4.alloc (pgO none 0 0 A' nm cap') = w5 := ⟨_, rfl⟩; clear hb4 hbx4)))
    obtain ⟨i0, hi, hz0, hz1, hz2⟩ := info_parts funcInfo
    have HI := Lib.hid hi
    have HZ0 := Lib.hid hz0
    obtain ⟨B, hB⟩ : ∃ B, w4.heap.size = B := ⟨_, rfl⟩
    have hbx5 : w5.heap[B]? = some (pgO none 0 0 A' nm cap') := by rw [← hw5]; exact blk_new hB
    have hb45 : Below w4.heap.size w4 w5 := by rw [← hw5]; exact (Below.refl _ _).alloc (Nat.le_refl _) _
    have hs5 : w5.heap.size = B + 1 := by rw [← hw5, World.size_alloc, hB]
    have hB4 := HB4.out.size
    have hnB : n < B := by omega
    have h34 := H3.out.trans (HB4.out.mono H3.out.size)
    have HF4 := Lib.hid (HF1.out.below h34 h34.size)
    have HM4 := Lib.hid (HM1.out.below h34 h34.size)
    have H4 := Lib.hid h34
    have HQ := Lib.hid (FcIn.below HB4.out HB4.out.size q3 HQ4.out)
    have q3' : g < B := by omega
    obtain ⟨nc, hnc⟩ : ∃ nc, w3.heap.size = nc := ⟨_, rfl⟩
    have lnc : nc < B := by omega
    have hmx : Tryd.prog.follows .mixedOrders = true := by kernel_rfl
    rw [hnc] at e4 ⊢
    rw [hB]
    have HBB := Lib.hid hB
    clear hw5 hw4 hB hnc h34 y0 y1 z0 z1 lc4 hi hz0 hs2 hs3 q3
    go_wp2
    go_loopw [7] (fun i wr => ApRel p w4 B nf nm cap' A' i wr) (fun i _ => nf - (RowKit.intOf i).toNat)
    case atStart => exact ⟨0, none, 0, [], rfl, Nat.zero_le _, hbx5, ⟨rfl, .inl ⟨rfl, rfl⟩⟩, rfl, hb45⟩
    case round =>
      obtain ⟨k, X, cX, cs, rfl, hk, hbx, hown, hcs, hbel⟩ := hrel
      have t0 := (hbel.cell (p := ⟨n, 0, none⟩) (by simp only; have := HBB.out; omega)).trans u0
      by_cases hkn : k < nf
      · have hlt : decide ((k : Int) < (nf : Int)) = true := by simp; omega
        obtain ⟨f, hf⟩ : ∃ f, p.fs[k]? = some f := ⟨_, List.getElem?_eq_getElem (by rw [HNF.out]; exact hkn)⟩
        obtain ⟨A3, c3, e3, k1, k2, k3⟩ := HF4.out
        injection e3 with e31 e32 e33
        subst e31 e33
        clear e32
        obtain ⟨fb, fo, rfl, hfb, hin⟩ := k3 (by rw [HNF.out]; omega)
        obtain ⟨a0, vp, a1, hvp, hsz⟩ := FsIn.at_ hin hf
        obtain ⟨Ap, cp, rfl, hp⟩ := id hvp
        have hfc : fsCells w4.heap.size w4 [bare f] [.string f.s, .slice Ap f.ps.length cp, .slice none 0 0] := ⟨_, _, _, rfl, hvp, sv_nil _ _, hsz, rfl⟩
        have HFC := Lib.hid hfc
        have HFK := Lib.hid hf
        have HCS := Lib.hid hcs
        have hfb' : fb < B := by have := HBB.out; omega
        have KC := Lib.hid (fun (W' : World) (hs : W'.heap[B]? = some (pgO X k cX A' nm cap') ∧ Below w4.heap.size w4 W') => (show W'.cell? ⟨B, 0, none⟩ = some (.slice X k cX) ∧ W'.cell? ⟨n, 0, none⟩ = some (.slice (some ⟨fb, fo, none⟩) nf cap) ∧ W'.cell? ⟨fb, fo + k * 3, none⟩ = some (.string f.s) ∧ W'.cell? ⟨fb, fo + k * 3 + 1, none⟩ = some (.slice Ap f.ps.length cp) from
          ⟨(blk_cell hs.1 0).trans rfl, (hs.2.cell (p := ⟨n, 0, none⟩) (by simp only; have := HBB.out; omega)).trans u0, (hs.2.cell (p := ⟨fb, fo + k * 3, none⟩) hfb).trans a0, (hs.2.cell (p := ⟨fb, fo + k * 3 + 1, none⟩) hfb).trans a1⟩))
        have hS0 : wr.drew.heap[B]? = some (pgO X k cX A' nm cap') ∧ Below w4.heap.size w4 wr.drew := ⟨hbx, belowD hbel⟩
        have HO0 : Hid (wr.drew.ownsRow (B + 1) 35 3 (.slice X k cX) k cs) := hid (own_drew hown)
        have hsB : B < wr.drew.heap.size := blk_lt hbx
        clear hin hf hcs hfc hvp hsz a0 a1 hbx hown hbel k3 hp hk
        go_upto_region 9 with fail
        clear t0
        refine wp_region_late (fun W' => W'.heap[B]? = some (pgO X k cX A' nm cap') ∧ Below w4.heap.size w4 W') 18 hmx ?_
        obtain ⟨W0, hW0⟩ : ∃ x, wr.drew = x := ⟨_, rfl⟩
        rw [hW0] at hS0 HO0 hsB ⊢
        clear hW0
        refine AnyL.take 0 (.pointer (some ⟨B, 0, none⟩)) rfl (by kernel_rfl) (by kernel_rfl) (by kernel_rfl) (by kernel_rfl) (fun _ _ _ h => h) (Or.inl ⟨by rfl, ?_⟩) (by assumption) ?_
        · intro W' hSw
          obtain ⟨l0, l1, l2, l3⟩ := KC.out W' hSw
          go_simp
        try simp only [Act.put, List.getElem_toArray, List.getElem_cons_zero, List.setIfInBounds_toArray, List.set_cons_zero, List.set_cons_succ]
        refine AnyL.take 1 (.slice X k cX) rfl (by kernel_rfl) (by kernel_rfl) (by kernel_rfl) (by kernel_rfl) (fun _ _ _ h => h) (Or.inl ⟨by rfl, ?_⟩) (by assumption) ?_
        · intro W' hSw
          obtain ⟨l0, l1, l2, l3⟩ := KC.out W' hSw
          go_simp
        try simp only [Act.put, List.getElem_toArray, List.getElem_cons_zero, List.getElem_cons_succ, List.setIfInBounds_toArray, List.set_cons_zero, List.set_cons_succ]
        refine AnyL.take 2 (.pointer (some ⟨n, 0, none⟩)) rfl (by kernel_rfl) (by kernel_rfl) (by kernel_rfl) (by kernel_rfl) (fun _ _ _ h => h) (Or.inl ⟨by rfl, ?_⟩) (by assumption) ?_
        · intro W' hSw
          obtain ⟨l0, l1, l2, l3⟩ := KC.out W' hSw
          go_simp
        try simp only [Act.put, List.getElem_toArray, List.getElem_cons_zero, List.getElem_cons_succ, List.setIfInBounds_toArray, List.set_cons_zero, List.set_cons_succ]
        refine AnyL.take 3 (.slice (some ⟨fb, fo, none⟩) nf cap) rfl (by kernel_rfl) (by kernel_rfl) (by kernel_rfl) (by kernel_rfl) (fun _ _ _ h => h) (Or.inl ⟨by rfl, ?_⟩) (by assumption) ?_
        · intro W' hSw
          obtain ⟨l0, l1, l2, l3⟩ := KC.out W' hSw
          go_simp
        try simp only [Act.put, List.getElem_toArray, List.getElem_cons_zero, List.getElem_cons_succ, List.setIfInBounds_toArray, List.set_cons_zero, List.set_cons_succ]
        refine AnyL.take 4 (.int .i64 k) rfl (by kernel_rfl) (by kernel_rfl) (by kernel_rfl) (by kernel_rfl) (fun _ _ _ h => h) (Or.inl ⟨by rfl, ?_⟩) (by assumption) ?_
        · intro W' hSw
          obtain ⟨l0, l1, l2, l3⟩ := KC.out W' hSw
          go_simp
        try simp only [Act.put, List.getElem_toArray, List.getElem_cons_zero, List.getElem_cons_succ, List.setIfInBounds_toArray, List.set_cons_zero, List.set_cons_succ]
        refine AnyL.take 5 (.pointer (some ⟨fb, fo + k * 3, none⟩)) rfl (by kernel_rfl) (by kernel_rfl) (by kernel_rfl) (by kernel_rfl) (fun _ _ _ h => h) (Or.inl ⟨by rfl, ?_⟩) (by assumption) ?_
        · intro W' hSw
          obtain ⟨l0, l1, l2, l3⟩ := KC.out W' hSw
          go_simp
        try simp only [Act.put, List.getElem_toArray, List.getElem_cons_zero, List.getElem_cons_succ, List.setIfInBounds_toArray, List.set_cons_zero, List.set_cons_succ]
        refine AnyL.take 6 (.pointer (some ⟨fb, fo + k * 3, none⟩)) rfl (by kernel_rfl) (by kernel_rfl) (by kernel_rfl) (by kernel_rfl) (fun _ _ _ h => h) (Or.inl ⟨by rfl, ?_⟩) (by assumption) ?_
        · intro W' hSw
          obtain ⟨l0, l1, l2, l3⟩ := KC.out W' hSw
          go_simp
        try simp only [Act.put, List.getElem_toArray, List.getElem_cons_zero, List.getElem_cons_succ, List.setIfInBounds_toArray, List.set_cons_zero, List.set_cons_succ]
        refine AnyL.take 7 (.string f.s) rfl (by kernel_rfl) (by kernel_rfl) (by kernel_rfl) (by kernel_rfl) (fun _ _ _ h => h) (Or.inl ⟨by rfl, ?_⟩) (by assumption) ?_
        · intro W' hSw
          obtain ⟨l0, l1, l2, l3⟩ := KC.out W' hSw
          go_simp
        try simp only [Act.put, List.getElem_toArray, List.getElem_cons_zero, List.getElem_cons_succ, List.setIfInBounds_toArray, List.set_cons_zero, List.set_cons_succ]
        refine AnyL.take 8 (.pointer (some ⟨n, 0, none⟩)) rfl (by kernel_rfl) (by kernel_rfl) (by kernel_rfl) (by kernel_rfl) (fun _ _ _ h => h) (Or.inl ⟨by rfl, ?_⟩) (by assumption) ?_
        · intro W' hSw
          obtain ⟨l0, l1, l2, l3⟩ := KC.out W' hSw
          go_simp
        try simp only [Act.put, List.getElem_toArray, List.getElem_cons_zero, List.getElem_cons_succ, List.setIfInBounds_toArray, List.set_cons_zero, List.set_cons_succ]
        refine AnyL.take 9 (.slice (some ⟨fb, fo, none⟩) nf cap) rfl (by kernel_rfl) (by kernel_rfl) (by kernel_rfl) (by kernel_rfl) (fun _ _ _ h => h) (Or.inl ⟨by rfl, ?_⟩) (by assumption) ?_
        · intro W' hSw
          obtain ⟨l0, l1, l2, l3⟩ := KC.out W' hSw
          go_simp
        try simp only [Act.put, List.getElem_toArray, List.getElem_cons_zero, List.getElem_cons_succ, List.setIfInBounds_toArray, List.set_cons_zero, List.set_cons_succ]
        refine AnyL.take 10 (.int .i64 k) rfl (by kernel_rfl) (by kernel_rfl) (by kernel_rfl) (by kernel_rfl) (fun _ _ _ h => h) (Or.inl ⟨by rfl, ?_⟩) (by assumption) ?_
        · intro W' hSw
          obtain ⟨l0, l1, l2, l3⟩ := KC.out W' hSw
          go_simp
        try simp only [Act.put, List.getElem_toArray, List.getElem_cons_zero, List.getElem_cons_succ, List.setIfInBounds_toArray, List.set_cons_zero, List.set_cons_succ]
        refine AnyL.take 11 (.pointer (some ⟨fb, fo + k * 3, none⟩)) rfl (by kernel_rfl) (by kernel_rfl) (by kernel_rfl) (by kernel_rfl) (fun _ _ _ h => h) (Or.inl ⟨by rfl, ?_⟩) (by assumption) ?_
        · intro W' hSw
          obtain ⟨l0, l1, l2, l3⟩ := KC.out W' hSw
          go_simp
        try simp only [Act.put, List.getElem_toArray, List.getElem_cons_zero, List.getElem_cons_succ, List.setIfInBounds_toArray, List.set_cons_zero, List.set_cons_succ]
        refine AnyL.take 12 (.pointer (some ⟨fb, fo + k * 3 + 1, none⟩)) rfl (by kernel_rfl) (by kernel_rfl) (by kernel_rfl) (by kernel_rfl) (fun _ _ _ h => h) (Or.inl ⟨by rfl, ?_⟩) (by assumption) ?_
        · intro W' hSw
          obtain ⟨l0, l1, l2, l3⟩ := KC.out W' hSw
          go_simp
        try simp only [Act.put, List.getElem_toArray, List.getElem_cons_zero, List.getElem_cons_succ, List.setIfInBounds_toArray, List.set_cons_zero, List.set_cons_succ]
        refine AnyL.take 13 (.slice Ap f.ps.length cp) rfl (by kernel_rfl) (by kernel_rfl) (by kernel_rfl) (by kernel_rfl) (fun _ _ _ h => h) (Or.inl ⟨by rfl, ?_⟩) (by assumption) ?_
        · intro W' hSw
          obtain ⟨l0, l1, l2, l3⟩ := KC.out W' hSw
          go_simp
        try simp only [Act.put, List.getElem_toArray, List.getElem_cons_zero, List.getElem_cons_succ, List.setIfInBounds_toArray, List.set_cons_zero, List.set_cons_succ]
        refine AnyL.take 14 (.agg #[.string f.s, .slice Ap f.ps.length cp, .slice none 0 0]) rfl (by kernel_rfl) (by kernel_rfl) (by kernel_rfl) (by kernel_rfl) (fun _ _ _ h => h) (Or.inl ⟨by rfl, ?_⟩) (by assumption) ?_
        · intro W' hSw
          obtain ⟨l0, l1, l2, l3⟩ := KC.out W' hSw
          go_simp
        try simp only [Act.put, List.getElem_toArray, List.getElem_cons_zero, List.getElem_cons_succ, List.setIfInBounds_toArray, List.set_cons_zero, List.set_cons_succ]
        refine AnyL.next 15 (by kernel_rfl) rfl (fun K hK => ?_)
        go_simp
        obtain ⟨W1', hw1'⟩ : ∃ x, W0.alloc (fnO f.s (.slice Ap f.ps.length cp) (.slice none 0 0)) = x := ⟨_, rfl⟩
        have n1 : W1'.heap[W0.heap.size]? = some (fnO f.s (.slice Ap f.ps.length cp) (.slice none 0 0)) := by rw [← hw1']; exact heap_alloc_new _ _
        have hS1 : W1'.heap[B]? = some (pgO X k cX A' nm cap') ∧ Below w4.heap.size w4 W1' := by rw [← hw1']; exact ⟨blk_alloc hS0.1 _, hS0.2.alloc hS0.2.size _⟩
        have HO1 : Hid (W1'.ownsRow (B + 1) 35 3 (.slice X k cX) k cs) := hid (by rw [← hw1']; exact HO0.out.kept (grown_none ((Below.refl _ _).alloc (Nat.le_refl _) _)) (Classical.em _))
        have s1 : W1'.heap.size = W0.heap.size + 1 := by rw [← hw1', World.size_alloc]
        rw [hw1']
        clear hw1'
        refine hK.out _ _ (fun _ => hS1) ?_
        clear hK K
        try simp only [Act.put, List.getElem_toArray, List.getElem_cons_zero, List.getElem_cons_succ, List.setIfInBounds_toArray, List.set_cons_zero, List.set_cons_succ]
        refine AnyL.next 16 (by kernel_rfl) rfl (fun K hK => ?_)
        refine step_append_own (E := _) rfl _ _ 22 rfl (B + 1) 35 i0 _ 3 64 Tryd.underlying22 HI.out HZ0.out hz1 hz2 rfl (by decide) (.slice X k cX) k cs rfl HO1.out (some ⟨W0.heap.size, 0, none⟩) 1 1 [.string f.s, .slice Ap f.ps.length cp, .slice none 0 0] rfl (fun h => by cases h) rfl (blk_news n1) HFC.out.one (by unfold maxLen; omega) (by omega) (by omega) ?_
        intro v2 w2' hown2 hg2
        have hS2 : w2'.heap[B]? = some (pgO X k cX A' nm cap') ∧ Below w4.heap.size w4 w2' := ⟨blk_grown_own HO1.out hg2 hS1.1 (by decide), grown_below hS1.2 HO1.out (by have := HBB.out; omega) hg2⟩
        obtain ⟨X2, c2, rfl⟩ := own_form hown2
        have HO2 := Lib.hid hown2
        clear hown2 hg2
        refine hK.out _ _ (fun _ => hS2) ?_
        clear hK K
        try simp only [Act.put, List.getElem_toArray, List.getElem_cons_zero, List.getElem_cons_succ, List.setIfInBounds_toArray, List.set_cons_zero, List.set_cons_succ]
        refine AnyL.next 17 (by kernel_rfl) rfl (fun K hK => ?_)
        go_simp
        refine hK.out _ _ (fun _ => hS2) ?_
        clear hK K
        try simp only [Act.put, List.getElem_toArray, List.getElem_cons_zero, List.getElem_cons_succ, List.setIfInBounds_toArray, List.set_cons_zero, List.set_cons_succ]
        refine AnyL.next 18 (by kernel_rfl) rfl (fun K hK => ?_)
        have y5 : w2'.cell? ⟨B, 0, none⟩ = some (.slice X k cX) := (blk_cell hS2.1 0).trans rfl
        have f5 := blk_frozen hS2.1 0
        have lt5 := blk_lt hS2.1
        go_simp
        refine hK.out _ _ (fun h => absurd rfl h) ?_
        clear hK K
        try simp only [Act.put, List.getElem_toArray, List.getElem_cons_zero, List.getElem_cons_succ, List.setIfInBounds_toArray, List.set_cons_zero, List.set_cons_succ]
        refine AnyL.done (by kernel_rfl) ?_
        obtain ⟨W3, hW3⟩ : ∃ x, w2'.setCell ⟨B, 0, none⟩ (.slice X2 (k + 1) c2) = x := ⟨_, rfl⟩
        have hb3 : W3.heap[B]? = some (pgO X2 (k + 1) c2 A' nm cap') := by rw [← hW3]; exact (blk_set hS2.1 0 _).trans rfl
        have hbel3 : Below w4.heap.size w4 W3 := by rw [← hW3]; exact hS2.2.setCell (p := ⟨B, 0, none⟩) (by simp only; have := HBB.out; omega) _
        have HO3 : Hid (W3.ownsRow (B + 1) 35 3 (.slice X2 (k + 1) c2) (k + 1) (cs ++ [.string f.s, .slice Ap f.ps.length cp, .slice none 0 0])) := hid (by rw [← hW3]; exact own_set (a := ⟨B, 0, none⟩) HO2.out (own_ne HO2.out hS2.1 (by decide)) _)
        have HC3 : Hid (fsCells w4.heap.size w4 ((p.fs.take (k + 1)).map bare) (cs ++ [.string f.s, .slice Ap f.ps.length cp, .slice none 0 0])) := hid (by
          rw [List.take_add_one, HFK.out, List.map_append]
          exact fsCells.app HFC.out HCS.out)
        rw [hW3]
        clear hW3 y5 f5 lt5 hS2
        go_wp2
        go_roundw
        case rel => exact ⟨k + 1, X2, c2, _, by go_num, by omega, hb3, HO3.out, HC3.out, hbel3⟩
        case measure => simp [RowKit.intOf]; omega
      · have hlt : decide ((k : Int) < (nf : Int)) = false := by simp; omega
        obtain rfl : k = nf := by omega
        have hft : (p.fs.take k).map bare = (barePg p).fs := by rw [List.take_of_length_le (by rw [HNF.out]; exact Nat.le_refl _)]; rfl
        have hbl : (barePg p).fs.length = k := by show (p.fs.map bare).length = k; rw [List.length_map, HNF.out]
        rw [hft] at hcs
        have hB0 := HBB.out
        have hszr := hbel.size
        have hFV := own_fv hown (hcs.below hbel hszr) hbl.symm
        have hq : PgV wr.heap.size wr (.agg #[.slice X k cX, .slice A' nm cap']) (barePg p) := by
          refine ⟨X, cX, A', cap', ?_, ?_, ?_⟩
          · rw [hbl, show (barePg p).m = p.m from rfl, HNM.out]
          · rw [hbl]; exact hFV
          · rw [show (barePg p).m = p.m from rfl, HNM.out]; exact HM4.out.below hbel hszr
        have hTr := HT1.out.step (H4.out.trans (hbel.mono H4.out.size))
        have hcb : cntL (barePg p).pts ≤ 10000000 := by
          have := HC.out
          rw [Pg.pts, cntL_append] at this
          rw [bare_pts]
          omega
        have HCD : Hid (Calls Tryd.prog 8 #[.agg #[.slice X k cX, .slice A' nm cap']] wr fun e w' => ∃ g o c, e = .returned (.tuple #[.agg #[.slice (some ⟨g, o, none⟩) N c], .int .i64 0]) ∧ N ≤ c ∧ c ≤ 9223372036854775807 ∧ g < w'.heap.size ∧ FcIn w'.heap.size w' (cFns (barePg p)) g o ∧ Below wr.heap.size wr w') := hid (by
          refine (compile_any _ (barePg p) wr hq hTr hcb).mono ?_
          rintro e w' ⟨vf, rfl, hf, hb⟩
          have heb := bare_err HE.out
          unfold cmpP at hf
          rw [if_pos heb] at hf
          obtain ⟨A3, c, rfl, k1, k2, k3⟩ := hf
          have hlen : (cFns (barePg p)).length = N := by unfold cFns; rw [List.length_map, List.length_cons, hbl, HNN.out]
          have h0N : 0 < N := by have := HN.out; omega
          rw [hlen] at k1 k3 ⊢
          obtain ⟨g, o, rfl, hg, hin⟩ := k3 h0N
          exact ⟨g, o, c, by rw [heb], k1, k2, hg, hin, hb⟩)
        have r0 : wr.cell? ⟨B, 0, none⟩ = some (.slice X k cX) := (blk_cell hbx 0).trans rfl
        have r1 : wr.cell? ⟨B, 1, none⟩ = some (.slice A' nm cap') := (blk_cell hbx 1).trans rfl
        have lbB := blk_lt hbx
        have HBL := Lib.hid hbel
        have HTR := Lib.hid hTr
        have HTT := Lib.hid t0
        have HE4 := Lib.hid ((hbel.cell (p := ⟨nc, 0, none⟩) (by simp only; omega)).trans e4)
        clear hft hbl hcs hFV hq hTr hcb hbx hown hbel hk hkn
        go_upto_region 11 with (go_at_call 8; ((with_reducible refine HCD.out.mono ?_); rintro e w6 ⟨g2, o2, c2, rfl, p1, p2, p3, p4, p5⟩))
        obtain ⟨w7, hw7⟩ : ∃ w7, w6.alloc (cdO (.slice (some ⟨g2, o2, none⟩) N c2)) = w7 := ⟨_, rfl⟩
        have hb67 : Below w6.heap.size w6 w7 := by rw [← hw7]; exact (Below.refl _ _).alloc (Nat.le_refl _) _
        have hbx7 : w7.heap[w6.heap.size]? = some (cdO (.slice (some ⟨g2, o2, none⟩) N c2)) := by rw [← hw7]; exact heap_alloc_new _ _
        have hbr7 : Below wr.heap.size wr w7 := p5.trans (hb67.mono p5.size)
        obtain ⟨nd, hnd⟩ : ∃ nd, w6.heap.size = nd := ⟨_, rfl⟩
        rw [hw7]
        rw [hnd] at hbx7 ⊢
        have s67 := hb67.size
        have sr6 := p5.size
        have m0 : w7.cell? ⟨nc, 0, none⟩ = some (.slice (some ⟨g, o, none⟩) N c) := (hbr7.cell (p := ⟨nc, 0, none⟩) (by simp only; omega)).trans HE4.out
        have m1 : w7.cell? ⟨nd, 0, none⟩ = some (.slice (some ⟨g2, o2, none⟩) N c2) := (blk_cell hbx7 0).trans rfl
        have m2 : w7.cell? ⟨n, 0, none⟩ = some (.slice A k cap) := (hbr7.cell (p := ⟨n, 0, none⟩) (by simp only; omega)).trans HTT.out
        have lnd := blk_lt hbx7
        have lg7 : g < w7.heap.size := by omega
        have lg27 : g2 < w7.heap.size := by omega
        have hP7 : FcIn w7.heap.size w7 (cFns p) g o := FcIn.below (HBL.out.trans (hbr7.mono hszr)) (by have := hbr7.size; omega) (by omega) HQ.out
        have hQ7 : FcIn w7.heap.size w7 (cFns (barePg p)) g2 o2 := FcIn.below hb67 s67 p3 p4
        have hT7 := HTR.out.step hbr7
        obtain ⟨_, _, _, _, v4, b4, hv4⟩ := FcIn.at_ hP7 (show (cFns p)[0]? = some (fcP p (mainF p)) from rfl)
        obtain ⟨_, _, _, _, v5, b5, hv5⟩ := FcIn.at_ hQ7 (show (cFns (barePg p))[0]? = some (fcP p (mainF p)) by rw [bare_cmp HE.out]; rfl)
        obtain ⟨LM, hLM⟩ : ∃ L, (fcP p (mainF p)).L = L := ⟨_, rfl⟩
        have hLl : 2 ≤ LM.length ∧ LM.length ≤ 10000000 := by
          have e : (fcP p (mainF p)).L = fnL (spFn (arF p.fs) (mainF p)) (plOf (scopes p)) p.m := rfl
          have h2 := HC2.out
          rw [Pg.pts, cntL_append, SS.cntL] at h2
          have h1 := fnL_small (spFn (arF p.fs) (mainF p)) (plOf (scopes p)) p.m
          rw [← e, hLM] at h1
          refine ⟨?_, by omega⟩
          rw [← hLM, e]
          simp [fnL]
        rw [hLM] at hv4 hv5
        obtain ⟨A4, c4, rfl, _⟩ := id hv4
        obtain ⟨A5, c5, rfl, _⟩ := id hv5
        obtain ⟨T, hT⟩ : ∃ T : ByteArray, (⟨(textT 0 LM).toArray⟩ : ByteArray) = T := ⟨_, rfl⟩
        have X4 := fun W hb => text_at (W := W) hT7 hb hv4 (by omega) hLl.2 hT
        have X5 := fun W hb => text_at (W := W) hT7 hb hv5 (by omega) hLl.2 hT
        obtain ⟨LL, hLL⟩ : ∃ n, LM.length = n := ⟨_, rfl⟩
        rw [hLL] at b4 b5 X4 X5
        simp only [Nat.zero_mul, Nat.add_zero] at b4 b5
        have K7 : ∀ W, Below w7.heap.size w7 W → W.cell? ⟨nc, 0, none⟩ = some (.slice (some ⟨g, o, none⟩) N c) ∧ W.cell? ⟨nd, 0, none⟩ = some (.slice (some ⟨g2, o2, none⟩) N c2) ∧ W.cell? ⟨n, 0, none⟩ = some (.slice A k cap) ∧ W.cell? ⟨g, o + 4, none⟩ = some (.slice A4 LL c4) ∧ W.cell? ⟨g2, o2 + 4, none⟩ = some (.slice A5 LL c5) ∧ Below w7.heap.size w7 W := fun W hb =>
          ⟨(hb.cell (p := ⟨nc, 0, none⟩) (by simp only; omega)).trans m0, (hb.cell (p := ⟨nd, 0, none⟩) lnd).trans m1, (hb.cell (p := ⟨n, 0, none⟩) (by simp only; omega)).trans m2, (hb.cell (p := ⟨g, o + 4, none⟩) lg7).trans b4, (hb.cell (p := ⟨g2, o2 + 4, none⟩) lg27).trans b5, hb⟩
        have HX4 : Hid (∀ W, Below w7.heap.size w7 W → Calls Tryd.prog 9 #[.slice A4 LL c4] W fun e w' => e = .returned (.string T) ∧ w'.cell? ⟨nc, 0, none⟩ = some (.slice (some ⟨g, o, none⟩) N c) ∧ w'.cell? ⟨nd, 0, none⟩ = some (.slice (some ⟨g2, o2, none⟩) N c2) ∧ w'.cell? ⟨n, 0, none⟩ = some (.slice A k cap) ∧ w'.cell? ⟨g, o + 4, none⟩ = some (.slice A4 LL c4) ∧ w'.cell? ⟨g2, o2 + 4, none⟩ = some (.slice A5 LL c5) ∧ Below w7.heap.size w7 w') := hid fun W hb => (X4 W hb).mono fun e w' h => ⟨h.1, K7 w' h.2⟩
        have HX5 : Hid (∀ W, Below w7.heap.size w7 W → Calls Tryd.prog 9 #[.slice A5 LL c5] W fun e w' => e = .returned (.string T) ∧ w'.cell? ⟨nc, 0, none⟩ = some (.slice (some ⟨g, o, none⟩) N c) ∧ w'.cell? ⟨nd, 0, none⟩ = some (.slice (some ⟨g2, o2, none⟩) N c2) ∧ w'.cell? ⟨n, 0, none⟩ = some (.slice A k cap) ∧ w'.cell? ⟨g, o + 4, none⟩ = some (.slice A4 LL c4) ∧ w'.cell? ⟨g2, o2 + 4, none⟩ = some (.slice A5 LL c5) ∧ Below w7.heap.size w7 w') := hid fun W hb => (X5 W hb).mono fun e w' h => ⟨h.1, K7 w' h.2⟩
        have HRW : Hid (∀ j, 1 ≤ j → j < N → ∃ s np b q cv, ApRow w7 g o g2 o2 j s np b q cv ∧ InV w7.heap.size w7 (.slice (some ⟨b, q, none⟩) 2 cv) lB) := hid fun j h1 h2 => by
          obtain ⟨j', rfl⟩ : ∃ j', j = j' + 1 := ⟨j - 1, by omega⟩
          exact ap_row HE.out hP7 hQ7 (by have := HN.out; omega)
        have HT7 := Lib.hid hT7
        have H7 := Lib.hid (HB1.out.trans ((H4.out.trans ((HBL.out.trans (hbr7.mono hszr)).mono H4.out.size)).mono HB1.out.size))
        have hwN : IntKind.i64.wrap ((k : Int) + 1) = (N : Int) := by rw [IntWalk.i64_in _ (by omega)]; have := HNN.out; omega
        have hTT : (T != T) = false := bs_ne T
        have h0N : 0 < N := by have := HNN.out; omega
        have HMM := Lib.hid (⟨m0, m1⟩ : _ ∧ _)
        have lnc7 : nc < w7.heap.size := by omega
        obtain ⟨y0, y1, y2, y3, y4, y5⟩ := K7 w7.drew (belowD (Below.refl _ _))
        clear X4 X5 K7 hv4 hv5 hT hLL hLM hLl b4 b5 m0 m1 m2 hP7 hQ7 hT7 hbr7 hb67 hbx7 hw7 hnd p4 p5 r0 r1 u0 u1 e4 x0 x1
        go_region_held3 (fun W => W.cell? ⟨nc, 0, none⟩ = some (.slice (some ⟨g, o, none⟩) N c) ∧ W.cell? ⟨nd, 0, none⟩ = some (.slice (some ⟨g2, o2, none⟩) N c2) ∧ W.cell? ⟨n, 0, none⟩ = some (.slice A k cap) ∧ W.cell? ⟨g, o + 4, none⟩ = some (.slice A4 LL c4) ∧ W.cell? ⟨g2, o2 + 4, none⟩ = some (.slice A5 LL c5) ∧ Below w7.heap.size w7 W)
          (first | exact ⟨y0, y1, y2, y3, y4, y5⟩ | go_keep)
          (first
            | (go_at_call 9; (with_reducible refine (HX5.out _ (by assumption)).mono ?_); rintro e w8 ⟨rfl, y0, y1, y2, y3, y4, y5⟩)
            | (go_at_call 9; (with_reducible refine (HX4.out _ (by assumption)).mono ?_); rintro e w8 ⟨rfl, y0, y1, y2, y3, y4, y5⟩))
        go_wp2
        go_loopw [10] (fun i wr => ∃ j : Nat, i = .int .i64 j ∧ 1 ≤ j ∧ j ≤ N ∧ Below w7.heap.size w7 wr) (fun i _ => N - (RowKit.intOf i).toNat)
        case atStart => exact ⟨1, rfl, Nat.le_refl _, h0N, y5⟩
        case round =>
          obtain ⟨j, rfl, hj1, hj2, hbw⟩ := hrel
          obtain ⟨M0, M1⟩ := HMM.out
          by_cases hjn : j < N
          · have hlt : decide ((j : Int) < (N : Int)) = true := by simp; omega
            obtain ⟨s, np, b, q, cv, hrow, hinv⟩ := HRW.out j hj1 hjn
            have K16 : ∀ W, Below w7.heap.size w7 W → W.cell? ⟨nc, 0, none⟩ = some (.slice (some ⟨g, o, none⟩) N c) ∧ W.cell? ⟨nd, 0, none⟩ = some (.slice (some ⟨g2, o2, none⟩) N c2) ∧ W.cell? ⟨g, o + j * 5, none⟩ = some (.string s) ∧ W.cell? ⟨g, o + j * 5 + 1, none⟩ = some (.int .i64 np) ∧ W.cell? ⟨g2, o2 + j * 5, none⟩ = some (.string s) ∧ W.cell? ⟨g2, o2 + j * 5 + 1, none⟩ = some (.int .i64 np) ∧ W.cell? ⟨g2, o2 + j * 5 + 2, none⟩ = some (.int .i64 np) ∧ W.cell? ⟨g2, o2 + j * 5 + 4, none⟩ = some (.slice (some ⟨b, q, none⟩) 2 cv) ∧ Below w7.heap.size w7 W := fun W hb => by
              obtain ⟨r0, r1, r2, r3, r4, r5⟩ := hrow.step hb lg7 lg27
              exact ⟨(hb.cell (p := ⟨nc, 0, none⟩) lnc7).trans M0, (hb.cell (p := ⟨nd, 0, none⟩) lnd).trans M1, r0, r1, r2, r3, r4, r5, hb⟩
            have HXB : Hid (∀ W, Below w7.heap.size w7 W → Calls Tryd.prog 9 #[.slice (some ⟨b, q, none⟩) 2 cv] W fun e w' => e = .returned (.string bT) ∧ w'.cell? ⟨nc, 0, none⟩ = some (.slice (some ⟨g, o, none⟩) N c) ∧ w'.cell? ⟨nd, 0, none⟩ = some (.slice (some ⟨g2, o2, none⟩) N c2) ∧ w'.cell? ⟨g, o + j * 5, none⟩ = some (.string s) ∧ w'.cell? ⟨g, o + j * 5 + 1, none⟩ = some (.int .i64 np) ∧ w'.cell? ⟨g2, o2 + j * 5, none⟩ = some (.string s) ∧ w'.cell? ⟨g2, o2 + j * 5 + 1, none⟩ = some (.int .i64 np) ∧ w'.cell? ⟨g2, o2 + j * 5 + 2, none⟩ = some (.int .i64 np) ∧ w'.cell? ⟨g2, o2 + j * 5 + 4, none⟩ = some (.slice (some ⟨b, q, none⟩) 2 cv) ∧ Below w7.heap.size w7 w') := hid fun W hb =>
              (text_at (w := w7) (W := W) (L := lB) (T := bT) HT7.out hb hinv (by decide) (by decide) (by rw [text_bare])).mono fun e w' h => ⟨h.1, K16 w' h.2⟩
            have hsn : (s != s) = false := bs_ne s
            have hbn : (bT != bT) = false := bs_ne bT
            have hnn : ((np : Int) != (np : Int)) = false := by simp
            obtain ⟨v0, v1, -⟩ := K16 wr hbw
            obtain ⟨n0, n1, n2, n3, n4, n5, n6, n7, n8⟩ := K16 wr.drew (belowD hbw)
            clear M0 M1 hrow hinv K16 hbw y0 y1 y2 y3 y4 y5
            go_upto_region 16 with fail
            clear v0 v1
            go_region_held3 (fun W => W.cell? ⟨nc, 0, none⟩ = some (.slice (some ⟨g, o, none⟩) N c) ∧ W.cell? ⟨nd, 0, none⟩ = some (.slice (some ⟨g2, o2, none⟩) N c2) ∧ W.cell? ⟨g, o + j * 5, none⟩ = some (.string s) ∧ W.cell? ⟨g, o + j * 5 + 1, none⟩ = some (.int .i64 np) ∧ W.cell? ⟨g2, o2 + j * 5, none⟩ = some (.string s) ∧ W.cell? ⟨g2, o2 + j * 5 + 1, none⟩ = some (.int .i64 np) ∧ W.cell? ⟨g2, o2 + j * 5 + 2, none⟩ = some (.int .i64 np) ∧ W.cell? ⟨g2, o2 + j * 5 + 4, none⟩ = some (.slice (some ⟨b, q, none⟩) 2 cv) ∧ Below w7.heap.size w7 W)
              (first | exact ⟨n0, n1, n2, n3, n4, n5, n6, n7, n8⟩ | go_keep)
              (first
                | (go_at_call 9; (with_reducible refine (HXB.out _ (by assumption)).mono ?_); rintro e w9 ⟨rfl, n0, n1, n2, n3, n4, n5, n6, n7, n8⟩)
                | fail)
            go_wp2
            go_roundw
            case rel => exact ⟨j + 1, by go_num, by omega, by omega, n8⟩
            case measure => simp [RowKit.intOf]; omega
          · have hlt : decide ((j : Int) < (N : Int)) = false := by simp; omega
            have v1 := (hbw.cell (p := ⟨nd, 0, none⟩) lnd).trans M1
            have HBE := Lib.hid (H7.out.trans (hbw.mono H7.out.size))
            clear hbw y0 y1 y2 y3 y4 y5
            go_wp2
            go_ret
            exact ⟨rfl, HBE.out⟩
  · have hne : (E != 0) = true := by simp [hE0]
    have HCM : Hid (∀ w2, Below W1.heap.size W1 w2 → Calls Tryd.prog 8 #[.agg #[.slice A nf cap, .slice A' nm cap']] w2 fun e w' => ∃ A3 l c, e = .returned (.tuple #[.agg #[.slice A3 l c], .int .i64 E]) ∧ Below w2.heap.size w2 w') := hid fun w2 h2 => by
      refine (compile_any _ p w2 (HV1.out.below h2 h2.size) (HT1.out.step h2) HC.out).mono ?_
      rintro e w' ⟨vf, rfl, hf, hb⟩
      obtain ⟨A3, c, rfl, _⟩ := hf
      exact ⟨_, _, _, by rw [HE.out], hb⟩
    clear hE0
    go_enter Tryd.func3, Tryd.ntmps3
    go_wp2_with (first
      | (go_at_call 7; ((with_reducible refine HS.out.mono ?_); rintro e w2 ⟨rfl, h2⟩; have y0 := (h2.cell (p := ⟨n, 0, none⟩) (by simp only; omega)).trans x0; have y1 := (h2.cell (p := ⟨n, 1, none⟩) (by simp only; omega)).trans x1; have HCC := Lib.hid (HCM.out w2 h2); have H2 := Lib.hid h2; clear h2))
      | (go_at_call 8; ((with_reducible refine HCC.out.mono ?_); rintro e w3 ⟨A3, l, c, rfl, q5⟩; have H3 := Lib.hid (HB1.out.trans ((H2.out.trans (q5.mono H2.out.size)).mono HB1.out.size)); clear q5)))
    go_ret
    exact ⟨rfl, H3.out.alloc H3.out.size _⟩
end Go.Proofs.YtkmaegmmgibjmaaDoor
