/-
  CompileAdds: the walk.
-/
import Derived.Test.YtnilklgnpfgieaaDoorCgI
import Derived.Deep.DeepCutAuto
import Derived.Deep.QuietTactic
import Derived.BigQuiet
namespace Go.Proofs.YtnilklgnpfgieaaDoor
open Go Go.RowKit Go.Lib

theorem and_62 (n : Int) : ∃ N : Nat, bits BinOp.and IntKind.i64 n 4611686018427387903 = (N : Int) ∧ N ≤ 4611686018427387903 := by
  refine ⟨(BitVec.ofInt 64 n &&& BitVec.ofInt 64 4611686018427387903).toNat, ?_, ?_⟩
  · show IntKind.i64.wrap ((BitVec.ofInt 64 n &&& BitVec.ofInt 64 4611686018427387903).toNat : Int) = _
    have : (BitVec.ofInt 64 n &&& BitVec.ofInt 64 4611686018427387903).toNat ≤ 4611686018427387903 := by
      rw [BitVec.toNat_and]; exact Nat.and_le_right
    exact IntWalk.i64_in _ (by omega)
  · rw [BitVec.toNat_and]; exact Nat.and_le_right
theorem InsIn.right {W : World} : ∀ {a b : List In3} {g o : Nat}, InsIn W (a ++ b) g o → InsIn W b g (o + a.length * 3)
  | [], _, _, o, h => by simpa using h
  | (_, _, _) :: r, b, g, o, ⟨_, _, _, _, h⟩ => by
    have := InsIn.right (a := r) h
    rw [List.length_cons, show o + (r.length + 1) * 3 = o + 3 + r.length * 3 by omega]
    exact this
/-- Text of the first instructions of a row. -/
theorem text_take {w W : World} {C D : List In3} {A : Option Addr} {n cap : Nat} (ht : TB w) (hb : Below w.heap.size w W) (hv : InV w.heap.size w (.slice A n cap) (C ++ D)) (hD : 0 < D.length) (hl : C.length ≤ 10000000) :
    Calls Tryd.prog 6 #[.slice A C.length cap] W fun e w' => e = .returned (.string ⟨(textT 0 C).toArray⟩) ∧ Below w.heap.size w w' := by
  obtain ⟨A1, c1, e1, h1, h2, h3⟩ := id hv
  injection e1 with e2 e3 e4
  subst e2 e3 e4
  rw [List.length_append] at h1 h3
  obtain ⟨b, q, rfl, hbb, hin⟩ := h3 (by omega)
  have hin2 : InsIn w C b q := by
    have := InsIn.take C.length hin
    rwa [List.take_left' rfl] at this
  have hv2 : InV w.heap.size w (.slice (some ⟨b, q, none⟩) C.length cap) C := ⟨_, _, rfl, by omega, h2, fun _ => ⟨b, q, rfl, hbb, hin2⟩⟩
  have ht' := ht.step hb
  obtain ⟨lo, hct⟩ := ht'.ct
  refine (text_long C lo W _ cap hct (hv2.below hb hb.size) hin2.ok hl).mono ?_
  rintro e w' ⟨rfl, h⟩
  exact ⟨rfl, hb.trans (h.mono hb.size)⟩

theorem lt_of_cellR {W : World} {a : Addr} {v : Value} (h : W.cell? a = some v) : a.block < W.heap.size := by
  rcases Nat.lt_or_ge a.block W.heap.size with h' | h'
  · exact h'
  · simp [World.cell?, Array.getElem?_eq_none h'] at h
theorem sv_nil0 {B : Nat} {W : World} {A : Option Addr} {n cap : Nat} {l : SS} (h : SV B W (.slice A n cap) l) (e0 : A = none) : n = 0 := by
  subst e0
  obtain ⟨A', c, e, _, _, hr⟩ := h
  injection e with e1 e2 _
  subst e1 e2
  rcases Nat.eq_zero_or_pos l.len with h | h
  · exact h
  · obtain ⟨_, _, h, _⟩ := hr h
    cases h
theorem sl_le : ∀ l : SS, l.len ≤ l.cnt
  | .nil => Nat.zero_le _
  | .cons _ _ _ _ _ _ r => by have := sl_le r; simp only [SS.len, SS.cnt]; omega
theorem st_one {w1 w : World} {N : Int} {v : Value} (h : ∃ kE, v = .slice (some ⟨kE, 0, none⟩) 1 1 ∧ w1.heap.size ≤ kE ∧ w.heap[kE]? = some (aExO N)) : ∀ u ∈ aSt v, u.oneCell' = true := by
  obtain ⟨kE, rfl, _, _⟩ := h
  intro u hu
  simp only [aSt, List.mem_cons, List.not_mem_nil, or_false] at hu
  rcases hu with rfl | rfl | rfl | rfl | rfl | rfl <;> rfl
set_option maxRecDepth 100000 in
set_option maxHeartbeats 16000000 in
theorem adds_walk (v : Value) (y : Int) (p : Pg) (w : World) (hv : PgV w.heap.size w v p) (ht : TB w) (hc : cntL p.pts ≤ 2000000) :
    Calls Tryd.prog 3 #[v, .int .i64 y] w fun e w' => e = .returned (.bool true) ∧ Below w.heap.size w w' := by
  obtain ⟨A, cap, A', cap', rfl, h0, h1⟩ := id hv
  obtain ⟨n, hn⟩ : ∃ n, w.heap.size = n := ⟨_, rfl⟩
  obtain ⟨W1, hW1⟩ : ∃ W1, w.alloc (pgO A p.fs.length cap A' p.m.len cap') = W1 := ⟨_, rfl⟩
  have hbx1 : W1.heap[n]? = some (pgO A p.fs.length cap A' p.m.len cap') := by rw [← hW1]; exact blk_new hn
  have hb1 : Below w.heap.size w W1 := by rw [← hW1]; exact (Below.refl _ _).alloc (Nat.le_refl _) _
  have hs1 : W1.heap.size = n + 1 := by rw [← hW1, World.size_alloc, hn]
  have HS := Lib.hid (shown_any W1 (ht.step hb1))
  have HT1 := Lib.hid (ht.step hb1)
  have HV1 := Lib.hid (show PgV W1.heap.size W1 _ p from hv.below hb1 hb1.size)
  have HF1 := Lib.hid (show FV W1.heap.size W1 _ p.fs from h0.below hb1 hb1.size)
  have HM1 := Lib.hid (show SV W1.heap.size W1 _ p.m from h1.below hb1 hb1.size)
  have HB1 := Lib.hid hb1
  have HC := Lib.hid (show cntL p.pts ≤ 10000000 by omega)
  have HC2 := Lib.hid hc
  obtain ⟨m, hm, hm2⟩ := and_62 y
  have x0 : W1.cell? ⟨n, 0, none⟩ = some (.slice A p.fs.length cap) := (blk_cell hbx1 0).trans rfl
  have x1 : W1.cell? ⟨n, 1, none⟩ = some (.slice A' p.m.len cap') := (blk_cell hbx1 1).trans rfl
  obtain ⟨E, hE⟩ : ∃ E, resErr p = E := ⟨_, rfl⟩
  obtain ⟨nf, hnf⟩ : ∃ nf, p.fs.length = nf := ⟨_, rfl⟩
  obtain ⟨nm, hnm⟩ : ∃ nm, p.m.len = nm := ⟨_, rfl⟩
  obtain ⟨N, hN⟩ : ∃ N, p.fs.length + 1 = N := ⟨_, rfl⟩
  have HN := Lib.hid hN
  have HNF := Lib.hid hnf
  have HNM := Lib.hid hnm
  rw [hnf] at x0 hW1 HV1 HF1 hN
  rw [hnm] at x1 hW1 HV1 HM1
  rw [hnf, hnm]
  have HE := Lib.hid hE
  have HNN := Lib.hid hN
  clear hv ht hc h0 h1 hb1 hbx1 hE hnf hnm hN
  by_cases hE0 : E = 0
  · subst hE0
    have hnf32 : nf ≤ 32 := by have := (right_lims (nar_of HE.out).1).1; rw [HNF.out] at this; exact this
    have HCM : Hid (∀ w2, Below W1.heap.size W1 w2 → Calls Tryd.prog 5 #[.agg #[.slice A nf cap, .slice A' nm cap']] w2 fun e w' => ∃ g o c, e = .returned (.tuple #[.agg #[.slice (some ⟨g, o, none⟩) N c], .int .i64 0]) ∧ N ≤ c ∧ c ≤ 9223372036854775807 ∧ g < w'.heap.size ∧ FcIn w'.heap.size w' (cFns p) g o ∧ Below w2.heap.size w2 w') := hid fun w2 h2 => by
      refine (compile_any _ p w2 (HV1.out.below h2 h2.size) (HT1.out.step h2) HC.out).mono ?_
      rintro e w' ⟨vf, rfl, hf, hb⟩
      unfold cmpP at hf
      rw [if_pos HE.out] at hf
      obtain ⟨A3, c, rfl, k1, k2, k3⟩ := hf
      have hlen : (cFns p).length = N := by unfold cFns; rw [List.length_map, List.length_cons, HN.out]
      have h0N : 0 < N := by have := HN.out; omega
      rw [hlen] at k1 k3 ⊢
      obtain ⟨g, o, rfl, hg, hin⟩ := k3 h0N
      exact ⟨g, o, c, by rw [HE.out], k1, k2, hg, hin, hb⟩
    go_enter Tryd.func3, Tryd.ntmps3
    go_upto_region 6 with (first
      | (go_at_call 4; ((with_reducible refine HS.out.mono ?_); rintro e w2 ⟨rfl, h2⟩; have y0 := (h2.cell (p := ⟨n, 0, none⟩) (by simp only; omega)).trans x0; have y1 := (h2.cell (p := ⟨n, 1, none⟩) (by simp only; omega)).trans x1; have hs2 := h2.size; have HCC := Lib.hid (HCM.out w2 h2); have H2 := Lib.hid h2; clear h2))
      | (go_at_call 5; ((with_reducible refine HCC.out.mono ?_); rintro e w3 ⟨g, o, c, rfl, q1, q2, q3, q4, q5⟩; have HQ4 := Lib.hid q4; have H3 := Lib.hid (H2.out.trans (q5.mono H2.out.size)); have z0 := (q5.cell (p := ⟨n, 0, none⟩) (by simp only; omega)).trans y0; have z1 := (q5.cell (p := ⟨n, 1, none⟩) (by simp only; omega)).trans y1; have hs3 := q5.size; clear q4 q5; obtain ⟨w4, hw4⟩ : ∃ w4, w3.alloc (cdO (.slice (some ⟨g, o, none⟩) N c)) = w4 := ⟨_, rfl⟩; have hb4 : Below w3.heap.size w3 w4 := (by rw [← hw4]; exact (Below.refl _ _).alloc (Nat.le_refl _) _); have hbx4 : w4.heap[w3.heap.size]? = some (cdO (.slice (some ⟨g, o, none⟩) N c)) := (by rw [← hw4]; exact heap_alloc_new _ _); have u0 := (hb4.cell (p := ⟨n, 0, none⟩) (by simp only; omega)).trans z0; have u1 := (hb4.cell (p := ⟨n, 1, none⟩) (by simp only; omega)).trans z1; have e4 : w4.cell? ⟨w3.heap.size, 0, none⟩ = some (.slice (some ⟨g, o, none⟩) N c) := (blk_cell hbx4 0).trans rfl; have lc4 := blk_lt hbx4; have HB4 := Lib.hid hb4; clear hb4 hbx4)))
    obtain ⟨i0, hi, hz0, hz1, hz2⟩ := info_parts stmtInfo
    have hmx : Tryd.prog.follows .mixedOrders = true := by kernel_rfl
    obtain ⟨B, hB⟩ : ∃ B, w4.heap.size = B := ⟨_, rfl⟩
    have hB4 := HB4.out.size
    have hnB : n < B := by omega
    have h34 := H3.out.trans (HB4.out.mono H3.out.size)
    have HF4 := Lib.hid (HF1.out.below h34 h34.size)
    have fM4 : SV w4.heap.size w4 (.slice A' nm cap') p.m := HM1.out.below h34 h34.size
    have H4 := Lib.hid h34
    have HQ := Lib.hid (FcIn.below HB4.out HB4.out.size q3 HQ4.out)
    have q3' : g < B := by omega
    obtain ⟨nc, hnc⟩ : ∃ nc, w3.heap.size = nc := ⟨_, rfl⟩
    have lnc : nc < B := by omega
    rw [hnc] at e4 ⊢
    obtain ⟨-, csM, hcM, hqM⟩ := sv_news fM4
    have HX := hid (fun (e : A' = none) => sv_nil0 fM4 e)
    have hnM : csM.length = nm * 6 := by rw [hcM.len, HNM.out]
    have lm : nm ≤ 2000000 := by
      have h1 := sl_le p.m
      have h2 := HC2.out
      rw [Pg.pts, cntL_append, SS.cntL] at h2
      rw [HNM.out] at h1
      omega
    have CNM := hid (fun W2 (hb : Below w4.heap.size w4 W2) => (fun ad e j u hu => by
      have h := hqM ad e j u hu
      exact (hb.cell (p := ad.add j) (lt_of_cellR h)).trans h : ∀ ad, A' = some ad → ∀ j u, csM[j]? = some u → W2.cell? (ad.add j) = some u))
    have HB := hid (fun W2 (hb : Below w4.heap.size w4 W2) => (⟨(hb.cell (p := ⟨n, 0, none⟩) (by simp only; omega)).trans u0, (hb.cell (p := ⟨n, 1, none⟩) (by simp only; omega)).trans u1⟩ : W2.cell? ⟨n, 0, none⟩ = some (.slice A nf cap) ∧ W2.cell? ⟨n, 1, none⟩ = some (.slice A' nm cap')))
    have o1M := hcM.one
    have HCS := Lib.hid hcM
    have HBB := Lib.hid hB
    have HE4 := Lib.hid e4
    clear hqM hw4 hnc h34 y0 y1 z0 z1 lc4 hs2 hs3 q3 hm
    go_cut [8] (fun s8 wx => ∃ kb kE A2 cap2, s8 = .pointer (some ⟨kb, 0, none⟩) ∧ w4.heap.size ≤ kE ∧ wx.heap[kE]? = some (aExO (m : Int)) ∧ Fin2 w4 wx 37 6 kb (.slice A nf cap) (.slice A2 (nm + 1) cap2) (.slice A2 (nm + 1) cap2) (nm + 1) (csM ++ aSt (.slice (some ⟨kE, 0, none⟩) 1 1)))
    case first =>
      clear e4 u0 u1 hcM fM4
      refine wp_region_inv (fun listed a w' => ∃ s8 s26 s27 s28 s29 s30 s31 s32 s33 s34 s35 s36 s37 s38 : Value, a = { tmps := #[.agg #[.slice A nf cap, .slice A' nm cap'], .int .i64 (m : Int), .pointer (some ⟨n, 0, none⟩), undef, .bool false, .bool true, .pointer (some ⟨nc, 0, none⟩), .int .i64 0, s8, undef, undef, undef, undef, undef, undef, .bool true, .int .i64 y, .int .i64 (m : Int), .tuple #[.agg #[.slice (some ⟨g, o, none⟩) N c], .int .i64 0], .agg #[.slice A nf cap, .slice A' nm cap'], .tuple #[.agg #[.slice (some ⟨g, o, none⟩) N c], .int .i64 0], .agg #[.slice (some ⟨g, o, none⟩) N c], .int .i64 0, .int .i64 0, .bool false, undef, s26, s27, s28, s29, s30, s31, s32, s33, s34, s35, s36, s37, s38, undef, undef, undef, undef, undef, undef, undef, undef, undef, undef, undef, undef, undef, undef, undef, undef, undef, undef, undef, undef, undef, undef, undef, undef, undef, undef, undef, undef, undef, undef, undef, undef, undef, undef, undef, undef, undef, undef, undef, undef, undef, undef, undef, undef, undef, undef, undef, undef, undef, undef, undef, undef, undef, undef, undef, undef, undef, undef, undef, undef, undef, undef, undef, undef, undef, undef, undef, undef, undef, undef, undef, undef, undef, undef, undef, undef, undef, undef, undef, undef, undef, undef, undef, undef, undef, undef, undef, undef, undef, undef, undef, undef, undef, undef, undef, undef, undef, undef, undef, undef, undef, undef, undef, undef, undef, undef, undef, undef, undef, undef, undef, undef, undef, undef, undef, undef, undef, undef, undef, undef, undef, undef, undef, undef, undef, undef, undef, undef, undef, undef, undef, undef, undef, undef, undef, undef, undef], defers := [] } ∧ IvA w4 n A nf cap A' nm cap' csM (m : Int) (ld listed) s8 s26 s27 s28 s29 s30 s31 s32 s33 s34 s35 s36 s37 s38 w') hmx ?start ?step ?done
      case start => exact ⟨undef, undef, undef, undef, undef, undef, undef, undef, undef, undef, undef, undef, undef, undef, rfl, IvA.start (belowD (Below.refl _ _)) _⟩
      case step =>
        intro listed a w' hs hI i o' ho hli hd K hK
        obtain ⟨s8, s26, s27, s28, s29, s30, s31, s32, s33, s34, s35, s36, s37, s38, rfl, hI⟩ := hI
        have hl := ld_false hli
        have hi15 : i < 15 := by have := (Array.getElem?_eq_some_iff.1 ho).1; simpa using this
        have hcase : i = 0 ∨ i = 1 ∨ i = 2 ∨ i = 3 ∨ i = 4 ∨ i = 5 ∨ i = 6 ∨ i = 7 ∨ i = 8 ∨ i = 9 ∨ i = 10 ∨ i = 11 ∨ i = 12 ∨ i = 13 ∨ i = 14 := by omega
        clear hi15 hli
        rcases hcase with rfl | rfl | rfl | rfl | rfl | rfl | rfl | rfl | rfl | rfl | rfl | rfl | rfl | rfl | rfl
        all_goals
          simp only [List.getElem?_toArray, List.getElem?_cons_zero, List.getElem?_cons_succ, Option.some.injEq] at ho
          subst ho
          simp only [Region.binds, Bool.not_true, Bool.false_or, List.all_toArray, List.all_cons, List.all_nil, Bool.and_true, Bool.and_eq_true] at hd
        · go_simp
          refine hK.out _ _ ⟨_, _, _, _, _, _, _, _, _, _, _, _, _, _, rfl, ?_⟩
          rw [ld_set _ _ hl.2]
          exact hI.s0 hl.1
        · obtain rfl := hI.p26 hd
          obtain ⟨q0, q1⟩ := HB.out _ hI.below
          have hn12 : ld listed 12 = false := by
            cases hk : ld listed 12 with
            | false => rfl
            | true => exact absurd ((hI.d12 hk).1) (by rw [hl.1]; decide)
          go_simp
          refine hK.out _ _ ⟨_, _, _, _, _, _, _, _, _, _, _, _, _, _, rfl, ?_⟩
          rw [ld_set _ _ hl.2]
          exact hI.s1 hl.1 hn12
        · have hn5 : ld listed 5 = false := by
            cases hk : ld listed 5 with
            | false => rfl
            | true => exact absurd (hI.d5 hk) (by rw [hl.1]; decide)
          go_simp
          refine hK.out _ _ ⟨_, _, _, _, _, _, _, _, _, _, _, _, _, _, rfl, ?_⟩
          rw [ld_set _ _ hl.2]
          exact hI.s2 hl.1 hn5
        · go_simp
          refine hK.out _ _ ⟨_, _, _, _, _, _, _, _, _, _, _, _, _, _, rfl, ?_⟩
          rw [ld_set _ _ hl.2]
          exact hI.s3 hl.1
        · obtain rfl := hI.p29 hd
          obtain ⟨q0, q1⟩ := HB.out _ hI.below
          go_simp
          refine hK.out _ _ ⟨_, _, _, _, _, _, _, _, _, _, _, _, _, _, rfl, ?_⟩
          rw [ld_set _ _ hl.2]
          exact hI.s4 hl.1
        · obtain rfl := hI.p30 hd.2
          have hn11 : ld listed 11 = false := by
            cases hk : ld listed 11 with
            | false => rfl
            | true => exact absurd ((hI.d11 hk).1) (by rw [hl.1]; decide)
          refine step_append_lie rfl (.tmp 28) (.tmp 30) 23 rfl w4.heap.size 37 i0 _ 6 104 Tryd.underlying23 hi hz0 hz1 hz2 rfl (by decide) s28 0 [] rfl (hI.m28 hd.1 hl.1) A' nm cap' csM rfl (fun e => HX.out e) hnM (CNM.out _ hI.below) o1M (by unfold maxLen; omega) (by omega) hI.below.size ?_
          intro v w2 ho hg hlie
          rw [Nat.zero_add, List.nil_append] at ho
          try simp only [Act.put, List.setIfInBounds_toArray, List.set_cons_zero, List.set_cons_succ]
          refine hK.out _ _ ⟨_, _, _, _, _, _, _, _, _, _, _, _, _, _, rfl, ?_⟩
          rw [ld_set _ _ hl.2]
          exact hI.s5 hl.1 hd.1 hn11 ho hg hlie
        · go_simp
          refine hK.out _ _ ⟨_, _, _, _, _, _, _, _, _, _, _, _, _, _, rfl, ?_⟩
          rw [ld_set _ _ hl.2]
          exact hI.s6 hl.1
        · obtain rfl := hI.p32 hd
          go_simp
          refine hK.out _ _ ⟨_, _, _, _, _, _, _, _, _, _, _, _, _, _, rfl, ?_⟩
          rw [ld_set _ _ hl.2]
          exact hI.s7 hl.1
        · obtain rfl := hI.p33 hd
          have hn9 : ld listed 9 = false := by
            cases hk : ld listed 9 with
            | false => rfl
            | true => exact absurd (hI.d9 hk) (by rw [hl.1]; decide)
          have hn10 : ld listed 10 = false := by
            cases hk : ld listed 10 with
            | false => rfl
            | true => exact absurd (hI.d9 (hI.d10 hk)) (by rw [hl.1]; decide)
          have hn11 : ld listed 11 = false := by
            cases hk : ld listed 11 with
            | false => rfl
            | true => exact absurd (hI.d9 (hI.d10 (hI.d11 hk).2)) (by rw [hl.1]; decide)
          simp only [aEx]
          go_simp
          refine hK.out _ _ ⟨_, _, _, _, _, _, _, _, _, _, _, _, _, _, rfl, ?_⟩
          rw [ld_set _ _ hl.2]
          exact hI.s8 hl.1 hn9 hn10 hn11
        · obtain ⟨kE, rfl, -, -⟩ := hI.e34 hd
          go_simp
          refine hK.out _ _ ⟨_, _, _, _, _, _, _, _, _, _, _, _, _, _, rfl, ?_⟩
          rw [ld_set _ _ hl.2]
          exact hI.s9 hl.1 hd
        · obtain rfl := hI.p35 hd
          obtain ⟨kE, rfl, -, -⟩ := hI.e34 (hI.d9 hd)
          simp only [aSt]
          go_simp
          refine hK.out _ _ ⟨_, _, _, _, _, _, _, _, _, _, _, _, _, _, rfl, ?_⟩
          rw [ld_set _ _ hl.2]
          exact hI.s10 hl.1 hd
        · have hn12 : ld listed 12 = false := by
            cases hk : ld listed 12 with
            | false => rfl
            | true => exact absurd ((hI.d12 hk).2) (by rw [hl.1]; decide)
          obtain ⟨kS, rfl, hkS, hbS, -, -⟩ := hI.k36 hd.2.1 hl.1
          refine step_append_lie rfl (.tmp 31) (.tmp 36) 23 rfl w4.heap.size 37 i0 _ 6 104 Tryd.underlying23 hi hz0 hz1 hz2 rfl (by decide) s31 nm csM rfl (hI.m31 hd.1 hl.1) (some ⟨kS, 0, none⟩) 1 1 (aSt s34) rfl (fun e => by cases e) rfl (blk_news hbS) (st_one (hI.e34 (hI.d9 (hI.d10 hd.2.1)))) (by unfold maxLen; omega) (by omega) hI.below.size ?_
          intro v w2 ho hg _
          try simp only [Act.put, List.setIfInBounds_toArray, List.set_cons_zero, List.set_cons_succ]
          refine hK.out _ _ ⟨_, _, _, _, _, _, _, _, _, _, _, _, _, _, rfl, ?_⟩
          rw [ld_set _ _ hl.2]
          exact hI.s11 hl.1 hd.1 hd.2.1 hn12 ho hg
        · obtain rfl := hI.p27 hd.1
          obtain ⟨A2, cap2, rfl⟩ := own_form (hI.m37 hd.2)
          go_simp
          refine hK.out _ _ ⟨_, _, _, _, _, _, _, _, _, _, _, _, _, _, rfl, ?_⟩
          rw [ld_set _ _ hl.2]
          exact hI.s12 hl.1 hd.1 hd.2
        · go_simp
          refine hK.out _ _ ⟨_, _, _, _, _, _, _, _, _, _, _, _, _, _, rfl, ?_⟩
          rw [ld_set _ _ hl.2]
          exact hI.s13 hl.1
        · obtain ⟨d13, d12, d11, d0, d1, d2, d3, d4, d5, d6, d7, d8, d9, d10, _⟩ := hd
          have ha : ∀ j, j < 14 → ld listed j = true := by
            intro j hj
            have hj' : j = 0 ∨ j = 1 ∨ j = 2 ∨ j = 3 ∨ j = 4 ∨ j = 5 ∨ j = 6 ∨ j = 7 ∨ j = 8 ∨ j = 9 ∨ j = 10 ∨ j = 11 ∨ j = 12 ∨ j = 13 := by omega
            rcases hj' with rfl | rfl | rfl | rfl | rfl | rfl | rfl | rfl | rfl | rfl | rfl | rfl | rfl | rfl <;> assumption
          obtain ⟨kb, rfl, hkb, hbk⟩ := hI.box d13 hl.1
          obtain rfl := hI.p38 d12
          obtain rfl := hI.p27 d1
          obtain ⟨A2, cap2, rfl⟩ := own_form (hI.m37 d11)
          have c40 : w'.cell? ⟨kb, 0, none⟩ = some (.slice none 0 0) := blk_cell hbk 0
          have c41 : w'.cell? ⟨kb, 1, none⟩ = some (.slice none 0 0) := blk_cell hbk 1
          have f40 := blk_frozen hbk 0
          have f41 := blk_frozen hbk 1
          go_simp
          refine hK.out _ _ ⟨_, _, _, _, _, _, _, _, _, _, _, _, _, _, rfl, ?_⟩
          rw [ld_set _ _ hl.2]
          exact hI.s14 hl.1 ha rfl
      case done =>
        intro listed a w' hs hI hr
        obtain ⟨s8, s26, s27, s28, s29, s30, s31, s32, s33, s34, s35, s36, s37, s38, rfl, hI⟩ := hI
        have r0 := ready_next hs hr 0 (by simp)
        have r1 := ready_next hs hr 1 (by simp only [List.getElem?_toArray, List.getElem?_cons_zero, List.getElem?_cons_succ, Option.map_some, Region.binds, Bool.not_true, Bool.false_or, List.all_toArray, List.all_cons, List.all_nil, Bool.and_self, r0])
        have r2 := ready_next hs hr 2 (by simp)
        have r3 := ready_next hs hr 3 (by simp)
        have r4 := ready_next hs hr 4 (by simp only [List.getElem?_toArray, List.getElem?_cons_zero, List.getElem?_cons_succ, Option.map_some, Region.binds, Bool.not_true, Bool.false_or, List.all_toArray, List.all_cons, List.all_nil, Bool.and_self, r3])
        have r5 := ready_next hs hr 5 (by simp only [List.getElem?_toArray, List.getElem?_cons_zero, List.getElem?_cons_succ, Option.map_some, Region.binds, Bool.not_true, Bool.false_or, List.all_toArray, List.all_cons, List.all_nil, Bool.and_self, r2, r4])
        have r6 := ready_next hs hr 6 (by simp)
        have r7 := ready_next hs hr 7 (by simp only [List.getElem?_toArray, List.getElem?_cons_zero, List.getElem?_cons_succ, Option.map_some, Region.binds, Bool.not_true, Bool.false_or, List.all_toArray, List.all_cons, List.all_nil, Bool.and_self, r6])
        have r8 := ready_next hs hr 8 (by simp only [List.getElem?_toArray, List.getElem?_cons_zero, List.getElem?_cons_succ, Option.map_some, Region.binds, Bool.not_true, Bool.false_or, List.all_toArray, List.all_cons, List.all_nil, Bool.and_self, r7])
        have r9 := ready_next hs hr 9 (by simp only [List.getElem?_toArray, List.getElem?_cons_zero, List.getElem?_cons_succ, Option.map_some, Region.binds, Bool.not_true, Bool.false_or, List.all_toArray, List.all_cons, List.all_nil, Bool.and_self, r8])
        have r10 := ready_next hs hr 10 (by simp only [List.getElem?_toArray, List.getElem?_cons_zero, List.getElem?_cons_succ, Option.map_some, Region.binds, Bool.not_true, Bool.false_or, List.all_toArray, List.all_cons, List.all_nil, Bool.and_self, r9])
        have r11 := ready_next hs hr 11 (by simp only [List.getElem?_toArray, List.getElem?_cons_zero, List.getElem?_cons_succ, Option.map_some, Region.binds, Bool.not_true, Bool.false_or, List.all_toArray, List.all_cons, List.all_nil, Bool.and_self, r5, r10])
        have r12 := ready_next hs hr 12 (by simp only [List.getElem?_toArray, List.getElem?_cons_zero, List.getElem?_cons_succ, Option.map_some, Region.binds, Bool.not_true, Bool.false_or, List.all_toArray, List.all_cons, List.all_nil, Bool.and_self, r1, r11])
        have r13 := ready_next hs hr 13 (by simp)
        have r14 := ready_next hs hr 14 (by simp only [List.getElem?_toArray, List.getElem?_cons_zero, List.getElem?_cons_succ, Option.map_some, Region.binds, Bool.not_true, Bool.false_or, List.all_toArray, List.all_cons, List.all_nil, Bool.and_self, r13, r12, r11, r0, r1, r2, r3, r4, r5, r6, r7, r8, r9, r10])
        obtain ⟨kb, kE, A2, cap2, rfl, rfl, hE1, hE2, hF3⟩ := hI.fin r14
        clear hs hr hI r0 r1 r2 r3 r4 r5 r6 r7 r8 r9 r10 r11 r12 r13 r14
        go_wp2_with fail
        go_meet
        exact ⟨_, _, _, _, rfl, hE1, hE2, hF3⟩
    case rest =>
      obtain ⟨kb, kE, A2, cap2, rfl, hE1, hE2, hk0, hk1, ck0, ck1, own, hne, hbw⟩ := hcut
      have hszr := hbw.size
      have hmI : I64 (m : Int) := by unfold I64; omega
      have hev : EV wc.heap.size wc (.slice (some ⟨kE, 0, none⟩) 1 1) (.cons 1 (m : Int) noz .nil .nil) :=
        ⟨some ⟨kE, 0, none⟩, 1, rfl, Nat.le_refl _, by decide, fun _ => ⟨kE, 0, rfl, blk_lt hE2, (blk_cell hE2 0).trans rfl, (blk_cell hE2 1).trans rfl, (blk_cell hE2 2).trans rfl, ⟨_, (blk_cell hE2 3).trans rfl, ev_nil _ _⟩, ⟨i64_lit rfl, hmI, by decide⟩, trivial⟩⟩
      have hpc : (prn m).Cells wc.heap.size wc (aSt (.slice (some ⟨kE, 0, none⟩) 1 1)) :=
        ⟨_, _, _, [], rfl, hev, sv_nil _ _, sv_nil _ _, ⟨i64_lit rfl, i64_lit rfl, by decide⟩, rfl⟩
      have hml : (addPg p m).m.len = nm + 1 := by
        show (p.m.app (prn m)).len = _
        rw [SS.app_len, HNM.out]
        rfl
      have hq : PgV wc.heap.size wc (.agg #[.slice A nf cap, .slice A2 (nm + 1) cap2]) (addPg p m) := by
        refine ⟨A, cap, A2, cap2, ?_, ?_, ?_⟩
        · rw [hml, show (addPg p m).fs = p.fs from rfl, HNF.out]
        · rw [show (addPg p m).fs = p.fs from rfl, HNF.out]; exact HF4.out.below hbw hszr
        · rw [hml]; exact own_sv own (SS.Cells.app hpc (HCS.out.below hbw hszr)) hml.symm
      have hTr := HT1.out.step (H4.out.trans (hbw.mono H4.out.size))
      have hcb : cntL (addPg p m).pts ≤ 10000000 := by
        have := HC2.out
        rw [add_cnt]
        omega
      have HCD : Hid (Calls Tryd.prog 5 #[.agg #[.slice A nf cap, .slice A2 (nm + 1) cap2]] wc fun e w' => ∃ g o c, e = .returned (.tuple #[.agg #[.slice (some ⟨g, o, none⟩) N c], .int .i64 0]) ∧ N ≤ c ∧ c ≤ 9223372036854775807 ∧ g < w'.heap.size ∧ FcIn w'.heap.size w' (cFns (addPg p m)) g o ∧ Below wc.heap.size wc w') := hid (by
        refine (compile_any _ (addPg p m) wc hq hTr hcb).mono ?_
        rintro e w' ⟨vf, rfl, hf, hb⟩
        have heb := add_err m hm2 HE.out
        unfold cmpP at hf
        rw [if_pos heb] at hf
        obtain ⟨A3, c, rfl, k1, k2, k3⟩ := hf
        have hlen : (cFns (addPg p m)).length = N := by unfold cFns; rw [List.length_map, List.length_cons, show (addPg p m).fs = p.fs from rfl, HN.out]
        have h0N : 0 < N := by have := HN.out; omega
        rw [hlen] at k1 k3 ⊢
        obtain ⟨g, o, rfl, hg, hin⟩ := k3 h0N
        exact ⟨g, o, c, by rw [heb], k1, k2, hg, hin, hb⟩)
      have HBW := Lib.hid hbw
      have HTR := Lib.hid hTr
      have HWC := Lib.hid (HBB.out)
      have e5 := (hbw.cell (p := ⟨nc, 0, none⟩) (by simp only; have := HBB.out; omega)).trans HE4.out
      have HE5 := Lib.hid e5
      clear hmI hev hpc hml hq hTr hcb own hne hbw hE1 hE2 hk0 e4 u0 u1 hcM fM4 lm hnM CNM HX o1M hi hz0 hz1 hz2
      go_upto_region 8 with (go_at_call 5; ((with_reducible refine HCD.out.mono ?_); rintro e w6 ⟨g2, o2, c2, rfl, p1, p2, p3, p4, p5⟩))
      obtain ⟨w7, hw7⟩ : ∃ w7, w6.alloc (cdO (.slice (some ⟨g2, o2, none⟩) N c2)) = w7 := ⟨_, rfl⟩
      have hb67 : Below w6.heap.size w6 w7 := by rw [← hw7]; exact (Below.refl _ _).alloc (Nat.le_refl _) _
      have hbx7 : w7.heap[w6.heap.size]? = some (cdO (.slice (some ⟨g2, o2, none⟩) N c2)) := by rw [← hw7]; exact heap_alloc_new _ _
      have hbr7 : Below wc.heap.size wc w7 := p5.trans (hb67.mono p5.size)
      obtain ⟨nd, hnd⟩ : ∃ nd, w6.heap.size = nd := ⟨_, rfl⟩
      rw [hw7]
      rw [hnd] at hbx7 ⊢
      have s67 := hb67.size
      have sr6 := p5.size
      have sB := HBB.out
      have lnc7 : nc < w7.heap.size := by omega
      have lg7 : g < w7.heap.size := by omega
      have lg27 : g2 < w7.heap.size := by omega
      have m0 : w7.cell? ⟨nc, 0, none⟩ = some (.slice (some ⟨g, o, none⟩) N c) := (hbr7.cell (p := ⟨nc, 0, none⟩) (by simp only; omega)).trans HE5.out
      have m1 : w7.cell? ⟨nd, 0, none⟩ = some (.slice (some ⟨g2, o2, none⟩) N c2) := (blk_cell hbx7 0).trans rfl
      have lnd := blk_lt hbx7
      have hP7 : FcIn w7.heap.size w7 (cFns p) g o := FcIn.below (HBW.out.trans (hbr7.mono hszr)) (by omega) (by omega) HQ.out
      have hQ7 : FcIn w7.heap.size w7 (cFns (addPg p m)) g2 o2 := FcIn.below hb67 s67 p3 p4
      have hT7 := HTR.out.step hbr7
      obtain ⟨sp, C, ec1, ec2⟩ := add_cmp p m
      have hCl : C.length ≤ 9000000 := by
        have e0 : fcP p (mainF p) = ⟨sp.s, sp.n, sp.vs.length, sp.xs.length, C ++ [(1, 0, 0), (18, 0, 0)]⟩ := by
          have := ec1
          unfold cFns at this
          rw [List.map_cons] at this
          exact (List.cons.inj this).1
        have e1 : fnL (spFn (arF p.fs) (mainF p)) (plOf (scopes p)) p.m = C ++ [(1, 0, 0), (18, 0, 0)] := congrArg Fc.L e0
        have h2 := HC2.out
        rw [Pg.pts, cntL_append, SS.cntL] at h2
        have h1 := fnL_small (spFn (arF p.fs) (mainF p)) (plOf (scopes p)) p.m
        rw [e1, List.length_append] at h1
        omega
      obtain ⟨_, _, _, _, v4, b4, hv4⟩ := FcIn.at_ hP7 (show (cFns p)[0]? = some ⟨sp.s, sp.n, sp.vs.length, sp.xs.length, C ++ [(1, 0, 0), (18, 0, 0)]⟩ by rw [ec1]; rfl)
      obtain ⟨_, _, _, _, v5, b5, hv5⟩ := FcIn.at_ hQ7 (show (cFns (addPg p m))[0]? = some ⟨sp.s, sp.n, sp.vs.length, sp.xs.length, C ++ [(1, 0, (m : Int)), (19, 0, 0), (1, 0, 0), (18, 0, 0)]⟩ by rw [ec2]; rfl)
      obtain ⟨A4, c4, rfl, f4, f4', f4q⟩ := id hv4
      obtain ⟨A5, c5, rfl, f5, f5', f5q⟩ := id hv5
      obtain ⟨x4, q4, rfl, lx4', hin4⟩ := f4q (by simp)
      obtain ⟨x5, q5, rfl, lx5', hin5⟩ := f5q (by simp)
      obtain ⟨j00, j01, j02, -, j10, j11, j12, -, j20, j21, j22, -, j30, j31, j32, -, -⟩ := InsIn.right hin5
      obtain ⟨T, hT⟩ : ∃ T : ByteArray, (⟨(textT 0 C).toArray⟩ : ByteArray) = T := ⟨_, rfl⟩
      have X4 := fun W hb => text_take (W := W) hT7 hb hv4 (by simp) (by omega)
      have X5 := fun W hb => text_take (W := W) hT7 hb hv5 (by simp) (by omega)
      rw [List.length_append] at b4 b5 f4 f5
      obtain ⟨K, hK⟩ : ∃ K, C.length = K := ⟨_, rfl⟩
      obtain ⟨K1, hK1⟩ : ∃ K1, K + 1 = K1 := ⟨_, rfl⟩
      obtain ⟨K2, hK2⟩ : ∃ K2, K + 2 = K2 := ⟨_, rfl⟩
      obtain ⟨K3, hK3⟩ : ∃ K3, K + 3 = K3 := ⟨_, rfl⟩
      obtain ⟨LC, hLC⟩ : ∃ L, K + 2 = L := ⟨_, rfl⟩
      obtain ⟨LD, hLD⟩ : ∃ L, K + 4 = L := ⟨_, rfl⟩
      rw [hK, show List.length [((1 : Int), (0 : Int), (0 : Int)), (18, 0, 0)] = 2 from rfl, hLC] at b4 f4
      rw [hK, show List.length [((1 : Int), (0 : Int), (m : Int)), (19, 0, 0), (1, 0, 0), (18, 0, 0)] = 4 from rfl, hLD] at b5 f5
      rw [hT, hK] at X4 X5
      rw [hK] at j00 j01 j02 j10 j11 j12 j20 j21 j22 j30 j31 j32 hCl
      simp only [Nat.zero_mul, Nat.add_zero] at b4 b5
      rw [show q5 + K * 3 + 3 = q5 + K1 * 3 by omega] at j10 j11 j12 j20 j21 j22 j30 j31 j32
      rw [show q5 + K1 * 3 + 3 = q5 + K2 * 3 by omega] at j20 j21 j22 j30 j31 j32
      rw [show q5 + K2 * 3 + 3 = q5 + K3 * 3 by omega] at j30 j31 j32
      have lx5 : x5 < w7.heap.size := lx5'
      have K7 : ∀ W, Below w7.heap.size w7 W → W.cell? ⟨nc, 0, none⟩ = some (.slice (some ⟨g, o, none⟩) N c) ∧ W.cell? ⟨g, o + 4, none⟩ = some (.slice (some ⟨x4, q4, none⟩) LC c4) ∧ W.cell? ⟨x5, q5 + K * 3, none⟩ = some (.int .i64 1) ∧ W.cell? ⟨x5, q5 + K * 3 + 1, none⟩ = some (.int .i64 0) ∧ W.cell? ⟨x5, q5 + K * 3 + 2, none⟩ = some (.int .i64 (m : Int)) ∧ W.cell? ⟨x5, q5 + K1 * 3, none⟩ = some (.int .i64 19) ∧ W.cell? ⟨x5, q5 + K1 * 3 + 1, none⟩ = some (.int .i64 0) ∧ W.cell? ⟨x5, q5 + K1 * 3 + 2, none⟩ = some (.int .i64 0) ∧ W.cell? ⟨x5, q5 + K2 * 3, none⟩ = some (.int .i64 1) ∧ W.cell? ⟨x5, q5 + K2 * 3 + 1, none⟩ = some (.int .i64 0) ∧ W.cell? ⟨x5, q5 + K2 * 3 + 2, none⟩ = some (.int .i64 0) ∧ W.cell? ⟨x5, q5 + K3 * 3, none⟩ = some (.int .i64 18) ∧ W.cell? ⟨x5, q5 + K3 * 3 + 1, none⟩ = some (.int .i64 0) ∧ W.cell? ⟨x5, q5 + K3 * 3 + 2, none⟩ = some (.int .i64 0) ∧ Below w7.heap.size w7 W := fun W hb => ⟨(hb.cell (p := ⟨nc, 0, none⟩) lnc7).trans m0, (hb.cell (p := ⟨g, o + 4, none⟩) lg7).trans b4, (hb.cell (p := ⟨x5, q5 + K * 3, none⟩) lx5).trans j00, (hb.cell (p := ⟨x5, q5 + K * 3 + 1, none⟩) lx5).trans j01, (hb.cell (p := ⟨x5, q5 + K * 3 + 2, none⟩) lx5).trans j02, (hb.cell (p := ⟨x5, q5 + K1 * 3, none⟩) lx5).trans j10, (hb.cell (p := ⟨x5, q5 + K1 * 3 + 1, none⟩) lx5).trans j11, (hb.cell (p := ⟨x5, q5 + K1 * 3 + 2, none⟩) lx5).trans j12, (hb.cell (p := ⟨x5, q5 + K2 * 3, none⟩) lx5).trans j20, (hb.cell (p := ⟨x5, q5 + K2 * 3 + 1, none⟩) lx5).trans j21, (hb.cell (p := ⟨x5, q5 + K2 * 3 + 2, none⟩) lx5).trans j22, (hb.cell (p := ⟨x5, q5 + K3 * 3, none⟩) lx5).trans j30, (hb.cell (p := ⟨x5, q5 + K3 * 3 + 1, none⟩) lx5).trans j31, (hb.cell (p := ⟨x5, q5 + K3 * 3 + 2, none⟩) lx5).trans j32, hb⟩
      have HX4 : Hid (∀ W, Below w7.heap.size w7 W → Calls Tryd.prog 6 #[.slice (some ⟨x4, q4, none⟩) K c4] W fun e w' => e = .returned (.string T) ∧ w'.cell? ⟨nc, 0, none⟩ = some (.slice (some ⟨g, o, none⟩) N c) ∧ w'.cell? ⟨g, o + 4, none⟩ = some (.slice (some ⟨x4, q4, none⟩) LC c4) ∧ w'.cell? ⟨x5, q5 + K * 3, none⟩ = some (.int .i64 1) ∧ w'.cell? ⟨x5, q5 + K * 3 + 1, none⟩ = some (.int .i64 0) ∧ w'.cell? ⟨x5, q5 + K * 3 + 2, none⟩ = some (.int .i64 (m : Int)) ∧ w'.cell? ⟨x5, q5 + K1 * 3, none⟩ = some (.int .i64 19) ∧ w'.cell? ⟨x5, q5 + K1 * 3 + 1, none⟩ = some (.int .i64 0) ∧ w'.cell? ⟨x5, q5 + K1 * 3 + 2, none⟩ = some (.int .i64 0) ∧ w'.cell? ⟨x5, q5 + K2 * 3, none⟩ = some (.int .i64 1) ∧ w'.cell? ⟨x5, q5 + K2 * 3 + 1, none⟩ = some (.int .i64 0) ∧ w'.cell? ⟨x5, q5 + K2 * 3 + 2, none⟩ = some (.int .i64 0) ∧ w'.cell? ⟨x5, q5 + K3 * 3, none⟩ = some (.int .i64 18) ∧ w'.cell? ⟨x5, q5 + K3 * 3 + 1, none⟩ = some (.int .i64 0) ∧ w'.cell? ⟨x5, q5 + K3 * 3 + 2, none⟩ = some (.int .i64 0) ∧ Below w7.heap.size w7 w') := hid fun W hb => (X4 W hb).mono fun e w' h => ⟨h.1, K7 w' h.2⟩
      have HX5 : Hid (∀ W, Below w7.heap.size w7 W → Calls Tryd.prog 6 #[.slice (some ⟨x5, q5, none⟩) K c5] W fun e w' => e = .returned (.string T) ∧ w'.cell? ⟨nc, 0, none⟩ = some (.slice (some ⟨g, o, none⟩) N c) ∧ w'.cell? ⟨g, o + 4, none⟩ = some (.slice (some ⟨x4, q4, none⟩) LC c4) ∧ w'.cell? ⟨x5, q5 + K * 3, none⟩ = some (.int .i64 1) ∧ w'.cell? ⟨x5, q5 + K * 3 + 1, none⟩ = some (.int .i64 0) ∧ w'.cell? ⟨x5, q5 + K * 3 + 2, none⟩ = some (.int .i64 (m : Int)) ∧ w'.cell? ⟨x5, q5 + K1 * 3, none⟩ = some (.int .i64 19) ∧ w'.cell? ⟨x5, q5 + K1 * 3 + 1, none⟩ = some (.int .i64 0) ∧ w'.cell? ⟨x5, q5 + K1 * 3 + 2, none⟩ = some (.int .i64 0) ∧ w'.cell? ⟨x5, q5 + K2 * 3, none⟩ = some (.int .i64 1) ∧ w'.cell? ⟨x5, q5 + K2 * 3 + 1, none⟩ = some (.int .i64 0) ∧ w'.cell? ⟨x5, q5 + K2 * 3 + 2, none⟩ = some (.int .i64 0) ∧ w'.cell? ⟨x5, q5 + K3 * 3, none⟩ = some (.int .i64 18) ∧ w'.cell? ⟨x5, q5 + K3 * 3 + 1, none⟩ = some (.int .i64 0) ∧ w'.cell? ⟨x5, q5 + K3 * 3 + 2, none⟩ = some (.int .i64 0) ∧ Below w7.heap.size w7 w') := hid fun W hb => (X5 W hb).mono fun e w' h => ⟨h.1, K7 w' h.2⟩
      have HRW : Hid (∀ j, 1 ≤ j → j < N → ∃ (L : List In3) (A6 A8 : Option Addr) (c6 c8 : Nat), w7.cell? ⟨g, o + j * 5 + 4, none⟩ = some (.slice A6 L.length c6) ∧ w7.cell? ⟨g2, o2 + j * 5 + 4, none⟩ = some (.slice A8 L.length c8) ∧ InV w7.heap.size w7 (.slice A6 L.length c6) L ∧ InV w7.heap.size w7 (.slice A8 L.length c8) L ∧ 0 < L.length ∧ L.length ≤ 10000000) := hid fun j h1 h2 => by
        obtain ⟨j', rfl⟩ : ∃ j', j = j' + 1 := ⟨j - 1, by omega⟩
        exact add_row hP7 hQ7 HC2.out (by have := HN.out; omega)
      have HT7 := Lib.hid hT7
      have H7 := Lib.hid (HB1.out.trans ((H4.out.trans ((HBW.out.trans (hbr7.mono hszr)).mono H4.out.size)).mono HB1.out.size))
      have hNle : 1 ≤ N := by have := HN.out; omega
      have h0N : 0 < N := hNle
      have n1 : decide ((N : Int) < 1) = false := decide_eq_false (by omega)
      have n1' : decide (N < 1) = false := decide_eq_false (by omega)
      have n2 : decide ((LC : Int) < 2) = false := decide_eq_false (by omega)
      have n2' : decide (LC < 2) = false := decide_eq_false (by omega)
      have n3 : ((N : Int) != (N : Int)) = false := by simp
      have n4 : ((LD : Int) != (LD : Int)) = false := by simp
      have wLD : IntKind.i64.wrap ((LC : Int) + 2) = (LD : Int) := by rw [IntWalk.i64_in _ (by omega)]; omega
      have wK : IntKind.i64.wrap ((LC : Int) - 2) = (K : Int) := by rw [IntWalk.i64_in _ (by omega)]; omega
      have wK1 : IntKind.i64.wrap ((K : Int) + 1) = (K1 : Int) := by rw [IntWalk.i64_in _ (by omega)]; omega
      have wK2 : IntKind.i64.wrap ((K : Int) + 2) = (K2 : Int) := by rw [IntWalk.i64_in _ (by omega)]; omega
      have wK3 : IntKind.i64.wrap ((K : Int) + 3) = (K3 : Int) := by rw [IntWalk.i64_in _ (by omega)]; omega
      have kc4 : K ≤ c4 := by omega
      have kc5 : K ≤ c5 := by omega
      have kl0 : K < LD := by omega
      have kl1 : K1 < LD := by omega
      have kl2 : K2 < LD := by omega
      have kl3 : K3 < LD := by omega
      have l0LC : 0 < LC := by omega
      have HMM := Lib.hid (⟨m0, m1⟩ : _ ∧ _)
      have HK7 := Lib.hid K7
      clear X4 X5 K7 hv4 hv5 hT hP7 hQ7 hT7 hbr7 hb67 hw7 hnd p4 p5 e5 hin4 hin5 f4q f5q ec1 ec2 hK hK1 hK2 hK3 hLC hLD j00 j01 j02 j10 j11 j12 j20 j21 j22 j30 j31 j32 f4 f5
      go_quiet (fail)
      go_wp2
      have hTT : (T == T) = true := beq_self_eq_true T.data
      obtain ⟨y0, y1, y2, y3, y4, y5, y6, y7, y8, y9, y10, y11, y12, y13, y14⟩ := HK7.out (w7.drewN (nq + 1)) ⟨rfl, rfl, rfl, Nat.le_refl _, fun _ _ => rfl⟩
      clear n1 n1' n2 n2' n3 n4 wLD wK m0 m1 b5
      go_region_held3 (fun W => W.cell? ⟨nc, 0, none⟩ = some (.slice (some ⟨g, o, none⟩) N c) ∧ W.cell? ⟨g, o + 4, none⟩ = some (.slice (some ⟨x4, q4, none⟩) LC c4) ∧ W.cell? ⟨x5, q5 + K * 3, none⟩ = some (.int .i64 1) ∧ W.cell? ⟨x5, q5 + K * 3 + 1, none⟩ = some (.int .i64 0) ∧ W.cell? ⟨x5, q5 + K * 3 + 2, none⟩ = some (.int .i64 (m : Int)) ∧ W.cell? ⟨x5, q5 + K1 * 3, none⟩ = some (.int .i64 19) ∧ W.cell? ⟨x5, q5 + K1 * 3 + 1, none⟩ = some (.int .i64 0) ∧ W.cell? ⟨x5, q5 + K1 * 3 + 2, none⟩ = some (.int .i64 0) ∧ W.cell? ⟨x5, q5 + K2 * 3, none⟩ = some (.int .i64 1) ∧ W.cell? ⟨x5, q5 + K2 * 3 + 1, none⟩ = some (.int .i64 0) ∧ W.cell? ⟨x5, q5 + K2 * 3 + 2, none⟩ = some (.int .i64 0) ∧ W.cell? ⟨x5, q5 + K3 * 3, none⟩ = some (.int .i64 18) ∧ W.cell? ⟨x5, q5 + K3 * 3 + 1, none⟩ = some (.int .i64 0) ∧ W.cell? ⟨x5, q5 + K3 * 3 + 2, none⟩ = some (.int .i64 0) ∧ Below w7.heap.size w7 W)
        (first | exact ⟨y0, y1, y2, y3, y4, y5, y6, y7, y8, y9, y10, y11, y12, y13, y14⟩ | go_keep)
        (first
          | (go_at_call 6; (with_reducible refine (HX5.out _ (by assumption)).mono ?_); rintro e w8 ⟨rfl, y0, y1, y2, y3, y4, y5, y6, y7, y8, y9, y10, y11, y12, y13, y14⟩)
          | (go_at_call 6; (with_reducible refine (HX4.out _ (by assumption)).mono ?_); rintro e w8 ⟨rfl, y0, y1, y2, y3, y4, y5, y6, y7, y8, y9, y10, y11, y12, y13, y14⟩))
      go_wp2
      go_loopw [13, 14] (fun sm i wr => ∃ j : Nat, sm = .bool true ∧ i = .int .i64 j ∧ 1 ≤ j ∧ j ≤ N ∧ Below w7.heap.size w7 wr) (fun _ i _ => N - (RowKit.intOf i).toNat)
      case atStart => exact ⟨1, rfl, rfl, Nat.le_refl _, hNle, y14⟩
      case round =>
        obtain ⟨j, rfl, rfl, hj1, hj2, hbw⟩ := hrel
        obtain ⟨M0, M1⟩ := HMM.out
        clear y0 y1 y2 y3 y4 y5 y6 y7 y8 y9 y10 y11 y12 y13 y14
        by_cases hjn : j < N
        · have hlt : decide ((j : Int) < (N : Int)) = true := by simp; omega
          obtain ⟨L, A6, A8, c6, c8, r6, r8, i6, i8, hL0, hL1⟩ := HRW.out j hj1 hjn
          obtain ⟨T2, hT2⟩ : ∃ T : ByteArray, (⟨(textT 0 L).toArray⟩ : ByteArray) = T := ⟨_, rfl⟩
          have Z6 := fun W hb => text_at (W := W) HT7.out hb i6 hL0 hL1 hT2
          have Z8 := fun W hb => text_at (W := W) HT7.out hb i8 hL0 hL1 hT2
          obtain ⟨LL, hLL⟩ : ∃ n, L.length = n := ⟨_, rfl⟩
          rw [hLL] at r6 r8 Z6 Z8
          have K16 : ∀ W, Below w7.heap.size w7 W → W.cell? ⟨nc, 0, none⟩ = some (.slice (some ⟨g, o, none⟩) N c) ∧ W.cell? ⟨nd, 0, none⟩ = some (.slice (some ⟨g2, o2, none⟩) N c2) ∧ W.cell? ⟨g, o + j * 5 + 4, none⟩ = some (.slice A6 LL c6) ∧ W.cell? ⟨g2, o2 + j * 5 + 4, none⟩ = some (.slice A8 LL c8) ∧ Below w7.heap.size w7 W := fun W hb =>
            ⟨(hb.cell (p := ⟨nc, 0, none⟩) lnc7).trans M0, (hb.cell (p := ⟨nd, 0, none⟩) lnd).trans M1, (hb.cell (p := ⟨g, o + j * 5 + 4, none⟩) lg7).trans r6, (hb.cell (p := ⟨g2, o2 + j * 5 + 4, none⟩) lg27).trans r8, hb⟩
          have HZ6 : Hid (∀ W, Below w7.heap.size w7 W → Calls Tryd.prog 6 #[.slice A6 LL c6] W fun e w' => e = .returned (.string T2) ∧ w'.cell? ⟨nc, 0, none⟩ = some (.slice (some ⟨g, o, none⟩) N c) ∧ w'.cell? ⟨nd, 0, none⟩ = some (.slice (some ⟨g2, o2, none⟩) N c2) ∧ w'.cell? ⟨g, o + j * 5 + 4, none⟩ = some (.slice A6 LL c6) ∧ w'.cell? ⟨g2, o2 + j * 5 + 4, none⟩ = some (.slice A8 LL c8) ∧ Below w7.heap.size w7 w') := hid fun W hb => (Z6 W hb).mono fun e w' h => ⟨h.1, K16 w' h.2⟩
          have HZ8 : Hid (∀ W, Below w7.heap.size w7 W → Calls Tryd.prog 6 #[.slice A8 LL c8] W fun e w' => e = .returned (.string T2) ∧ w'.cell? ⟨nc, 0, none⟩ = some (.slice (some ⟨g, o, none⟩) N c) ∧ w'.cell? ⟨nd, 0, none⟩ = some (.slice (some ⟨g2, o2, none⟩) N c2) ∧ w'.cell? ⟨g, o + j * 5 + 4, none⟩ = some (.slice A6 LL c6) ∧ w'.cell? ⟨g2, o2 + j * 5 + 4, none⟩ = some (.slice A8 LL c8) ∧ Below w7.heap.size w7 w') := hid fun W hb => (Z8 W hb).mono fun e w' h => ⟨h.1, K16 w' h.2⟩
          have hT2T : (T2 == T2) = true := beq_self_eq_true T2.data
          obtain ⟨v0, v1, -⟩ := K16 wr hbw
          obtain ⟨n0, n1, n2, n3, n4⟩ := K16 wr.drew (belowD hbw)
          clear M0 M1 r6 r8 i6 i8 hL0 hL1 hT2 Z6 Z8 hLL K16 hbw
          go_upto_region 16 with fail
          clear v0 v1
          go_region_held3 (fun W => W.cell? ⟨nc, 0, none⟩ = some (.slice (some ⟨g, o, none⟩) N c) ∧ W.cell? ⟨nd, 0, none⟩ = some (.slice (some ⟨g2, o2, none⟩) N c2) ∧ W.cell? ⟨g, o + j * 5 + 4, none⟩ = some (.slice A6 LL c6) ∧ W.cell? ⟨g2, o2 + j * 5 + 4, none⟩ = some (.slice A8 LL c8) ∧ Below w7.heap.size w7 W)
            (first | exact ⟨n0, n1, n2, n3, n4⟩ | go_keep)
            (first
              | (go_at_call 6; (with_reducible refine (HZ6.out _ (by assumption)).mono ?_); rintro e w9 ⟨rfl, n0, n1, n2, n3, n4⟩)
              | (go_at_call 6; (with_reducible refine (HZ8.out _ (by assumption)).mono ?_); rintro e w9 ⟨rfl, n0, n1, n2, n3, n4⟩))
          go_wp2
          go_roundw
          case rel => exact ⟨j + 1, rfl, by go_num, by omega, by omega, n4⟩
          case measure => simp [RowKit.intOf]; omega
        · have hlt : decide ((j : Int) < (N : Int)) = false := by simp; omega
          have v0 := (hbw.cell (p := ⟨nc, 0, none⟩) lnc7).trans M0
          have HBE := Lib.hid (H7.out.trans (hbw.mono H7.out.size))
          clear hbw
          go_wp2
          go_ret
          exact ⟨rfl, HBE.out⟩
  · have hne : (E != 0) = true := by simp [hE0]
    have HCM : Hid (∀ w2, Below W1.heap.size W1 w2 → Calls Tryd.prog 5 #[.agg #[.slice A nf cap, .slice A' nm cap']] w2 fun e w' => ∃ A3 l c, e = .returned (.tuple #[.agg #[.slice A3 l c], .int .i64 E]) ∧ Below w2.heap.size w2 w') := hid fun w2 h2 => by
      refine (compile_any _ p w2 (HV1.out.below h2 h2.size) (HT1.out.step h2) HC.out).mono ?_
      rintro e w' ⟨vf, rfl, hf, hb⟩
      obtain ⟨A3, c, rfl, _⟩ := hf
      exact ⟨_, _, _, by rw [HE.out], hb⟩
    clear hE0
    go_enter Tryd.func3, Tryd.ntmps3
    go_wp2_with (first
      | (go_at_call 4; ((with_reducible refine HS.out.mono ?_); rintro e w2 ⟨rfl, h2⟩; have y0 := (h2.cell (p := ⟨n, 0, none⟩) (by simp only; omega)).trans x0; have y1 := (h2.cell (p := ⟨n, 1, none⟩) (by simp only; omega)).trans x1; have HCC := Lib.hid (HCM.out w2 h2); have H2 := Lib.hid h2; clear h2))
      | (go_at_call 5; ((with_reducible refine HCC.out.mono ?_); rintro e w3 ⟨A3, l, c, rfl, q5⟩; have H3 := Lib.hid (HB1.out.trans ((H2.out.trans (q5.mono H2.out.size)).mono HB1.out.size)); clear q5)))
    go_ret
    exact ⟨rfl, H3.out.alloc H3.out.size _⟩
end Go.Proofs.YtnilklgnpfgieaaDoor
