/-
  TreeSame: the statement's function, walked.
-/
import Derived.Test.YtnjghoaelcpljaaDoorTreeIv
import Derived.Test.YtnjghoaelcpljaaDoorTreeS
import Derived.Test.YtnjghoaelcpljaaDoorTreeSw
import Derived.Deep.RegionHeld3
import Derived.Deep.DeepCutAuto
namespace Go.Proofs.YtnjghoaelcpljaaDoor
open Go Go.RowKit Go.Lib

set_option maxRecDepth 100000 in
set_option maxHeartbeats 1500000 in
theorem same_walk (p : Pg) (A : Option Addr) (cap : Nat) (X : Option Addr) (capx : Nat) (i k : Int) (w : World)
    (hvF : FV w.heap.size w (.slice A p.fs.length cap) p.fs) (hvM : SV w.heap.size w (.slice X p.m.len capx) p.m)
    (hA : A = none → cap = 0) (hX : X = none → capx = 0) (h64 : p.fs.length * 64 ≤ reachBytes) (h104 : p.m.len * 104 ≤ reachBytes) (ht : Tab w) :
    Calls Tryd.prog 10 #[.agg #[.slice A p.fs.length cap, .slice X p.m.len capx], .int .i64 i, .int .i64 k] w fun e w' => e = .returned (.bool true) ∧ Below w.heap.size w w' := by
  have h0 := Fr.refl w
  obtain ⟨i0, hi, hz0, hz1, hz2⟩ := info_parts stmtInfo
  obtain ⟨i1, hfi, hfz0, hfz1, hfz2⟩ := info_parts funcInfo
  have hW : ∀ C, Fr w (w.alloc C) := fun C => h0.alloc C
  have HW := Lib.hid hW; clear hW
  have HT := Lib.hid (fun W (hb : Fr w W) => ht.step hb)
  clear ht
  go_enter Tryd.func10, Tryd.ntmps10
  go_upto_region 2 with (go_at_call 11; ((with_reducible refine (shown_fr _ _ (HT.out _ (HW.out _)) (Fr.refl _)).mono ?_); rintro e w1 ⟨rfl, h1⟩))
  obtain ⟨g, hg⟩ : ∃ g, w.heap.size = g := ⟨_, rfl⟩
  have hz1' : g < w1.heap.size := by have := h1.size; simp at this; omega
  have b0 : w1.cell? ⟨g, 0, none⟩ = some (.slice A p.fs.length cap) := by
    rw [← hg]
    exact (h1.cell (p := ⟨w.heap.size, 0, none⟩) (show w.heap.size < _ by simp)).trans (cell_new w _ _ 0)
  have b1 : w1.cell? ⟨g, 1, none⟩ = some (.slice X p.m.len capx) := by
    rw [← hg]
    exact (h1.cell (p := ⟨w.heap.size, 1, none⟩) (show w.heap.size < _ by simp)).trans (cell_new w _ _ 1)
  have hF : Fr w w1 := (HW.out _).trans (Below.mono h1 (by simp))
  have hB : w.heap.size ≤ w1.heap.size := hF.size
  clear h1
  have CS : ∀ W, Below w1.heap.size w1 W → (W.cell? ⟨g, 0, none⟩ = some (.slice A p.fs.length cap) ∧ W.cell? ⟨g, 1, none⟩ = some (.slice X p.m.len capx) ∧ Below w1.heap.size w1 W) := by
    intro W hb
    exact ⟨(hb.cell (p := ⟨g, 0, none⟩) hz1').trans b0, (hb.cell (p := ⟨g, 1, none⟩) hz1').trans b1, hb⟩
  have hvF1 : FV w.heap.size w1 (.slice A p.fs.length cap) p.fs := FV.below hvF hF (Nat.le_refl _)
  have hvM1 : SV w.heap.size w1 (.slice X p.m.len capx) p.m := SV.below hvM hF (Nat.le_refl _)
  obtain ⟨_, csF, hcF, hqF⟩ := fv_news hvF1
  obtain ⟨_, csM, hcM, hqM⟩ := sv_news hvM1
  have hnF : csF.length = p.fs.length * 3 := hcF.len
  have hnM : csM.length = p.m.len * 6 := hcM.len
  have h1F := hcF.one
  have h1M := hcM.one
  have CNF : ∀ W, Below w1.heap.size w1 W → ∀ ad, A = some ad → ∀ j u, csF[j]? = some u → W.cell? (ad.add j) = some u := by
    intro W hb ad e j u hu
    have h := hqF ad e j u hu
    exact (hb.cell (p := ad.add j) (lt_of_cell h)).trans h
  have CNM : ∀ W, Below w1.heap.size w1 W → ∀ ad, X = some ad → ∀ j u, csM[j]? = some u → W.cell? (ad.add j) = some u := by
    intro W hb ad e j u hu
    have h := hqM ad e j u hu
    exact (hb.cell (p := ad.add j) (lt_of_cell h)).trans h
  clear hqF hqM
  have hLF : 0 + p.fs.length ≤ maxLen ∧ (0 + p.fs.length) * 64 ≤ 140737488355328 := by unfold reachBytes at h64; unfold maxLen; omega
  have hLM : 0 + p.m.len ≤ maxLen ∧ (0 + p.m.len) * 104 ≤ 140737488355328 := by unfold reachBytes at h104; unfold maxLen; omega
  have HA := Lib.hid hA
  have HX := Lib.hid hX
  clear hA hX
  simp only [hg]
  go_cut [8] (fun s8 wx => ∃ kb A2 cap2 A3 cap3, s8 = .pointer (some ⟨kb, 0, none⟩) ∧ Fin3 w1 wx kb 35 3 (.slice A3 p.fs.length cap3) p.fs.length csF 38 6 (.slice A2 p.m.len cap2) p.m.len csM)
  case first =>
    have CSh := Lib.hid CS
    have CNFh := Lib.hid CNF
    have CNMh := Lib.hid CNM
    clear CS CNF CNM hvF hvM hcF hcM HW HT h0 h64 h104 b0 b1
    refine wp_region_inv (fun listed a w' => ∃ s8 s12 s13 s14 s15 s16 s17 s18 s19 s20 : Value, a = { tmps := #[.agg #[.slice A p.fs.length cap, .slice X p.m.len capx], .int .i64 i, .int .i64 k, .pointer (some ⟨g, 0, none⟩), undef, undef, .bool false, .bool true, s8, undef, undef, .bool true, s12, s13, s14, s15, s16, s17, s18, s19, s20, undef, undef, undef, undef, undef, undef, undef, undef, undef, undef, undef, undef, undef, undef, undef, undef, undef, undef, undef, undef, undef, undef, undef, undef, undef, undef, undef, undef, undef, undef, undef, undef, undef, undef, undef, undef, undef, undef, undef, undef, undef, undef, undef, undef, undef, undef, undef, undef, undef, undef, undef, undef, undef, undef, undef, undef, undef, undef, undef, undef, undef, undef, undef, undef, undef, undef, undef, undef, undef, undef, undef, undef, undef, undef, undef, undef, undef, undef, undef, undef, undef, undef, undef, undef, undef, undef, undef, undef, undef, undef, undef, undef, undef, undef, undef, undef, undef, undef], defers := [] } ∧ Inv2 w1 g A p.fs.length cap csF X p.m.len capx csM (ld listed) s8 s12 s13 s14 s15 s16 s17 s18 s19 s20 w') (by kernel_rfl) ?start ?step ?done
    case start => exact ⟨_, _, _, _, _, _, _, _, _, _, rfl, Inv2.start (belowD (Below.refl _ _)) _⟩
    case step =>
      intro listed a w' hs hI i o ho hli hd K hK
      obtain ⟨s8, s12, s13, s14, s15, s16, s17, s18, s19, s20, rfl, hI⟩ := hI
      have hl := ld_false hli
      obtain ⟨q0, q1, _⟩ := CSh.out _ hI.below
      have hi11 : i < 11 := by have := (Array.getElem?_eq_some_iff.1 ho).1; simpa using this
      have hcase : i = 0 ∨ i = 1 ∨ i = 2 ∨ i = 3 ∨ i = 4 ∨ i = 5 ∨ i = 6 ∨ i = 7 ∨ i = 8 ∨ i = 9 ∨ i = 10 := by omega
      clear hi11 hli
      rcases hcase with rfl | rfl | rfl | rfl | rfl | rfl | rfl | rfl | rfl | rfl | rfl
      all_goals
        simp only [List.getElem?_toArray, List.getElem?_cons_zero, List.getElem?_cons_succ, Option.some.injEq] at ho
        subst ho
        simp only [Region.binds, Bool.not_true, Bool.false_or, List.all_toArray, List.all_cons, List.all_nil, Bool.and_true, Bool.and_eq_true] at hd
      · go_simp
        refine hK.out _ _ ⟨_, _, _, _, _, _, _, _, _, _, rfl, ?_⟩
        rw [ld_set _ _ hl.2]
        exact hI.s0 hl.1
      · go_simp
        refine hK.out _ _ ⟨_, _, _, _, _, _, _, _, _, _, rfl, ?_⟩
        rw [ld_set _ _ hl.2]
        exact hI.s1 hl.1
      · obtain rfl := hI.p13 hd
        go_simp
        refine hK.out _ _ ⟨_, _, _, _, _, _, _, _, _, _, rfl, ?_⟩
        rw [ld_set _ _ hl.2]
        exact hI.s2 hl.1
      · obtain rfl := hI.p14 hd.2
        have h8 : ld listed 8 = false := by
          cases h8 : ld listed 8 with
          | false => rfl
          | true => exact absurd (hI.dep8 h8).1 (by rw [hl.1]; decide)
        refine step_append_own rfl (.tmp 12) (.tmp 14) 22 rfl w1.heap.size 35 i1 _ 3 64 Tryd.underlying22 hfi hfz0 hfz1 hfz2 rfl (by decide) s12 0 [] rfl (hI.f0 hd.1 hl.1) A p.fs.length cap csF rfl (fun e => ⟨fv_nil0 hvF1 e, HA.out e⟩) hnF (CNFh.out _ hI.below) h1F hLF.1 hLF.2 hI.below.size ?_
        intro v w2 ho hg
        rw [Nat.zero_add, List.nil_append] at ho
        try simp only [Act.put, List.setIfInBounds_toArray, List.set_cons_zero, List.set_cons_succ]
        refine hK.out _ _ ⟨_, _, _, _, _, _, _, _, _, _, rfl, ?_⟩
        rw [ld_set _ _ hl.2]
        exact hI.s3 hl.1 hd.1 h8 ho hg
      · go_simp
        refine hK.out _ _ ⟨_, _, _, _, _, _, _, _, _, _, rfl, ?_⟩
        rw [ld_set _ _ hl.2]
        exact hI.s4 hl.1
      · go_simp
        refine hK.out _ _ ⟨_, _, _, _, _, _, _, _, _, _, rfl, ?_⟩
        rw [ld_set _ _ hl.2]
        exact hI.s5 hl.1
      · obtain rfl := hI.p17 hd
        go_simp
        refine hK.out _ _ ⟨_, _, _, _, _, _, _, _, _, _, rfl, ?_⟩
        rw [ld_set _ _ hl.2]
        exact hI.s6 hl.1
      · obtain rfl := hI.p18 hd.2.1
        have h8 : ld listed 8 = false := by
          cases h8 : ld listed 8 with
          | false => rfl
          | true => exact absurd (hI.dep8 h8).2 (by rw [hl.1]; decide)
        refine step_append_own rfl (.tmp 16) (.tmp 18) 23 rfl w1.heap.size 38 i0 _ 6 104 Tryd.underlying23 hi hz0 hz1 hz2 rfl (by decide) s16 0 [] rfl (hI.m0 hd.1 hl.1) X p.m.len capx csM rfl (fun e => ⟨sv_nil0 hvM1 e, HX.out e⟩) hnM (CNMh.out _ hI.below) h1M hLM.1 hLM.2 hI.below.size ?_
        intro v w2 ho hg
        rw [Nat.zero_add, List.nil_append] at ho
        try simp only [Act.put, List.setIfInBounds_toArray, List.set_cons_zero, List.set_cons_succ]
        refine hK.out _ _ ⟨_, _, _, _, _, _, _, _, _, _, rfl, ?_⟩
        rw [ld_set _ _ hl.2]
        exact hI.s7 hl.1 hd.1 h8 ho hg
      · obtain ⟨A3, cap3, rfl⟩ := own_form (hI.f1 hd.1)
        obtain ⟨A2, cap2, rfl⟩ := own_form (hI.m1 hd.2)
        go_simp
        refine hK.out _ _ ⟨_, _, _, _, _, _, _, _, _, _, rfl, ?_⟩
        rw [ld_set _ _ hl.2]
        exact hI.s8 hl.1 hd.1 hd.2
      · go_simp
        refine hK.out _ _ ⟨_, _, _, _, _, _, _, _, _, _, rfl, ?_⟩
        rw [ld_set _ _ hl.2]
        exact hI.s9 hl.1
      · obtain ⟨d9, d8, d7, d0, d1, d2, d3, d4, d5, d6, _⟩ := hd
        have ha : ∀ j, j < 10 → ld listed j = true := by
          intro j hj
          have hj' : j = 0 ∨ j = 1 ∨ j = 2 ∨ j = 3 ∨ j = 4 ∨ j = 5 ∨ j = 6 ∨ j = 7 ∨ j = 8 ∨ j = 9 := by omega
          rcases hj' with rfl | rfl | rfl | rfl | rfl | rfl | rfl | rfl | rfl | rfl <;> assumption
        obtain ⟨kb, rfl, hkb, hbk⟩ := hI.box d9 hl.1
        obtain rfl := hI.b20 d8
        obtain ⟨A3, cap3, rfl⟩ := own_form (hI.f1 d3)
        obtain ⟨A2, cap2, rfl⟩ := own_form (hI.m1 d7)
        have c40 : w'.cell? ⟨kb, 0, none⟩ = some (.slice none 0 0) := blk_cell hbk 0
        have c41 : w'.cell? ⟨kb, 1, none⟩ = some (.slice none 0 0) := blk_cell hbk 1
        have f40 := blk_frozen hbk 0
        have f41 := blk_frozen hbk 1
        go_simp
        refine hK.out _ _ ⟨_, _, _, _, _, _, _, _, _, _, rfl, ?_⟩
        rw [ld_set _ _ hl.2]
        exact hI.s10 hl.1 ha rfl
    case done =>
      intro listed a w' hs hI hr
      obtain ⟨s8, s12, s13, s14, s15, s16, s17, s18, s19, s20, rfl, hI⟩ := hI
      have r0 := ready_next hs hr 0 (by simp)
      have r1 := ready_next hs hr 1 (by simp)
      have r2 := ready_next hs hr 2 (by simp only [List.getElem?_toArray, List.getElem?_cons_zero, List.getElem?_cons_succ, Option.map_some, Region.binds, Bool.not_true, Bool.false_or, List.all_toArray, List.all_cons, List.all_nil, Bool.and_self, r1])
      have r3 := ready_next hs hr 3 (by simp only [List.getElem?_toArray, List.getElem?_cons_zero, List.getElem?_cons_succ, Option.map_some, Region.binds, Bool.not_true, Bool.false_or, List.all_toArray, List.all_cons, List.all_nil, Bool.and_self, r0, r2])
      have r4 := ready_next hs hr 4 (by simp)
      have r5 := ready_next hs hr 5 (by simp)
      have r6 := ready_next hs hr 6 (by simp only [List.getElem?_toArray, List.getElem?_cons_zero, List.getElem?_cons_succ, Option.map_some, Region.binds, Bool.not_true, Bool.false_or, List.all_toArray, List.all_cons, List.all_nil, Bool.and_self, r5])
      have r7 := ready_next hs hr 7 (by simp only [List.getElem?_toArray, List.getElem?_cons_zero, List.getElem?_cons_succ, Option.map_some, Region.binds, Bool.not_true, Bool.false_or, List.all_toArray, List.all_cons, List.all_nil, Bool.and_self, r4, r6, r3])
      have r8 := ready_next hs hr 8 (by simp only [List.getElem?_toArray, List.getElem?_cons_zero, List.getElem?_cons_succ, Option.map_some, Region.binds, Bool.not_true, Bool.false_or, List.all_toArray, List.all_cons, List.all_nil, Bool.and_self, r3, r7])
      have r9 := ready_next hs hr 9 (by simp)
      have r10 := ready_next hs hr 10 (by simp only [List.getElem?_toArray, List.getElem?_cons_zero, List.getElem?_cons_succ, Option.map_some, Region.binds, Bool.not_true, Bool.false_or, List.all_toArray, List.all_cons, List.all_nil, Bool.and_self, r0, r1, r2, r3, r4, r5, r6, r7, r8, r9])
      obtain ⟨kb, A2, cap2, A3, cap3, rfl, hF3⟩ := hI.fin r10
      clear hs hr hI r0 r1 r2 r3 r4 r5 r6 r7 r8 r9 r10
      go_wp2_with fail
      go_meet
      exact ⟨_, _, _, _, _, rfl, hF3⟩
  case rest =>
  obtain ⟨kb, A2, cap2, A3, cap3, rfl, hk0, hk1, ck0, ck1, ownF, ownM, hneF, hneM, hbw⟩ := hcut
  have hFw : Fr w wc := hF.trans (hbw.mono hB)
  have hpf : FV wc.heap.size wc (.slice A3 p.fs.length cap3) p.fs := own_fv ownF (fsCells.below (hbw.mono hB) hFw.size hcF) rfl
  have hpm : SV wc.heap.size wc (.slice A2 p.m.len cap2) p.m := own_sv ownM (SS.Cells.below (hbw.mono hB) hFw.size hcM) rfl
  have hq : PgV wc.heap.size wc (.agg #[.slice A3 p.fs.length cap3, .slice A2 p.m.len cap2]) p := ⟨A3, cap3, A2, cap2, rfl, hpf, hpm⟩
  have hp : PgV wc.heap.size wc (.agg #[.slice A p.fs.length cap, .slice X p.m.len capx]) p := ⟨A, cap, X, capx, rfl, FV.below hvF hFw hFw.size, SV.below hvM hFw hFw.size⟩
  obtain ⟨z0, z1, _⟩ := CS wc hbw
  have hgw : g < wc.heap.size := by have := hbw.size; omega
  have CS3 : ∀ W, Below wc.heap.size wc W → (W.cell? ⟨g, 0, none⟩ = some (.slice A p.fs.length cap) ∧ W.cell? ⟨g, 1, none⟩ = some (.slice X p.m.len capx) ∧ W.cell? ⟨kb, 0, none⟩ = some (.slice A3 p.fs.length cap3) ∧ W.cell? ⟨kb, 1, none⟩ = some (.slice A2 p.m.len cap2) ∧ Below wc.heap.size wc W) := by
    intro W hb
    exact ⟨(hb.cell (p := ⟨g, 0, none⟩) hgw).trans z0, (hb.cell (p := ⟨g, 1, none⟩) hgw).trans z1, (hb.cell (p := ⟨kb, 0, none⟩) hk1).trans ck0, (hb.cell (p := ⟨kb, 1, none⟩) hk1).trans ck1, hb⟩
  have K : ∀ {f : FuncId} {args : Array Value} {r : Value}, (∀ W, Below wc.heap.size wc W → Calls Tryd.prog f args W fun e w' => e = .returned r ∧ Below W.heap.size W w') → ∀ W, Below wc.heap.size wc W → Calls Tryd.prog f args W fun e w' => e = .returned r ∧ w'.cell? ⟨g, 0, none⟩ = some (.slice A p.fs.length cap) ∧ w'.cell? ⟨g, 1, none⟩ = some (.slice X p.m.len capx) ∧ w'.cell? ⟨kb, 0, none⟩ = some (.slice A3 p.fs.length cap3) ∧ w'.cell? ⟨kb, 1, none⟩ = some (.slice A2 p.m.len cap2) ∧ Below wc.heap.size wc w' :=
    fun h W hb => (h W hb).mono fun e w' ⟨he, hb'⟩ => ⟨he, CS3 w' (hb.trans (hb'.mono hb.size))⟩
  have GP := fun W (hb : Below wc.heap.size wc W) => hp.below hb hb.size
  have GQ := fun W (hb : Below wc.heap.size wc W) => hq.below hb hb.size
  have HE := K fun W hb => equal_any _ _ p p W _ (Nat.le_refl _) (GP W hb) (GQ W hb)
  rw [show eqG p p = true from (eqG_iff _ _).2 rfl] at HE
  have HRp := K fun W hb => right_any _ p W _ (Nat.le_refl _) (GP W hb) (HT.out W (hFw.trans (hb.mono hFw.size)))
  have HRq := K fun W hb => right_any _ p W _ (Nat.le_refl _) (GQ W hb) (HT.out W (hFw.trans (hb.mono hFw.size)))
  have HDp := K fun W hb => depth_any _ p W _ (Nat.le_refl _) (GP W hb)
  have HDq := K fun W hb => depth_any _ p W _ (Nat.le_refl _) (GQ W hb)
  have HSp := K fun W hb => size_any _ p W _ (Nat.le_refl _) (GP W hb)
  have HSq := K fun W hb => size_any _ p W _ (Nat.le_refl _) (GQ W hb)
  obtain ⟨rn, hrn⟩ : ∃ rn, rightN p = rn := ⟨_, rfl⟩
  obtain ⟨dn, hdn⟩ : ∃ dn, deepL p.pts = dn := ⟨_, rfl⟩
  obtain ⟨sn, hsn⟩ : ∃ sn, wrap64 (cntL p.pts) = sn := ⟨_, rfl⟩
  rw [hrn] at HRp HRq
  rw [hdn] at HDp HDq
  rw [hsn] at HSp HSq
  have HDN := Lib.hid hdn
  have HSN := Lib.hid hsn
  have CS3h := Lib.hid CS3
  have CSh := Lib.hid CS
  have CNFh := Lib.hid CNF
  have CNMh := Lib.hid CNM
  clear hrn hdn hsn K GP GQ CS3 CS CNF CNM
  have ZD : Below wc.heap.size wc wc.drew := belowD (Below.refl _ _)
  go_upto_region 3 with fail
  go_region_held3 (fun W => W.cell? ⟨g, 0, none⟩ = some (.slice A p.fs.length cap) ∧ W.cell? ⟨g, 1, none⟩ = some (.slice X p.m.len capx) ∧ W.cell? ⟨kb, 0, none⟩ = some (.slice A3 p.fs.length cap3) ∧ W.cell? ⟨kb, 1, none⟩ = some (.slice A2 p.m.len cap2) ∧ Below wc.heap.size wc W)
    (first | exact CS3h.out _ (by assumption) | exact ⟨v0, v1, v2, v3, v4⟩ | go_keep)
    (first
        | (go_at_call 18; with_reducible refine (HE _ (by assumption)).mono ?_; rintro e w2 ⟨rfl, v0, v1, v2, v3, v4⟩)
        | (go_at_call 12; with_reducible refine (HRp _ (by assumption)).mono ?_; rintro e w2 ⟨rfl, v0, v1, v2, v3, v4⟩)
        | (go_at_call 12; with_reducible refine (HRq _ (by assumption)).mono ?_; rintro e w2 ⟨rfl, v0, v1, v2, v3, v4⟩)
        | (go_at_call 14; with_reducible refine (HDp _ (by assumption)).mono ?_; rintro e w2 ⟨rfl, v0, v1, v2, v3, v4⟩)
        | (go_at_call 14; with_reducible refine (HDq _ (by assumption)).mono ?_; rintro e w2 ⟨rfl, v0, v1, v2, v3, v4⟩)
        | (go_at_call 16; with_reducible refine (HSp _ (by assumption)).mono ?_; rintro e w2 ⟨rfl, v0, v1, v2, v3, v4⟩)
        | (go_at_call 16; with_reducible refine (HSq _ (by assumption)).mono ?_; rintro e w2 ⟨rfl, v0, v1, v2, v3, v4⟩))
  clear HE HRp HRq HDp HDq HSp HSq
  by_cases hz : p.m.len = 0
  · have e1 : ((p.m.len : Int) == 0) = true := by simpa using hz
    have e2 : ((p.m.len : Int) != 0) = false := by simpa using hz
    go_wp2
    go_ret
    exact ⟨rfl, hFw.trans (Below.mono (by assumption) hFw.size)⟩
  · have e1 : ((p.m.len : Int) == 0) = false := by simpa using hz
    have e2 : ((p.m.len : Int) != 0) = true := by simpa using hz
    obtain ⟨Ni, hNi, _⟩ := and_16 i
    obtain ⟨Nk, hNk, _⟩ := and_16 k
    have hpos : 0 < p.m.len := by omega
    obtain ⟨ik, hik⟩ : ∃ ik, Ni % p.m.len = ik := ⟨_, rfl⟩
    obtain ⟨kk, hkk⟩ : ∃ kk, Nk % p.m.len = kk := ⟨_, rfl⟩
    have hil : ik < p.m.len := by rw [← hik]; exact Nat.mod_lt _ hpos
    have hkl : kk < p.m.len := by rw [← hkk]; exact Nat.mod_lt _ hpos
    have hi1 : (Ni : Int) % (p.m.len : Int) = (ik : Int) := by rw [← hik]; simp
    have hk1' : (Nk : Int) % (p.m.len : Int) = (kk : Int) := by rw [← hkk]; simp
    have HIK := Lib.hid (And.intro hik hkk)
    clear hik hkk
    have hnz : ((p.m.len : Int) = 0) = False := by simp only [eq_iff_iff, iff_false]; omega
    go_upto_region 9 with fail
    simp only [hi1, hk1']
    obtain ⟨g2, cur, rfl, hge2, hblk2, hnc2, hcm2, hq2⟩ := own_blk ownM hpos
    obtain ⟨R, hR⟩ := rows_of hcM
    obtain ⟨⟨vli, vxi, vyi, eRi, hli, hxi, hyi, hri⟩, hci⟩ := hR ik (by rw [stL_len]; exact hil)
    obtain ⟨Ali, cli, eli, _⟩ := id hli
    obtain ⟨Axi, cxi, exi, _⟩ := id hxi
    obtain ⟨Ayi, cyi, eyi, _⟩ := id hyi
    obtain ⟨si, hsi⟩ : ∃ si, (stL p.m)[ik]'(by rw [stL_len]; exact hil) = si := ⟨_, rfl⟩
    rw [hsi] at eRi hli hxi hyi hri eli exi eyi
    obtain ⟨nli, hnli⟩ : ∃ nli, si.l.len = nli := ⟨_, rfl⟩
    obtain ⟨nxi, hnxi⟩ : ∃ nxi, si.x.len = nxi := ⟨_, rfl⟩
    obtain ⟨nyi, hnyi⟩ : ∃ nyi, si.y.len = nyi := ⟨_, rfl⟩
    obtain ⟨opi, hopi⟩ : ∃ opi, si.op = opi := ⟨_, rfl⟩
    obtain ⟨ti, hti⟩ : ∃ ti, si.s = ti := ⟨_, rfl⟩
    obtain ⟨ni, hni⟩ : ∃ ni, si.n = ni := ⟨_, rfl⟩
    rw [hopi, hti, hni, eli, exi, eyi, hnli, hnxi, hnyi] at eRi
    have HRi := Lib.hid (And.intro hR (And.intro hsi (And.intro eRi hci)))
    have Ei : ∀ j u, (R ik)[j]? = some u → j < 6 → w2.cell? ⟨g2, ik * 6 + j, none⟩ = some u := by
      intro j u hu hj
      rw [← hci j hj] at hu
      exact (v4.cell (p := ⟨g2, ik * 6 + j, none⟩) (blk_lt hblk2)).trans (hq2 _ _ hu)
    rw [eRi] at Ei
    have ai0 := Ei 0 _ rfl (by decide)
    have ai1 := Ei 1 _ rfl (by decide)
    have ai2 := Ei 2 _ rfl (by decide)
    have ai3 := Ei 3 _ rfl (by decide)
    have ai4 := Ei 4 _ rfl (by decide)
    have ai5 := Ei 5 _ rfl (by decide)
    simp only [Nat.add_zero] at ai0
    clear Ei hci hnli hnxi hnyi hopi hti hni eRi hsi eli exi eyi
    obtain ⟨⟨vlk, vxk, vyk, eRk, hlk, hxk, hyk, hrk⟩, hck⟩ := hR kk (by rw [stL_len]; exact hkl)
    obtain ⟨Alk, clk, elk, _⟩ := id hlk
    obtain ⟨Axk, cxk, exk, _⟩ := id hxk
    obtain ⟨Ayk, cyk, eyk, _⟩ := id hyk
    obtain ⟨sk, hsk⟩ : ∃ sk, (stL p.m)[kk]'(by rw [stL_len]; exact hkl) = sk := ⟨_, rfl⟩
    rw [hsk] at eRk hlk hxk hyk hrk elk exk eyk
    obtain ⟨nlk, hnlk⟩ : ∃ nlk, sk.l.len = nlk := ⟨_, rfl⟩
    obtain ⟨nxk, hnxk⟩ : ∃ nxk, sk.x.len = nxk := ⟨_, rfl⟩
    obtain ⟨nyk, hnyk⟩ : ∃ nyk, sk.y.len = nyk := ⟨_, rfl⟩
    obtain ⟨opk, hopk⟩ : ∃ opk, sk.op = opk := ⟨_, rfl⟩
    obtain ⟨tk, htk⟩ : ∃ tk, sk.s = tk := ⟨_, rfl⟩
    obtain ⟨nk, hnk⟩ : ∃ nk, sk.n = nk := ⟨_, rfl⟩
    rw [hopk, htk, hnk, elk, exk, eyk, hnlk, hnxk, hnyk] at eRk
    have HRk := Lib.hid (And.intro hR (And.intro hsk (And.intro eRk hck)))
    have Ek : ∀ j u, (R kk)[j]? = some u → j < 6 → w2.cell? ⟨g2, kk * 6 + j, none⟩ = some u := by
      intro j u hu hj
      rw [← hck j hj] at hu
      exact (v4.cell (p := ⟨g2, kk * 6 + j, none⟩) (blk_lt hblk2)).trans (hq2 _ _ hu)
    rw [eRk] at Ek
    have ak0 := Ek 0 _ rfl (by decide)
    have ak1 := Ek 1 _ rfl (by decide)
    have ak2 := Ek 2 _ rfl (by decide)
    have ak3 := Ek 3 _ rfl (by decide)
    have ak4 := Ek 4 _ rfl (by decide)
    have ak5 := Ek 5 _ rfl (by decide)
    simp only [Nat.add_zero] at ak0
    clear Ek hck hnlk hnxk hnyk hopk htk hnk eRk hsk elk exk eyk
    have f2 : ∀ j, w2.frozen? ⟨g2, j, none⟩ = false := fun j => blk_frozen ((v4.block g2 (blk_lt hblk2)).trans hblk2) j
    have HQ2 := Lib.hid hq2
    clear hR hq2
    go_upto_region 10 with fail
    have hg2l : g2 < w2.heap.size := Nat.lt_of_lt_of_le (blk_lt hblk2) v4.size
    have hkbl : kb < w2.heap.size := Nat.lt_of_lt_of_le hk1 v4.size
    have hgl : g < w2.heap.size := Nat.lt_of_lt_of_le hgw v4.size
    obtain ⟨w9, hw9⟩ : ∃ W, w2.alloc (.cells #[.int .i64 opi, .string ti, .int .i64 ni, .slice Ali nli cli, .slice Axi nxi cxi, .slice Ayi nyi cyi] 38) = W := ⟨_, rfl⟩
    have hb9 : Below w2.heap.size w2 w9 := by rw [← hw9]; exact (Below.refl _ _).alloc (Nat.le_refl _) _
    have hs9 : w2.heap.size < w9.heap.size := by rw [← hw9]; simp
    have m9 : w9.heap[w2.heap.size]? = some (.cells #[.int .i64 opi, .string ti, .int .i64 ni, .slice Ali nli cli, .slice Axi nxi cxi, .slice Ayi nyi cyi] 38) := by rw [← hw9]; exact heap_alloc_new _ _
    rw [hw9]
    clear hw9
    obtain ⟨g9, hg9⟩ : ∃ g9, w2.heap.size = g9 := ⟨_, rfl⟩
    have hb9' := hb9
    rw [hg9] at hb9' hs9 m9 hg2l hkbl hgl ⊢
    have y2 := (hb9'.cell (p := ⟨kb, 0, none⟩) hkbl).trans v2
    have y3 := (hb9'.cell (p := ⟨kb, 1, none⟩) hkbl).trans v3
    have y0 := (hb9'.cell (p := ⟨g, 0, none⟩) hgl).trans v0
    have y1 := (hb9'.cell (p := ⟨g, 1, none⟩) hgl).trans v1
    have bi0 := (hb9'.cell (p := ⟨g2, ik * 6, none⟩) hg2l).trans ai0
    have bi1 := (hb9'.cell (p := ⟨g2, ik * 6 + 1, none⟩) hg2l).trans ai1
    have bi2 := (hb9'.cell (p := ⟨g2, ik * 6 + 2, none⟩) hg2l).trans ai2
    have bi3 := (hb9'.cell (p := ⟨g2, ik * 6 + 3, none⟩) hg2l).trans ai3
    have bi4 := (hb9'.cell (p := ⟨g2, ik * 6 + 4, none⟩) hg2l).trans ai4
    have bi5 := (hb9'.cell (p := ⟨g2, ik * 6 + 5, none⟩) hg2l).trans ai5
    have bk0 := (hb9'.cell (p := ⟨g2, kk * 6, none⟩) hg2l).trans ak0
    have bk1 := (hb9'.cell (p := ⟨g2, kk * 6 + 1, none⟩) hg2l).trans ak1
    have bk2 := (hb9'.cell (p := ⟨g2, kk * 6 + 2, none⟩) hg2l).trans ak2
    have bk3 := (hb9'.cell (p := ⟨g2, kk * 6 + 3, none⟩) hg2l).trans ak3
    have bk4 := (hb9'.cell (p := ⟨g2, kk * 6 + 4, none⟩) hg2l).trans ak4
    have bk5 := (hb9'.cell (p := ⟨g2, kk * 6 + 5, none⟩) hg2l).trans ak5
    have f9 : ∀ j, w9.frozen? ⟨g2, j, none⟩ = false := fun j => (hb9'.frozen (p := ⟨g2, j, none⟩) hg2l).trans (f2 j)
    have fi0 := f9 (ik * 6)
    have fi1 := f9 (ik * 6 + 1)
    have fi2 := f9 (ik * 6 + 2)
    have fi3 := f9 (ik * 6 + 3)
    have fi4 := f9 (ik * 6 + 4)
    have fi5 := f9 (ik * 6 + 5)
    have HF2 := Lib.hid f2
    have HF9 := Lib.hid f9
    have AI := Lib.hid (And.intro ai0 (And.intro ai1 (And.intro ai2 (And.intro ai3 (And.intro ai4 ai5)))))
    have AK := Lib.hid (And.intro ak0 (And.intro ak1 (And.intro ak2 (And.intro ak3 (And.intro ak4 ak5)))))
    clear ai0 ai1 ai2 ai3 ai4 ai5 ak0 ak1 ak2 ak3 ak4 ak5 f2 f9
    go_region
    obtain ⟨w10, hw10⟩ : ∃ W, (set6 w9 g2 (ik * 6) (.int .i64 opk) (.string tk) (.int .i64 nk) (.slice Alk nlk clk) (.slice Axk nxk cxk) (.slice Ayk nyk cyk)).drew = W := ⟨_, rfl⟩
    show Exit.then _ _ _ _ (set6 w9 g2 (ik * 6) (.int .i64 opk) (.string tk) (.int .i64 nk) (.slice Alk nlk clk) (.slice Axk nxk cxk) (.slice Ayk nyk cyk)).drew
    rw [hw10]
    obtain ⟨hR, hsi, hRi, _⟩ := HRi.out
    obtain ⟨_, hsk, hRk, _⟩ := HRk.out
    obtain ⟨_, hc6⟩ : True ∧ ∀ t, t < p.m.len → (R t).length = 6 := ⟨trivial, fun t ht => by
      obtain ⟨⟨_, _, _, e, _⟩, _⟩ := hR t (by rw [stL_len]; exact ht)
      rw [e]; rfl⟩
    have hq9 : ∀ t, t < p.m.len → ∀ j, j < 6 → w9.cell? ⟨g2, t * 6 + j, none⟩ = (R t)[j]? := by
      intro t ht j hj
      have h := (hR t (by rw [stL_len]; exact ht)).2 j hj
      have hu : (R t)[j]? = some ((R t)[j]'(by rw [hc6 t ht]; exact hj)) := List.getElem?_eq_getElem _
      rw [hu] at h ⊢
      exact (hb9'.cell (p := ⟨g2, t * 6 + j, none⟩) hg2l).trans ((v4.cell (p := ⟨g2, t * 6 + j, none⟩) (blk_lt hblk2)).trans (HQ2.out _ _ h))
    have hq10 : ∀ t, t < p.m.len → ∀ j, j < 6 → w10.cell? ⟨g2, t * 6 + j, none⟩ = (if t = ik then R kk else R t)[j]? := by
      intro t ht j hj
      rw [hRk, ← hw10, drew_cell]
      exact put_row hq9 hc6 hil t ht j hj
    have rd10 : ∀ a : Addr, a.block ≠ g2 → w10.cell? a = w9.cell? a := by
      intro a ha
      rw [← hw10, drew_cell]
      exact set6_out fun j _ e => ha (by rw [← e])
    have ng2 : g ≠ g2 := by omega
    have nb2 : kb ≠ g2 := fun e => hneM (by rw [e]; rfl)
    have n92 : g9 ≠ g2 := by omega
    have z10 : w10.heap.size = w9.heap.size := by rw [← hw10, drew_size]; exact set6_size
    have f10 : ∀ j, w10.frozen? ⟨g2, j, none⟩ = false := fun j => by
      rw [← hw10, drew_frozen]
      exact set6_frozen.trans (HF9.out j)
    have u0 := (rd10 ⟨g, 0, none⟩ ng2).trans y0
    have u1 := (rd10 ⟨g, 1, none⟩ ng2).trans y1
    have u2 := (rd10 ⟨kb, 0, none⟩ nb2).trans y2
    have u3 := (rd10 ⟨kb, 1, none⟩ nb2).trans y3
    have hkrow : ∀ j, j < 6 → w10.cell? ⟨g2, kk * 6 + j, none⟩ = [.int .i64 opk, .string tk, .int .i64 nk, .slice Alk nlk clk, .slice Axk nxk cxk, .slice Ayk nyk cyk][j]? := by
      intro j hj
      rw [hq10 kk hkl j hj, ite_self, hRk]
    have k0 : w10.cell? ⟨g2, kk * 6, none⟩ = some (.int .i64 opk) := hkrow 0 (by decide)
    have fk0 := f10 (kk * 6)
    have o0 := (rd10 ⟨g9, 0, none⟩ n92).trans (blk_cell m9 0)
    have k1 : w10.cell? ⟨g2, kk * 6 + 1, none⟩ = some (.string tk) := hkrow 1 (by decide)
    have fk1 := f10 (kk * 6 + 1)
    have o1 := (rd10 ⟨g9, 1, none⟩ n92).trans (blk_cell m9 1)
    have k2 : w10.cell? ⟨g2, kk * 6 + 2, none⟩ = some (.int .i64 nk) := hkrow 2 (by decide)
    have fk2 := f10 (kk * 6 + 2)
    have o2 := (rd10 ⟨g9, 2, none⟩ n92).trans (blk_cell m9 2)
    have k3 : w10.cell? ⟨g2, kk * 6 + 3, none⟩ = some (.slice Alk nlk clk) := hkrow 3 (by decide)
    have fk3 := f10 (kk * 6 + 3)
    have o3 := (rd10 ⟨g9, 3, none⟩ n92).trans (blk_cell m9 3)
    have k4 : w10.cell? ⟨g2, kk * 6 + 4, none⟩ = some (.slice Axk nxk cxk) := hkrow 4 (by decide)
    have fk4 := f10 (kk * 6 + 4)
    have o4 := (rd10 ⟨g9, 4, none⟩ n92).trans (blk_cell m9 4)
    have k5 : w10.cell? ⟨g2, kk * 6 + 5, none⟩ = some (.slice Ayk nyk cyk) := hkrow 5 (by decide)
    have fk5 := f10 (kk * 6 + 5)
    have o5 := (rd10 ⟨g9, 5, none⟩ n92).trans (blk_cell m9 5)
    simp at o0 o1 o2 o3 o4 o5
    have HQ10 := Lib.hid hq10
    have HF10 := Lib.hid f10
    have HHW10 := Lib.hid hw10
    clear hq10 hq9 rd10 f10 hkrow hw10 hR hRi hRk hsi hsk bi0 bi1 bi2 bi3 bi4 bi5 bk0 bk1 bk2 bk3 bk4 bk5 fi0 fi1 fi2 fi3 fi4 fi5 y0 y1 y2 y3
    go_upto_region 12 with fail
    obtain ⟨w11, hw11⟩ : ∃ W, set6 w10 g2 (kk * 6) (.int .i64 opi) (.string ti) (.int .i64 ni) (.slice Ali nli cli) (.slice Axi nxi cxi) (.slice Ayi nyi cyi) = W := ⟨_, rfl⟩
    show Code.wp _ _ _ _ (set6 w10 g2 (kk * 6) (.int .i64 opi) (.string ti) (.int .i64 ni) (.slice Ali nli cli) (.slice Axi nxi cxi) (.slice Ayi nyi cyi))
    rw [hw11]
    clear k0 k1 k2 k3 k4 k5 fk0 fk1 fk2 fk3 fk4 fk5 o0 o1 o2 o3 o4 o5
    obtain ⟨hR, hsi, hRi, _⟩ := HRi.out
    obtain ⟨_, hsk, hRk, _⟩ := HRk.out
    have hc6 : ∀ t, t < p.m.len → (if t = ik then R kk else R t).length = 6 := fun t ht => by
      have h6 : ∀ t, t < p.m.len → (R t).length = 6 := fun t ht => by
        obtain ⟨⟨_, _, _, e, _⟩, _⟩ := hR t (by rw [stL_len]; exact ht)
        rw [e]; rfl
      split
      · exact h6 kk hkl
      · exact h6 t ht
    have hq11 : ∀ t, t < p.m.len → ∀ j, j < 6 → w11.cell? ⟨g2, t * 6 + j, none⟩ = (if t = kk then R ik else if t = ik then R kk else R t)[j]? := by
      intro t ht j hj
      rw [hRi, ← hw11]
      exact put_row HQ10.out hc6 hkl t ht j hj
    have rd11 : ∀ a : Addr, a.block ≠ g2 → w11.cell? a = w10.cell? a := by
      intro a ha
      rw [← hw11]
      exact set6_out fun j _ e => ha (by rw [← e])
    have q0 := (rd11 ⟨g, 0, none⟩ ng2).trans u0
    have q1 := (rd11 ⟨g, 1, none⟩ ng2).trans u1
    have q2 := (rd11 ⟨kb, 0, none⟩ nb2).trans u2
    have q3 := (rd11 ⟨kb, 1, none⟩ nb2).trans u3
    have hb2 : Below w1.heap.size w1 w2 := hbw.trans (v4.mono hbw.size)
    have hbb9 : Below w1.heap.size w1 w9 := hb2.trans (hb9.mono hb2.size)
    have hbb11 : Below w1.heap.size w1 w11 := by
      rw [← hw11, ← HHW10.out]
      exact set6_below (belowD (set6_below hbb9 hge2)) hge2
    have hz11 : w11.heap.size = w9.heap.size := by rw [← hw11, set6_size, z10]
    have hF11 : Fr w w11 := hF.trans (hbb11.mono hB)
    have own9 := own_up (own_up ownF v4) hb9
    have hneF2 : some g2 ≠ (Value.slice A3 p.fs.length cap3).ownBlock := own_ne ownF hblk2 (by decide)
    have own11 : w11.ownsRow w1.heap.size 35 3 (.slice A3 p.fs.length cap3) p.fs.length csF := by
      rw [← hw11, ← HHW10.out]
      exact set6_own (own_drew (set6_own own9 hneF2)) hneF2
    have hpf11 : FV w11.heap.size w11 (.slice A3 p.fs.length cap3) p.fs := own_fv own11 (fsCells.below (hbb11.mono hB) hF11.size hcF) rfl
    have hil' : ik < (stL p.m).length := by rw [stL_len]; exact hil
    have hkl' : kk < (stL p.m).length := by rw [stL_len]; exact hkl
    have hsv : SV w11.heap.size w11 (.slice (some ⟨g2, 0, none⟩) p.m.len cap2) (ofL (swL (stL p.m) ik kk hil' hkl')) :=
      sw_sv (R := R) hil' hkl' hF11.size (fun t ht => ((hR t ht).1).below (hbb11.mono hB) (Nat.le_refl _)) hq11 (by omega) hnc2 hcm2
    have hlsw : (ofL (swL (stL p.m) ik kk hil' hkl')).len = p.m.len := by rw [ofL_len, swL_len, stL_len]
    have hq' : PgV w11.heap.size w11 (.agg #[.slice A3 p.fs.length cap3, .slice (some ⟨g2, 0, none⟩) p.m.len cap2]) ⟨p.fs, ofL (swL (stL p.m) ik kk hil' hkl')⟩ :=
      ⟨A3, cap3, some ⟨g2, 0, none⟩, cap2, by rw [hlsw], hpf11, by rw [hlsw]; exact hsv⟩
    have hp' : PgV w11.heap.size w11 (.agg #[.slice A p.fs.length cap, .slice X p.m.len capx]) p := ⟨A, cap, X, capx, rfl, FV.below hvF hF11 hF11.size, SV.below hvM hF11 hF11.size⟩
    obtain ⟨b5, o5, rfl, hcx1, hcx2⟩ : ∃ b o, X = some ⟨b, o, none⟩ ∧ p.m.len ≤ capx ∧ capx ≤ 9223372036854775807 := by
      obtain ⟨A1, cap1, e, h1, h2, hr⟩ := hvM
      injection e with e1 _ e3
      subst e1 e3
      obtain ⟨b, o, e, _⟩ := hr hpos
      exact ⟨b, o, e, h1, h2⟩
    have hsi1 := sv_nth (SV.below hvM hF11 hF11.size) ik hil'
    have hsk1 := sv_nth (SV.below hvM hF11 hF11.size) kk hkl'
    have gi : PgV w11.heap.size w11 (.agg #[.slice none 0 0, .slice (some ⟨b5, o5 + ik * 6, none⟩) 1 (capx - ik)]) ⟨[], ofL [(stL p.m)[ik]]⟩ := ⟨none, 0, _, _, rfl, ⟨none, 0, rfl, Nat.le_refl _, by decide, fun h => by simp at h⟩, hsi1⟩
    have gk : PgV w11.heap.size w11 (.agg #[.slice none 0 0, .slice (some ⟨b5, o5 + kk * 6, none⟩) 1 (capx - kk)]) ⟨[], ofL [(stL p.m)[kk]]⟩ := ⟨none, 0, _, _, rfl, ⟨none, 0, rfl, Nat.le_refl _, by decide, fun h => by simp at h⟩, hsk1⟩
    have hgl11 : g < w11.heap.size := by omega
    have hkl11 : kb < w11.heap.size := by omega
    have CS11 : ∀ W, Below w11.heap.size w11 W → (W.cell? ⟨g, 0, none⟩ = some (.slice A p.fs.length cap) ∧ W.cell? ⟨g, 1, none⟩ = some (.slice (some ⟨b5, o5, none⟩) p.m.len capx) ∧ W.cell? ⟨kb, 0, none⟩ = some (.slice A3 p.fs.length cap3) ∧ W.cell? ⟨kb, 1, none⟩ = some (.slice (some ⟨g2, 0, none⟩) p.m.len cap2) ∧ Below w11.heap.size w11 W) := by
      intro W hb
      exact ⟨(hb.cell (p := ⟨g, 0, none⟩) hgl11).trans q0, (hb.cell (p := ⟨g, 1, none⟩) hgl11).trans q1, (hb.cell (p := ⟨kb, 0, none⟩) hkl11).trans q2, (hb.cell (p := ⟨kb, 1, none⟩) hkl11).trans q3, hb⟩
    have K : ∀ {f : FuncId} {args : Array Value} {r : Value}, (∀ W, Below w11.heap.size w11 W → Calls Tryd.prog f args W fun e w' => e = .returned r ∧ Below W.heap.size W w') → ∀ W, Below w11.heap.size w11 W → Calls Tryd.prog f args W fun e w' => e = .returned r ∧ w'.cell? ⟨g, 0, none⟩ = some (.slice A p.fs.length cap) ∧ w'.cell? ⟨g, 1, none⟩ = some (.slice (some ⟨b5, o5, none⟩) p.m.len capx) ∧ w'.cell? ⟨kb, 0, none⟩ = some (.slice A3 p.fs.length cap3) ∧ w'.cell? ⟨kb, 1, none⟩ = some (.slice (some ⟨g2, 0, none⟩) p.m.len cap2) ∧ Below w11.heap.size w11 w' :=
      fun h W hb => (h W hb).mono fun e w' ⟨he, hb'⟩ => ⟨he, CS11 w' (hb.trans (hb'.mono hb.size))⟩
    have GP := fun W (hb : Below w11.heap.size w11 W) => hp'.below hb hb.size
    have GQ := fun W (hb : Below w11.heap.size w11 W) => hq'.below hb hb.size
    have H1 := K fun W hb => equal_any _ _ _ _ W _ (Nat.le_refl _) (gi.below hb hb.size) (gk.below hb hb.size)
    have H2 := K fun W hb => equal_any _ _ p _ W _ (Nat.le_refl _) (GP W hb) (GQ W hb)
    have HDp := K fun W hb => depth_any _ p W _ (Nat.le_refl _) (GP W hb)
    have HDq := K fun W hb => depth_any _ _ W _ (Nat.le_refl _) (GQ W hb)
    have HSp := K fun W hb => size_any _ p W _ (Nat.le_refl _) (GP W hb)
    have HSq := K fun W hb => size_any _ _ W _ (Nat.le_refl _) (GQ W hb)
    rw [sw_eq] at H2
    rw [sw_deep, HDN.out] at HDq
    rw [sw_cnt, HSN.out] at HSq
    rw [HDN.out] at HDp
    rw [HSN.out] at HSp
    obtain ⟨eb, heb⟩ : ∃ eb, eqG ⟨[], ofL [(stL p.m)[ik]]⟩ ⟨[], ofL [(stL p.m)[kk]]⟩ = eb := ⟨_, rfl⟩
    rw [heb] at H1 H2
    have CSh := Lib.hid CS11
    have hw1 : IntKind.i64.wrap ((ik : Int) + 1) = (ik : Int) + 1 := IntWalk.i64_in _ (by omega)
    have hw2 : IntKind.i64.wrap ((kk : Int) + 1) = (kk : Int) + 1 := IntWalk.i64_in _ (by omega)
    have hn1 : (0 : Int) ≤ (ik : Int) + 1 := by omega
    have hn2 : (0 : Int) ≤ (kk : Int) + 1 := by omega
    have ht1 : ((ik : Int) + 1).toNat = ik + 1 := by omega
    have ht2 : ((kk : Int) + 1).toNat = kk + 1 := by omega
    have hc1 : ik + 1 ≤ capx := by omega
    have hc2 : kk + 1 ≤ capx := by omega
    have hc5 : (ik : Int) + 1 ≤ (capx : Int) := by omega
    have he6 : (kk : Int) + 1 ≤ (capx : Int) := by omega
    have hc3 : ¬ capx = ik := by omega
    have hc4 : ¬ capx = kk := by omega
    have hs1 : ik ≤ ik + 1 := by omega
    have hs2 : kk ≤ kk + 1 := by omega
    clear GP GQ K CS11 heb hq11 rd11 hR hRi hRk hsi hsk hc6 own9 own11 hpf11 hsv hq' hp' gi gk hsi1 hsk1 u0 u1 u2 u3 hw11
    have ZD : Below w11.heap.size w11 w11.drew := belowD (Below.refl _ _)
    go_region_held3 (fun W => W.cell? ⟨g, 0, none⟩ = some (.slice A p.fs.length cap) ∧ W.cell? ⟨g, 1, none⟩ = some (.slice (some ⟨b5, o5, none⟩) p.m.len capx) ∧ W.cell? ⟨kb, 0, none⟩ = some (.slice A3 p.fs.length cap3) ∧ W.cell? ⟨kb, 1, none⟩ = some (.slice (some ⟨g2, 0, none⟩) p.m.len cap2) ∧ Below w11.heap.size w11 W)
      (first | exact CSh.out _ (by assumption) | exact ⟨v0, v1, v2, v3, v4⟩ | go_keep)
      ((go_at_call 18; with_reducible refine (H1 _ (by assumption)).mono ?_; rintro e w12 ⟨rfl, v0, v1, v2, v3, v4⟩))
    clear hw1 hw2 hn1 hn2 ht1 ht2 hc1 hc2 hc3 hc4 hc5 he6 hs1 hs2 H1
    go_upto_region 13 with fail
    have v4d := belowD v4
    go_region_held3 (fun W => W.cell? ⟨g, 0, none⟩ = some (.slice A p.fs.length cap) ∧ W.cell? ⟨g, 1, none⟩ = some (.slice (some ⟨b5, o5, none⟩) p.m.len capx) ∧ W.cell? ⟨kb, 0, none⟩ = some (.slice A3 p.fs.length cap3) ∧ W.cell? ⟨kb, 1, none⟩ = some (.slice (some ⟨g2, 0, none⟩) p.m.len cap2) ∧ Below w11.heap.size w11 W)
      (first | exact CSh.out _ (by assumption) | exact ⟨x0, x1, x2, x3, x4⟩ | go_keep)
      (first
        | (go_at_call 18; with_reducible refine (H2 _ (by assumption)).mono ?_; rintro e w13 ⟨rfl, x0, x1, x2, x3, x4⟩)
        | (go_at_call 14; with_reducible refine (HDp _ (by assumption)).mono ?_; rintro e w13 ⟨rfl, x0, x1, x2, x3, x4⟩)
        | (go_at_call 14; with_reducible refine (HDq _ (by assumption)).mono ?_; rintro e w13 ⟨rfl, x0, x1, x2, x3, x4⟩)
        | (go_at_call 16; with_reducible refine (HSp _ (by assumption)).mono ?_; rintro e w13 ⟨rfl, x0, x1, x2, x3, x4⟩)
        | (go_at_call 16; with_reducible refine (HSq _ (by assumption)).mono ?_; rintro e w13 ⟨rfl, x0, x1, x2, x3, x4⟩))
    go_wp2
    go_ret
    refine ⟨rfl, hF11.trans (Below.mono ?_ hF11.size)⟩
    assumption

end Go.Proofs.YtnjghoaelcpljaaDoor
