/-
  The document's own Equal: of programs.
-/
import Derived.Test.YtaedlhjjfmmpdaaDoorTreeRw
namespace Go.Proofs.YtaedlhjjfmmpdaaDoor
open Go Go.RowKit Go.Shelf

theorem rsame_b (a a' : SS) (A A' : Option Addr) (cap cap' B : Nat) (w0 W : World) (hB : B ≤ w0.heap.size) (hb : Below w0.heap.size w0 W) (h : SV B w0 (.slice A a.len cap) a) (h' : SV B w0 (.slice A' a'.len cap') a') :
    Calls Tryd.prog 35 #[.slice A a.len cap, .slice A' a'.len cap'] W fun e w' => e = .returned (.bool (eqS a a')) ∧ Below W.heap.size W w' :=
  (rsame_any _ a a' A A' cap cap' B W (Nat.le_refl _) (Nat.le_trans hB hb.size) (SV.below h (hb.mono hB) (Nat.le_refl _)) (SV.below h' (hb.mono hB) (Nat.le_refl _))).mono fun _ _ ⟨he, m, hm⟩ => ⟨he, by rw [hm]; exact drewN_below _ _⟩

set_option maxRecDepth 100000 in
set_option maxHeartbeats 2000000 in
theorem requal_any (v v' : Value) (p p' : Pg) (w : World) (B : Nat) (hB : B ≤ w.heap.size) (hv : PgV B w v p) (hv' : PgV B w v' p') :
    Calls Tryd.prog 19 #[v, v'] w fun e w' => e = .returned (.bool (eqG p p')) ∧ Below w.heap.size w w' := by
  unfold eqG
  obtain ⟨A, cap, X, capx, rfl, h0, h1⟩ := hv
  obtain ⟨A', cap', X', capx', rfl, h0', h1'⟩ := hv'
  have hW : ∀ o o', Below w.heap.size w ((w.alloc o).alloc o') := fun o o' => ((Below.refl _ _).alloc (Nat.le_refl _) o).alloc (by simp) o'
  have HM := fun o o' => rsame_b p.m p'.m X X' capx capx' B w ((w.alloc o).alloc o') hB (hW o o') h1 h1'
  simp only [World.size_alloc] at HM
  clear h1 h1'
  obtain ⟨A1, cap1, e1, hc1, hc2, hrow⟩ := h0
  injection e1 with e2 e3 e4
  subst e2 e4
  clear e3
  obtain ⟨A1, cap1, e1, hc1', hc2', hrow'⟩ := h0'
  injection e1 with e2 e3 e4
  subst e2 e4
  clear e3
  obtain ⟨len, hlen⟩ : ∃ len, p.fs.length = len := ⟨_, rfl⟩
  obtain ⟨len', hlen'⟩ : ∃ len, p'.fs.length = len := ⟨_, rfl⟩
  rw [hlen] at hc1 hrow ⊢
  rw [hlen'] at hc1' hrow' ⊢
  have HL := Lib.hid hlen; clear hlen
  have HL' := Lib.hid hlen'; clear hlen'
  have HW := Lib.hid hW
  clear hW
  have hz : len ≤ 9223372036854775807 := by omega
  have hz' : len' ≤ 9223372036854775807 := by omega
  cases hm : eqS p.m p'.m with
  | false =>
    rw [hm] at HM
    go_enter Tryd.func19, Tryd.ntmps19
    go_wp2_with (go_at_call 35; ((with_reducible refine (HM _ _).mono ?_); rintro e w1 ⟨rfl, hb1⟩; obtain ⟨hc1, hf1⟩ := bcell hb1))
    go_ret
    exact ⟨ret_bool (by simp), (HW.out _ _).trans (hb1.mono (by omega))⟩
  | true =>
    rw [hm] at HM
    by_cases hne : len = len'
    · subst hne
      go_enter Tryd.func19, Tryd.ntmps19
      go_wp2_with (go_at_call 35; ((with_reducible refine (HM _ _).mono ?_); rintro e w1 ⟨rfl, hb1⟩; obtain ⟨hc1, hf1⟩ := bcell hb1))
      have b0 : w1.cell? ⟨w.heap.size, 0, none⟩ = some (.slice A len cap) := by rw [hc1 _ _ (by omega), World.cell?_of_block (a := ⟨w.heap.size, 0, none⟩) (Below.heap_alloc _ _ _ (by simp)), cell_new]; rfl
      have b1 : w1.cell? ⟨w.heap.size + 1, 0, none⟩ = some (.slice A' len cap') := by
        rw [hc1 _ _ (by omega)]
        have := cell_new (w.alloc (.cells #[.slice A len cap, .slice X p.m.len capx] 25)) #[.slice A' len cap', .slice X' p'.m.len capx'] 25 0
        rw [World.size_alloc] at this
        exact this
      have hq1 : Below w.heap.size w w1 := (HW.out _ _).trans (hb1.mono (by omega))
      have hs1 : w.heap.size + 2 ≤ w1.heap.size := by have := hb1.size; simp at this; omega
      clear HM hc1 hf1 hb1
      go_loopw [6] (fun i wr => ∃ (k : Nat) (r r' : List Fn), i = .int .i64 k ∧ k + r.length = len ∧ k + r'.length = len ∧ eqF p.fs p'.fs = eqF r r' ∧ (0 < r.length → ∃ b o, A = some ⟨b, o, none⟩ ∧ b < B ∧ FsIn B w r b (o + k * 3)) ∧ (0 < r'.length → ∃ b o, A' = some ⟨b, o, none⟩ ∧ b < B ∧ FsIn B w r' b (o + k * 3)) ∧ Below w1.heap.size w1 wr) (fun i _ => len - (intOf i).toNat)
      case atStart => exact ⟨0, p.fs, p'.fs, rfl, by have := HL.out; omega, by have := HL'.out; omega, rfl, by simpa [HL.out] using hrow, by simpa [HL'.out] using hrow', Below.refl _ _⟩
      case round =>
        obtain ⟨k, r, r', rfl, hk, hk', ho, hr1, hr2, hW⟩ := hrel
        have HO := Lib.hid ho; clear ho
        have g0 := (hW.cell (p := ⟨w.heap.size, 0, none⟩) (show w.heap.size < w1.heap.size by omega)).trans b0
        have g1 := (hW.cell (p := ⟨w.heap.size + 1, 0, none⟩) (show w.heap.size + 1 < w1.heap.size by omega)).trans b1
        have hWw : Below w.heap.size w wr := hq1.trans (hW.mono hq1.size)
        cases r with
        | nil =>
          have hk0 : k = len := by simpa using hk
          subst hk0
          cases r' with
          | cons f r => simp at hk'
          | nil =>
            clear hk hk' hrow hrow' hr1 hr2 b0 b1
            go_wp2
            go_ret
            exact ⟨ret_bool (by rw [HO.out]; simp [(eqF_iff [] []).2 rfl]), hWw⟩
        | cons f r =>
          cases r' with
          | nil => simp at hk hk'; omega
          | cons f' r' =>
            obtain ⟨b, o, rfl, hb, c0, ⟨v1, c1, h3⟩, ⟨v2, c2, h4⟩, h6, hr⟩ := hr1 (by simp)
            obtain ⟨b', o', rfl, hb', c0', ⟨v1', c1', h3'⟩, ⟨v2', c2', h4'⟩, h6', hr'⟩ := hr2 (by simp)
            clear hrow hrow' hr1 hr2 b0 b1
            obtain ⟨A6, cap6, rfl, hp1, hp2, hp⟩ := id h3
            obtain ⟨A7, cap7, rfl, hp1', hp2', hp'⟩ := id h3'
            obtain ⟨A8, cap8, rfl, _⟩ := id h4
            obtain ⟨A9, cap9, rfl, _⟩ := id h4'
            have hlt : k < len := by simp at hk; omega
            have HK := Lib.hid hk; clear hk
            have HK' := Lib.hid hk'; clear hk'
            have hbw : b < w.heap.size := by omega
            have hbw' : b' < w.heap.size := by omega
            have hzz : b < wr.heap.size := by have := hWw.size; omega
            have hzz' : b' < wr.heap.size := by have := hWw.size; omega
            have hx0 : w.heap.size < wr.heap.size := by have := hW.size; omega
            have hx1 : w.heap.size + 1 < wr.heap.size := by have := hW.size; omega
            have d0 := (hWw.cell (p := ⟨b, o + k * 3, none⟩) hbw).trans c0
            have d1 := (hWw.cell (p := ⟨b, o + k * 3 + 1, none⟩) hbw).trans c1
            have d2 := (hWw.cell (p := ⟨b, o + k * 3 + 2, none⟩) hbw).trans c2
            have d0' := (hWw.cell (p := ⟨b', o' + k * 3, none⟩) hbw').trans c0'
            have d1' := (hWw.cell (p := ⟨b', o' + k * 3 + 1, none⟩) hbw').trans c1'
            have d2' := (hWw.cell (p := ⟨b', o' + k * 3 + 2, none⟩) hbw').trans c2'
            clear c0 c1 c2 c0' c1' c2'
            have hW2 : ∀ o o', Below w.heap.size w ((wr.alloc o).alloc o') := fun o o' => (hWw.alloc hWw.size o).alloc (by have := hWw.size; simp; omega) o'
            have HS := fun C C' => rsame_b f.b f'.b A8 A9 cap8 cap9 B w ((wr.alloc C).alloc C') hB (hW2 C C') h4 h4'
            simp only [World.size_alloc] at HS
            have HC := Lib.hid (eqF_cons f r f' r')
            have HW2 := Lib.hid hW2
            clear h4 h4' hW2
            obtain ⟨bx, hbx⟩ : ∃ bx, eqS f.b f'.b = bx := ⟨_, rfl⟩
            rw [hbx] at HS HC
            clear hbx
            obtain ⟨np, hnp⟩ : ∃ np, f.ps.length = np := ⟨_, rfl⟩
            obtain ⟨np', hnp'⟩ : ∃ np, f'.ps.length = np := ⟨_, rfl⟩
            rw [hnp] at hp1 hp d1
            rw [hnp'] at hp1' hp' d1'
            have HNP := Lib.hid hnp; clear hnp
            have HNP' := Lib.hid hnp'; clear hnp'
            clear h3 h3'
            have hpz : np ≤ 9223372036854775807 := by omega
            have hpz' : np' ≤ 9223372036854775807 := by omega
            cases hn : (f.s.toList == f'.s.toList) with
            | false =>
              have hnn : (f.s.toList != f'.s.toList) = true := by rw [bne, hn]; rfl
              go_wp2_with (go_at_call 35; ((with_reducible refine (HS _ _).mono ?_); rintro e w2 ⟨rfl, hb2⟩; obtain ⟨hc2, hf2⟩ := bcell hb2; have hz2 : wr.heap.size < w2.heap.size := (by have := hb2.size; simp at this; omega); have hz3 : wr.heap.size + 1 < w2.heap.size := (by have := hb2.size; simp at this; omega)))
              go_ret
              exact ⟨ret_bool (by rw [HO.out, HC.out]; unfold eqT; simp [hn]), (HW2.out _ _).trans (hb2.mono (by have := hWw.size; omega))⟩
            | true =>
              have hnn : (f.s.toList != f'.s.toList) = false := by rw [bne, hn]; rfl
              cases bx with
              | false =>
                go_wp2_with (go_at_call 35; ((with_reducible refine (HS _ _).mono ?_); rintro e w2 ⟨rfl, hb2⟩; obtain ⟨hc2, hf2⟩ := bcell hb2; have hz2 : wr.heap.size < w2.heap.size := (by have := hb2.size; simp at this; omega); have hz3 : wr.heap.size + 1 < w2.heap.size := (by have := hb2.size; simp at this; omega)))
                go_ret
                exact ⟨ret_bool (by rw [HO.out, HC.out]; unfold eqT; simp [hn]), (HW2.out _ _).trans (hb2.mono (by have := hWw.size; omega))⟩
              | true =>
                by_cases hnl : np = np'
                · subst hnl
                  go_wp2_with (go_at_call 35; ((with_reducible refine (HS _ _).mono ?_); rintro e w2 ⟨rfl, hb2⟩; obtain ⟨hc2, hf2⟩ := bcell hb2; have hz2 : wr.heap.size < w2.heap.size := (by have := hb2.size; simp at this; omega); have hz3 : wr.heap.size + 1 < w2.heap.size := (by have := hb2.size; simp at this; omega)))
                  have e1 : w2.cell? ⟨wr.heap.size, 1, none⟩ = some (.slice A6 np cap6) := by rw [hc2 _ _ (by omega), World.cell?_of_block (a := ⟨wr.heap.size, 1, none⟩) (Below.heap_alloc _ _ _ (by simp)), cell_new]; rfl
                  have e1' : w2.cell? ⟨wr.heap.size + 1, 1, none⟩ = some (.slice A7 np cap7) := by
                    rw [hc2 _ _ (by omega)]
                    have := cell_new (wr.alloc (.cells #[.string f.s, .slice A6 np cap6, .slice A8 f.b.len cap8] 35)) #[.string f'.s, .slice A7 np cap7, .slice A9 f'.b.len cap9] 35 1
                    rw [World.size_alloc] at this
                    exact this
                  have hq2 : Below w.heap.size w w2 := (HW2.out _ _).trans (hb2.mono (by have := hWw.size; omega))
                  have hp3 : 0 < np → ∃ b o, A6 = some ⟨b, o, none⟩ ∧ b < B ∧ PsIn w2 f.ps b o := fun h => by obtain ⟨b, o, e, hb, hi⟩ := hp h; exact ⟨b, o, e, hb, PsIn.below (hq2.mono hB) hb hi⟩
                  have hp3' : 0 < np → ∃ b o, A7 = some ⟨b, o, none⟩ ∧ b < B ∧ PsIn w2 f'.ps b o := fun h => by obtain ⟨b, o, e, hb, hi⟩ := hp' h; exact ⟨b, o, e, hb, PsIn.below (hq2.mono hB) hb hi⟩
                  have hBr : B ≤ w2.heap.size := Nat.le_trans hB hq2.size
                  have HQ2 := Lib.hid hq2
                  clear hp hp' hc2 hf2 hq2
                  go_loopw [10] (fun i wq => ∃ (j : Nat) (s s' : List ByteArray) (q : Nat), i = .int .i64 j ∧ j + s.length = np ∧ j + s'.length = np ∧ eqP f.ps f'.ps = eqP s s' ∧ (0 < s.length → ∃ b o, A6 = some ⟨b, o, none⟩ ∧ b < B ∧ PsIn w2 s b (o + j)) ∧ (0 < s'.length → ∃ b o, A7 = some ⟨b, o, none⟩ ∧ b < B ∧ PsIn w2 s' b (o + j)) ∧ wq = w2.drewN q) (fun i _ => np - (intOf i).toNat)
                  case atStart => exact ⟨0, f.ps, f'.ps, 0, rfl, by have := HNP.out; omega, by have := HNP'.out; omega, rfl, by simpa [HNP.out] using hp3, by simpa [HNP'.out] using hp3', rfl⟩
                  case round =>
                    clear hp3 hp3'
                    obtain ⟨j, s, s', q, rfl, hj, hj', hjo, hs1, hs2, rfl⟩ := hrel
                    have HJO := Lib.hid hjo; clear hjo
                    cases s with
                    | nil =>
                      have hj0 : j = np := by simpa using hj
                      subst hj0
                      cases s' with
                      | cons s r => simp at hj'
                      | nil =>
                        clear hj hj' hs1 hs2
                        go_wp2
                        go_roundw
                        case rel =>
                          exact ⟨k + 1, r, r', by go_num, by have := HK.out; simp at this; omega, by have := HK'.out; simp at this; omega, by rw [HO.out, HC.out, HJO.out, (eqP_iff [] []).2 rfl]; unfold eqT; simp [hn], fun _ => ⟨b, o, rfl, hb, by rw [show o + (k + 1) * 3 = o + k * 3 + 3 by omega]; exact hr⟩, fun _ => ⟨b', o', rfl, hb', by rw [show o' + (k + 1) * 3 = o' + k * 3 + 3 by omega]; exact hr'⟩, (((hW.alloc hW.size _).alloc (by have := hW.size; simp; omega) _).trans (hb2.mono (by have := hW.size; omega))).trans ((drewN_below _ _).mono (by have := hW.size; omega))⟩
                        case measure => simp [intOf]; omega
                    | cons s r2 =>
                      cases s' with
                      | nil => simp at hj hj'; omega
                      | cons s' r2' =>
                        obtain ⟨b2, o2, rfl, hb2', m0, hms, hr2⟩ := hs1 (by simp)
                        obtain ⟨b3, o3, rfl, hb3', m0', hms', hr2'⟩ := hs2 (by simp)
                        clear hs1 hs2
                        have hjlt : j < np := by simp at hj; omega
                        have hjc : j < cap6 := by omega
                        have hjc' : j < cap7 := by omega
                        have HJ := Lib.hid hj; clear hj
                        have HJ' := Lib.hid hj'; clear hj'
                        have HC2 := Lib.hid (eqP_cons s r2 s' r2')
                        have i0 : (0 : Int) ≤ (j : Int) := by omega
                        have i1 : (j : Int) < (np : Int) := by omega
                        cases ht : (s.toList == s'.toList) with
                        | true =>
                          have htn : (s.toList != s'.toList) = false := by rw [bne, ht]; rfl
                          go_wp2
                          go_quiet (fail)
                          go_wp2
                          go_roundw
                          case rel => exact ⟨j + 1, r2, r2', _, by go_num, by have := HJ.out; simp at this; omega, by have := HJ'.out; simp at this; omega, by rw [HJO.out, HC2.out]; unfold eqT; rw [ht]; rfl, fun _ => ⟨b2, o2, rfl, hb2', by rw [show o2 + (j + 1) = o2 + j + 1 by omega]; exact hr2⟩, fun _ => ⟨b3, o3, rfl, hb3', by rw [show o3 + (j + 1) = o3 + j + 1 by omega]; exact hr2'⟩, rfl⟩
                          case measure => simp [intOf]; omega
                        | false =>
                          have htn : (s.toList != s'.toList) = true := by rw [bne, ht]; rfl
                          go_wp2
                          go_quiet (fail)
                          go_wp2
                          go_ret
                          exact ⟨ret_bool (by rw [HO.out, HC.out, HJO.out, HC2.out]; unfold eqT; simp [ht]), by simp only [World.drewN_drewN]; exact HQ2.out.trans ((drewN_below _ _).mono HQ2.out.size)⟩
                · have HE := Lib.hid (eqP_len (a := f.ps) (b := f'.ps) (by have := HNP.out; have := HNP'.out; omega))
                  go_wp2_with (go_at_call 35; ((with_reducible refine (HS _ _).mono ?_); rintro e w2 ⟨rfl, hb2⟩; obtain ⟨hc2, hf2⟩ := bcell hb2; have hz2 : wr.heap.size < w2.heap.size := (by have := hb2.size; simp at this; omega); have hz3 : wr.heap.size + 1 < w2.heap.size := (by have := hb2.size; simp at this; omega)))
                  go_ret
                  exact ⟨ret_bool (by rw [HO.out, HC.out, HE.out]; simp), (HW2.out _ _).trans (hb2.mono (by have := hWw.size; omega))⟩
    · have hE : eqF p.fs p'.fs = false := eqF_len (by have := HL.out; have := HL'.out; omega)
      have HE := Lib.hid hE
      clear hE hrow hrow'
      go_enter Tryd.func19, Tryd.ntmps19
      go_wp2_with (go_at_call 35; ((with_reducible refine (HM _ _).mono ?_); rintro e w1 ⟨rfl, hb1⟩; obtain ⟨hc1, hf1⟩ := bcell hb1))
      go_ret
      exact ⟨ret_bool (by rw [HE.out]; rfl), (HW.out _ _).trans (hb1.mono (by omega))⟩

end Go.Proofs.YtaedlhjjfmmpdaaDoor
