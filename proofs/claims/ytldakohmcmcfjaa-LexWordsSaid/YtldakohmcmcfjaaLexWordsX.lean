/-
  LexWords: the walk itself.
-/
import Derived.Test.YtldakohmcmcfjaaLexWordsW
namespace Go.Proofs.Ytldakohmcmcfjaa
open Go Go.RowKit Go.Lib

theorem conv_own {w : World} {g N : Nat} {l : List UInt8} (hr : Row w (some ⟨g, 0, none⟩) l) (hl : l.length = N) :
    ∀ nq c, (convert 22 9 (.slice (some ⟨g, 0, none⟩) N c)).run Try.prog (w.drewN nq) = .ok (.string ⟨l.toArray⟩) (w.drewN nq) :=
  fun nq => conv_row (hr.below (below_drew (Below.refl _ _) nq) (Nat.le_refl _)) hl

set_option maxHeartbeats 4000000 in
set_option maxRecDepth 100000 in
theorem words_walk (n0 : Int) (c : UInt8) (w : World) (_ : (Lit.int .i64 n0).wf = true) :
    Calls Try.prog 8 #[.int .i64 n0, .int .u8 (bv c)] w fun e w' => e = .returned (.bool true) ∧ Fr w w' := by
  have hfr := Fr.refl w
  obtain ⟨hx0, hx1⟩ := low16 n0
  obtain ⟨x, hx⟩ : ∃ x, bits BinOp.and IntKind.i64 n0 65535 = x := ⟨_, rfl⟩
  rw [hx] at hx0 hx1
  obtain ⟨m, hm⟩ : ∃ m : Nat, 1 + x % 40 = (m : Int) := ⟨(1 + x % 40).toNat, by omega⟩
  have hm0 : 1 ≤ m := by omega
  have hm1 : m ≤ 40 := by omega
  obtain ⟨hc0, hc1⟩ := bv_range c
  obtain ⟨y, hy⟩ : ∃ y, y = bv c := ⟨_, rfl⟩
  rw [← hy] at hc0 hc1 ⊢
  clear hy
  have kc := fun (w : World) (C : Array Value) (n c : Nat) => Lib.run_convert_bytes_const (P := Try.prog) w 22 5 C n c Try.underlying22 Try.underlying5
  go_enter Try.func8, Try.ntmps8
  go_upto_region 2 with (go_at_call 10; ((with_reducible refine (shown_fr w _ (by assumption)).mono ?_); rintro e w1 ⟨rfl, h1⟩))
  go_cut [0] (fun s wx => s = .int .i64 (m : Nat) ∧ wx = w1)
  case first =>
    go_wp2_with fail
    go_meet
    exact ⟨by rw [← hm], rfl⟩
  case rest =>
  obtain ⟨rfl, rfl⟩ := hcut
  clear hx hm
  go_wp2_with fail
  go_loopw [6, 7] (fun o i wr => ∃ (k : Nat) (wl : List UInt8), 1 ≤ k ∧ k ≤ m ∧ i = .int .i64 k ∧ wl.length = k ∧ Wordy wl ∧ BOwn wc wr o wl) (fun _ i _ => m - (intOf i).toNat)
  case atStart => exact ⟨1, [113], by omega, by omega, rfl, rfl, ⟨[], rfl, fun c hc => by simp at hc⟩, bown_new1 wc 113⟩
  case round =>
  obtain ⟨k, wl, hk0, hk, rfl, hwl, hwd, hB⟩ := hrel
  have HWL := Lib.hid hwl
  clear hwl
  by_cases hlt : k < m
  · have hlti : (k : Int) < (m : Int) := by omega
    have hd : (y + (k : Int)) % 10 = 0 ∨ (y + (k : Int)) % 10 = 1 ∨ (y + (k : Int)) % 10 = 2 ∨ (y + (k : Int)) % 10 = 3 ∨ (y + (k : Int)) % 10 = 4 ∨ (y + (k : Int)) % 10 = 5 ∨ (y + (k : Int)) % 10 = 6 ∨ (y + (k : Int)) % 10 = 7 ∨ (y + (k : Int)) % 10 = 8 ∨ (y + (k : Int)) % 10 = 9 := by omega
    rcases hd with hd | hd | hd | hd | hd | hd | hd | hd | hd | hd
    all_goals
      as_aux_lemma =>
      go_wp2_with (at_builtin; first
        | (refine wp_app (l2 := [97]) rfl rfl (hB.alloc _) rfl rfl (row_new _ [97] _ _ rfl) rfl (by decide) (fun e => by cases e) (by have := HWL.out; omega) ?_; intro v1 w3 hB1 hG1; have hin : inwB (bv 97) = true := by decide)
        | (refine wp_app (l2 := [98]) rfl rfl (hB.alloc _) rfl rfl (row_new _ [98] _ _ rfl) rfl (by decide) (fun e => by cases e) (by have := HWL.out; omega) ?_; intro v1 w3 hB1 hG1; have hin : inwB (bv 98) = true := by decide)
        | (refine wp_app (l2 := [99]) rfl rfl (hB.alloc _) rfl rfl (row_new _ [99] _ _ rfl) rfl (by decide) (fun e => by cases e) (by have := HWL.out; omega) ?_; intro v1 w3 hB1 hG1; have hin : inwB (bv 99) = true := by decide)
        | (refine wp_app (l2 := [88]) rfl rfl (hB.alloc _) rfl rfl (row_new _ [88] _ _ rfl) rfl (by decide) (fun e => by cases e) (by have := HWL.out; omega) ?_; intro v1 w3 hB1 hG1; have hin : inwB (bv 88) = true := by decide)
        | (refine wp_app (l2 := [89]) rfl rfl (hB.alloc _) rfl rfl (row_new _ [89] _ _ rfl) rfl (by decide) (fun e => by cases e) (by have := HWL.out; omega) ?_; intro v1 w3 hB1 hG1; have hin : inwB (bv 89) = true := by decide)
        | (refine wp_app (l2 := [90]) rfl rfl (hB.alloc _) rfl rfl (row_new _ [90] _ _ rfl) rfl (by decide) (fun e => by cases e) (by have := HWL.out; omega) ?_; intro v1 w3 hB1 hG1; have hin : inwB (bv 90) = true := by decide)
        | (refine wp_app (l2 := [48]) rfl rfl (hB.alloc _) rfl rfl (row_new _ [48] _ _ rfl) rfl (by decide) (fun e => by cases e) (by have := HWL.out; omega) ?_; intro v1 w3 hB1 hG1; have hin : inwB (bv 48) = true := by decide)
        | (refine wp_app (l2 := [49]) rfl rfl (hB.alloc _) rfl rfl (row_new _ [49] _ _ rfl) rfl (by decide) (fun e => by cases e) (by have := HWL.out; omega) ?_; intro v1 w3 hB1 hG1; have hin : inwB (bv 49) = true := by decide)
        | (refine wp_app (l2 := [57]) rfl rfl (hB.alloc _) rfl rfl (row_new _ [57] _ _ rfl) rfl (by decide) (fun e => by cases e) (by have := HWL.out; omega) ?_; intro v1 w3 hB1 hG1; have hin : inwB (bv 57) = true := by decide)
        | (refine wp_app (l2 := [95]) rfl rfl (hB.alloc _) rfl rfl (row_new _ [95] _ _ rfl) rfl (by decide) (fun e => by cases e) (by have := HWL.out; omega) ?_; intro v1 w3 hB1 hG1; have hin : inwB (bv 95) = true := by decide))
      go_roundw
      case rel => exact ⟨k + 1, _, by omega, by omega, by go_num, by rw [List.length_append, HWL.out]; rfl, wordy_snoc hwd hin, hB1⟩
      case measure => simp [intOf]; omega
  · obtain rfl : k = m := by omega
    obtain ⟨gw, cw, rfl, hgw1, hgw2, hcw, hrw⟩ := hB.row
    have h5 : Fr w wr := h1.below hB.fr
    rw [HWL.out] at hcw ⊢
    by_cases h32 : 32 < k
    · have h32i : 32 < (k : Int) := by omega
      have HBAD := Lib.hid (words_bad hwd (by rw [HWL.out]; exact h32))
      have HLEN := Lib.hid (show ([97, 32] ++ wl ++ [32, 98]).length = k + 4 by simp [HWL.out])
      go_wp2_with (first
        | (at_builtin; refine wp_app_full (l := [97, 32]) (l2 := wl) rfl rfl rfl (row_new _ [97, 32] _ _ rfl) rfl rfl (hrw.fr ((Fr.refl wr).alloc _)) HWL.out (by omega) (by omega) ?_; intro v3 w3 hB3)
        | (at_builtin; refine wp_app_str (l2 := [32, 98]) rfl rfl hB3 rfl rfl (by have := HWL.out; simp; omega) ?_; intro v4 w4 hB4; obtain ⟨gt, ct, hv4, _, _, hct, hrt⟩ := hB4.row; rw [HLEN.out] at hv4 hct; subst hv4; have hb4 := hB4.fr)
        | (go_at_call 11; ((with_reducible refine (lex_no _ (k + 4) _ ([97, 32] ++ wl ++ [32, 98]) 2 _ HLEN.out (by omega) (by omega) hrt HBAD.out).mono ?_); rintro e w6 ⟨rfl, hb6⟩)))
      go_ret
      exact ⟨rfl, ((h5.alloc _).below hb4).below hb6⟩
    · have h32i : ¬ 32 < (k : Int) := by omega
      have HOK := Lib.hid (words_ok hwd (by rw [HWL.out]; omega))
      have HLEN := Lib.hid (show ([97, 32] ++ wl ++ [32, 98]).length = k + 4 by simp [HWL.out])
      go_wp2_with (first
        | (at_builtin; refine wp_app_full (l := [97, 32]) (l2 := wl) rfl rfl rfl (row_new _ [97, 32] _ _ rfl) rfl rfl (hrw.fr ((Fr.refl wr).alloc _)) HWL.out (by omega) (by omega) ?_; intro v3 w3 hB3)
        | (at_builtin; refine wp_app_str (l2 := [32, 98]) rfl rfl hB3 rfl rfl (by have := HWL.out; simp; omega) ?_; intro v4 w4 hB4; obtain ⟨gt, ct, hv4, _, _, hct, hrt⟩ := hB4.row; rw [HLEN.out] at hv4 hct; subst hv4; have hb4 := hB4.fr)
        | (go_at_call 11; ((with_reducible refine (lex_ok _ (k + 4) _ 4 ([97, 32] ++ wl ++ [32, 98]) _ _ HLEN.out (by omega) (by omega) hrt HOK.out rfl).mono ?_); rintro e w6 ⟨g6, c6, rfl, hg6, hc6, ht6, hb6⟩)))
      obtain ⟨Z, hZ⟩ : ∃ Z, Z = wl.length + 3 := ⟨_, rfl⟩
      rw [← hZ] at ht6
      have hZ2 : Z = k + 3 := by rw [hZ, HWL.out]
      have y1 : w6.cell? ⟨g6, 3, none⟩ = some (.int .i64 1) := (ht6.2 1 _ rfl).1
      have y2 : w6.cell? ⟨g6, 4, none⟩ = some (.string ⟨wl.toArray⟩) := (ht6.2 1 _ rfl).2.1
      have y3 : w6.cell? ⟨g6, 8, none⟩ = some (.int .i64 Z) := (ht6.2 2 _ rfl).2.2
      have hcv := conv_own (((hrw.fr ((Fr.refl wr).alloc _)).fr hb4).below hb6 (Nat.le_refl _)) HWL.out
      have e1 : IntKind.i64.wrap ((k : Int) + 3) = (k : Int) + 3 := IntWalk.i64_in _ (by omega)
      have e2 : ((Z : Int) == (k : Int) + 3) = true := by simp; omega
      clear hZ hZ2
      go_quiet (fail)
      go_wp2
      go_ret
      exact ⟨rfl, below_drew (((h5.alloc _).below hb4).below hb6) _⟩

end Go.Proofs.Ytldakohmcmcfjaa
