/-
  TreeDeeper: the statement's function, walked.
-/
import Derived.Test.YtnjghoaelcpljaaDoorTreeDp
import Derived.Lib.MinMax
import Derived.Deep.RegionHeld3
import Derived.Deep.DeepCutAuto
namespace Go.Proofs.YtnjghoaelcpljaaDoor
open Go Go.RowKit Go.Lib

set_option maxRecDepth 100000 in
set_option maxHeartbeats 1500000 in
theorem deeper_walk (p q : Pg) (A : Option Addr) (cap : Nat) (X : Option Addr) (capx : Nat) (A' : Option Addr) (cap' : Nat) (X' : Option Addr) (capx' : Nat) (w : World)
    (hvF : FV w.heap.size w (.slice A p.fs.length cap) p.fs) (hvM : SV w.heap.size w (.slice X p.m.len capx) p.m) (hvM' : SV w.heap.size w (.slice X' q.m.len capx') q.m)
    (hX : X = none → capx = 0) (hX' : X' = none → capx' = 0) (hc : cntL p.pts + cntL q.pts ≤ 1048576) (ht : Tab w) :
    Calls Tryd.prog 5 #[.agg #[.slice A p.fs.length cap, .slice X p.m.len capx], .agg #[.slice A' q.fs.length cap', .slice X' q.m.len capx']] w fun e w' => e = .returned (.bool true) ∧ Below w.heap.size w w' := by
  have h0 := Fr.refl w
  obtain ⟨i0, hi, hz0, hz1, hz2⟩ := info_parts stmtInfo
  have hW : ∀ C C', Fr w ((w.alloc C).alloc C') := fun C C' => (h0.alloc C).alloc C'
  have HW := Lib.hid hW; clear hW
  have HT := Lib.hid (fun W (hb : Fr w W) => ht.step hb)
  clear ht
  go_enter Tryd.func5, Tryd.ntmps5
  go_upto_region 2 with (go_at_call 11; ((with_reducible refine (shown_fr _ _ (HT.out _ (HW.out _ _)) (Fr.refl _)).mono ?_); rintro e w1 ⟨rfl, h1⟩))
  obtain ⟨g, hg⟩ : ∃ g, w.heap.size = g := ⟨_, rfl⟩
  have hz1' : g + 1 < w1.heap.size := by have := h1.size; simp at this; omega
  have b0 : w1.cell? ⟨g, 0, none⟩ = some (.slice A p.fs.length cap) := by
    rw [← hg]
    exact (h1.cell (p := ⟨w.heap.size, 0, none⟩) (show w.heap.size < _ by simp; omega)).trans (by rw [World.cell?_of_block (a := ⟨w.heap.size, 0, none⟩) (Below.heap_alloc _ _ _ (by simp)), cell_new]; rfl)
  have b1 : w1.cell? ⟨g, 1, none⟩ = some (.slice X p.m.len capx) := by
    rw [← hg]
    exact (h1.cell (p := ⟨w.heap.size, 1, none⟩) (show w.heap.size < _ by simp; omega)).trans (by rw [World.cell?_of_block (a := ⟨w.heap.size, 1, none⟩) (Below.heap_alloc _ _ _ (by simp)), cell_new]; rfl)
  have hn := cell_new (w.alloc (.cells #[.slice A p.fs.length cap, .slice X p.m.len capx] 25)) #[.slice A' q.fs.length cap', .slice X' q.m.len capx'] 25
  rw [World.size_alloc] at hn
  have b2 : w1.cell? ⟨g + 1, 0, none⟩ = some (.slice A' q.fs.length cap') := by
    rw [← hg]
    exact (h1.cell (p := ⟨w.heap.size + 1, 0, none⟩) (show w.heap.size + 1 < _ by simp)).trans (hn 0)
  have b3 : w1.cell? ⟨g + 1, 1, none⟩ = some (.slice X' q.m.len capx') := by
    rw [← hg]
    exact (h1.cell (p := ⟨w.heap.size + 1, 1, none⟩) (show w.heap.size + 1 < _ by simp)).trans (hn 1)
  have hF : Fr w w1 := (HW.out _ _).trans (Below.mono h1 (by simp; omega))
  have hB : w.heap.size ≤ w1.heap.size := hF.size
  clear hn h1
  have CS : ∀ W, Below w1.heap.size w1 W → (W.cell? ⟨g, 0, none⟩ = some (.slice A p.fs.length cap) ∧ W.cell? ⟨g, 1, none⟩ = some (.slice X p.m.len capx) ∧ W.cell? ⟨g + 1, 0, none⟩ = some (.slice A' q.fs.length cap') ∧ W.cell? ⟨g + 1, 1, none⟩ = some (.slice X' q.m.len capx') ∧ Below w1.heap.size w1 W) := by
    intro W hb
    exact ⟨(hb.cell (p := ⟨g, 0, none⟩) (show g < w1.heap.size by omega)).trans b0, (hb.cell (p := ⟨g, 1, none⟩) (show g < w1.heap.size by omega)).trans b1, (hb.cell (p := ⟨g + 1, 0, none⟩) hz1').trans b2, (hb.cell (p := ⟨g + 1, 1, none⟩) hz1').trans b3, hb⟩
  have FW : ∀ W, Below w1.heap.size w1 W → Fr w W := fun W hb => hF.trans (hb.mono hB)
  have hnil : ∀ W : World, FV W.heap.size W (.slice none 0 0) [] := fun W => ⟨none, 0, rfl, Nat.le_refl _, by decide, fun h => by simp at h⟩
  have HpM : ∀ W, Below w1.heap.size w1 W → PgV W.heap.size W (.agg #[.slice none 0 0, .slice X p.m.len capx]) ⟨[], p.m⟩ := fun W hb => ⟨none, 0, X, capx, rfl, hnil W, SV.below hvM (FW W hb) (FW W hb).size⟩
  have HqM : ∀ W, Below w1.heap.size w1 W → PgV W.heap.size W (.agg #[.slice none 0 0, .slice X' q.m.len capx']) ⟨[], q.m⟩ := fun W hb => ⟨none, 0, X', capx', rfl, hnil W, SV.below hvM' (FW W hb) (FW W hb).size⟩
  have HpP : ∀ W, Below w1.heap.size w1 W → PgV W.heap.size W (.agg #[.slice A p.fs.length cap, .slice X p.m.len capx]) p := fun W hb => ⟨A, cap, X, capx, rfl, FV.below hvF (FW W hb) (FW W hb).size, SV.below hvM (FW W hb) (FW W hb).size⟩
  have Z1' : Below w1.heap.size w1 w1 := Below.refl _ _
  have hcm : p.m.cnt ≤ 1048576 ∧ q.m.cnt ≤ 1048576 ∧ p.m.cnt + q.m.cnt ≤ 1048576 := by
    simp only [Pg.pts, cntL_append, SS.cntL] at hc
    omega
  simp only [hg]
  go_upto_region 4 with (first
    | (go_at_call 14; ((with_reducible refine (depth_any _ _ _ _ (Nat.le_refl _) (HpM _ Z1')).mono ?_); rintro e w2 ⟨rfl, h2⟩))
    | (go_at_call 16; ((with_reducible refine (size_any _ _ _ _ (Nat.le_refl _) (HpM _ h2)).mono ?_); rintro e w3 ⟨rfl, h3⟩)))
  have hb3 : Below w1.heap.size w1 w3 := h2.trans (h3.mono h2.size)
  have hcA := mn_cnt p.m (by omega)
  simp only [mn_deep, hcA]
  clear hcA h2 h3
  obtain ⟨d, hd⟩ : ∃ d, p.m.deep = d := ⟨_, rfl⟩
  obtain ⟨n, hn⟩ : ∃ n : Nat, p.m.cnt = n := ⟨_, rfl⟩
  rw [hd, hn]
  have HD := Lib.hid hd
  have HN := Lib.hid hn
  clear hd hn
  have HC := Lib.hid CS
  have HM := Lib.hid (fun W (hb : Below w1.heap.size w1 W) => SV.below hvM (FW W hb) (FW W hb).size)
  have HPM := Lib.hid HpM
  have HQM := Lib.hid HqM
  have HPP := Lib.hid HpP
  clear HpM HqM HpP
  go_cut [8] (fun s8 wx => BxS w3 wx s8 (dpA p.m))
  case first =>
    go_region_held3 (fun w' => w'.cell? ⟨g, 0, none⟩ = some (.slice A p.fs.length cap) ∧ w'.cell? ⟨g, 1, none⟩ = some (.slice X p.m.len capx) ∧ w'.cell? ⟨g + 1, 0, none⟩ = some (.slice A' q.fs.length cap') ∧ w'.cell? ⟨g + 1, 1, none⟩ = some (.slice X' q.m.len capx') ∧ Below w1.heap.size w1 w')
      ((refine CS _ ?_; (focus ((repeat (first | with_reducible assumption | with_reducible exact Below.refl _ _ | with_reducible refine belowD ?_ | with_reducible refine belowA ?_ _ | (with_reducible refine belowS ?_ ?hkx _; case hkx => first | assumption | omega))); done))))
      ((go_at_call 22; with_reducible refine (one_any _ _).mono ?_; rintro e w4 ⟨rfl, rfl⟩))
    all_goals
      go_wp2_with fail
      go_meet
      apply bxA (v := .slice X p.m.len capx)
      case hk => (focus ((repeat (first | with_reducible assumption | (with_reducible refine blk_new ?hkx; case hkx => (first | with_reducible rfl | (simp only [World.size_alloc]))) | with_reducible refine blk_drew ?_ | with_reducible refine blk_alloc ?_ _)); done))
      case hs => (focus ((repeat (first | with_reducible assumption | (with_reducible refine blk_new ?hkx; case hkx => (first | with_reducible rfl | (simp only [World.size_alloc]))) | with_reducible refine blk_drew ?_ | with_reducible refine blk_alloc ?_ _)); done))
      case he => (focus ((repeat (first | with_reducible assumption | (with_reducible refine blk_new ?hkx; case hkx => (first | with_reducible rfl | (simp only [World.size_alloc]))) | with_reducible refine blk_drew ?_ | with_reducible refine blk_alloc ?_ _)); done))
      case h0 => omega
      case hb => (focus ((repeat (first | with_reducible assumption | with_reducible exact Below.refl _ _ | with_reducible refine belowD ?_ | with_reducible refine belowA ?_ _ | (with_reducible refine belowS ?_ ?hkx _; case hkx => first | assumption | omega))); done))
      case hv => refine HM.out _ ?_; (focus ((repeat (first | with_reducible assumption | with_reducible exact Below.refl _ _ | with_reducible refine belowD ?_ | with_reducible refine belowA ?_ _ | (with_reducible refine belowS ?_ ?hkx _; case hkx => first | assumption | omega))); done))
  case rest =>
  obtain ⟨k8, A8, n8, c8, A8', n8', c8', rfl, bx8⟩ := hcut
  have hb4 : Below w1.heap.size w1 wc := hb3.trans (bx8.2.2.2.2.2.mono hb3.size)
  obtain ⟨w4, hw4⟩ : ∃ w4, wc = w4 := ⟨_, rfl⟩
  subst hw4
  go_upto_region 5 with fail
  go_cut [9] (fun s8 wx => BxS wc wx s8 (dpB p.m))
  case first =>
    go_region_held3 (fun w' => w'.cell? ⟨g, 0, none⟩ = some (.slice A p.fs.length cap) ∧ w'.cell? ⟨g, 1, none⟩ = some (.slice X p.m.len capx) ∧ w'.cell? ⟨g + 1, 0, none⟩ = some (.slice A' q.fs.length cap') ∧ w'.cell? ⟨g + 1, 1, none⟩ = some (.slice X' q.m.len capx') ∧ Below w1.heap.size w1 w')
      ((refine CS _ ?_; (focus ((repeat (first | with_reducible assumption | with_reducible exact Below.refl _ _ | with_reducible refine belowD ?_ | with_reducible refine belowA ?_ _ | (with_reducible refine belowS ?_ ?hkx _; case hkx => first | assumption | omega))); done))))
      ((go_at_call 22; with_reducible refine (one_any _ _).mono ?_; rintro e w4 ⟨rfl, rfl⟩))
    all_goals
      go_wp2_with fail
      go_meet
      apply bxB (v := .slice X p.m.len capx)
      case hk => (focus ((repeat (first | with_reducible assumption | (with_reducible refine blk_new ?hkx; case hkx => (first | with_reducible rfl | (simp only [World.size_alloc]))) | with_reducible refine blk_drew ?_ | with_reducible refine blk_alloc ?_ _)); done))
      case hs => (focus ((repeat (first | with_reducible assumption | (with_reducible refine blk_new ?hkx; case hkx => (first | with_reducible rfl | (simp only [World.size_alloc]))) | with_reducible refine blk_drew ?_ | with_reducible refine blk_alloc ?_ _)); done))
      case he => (focus ((repeat (first | with_reducible assumption | (with_reducible refine blk_new ?hkx; case hkx => (first | with_reducible rfl | (simp only [World.size_alloc]))) | with_reducible refine blk_drew ?_ | with_reducible refine blk_alloc ?_ _)); done))
      case h0 => omega
      case hb => (focus ((repeat (first | with_reducible assumption | with_reducible exact Below.refl _ _ | with_reducible refine belowD ?_ | with_reducible refine belowA ?_ _ | (with_reducible refine belowS ?_ ?hkx _; case hkx => first | assumption | omega))); done))
      case hv => refine HM.out _ ?_; (focus ((repeat (first | with_reducible assumption | with_reducible exact Below.refl _ _ | with_reducible refine belowD ?_ | with_reducible refine belowA ?_ _ | (with_reducible refine belowS ?_ ?hkx _; case hkx => first | assumption | omega))); done))
  case rest =>
  obtain ⟨k9, A9, n9, c9, A9', n9', c9', rfl, bx9⟩ := hcut
  have bx8 := bx8.step bx9.2.2.2.2.2
  have hb5 : Below w1.heap.size w1 wc := hb4.trans (bx9.2.2.2.2.2.mono hb4.size)
  clear hb4
  obtain ⟨p0, p1, _⟩ := CS wc hb5
  go_upto_region 7 with fail
  obtain ⟨w6, hw6⟩ : ∃ w6, (wc.alloc (.cells #[.string ⟨#[102]⟩, .slice none 0 0, .slice X p.m.len capx] 35)).alloc (.cells #[.slice (some ⟨wc.heap.size, 0, none⟩) 1 1, .slice none 0 0] 25) = w6 := ⟨_, rfl⟩
  have hbC : Below wc.heap.size wc w6 := by rw [← hw6]; (focus ((repeat (first | with_reducible assumption | with_reducible exact Below.refl _ _ | with_reducible refine belowD ?_ | with_reducible refine belowA ?_ _ | (with_reducible refine belowS ?_ ?hkx _; case hkx => first | assumption | omega))); done))
  have bx10 : BxS wc w6 (.pointer (some ⟨wc.heap.size + 1, 0, none⟩)) (dpC p.m) := by
    apply bxC (v := .slice X p.m.len capx)
    case hk => rw [← hw6]; (focus ((repeat (first | with_reducible assumption | (with_reducible refine blk_new ?hkx; case hkx => (first | with_reducible rfl | (simp only [World.size_alloc]))) | with_reducible refine blk_drew ?_ | with_reducible refine blk_alloc ?_ _)); done))
    case hf => rw [← hw6]; (focus ((repeat (first | with_reducible assumption | (with_reducible refine blk_new ?hkx; case hkx => (first | with_reducible rfl | (simp only [World.size_alloc]))) | with_reducible refine blk_drew ?_ | with_reducible refine blk_alloc ?_ _)); done))
    case h0 => omega
    case hb => exact hbC
    case hv => exact HM.out _ (hb5.trans (hbC.mono hb5.size))
  rw [hw6]
  clear hw6
  obtain ⟨k10, A10, n10, c10, A10', n10', c10', e10, bx10⟩ := bx10
  injection e10 with e10
  injection e10 with e10
  injection e10 with e10
  rw [e10]
  have bx8 := bx8.step hbC
  have bx9 := bx9.step hbC
  have hb6 : Below w1.heap.size w1 w6 := hb5.trans (hbC.mono hb5.size)
  clear hb5 p0 p1 hbC
  obtain ⟨p0, p1, p2, p3, _⟩ := CS w6 hb6
  have hM6 := HM.out w6 hb6
  have hQ6 : SV w6.heap.size w6 (.slice X' q.m.len capx') q.m := SV.below hvM' (FW w6 hb6) (FW w6 hb6).size
  obtain ⟨_, csM, hcM, hqM⟩ := sv_news hM6
  obtain ⟨_, csQ, hcQ, hqQ⟩ := sv_news hQ6
  have hnM : csM.length = p.m.len * 6 := hcM.len
  have hnQ : csQ.length = q.m.len * 6 := hcQ.len
  have h1M := hcM.one
  have h1Q := hcQ.one
  have CN1 : ∀ W, Below w6.heap.size w6 W → ∀ ad, X = some ad → ∀ j u, csM[j]? = some u → W.cell? (ad.add j) = some u := by
    intro W hb ad e j u hu
    have h := hqM ad e j u hu
    exact (hb.cell (p := ad.add j) (lt_of_cell h)).trans h
  have CN2 : ∀ W, Below w6.heap.size w6 W → ∀ ad, X' = some ad → ∀ j u, csQ[j]? = some u → W.cell? (ad.add j) = some u := by
    intro W hb ad e j u hu
    have h := hqQ ad e j u hu
    exact (hb.cell (p := ad.add j) (lt_of_cell h)).trans h
  clear hqM hqQ
  have hl1 : p.m.len + q.m.len ≤ 2000000 := by
    have a := SS.len_le p.m
    have b := SS.len_le q.m
    omega
  have hs6 : w1.heap.size ≤ w6.heap.size := hb6.size
  have hL1 : 0 + p.m.len ≤ maxLen := by unfold maxLen; omega
  have hL2 : p.m.len + q.m.len ≤ maxLen := by unfold maxLen; omega
  have hL3 : (0 + p.m.len) * 104 ≤ 140737488355328 := by omega
  have hL4 : (p.m.len + q.m.len) * 104 ≤ 140737488355328 := by omega
  have HX := Lib.hid hX
  have HX2 := Lib.hid hX'
  clear hX hX' hl1
  go_cut [11] (fun s8 wx => ∃ kb A2 cap2, s8 = .pointer (some ⟨kb, 0, none⟩) ∧ Fin2 w6 wx 38 6 kb (.slice none 0 0) (.slice A2 (p.m.len + q.m.len) cap2) (.slice A2 (p.m.len + q.m.len) cap2) (p.m.len + q.m.len) (csM ++ csQ))
  case first =>
    go_region_held3 (fun w' => w'.cell? ⟨g, 0, none⟩ = some (.slice A p.fs.length cap) ∧ w'.cell? ⟨g, 1, none⟩ = some (.slice X p.m.len capx) ∧ w'.cell? ⟨g + 1, 0, none⟩ = some (.slice A' q.fs.length cap') ∧ w'.cell? ⟨g + 1, 1, none⟩ = some (.slice X' q.m.len capx') ∧ Below w1.heap.size w1 w')
      ((refine CS _ ?_; (focus ((repeat (first | with_reducible assumption | with_reducible exact Below.refl _ _ | with_reducible refine belowD ?_ | with_reducible refine belowA ?_ _ | (with_reducible refine belowS ?_ ?hkx _; case hkx => first | assumption | omega))); done))))
      (first
        | (refine step_append_own rfl (.tmp 40) (.tmp 42) 23 rfl w6.heap.size 38 i0 _ 6 104 Tryd.underlying23 hi hz0 hz1 hz2 rfl (by decide) (.slice (some ⟨w6.heap.size, 0, none⟩) 0 0) 0 [] rfl ?gown X p.m.len capx csM rfl (fun e => ⟨sv_nil0 hM6 e, HX.out e⟩) hnM ?gnews h1M ?gl1 ?gl2 ?gbase ?_; (case gown => (focus ((repeat (first | with_reducible assumption | (with_reducible refine made_in ?hkx ?hky; (case hkx => (first | with_reducible rfl | (simp only [World.size_alloc]))); (case hky => omega)) | with_reducible refine own_drew ?_ | with_reducible refine World.ownsRow.alloc ?_ _)); done))); (case gnews => (refine CN1 _ ?_; (focus ((repeat (first | with_reducible assumption | with_reducible exact Below.refl _ _ | with_reducible refine belowD ?_ | with_reducible refine belowA ?_ _ | (with_reducible refine belowS ?_ ?hkx _; case hkx => first | assumption | omega))); done)))); (case gl1 => assumption); (case gl2 => assumption); (case gbase => (refine Below.size (B := w6.heap.size) (w := w6) ?_; (focus ((repeat (first | with_reducible assumption | with_reducible exact Below.refl _ _ | with_reducible refine belowD ?_ | with_reducible refine belowA ?_ _ | (with_reducible refine belowS ?_ ?hkx _; case hkx => first | assumption | omega))); done)))); intro v1 w7 hown1 hgrow1; (refine (fun (hb7 : Below w6.heap.size w6 w7) => ?_) ?hhb7; case hhb7 => (refine grown_below (v := .slice (some ⟨w6.heap.size, 0, none⟩) 0 0) (n := 0) (xs := []) (base := w6.heap.size) (e := 38) (size := 6) ?_ ?_ (Nat.le_refl _) hgrow1; (focus (focus ((repeat (first | with_reducible assumption | with_reducible exact Below.refl _ _ | with_reducible refine belowD ?_ | with_reducible refine belowA ?_ _ | (with_reducible refine belowS ?_ ?hkx _; case hkx => first | assumption | omega))); done))); (focus (focus ((repeat (first | with_reducible assumption | (with_reducible refine made_in ?hkx ?hky; (case hkx => (first | with_reducible rfl | (simp only [World.size_alloc]))); (case hky => omega)) | with_reducible refine own_drew ?_ | with_reducible refine World.ownsRow.alloc ?_ _)); done))))); rw [Nat.zero_add, List.nil_append] at hown1; have hs7 := hb7.size; have hb7' : Below w1.heap.size w1 w7 := hb6.trans (hb7.mono hb6.size); (first | (refine (fun (hbx7 : w7.heap[(w6.heap.size + 1 : Nat)]? = some (.cells #[.slice none 0 0, .slice none 0 0] 25)) => ?_) ?hhbx7; (case hhbx7 => (refine blk_grown ?_ hgrow1 ?_; (focus (focus ((repeat (first | with_reducible assumption | (with_reducible refine blk_new ?hkx; case hkx => (first | with_reducible rfl | (simp only [World.size_alloc]))) | with_reducible refine blk_drew ?_ | with_reducible refine blk_alloc ?_ _)); done))); (focus ((simp only [Value.ownBlock, ne_eq, Option.some.injEq]); omega))))) | skip))
        | (refine step_append_own rfl (.tmp 40) (.tmp 42) 23 rfl w6.heap.size 38 i0 _ 6 104 Tryd.underlying23 hi hz0 hz1 hz2 rfl (by decide) (.slice (some ⟨w6.heap.size + 1, 0, none⟩) 0 0) 0 [] rfl ?gown X p.m.len capx csM rfl (fun e => ⟨sv_nil0 hM6 e, HX.out e⟩) hnM ?gnews h1M ?gl1 ?gl2 ?gbase ?_; (case gown => (focus ((repeat (first | with_reducible assumption | (with_reducible refine made_in ?hkx ?hky; (case hkx => (first | with_reducible rfl | (simp only [World.size_alloc]))); (case hky => omega)) | with_reducible refine own_drew ?_ | with_reducible refine World.ownsRow.alloc ?_ _)); done))); (case gnews => (refine CN1 _ ?_; (focus ((repeat (first | with_reducible assumption | with_reducible exact Below.refl _ _ | with_reducible refine belowD ?_ | with_reducible refine belowA ?_ _ | (with_reducible refine belowS ?_ ?hkx _; case hkx => first | assumption | omega))); done)))); (case gl1 => assumption); (case gl2 => assumption); (case gbase => (refine Below.size (B := w6.heap.size) (w := w6) ?_; (focus ((repeat (first | with_reducible assumption | with_reducible exact Below.refl _ _ | with_reducible refine belowD ?_ | with_reducible refine belowA ?_ _ | (with_reducible refine belowS ?_ ?hkx _; case hkx => first | assumption | omega))); done)))); intro v1 w7 hown1 hgrow1; (refine (fun (hb7 : Below w6.heap.size w6 w7) => ?_) ?hhb7; case hhb7 => (refine grown_below (v := .slice (some ⟨w6.heap.size + 1, 0, none⟩) 0 0) (n := 0) (xs := []) (base := w6.heap.size) (e := 38) (size := 6) ?_ ?_ (Nat.le_refl _) hgrow1; (focus (focus ((repeat (first | with_reducible assumption | with_reducible exact Below.refl _ _ | with_reducible refine belowD ?_ | with_reducible refine belowA ?_ _ | (with_reducible refine belowS ?_ ?hkx _; case hkx => first | assumption | omega))); done))); (focus (focus ((repeat (first | with_reducible assumption | (with_reducible refine made_in ?hkx ?hky; (case hkx => (first | with_reducible rfl | (simp only [World.size_alloc]))); (case hky => omega)) | with_reducible refine own_drew ?_ | with_reducible refine World.ownsRow.alloc ?_ _)); done))))); rw [Nat.zero_add, List.nil_append] at hown1; have hs7 := hb7.size; have hb7' : Below w1.heap.size w1 w7 := hb6.trans (hb7.mono hb6.size); (first | (refine (fun (hbx7 : w7.heap[(w6.heap.size : Nat)]? = some (.cells #[.slice none 0 0, .slice none 0 0] 25)) => ?_) ?hhbx7; (case hhbx7 => (refine blk_grown ?_ hgrow1 ?_; (focus (focus ((repeat (first | with_reducible assumption | (with_reducible refine blk_new ?hkx; case hkx => (first | with_reducible rfl | (simp only [World.size_alloc]))) | with_reducible refine blk_drew ?_ | with_reducible refine blk_alloc ?_ _)); done))); (focus ((simp only [Value.ownBlock, ne_eq, Option.some.injEq]); omega))))) | skip))
        | (refine step_append_own rfl (.tmp 43) (.tmp 45) 23 rfl w6.heap.size 38 i0 _ 6 104 Tryd.underlying23 hi hz0 hz1 hz2 rfl (by decide) v1 p.m.len csM rfl ?gown X' q.m.len capx' csQ rfl (fun e => ⟨sv_nil0 hQ6 e, HX2.out e⟩) hnQ ?gnews h1Q ?gl1 ?gl2 ?gbase ?_; (case gown => (focus ((repeat (first | with_reducible assumption | (with_reducible refine made_in ?hkx ?hky; (case hkx => (first | with_reducible rfl | (simp only [World.size_alloc]))); (case hky => omega)) | with_reducible refine own_drew ?_ | with_reducible refine World.ownsRow.alloc ?_ _)); done))); (case gnews => (refine CN2 _ ?_; (focus ((repeat (first | with_reducible assumption | with_reducible exact Below.refl _ _ | with_reducible refine belowD ?_ | with_reducible refine belowA ?_ _ | (with_reducible refine belowS ?_ ?hkx _; case hkx => first | assumption | omega))); done)))); (case gl1 => assumption); (case gl2 => assumption); (case gbase => (refine Below.size (B := w6.heap.size) (w := w6) ?_; (focus ((repeat (first | with_reducible assumption | with_reducible exact Below.refl _ _ | with_reducible refine belowD ?_ | with_reducible refine belowA ?_ _ | (with_reducible refine belowS ?_ ?hkx _; case hkx => first | assumption | omega))); done)))); intro v2 w8 hown2 hgrow2; (refine (fun (hb8 : Below w6.heap.size w6 w8) => ?_) ?hhb8; case hhb8 => (refine grown_below (v := v1) (n := p.m.len) (xs := csM) (base := w6.heap.size) (e := 38) (size := 6) ?_ ?_ (Nat.le_refl _) hgrow2; (focus (focus ((repeat (first | with_reducible assumption | with_reducible exact Below.refl _ _ | with_reducible refine belowD ?_ | with_reducible refine belowA ?_ _ | (with_reducible refine belowS ?_ ?hkx _; case hkx => first | assumption | omega))); done))); (focus (focus ((repeat (first | with_reducible assumption | (with_reducible refine made_in ?hkx ?hky; (case hkx => (first | with_reducible rfl | (simp only [World.size_alloc]))); (case hky => omega)) | with_reducible refine own_drew ?_ | with_reducible refine World.ownsRow.alloc ?_ _)); done))))); have hs8 := hb8.size; have hb8' : Below w1.heap.size w1 w8 := hb6.trans (hb8.mono hb6.size); ((first | (refine (fun (hbx8 : w8.heap[(w6.heap.size : Nat)]? = some (.cells #[.slice none 0 0, .slice none 0 0] 25)) => ?_) ?hh; (case hh => (refine blk_grown_own (base := w6.heap.size) (e := 38) (size := 6) (n := p.m.len) (xs := csM) ?_ hgrow2 ?_ (by decide); (focus (focus ((repeat (first | with_reducible assumption | (with_reducible refine made_in ?hkx ?hky; (case hkx => (first | with_reducible rfl | (simp only [World.size_alloc]))); (case hky => omega)) | with_reducible refine own_drew ?_ | with_reducible refine World.ownsRow.alloc ?_ _)); done))); (focus (focus ((repeat (first | with_reducible assumption | (with_reducible refine blk_new ?hkx; case hkx => (first | with_reducible rfl | (simp only [World.size_alloc]))) | with_reducible refine blk_drew ?_ | with_reducible refine blk_alloc ?_ _)); done)))))) | (refine (fun (hbx8 : w8.heap[(w6.heap.size + 1 : Nat)]? = some (.cells #[.slice none 0 0, .slice none 0 0] 25)) => ?_) ?hh; (case hh => (refine blk_grown_own (base := w6.heap.size) (e := 38) (size := 6) (n := p.m.len) (xs := csM) ?_ hgrow2 ?_ (by decide); (focus (focus ((repeat (first | with_reducible assumption | (with_reducible refine made_in ?hkx ?hky; (case hkx => (first | with_reducible rfl | (simp only [World.size_alloc]))); (case hky => omega)) | with_reducible refine own_drew ?_ | with_reducible refine World.ownsRow.alloc ?_ _)); done))); (focus (focus ((repeat (first | with_reducible assumption | (with_reducible refine blk_new ?hkx; case hkx => (first | with_reducible rfl | (simp only [World.size_alloc]))) | with_reducible refine blk_drew ?_ | with_reducible refine blk_alloc ?_ _)); done)))))) | (refine (fun (hbx8 : w8.heap[(w7.heap.size : Nat)]? = some (.cells #[.slice none 0 0, .slice none 0 0] 25)) => ?_) ?hh; (case hh => (refine blk_grown_own (base := w6.heap.size) (e := 38) (size := 6) (n := p.m.len) (xs := csM) ?_ hgrow2 ?_ (by decide); (focus (focus ((repeat (first | with_reducible assumption | (with_reducible refine made_in ?hkx ?hky; (case hkx => (first | with_reducible rfl | (simp only [World.size_alloc]))); (case hky => omega)) | with_reducible refine own_drew ?_ | with_reducible refine World.ownsRow.alloc ?_ _)); done))); (focus (focus ((repeat (first | with_reducible assumption | (with_reducible refine blk_new ?hkx; case hkx => (first | with_reducible rfl | (simp only [World.size_alloc]))) | with_reducible refine blk_drew ?_ | with_reducible refine blk_alloc ?_ _)); done)))))) | skip); (first | (have c40 := blk_cell hbx8 0; have c41 := blk_cell hbx8 1; have f40 := blk_frozen hbx8 0; have f41 := blk_frozen hbx8 1; simp at c40 c41) | skip)); obtain ⟨A2, cap2, rfl⟩ := own_form hown2))
    all_goals
      go_wp2_with fail
      go_meet
      first
        | exact ⟨_, _, _, rfl, fin_alloc hb8 hown2⟩
        | exact ⟨_, _, _, rfl, fin_set hb8 (by omega) hbx8 (by decide) hown2⟩
  case rest =>
  obtain ⟨kb, A2, cap2, rfl, hk0, hk1, ck0, ck1, hown, _, hbw⟩ := hcut
  have hFw : Fr w wc := FW wc (hb6.trans (hbw.mono hs6))
  have hbW : Below w1.heap.size w1 wc := hb6.trans (hbw.mono hs6)
  have hBw : w6.heap.size ≤ wc.heap.size := hbw.size
  have hcw := SS.Cells.app (SS.Cells.below hbw hBw hcQ) (SS.Cells.below hbw hBw hcM)
  have hm2 : SV wc.heap.size wc (.slice A2 (p.m.len + q.m.len) cap2) (p.m.app q.m) := own_sv hown hcw (SS.app_len _ _).symm
  have hpm : PgV wc.heap.size wc (.agg #[.slice none 0 0, .slice A2 (p.m.len + q.m.len) cap2]) ⟨[], p.m.app q.m⟩ := by
    refine ⟨none, 0, A2, cap2, by rw [SS.app_len]; rfl, hnil wc, ?_⟩
    show SV _ _ (.slice A2 (p.m.app q.m).len cap2) _
    rw [SS.app_len]
    exact hm2
  obtain ⟨_, l8, x8, x8', g8, _⟩ := bx8.step hbw
  obtain ⟨_, l9, x9, x9', g9, _⟩ := bx9.step hbw
  obtain ⟨_, l10, x10, x10', g10, _⟩ := bx10.step hbw
  obtain ⟨z0, z1, z2, z3, _⟩ := CS wc hbW
  have hgw : g + 1 < wc.heap.size := by have := hbW.size; omega
  have CS8 : ∀ W, Below wc.heap.size wc W → (W.cell? ⟨g, 0, none⟩ = some (.slice A p.fs.length cap) ∧ W.cell? ⟨g, 1, none⟩ = some (.slice X p.m.len capx) ∧ W.cell? ⟨g + 1, 0, none⟩ = some (.slice A' q.fs.length cap') ∧ W.cell? ⟨g + 1, 1, none⟩ = some (.slice X' q.m.len capx') ∧ W.cell? ⟨k8, 0, none⟩ = some (.slice A8 n8 c8) ∧ W.cell? ⟨k8, 1, none⟩ = some (.slice A8' n8' c8') ∧ W.cell? ⟨k9, 0, none⟩ = some (.slice A9 n9 c9) ∧ W.cell? ⟨k9, 1, none⟩ = some (.slice A9' n9' c9') ∧ W.cell? ⟨k10, 0, none⟩ = some (.slice A10 n10 c10) ∧ W.cell? ⟨k10, 1, none⟩ = some (.slice A10' n10' c10') ∧ W.cell? ⟨kb, 0, none⟩ = some (.slice none 0 0) ∧ W.cell? ⟨kb, 1, none⟩ = some (.slice A2 (p.m.len + q.m.len) cap2) ∧ Below wc.heap.size wc W) := by
    intro W hb
    exact ⟨(hb.cell (p := ⟨g, 0, none⟩) (show g < wc.heap.size by omega)).trans z0, (hb.cell (p := ⟨g, 1, none⟩) (show g < wc.heap.size by omega)).trans z1, (hb.cell (p := ⟨g + 1, 0, none⟩) hgw).trans z2, (hb.cell (p := ⟨g + 1, 1, none⟩) hgw).trans z3, (hb.cell (p := ⟨k8, 0, none⟩) l8).trans x8, (hb.cell (p := ⟨k8, 1, none⟩) l8).trans x8', (hb.cell (p := ⟨k9, 0, none⟩) l9).trans x9, (hb.cell (p := ⟨k9, 1, none⟩) l9).trans x9', (hb.cell (p := ⟨k10, 0, none⟩) l10).trans x10, (hb.cell (p := ⟨k10, 1, none⟩) l10).trans x10', (hb.cell (p := ⟨kb, 0, none⟩) hk1).trans ck0, (hb.cell (p := ⟨kb, 1, none⟩) hk1).trans ck1, hb⟩
  have K : ∀ {f : FuncId} {args : Array Value} {r : Value}, (∀ W, Below wc.heap.size wc W → Calls Tryd.prog f args W fun e w' => e = .returned r ∧ Below W.heap.size W w') → ∀ W, Below wc.heap.size wc W → Calls Tryd.prog f args W fun e w' => e = .returned r ∧ w'.cell? ⟨g, 0, none⟩ = some (.slice A p.fs.length cap) ∧ w'.cell? ⟨g, 1, none⟩ = some (.slice X p.m.len capx) ∧ w'.cell? ⟨g + 1, 0, none⟩ = some (.slice A' q.fs.length cap') ∧ w'.cell? ⟨g + 1, 1, none⟩ = some (.slice X' q.m.len capx') ∧ w'.cell? ⟨k8, 0, none⟩ = some (.slice A8 n8 c8) ∧ w'.cell? ⟨k8, 1, none⟩ = some (.slice A8' n8' c8') ∧ w'.cell? ⟨k9, 0, none⟩ = some (.slice A9 n9 c9) ∧ w'.cell? ⟨k9, 1, none⟩ = some (.slice A9' n9' c9') ∧ w'.cell? ⟨k10, 0, none⟩ = some (.slice A10 n10 c10) ∧ w'.cell? ⟨k10, 1, none⟩ = some (.slice A10' n10' c10') ∧ w'.cell? ⟨kb, 0, none⟩ = some (.slice none 0 0) ∧ w'.cell? ⟨kb, 1, none⟩ = some (.slice A2 (p.m.len + q.m.len) cap2) ∧ Below wc.heap.size wc w' :=
    fun h W hb => (h W hb).mono fun e w' ⟨he, hb'⟩ => ⟨he, CS8 w' (hb.trans (hb'.mono hb.size))⟩
  have G8 := fun W (hb : Below wc.heap.size wc W) => g8.below hb hb.size
  have G9 := fun W (hb : Below wc.heap.size wc W) => g9.below hb hb.size
  have G10 := fun W (hb : Below wc.heap.size wc W) => g10.below hb hb.size
  have GB := fun W (hb : Below wc.heap.size wc W) => hpm.below hb hb.size
  have GP := fun W (hb : Below wc.heap.size wc W) => HPP.out W (hbW.trans (hb.mono hbW.size))
  have GQ := fun W (hb : Below wc.heap.size wc W) => HQM.out W (hbW.trans (hb.mono hbW.size))
  have HD8 := K fun W hb => depth_any _ (dpA p.m) W _ (Nat.le_refl _) (G8 W hb)
  rw [dpA_deep _ (by omega), HD.out] at HD8
  have HS8 := K fun W hb => size_any _ (dpA p.m) W _ (Nat.le_refl _) (G8 W hb)
  rw [dpA_cnt _ (by omega), HN.out] at HS8
  have HD9 := K fun W hb => depth_any _ (dpB p.m) W _ (Nat.le_refl _) (G9 W hb)
  rw [dpB_deep _ (by omega), HD.out] at HD9
  have HS9 := K fun W hb => size_any _ (dpB p.m) W _ (Nat.le_refl _) (G9 W hb)
  rw [dpB_cnt _ (by omega), HN.out] at HS9
  have HD10 := K fun W hb => depth_any _ (dpC p.m) W _ (Nat.le_refl _) (G10 W hb)
  rw [dpC_deep, HD.out] at HD10
  have HS10 := K fun W hb => size_any _ (dpC p.m) W _ (Nat.le_refl _) (G10 W hb)
  rw [dpC_cnt _ (by omega), HN.out] at HS10
  have HDb := K fun W hb => depth_any _ ⟨[], p.m.app q.m⟩ W _ (Nat.le_refl _) (GB W hb)
  rw [mn_deep, app_deep, HD.out] at HDb
  have HSb := K fun W hb => size_any _ ⟨[], p.m.app q.m⟩ W _ (Nat.le_refl _) (GB W hb)
  rw [mn_cnt _ (by rw [app_cnt]; omega), app_cnt, HN.out] at HSb
  have HDq := K fun W hb => depth_any _ ⟨[], q.m⟩ W _ (Nat.le_refl _) (GQ W hb)
  rw [mn_deep] at HDq
  have HSq := K fun W hb => size_any _ ⟨[], q.m⟩ W _ (Nat.le_refl _) (GQ W hb)
  rw [mn_cnt _ (by omega)] at HSq
  have HDp := K fun W hb => depth_any _ p W _ (Nat.le_refl _) (GP W hb)
  have HSp := K fun W hb => size_any _ p W _ (Nat.le_refl _) (GP W hb)
  have hdp := pg_deep p
  have hsp := pg_cnt p (by omega)
  have hd0 := SS.deep_nn p.m
  have hd1 := SS.deep_le p.m (by omega)
  rw [HD.out] at hdp hd0 hd1
  rw [HN.out] at hsp hd1
  obtain ⟨dp, hdpe⟩ : ∃ dp, deepL p.pts = dp := ⟨_, rfl⟩
  obtain ⟨sp, hspe⟩ : ∃ sp, wrap64 (cntL p.pts) = sp := ⟨_, rfl⟩
  obtain ⟨dq, hdqe⟩ : ∃ dq, q.m.deep = dq := ⟨_, rfl⟩
  obtain ⟨nq, hnqe⟩ : ∃ nq, q.m.cnt = nq := ⟨_, rfl⟩
  obtain ⟨md, hmd⟩ : ∃ md, max d 1 = md := ⟨_, rfl⟩
  obtain ⟨mq, hmq⟩ : ∃ mq, max d dq = mq := ⟨_, rfl⟩
  rw [hdpe] at HDp hdp
  rw [hspe] at HSp hsp
  rw [hdqe] at HDb HDq
  rw [hnqe] at HSb HSq
  rw [hmd] at HD8 HD9
  rw [hmq] at HDb
  have hn1 : n ≤ 1048576 := by have := HN.out; omega
  have hq1 : nq ≤ 1048576 := by omega
  have hmd1 : 1 ≤ md ∧ md ≤ 1048577 := by omega
  clear hdpe hspe hdqe hnqe K G8 G9 G10 GB GP GQ g8 g9 g10 bx8 bx9 bx10 hcw hm2 hpm hown
  have hw1 : IntKind.i64.wrap (md + 1) = md + 1 := IntWalk.i64_in _ (by omega)
  have hw2 : IntKind.i64.wrap ((n : Int) + 2) = (n : Int) + 2 := IntWalk.i64_in _ (by omega)
  have hw3 : IntKind.i64.wrap ((n : Int) + (nq : Int)) = (n : Int) + (nq : Int) := IntWalk.i64_in _ (by omega)
  have ZZ : Below wc.heap.size wc wc := Below.refl _ _
  go_upto_region 10 with (first
    | (go_at_call 14; ((with_reducible refine (HD8 _ (by assumption)).mono ?_); rintro e w9 ⟨rfl, y0, y1, y2, y3, y4, y5, y6, y7, y8, y9, y10, y11, y12⟩))
    | (go_at_call 16; ((with_reducible refine (HS8 _ (by assumption)).mono ?_); rintro e w9 ⟨rfl, y0, y1, y2, y3, y4, y5, y6, y7, y8, y9, y10, y11, y12⟩))
    | (go_at_call 14; ((with_reducible refine (HD9 _ (by assumption)).mono ?_); rintro e w9 ⟨rfl, y0, y1, y2, y3, y4, y5, y6, y7, y8, y9, y10, y11, y12⟩))
    | (go_at_call 16; ((with_reducible refine (HS9 _ (by assumption)).mono ?_); rintro e w9 ⟨rfl, y0, y1, y2, y3, y4, y5, y6, y7, y8, y9, y10, y11, y12⟩))
    | (go_at_call 14; ((with_reducible refine (HD10 _ (by assumption)).mono ?_); rintro e w9 ⟨rfl, y0, y1, y2, y3, y4, y5, y6, y7, y8, y9, y10, y11, y12⟩))
    | (go_at_call 16; ((with_reducible refine (HS10 _ (by assumption)).mono ?_); rintro e w9 ⟨rfl, y0, y1, y2, y3, y4, y5, y6, y7, y8, y9, y10, y11, y12⟩)))
  clear HD8 HS8 HD9 HS9 HD10 HS10 hw1 hw2
  simp only [Int.natCast_add] at HSb
  have hge1 : decide (d ≤ dp) = true := decide_eq_true hdp
  have hge2 : decide ((n : Int) ≤ sp) = true := decide_eq_true hsp
  have y12d := belowD y12
  go_region_held3 (fun W => W.cell? ⟨g, 0, none⟩ = some (.slice A p.fs.length cap) ∧ W.cell? ⟨g, 1, none⟩ = some (.slice X p.m.len capx) ∧ W.cell? ⟨g + 1, 0, none⟩ = some (.slice A' q.fs.length cap') ∧ W.cell? ⟨g + 1, 1, none⟩ = some (.slice X' q.m.len capx') ∧ W.cell? ⟨k8, 0, none⟩ = some (.slice A8 n8 c8) ∧ W.cell? ⟨k8, 1, none⟩ = some (.slice A8' n8' c8') ∧ W.cell? ⟨k9, 0, none⟩ = some (.slice A9 n9 c9) ∧ W.cell? ⟨k9, 1, none⟩ = some (.slice A9' n9' c9') ∧ W.cell? ⟨k10, 0, none⟩ = some (.slice A10 n10 c10) ∧ W.cell? ⟨k10, 1, none⟩ = some (.slice A10' n10' c10') ∧ W.cell? ⟨kb, 0, none⟩ = some (.slice none 0 0) ∧ W.cell? ⟨kb, 1, none⟩ = some (.slice A2 (p.m.len + q.m.len) cap2) ∧ Below wc.heap.size wc W)
    (first | exact CS8 _ (by assumption) | exact ⟨v0, v1, v2, v3, v4, v5, v6, v7, v8, v9, v10, v11, v12⟩ | go_keep)
    (first
        | (go_at_call 14; with_reducible refine (HDb _ (by assumption)).mono ?_; rintro e w9' ⟨rfl, v0, v1, v2, v3, v4, v5, v6, v7, v8, v9, v10, v11, v12⟩)
        | (go_at_call 14; with_reducible refine (HDq _ (by assumption)).mono ?_; rintro e w9' ⟨rfl, v0, v1, v2, v3, v4, v5, v6, v7, v8, v9, v10, v11, v12⟩)
        | (go_at_call 14; with_reducible refine (HDp _ (by assumption)).mono ?_; rintro e w9' ⟨rfl, v0, v1, v2, v3, v4, v5, v6, v7, v8, v9, v10, v11, v12⟩)
        | (go_at_call 16; with_reducible refine (HSb _ (by assumption)).mono ?_; rintro e w9' ⟨rfl, v0, v1, v2, v3, v4, v5, v6, v7, v8, v9, v10, v11, v12⟩)
        | (go_at_call 16; with_reducible refine (HSq _ (by assumption)).mono ?_; rintro e w9' ⟨rfl, v0, v1, v2, v3, v4, v5, v6, v7, v8, v9, v10, v11, v12⟩)
        | (go_at_call 16; with_reducible refine (HSp _ (by assumption)).mono ?_; rintro e w9' ⟨rfl, v0, v1, v2, v3, v4, v5, v6, v7, v8, v9, v10, v11, v12⟩))
  go_wp2
  go_ret
  refine ⟨rfl, Below.trans hF (Below.mono (hbW.trans (Below.mono ?_ hbW.size)) hB)⟩
  assumption

end Go.Proofs.YtnjghoaelcpljaaDoor
