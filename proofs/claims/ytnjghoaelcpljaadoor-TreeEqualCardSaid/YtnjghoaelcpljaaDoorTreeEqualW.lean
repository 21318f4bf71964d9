/-
  TreeEqual: the statement's function, walked.
-/
import Derived.Test.YtnjghoaelcpljaaDoorTreeCg
import Derived.Test.YtnjghoaelcpljaaDoorTreeS
import Derived.Deep.RegionHeld3
import Derived.Deep.DeepCutAuto
namespace Go.Proofs.YtnjghoaelcpljaaDoor
open Go Go.RowKit Go.Lib

theorem sv_none {B : Nat} {W : World} {n cap : Nat} {l : SS} (h : SV B W (.slice none n cap) l) : l.len = 0 := by
  obtain ⟨A, c, e, _, _, hr⟩ := h
  injection e with e1 _ _
  subst e1
  rcases Nat.eq_zero_or_pos l.len with h | h
  · exact h
  · obtain ⟨_, _, h, _⟩ := hr h
    cases h

theorem sv_none' {B : Nat} {W : World} {A : Option Addr} {n cap : Nat} {l : SS} (h : SV B W (.slice A n cap) l) (e : A = none) : l.len = 0 := by subst e; exact sv_none h
theorem six_new {wr : World} {t : TypeId} {a b c d e f : Value} : ∀ j u, [a, b, c, d, e, f][j]? = some u → (wr.alloc (.cells #[a, b, c, d, e, f] t)).cell? ((⟨wr.heap.size, 0, none⟩ : Addr).add j) = some u := by
  intro j u hj
  rw [at_add, cell_new]
  simpa using hj
theorem six_one {op n : Int} {s : ByteArray} {A A' A'' : Option Addr} {k k' k'' c c' c'' : Nat} : ∀ u ∈ [Value.int .i64 op, .string s, .int .i64 n, .slice A k c, .slice A' k' c', .slice A'' k'' c''], u.oneCell' = true := by
  intro u hu
  simp at hu
  rcases hu with rfl | rfl | rfl | rfl | rfl | rfl <;> rfl


/-- Three boxes' cells. -/
def TS6 (W0 : World) (g k : Nat) (a b c d e f : Value) (w : World) : Prop :=
  w.cell? ⟨g, 0, none⟩ = some a ∧ w.cell? ⟨g, 1, none⟩ = some b ∧ w.cell? ⟨g + 1, 0, none⟩ = some c ∧ w.cell? ⟨g + 1, 1, none⟩ = some d ∧ w.cell? ⟨k, 0, none⟩ = some e ∧ w.cell? ⟨k, 1, none⟩ = some f ∧ Below W0.heap.size W0 w
theorem TS6.step {W0 : World} {g k : Nat} {a b c d e f : Value} {w w' : World} (h : TS6 W0 g k a b c d e f W0) (hg : g + 1 < W0.heap.size) (hk : k < W0.heap.size) (hb : Below W0.heap.size W0 w) (hb' : Below w.heap.size w w') : TS6 W0 g k a b c d e f w' := by
  have hq := hb.trans (hb'.mono hb.size)
  obtain ⟨h0, h1, h2, h3, h4, h5, _⟩ := h
  exact ⟨(hq.cell (p := ⟨g, 0, none⟩) (show g < W0.heap.size by omega)).trans h0, (hq.cell (p := ⟨g, 1, none⟩) (show g < W0.heap.size by omega)).trans h1, (hq.cell (p := ⟨g + 1, 0, none⟩) hg).trans h2, (hq.cell (p := ⟨g + 1, 1, none⟩) hg).trans h3, (hq.cell (p := ⟨k, 0, none⟩) hk).trans h4, (hq.cell (p := ⟨k, 1, none⟩) hk).trans h5, hq⟩

set_option maxRecDepth 100000 in
set_option maxHeartbeats 1500000 in
theorem equal_walk (p q : Pg) (A : Option Addr) (cap : Nat) (X : Option Addr) (capx : Nat) (A' : Option Addr) (cap' : Nat) (X' : Option Addr) (capx' : Nat) (op : Int) (s : ByteArray) (n : Int) (vl : Value) (l : ES) (vx : Value) (x : SS) (vy : Value) (y : SS) (w : World)
    (hvF : FV w.heap.size w (.slice A p.fs.length cap) p.fs) (hvM : SV w.heap.size w (.slice X p.m.len capx) p.m) (hv' : PgV w.heap.size w (.agg #[.slice A' q.fs.length cap', .slice X' q.m.len capx']) q)
    (hl : EV w.heap.size w vl l) (hx : SV w.heap.size w vx x) (hy : SV w.heap.size w vy y) (hr : I64 op ∧ I64 n ∧ s.size ≤ 9223372036854775807)
    (hA : A = none → cap = 0) (hX : X = none → capx = 0) (hnm : ∀ b o s, A = some ⟨b, o, none⟩ → 0 < p.fs.length → w.cell? ⟨b, o, none⟩ = some (.string s) → s.size ≤ reachBytes) (h64 : p.fs.length * 64 ≤ reachBytes) (h104 : p.m.len * 104 ≤ reachBytes) (ht : Tab w) :
    Calls Tryd.prog 6 #[.agg #[.slice A p.fs.length cap, .slice X p.m.len capx], .agg #[.slice A' q.fs.length cap', .slice X' q.m.len capx'], .agg #[.int .i64 op, .string s, .int .i64 n, vl, vx, vy]] w fun e w' => e = .returned (.bool true) ∧ Below w.heap.size w w' := by
  have h0 := Fr.refl w
  obtain ⟨i0, hi, hz0, hz1, hz2⟩ := info_parts stmtInfo
  have hW : ∀ C C' C'', Fr w (((w.alloc C).alloc C').alloc C'') := fun C C' C'' => ((h0.alloc C).alloc C').alloc C''
  have HW := Lib.hid hW; clear hW
  have HT := Lib.hid (fun W (hb : Fr w W) => ht.step hb)
  clear ht
  obtain ⟨Al, cl, nl, rfl⟩ : ∃ A n c, vl = .slice A n c := by obtain ⟨A, c, e, _⟩ := hl; exact ⟨_, _, _, e⟩
  obtain ⟨Ax, cx, nx, rfl⟩ : ∃ A n c, vx = .slice A n c := by obtain ⟨A, c, e, _⟩ := hx; exact ⟨_, _, _, e⟩
  obtain ⟨Ay, cy, ny, rfl⟩ : ∃ A n c, vy = .slice A n c := by obtain ⟨A, c, e, _⟩ := hy; exact ⟨_, _, _, e⟩
  go_enter Tryd.func6, Tryd.ntmps6
  go_upto_region 2 with (go_at_call 11; ((with_reducible refine (shown_fr _ _ (HT.out _ (HW.out _ _ _)) (Fr.refl _)).mono ?_); rintro e w1 ⟨rfl, h1⟩))
  obtain ⟨g, hg⟩ : ∃ g, w.heap.size = g := ⟨_, rfl⟩
  have hz1' : g + 2 < w1.heap.size := by have := h1.size; simp at this; omega
  have blk1 : ∀ (o1 o2 o3 : Obj), Below w.heap.size.succ (w.alloc o1) (((w.alloc o1).alloc o2).alloc o3) := fun o1 o2 o3 => ((Below.refl _ _).alloc (by simp) o2).alloc (by simp) o3
  have blk2 : ∀ (o1 o2 o3 : Obj), Below (w.heap.size + 2) ((w.alloc o1).alloc o2) (((w.alloc o1).alloc o2).alloc o3) := fun o1 o2 o3 => (Below.refl _ _).alloc (by simp) o3
  have b0 : w1.cell? ⟨g, 0, none⟩ = some (.slice A p.fs.length cap) := by
    rw [← hg]
    exact (h1.cell (p := ⟨w.heap.size, 0, none⟩) (show w.heap.size < _ by simp; omega)).trans (((blk1 _ _ _).cell (p := ⟨w.heap.size, 0, none⟩) (Nat.lt_succ_self _)).trans (cell_new w _ _ 0))
  have b1 : w1.cell? ⟨g, 1, none⟩ = some (.slice X p.m.len capx) := by
    rw [← hg]
    exact (h1.cell (p := ⟨w.heap.size, 1, none⟩) (show w.heap.size < _ by simp; omega)).trans (((blk1 _ _ _).cell (p := ⟨w.heap.size, 1, none⟩) (Nat.lt_succ_self _)).trans (cell_new w _ _ 1))
  have hn := cell_new (w.alloc (.cells #[.slice A p.fs.length cap, .slice X p.m.len capx] 25)) #[.slice A' q.fs.length cap', .slice X' q.m.len capx'] 25
  rw [World.size_alloc] at hn
  have b2 : w1.cell? ⟨g + 1, 0, none⟩ = some (.slice A' q.fs.length cap') := by
    rw [← hg]
    exact (h1.cell (p := ⟨w.heap.size + 1, 0, none⟩) (show w.heap.size + 1 < _ by simp)).trans (((blk2 _ _ _).cell (p := ⟨w.heap.size + 1, 0, none⟩) (Nat.lt_succ_self _)).trans (hn 0))
  have b3 : w1.cell? ⟨g + 1, 1, none⟩ = some (.slice X' q.m.len capx') := by
    rw [← hg]
    exact (h1.cell (p := ⟨w.heap.size + 1, 1, none⟩) (show w.heap.size + 1 < _ by simp)).trans (((blk2 _ _ _).cell (p := ⟨w.heap.size + 1, 1, none⟩) (Nat.lt_succ_self _)).trans (hn 1))
  have hm := cell_new ((w.alloc (.cells #[.slice A p.fs.length cap, .slice X p.m.len capx] 25)).alloc (.cells #[.slice A' q.fs.length cap', .slice X' q.m.len capx'] 25)) #[.int .i64 op, .string s, .int .i64 n, .slice Al cl nl, .slice Ax cx nx, .slice Ay cy ny] 38
  rw [World.size_alloc, World.size_alloc] at hm
  have b4 : ∀ i, w1.cell? ⟨g + 2, i, none⟩ = #[Value.int .i64 op, .string s, .int .i64 n, .slice Al cl nl, .slice Ax cx nx, .slice Ay cy ny][i]? := by
    intro i
    rw [← hg]
    exact (h1.cell (p := ⟨w.heap.size + 2, i, none⟩) (show w.heap.size + 2 < _ by simp)).trans (hm i)
  have d0 : w1.cell? ⟨g + 2, 0, none⟩ = some (.int .i64 op) := b4 0
  have d1 : w1.cell? ⟨g + 2, 1, none⟩ = some (.string s) := b4 1
  have d2 : w1.cell? ⟨g + 2, 2, none⟩ = some (.int .i64 n) := b4 2
  have d3 : w1.cell? ⟨g + 2, 3, none⟩ = some (.slice Al cl nl) := b4 3
  have d4 : w1.cell? ⟨g + 2, 4, none⟩ = some (.slice Ax cx nx) := b4 4
  have d5 : w1.cell? ⟨g + 2, 5, none⟩ = some (.slice Ay cy ny) := b4 5
  have hF : Fr w w1 := (HW.out _ _ _).trans (Below.mono h1 (by simp; omega))
  have hB : w.heap.size ≤ w1.heap.size := hF.size
  have F0 : Below w1.heap.size w1 w1.drew := ⟨rfl, rfl, rfl, Nat.le_refl _, fun _ _ => rfl⟩
  have hM1 : SV w.heap.size w1 (.slice X p.m.len capx) p.m := SV.below hvM hF (Nat.le_refl _)
  obtain ⟨_, csM, hcM, hqM⟩ := sv_news hM1
  have hnM : csM.length = p.m.len * 6 := hcM.len
  have h1M := hcM.one
  have CN : ∀ W, Below w1.heap.size w1 W → ∀ ad, X = some ad → ∀ j u, csM[j]? = some u → W.cell? (ad.add j) = some u := by
    intro W hb ad e j u hu
    have h := hqM ad e j u hu
    exact (hb.cell (p := ad.add j) (lt_of_cell h)).trans h
  have CS : ∀ W, Below w1.heap.size w1 W → (W.cell? ⟨g, 0, none⟩ = some (.slice A p.fs.length cap) ∧ W.cell? ⟨g, 1, none⟩ = some (.slice X p.m.len capx) ∧ W.cell? ⟨g + 2, 0, none⟩ = some (.int .i64 op) ∧ W.cell? ⟨g + 2, 1, none⟩ = some (.string s) ∧ W.cell? ⟨g + 2, 2, none⟩ = some (.int .i64 n) ∧ W.cell? ⟨g + 2, 3, none⟩ = some (.slice Al cl nl) ∧ W.cell? ⟨g + 2, 4, none⟩ = some (.slice Ax cx nx) ∧ W.cell? ⟨g + 2, 5, none⟩ = some (.slice Ay cy ny) ∧ Below w1.heap.size w1 W) := by
    intro W hb
    exact ⟨(hb.cell (p := ⟨g, 0, none⟩) (show g < w1.heap.size by omega)).trans b0, (hb.cell (p := ⟨g, 1, none⟩) (show g < w1.heap.size by omega)).trans b1, (hb.cell (p := ⟨g + 2, 0, none⟩) hz1').trans d0, (hb.cell (p := ⟨g + 2, 1, none⟩) hz1').trans d1, (hb.cell (p := ⟨g + 2, 2, none⟩) hz1').trans d2, (hb.cell (p := ⟨g + 2, 3, none⟩) hz1').trans d3, (hb.cell (p := ⟨g + 2, 4, none⟩) hz1').trans d4, (hb.cell (p := ⟨g + 2, 5, none⟩) hz1').trans d5, hb⟩
  clear blk1 blk2 hn hm h1
  have hsz1 : (p.m.len + 1) * 104 ≤ 140737488355328 := by unfold reachBytes at h104; omega
  have hml : p.m.len + 1 ≤ maxLen := by unfold maxLen; omega
  clear b4
  have F0a : ∀ o, Below w1.heap.size w1 (w1.drew.alloc o) := fun o => F0.alloc (Nat.le_refl _) o
  have HX := Lib.hid hX
  clear hX
  simp only [hg]
  go_cut [8] (fun s8 wx => ∃ kb A2 cap2, s8 = .pointer (some ⟨kb, 0, none⟩) ∧ Fin2 w1 wx 38 6 kb (.slice A p.fs.length cap) (.slice A2 (p.m.len + 1) cap2) (.slice A2 (p.m.len + 1) cap2) (p.m.len + 1) (csM ++ (#[.int .i64 op, .string s, .int .i64 n, .slice Al cl nl, .slice Ax cx nx, .slice Ay cy ny] : Array Value).toList))
  case first =>
    go_region_held3 (fun w' => w'.cell? ⟨g, 0, none⟩ = some (.slice A p.fs.length cap) ∧ w'.cell? ⟨g, 1, none⟩ = some (.slice X p.m.len capx) ∧ w'.cell? ⟨g + 2, 0, none⟩ = some (.int .i64 op) ∧ w'.cell? ⟨g + 2, 1, none⟩ = some (.string s) ∧ w'.cell? ⟨g + 2, 2, none⟩ = some (.int .i64 n) ∧ w'.cell? ⟨g + 2, 3, none⟩ = some (.slice Al cl nl) ∧ w'.cell? ⟨g + 2, 4, none⟩ = some (.slice Ax cx nx) ∧ w'.cell? ⟨g + 2, 5, none⟩ = some (.slice Ay cy ny) ∧ Below w1.heap.size w1 w')
      (exact CS _ (by (focus ((repeat (first | with_reducible assumption | with_reducible exact Below.refl _ _ | with_reducible refine belowD ?_ | with_reducible refine belowA ?_ _ | (with_reducible refine belowS ?_ ?hkx _; case hkx => first | assumption | omega))); done))))
      (first
        | (refine step_append_own rfl (.tmp 13) (.tmp 15) 23 rfl w1.heap.size 38 i0 _ 6 104 Tryd.underlying23 hi hz0 hz1 hz2 rfl (by decide) (.slice (some ⟨w1.heap.size, 0, none⟩) 0 0) 0 [] rfl ?gown X p.m.len capx csM rfl (fun e => ⟨sv_none' hM1 e, HX.out e⟩) hnM ?gnews h1M (by omega) (by omega) ?gbase ?_; (case gown => (focus ((repeat (first | with_reducible assumption | (with_reducible refine made_in ?hkx ?hky; (case hkx => (first | with_reducible rfl | (simp only [World.size_alloc]))); (case hky => omega)) | with_reducible refine own_drew ?_ | with_reducible refine World.ownsRow.alloc ?_ _)); done))); (case gnews => (refine CN _ ?_; (focus ((repeat (first | with_reducible assumption | with_reducible exact Below.refl _ _ | with_reducible refine belowD ?_ | with_reducible refine belowA ?_ _ | (with_reducible refine belowS ?_ ?hkx _; case hkx => first | assumption | omega))); done)))); (case gbase => (refine Below.size (B := w1.heap.size) (w := w1) ?_; (focus ((repeat (first | with_reducible assumption | with_reducible exact Below.refl _ _ | with_reducible refine belowD ?_ | with_reducible refine belowA ?_ _ | (with_reducible refine belowS ?_ ?hkx _; case hkx => first | assumption | omega))); done)))); intro v1 w3 hown1 hgrow1; have hb3 : Below w1.heap.size w1 w3 := grown_below (by (focus ((repeat (first | with_reducible assumption | with_reducible exact Below.refl _ _ | with_reducible refine belowD ?_ | with_reducible refine belowA ?_ _ | (with_reducible refine belowS ?_ ?hkx _; case hkx => first | assumption | omega))); done))) (v := .slice (some ⟨w1.heap.size, 0, none⟩) 0 0) (n := 0) (xs := []) (base := w1.heap.size) (e := 38) (size := 6) (by (focus ((repeat (first | with_reducible assumption | (with_reducible refine made_in ?hkx ?hky; (case hkx => (first | with_reducible rfl | (simp only [World.size_alloc]))); (case hky => omega)) | with_reducible refine own_drew ?_ | with_reducible refine World.ownsRow.alloc ?_ _)); done))) (Nat.le_refl _) hgrow1; rw [Nat.zero_add, List.nil_append] at hown1; have hs3 := hb3.size; (first | (refine (fun (hst3 : w3.heap[(w1.heap.size + 1 : Nat)]? = some (.cells #[.int .i64 op, .string s, .int .i64 n, .slice Al cl nl, .slice Ax cx nx, .slice Ay cy ny] 38)) => ?_) ?hhst3; (case hhst3 => (refine blk_grown ?_ hgrow1 ?_; (focus (focus ((repeat (first | with_reducible assumption | (with_reducible refine blk_new ?hkx; case hkx => (first | with_reducible rfl | (simp only [World.size_alloc]))) | with_reducible refine blk_drew ?_ | with_reducible refine blk_alloc ?_ _)); done))); (focus ((simp only [Value.ownBlock, ne_eq, Option.some.injEq]); omega))))) | (refine (fun (hst3 : w3.heap[(w1.heap.size + 1 + 1 : Nat)]? = some (.cells #[.int .i64 op, .string s, .int .i64 n, .slice Al cl nl, .slice Ax cx nx, .slice Ay cy ny] 38)) => ?_) ?hhst3; (case hhst3 => (refine blk_grown ?_ hgrow1 ?_; (focus (focus ((repeat (first | with_reducible assumption | (with_reducible refine blk_new ?hkx; case hkx => (first | with_reducible rfl | (simp only [World.size_alloc]))) | with_reducible refine blk_drew ?_ | with_reducible refine blk_alloc ?_ _)); done))); (focus ((simp only [Value.ownBlock, ne_eq, Option.some.injEq]); omega))))) | skip); (first | (refine (fun (hbx3 : w3.heap[(w1.heap.size + 1 : Nat)]? = some (.cells #[.slice none 0 0, .slice none 0 0] 25)) => ?_) ?hhbx3; (case hhbx3 => (refine blk_grown ?_ hgrow1 ?_; (focus (focus ((repeat (first | with_reducible assumption | (with_reducible refine blk_new ?hkx; case hkx => (first | with_reducible rfl | (simp only [World.size_alloc]))) | with_reducible refine blk_drew ?_ | with_reducible refine blk_alloc ?_ _)); done))); (focus ((simp only [Value.ownBlock, ne_eq, Option.some.injEq]); omega))))) | (refine (fun (hbx3 : w3.heap[(w1.heap.size + 1 + 1 : Nat)]? = some (.cells #[.slice none 0 0, .slice none 0 0] 25)) => ?_) ?hhbx3; (case hhbx3 => (refine blk_grown ?_ hgrow1 ?_; (focus (focus ((repeat (first | with_reducible assumption | (with_reducible refine blk_new ?hkx; case hkx => (first | with_reducible rfl | (simp only [World.size_alloc]))) | with_reducible refine blk_drew ?_ | with_reducible refine blk_alloc ?_ _)); done))); (focus ((simp only [Value.ownBlock, ne_eq, Option.some.injEq]); omega))))) | skip))
        | (refine step_append_own rfl (.tmp 13) (.tmp 15) 23 rfl w1.heap.size 38 i0 _ 6 104 Tryd.underlying23 hi hz0 hz1 hz2 rfl (by decide) (.slice (some ⟨w1.heap.size + 1, 0, none⟩) 0 0) 0 [] rfl ?gown X p.m.len capx csM rfl (fun e => ⟨sv_none' hM1 e, HX.out e⟩) hnM ?gnews h1M (by omega) (by omega) ?gbase ?_; (case gown => (focus ((repeat (first | with_reducible assumption | (with_reducible refine made_in ?hkx ?hky; (case hkx => (first | with_reducible rfl | (simp only [World.size_alloc]))); (case hky => omega)) | with_reducible refine own_drew ?_ | with_reducible refine World.ownsRow.alloc ?_ _)); done))); (case gnews => (refine CN _ ?_; (focus ((repeat (first | with_reducible assumption | with_reducible exact Below.refl _ _ | with_reducible refine belowD ?_ | with_reducible refine belowA ?_ _ | (with_reducible refine belowS ?_ ?hkx _; case hkx => first | assumption | omega))); done)))); (case gbase => (refine Below.size (B := w1.heap.size) (w := w1) ?_; (focus ((repeat (first | with_reducible assumption | with_reducible exact Below.refl _ _ | with_reducible refine belowD ?_ | with_reducible refine belowA ?_ _ | (with_reducible refine belowS ?_ ?hkx _; case hkx => first | assumption | omega))); done)))); intro v1 w3 hown1 hgrow1; have hb3 : Below w1.heap.size w1 w3 := grown_below (by (focus ((repeat (first | with_reducible assumption | with_reducible exact Below.refl _ _ | with_reducible refine belowD ?_ | with_reducible refine belowA ?_ _ | (with_reducible refine belowS ?_ ?hkx _; case hkx => first | assumption | omega))); done))) (v := .slice (some ⟨w1.heap.size + 1, 0, none⟩) 0 0) (n := 0) (xs := []) (base := w1.heap.size) (e := 38) (size := 6) (by (focus ((repeat (first | with_reducible assumption | (with_reducible refine made_in ?hkx ?hky; (case hkx => (first | with_reducible rfl | (simp only [World.size_alloc]))); (case hky => omega)) | with_reducible refine own_drew ?_ | with_reducible refine World.ownsRow.alloc ?_ _)); done))) (Nat.le_refl _) hgrow1; rw [Nat.zero_add, List.nil_append] at hown1; have hs3 := hb3.size; (first | (refine (fun (hst3 : w3.heap[(w1.heap.size : Nat)]? = some (.cells #[.int .i64 op, .string s, .int .i64 n, .slice Al cl nl, .slice Ax cx nx, .slice Ay cy ny] 38)) => ?_) ?hhst3; (case hhst3 => (refine blk_grown ?_ hgrow1 ?_; (focus (focus ((repeat (first | with_reducible assumption | (with_reducible refine blk_new ?hkx; case hkx => (first | with_reducible rfl | (simp only [World.size_alloc]))) | with_reducible refine blk_drew ?_ | with_reducible refine blk_alloc ?_ _)); done))); (focus ((simp only [Value.ownBlock, ne_eq, Option.some.injEq]); omega))))) | (refine (fun (hst3 : w3.heap[(w1.heap.size + 1 + 1 : Nat)]? = some (.cells #[.int .i64 op, .string s, .int .i64 n, .slice Al cl nl, .slice Ax cx nx, .slice Ay cy ny] 38)) => ?_) ?hhst3; (case hhst3 => (refine blk_grown ?_ hgrow1 ?_; (focus (focus ((repeat (first | with_reducible assumption | (with_reducible refine blk_new ?hkx; case hkx => (first | with_reducible rfl | (simp only [World.size_alloc]))) | with_reducible refine blk_drew ?_ | with_reducible refine blk_alloc ?_ _)); done))); (focus ((simp only [Value.ownBlock, ne_eq, Option.some.injEq]); omega))))) | skip); (first | (refine (fun (hbx3 : w3.heap[(w1.heap.size : Nat)]? = some (.cells #[.slice none 0 0, .slice none 0 0] 25)) => ?_) ?hhbx3; (case hhbx3 => (refine blk_grown ?_ hgrow1 ?_; (focus (focus ((repeat (first | with_reducible assumption | (with_reducible refine blk_new ?hkx; case hkx => (first | with_reducible rfl | (simp only [World.size_alloc]))) | with_reducible refine blk_drew ?_ | with_reducible refine blk_alloc ?_ _)); done))); (focus ((simp only [Value.ownBlock, ne_eq, Option.some.injEq]); omega))))) | (refine (fun (hbx3 : w3.heap[(w1.heap.size + 1 + 1 : Nat)]? = some (.cells #[.slice none 0 0, .slice none 0 0] 25)) => ?_) ?hhbx3; (case hhbx3 => (refine blk_grown ?_ hgrow1 ?_; (focus (focus ((repeat (first | with_reducible assumption | (with_reducible refine blk_new ?hkx; case hkx => (first | with_reducible rfl | (simp only [World.size_alloc]))) | with_reducible refine blk_drew ?_ | with_reducible refine blk_alloc ?_ _)); done))); (focus ((simp only [Value.ownBlock, ne_eq, Option.some.injEq]); omega))))) | skip))
        | (refine step_append_own rfl (.tmp 13) (.tmp 15) 23 rfl w1.heap.size 38 i0 _ 6 104 Tryd.underlying23 hi hz0 hz1 hz2 rfl (by decide) (.slice (some ⟨w1.heap.size + 1 + 1, 0, none⟩) 0 0) 0 [] rfl ?gown X p.m.len capx csM rfl (fun e => ⟨sv_none' hM1 e, HX.out e⟩) hnM ?gnews h1M (by omega) (by omega) ?gbase ?_; (case gown => (focus ((repeat (first | with_reducible assumption | (with_reducible refine made_in ?hkx ?hky; (case hkx => (first | with_reducible rfl | (simp only [World.size_alloc]))); (case hky => omega)) | with_reducible refine own_drew ?_ | with_reducible refine World.ownsRow.alloc ?_ _)); done))); (case gnews => (refine CN _ ?_; (focus ((repeat (first | with_reducible assumption | with_reducible exact Below.refl _ _ | with_reducible refine belowD ?_ | with_reducible refine belowA ?_ _ | (with_reducible refine belowS ?_ ?hkx _; case hkx => first | assumption | omega))); done)))); (case gbase => (refine Below.size (B := w1.heap.size) (w := w1) ?_; (focus ((repeat (first | with_reducible assumption | with_reducible exact Below.refl _ _ | with_reducible refine belowD ?_ | with_reducible refine belowA ?_ _ | (with_reducible refine belowS ?_ ?hkx _; case hkx => first | assumption | omega))); done)))); intro v1 w3 hown1 hgrow1; have hb3 : Below w1.heap.size w1 w3 := grown_below (by (focus ((repeat (first | with_reducible assumption | with_reducible exact Below.refl _ _ | with_reducible refine belowD ?_ | with_reducible refine belowA ?_ _ | (with_reducible refine belowS ?_ ?hkx _; case hkx => first | assumption | omega))); done))) (v := .slice (some ⟨w1.heap.size + 1 + 1, 0, none⟩) 0 0) (n := 0) (xs := []) (base := w1.heap.size) (e := 38) (size := 6) (by (focus ((repeat (first | with_reducible assumption | (with_reducible refine made_in ?hkx ?hky; (case hkx => (first | with_reducible rfl | (simp only [World.size_alloc]))); (case hky => omega)) | with_reducible refine own_drew ?_ | with_reducible refine World.ownsRow.alloc ?_ _)); done))) (Nat.le_refl _) hgrow1; rw [Nat.zero_add, List.nil_append] at hown1; have hs3 := hb3.size; (first | (refine (fun (hst3 : w3.heap[(w1.heap.size : Nat)]? = some (.cells #[.int .i64 op, .string s, .int .i64 n, .slice Al cl nl, .slice Ax cx nx, .slice Ay cy ny] 38)) => ?_) ?hhst3; (case hhst3 => (refine blk_grown ?_ hgrow1 ?_; (focus (focus ((repeat (first | with_reducible assumption | (with_reducible refine blk_new ?hkx; case hkx => (first | with_reducible rfl | (simp only [World.size_alloc]))) | with_reducible refine blk_drew ?_ | with_reducible refine blk_alloc ?_ _)); done))); (focus ((simp only [Value.ownBlock, ne_eq, Option.some.injEq]); omega))))) | (refine (fun (hst3 : w3.heap[(w1.heap.size + 1 : Nat)]? = some (.cells #[.int .i64 op, .string s, .int .i64 n, .slice Al cl nl, .slice Ax cx nx, .slice Ay cy ny] 38)) => ?_) ?hhst3; (case hhst3 => (refine blk_grown ?_ hgrow1 ?_; (focus (focus ((repeat (first | with_reducible assumption | (with_reducible refine blk_new ?hkx; case hkx => (first | with_reducible rfl | (simp only [World.size_alloc]))) | with_reducible refine blk_drew ?_ | with_reducible refine blk_alloc ?_ _)); done))); (focus ((simp only [Value.ownBlock, ne_eq, Option.some.injEq]); omega))))) | skip); (first | (refine (fun (hbx3 : w3.heap[(w1.heap.size : Nat)]? = some (.cells #[.slice none 0 0, .slice none 0 0] 25)) => ?_) ?hhbx3; (case hhbx3 => (refine blk_grown ?_ hgrow1 ?_; (focus (focus ((repeat (first | with_reducible assumption | (with_reducible refine blk_new ?hkx; case hkx => (first | with_reducible rfl | (simp only [World.size_alloc]))) | with_reducible refine blk_drew ?_ | with_reducible refine blk_alloc ?_ _)); done))); (focus ((simp only [Value.ownBlock, ne_eq, Option.some.injEq]); omega))))) | (refine (fun (hbx3 : w3.heap[(w1.heap.size + 1 : Nat)]? = some (.cells #[.slice none 0 0, .slice none 0 0] 25)) => ?_) ?hhbx3; (case hhbx3 => (refine blk_grown ?_ hgrow1 ?_; (focus (focus ((repeat (first | with_reducible assumption | (with_reducible refine blk_new ?hkx; case hkx => (first | with_reducible rfl | (simp only [World.size_alloc]))) | with_reducible refine blk_drew ?_ | with_reducible refine blk_alloc ?_ _)); done))); (focus ((simp only [Value.ownBlock, ne_eq, Option.some.injEq]); omega))))) | skip))
        | (refine step_append_own rfl (.tmp 16) (.tmp 18) 23 rfl w1.heap.size 38 i0 _ 6 104 Tryd.underlying23 hi hz0 hz1 hz2 rfl (by decide) v1 p.m.len csM rfl ?gown (some ⟨w1.heap.size, 0, none⟩) 1 1 (#[.int .i64 op, .string s, .int .i64 n, .slice Al cl nl, .slice Ax cx nx, .slice Ay cy ny] : Array Value).toList rfl (fun e => by cases e) rfl ?gnews six_one (by omega) (by omega) ?gbase ?_; (case gown => (focus ((repeat (first | with_reducible assumption | (with_reducible refine made_in ?hkx ?hky; (case hkx => (first | with_reducible rfl | (simp only [World.size_alloc]))); (case hky => omega)) | with_reducible refine own_drew ?_ | with_reducible refine World.ownsRow.alloc ?_ _)); done))); (case gnews => (refine blk_news (t := 38) ?_; (focus ((repeat (first | with_reducible assumption | (with_reducible refine blk_new ?hkx; case hkx => (first | with_reducible rfl | (simp only [World.size_alloc]))) | with_reducible refine blk_drew ?_ | with_reducible refine blk_alloc ?_ _)); done)))); (case gbase => (refine Below.size (B := w1.heap.size) (w := w1) ?_; (focus ((repeat (first | with_reducible assumption | with_reducible exact Below.refl _ _ | with_reducible refine belowD ?_ | with_reducible refine belowA ?_ _ | (with_reducible refine belowS ?_ ?hkx _; case hkx => first | assumption | omega))); done)))); intro v2 w4 hown2 hgrow2; have hb4 : Below w1.heap.size w1 w4 := grown_below (by (focus ((repeat (first | with_reducible assumption | with_reducible exact Below.refl _ _ | with_reducible refine belowD ?_ | with_reducible refine belowA ?_ _ | (with_reducible refine belowS ?_ ?hkx _; case hkx => first | assumption | omega))); done))) (v := v1) (n := p.m.len) (xs := csM) (base := w1.heap.size) (e := 38) (size := 6) (by (focus ((repeat (first | with_reducible assumption | (with_reducible refine made_in ?hkx ?hky; (case hkx => (first | with_reducible rfl | (simp only [World.size_alloc]))); (case hky => omega)) | with_reducible refine own_drew ?_ | with_reducible refine World.ownsRow.alloc ?_ _)); done))) (Nat.le_refl _) hgrow2; have hs4 := hb4.size; ((first | (refine (fun (hbx4 : w4.heap[(w1.heap.size + 1 : Nat)]? = some (.cells #[.slice none 0 0, .slice none 0 0] 25)) => ?_) ?hh; (case hh => (refine blk_grown_own (base := w1.heap.size) (e := 38) (size := 6) (n := p.m.len) (xs := csM) ?_ hgrow2 ?_ (by decide); (focus (focus ((repeat (first | with_reducible assumption | (with_reducible refine made_in ?hkx ?hky; (case hkx => (first | with_reducible rfl | (simp only [World.size_alloc]))); (case hky => omega)) | with_reducible refine own_drew ?_ | with_reducible refine World.ownsRow.alloc ?_ _)); done))); (focus (focus ((repeat (first | with_reducible assumption | (with_reducible refine blk_new ?hkx; case hkx => (first | with_reducible rfl | (simp only [World.size_alloc]))) | with_reducible refine blk_drew ?_ | with_reducible refine blk_alloc ?_ _)); done)))))) | (refine (fun (hbx4 : w4.heap[(w1.heap.size + 1 + 1 : Nat)]? = some (.cells #[.slice none 0 0, .slice none 0 0] 25)) => ?_) ?hh; (case hh => (refine blk_grown_own (base := w1.heap.size) (e := 38) (size := 6) (n := p.m.len) (xs := csM) ?_ hgrow2 ?_ (by decide); (focus (focus ((repeat (first | with_reducible assumption | (with_reducible refine made_in ?hkx ?hky; (case hkx => (first | with_reducible rfl | (simp only [World.size_alloc]))); (case hky => omega)) | with_reducible refine own_drew ?_ | with_reducible refine World.ownsRow.alloc ?_ _)); done))); (focus (focus ((repeat (first | with_reducible assumption | (with_reducible refine blk_new ?hkx; case hkx => (first | with_reducible rfl | (simp only [World.size_alloc]))) | with_reducible refine blk_drew ?_ | with_reducible refine blk_alloc ?_ _)); done)))))) | (refine (fun (hbx4 : w4.heap[(w3.heap.size : Nat)]? = some (.cells #[.slice none 0 0, .slice none 0 0] 25)) => ?_) ?hh; (case hh => (refine blk_grown_own (base := w1.heap.size) (e := 38) (size := 6) (n := p.m.len) (xs := csM) ?_ hgrow2 ?_ (by decide); (focus (focus ((repeat (first | with_reducible assumption | (with_reducible refine made_in ?hkx ?hky; (case hkx => (first | with_reducible rfl | (simp only [World.size_alloc]))); (case hky => omega)) | with_reducible refine own_drew ?_ | with_reducible refine World.ownsRow.alloc ?_ _)); done))); (focus (focus ((repeat (first | with_reducible assumption | (with_reducible refine blk_new ?hkx; case hkx => (first | with_reducible rfl | (simp only [World.size_alloc]))) | with_reducible refine blk_drew ?_ | with_reducible refine blk_alloc ?_ _)); done)))))) | (refine (fun (hbx4 : w4.heap[(w3.heap.size + 1 : Nat)]? = some (.cells #[.slice none 0 0, .slice none 0 0] 25)) => ?_) ?hh; (case hh => (refine blk_grown_own (base := w1.heap.size) (e := 38) (size := 6) (n := p.m.len) (xs := csM) ?_ hgrow2 ?_ (by decide); (focus (focus ((repeat (first | with_reducible assumption | (with_reducible refine made_in ?hkx ?hky; (case hkx => (first | with_reducible rfl | (simp only [World.size_alloc]))); (case hky => omega)) | with_reducible refine own_drew ?_ | with_reducible refine World.ownsRow.alloc ?_ _)); done))); (focus (focus ((repeat (first | with_reducible assumption | (with_reducible refine blk_new ?hkx; case hkx => (first | with_reducible rfl | (simp only [World.size_alloc]))) | with_reducible refine blk_drew ?_ | with_reducible refine blk_alloc ?_ _)); done)))))) | skip); (first | (have c40 := blk_cell hbx4 0; have c41 := blk_cell hbx4 1; have f40 := blk_frozen hbx4 0; have f41 := blk_frozen hbx4 1; simp at c40 c41) | skip)); obtain ⟨A2, cap2, rfl⟩ := own_form hown2)
        | (refine step_append_own rfl (.tmp 16) (.tmp 18) 23 rfl w1.heap.size 38 i0 _ 6 104 Tryd.underlying23 hi hz0 hz1 hz2 rfl (by decide) v1 p.m.len csM rfl ?gown (some ⟨w1.heap.size + 1, 0, none⟩) 1 1 (#[.int .i64 op, .string s, .int .i64 n, .slice Al cl nl, .slice Ax cx nx, .slice Ay cy ny] : Array Value).toList rfl (fun e => by cases e) rfl ?gnews six_one (by omega) (by omega) ?gbase ?_; (case gown => (focus ((repeat (first | with_reducible assumption | (with_reducible refine made_in ?hkx ?hky; (case hkx => (first | with_reducible rfl | (simp only [World.size_alloc]))); (case hky => omega)) | with_reducible refine own_drew ?_ | with_reducible refine World.ownsRow.alloc ?_ _)); done))); (case gnews => (refine blk_news (t := 38) ?_; (focus ((repeat (first | with_reducible assumption | (with_reducible refine blk_new ?hkx; case hkx => (first | with_reducible rfl | (simp only [World.size_alloc]))) | with_reducible refine blk_drew ?_ | with_reducible refine blk_alloc ?_ _)); done)))); (case gbase => (refine Below.size (B := w1.heap.size) (w := w1) ?_; (focus ((repeat (first | with_reducible assumption | with_reducible exact Below.refl _ _ | with_reducible refine belowD ?_ | with_reducible refine belowA ?_ _ | (with_reducible refine belowS ?_ ?hkx _; case hkx => first | assumption | omega))); done)))); intro v2 w4 hown2 hgrow2; have hb4 : Below w1.heap.size w1 w4 := grown_below (by (focus ((repeat (first | with_reducible assumption | with_reducible exact Below.refl _ _ | with_reducible refine belowD ?_ | with_reducible refine belowA ?_ _ | (with_reducible refine belowS ?_ ?hkx _; case hkx => first | assumption | omega))); done))) (v := v1) (n := p.m.len) (xs := csM) (base := w1.heap.size) (e := 38) (size := 6) (by (focus ((repeat (first | with_reducible assumption | (with_reducible refine made_in ?hkx ?hky; (case hkx => (first | with_reducible rfl | (simp only [World.size_alloc]))); (case hky => omega)) | with_reducible refine own_drew ?_ | with_reducible refine World.ownsRow.alloc ?_ _)); done))) (Nat.le_refl _) hgrow2; have hs4 := hb4.size; ((first | (refine (fun (hbx4 : w4.heap[(w1.heap.size : Nat)]? = some (.cells #[.slice none 0 0, .slice none 0 0] 25)) => ?_) ?hh; (case hh => (refine blk_grown_own (base := w1.heap.size) (e := 38) (size := 6) (n := p.m.len) (xs := csM) ?_ hgrow2 ?_ (by decide); (focus (focus ((repeat (first | with_reducible assumption | (with_reducible refine made_in ?hkx ?hky; (case hkx => (first | with_reducible rfl | (simp only [World.size_alloc]))); (case hky => omega)) | with_reducible refine own_drew ?_ | with_reducible refine World.ownsRow.alloc ?_ _)); done))); (focus (focus ((repeat (first | with_reducible assumption | (with_reducible refine blk_new ?hkx; case hkx => (first | with_reducible rfl | (simp only [World.size_alloc]))) | with_reducible refine blk_drew ?_ | with_reducible refine blk_alloc ?_ _)); done)))))) | (refine (fun (hbx4 : w4.heap[(w1.heap.size + 1 + 1 : Nat)]? = some (.cells #[.slice none 0 0, .slice none 0 0] 25)) => ?_) ?hh; (case hh => (refine blk_grown_own (base := w1.heap.size) (e := 38) (size := 6) (n := p.m.len) (xs := csM) ?_ hgrow2 ?_ (by decide); (focus (focus ((repeat (first | with_reducible assumption | (with_reducible refine made_in ?hkx ?hky; (case hkx => (first | with_reducible rfl | (simp only [World.size_alloc]))); (case hky => omega)) | with_reducible refine own_drew ?_ | with_reducible refine World.ownsRow.alloc ?_ _)); done))); (focus (focus ((repeat (first | with_reducible assumption | (with_reducible refine blk_new ?hkx; case hkx => (first | with_reducible rfl | (simp only [World.size_alloc]))) | with_reducible refine blk_drew ?_ | with_reducible refine blk_alloc ?_ _)); done)))))) | (refine (fun (hbx4 : w4.heap[(w3.heap.size : Nat)]? = some (.cells #[.slice none 0 0, .slice none 0 0] 25)) => ?_) ?hh; (case hh => (refine blk_grown_own (base := w1.heap.size) (e := 38) (size := 6) (n := p.m.len) (xs := csM) ?_ hgrow2 ?_ (by decide); (focus (focus ((repeat (first | with_reducible assumption | (with_reducible refine made_in ?hkx ?hky; (case hkx => (first | with_reducible rfl | (simp only [World.size_alloc]))); (case hky => omega)) | with_reducible refine own_drew ?_ | with_reducible refine World.ownsRow.alloc ?_ _)); done))); (focus (focus ((repeat (first | with_reducible assumption | (with_reducible refine blk_new ?hkx; case hkx => (first | with_reducible rfl | (simp only [World.size_alloc]))) | with_reducible refine blk_drew ?_ | with_reducible refine blk_alloc ?_ _)); done)))))) | (refine (fun (hbx4 : w4.heap[(w3.heap.size + 1 : Nat)]? = some (.cells #[.slice none 0 0, .slice none 0 0] 25)) => ?_) ?hh; (case hh => (refine blk_grown_own (base := w1.heap.size) (e := 38) (size := 6) (n := p.m.len) (xs := csM) ?_ hgrow2 ?_ (by decide); (focus (focus ((repeat (first | with_reducible assumption | (with_reducible refine made_in ?hkx ?hky; (case hkx => (first | with_reducible rfl | (simp only [World.size_alloc]))); (case hky => omega)) | with_reducible refine own_drew ?_ | with_reducible refine World.ownsRow.alloc ?_ _)); done))); (focus (focus ((repeat (first | with_reducible assumption | (with_reducible refine blk_new ?hkx; case hkx => (first | with_reducible rfl | (simp only [World.size_alloc]))) | with_reducible refine blk_drew ?_ | with_reducible refine blk_alloc ?_ _)); done)))))) | skip); (first | (have c40 := blk_cell hbx4 0; have c41 := blk_cell hbx4 1; have f40 := blk_frozen hbx4 0; have f41 := blk_frozen hbx4 1; simp at c40 c41) | skip)); obtain ⟨A2, cap2, rfl⟩ := own_form hown2)
        | (refine step_append_own rfl (.tmp 16) (.tmp 18) 23 rfl w1.heap.size 38 i0 _ 6 104 Tryd.underlying23 hi hz0 hz1 hz2 rfl (by decide) v1 p.m.len csM rfl ?gown (some ⟨w1.heap.size + 1 + 1, 0, none⟩) 1 1 (#[.int .i64 op, .string s, .int .i64 n, .slice Al cl nl, .slice Ax cx nx, .slice Ay cy ny] : Array Value).toList rfl (fun e => by cases e) rfl ?gnews six_one (by omega) (by omega) ?gbase ?_; (case gown => (focus ((repeat (first | with_reducible assumption | (with_reducible refine made_in ?hkx ?hky; (case hkx => (first | with_reducible rfl | (simp only [World.size_alloc]))); (case hky => omega)) | with_reducible refine own_drew ?_ | with_reducible refine World.ownsRow.alloc ?_ _)); done))); (case gnews => (refine blk_news (t := 38) ?_; (focus ((repeat (first | with_reducible assumption | (with_reducible refine blk_new ?hkx; case hkx => (first | with_reducible rfl | (simp only [World.size_alloc]))) | with_reducible refine blk_drew ?_ | with_reducible refine blk_alloc ?_ _)); done)))); (case gbase => (refine Below.size (B := w1.heap.size) (w := w1) ?_; (focus ((repeat (first | with_reducible assumption | with_reducible exact Below.refl _ _ | with_reducible refine belowD ?_ | with_reducible refine belowA ?_ _ | (with_reducible refine belowS ?_ ?hkx _; case hkx => first | assumption | omega))); done)))); intro v2 w4 hown2 hgrow2; have hb4 : Below w1.heap.size w1 w4 := grown_below (by (focus ((repeat (first | with_reducible assumption | with_reducible exact Below.refl _ _ | with_reducible refine belowD ?_ | with_reducible refine belowA ?_ _ | (with_reducible refine belowS ?_ ?hkx _; case hkx => first | assumption | omega))); done))) (v := v1) (n := p.m.len) (xs := csM) (base := w1.heap.size) (e := 38) (size := 6) (by (focus ((repeat (first | with_reducible assumption | (with_reducible refine made_in ?hkx ?hky; (case hkx => (first | with_reducible rfl | (simp only [World.size_alloc]))); (case hky => omega)) | with_reducible refine own_drew ?_ | with_reducible refine World.ownsRow.alloc ?_ _)); done))) (Nat.le_refl _) hgrow2; have hs4 := hb4.size; ((first | (refine (fun (hbx4 : w4.heap[(w1.heap.size : Nat)]? = some (.cells #[.slice none 0 0, .slice none 0 0] 25)) => ?_) ?hh; (case hh => (refine blk_grown_own (base := w1.heap.size) (e := 38) (size := 6) (n := p.m.len) (xs := csM) ?_ hgrow2 ?_ (by decide); (focus (focus ((repeat (first | with_reducible assumption | (with_reducible refine made_in ?hkx ?hky; (case hkx => (first | with_reducible rfl | (simp only [World.size_alloc]))); (case hky => omega)) | with_reducible refine own_drew ?_ | with_reducible refine World.ownsRow.alloc ?_ _)); done))); (focus (focus ((repeat (first | with_reducible assumption | (with_reducible refine blk_new ?hkx; case hkx => (first | with_reducible rfl | (simp only [World.size_alloc]))) | with_reducible refine blk_drew ?_ | with_reducible refine blk_alloc ?_ _)); done)))))) | (refine (fun (hbx4 : w4.heap[(w1.heap.size + 1 : Nat)]? = some (.cells #[.slice none 0 0, .slice none 0 0] 25)) => ?_) ?hh; (case hh => (refine blk_grown_own (base := w1.heap.size) (e := 38) (size := 6) (n := p.m.len) (xs := csM) ?_ hgrow2 ?_ (by decide); (focus (focus ((repeat (first | with_reducible assumption | (with_reducible refine made_in ?hkx ?hky; (case hkx => (first | with_reducible rfl | (simp only [World.size_alloc]))); (case hky => omega)) | with_reducible refine own_drew ?_ | with_reducible refine World.ownsRow.alloc ?_ _)); done))); (focus (focus ((repeat (first | with_reducible assumption | (with_reducible refine blk_new ?hkx; case hkx => (first | with_reducible rfl | (simp only [World.size_alloc]))) | with_reducible refine blk_drew ?_ | with_reducible refine blk_alloc ?_ _)); done)))))) | (refine (fun (hbx4 : w4.heap[(w3.heap.size : Nat)]? = some (.cells #[.slice none 0 0, .slice none 0 0] 25)) => ?_) ?hh; (case hh => (refine blk_grown_own (base := w1.heap.size) (e := 38) (size := 6) (n := p.m.len) (xs := csM) ?_ hgrow2 ?_ (by decide); (focus (focus ((repeat (first | with_reducible assumption | (with_reducible refine made_in ?hkx ?hky; (case hkx => (first | with_reducible rfl | (simp only [World.size_alloc]))); (case hky => omega)) | with_reducible refine own_drew ?_ | with_reducible refine World.ownsRow.alloc ?_ _)); done))); (focus (focus ((repeat (first | with_reducible assumption | (with_reducible refine blk_new ?hkx; case hkx => (first | with_reducible rfl | (simp only [World.size_alloc]))) | with_reducible refine blk_drew ?_ | with_reducible refine blk_alloc ?_ _)); done)))))) | (refine (fun (hbx4 : w4.heap[(w3.heap.size + 1 : Nat)]? = some (.cells #[.slice none 0 0, .slice none 0 0] 25)) => ?_) ?hh; (case hh => (refine blk_grown_own (base := w1.heap.size) (e := 38) (size := 6) (n := p.m.len) (xs := csM) ?_ hgrow2 ?_ (by decide); (focus (focus ((repeat (first | with_reducible assumption | (with_reducible refine made_in ?hkx ?hky; (case hkx => (first | with_reducible rfl | (simp only [World.size_alloc]))); (case hky => omega)) | with_reducible refine own_drew ?_ | with_reducible refine World.ownsRow.alloc ?_ _)); done))); (focus (focus ((repeat (first | with_reducible assumption | (with_reducible refine blk_new ?hkx; case hkx => (first | with_reducible rfl | (simp only [World.size_alloc]))) | with_reducible refine blk_drew ?_ | with_reducible refine blk_alloc ?_ _)); done)))))) | skip); (first | (have c40 := blk_cell hbx4 0; have c41 := blk_cell hbx4 1; have f40 := blk_frozen hbx4 0; have f41 := blk_frozen hbx4 1; simp at c40 c41) | skip)); obtain ⟨A2, cap2, rfl⟩ := own_form hown2)
        | (refine step_append_own rfl (.tmp 16) (.tmp 18) 23 rfl w1.heap.size 38 i0 _ 6 104 Tryd.underlying23 hi hz0 hz1 hz2 rfl (by decide) v1 p.m.len csM rfl ?gown (some ⟨w3.heap.size, 0, none⟩) 1 1 (#[.int .i64 op, .string s, .int .i64 n, .slice Al cl nl, .slice Ax cx nx, .slice Ay cy ny] : Array Value).toList rfl (fun e => by cases e) rfl ?gnews six_one (by omega) (by omega) ?gbase ?_; (case gown => (focus ((repeat (first | with_reducible assumption | (with_reducible refine made_in ?hkx ?hky; (case hkx => (first | with_reducible rfl | (simp only [World.size_alloc]))); (case hky => omega)) | with_reducible refine own_drew ?_ | with_reducible refine World.ownsRow.alloc ?_ _)); done))); (case gnews => (refine blk_news (t := 38) ?_; (focus ((repeat (first | with_reducible assumption | (with_reducible refine blk_new ?hkx; case hkx => (first | with_reducible rfl | (simp only [World.size_alloc]))) | with_reducible refine blk_drew ?_ | with_reducible refine blk_alloc ?_ _)); done)))); (case gbase => (refine Below.size (B := w1.heap.size) (w := w1) ?_; (focus ((repeat (first | with_reducible assumption | with_reducible exact Below.refl _ _ | with_reducible refine belowD ?_ | with_reducible refine belowA ?_ _ | (with_reducible refine belowS ?_ ?hkx _; case hkx => first | assumption | omega))); done)))); intro v2 w4 hown2 hgrow2; have hb4 : Below w1.heap.size w1 w4 := grown_below (by (focus ((repeat (first | with_reducible assumption | with_reducible exact Below.refl _ _ | with_reducible refine belowD ?_ | with_reducible refine belowA ?_ _ | (with_reducible refine belowS ?_ ?hkx _; case hkx => first | assumption | omega))); done))) (v := v1) (n := p.m.len) (xs := csM) (base := w1.heap.size) (e := 38) (size := 6) (by (focus ((repeat (first | with_reducible assumption | (with_reducible refine made_in ?hkx ?hky; (case hkx => (first | with_reducible rfl | (simp only [World.size_alloc]))); (case hky => omega)) | with_reducible refine own_drew ?_ | with_reducible refine World.ownsRow.alloc ?_ _)); done))) (Nat.le_refl _) hgrow2; have hs4 := hb4.size; ((first | (refine (fun (hbx4 : w4.heap[(w1.heap.size : Nat)]? = some (.cells #[.slice none 0 0, .slice none 0 0] 25)) => ?_) ?hh; (case hh => (refine blk_grown_own (base := w1.heap.size) (e := 38) (size := 6) (n := p.m.len) (xs := csM) ?_ hgrow2 ?_ (by decide); (focus (focus ((repeat (first | with_reducible assumption | (with_reducible refine made_in ?hkx ?hky; (case hkx => (first | with_reducible rfl | (simp only [World.size_alloc]))); (case hky => omega)) | with_reducible refine own_drew ?_ | with_reducible refine World.ownsRow.alloc ?_ _)); done))); (focus (focus ((repeat (first | with_reducible assumption | (with_reducible refine blk_new ?hkx; case hkx => (first | with_reducible rfl | (simp only [World.size_alloc]))) | with_reducible refine blk_drew ?_ | with_reducible refine blk_alloc ?_ _)); done)))))) | (refine (fun (hbx4 : w4.heap[(w1.heap.size + 1 : Nat)]? = some (.cells #[.slice none 0 0, .slice none 0 0] 25)) => ?_) ?hh; (case hh => (refine blk_grown_own (base := w1.heap.size) (e := 38) (size := 6) (n := p.m.len) (xs := csM) ?_ hgrow2 ?_ (by decide); (focus (focus ((repeat (first | with_reducible assumption | (with_reducible refine made_in ?hkx ?hky; (case hkx => (first | with_reducible rfl | (simp only [World.size_alloc]))); (case hky => omega)) | with_reducible refine own_drew ?_ | with_reducible refine World.ownsRow.alloc ?_ _)); done))); (focus (focus ((repeat (first | with_reducible assumption | (with_reducible refine blk_new ?hkx; case hkx => (first | with_reducible rfl | (simp only [World.size_alloc]))) | with_reducible refine blk_drew ?_ | with_reducible refine blk_alloc ?_ _)); done)))))) | (refine (fun (hbx4 : w4.heap[(w1.heap.size + 1 + 1 : Nat)]? = some (.cells #[.slice none 0 0, .slice none 0 0] 25)) => ?_) ?hh; (case hh => (refine blk_grown_own (base := w1.heap.size) (e := 38) (size := 6) (n := p.m.len) (xs := csM) ?_ hgrow2 ?_ (by decide); (focus (focus ((repeat (first | with_reducible assumption | (with_reducible refine made_in ?hkx ?hky; (case hkx => (first | with_reducible rfl | (simp only [World.size_alloc]))); (case hky => omega)) | with_reducible refine own_drew ?_ | with_reducible refine World.ownsRow.alloc ?_ _)); done))); (focus (focus ((repeat (first | with_reducible assumption | (with_reducible refine blk_new ?hkx; case hkx => (first | with_reducible rfl | (simp only [World.size_alloc]))) | with_reducible refine blk_drew ?_ | with_reducible refine blk_alloc ?_ _)); done)))))) | (refine (fun (hbx4 : w4.heap[(w3.heap.size + 1 : Nat)]? = some (.cells #[.slice none 0 0, .slice none 0 0] 25)) => ?_) ?hh; (case hh => (refine blk_grown_own (base := w1.heap.size) (e := 38) (size := 6) (n := p.m.len) (xs := csM) ?_ hgrow2 ?_ (by decide); (focus (focus ((repeat (first | with_reducible assumption | (with_reducible refine made_in ?hkx ?hky; (case hkx => (first | with_reducible rfl | (simp only [World.size_alloc]))); (case hky => omega)) | with_reducible refine own_drew ?_ | with_reducible refine World.ownsRow.alloc ?_ _)); done))); (focus (focus ((repeat (first | with_reducible assumption | (with_reducible refine blk_new ?hkx; case hkx => (first | with_reducible rfl | (simp only [World.size_alloc]))) | with_reducible refine blk_drew ?_ | with_reducible refine blk_alloc ?_ _)); done)))))) | skip); (first | (have c40 := blk_cell hbx4 0; have c41 := blk_cell hbx4 1; have f40 := blk_frozen hbx4 0; have f41 := blk_frozen hbx4 1; simp at c40 c41) | skip)); obtain ⟨A2, cap2, rfl⟩ := own_form hown2)
        | (refine step_append_own rfl (.tmp 16) (.tmp 18) 23 rfl w1.heap.size 38 i0 _ 6 104 Tryd.underlying23 hi hz0 hz1 hz2 rfl (by decide) v1 p.m.len csM rfl ?gown (some ⟨w3.heap.size + 1, 0, none⟩) 1 1 (#[.int .i64 op, .string s, .int .i64 n, .slice Al cl nl, .slice Ax cx nx, .slice Ay cy ny] : Array Value).toList rfl (fun e => by cases e) rfl ?gnews six_one (by omega) (by omega) ?gbase ?_; (case gown => (focus ((repeat (first | with_reducible assumption | (with_reducible refine made_in ?hkx ?hky; (case hkx => (first | with_reducible rfl | (simp only [World.size_alloc]))); (case hky => omega)) | with_reducible refine own_drew ?_ | with_reducible refine World.ownsRow.alloc ?_ _)); done))); (case gnews => (refine blk_news (t := 38) ?_; (focus ((repeat (first | with_reducible assumption | (with_reducible refine blk_new ?hkx; case hkx => (first | with_reducible rfl | (simp only [World.size_alloc]))) | with_reducible refine blk_drew ?_ | with_reducible refine blk_alloc ?_ _)); done)))); (case gbase => (refine Below.size (B := w1.heap.size) (w := w1) ?_; (focus ((repeat (first | with_reducible assumption | with_reducible exact Below.refl _ _ | with_reducible refine belowD ?_ | with_reducible refine belowA ?_ _ | (with_reducible refine belowS ?_ ?hkx _; case hkx => first | assumption | omega))); done)))); intro v2 w4 hown2 hgrow2; have hb4 : Below w1.heap.size w1 w4 := grown_below (by (focus ((repeat (first | with_reducible assumption | with_reducible exact Below.refl _ _ | with_reducible refine belowD ?_ | with_reducible refine belowA ?_ _ | (with_reducible refine belowS ?_ ?hkx _; case hkx => first | assumption | omega))); done))) (v := v1) (n := p.m.len) (xs := csM) (base := w1.heap.size) (e := 38) (size := 6) (by (focus ((repeat (first | with_reducible assumption | (with_reducible refine made_in ?hkx ?hky; (case hkx => (first | with_reducible rfl | (simp only [World.size_alloc]))); (case hky => omega)) | with_reducible refine own_drew ?_ | with_reducible refine World.ownsRow.alloc ?_ _)); done))) (Nat.le_refl _) hgrow2; have hs4 := hb4.size; ((first | (refine (fun (hbx4 : w4.heap[(w1.heap.size : Nat)]? = some (.cells #[.slice none 0 0, .slice none 0 0] 25)) => ?_) ?hh; (case hh => (refine blk_grown_own (base := w1.heap.size) (e := 38) (size := 6) (n := p.m.len) (xs := csM) ?_ hgrow2 ?_ (by decide); (focus (focus ((repeat (first | with_reducible assumption | (with_reducible refine made_in ?hkx ?hky; (case hkx => (first | with_reducible rfl | (simp only [World.size_alloc]))); (case hky => omega)) | with_reducible refine own_drew ?_ | with_reducible refine World.ownsRow.alloc ?_ _)); done))); (focus (focus ((repeat (first | with_reducible assumption | (with_reducible refine blk_new ?hkx; case hkx => (first | with_reducible rfl | (simp only [World.size_alloc]))) | with_reducible refine blk_drew ?_ | with_reducible refine blk_alloc ?_ _)); done)))))) | (refine (fun (hbx4 : w4.heap[(w1.heap.size + 1 : Nat)]? = some (.cells #[.slice none 0 0, .slice none 0 0] 25)) => ?_) ?hh; (case hh => (refine blk_grown_own (base := w1.heap.size) (e := 38) (size := 6) (n := p.m.len) (xs := csM) ?_ hgrow2 ?_ (by decide); (focus (focus ((repeat (first | with_reducible assumption | (with_reducible refine made_in ?hkx ?hky; (case hkx => (first | with_reducible rfl | (simp only [World.size_alloc]))); (case hky => omega)) | with_reducible refine own_drew ?_ | with_reducible refine World.ownsRow.alloc ?_ _)); done))); (focus (focus ((repeat (first | with_reducible assumption | (with_reducible refine blk_new ?hkx; case hkx => (first | with_reducible rfl | (simp only [World.size_alloc]))) | with_reducible refine blk_drew ?_ | with_reducible refine blk_alloc ?_ _)); done)))))) | (refine (fun (hbx4 : w4.heap[(w1.heap.size + 1 + 1 : Nat)]? = some (.cells #[.slice none 0 0, .slice none 0 0] 25)) => ?_) ?hh; (case hh => (refine blk_grown_own (base := w1.heap.size) (e := 38) (size := 6) (n := p.m.len) (xs := csM) ?_ hgrow2 ?_ (by decide); (focus (focus ((repeat (first | with_reducible assumption | (with_reducible refine made_in ?hkx ?hky; (case hkx => (first | with_reducible rfl | (simp only [World.size_alloc]))); (case hky => omega)) | with_reducible refine own_drew ?_ | with_reducible refine World.ownsRow.alloc ?_ _)); done))); (focus (focus ((repeat (first | with_reducible assumption | (with_reducible refine blk_new ?hkx; case hkx => (first | with_reducible rfl | (simp only [World.size_alloc]))) | with_reducible refine blk_drew ?_ | with_reducible refine blk_alloc ?_ _)); done)))))) | (refine (fun (hbx4 : w4.heap[(w3.heap.size : Nat)]? = some (.cells #[.slice none 0 0, .slice none 0 0] 25)) => ?_) ?hh; (case hh => (refine blk_grown_own (base := w1.heap.size) (e := 38) (size := 6) (n := p.m.len) (xs := csM) ?_ hgrow2 ?_ (by decide); (focus (focus ((repeat (first | with_reducible assumption | (with_reducible refine made_in ?hkx ?hky; (case hkx => (first | with_reducible rfl | (simp only [World.size_alloc]))); (case hky => omega)) | with_reducible refine own_drew ?_ | with_reducible refine World.ownsRow.alloc ?_ _)); done))); (focus (focus ((repeat (first | with_reducible assumption | (with_reducible refine blk_new ?hkx; case hkx => (first | with_reducible rfl | (simp only [World.size_alloc]))) | with_reducible refine blk_drew ?_ | with_reducible refine blk_alloc ?_ _)); done)))))) | skip); (first | (have c40 := blk_cell hbx4 0; have c41 := blk_cell hbx4 1; have f40 := blk_frozen hbx4 0; have f41 := blk_frozen hbx4 1; simp at c40 c41) | skip)); obtain ⟨A2, cap2, rfl⟩ := own_form hown2))
    all_goals
      go_wp2_with fail
      go_meet
      first
        | exact ⟨_, _, _, rfl, fin_alloc hb4 hown2⟩
        | exact ⟨_, _, _, rfl, fin_set hb4 (by omega) hbx4 (by decide) hown2⟩
  case rest =>
    obtain ⟨kb, A2, cap2, rfl, hk0, hk1, ck0, ck1, hown, _, hbw⟩ := hcut
    have hFw : Fr w wc := hF.trans (hbw.mono hB)
    have hBw : w.heap.size ≤ wc.heap.size := hFw.size
    have hone : (SS.cons op s n l x y .nil).Cells wc.heap.size wc (#[.int .i64 op, .string s, .int .i64 n, .slice Al cl nl, .slice Ax cx nx, .slice Ay cy ny] : Array Value).toList := ⟨_, _, _, [], rfl, EV.below hl hFw hBw, SV.below hx hFw hBw, SV.below hy hFw hBw, hr, rfl⟩
    have hcw := SS.Cells.app hone (SS.Cells.below (hbw.mono hB) hBw hcM)
    have hlen : (p.m.app (.cons op s n l x y .nil)).len = p.m.len + 1 := by rw [SS.app_len]; simp [SS.len]
    have hm2 : SV wc.heap.size wc (.slice A2 (p.m.len + 1) cap2) (p.m.app (.cons op s n l x y .nil)) := own_sv hown hcw hlen.symm
    have hpm : PgV wc.heap.size wc (.agg #[.slice A p.fs.length cap, .slice A2 (p.m.len + 1) cap2]) ⟨p.fs, p.m.app (.cons op s n l x y .nil)⟩ := by
      refine ⟨A, cap, A2, cap2, by rw [hlen], FV.below hvF hFw hBw, ?_⟩
      show SV _ _ (.slice A2 (p.m.app (.cons op s n l x y .nil)).len cap2) _
      rw [hlen]
      exact hm2
    have hpp : PgV wc.heap.size wc (.agg #[.slice A p.fs.length cap, .slice X p.m.len capx]) p := ⟨A, cap, X, capx, rfl, FV.below hvF hFw hBw, SV.below hvM hFw hBw⟩
    have hpq := hv'.below hFw hBw
    have hne : p ≠ ⟨p.fs, p.m.app (.cons op s n l x y .nil)⟩ := by
      intro e
      have e2 := congrArg (fun z : Pg => z.m.len) e
      simp only [hlen] at e2
      omega
    have e1 : eqG p ⟨p.fs, p.m.app (.cons op s n l x y .nil)⟩ = false := by
      rw [← Bool.not_eq_true, eqG_iff]; exact hne
    have e2 : eqG ⟨p.fs, p.m.app (.cons op s n l x y .nil)⟩ p = false := by
      rw [← Bool.not_eq_true, eqG_iff]; exact fun e => hne e.symm
    have e3 : eqG q p = eqG p q := by rw [Bool.eq_iff_iff, eqG_iff, eqG_iff]; exact eq_comm
    have c0 : wc.cell? ⟨g, 0, none⟩ = some (.slice A p.fs.length cap) := (CS wc hbw).1
    have c1 : wc.cell? ⟨g, 1, none⟩ = some (.slice X p.m.len capx) := (CS wc hbw).2.1
    have c2 : wc.cell? ⟨g + 1, 0, none⟩ = some (.slice A' q.fs.length cap') := (hbw.cell (p := ⟨g + 1, 0, none⟩) (show g + 1 < w1.heap.size by omega)).trans b2
    have c3 : wc.cell? ⟨g + 1, 1, none⟩ = some (.slice X' q.m.len capx') := (hbw.cell (p := ⟨g + 1, 1, none⟩) (show g + 1 < w1.heap.size by omega)).trans b3
    have hgc : g + 1 < wc.heap.size := by have := hbw.size; omega
    have hTS : TS6 wc g kb (.slice A p.fs.length cap) (.slice X p.m.len capx) (.slice A' q.fs.length cap') (.slice X' q.m.len capx') (.slice A p.fs.length cap) (.slice A2 (p.m.len + 1) cap2) wc := ⟨c0, c1, c2, c3, ck0, ck1, Below.refl _ _⟩
    have K : ∀ {f : FuncId} {args : Array Value} {r : Value}, (∀ W, Below wc.heap.size wc W → Calls Tryd.prog f args W fun e w' => e = .returned r ∧ Below W.heap.size W w') → ∀ W, Below wc.heap.size wc W → Calls Tryd.prog f args W fun e w' => e = .returned r ∧ TS6 wc g kb (.slice A p.fs.length cap) (.slice X p.m.len capx) (.slice A' q.fs.length cap') (.slice X' q.m.len capx') (.slice A p.fs.length cap) (.slice A2 (p.m.len + 1) cap2) w' :=
      fun h W hb => (h W hb).mono fun e w' ⟨he, hb'⟩ => ⟨he, hTS.step hgc hk1 hb hb'⟩
    have P1 := fun W (hb : Below wc.heap.size wc W) => hpp.below hb (Nat.le_refl _)
    have Q1 := fun W (hb : Below wc.heap.size wc W) => hpq.below hb (Nat.le_refl _)
    have M1 := fun W (hb : Below wc.heap.size wc W) => hpm.below hb (Nat.le_refl _)
    have HPQ := K fun W hb => equal_any _ _ p q W _ hb.size (P1 W hb) (Q1 W hb)
    have HQP := K fun W hb => equal_any _ _ q p W _ hb.size (Q1 W hb) (P1 W hb)
    have HPM := K fun W hb => equal_any _ _ p _ W _ hb.size (P1 W hb) (M1 W hb)
    have HMP := K fun W hb => equal_any _ _ _ p W _ hb.size (M1 W hb) (P1 W hb)
    have HMM := K fun W hb => equal_any _ _ _ _ W _ hb.size (M1 W hb) (M1 W hb)
    have HSp := K fun W hb => size_any _ p W _ hb.size (P1 W hb)
    have HSq := K fun W hb => size_any _ q W _ hb.size (Q1 W hb)
    have HDp := K fun W hb => depth_any _ p W _ hb.size (P1 W hb)
    have HDq := K fun W hb => depth_any _ q W _ hb.size (Q1 W hb)
    have HRp := K fun W hb => right_any _ p W _ hb.size (P1 W hb) (HT.out W (hFw.trans (hb.mono hBw)))
    have HRq := K fun W hb => right_any _ q W _ hb.size (Q1 W hb) (HT.out W (hFw.trans (hb.mono hBw)))
    rw [e1] at HPM
    rw [e2] at HMP
    rw [e3] at HQP
    rw [(eqG_iff _ _).2 rfl] at HMM
    have F1 : Below wc.heap.size wc wc.drew := ⟨rfl, rfl, rfl, Nat.le_refl _, fun _ _ => rfl⟩
    have hcm : 1 + 1 = 2 := rfl
    clear K P1 M1 Q1 hone hcw hm2 hpm e1 e2 e3 hcm
    obtain ⟨eb, heb⟩ : ∃ eb, eqG p q = eb := ⟨_, rfl⟩
    rw [heb] at HPQ HQP
    unfold TS6 at *
    go_upto_region 3 with fail
    go_region_held3 (fun w' => w'.cell? ⟨g, 0, none⟩ = some (.slice A p.fs.length cap) ∧ w'.cell? ⟨g, 1, none⟩ = some (.slice X p.m.len capx) ∧ w'.cell? ⟨g + 1, 0, none⟩ = some (.slice A' q.fs.length cap') ∧ w'.cell? ⟨g + 1, 1, none⟩ = some (.slice X' q.m.len capx') ∧ w'.cell? ⟨kb, 0, none⟩ = some (.slice A p.fs.length cap) ∧ w'.cell? ⟨kb, 1, none⟩ = some (.slice A2 (p.m.len + 1) cap2) ∧ Below wc.heap.size wc w')
      (first | exact ⟨by simpa using c0, by simpa using c1, by simpa using c2, by simpa using c3, by simpa using ck0, by simpa using ck1, F1⟩ | exact ⟨y0, y1, y2, y3, y4, y5, y6⟩ | go_keep)
      (first
        | (go_at_call 18; with_reducible refine (HPQ _ (by assumption)).mono ?_; rintro e w2 ⟨rfl, y0, y1, y2, y3, y4, y5, y6⟩)
        | (go_at_call 18; with_reducible refine (HQP _ (by assumption)).mono ?_; rintro e w2 ⟨rfl, y0, y1, y2, y3, y4, y5, y6⟩)
        | (go_at_call 18; with_reducible refine (HPM _ (by assumption)).mono ?_; rintro e w2 ⟨rfl, y0, y1, y2, y3, y4, y5, y6⟩)
        | (go_at_call 18; with_reducible refine (HMP _ (by assumption)).mono ?_; rintro e w2 ⟨rfl, y0, y1, y2, y3, y4, y5, y6⟩)
        | (go_at_call 18; with_reducible refine (HMM _ (by assumption)).mono ?_; rintro e w2 ⟨rfl, y0, y1, y2, y3, y4, y5, y6⟩))
    clear HQP HPM HMP HMM
    go_upto_region 5 with fail
    have F2 := belowD y6
    have HEB := Lib.hid heb
    clear heb
    go_cut [67] (fun s67 wx => s67 = .bool false ∧ wx.cell? ⟨g, 0, none⟩ = some (.slice A p.fs.length cap) ∧ wx.cell? ⟨g, 1, none⟩ = some (.slice X p.m.len capx) ∧ Below wc.heap.size wc wx)
    case first =>
      have heb := HEB.out
      cases eb with
      | false =>
        clear HEB heb
        refine wp_region_held_drew (S := (fun w' => w'.cell? ⟨g, 0, none⟩ = some (.slice A p.fs.length cap) ∧ w'.cell? ⟨g, 1, none⟩ = some (.slice X p.m.len capx) ∧ w'.cell? ⟨g + 1, 0, none⟩ = some (.slice A' q.fs.length cap') ∧ w'.cell? ⟨g + 1, 1, none⟩ = some (.slice X' q.m.len capx') ∧ w'.cell? ⟨kb, 0, none⟩ = some (.slice A p.fs.length cap) ∧ w'.cell? ⟨kb, 1, none⟩ = some (.slice A2 (p.m.len + 1) cap2) ∧ Below wc.heap.size wc w')) (by kernel_rfl) ⟨by simpa using y0, by simpa using y1, by simpa using y2, by simpa using y3, by simpa using y4, by simpa using y5, F2⟩ (fun hHeld => ?_)
        refine wpAnyH_take (i := 0) (v := Value.agg #[.slice A p.fs.length cap, .slice X p.m.len capx]) rfl (by kernel_rfl) (by kernel_rfl) (by kernel_rfl) (fun _ _ _ h => h) (Or.inl ⟨by rfl, ?_⟩) (by assumption) ?_
        · intro W hS
          obtain ⟨k0, k1, k2, k3, _⟩ := hS
          go_simp
        try simp only [Act.put, List.getElem_toArray, List.getElem_cons_zero, List.setIfInBounds_toArray, List.set_cons_zero, List.set_cons_succ]
        refine wpAnyH_take (i := 1) (v := Value.agg #[.slice A' q.fs.length cap', .slice X' q.m.len capx']) rfl (by kernel_rfl) (by kernel_rfl) (by kernel_rfl) (fun _ _ _ h => h) (Or.inl ⟨by rfl, ?_⟩) (by assumption) ?_
        · intro W hS
          obtain ⟨k0, k1, k2, k3, _⟩ := hS
          go_simp
        try simp only [Act.put, List.getElem_toArray, List.getElem_cons_zero, List.getElem_cons_succ, List.setIfInBounds_toArray, List.set_cons_zero, List.set_cons_succ]
        refine wpAnyH_ready (rs := [2]) (by kernel_rfl) (by simp) ?_
        refine AllReadyH.cons rfl (fun K hK => ?_) AllReadyH.nil
        go_simp
        go_at_call 18
        refine (HPQ _ (by first | assumption | (obtain ⟨_, _, _, _, _, _, hz⟩ := hHeld; exact hz))).mono ?_
        rintro e w2 ⟨rfl, y0, y1, y2, y3, y4, y5, y6⟩
        go_wp2_with fail
        refine hK.out _ _ ⟨y0, y1, y2, y3, y4, y5, y6⟩ (fun hHeld2 => ?_)
        clear hK K hHeld
        try simp only [Act.put, List.getElem_toArray, List.getElem_cons_zero, List.getElem_cons_succ, List.setIfInBounds_toArray, List.set_cons_zero, List.set_cons_succ]
        refine wpAnyH_take (i := 3) (v := Value.bool false) rfl (by kernel_rfl) (by kernel_rfl) (by kernel_rfl) (fun _ _ _ h => h) (Or.inl ⟨by rfl, ?_⟩) (by assumption) ?_
        · intro W hS
          obtain ⟨k0, k1, k2, k3, _⟩ := hS
          go_simp
        try simp only [Act.put, List.getElem_toArray, List.getElem_cons_zero, List.getElem_cons_succ, List.setIfInBounds_toArray, List.set_cons_zero, List.set_cons_succ]
        refine wpAnyH_take (i := 4) rfl (by kernel_rfl) (by kernel_rfl) (by kernel_rfl) (fun _ _ _ h => h) (Or.inr ⟨by (simp [Region.wanted, yielded, undef]; done), rfl⟩) (by assumption) ?_
        try simp only [Act.put, List.getElem_toArray, List.getElem_cons_zero, List.getElem_cons_succ, List.setIfInBounds_toArray, List.set_cons_zero, List.set_cons_succ]
        refine wpAnyH_take (i := 5) rfl (by kernel_rfl) (by kernel_rfl) (by kernel_rfl) (fun _ _ _ h => h) (Or.inr ⟨by (simp [Region.wanted, yielded, undef]; done), rfl⟩) (by assumption) ?_
        try simp only [Act.put, List.getElem_toArray, List.getElem_cons_zero, List.getElem_cons_succ, List.setIfInBounds_toArray, List.set_cons_zero, List.set_cons_succ]
        refine wpAnyH_take (i := 6) rfl (by kernel_rfl) (by kernel_rfl) (by kernel_rfl) (fun _ _ _ h => h) (Or.inr ⟨by (simp [Region.wanted, yielded, undef]; done), rfl⟩) (by assumption) ?_
        try simp only [Act.put, List.getElem_toArray, List.getElem_cons_zero, List.getElem_cons_succ, List.setIfInBounds_toArray, List.set_cons_zero, List.set_cons_succ]
        refine wpAnyH_take (i := 7) rfl (by kernel_rfl) (by kernel_rfl) (by kernel_rfl) (fun _ _ _ h => h) (Or.inr ⟨by (simp [Region.wanted, yielded, undef]; done), rfl⟩) (by assumption) ?_
        try simp only [Act.put, List.getElem_toArray, List.getElem_cons_zero, List.getElem_cons_succ, List.setIfInBounds_toArray, List.set_cons_zero, List.set_cons_succ]
        refine wpAnyH_take (i := 8) rfl (by kernel_rfl) (by kernel_rfl) (by kernel_rfl) (fun _ _ _ h => h) (Or.inr ⟨by (simp [Region.wanted, yielded, undef]; done), rfl⟩) (by assumption) ?_
        try simp only [Act.put, List.getElem_toArray, List.getElem_cons_zero, List.getElem_cons_succ, List.setIfInBounds_toArray, List.set_cons_zero, List.set_cons_succ]
        refine wpAnyH_take (i := 9) rfl (by kernel_rfl) (by kernel_rfl) (by kernel_rfl) (fun _ _ _ h => h) (Or.inr ⟨by (simp [Region.wanted, yielded, undef]; done), rfl⟩) (by assumption) ?_
        try simp only [Act.put, List.getElem_toArray, List.getElem_cons_zero, List.getElem_cons_succ, List.setIfInBounds_toArray, List.set_cons_zero, List.set_cons_succ]
        refine wpAnyH_take (i := 10) rfl (by kernel_rfl) (by kernel_rfl) (by kernel_rfl) (fun _ _ _ h => h) (Or.inr ⟨by (simp [Region.wanted, yielded, undef]; done), rfl⟩) (by assumption) ?_
        try simp only [Act.put, List.getElem_toArray, List.getElem_cons_zero, List.getElem_cons_succ, List.setIfInBounds_toArray, List.set_cons_zero, List.set_cons_succ]
        refine wpAnyH_take (i := 11) rfl (by kernel_rfl) (by kernel_rfl) (by kernel_rfl) (fun _ _ _ h => h) (Or.inr ⟨by (simp [Region.wanted, yielded, undef]; done), rfl⟩) (by assumption) ?_
        try simp only [Act.put, List.getElem_toArray, List.getElem_cons_zero, List.getElem_cons_succ, List.setIfInBounds_toArray, List.set_cons_zero, List.set_cons_succ]
        refine wpAnyH_take (i := 12) rfl (by kernel_rfl) (by kernel_rfl) (by kernel_rfl) (fun _ _ _ h => h) (Or.inr ⟨by (simp [Region.wanted, yielded, undef]; done), rfl⟩) (by assumption) ?_
        try simp only [Act.put, List.getElem_toArray, List.getElem_cons_zero, List.getElem_cons_succ, List.setIfInBounds_toArray, List.set_cons_zero, List.set_cons_succ]
        refine wpAnyH_take (i := 13) rfl (by kernel_rfl) (by kernel_rfl) (by kernel_rfl) (fun _ _ _ h => h) (Or.inr ⟨by (simp [Region.wanted, yielded, undef]; done), rfl⟩) (by assumption) ?_
        try simp only [Act.put, List.getElem_toArray, List.getElem_cons_zero, List.getElem_cons_succ, List.setIfInBounds_toArray, List.set_cons_zero, List.set_cons_succ]
        refine wpAnyH_take (i := 14) rfl (by kernel_rfl) (by kernel_rfl) (by kernel_rfl) (fun _ _ _ h => h) (Or.inr ⟨by (simp [Region.wanted, yielded, undef]; done), rfl⟩) (by assumption) ?_
        try simp only [Act.put, List.getElem_toArray, List.getElem_cons_zero, List.getElem_cons_succ, List.setIfInBounds_toArray, List.set_cons_zero, List.set_cons_succ]
        refine wpAnyH_take (i := 15) rfl (by kernel_rfl) (by kernel_rfl) (by kernel_rfl) (fun _ _ _ h => h) (Or.inr ⟨by (simp [Region.wanted, yielded, undef]; done), rfl⟩) (by assumption) ?_
        try simp only [Act.put, List.getElem_toArray, List.getElem_cons_zero, List.getElem_cons_succ, List.setIfInBounds_toArray, List.set_cons_zero, List.set_cons_succ]
        refine wpAnyH_take (i := 16) rfl (by kernel_rfl) (by kernel_rfl) (by kernel_rfl) (fun _ _ _ h => h) (Or.inr ⟨by (simp [Region.wanted, yielded, undef]; done), rfl⟩) (by assumption) ?_
        try simp only [Act.put, List.getElem_toArray, List.getElem_cons_zero, List.getElem_cons_succ, List.setIfInBounds_toArray, List.set_cons_zero, List.set_cons_succ]
        refine wpAnyH_take (i := 17) rfl (by kernel_rfl) (by kernel_rfl) (by kernel_rfl) (fun _ _ _ h => h) (Or.inr ⟨by (simp [Region.wanted, yielded, undef]; done), rfl⟩) (by assumption) ?_
        try simp only [Act.put, List.getElem_toArray, List.getElem_cons_zero, List.getElem_cons_succ, List.setIfInBounds_toArray, List.set_cons_zero, List.set_cons_succ]
        refine wpAnyH_take (i := 18) rfl (by kernel_rfl) (by kernel_rfl) (by kernel_rfl) (fun _ _ _ h => h) (Or.inr ⟨by (simp [Region.wanted, yielded, undef]; done), rfl⟩) (by assumption) ?_
        try simp only [Act.put, List.getElem_toArray, List.getElem_cons_zero, List.getElem_cons_succ, List.setIfInBounds_toArray, List.set_cons_zero, List.set_cons_succ]
        refine wpAnyH_take (i := 19) rfl (by kernel_rfl) (by kernel_rfl) (by kernel_rfl) (fun _ _ _ h => h) (Or.inr ⟨by (simp [Region.wanted, yielded, undef]; done), rfl⟩) (by assumption) ?_
        try simp only [Act.put, List.getElem_toArray, List.getElem_cons_zero, List.getElem_cons_succ, List.setIfInBounds_toArray, List.set_cons_zero, List.set_cons_succ]
        refine wpAnyH_take (i := 20) rfl (by kernel_rfl) (by kernel_rfl) (by kernel_rfl) (fun _ _ _ h => h) (Or.inr ⟨by (simp [Region.wanted, yielded, undef]; done), rfl⟩) (by assumption) ?_
        try simp only [Act.put, List.getElem_toArray, List.getElem_cons_zero, List.getElem_cons_succ, List.setIfInBounds_toArray, List.set_cons_zero, List.set_cons_succ]
        refine wpAnyH_take (i := 21) rfl (by kernel_rfl) (by kernel_rfl) (by kernel_rfl) (fun _ _ _ h => h) (Or.inr ⟨by (simp [Region.wanted, yielded, undef]; done), rfl⟩) (by assumption) ?_
        try simp only [Act.put, List.getElem_toArray, List.getElem_cons_zero, List.getElem_cons_succ, List.setIfInBounds_toArray, List.set_cons_zero, List.set_cons_succ]
        refine wpAnyH_take (i := 22) rfl (by kernel_rfl) (by kernel_rfl) (by kernel_rfl) (fun _ _ _ h => h) (Or.inr ⟨by (simp [Region.wanted, yielded, undef]; done), rfl⟩) (by assumption) ?_
        try simp only [Act.put, List.getElem_toArray, List.getElem_cons_zero, List.getElem_cons_succ, List.setIfInBounds_toArray, List.set_cons_zero, List.set_cons_succ]
        refine wpAnyH_take (i := 23) (v := Value.bool false) rfl (by kernel_rfl) (by kernel_rfl) (by kernel_rfl) (fun _ _ _ h => h) (Or.inl ⟨by rfl, ?_⟩) (by assumption) ?_
        · intro W hS
          obtain ⟨k0, k1, k2, k3, _⟩ := hS
          go_simp
        try simp only [Act.put, List.getElem_toArray, List.getElem_cons_zero, List.getElem_cons_succ, List.setIfInBounds_toArray, List.set_cons_zero, List.set_cons_succ]
        refine wpAnyH_done (by kernel_rfl) ?_ _
        go_wp2_with fail
        go_meet
        exact ⟨rfl, by assumption, by assumption, by assumption⟩
      | true =>
        have hpe := (eqG_iff p q).1 heb
        rw [show cntL q.pts = cntL p.pts by rw [hpe]] at HSq
        rw [show deepL q.pts = deepL p.pts by rw [hpe]] at HDq
        rw [show rightN q = rightN p by rw [hpe]] at HRq
        clear HEB heb hpe
        obtain ⟨rn, hrn⟩ : ∃ rn, rightN p = rn := ⟨_, rfl⟩
        obtain ⟨dn, hdn⟩ : ∃ dn, deepL p.pts = dn := ⟨_, rfl⟩
        obtain ⟨sn, hsn⟩ : ∃ sn, wrap64 (cntL p.pts) = sn := ⟨_, rfl⟩
        rw [hrn] at HRp HRq
        rw [hdn] at HDp HDq
        rw [hsn] at HSp HSq
        clear hrn hdn hsn
        go_region_held3 (fun w' => w'.cell? ⟨g, 0, none⟩ = some (.slice A p.fs.length cap) ∧ w'.cell? ⟨g, 1, none⟩ = some (.slice X p.m.len capx) ∧ w'.cell? ⟨g + 1, 0, none⟩ = some (.slice A' q.fs.length cap') ∧ w'.cell? ⟨g + 1, 1, none⟩ = some (.slice X' q.m.len capx') ∧ w'.cell? ⟨kb, 0, none⟩ = some (.slice A p.fs.length cap) ∧ w'.cell? ⟨kb, 1, none⟩ = some (.slice A2 (p.m.len + 1) cap2) ∧ Below wc.heap.size wc w')
          (first | exact ⟨by simpa using y0, by simpa using y1, by simpa using y2, by simpa using y3, by simpa using y4, by simpa using y5, F2⟩ | exact ⟨y0, y1, y2, y3, y4, y5, y6⟩ | go_keep)
          (first
            | (go_at_call 16; with_reducible refine (HSp _ (by assumption)).mono ?_; rintro e w2 ⟨rfl, y0, y1, y2, y3, y4, y5, y6⟩)
            | (go_at_call 16; with_reducible refine (HSq _ (by assumption)).mono ?_; rintro e w2 ⟨rfl, y0, y1, y2, y3, y4, y5, y6⟩)
            | (go_at_call 14; with_reducible refine (HDp _ (by assumption)).mono ?_; rintro e w2 ⟨rfl, y0, y1, y2, y3, y4, y5, y6⟩)
            | (go_at_call 14; with_reducible refine (HDq _ (by assumption)).mono ?_; rintro e w2 ⟨rfl, y0, y1, y2, y3, y4, y5, y6⟩)
            | (go_at_call 12; with_reducible refine (HRp _ (by assumption)).mono ?_; rintro e w2 ⟨rfl, y0, y1, y2, y3, y4, y5, y6⟩)
            | (go_at_call 12; with_reducible refine (HRq _ (by assumption)).mono ?_; rintro e w2 ⟨rfl, y0, y1, y2, y3, y4, y5, y6⟩)
            | (go_at_call 18; with_reducible refine (HPQ _ (by assumption)).mono ?_; rintro e w2 ⟨rfl, y0, y1, y2, y3, y4, y5, y6⟩))
        go_wp2_with fail
        go_meet
        exact ⟨rfl, by assumption, by assumption, by assumption⟩
    case rest =>
    obtain ⟨rfl, z0, z1, zb⟩ := hcut
    have hb9 : Below w1.heap.size w1 wc := hbw.trans (zb.mono hbw.size)
    have hF9 : Fr w wc := hF.trans (hb9.mono hB)
    clear HEB F2 zb hFw hBw hpp hpq hne c0 c1 c2 c3 hgc hTS HPQ hbw y0 y1 y2 y3 y4 y5 y6 HSp HSq HDp HDq HRp HRq ck0 ck1
    by_cases hz : p.fs.length = 0
    · have e1 : ((p.fs.length : Int) == 0) = true := by simpa using hz
      have e2 : ((p.fs.length : Int) != 0) = false := by simpa using hz
      go_wp2
      go_ret
      exact ⟨rfl, hF9⟩
    · have e1 : ((p.fs.length : Int) == 0) = false := by simpa using hz
      have e2 : ((p.fs.length : Int) != 0) = true := by simpa using hz
      go_upto_region 9 with fail
      obtain ⟨i1, hfi, hfz0, hfz1, hfz2⟩ := info_parts funcInfo
      have hvF9 : FV w.heap.size wc (.slice A p.fs.length cap) p.fs := FV.below hvF hF9 (Nat.le_refl _)
      obtain ⟨_, csF, hcF, hqF⟩ := fv_news hvF9
      have hnF : csF.length = p.fs.length * 3 := hcF.len
      have h1F := hcF.one
      have CN3 : ∀ W, Below wc.heap.size wc W → ∀ ad, A = some ad → ∀ j u, csF[j]? = some u → W.cell? (ad.add j) = some u := by
        intro W hb ad e j u hu
        have h := hqF ad e j u hu
        exact (hb.cell (p := ad.add j) (lt_of_cell h)).trans h
      have hs6 : w1.heap.size ≤ wc.heap.size := hb9.size
      have hL1 : 0 + p.fs.length ≤ maxLen := by unfold reachBytes at h64; unfold maxLen; omega
      have hL2 : (0 + p.fs.length) * 64 ≤ 140737488355328 := by unfold reachBytes at h64; omega
      have CS9 : ∀ W, Below w1.heap.size w1 W → (W.cell? ⟨g, 0, none⟩ = some (.slice A p.fs.length cap) ∧ W.cell? ⟨g, 1, none⟩ = some (.slice X p.m.len capx) ∧ Below w1.heap.size w1 W) := fun W hb => ⟨(CS W hb).1, (CS W hb).2.1, hb⟩
      have HFC := Lib.hid (fun W (hb : Below wc.heap.size wc W) => fsCells.below (hb.mono hF9.size) (Nat.le_refl _) hcF)
      have HA := Lib.hid hA
      clear hA CS h1M CN
      go_cut [9] (fun s9 wx => ∃ k9 A3 cap3, s9 = .pointer (some ⟨k9, 0, none⟩) ∧ Fin2 wc wx 35 3 k9 (.slice A3 p.fs.length cap3) (.slice X p.m.len capx) (.slice A3 p.fs.length cap3) p.fs.length csF)
      case first =>
        go_region_held3 (fun w' => w'.cell? ⟨g, 0, none⟩ = some (.slice A p.fs.length cap) ∧ w'.cell? ⟨g, 1, none⟩ = some (.slice X p.m.len capx) ∧ Below w1.heap.size w1 w')
          ((refine CS9 _ ?_; (focus ((repeat (first | with_reducible assumption | with_reducible exact Below.refl _ _ | with_reducible refine belowD ?_ | with_reducible refine belowA ?_ _ | (with_reducible refine belowS ?_ ?hkx _; case hkx => first | assumption | omega))); done))))
          (first
            | (refine step_append_own rfl (.tmp 73) (.tmp 75) 22 rfl wc.heap.size 35 i1 _ 3 64 Tryd.underlying22 hfi hfz0 hfz1 hfz2 rfl (by decide) (.slice (some ⟨wc.heap.size, 0, none⟩) 0 0) 0 [] rfl ?gown A p.fs.length cap csF rfl (fun e => ⟨fv_nil0 hvF9 e, HA.out e⟩) hnF ?gnews h1F ?gl1 ?gl2 ?gbase ?_; (case gl1 => assumption); (case gl2 => assumption); (case gown => (focus ((repeat (first | with_reducible assumption | (with_reducible refine made_in ?hkx ?hky; (case hkx => (first | with_reducible rfl | (simp only [World.size_alloc]))); (case hky => omega)) | with_reducible refine own_drew ?_ | with_reducible refine World.ownsRow.alloc ?_ _)); done))); (case gnews => (refine CN3 _ ?_; (focus ((repeat (first | with_reducible assumption | with_reducible exact Below.refl _ _ | with_reducible refine belowD ?_ | with_reducible refine belowA ?_ _ | (with_reducible refine belowS ?_ ?hkx _; case hkx => first | assumption | omega))); done)))); (case gbase => (refine Below.size (B := wc.heap.size) (w := wc) ?_; (focus ((repeat (first | with_reducible assumption | with_reducible exact Below.refl _ _ | with_reducible refine belowD ?_ | with_reducible refine belowA ?_ _ | (with_reducible refine belowS ?_ ?hkx _; case hkx => first | assumption | omega))); done)))); intro v9 w9 hown9 hgrow9; (refine (fun (hb10 : Below wc.heap.size wc w9) => ?_) ?hhb9; case hhb9 => (refine grown_below (v := .slice (some ⟨wc.heap.size, 0, none⟩) 0 0) (n := 0) (xs := []) (base := wc.heap.size) (e := 35) (size := 3) ?_ ?_ (Nat.le_refl _) hgrow9; (focus (focus ((repeat (first | with_reducible assumption | with_reducible exact Below.refl _ _ | with_reducible refine belowD ?_ | with_reducible refine belowA ?_ _ | (with_reducible refine belowS ?_ ?hkx _; case hkx => first | assumption | omega))); done))); (focus (focus ((repeat (first | with_reducible assumption | (with_reducible refine made_in ?hkx ?hky; (case hkx => (first | with_reducible rfl | (simp only [World.size_alloc]))); (case hky => omega)) | with_reducible refine own_drew ?_ | with_reducible refine World.ownsRow.alloc ?_ _)); done))))); rw [Nat.zero_add, List.nil_append] at hown9; have hs9 := hb10.size; have hb10' : Below w1.heap.size w1 w9 := hb9.trans (hb10.mono hs6); (first | (refine (fun (hbx9 : w9.heap[(wc.heap.size + 1 : Nat)]? = some (.cells #[.slice none 0 0, .slice none 0 0] 25)) => ?_) ?hhbx9; (case hhbx9 => (refine blk_grown ?_ hgrow9 ?_; (focus (focus ((repeat (first | with_reducible assumption | (with_reducible refine blk_new ?hkx; case hkx => (first | with_reducible rfl | (simp only [World.size_alloc]))) | with_reducible refine blk_drew ?_ | with_reducible refine blk_alloc ?_ _)); done))); (focus ((simp only [Value.ownBlock, ne_eq, Option.some.injEq]); omega)))); (have c40 := blk_cell hbx9 0; have c41 := blk_cell hbx9 1; have f40 := blk_frozen hbx9 0; have f41 := blk_frozen hbx9 1; simp at c40 c41)) | skip); obtain ⟨A3, cap3, rfl⟩ := own_form hown9)
            | (refine step_append_own rfl (.tmp 73) (.tmp 75) 22 rfl wc.heap.size 35 i1 _ 3 64 Tryd.underlying22 hfi hfz0 hfz1 hfz2 rfl (by decide) (.slice (some ⟨wc.heap.size + 1, 0, none⟩) 0 0) 0 [] rfl ?gown A p.fs.length cap csF rfl (fun e => ⟨fv_nil0 hvF9 e, HA.out e⟩) hnF ?gnews h1F ?gl1 ?gl2 ?gbase ?_; (case gl1 => assumption); (case gl2 => assumption); (case gown => (focus ((repeat (first | with_reducible assumption | (with_reducible refine made_in ?hkx ?hky; (case hkx => (first | with_reducible rfl | (simp only [World.size_alloc]))); (case hky => omega)) | with_reducible refine own_drew ?_ | with_reducible refine World.ownsRow.alloc ?_ _)); done))); (case gnews => (refine CN3 _ ?_; (focus ((repeat (first | with_reducible assumption | with_reducible exact Below.refl _ _ | with_reducible refine belowD ?_ | with_reducible refine belowA ?_ _ | (with_reducible refine belowS ?_ ?hkx _; case hkx => first | assumption | omega))); done)))); (case gbase => (refine Below.size (B := wc.heap.size) (w := wc) ?_; (focus ((repeat (first | with_reducible assumption | with_reducible exact Below.refl _ _ | with_reducible refine belowD ?_ | with_reducible refine belowA ?_ _ | (with_reducible refine belowS ?_ ?hkx _; case hkx => first | assumption | omega))); done)))); intro v9 w9 hown9 hgrow9; (refine (fun (hb10 : Below wc.heap.size wc w9) => ?_) ?hhb9; case hhb9 => (refine grown_below (v := .slice (some ⟨wc.heap.size + 1, 0, none⟩) 0 0) (n := 0) (xs := []) (base := wc.heap.size) (e := 35) (size := 3) ?_ ?_ (Nat.le_refl _) hgrow9; (focus (focus ((repeat (first | with_reducible assumption | with_reducible exact Below.refl _ _ | with_reducible refine belowD ?_ | with_reducible refine belowA ?_ _ | (with_reducible refine belowS ?_ ?hkx _; case hkx => first | assumption | omega))); done))); (focus (focus ((repeat (first | with_reducible assumption | (with_reducible refine made_in ?hkx ?hky; (case hkx => (first | with_reducible rfl | (simp only [World.size_alloc]))); (case hky => omega)) | with_reducible refine own_drew ?_ | with_reducible refine World.ownsRow.alloc ?_ _)); done))))); rw [Nat.zero_add, List.nil_append] at hown9; have hs9 := hb10.size; have hb10' : Below w1.heap.size w1 w9 := hb9.trans (hb10.mono hs6); (first | (refine (fun (hbx9 : w9.heap[(wc.heap.size : Nat)]? = some (.cells #[.slice none 0 0, .slice none 0 0] 25)) => ?_) ?hhbx9; (case hhbx9 => (refine blk_grown ?_ hgrow9 ?_; (focus (focus ((repeat (first | with_reducible assumption | (with_reducible refine blk_new ?hkx; case hkx => (first | with_reducible rfl | (simp only [World.size_alloc]))) | with_reducible refine blk_drew ?_ | with_reducible refine blk_alloc ?_ _)); done))); (focus ((simp only [Value.ownBlock, ne_eq, Option.some.injEq]); omega)))); (have c40 := blk_cell hbx9 0; have c41 := blk_cell hbx9 1; have f40 := blk_frozen hbx9 0; have f41 := blk_frozen hbx9 1; simp at c40 c41)) | skip); obtain ⟨A3, cap3, rfl⟩ := own_form hown9))
        all_goals
          go_wp2_with fail
          go_meet
          first
            | exact ⟨_, _, _, rfl, fin_alloc hb10 hown9⟩
            | exact ⟨_, _, _, rfl, fin_set hb10 (by omega) hbx9 (by decide) hown9⟩
      case rest =>
      obtain ⟨k9, A3, cap3, rfl, hk9, hl9, c90, c91, hown9, hne9, hb10⟩ := hcut
      have hpos : 0 < p.fs.length := by omega
      obtain ⟨f, r, hfr⟩ : ∃ f r, p.fs = f :: r := by
        cases h : p.fs with
        | nil => rw [h] at hpos; simp at hpos
        | cons f r => exact ⟨f, r, rfl⟩
      obtain ⟨g3, cur, rfl, hge3, hblk3, hnc3, hcm3, hq3⟩ := own_blk hown9 hpos
      have hc0 := HFC.out _ hb10
      have hcs0 : csF[0]? = some (.string f.s) := by
        rw [hfr] at hc0
        obtain ⟨vp, vb, rest, e, _⟩ := hc0
        rw [e]; rfl
      have hfs : f.s.size ≤ reachBytes := by
        obtain ⟨A1, cap1, e, _, _, hr1⟩ := hvF
        injection e with e1 e2 e3
        subst e1 e3
        obtain ⟨b, o, e4, _, hi4⟩ := hr1 hpos
        rw [hfr] at hi4
        exact hnm b o f.s e4 hpos hi4.1
      have c10 := hq3 0 _ hcs0
      have f10 := blk_frozen hblk3 0
      have hF10 := fun s' : ByteArray => belowD (belowS (i := 0) hb10 hge3 (.string s'))
      have hx1 : (f.s ++ ⟨#[120]⟩).size ≤ 9223372036854775807 := by
        unfold reachBytes at hfs
        rw [ByteArray.size_append, show (⟨#[120]⟩ : ByteArray).size = 1 from rfl]
        omega
      have hx2 : f.s.size + 1 ≤ 9223372036854775807 := by unfold reachBytes at hfs; omega
      have hx3 : (9223372036854775807 < f.s.size + 1) = False := by simp only [eq_iff_iff, iff_false]; omega
      obtain ⟨x0, x1, _⟩ := CS9 wc (hb9.trans (hb10.mono hs6))
      go_upto_region 10 with fail
      go_region
      obtain ⟨w11, hw11⟩ : ∃ W, (wc.setCell ⟨g3, 0, none⟩ (.string (f.s ++ ⟨#[120]⟩))).drew = W := ⟨_, rfl⟩
      have hb11 := hF10 (f.s ++ ⟨#[120]⟩)
      rw [hw11] at hb11 ⊢
      have hc11 := HFC.out _ hb11
      rw [hfr] at hc11
      have hc12 := fs_other hc11 hx1
      have rd : ∀ a : Addr, (⟨g3, 0, none⟩ : Addr) ≠ a → w11.cell? a = wc.cell? a := by
        intro a ha
        rw [← hw11]
        show (wc.setCell ⟨g3, 0, none⟩ _).cell? a = _
        rw [World.cell?_setCell_other (h := ha)]
      have q0 : w11.cell? ⟨g3, 0, none⟩ = some (.string (f.s ++ ⟨#[120]⟩)) := by
        rw [← hw11]
        exact World.cell?_setCell_same _ _ _ c10
      have q11 : ∀ j u, (csF.set 0 (.string (f.s ++ ⟨#[120]⟩)))[j]? = some u → w11.cell? ⟨g3, 0 + j, none⟩ = some u := by
        intro j u hu
        rw [Nat.zero_add]
        cases j with
        | zero =>
          have h0 := (List.getElem?_eq_some_iff.1 hcs0).1
          rw [List.getElem?_set_self h0] at hu
          rw [q0, hu]
        | succ j =>
          rw [List.getElem?_set_ne (by omega)] at hu
          rw [rd _ (by simp)]
          exact hq3 _ _ hu
      have hk93 : g3 ≠ k9 := fun e => hne9 (by rw [e]; rfl)
      have d90 : w11.cell? ⟨k9, 0, none⟩ = some (.slice (some ⟨g3, 0, none⟩) p.fs.length cap3) := by rw [rd _ (fun e => hk93 (congrArg Addr.block e))]; exact c90
      have d91 : w11.cell? ⟨k9, 1, none⟩ = some (.slice X p.m.len capx) := by rw [rd _ (fun e => hk93 (congrArg Addr.block e))]; exact c91
      have hb12 := hb9.trans (hb11.mono hs6)
      obtain ⟨x0', x1', _⟩ := CS9 w11 hb12
      have hF11 : Fr w w11 := hF9.trans (hb11.mono hF9.size)
      have hl3 : g3 < w11.heap.size := by
        have h := blk_lt hblk3
        rw [← hw11]
        simpa using h
      have hfv : FV w11.heap.size w11 (.slice (some ⟨g3, 0, none⟩) p.fs.length cap3) (⟨f.s ++ ⟨#[120]⟩, f.ps, f.b⟩ :: r) :=
        ⟨some ⟨g3, 0, none⟩, cap3, by rw [hfr]; rfl, by rw [hfr] at hnc3; exact hnc3, hcm3, fun _ => ⟨g3, 0, rfl, hl3, (fsCells.below (Below.refl _ _) hF11.size hc12).in_ q11⟩⟩
      have hpo : PgV w11.heap.size w11 (.agg #[.slice (some ⟨g3, 0, none⟩) p.fs.length cap3, .slice X p.m.len capx]) ⟨⟨f.s ++ ⟨#[120]⟩, f.ps, f.b⟩ :: r, p.m⟩ :=
        ⟨some ⟨g3, 0, none⟩, cap3, X, capx, by rw [hfr]; rfl, by rw [hfr] at hfv; exact hfv, SV.below hvM hF11 hF11.size⟩
      have hpp : PgV w11.heap.size w11 (.agg #[.slice A p.fs.length cap, .slice X p.m.len capx]) p := ⟨A, cap, X, capx, rfl, FV.below hvF hF11 hF11.size, SV.below hvM hF11 hF11.size⟩
      have eo : eqG p ⟨⟨f.s ++ ⟨#[120]⟩, f.ps, f.b⟩ :: r, p.m⟩ = false := by
        rw [← Bool.not_eq_true, eqG_iff]
        intro e
        have e2 := congrArg Pg.fs e
        rw [hfr] at e2
        injection e2 with e2 _
        exact ba_ne _ (congrArg Fn.s e2)
      have HO := equal_any _ _ _ _ w11 _ (Nat.le_refl _) hpp hpo
      rw [eo] at HO
      have HO := Lib.hid HO
      clear hc0 hc11 hc12 rd q11 hfv hpo hpp eo hq3 HFC q0 hcs0 hF10 hfr c10 f10
      go_wp2_with (go_at_call 18; ((with_reducible refine (HO.out).mono ?_); rintro e w12 ⟨rfl, h12⟩))
      go_ret
      exact ⟨rfl, hF11.step h12⟩

end Go.Proofs.YtnjghoaelcpljaaDoor
