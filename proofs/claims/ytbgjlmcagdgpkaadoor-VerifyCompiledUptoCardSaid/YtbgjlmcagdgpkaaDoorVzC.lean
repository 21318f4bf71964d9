/-
  VerifyCompiled's walk.
-/
import Derived.Test.YtbgjlmcagdgpkaaDoorVzB
import Derived.Test.YtbgjlmcagdgpkaaDoorVyV
import Derived.Test.YtbgjlmcagdgpkaaDoorCpM
namespace Go.Proofs.YtbgjlmcagdgpkaaDoor
open Go Go.RowKit Go.Lib

/-- A compiled function as verify sees it. -/
def fvC (c : Fc) : Fv := ⟨c.s, c.n, c.v, c.x, c.L⟩
theorem fc_fv {B : Nat} {W : World} : ∀ {l : List Fc} {b o : Nat}, FcIn B W l b o → FvIn B W (l.map fvC) b o
  | [], _, _, _ => trivial
  | _ :: _, _, _, ⟨h0, h1, h2, h3, h4, hr⟩ => ⟨h0, h1, h2, h3, h4, fc_fv hr⟩
theorem fcv_fvv {B : Nat} {W : World} {v : Value} {l : List Fc} (h : FcV B W v l) : FvV B W v (l.map fvC) := by
  obtain ⟨A, cap, e, h1, h2, h3⟩ := h
  refine ⟨A, cap, by rw [List.length_map]; exact e, by rw [List.length_map]; exact h1, h2, fun h => ?_⟩
  rw [List.length_map] at h
  obtain ⟨b, o, q1, q2, q3⟩ := h3 h
  exact ⟨b, o, q1, q2, fc_fv q3⟩
theorem cmp_fvs {p : Pg} (h : resErr p = 0) : (cmpP p).map fvC = fvs p := by
  unfold cmpP
  rw [if_pos h]
  unfold cFns fvs
  rw [List.map_map]
  rfl
theorem cmp_nil {p : Pg} (h : resErr p ≠ 0) : (cmpP p).map fvC = [] := by
  unfold cmpP
  rw [if_neg h]
  rfl
theorem fvs_short {p : Pg} (hc : cntL p.pts ≤ 10000000) : Short (fvs p) := by
  have hcc : cntL (fsPts p.fs) + p.m.cnt ≤ 10000000 := by simpa [Pg.pts, cntL_append, SS.cntL] using hc
  intro f hf
  obtain ⟨g, hg, rfl⟩ := List.mem_map.1 hf
  have h1 : g.b.cnt ≤ 10000000 := by
    rcases List.mem_cons.1 hg with rfl | hg
    · show p.m.cnt ≤ _; omega
    · have := cnt_mem hg; omega
  have h2 := cS_len (spFn (arF p.fs) g) (plOf (scopes p)) g.b 0
  show (fnL (spFn (arF p.fs) g) (plOf (scopes p)) g.b).length ≤ _
  unfold fnL
  simp only [List.length_append, List.length_cons, List.length_nil]
  omega

set_option maxRecDepth 100000 in
set_option maxHeartbeats 4000000 in
theorem compiled_walk (p : Pg) (A : Option Addr) (cap : Nat) (A' : Option Addr) (cap' : Nat) (w : World) (hv : PgV w.heap.size w (.agg #[.slice A p.fs.length cap, .slice A' p.m.len cap']) p) (ht : TB w) (hc : cntL p.pts ≤ 10000000) :
    Calls Tryd.prog 3 #[.agg #[.slice A p.fs.length cap, .slice A' p.m.len cap']] w fun e w' => e = .returned (.bool true) ∧ Below w.heap.size w w' := by
  obtain ⟨w0, hw0⟩ : ∃ w0, w.alloc (pgO A p.fs.length cap A' p.m.len cap') = w0 := ⟨_, rfl⟩
  have hb0 : Below w.heap.size w w0 := by rw [← hw0]; exact (Below.refl _ _).alloc (Nat.le_refl _) _
  have HX0 : Hid (w0.heap[w.heap.size]? = some (pgO A p.fs.length cap A' p.m.len cap')) := Lib.hid (by rw [← hw0]; exact heap_alloc_new w _)
  have HZ0 : Hid (w0.heap.size = w.heap.size + 1) := Lib.hid (by rw [← hw0, World.size_alloc])
  have ht0 := ht.step hb0
  have hv0 := hv.below hb0 hb0.size
  obtain ⟨lo, hct⟩ := ht0.ct
  have HS := Lib.hid (shown10_any lo w0 hct)
  have HV := Lib.hid (fun (W : World) (hb : Below w0.heap.size w0 W) => compile_any _ p W (hv0.below hb hb.size) (ht0.step hb) hc)
  have HT := Lib.hid (fun (W : World) (hb : Below w0.heap.size w0 W) => (hct.step hb : CT lo W))
  have HC := Lib.hid (fvs_short hc)
  have HB0 := Lib.hid hb0
  clear ht hct hc hv hv0 ht0 hb0
  obtain ⟨nf, hnf⟩ : ∃ nf, p.fs.length = nf := ⟨_, rfl⟩
  rw [hnf] at HX0 HV hw0 ⊢
  obtain ⟨nm, hnm⟩ : ∃ nm, p.m.len = nm := ⟨_, rfl⟩
  rw [hnm] at HX0 HV hw0 ⊢
  clear hnf hnm
  by_cases h0 : resErr p = 0
  · have HF := Lib.hid (cmp_fvs h0)
    have HR := Lib.hid (fvs_right h0)
    rw [h0] at HV
    clear h0
    go_enter Tryd.func3, Tryd.ntmps3
    go_wp2_with (first
      | (go_at_call 4; ((with_reducible refine HS.out.mono ?_); rintro e w1 ⟨rfl, b1⟩; have x1 := (b1.block w.heap.size (by rw [HZ0.out]; omega)).trans HX0.out; have y0 : w1.cell? ⟨w.heap.size, 0, none⟩ = some (.slice A nf cap) := (blk_cell x1 0).trans rfl; have y1 : w1.cell? ⟨w.heap.size, 1, none⟩ = some (.slice A' nm cap') := (blk_cell x1 1).trans rfl))
      | (go_at_call 5; ((with_reducible refine (HV.out _ b1).mono ?_); rintro e w2 ⟨vf, rfl, f1, c2⟩; have b2 := b1.trans (c2.mono b1.size); have f2 := fcv_fvv f1; rw [HF.out] at f2; obtain ⟨B, cp, rfl, _, _, _⟩ := id f2; have bw : Below w2.heap.size w2 (w2.alloc (.cells #[.slice B (fvs p).length cp] 29)) := (Below.refl _ _).alloc (Nat.le_refl _) _; have b3 := b2.trans (bw.mono b2.size)))
      | (go_at_call 6; ((with_reducible refine (code_t _ (fvs p) lo 0 HR.out _ (f2.below bw bw.size) HC.out (HT.out _ b3)).mono ?_); rintro e w3 ⟨rfl, c3⟩)))
    go_ret
    exact ⟨rfl, HB0.out.trans ((b3.trans (c3.mono b3.size)).mono HB0.out.size)⟩
  · have HF := Lib.hid (cmp_nil h0)
    obtain ⟨z, hz⟩ : ∃ z, resErr p = z := ⟨_, rfl⟩
    rw [hz] at HV h0
    clear hz
    have h1 : decide (z = 0) = false := decide_eq_false h0
    have h2 : (z == 0) = false := by simpa using h0
    go_enter Tryd.func3, Tryd.ntmps3
    go_wp2_with (first
      | (go_at_call 4; ((with_reducible refine HS.out.mono ?_); rintro e w1 ⟨rfl, b1⟩; have x1 := (b1.block w.heap.size (by rw [HZ0.out]; omega)).trans HX0.out; have y0 : w1.cell? ⟨w.heap.size, 0, none⟩ = some (.slice A nf cap) := (blk_cell x1 0).trans rfl; have y1 : w1.cell? ⟨w.heap.size, 1, none⟩ = some (.slice A' nm cap') := (blk_cell x1 1).trans rfl))
      | (go_at_call 5; ((with_reducible refine (HV.out _ b1).mono ?_); rintro e w2 ⟨vf, rfl, f1, c2⟩; have b2 := b1.trans (c2.mono b1.size); have f2 := fcv_fvv f1; rw [HF.out] at f2; obtain ⟨B, cp, rfl, _, _, _⟩ := id f2; have f3 : FvV w2.heap.size w2 (.slice B 0 cp) [] := f2; clear f2; have bw : Below w2.heap.size w2 (w2.alloc (.cells #[.slice B 0 cp] 29)) := (Below.refl _ _).alloc (Nat.le_refl _) _; have b3 := b2.trans (bw.mono b2.size)))
      | (go_at_call 6; ((with_reducible refine (code_t _ (([] : List Fv)) lo 6 vEn _ (f3.below bw bw.size) short_nil (HT.out _ b3)).mono ?_); rintro e w3 ⟨rfl, c3⟩)))
    go_ret
    exact ⟨rfl, HB0.out.trans ((b3.trans (c3.mono b3.size)).mono HB0.out.size)⟩
end Go.Proofs.YtbgjlmcagdgpkaaDoor
