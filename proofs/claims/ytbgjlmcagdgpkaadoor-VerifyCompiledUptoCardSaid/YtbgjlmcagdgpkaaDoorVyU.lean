/-
  verify.Code.
-/
import Derived.Test.YtbgjlmcagdgpkaaDoorVyT
namespace Go.Proofs.YtbgjlmcagdgpkaaDoor
open Go Go.RowKit Go.Lib

theorem sized_parts {l : List Fv} (h : sizedB l = true) : (1 ≤ l.length ∧ l.length ≤ 33) ∧ AllOk l ∧ ∀ f, f ∈ l → (0 ≤ f.v ∧ f.v ≤ 64) ∧ (0 ≤ f.x ∧ f.x ≤ 64) := by
  unfold sizedB at h
  simp only [Bool.and_eq_true, Bool.not_eq_true', List.any_eq_false] at h
  obtain ⟨⟨h1, _⟩, h3⟩ := h
  unfold inI at h1
  simp only [Bool.and_eq_true, decide_eq_true_eq] at h1
  have key : ∀ f, f ∈ l → (0 ≤ f.v ∧ f.v ≤ 64) ∧ (0 ≤ f.x ∧ f.x ≤ 64) ∧ (0 ≤ f.n ∧ f.n ≤ 8) := by
    intro f hf
    have := h3 f hf
    unfold unfitB inI at this
    simp only [Bool.or_eq_true, Bool.not_eq_true', Bool.and_eq_false_iff, decide_eq_false_iff_not, not_or, Classical.not_not] at this
    omega
  exact ⟨by omega, ⟨by omega, fun g hg => (key g hg).2.2⟩, fun f hf => ⟨(key f hf).1, (key f hf).2.1⟩⟩
/-- The instructions of all functions are not too many. -/
def Short (l : List Fv) : Prop := ∀ f, f ∈ l → f.L.length ≤ 1000000000
def CdRel (w : World) (len : Nat) (A : Option Addr) (all : List Fv) (i : Value) (wr : World) : Prop :=
  ∃ (k : Nat) (r : List Fv), i = .int .i64 k ∧ k + r.length = len ∧ all.all (runsB all) = r.all (runsB all) ∧ (∀ f, f ∈ r → f ∈ all) ∧ (0 < r.length → ∃ b o, A = some ⟨b, o, none⟩ ∧ b < w.heap.size ∧ FvIn w.heap.size w r b (o + k * 5)) ∧ Below w.heap.size w wr
set_option maxRecDepth 100000 in
set_option maxHeartbeats 4000000 in
theorem code_any (v : Value) (l : List Fv) (lo : Nat) (w : World) (hv : FvV w.heap.size w v l) (hs : Short l) (ht : CT lo w) :
    Calls Tryd.prog 6 #[.agg #[v]] w fun e w' => e = .returned (.int .i64 (codeErr l)) ∧ Below w.heap.size w w' := by
  have HV := Lib.hid hv
  obtain ⟨A, cap, rfl, hc1, hc2, hrow⟩ := hv
  obtain ⟨len, hlen⟩ : ∃ len, l.length = len := ⟨_, rfl⟩
  rw [hlen] at hc1 hrow HV ⊢
  have HL := Lib.hid hlen; clear hlen
  have HT := Lib.hid ht
  have HROW := Lib.hid hrow
  have HSH := Lib.hid hs
  obtain ⟨W, hW⟩ : ∃ W, w.alloc (.cells #[.slice A len cap] 29) = W := ⟨_, rfl⟩
  have hbx : W.heap[w.heap.size]? = some (.cells #[.slice A len cap] 29) := by rw [← hW]; exact heap_alloc_new _ _
  have hbw : Below w.heap.size w W := by rw [← hW]; exact (Below.refl _ _).alloc (Nat.le_refl _) _
  have HW := Lib.hid hW
  have lbx := blk_lt hbx
  have x0 : W.cell? ⟨w.heap.size, 0, none⟩ = some (.slice A len cap) := (blk_cell hbx 0).trans rfl
  have HB := Lib.hid hbw
  have HX := Lib.hid hbx
  have HSZ := Lib.hid (sized_any W.heap.size (.slice A len cap) l W (Nat.le_refl _) (by have := HL.out; subst this; exact FvV.below HV.out hbw hbw.size))
  clear hrow hs ht hbx hbw
  cases hz : sizedB l with
  | false =>
    rw [hz] at HSZ
    have he : codeErr l = 6 := by unfold codeErr codeB; rw [hz]; rfl
    have HE := Lib.hid he
    clear he hz
    go_enter Tryd.func6, Tryd.ntmps6
    go_wp2_with (go_at_call 11; ((with_reducible refine HSZ.out.mono ?_); rintro e w2 ⟨rfl, b2⟩))
    go_ret
    exact ⟨by rw [HE.out]; rfl, HB.out.trans (b2.mono HB.out.size)⟩
  | true =>
    rw [hz] at HSZ
    obtain ⟨_, hA, hvx⟩ := sized_parts hz
    have HVX := Lib.hid hvx
    have HZ := Lib.hid hz
    clear hz hvx
    go_enter Tryd.func6, Tryd.ntmps6
    go_upto_region 3 with (go_at_call 11; ((with_reducible refine HSZ.out.mono ?_); rintro e w2 ⟨rfl, b2⟩; have y0 := (b2.cell (p := ⟨w.heap.size, 0, none⟩) lbx).trans x0; have B2 := Lib.hid (HB.out.trans (b2.mono HB.out.size)); have K2 := Lib.hid (fun W' (hb : Below w2.heap.size w2 W') => ((b2.trans (hb.mono b2.size)).cell (p := ⟨w.heap.size, 0, none⟩) lbx).trans x0); have l2 := b2.size; clear b2))
    go_wp2
    go_loopw [12] (fun i wr => CdRel w len A l i wr ∧ Below w2.heap.size w2 wr) (fun i _ => len - (intOf i).toNat)
    case atStart => exact ⟨⟨0, l, rfl, by have := HL.out; omega, rfl, fun _ h => h, by simpa [HL.out] using HROW.out, B2.out⟩, Below.refl _ _⟩
    case round =>
      obtain ⟨⟨k, r, rfl, hk, hall, hmem, hr1, hbel⟩, hb2⟩ := hrel
      have HAL := Lib.hid hall
      have HBL := Lib.hid hbel
      have HB2 := Lib.hid hb2
      have HM := Lib.hid hmem
      have z0 := K2.out wr hb2
      clear hall hmem hb2
      cases r with
      | nil =>
        have hk0 : k = len := by simpa using hk
        subst hk0
        have he : codeErr l = 0 := by unfold codeErr codeB; rw [HZ.out, HAL.out]; rfl
        have HE := Lib.hid he
        clear hk hr1 hbel he
        go_wp2
        go_ret
        exact ⟨by rw [HE.out]; rfl, HBL.out⟩
      | cons f r =>
        have hlt : k < len := by simp at hk; omega
        have hf := HM.out f List.mem_cons_self
        obtain ⟨b, o, rfl, hb, c0, c1, c2, c3, ⟨v4, c4, h4⟩, hr⟩ := hr1 (by simp)
        have HI4 := Lib.hid h4
        obtain ⟨A4, cap4, rfl, _⟩ := id h4
        have d0 := (hbel.cell (p := ⟨b, o + k * 5, none⟩) hb).trans c0
        have d1 := (hbel.cell (p := ⟨b, o + k * 5 + 1, none⟩) hb).trans c1
        have d2 := (hbel.cell (p := ⟨b, o + k * 5 + 2, none⟩) hb).trans c2
        have d3 := (hbel.cell (p := ⟨b, o + k * 5 + 3, none⟩) hb).trans c3
        have d4 := (hbel.cell (p := ⟨b, o + k * 5 + 4, none⟩) hb).trans c4
        obtain ⟨wa, hwa⟩ : ∃ wa, wr.alloc (.cells #[.string f.s, .int .i64 f.n, .int .i64 f.v, .int .i64 f.x, .slice A4 f.L.length cap4] 45) = wa := ⟨_, rfl⟩
        have hba : Below w.heap.size w wa := by rw [← hwa]; exact hbel.alloc hbel.size _
        have hab : Below w2.heap.size w2 wa := by rw [← hwa]; exact HB2.out.alloc HB2.out.size _
        obtain ⟨n, hn⟩ : ∃ n, f.L.length = n := ⟨_, rfl⟩
        rw [hn] at HI4 d4 hwa
        have hxa : wa.heap[wr.heap.size]? = some (.cells #[.string f.s, .int .i64 f.n, .int .i64 f.v, .int .i64 f.x, .slice A4 n cap4] 45) := by rw [← hwa]; exact heap_alloc_new _ _
        have a0 : wa.cell? ⟨wr.heap.size, 0, none⟩ = some (.string f.s) := (blk_cell hxa 0).trans rfl
        have a1 : wa.cell? ⟨wr.heap.size, 1, none⟩ = some (.int .i64 f.n) := (blk_cell hxa 1).trans rfl
        have a2 : wa.cell? ⟨wr.heap.size, 2, none⟩ = some (.int .i64 f.v) := (blk_cell hxa 2).trans rfl
        have a3 : wa.cell? ⟨wr.heap.size, 3, none⟩ = some (.int .i64 f.x) := (blk_cell hxa 3).trans rfl
        have a4 : wa.cell? ⟨wr.heap.size, 4, none⟩ = some (.slice A4 n cap4) := (blk_cell hxa 4).trans rfl
        have hR := runs_any (all := l) (f := f) A4 (some ⟨b, o, none⟩) n cap4 len cap lo wa hn (by have := HSH.out f hf; omega) (HI4.out.below hba hba.size) (by have := HL.out; subst this; exact FvV.below HV.out hba hba.size) HL.out hA (HVX.out f hf).1 (HVX.out f hf).2 (HT.out.on (hba.mono HT.out.lw))
        have HWA := Lib.hid hwa
        have HBA := Lib.hid hba
        have HAB := Lib.hid hab
        have HK := Lib.hid hk
        have u0 := K2.out wa hab
        cases hy : runsB l f with
        | false =>
          rw [hy] at hR
          have HR := Lib.hid hR
          have he : codeErr l = 6 := by unfold codeErr codeB; rw [HZ.out, HAL.out, List.all_cons, hy]; rfl
          have HE := Lib.hid he
          clear hR he hy hk hr1 hr hbel c0 c1 c2 c3 c4 h4 hba hab
          go_wp2_with (go_at_call 12; ((with_reducible refine HR.out.mono ?_); rintro e w5 ⟨rfl, b5⟩))
          go_ret
          exact ⟨by rw [HE.out]; rfl, HBA.out.trans (b5.mono HBA.out.size)⟩
        | true =>
          rw [hy] at hR
          have HR := Lib.hid hR
          have HY := Lib.hid hy
          clear hR hy hk hr1 hbel c0 c1 c2 c3 c4 h4 hba hab
          go_wp2_with (go_at_call 12; ((with_reducible refine HR.out.mono ?_); rintro e w5 ⟨rfl, b5⟩))
          go_roundw
          case rel => exact ⟨⟨k + 1, r, by go_num, by have := HK.out; simp at this; omega, by rw [HAL.out, List.all_cons, HY.out]; rfl, fun g hg => HM.out g (List.mem_cons_of_mem _ hg), fun _ => ⟨b, o, rfl, hb, by rw [show o + (k + 1) * 5 = o + k * 5 + 5 by omega]; exact hr⟩, HBA.out.trans (b5.mono HBA.out.size)⟩, HAB.out.trans (b5.mono HAB.out.size)⟩
          case measure => simp [intOf]; omega
end Go.Proofs.YtbgjlmcagdgpkaaDoor
