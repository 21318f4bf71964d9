/-
  unfit; slices.ContainsFunc over functions of code; sized.
-/
import Derived.Test.YtbgjlmcagdgpkaaDoorVyM
import Derived.Lib.MinMax
namespace Go.Proofs.YtbgjlmcagdgpkaaDoor
open Go Go.RowKit Go.Lib

set_option maxHeartbeats 1000000 in
theorem unfit_any (s : ByteArray) (n v x : Int) (A : Option Addr) (k c : Nat) (w : World) :
    Calls Tryd.prog 23 #[.agg #[.string s, .int .i64 n, .int .i64 v, .int .i64 x, .slice A k c]] w fun e w' => e = .returned (.bool (!inI v 0 64 || !inI x 0 64 || !inI n 0 (min v 8))) ∧ Below w.heap.size w w' := by
  obtain ⟨y1, h1⟩ : ∃ y, inI v 0 64 = y := ⟨_, rfl⟩
  obtain ⟨y2, h2⟩ : ∃ y, inI x 0 64 = y := ⟨_, rfl⟩
  obtain ⟨y3, h3⟩ : ∃ y, inI n 0 (min v 8) = y := ⟨_, rfl⟩
  rw [h1, h2, h3]
  have H1 := Lib.hid h1
  have H2 := Lib.hid h2
  have H3 := Lib.hid h3
  clear h1 h2 h3
  cases y1 <;> cases y2 <;> (
    go_enter Tryd.func23, Tryd.ntmps23
    go_wp2_with (go_at_call 21; ((with_reducible refine (within_any _ _ _ _).mono ?_); rintro e w1 ⟨rfl, rfl⟩; first | rw [H1.out] | rw [H2.out] | rw [H3.out]))
    go_ret
    exact ⟨rfl, (Below.refl _ _).alloc (Nat.le_refl _) _⟩)

abbrev unfitF : Value := .func (.func 23) #[] #[]
set_option maxRecDepth 100000 in
set_option maxHeartbeats 4000000 in
theorem idxv_any (B : Nat) (v : Value) (l : List Fv) (w : World) (hB : B ≤ w.heap.size) (hv : FvV B w v l) :
    Calls Tryd.prog 40 #[v, unfitF] w fun e w' => (∃ r : Int, e = .returned (.int .i64 r) ∧ decide (0 ≤ r) = l.any unfitB) ∧ Below w.heap.size w w' := by
  obtain ⟨A, cap, rfl, hc1, hc2, hrow⟩ := hv
  obtain ⟨len, hlen⟩ : ∃ len, l.length = len := ⟨_, rfl⟩
  rw [hlen] at hc1 hrow ⊢
  have HL := Lib.hid hlen; clear hlen
  go_enter Tryd.func40, Tryd.ntmps40
  go_wp2
  go_loopw [8] (fun i wr => ∃ (k : Nat) (r : List Fv), i = .int .i64 k ∧ k + r.length = len ∧ l.any unfitB = r.any unfitB ∧ (0 < r.length → ∃ b o, A = some ⟨b, o, none⟩ ∧ b < B ∧ FvIn B w r b (o + k * 5)) ∧ Below w.heap.size w wr) (fun i _ => len - (intOf i).toNat)
  case atStart => exact ⟨0, l, rfl, by have := HL.out; omega, rfl, by simpa [HL.out] using hrow, Below.refl _ _⟩
  case round =>
    obtain ⟨k, r, rfl, hk, ho, hr1, hbel⟩ := hrel
    have HO := Lib.hid ho; clear ho
    have HB := Lib.hid hbel
    cases r with
    | nil =>
      have hk0 : k = len := by simpa using hk
      subst hk0
      clear hk hr1 hrow hbel
      go_wp2
      go_ret
      exact ⟨⟨_, rfl, by rw [HO.out]; rfl⟩, HB.out⟩
    | cons s r =>
      have hlt : k < len := by simp at hk; omega
      obtain ⟨b, o, rfl, hb, c0, c1, c2, c3, ⟨v4, c4, h4⟩, hr⟩ := hr1 (by simp)
      clear hr1 hrow
      obtain ⟨A4, cap4, rfl, _⟩ := h4
      have hbw : b < w.heap.size := by omega
      have d0 := (hbel.cell (p := ⟨b, o + k * 5, none⟩) hbw).trans c0
      have d1 := (hbel.cell (p := ⟨b, o + k * 5 + 1, none⟩) hbw).trans c1
      have d2 := (hbel.cell (p := ⟨b, o + k * 5 + 2, none⟩) hbw).trans c2
      have d3 := (hbel.cell (p := ⟨b, o + k * 5 + 3, none⟩) hbw).trans c3
      have d4 := (hbel.cell (p := ⟨b, o + k * 5 + 4, none⟩) hbw).trans c4
      clear c0 c1 c2 c3 c4 hbel
      have hF := unfit_any s.s s.n s.v s.x A4 s.L.length cap4 wr
      obtain ⟨y, hy⟩ : ∃ y, (!inI s.v 0 64 || !inI s.x 0 64 || !inI s.n 0 (min s.v 8)) = y := ⟨_, rfl⟩
      rw [hy] at hF
      have hfull : unfitB s = y := hy
      have HY := Lib.hid hfull
      have HF := Lib.hid hF
      have HK := Lib.hid hk
      clear hk hF hy hfull
      cases y with
      | true =>
        go_wp2_with (go_at_call 23; ((with_reducible refine HF.out.mono ?_); rintro e w1 ⟨rfl, h1⟩))
        go_ret
        exact ⟨⟨_, rfl, by rw [HO.out]; simp [HY.out]⟩, HB.out.trans (h1.mono HB.out.size)⟩
      | false =>
        go_wp2_with (go_at_call 23; ((with_reducible refine HF.out.mono ?_); rintro e w1 ⟨rfl, h1⟩))
        go_roundw
        case rel => exact ⟨k + 1, r, by go_num, by have := HK.out; simp at this; omega, by rw [HO.out]; simp [HY.out], fun _ => ⟨b, o, rfl, hb, by rw [show o + (k + 1) * 5 = o + k * 5 + 5 by omega]; exact hr⟩, HB.out.trans (h1.mono HB.out.size)⟩
        case measure => simp [intOf]; omega
set_option maxHeartbeats 1000000 in
theorem contv_any (B : Nat) (v : Value) (l : List Fv) (w : World) (hB : B ≤ w.heap.size) (hv : FvV B w v l) :
    Calls Tryd.prog 22 #[v, unfitF] w fun e w' => e = .returned (.bool (l.any unfitB)) ∧ Below w.heap.size w w' := by
  have HI := Lib.hid (idxv_any B v l w hB hv)
  obtain ⟨A, cap, rfl, _⟩ := hv
  obtain ⟨len, hlen⟩ : ∃ len, l.length = len := ⟨_, rfl⟩
  rw [hlen] at HI ⊢
  clear hlen
  go_enter Tryd.func22, Tryd.ntmps22
  go_wp2_with (go_at_call 40; ((with_reducible refine HI.out.mono ?_); rintro e w1 ⟨⟨r, rfl, hr⟩, hb⟩))
  go_ret
  exact ⟨rfl, hb⟩

set_option maxHeartbeats 2000000 in
theorem sized_any (B : Nat) (v : Value) (l : List Fv) (w : World) (hB : B ≤ w.heap.size) (hv : FvV B w v l) :
    Calls Tryd.prog 11 #[v] w fun e w' => e = .returned (.bool (sizedB l)) ∧ Below w.heap.size w w' := by
  have HC := Lib.hid (contv_any B v l w hB hv)
  obtain ⟨A, cap, rfl, h1, h2, h3⟩ := hv
  obtain ⟨y, hy⟩ : ∃ y, inI l.length 1 33 = y := ⟨_, rfl⟩
  have HY := Lib.hid hy
  cases y with
  | false =>
    have he : sizedB l = false := by unfold sizedB; rw [hy]; rfl
    rw [he]
    clear hy he
    go_enter Tryd.func11, Tryd.ntmps11
    go_wp2_with (go_at_call 21; ((with_reducible refine (within_any _ _ _ _).mono ?_); rintro e w1 ⟨rfl, rfl⟩; rw [HY.out]))
    go_ret
    exact ⟨rfl, Below.refl _ _⟩
  | true =>
    cases l with
    | nil => exact absurd hy (by decide)
    | cons f r =>
      obtain ⟨b, o, rfl, hb, c0, c1, _⟩ := h3 (by simp)
      obtain ⟨z, hz⟩ : ∃ z, (f.n == 0) = z := ⟨_, rfl⟩
      obtain ⟨u, hu⟩ : ∃ u, (f :: r).any unfitB = u := ⟨_, rfl⟩
      have he : sizedB (f :: r) = (z && !u) := by unfold sizedB; rw [hy, hu]; simp [mainOk, hz]
      rw [he]
      rw [hu] at HC
      obtain ⟨n, hn⟩ : ∃ n, f.n = n := ⟨_, rfl⟩
      rw [hn] at c1 hz
      obtain ⟨len, hlen⟩ : ∃ len, (f :: r).length = len := ⟨_, rfl⟩
      have hl0 : 0 < len := by rw [← hlen]; simp
      rw [hlen] at HC HY h1 ⊢
      clear hy he hu hlen h3
      cases z with
      | false =>
        go_enter Tryd.func11, Tryd.ntmps11
        go_wp2_with (go_at_call 21; ((with_reducible refine (within_any _ _ _ _).mono ?_); rintro e w1 ⟨rfl, rfl⟩; rw [HY.out]))
        go_ret
        exact ⟨rfl, Below.refl _ _⟩
      | true =>
        go_enter Tryd.func11, Tryd.ntmps11
        go_wp2_with (first
          | (go_at_call 21; ((with_reducible refine (within_any _ _ _ _).mono ?_); rintro e w1 ⟨rfl, rfl⟩; rw [HY.out]))
          | (go_at_call 22; ((with_reducible refine HC.out.mono ?_); rintro e w2 ⟨rfl, hb2⟩)))
        go_ret
        exact ⟨by simp, hb2⟩
end Go.Proofs.YtbgjlmcagdgpkaaDoor
