/-
  The document's own meter; one meter of a call's own, two, one beside the document's; shown.
-/
import Derived.Test.YtpeblpaadpmceaaMtA
namespace Go.Proofs.Ytpeblpaadpmceaa
open Go Go.RowKit Go.Lib

set_option maxRecDepth 100000 in
set_option maxHeartbeats 4000000 in
theorem rcharge_w {W : World} {g : Nat} {a f l : Int} (h : W.heap[g]? = some (rfO f l)) (hf : Fit a f) (hl : l = f - a) (n : Int) : Calls Try.prog 13 #[.pointer (some ⟨g, 0, none⟩), .int .i64 n] W fun e W' => e = .returned (.int .i64 (chE a f n)) ∧ W'.heap[g]? = some (rfO f (f - chA a f n)) ∧ Kg g W W' := by
  obtain ⟨h1, h2, h3, h4⟩ := hf
  have H := Lib.hid h
  have HL := Lib.hid hl
  have c1 : W.cell? ⟨g, 1, none⟩ = some (.int .i64 l) := (blk_cell h 1).trans rfl
  have k1 := blk_frozen h 1
  clear hl
  by_cases hn0 : n < 0
  · obtain ⟨e1, e2⟩ := chE_bad (a := a) (f := f) (.inl hn0)
    rw [e1, e2, ← HL.out]
    have d0 : decide (n < 0) = true := decide_eq_true hn0
    clear h e1 e2
    go_enter Try.func13, Try.ntmps13
    go_wp2
    go_ret
    exact ⟨rfl, H.out, Kg.refl _ _⟩
  have d0 : decide (n < 0) = false := decide_eq_false hn0
  by_cases hn1 : 1099511627776 < n
  · obtain ⟨e1, e2⟩ := chE_bad (a := a) (f := f) (.inr hn1)
    rw [e1, e2, ← HL.out]
    have d1 : decide (1099511627776 < n) = true := decide_eq_true hn1
    clear h e1 e2
    go_enter Try.func13, Try.ntmps13
    go_wp2
    go_ret
    exact ⟨rfl, H.out, Kg.refl _ _⟩
  have d1 : decide (1099511627776 < n) = false := decide_eq_false hn1
  by_cases ho : f < a
  · obtain ⟨e1, e2⟩ := chE_over (a := a) (f := f) (n := n) (by omega) ho
    rw [e1, e2, ← HL.out]
    have d2 : decide (l < 0) = true := decide_eq_true (by have := HL.out; omega)
    clear h e1 e2
    go_enter Try.func13, Try.ntmps13
    go_wp2
    go_ret
    exact ⟨rfl, H.out, Kg.refl _ _⟩
  have d2 : decide (l < 0) = false := decide_eq_false (by have := HL.out; omega)
  have w0 : IntKind.i64.wrap (l - n) = l - n := IntWalk.i64_in _ (by have := HL.out; omega)
  have HS : (W.setCell ⟨g, 1, none⟩ (.int .i64 (l - n))).heap[g]? = some (rfO f (f - (a + n))) := by
    have := blk_set (w := W) h 1 (.int .i64 (l - n))
    rw [this, HL.out, show f - (a + n) = f - a - n by omega]; rfl
  have HS' := Lib.hid HS
  have c2 : (W.setCell ⟨g, 1, none⟩ (.int .i64 (l - n))).cell? ⟨g, 1, none⟩ = some (.int .i64 (l - n)) := by
    rw [show l - n = f - (a + n) by have := HL.out; omega] at HS ⊢
    exact (blk_cell HS 1).trans rfl
  by_cases he : f < a + n
  · obtain ⟨e1, e2⟩ := chE_ends (a := a) (f := f) (n := n) (by omega) ho he
    rw [e1, e2]
    have d3 : decide (l - n < 0) = true := decide_eq_true (by have := HL.out; omega)
    clear h e1 e2 HS
    go_enter Try.func13, Try.ntmps13
    go_wp2
    go_ret
    exact ⟨rfl, HS'.out, Kg.set _ _ _ _⟩
  · obtain ⟨e1, e2⟩ := chE_ok (a := a) (f := f) (n := n) (by omega) he
    rw [e1, e2]
    have d3 : decide (l - n < 0) = false := decide_eq_false (by have := HL.out; omega)
    clear h e1 e2 HS
    go_enter Try.func13, Try.ntmps13
    go_wp2
    go_ret
    exact ⟨rfl, HS'.out, Kg.set _ _ _ _⟩

/-- A meter that was made since W, with W as it was. -/
def Ms (W : World) (g : Nat) (a f : Int) (w : World) : Prop := W.heap.size ≤ g ∧ w.heap[g]? = some (mtO a f) ∧ Fit a f ∧ Below W.heap.size W w
/-- Two of them. -/
def Mt (W : World) (g h : Nat) (a b f : Int) (w : World) : Prop := Ms W g a f w ∧ Ms W h b f w ∧ g ≠ h
/-- One, and the document's. -/
def Mr (W : World) (g h : Nat) (a b f : Int) (w : World) : Prop := Ms W g a f w ∧ W.heap.size ≤ h ∧ w.heap[h]? = some (rfO f (f - b)) ∧ Fit b f ∧ g ≠ h
section
variable {W : World} {g h : Nat} {a b f : Int} {w : World}
theorem Ms.below (m : Ms W g a f w) : Below W.heap.size W w := m.2.2.2
theorem Ms.drewN (m : Ms W g a f w) (n : Nat) : Ms W g a f (w.drewN n) := ⟨m.1, m.2.1, m.2.2.1, m.2.2.2.trans ⟨rfl, rfl, rfl, Nat.le_refl _, fun _ _ => rfl⟩⟩
theorem Ms.kg (m : Ms W g a f w) {w' : World} {k : Nat} (hk : Kg k w w') (hne : g ≠ k) (hW : W.heap.size ≤ k) : Ms W g a f w' := ⟨m.1, (hk.block g hne).trans m.2.1, m.2.2.1, m.2.2.2.trans (hk.below hW)⟩
theorem Ms.grow (m : Ms W g a f w) {w' : World} (hb : Below w.heap.size w w') : Ms W g a f w' := ⟨m.1, (hb.block g (blk_lt m.2.1)).trans m.2.1, m.2.2.1, m.2.2.2.trans (hb.mono m.2.2.2.size)⟩
theorem ms_new (x : Int) (hb : Below W.heap.size W w) : Calls Try.prog 10 #[.int .i64 x] w fun e w' => e = .returned (.pointer (some ⟨w.heap.size, 0, none⟩)) ∧ Ms W w.heap.size 0 (fuelOf x) w' :=
  (new_w x w).mono fun _ _ ⟨e, h1, h2⟩ => ⟨e, hb.size, h1, fit_new x, hb.trans (h2.mono hb.size)⟩
theorem Ms.new2 (m : Ms W g a f w) {x : Int} (hf : fuelOf x = f) : Calls Try.prog 10 #[.int .i64 x] w fun e w' => e = .returned (.pointer (some ⟨w.heap.size, 0, none⟩)) ∧ Mt W g w.heap.size a 0 f w' := by
  subst hf
  exact (new_w x w).mono fun _ _ ⟨e, h1, h2⟩ => ⟨e, m.grow h2, ⟨m.below.size, h1, fit_new x, m.below.trans (h2.mono m.below.size)⟩, Nat.ne_of_lt (blk_lt m.2.1)⟩
theorem Ms.rnew (m : Ms W g a f w) {x : Int} (hf : fuelOf x = f) : Calls Try.prog 11 #[.int .i64 x] w fun e w' => e = .returned (.pointer (some ⟨w.heap.size, 0, none⟩)) ∧ Mr W g w.heap.size a 0 f w' := by
  subst hf
  exact (rnew_w x w).mono fun _ _ ⟨e, h1, h2⟩ => ⟨e, m.grow h2, m.below.size, by rw [Int.sub_zero]; exact h1, fit_new x, Nat.ne_of_lt (blk_lt m.2.1)⟩
theorem Ms.charge (m : Ms W g a f w) (n : Int) : Calls Try.prog 12 #[.pointer (some ⟨g, 0, none⟩), .int .i64 n] w fun e w' => e = .returned (.int .i64 (chE a f n)) ∧ Ms W g (chA a f n) f w' :=
  (charge_w m.2.1 m.2.2.1 n).mono fun _ _ ⟨e, h1, h2⟩ => ⟨e, m.1, h1, fit_ch m.2.2.1 n, m.below.trans (h2.below m.1)⟩
theorem Ms.now (m : Ms W g a f w) : Calls Try.prog 14 #[.pointer (some ⟨g, 0, none⟩)] w fun e w' => e = .returned (.int .i64 a) ∧ w' = w := now_w m.2.1
theorem Ms.over (m : Ms W g a f w) : Calls Try.prog 15 #[.pointer (some ⟨g, 0, none⟩)] w fun e w' => e = .returned (.bool (decide (f < a))) ∧ ∃ k, w' = w.drewN k := over_w m.2.1
theorem Mt.drewN (m : Mt W g h a b f w) (n : Nat) : Mt W g h a b f (w.drewN n) := ⟨m.1.drewN n, m.2.1.drewN n, m.2.2⟩
theorem Mt.chargeA (m : Mt W g h a b f w) (n : Int) : Calls Try.prog 12 #[.pointer (some ⟨g, 0, none⟩), .int .i64 n] w fun e w' => e = .returned (.int .i64 (chE a f n)) ∧ Mt W g h (chA a f n) b f w' :=
  (charge_w m.1.2.1 m.1.2.2.1 n).mono fun _ _ ⟨e, h1, h2⟩ => ⟨e, ⟨m.1.1, h1, fit_ch m.1.2.2.1 n, m.1.below.trans (h2.below m.1.1)⟩, m.2.1.kg h2 m.2.2.symm m.1.1, m.2.2⟩
theorem Mt.chargeB (m : Mt W g h a b f w) (n : Int) : Calls Try.prog 12 #[.pointer (some ⟨h, 0, none⟩), .int .i64 n] w fun e w' => e = .returned (.int .i64 (chE b f n)) ∧ Mt W g h a (chA b f n) f w' :=
  (charge_w m.2.1.2.1 m.2.1.2.2.1 n).mono fun _ _ ⟨e, h1, h2⟩ => ⟨e, m.1.kg h2 m.2.2 m.2.1.1, ⟨m.2.1.1, h1, fit_ch m.2.1.2.2.1 n, m.2.1.below.trans (h2.below m.2.1.1)⟩, m.2.2⟩
theorem Mr.drewN (m : Mr W g h a b f w) (n : Nat) : Mr W g h a b f (w.drewN n) := ⟨m.1.drewN n, m.2⟩
theorem Mr.charge (m : Mr W g h a b f w) (n : Int) : Calls Try.prog 12 #[.pointer (some ⟨g, 0, none⟩), .int .i64 n] w fun e w' => e = .returned (.int .i64 (chE a f n)) ∧ Mr W g h (chA a f n) b f w' :=
  (charge_w m.1.2.1 m.1.2.2.1 n).mono fun _ _ ⟨e, h1, h2⟩ => ⟨e, ⟨m.1.1, h1, fit_ch m.1.2.2.1 n, m.1.below.trans (h2.below m.1.1)⟩, m.2.1, (h2.block h m.2.2.2.2.symm).trans m.2.2.1, m.2.2.2⟩
theorem Mr.rcharge (m : Mr W g h a b f w) (n : Int) : Calls Try.prog 13 #[.pointer (some ⟨h, 0, none⟩), .int .i64 n] w fun e w' => e = .returned (.int .i64 (chE b f n)) ∧ Mr W g h a (chA b f n) f w' :=
  (rcharge_w m.2.2.1 m.2.2.2.1 rfl n).mono fun _ _ ⟨e, h1, h2⟩ => ⟨e, m.1.kg h2 m.2.2.2.2 m.2.1, m.2.1, h1, fit_ch m.2.2.2.1 n, m.2.2.2.2⟩
end

set_option maxRecDepth 100000 in
set_option maxHeartbeats 4000000 in
theorem shown_w (W : World) : Calls Try.prog 9 #[] W fun e w' => e = .returned (.bool true) ∧ Below W.heap.size W w' := by
  have N1 := Lib.hid (show Calls Try.prog 10 #[.int .i64 3] W fun e w' => e = .returned (.pointer (some ⟨W.heap.size, 0, none⟩)) ∧ Ms W W.heap.size 0 3 w' from ms_new 3 (Below.refl _ _))
  have C1 := Lib.hid (fun (g : Nat) (w : World) (h : Ms W g 0 3 w) => (show Calls Try.prog 12 #[.pointer (some ⟨g, 0, none⟩), .int .i64 2] w fun e w' => e = .returned (.int .i64 0) ∧ Ms W g 2 3 w' from h.charge 2))
  have O1 := Lib.hid (fun (g : Nat) (w : World) (h : Ms W g 2 3 w) => (show Calls Try.prog 15 #[.pointer (some ⟨g, 0, none⟩)] w fun e w' => e = .returned (.bool false) ∧ ∃ k, w' = w.drewN k from h.over))
  have C2 := Lib.hid (fun (g : Nat) (w : World) (h : Ms W g 2 3 w) => (show Calls Try.prog 12 #[.pointer (some ⟨g, 0, none⟩), .int .i64 2] w fun e w' => e = .returned (.int .i64 8) ∧ Ms W g 4 3 w' from h.charge 2))
  have C3 := Lib.hid (fun (g : Nat) (w : World) (h : Ms W g 4 3 w) => (show Calls Try.prog 12 #[.pointer (some ⟨g, 0, none⟩), .int .i64 1] w fun e w' => e = .returned (.int .i64 8) ∧ Ms W g 4 3 w' from h.charge 1))
  have C4 := Lib.hid (fun (g : Nat) (w : World) (h : Ms W g 4 3 w) => (show Calls Try.prog 12 #[.pointer (some ⟨g, 0, none⟩), .int .i64 (-1)] w fun e w' => e = .returned (.int .i64 1) ∧ Ms W g 4 3 w' from h.charge (-1)))
  have W1 := Lib.hid (fun (g : Nat) (w : World) (h : Ms W g 4 3 w) => (show Calls Try.prog 14 #[.pointer (some ⟨g, 0, none⟩)] w fun e w' => e = .returned (.int .i64 4) ∧ w' = w from h.now))
  have O2 := Lib.hid (fun (g : Nat) (w : World) (h : Ms W g 4 3 w) => (show Calls Try.prog 15 #[.pointer (some ⟨g, 0, none⟩)] w fun e w' => e = .returned (.bool true) ∧ ∃ k, w' = w.drewN k from h.over))
  generalize hgz : W.heap.size = g at *
  have HZ := Lib.hid hgz
  clear hgz
  go_enter Try.func9, Try.ntmps9
  go_upto_region 4 with (go_at_call 10; ((with_reducible refine N1.out.mono ?_); rintro e w1 ⟨rfl, h1⟩))
  have c1 := Lib.hid (C1.out _ _ h1)
  clear h1 C1 N1
  go_upto_region 5 with (go_at_call 12; ((with_reducible refine c1.out.mono ?_); clear c1; rintro e w2 ⟨rfl, h2⟩))
  have c2 := Lib.hid (O1.out _ _ h2)
  have h2' := Lib.hid h2
  clear h2 O1
  go_upto_region 6 with (go_at_call 15; ((with_reducible refine c2.out.mono ?_); clear c2; rintro e w3 ⟨rfl, n3, hq⟩; rw [hq]; clear hq w3))
  have c3 := Lib.hid (C2.out _ _ (h2'.out.drewN n3))
  clear h2' C2
  go_upto_region 7 with (go_at_call 12; ((with_reducible refine c3.out.mono ?_); clear c3; rintro e w4 ⟨rfl, h4⟩))
  have c4 := Lib.hid (C3.out _ _ h4)
  clear h4 C3
  go_upto_region 8 with (go_at_call 12; ((with_reducible refine c4.out.mono ?_); clear c4; rintro e w5 ⟨rfl, h5⟩))
  have c5 := Lib.hid (C4.out _ _ h5)
  clear h5 C4
  go_upto_region 9 with (go_at_call 12; ((with_reducible refine c5.out.mono ?_); clear c5; rintro e w6 ⟨rfl, h6⟩))
  have c6 := Lib.hid (W1.out _ _ h6)
  have c7 := Lib.hid (O2.out _ _ h6)
  have h7 := Lib.hid h6.below
  clear h6 W1 O2
  go_wp2_with (first
    | (go_at_call 14; ((with_reducible refine c6.out.mono ?_); rintro e w7 ⟨rfl, hq⟩; rw [hq]; clear hq w7))
    | (go_at_call 15; ((with_reducible refine c7.out.mono ?_); rintro e w8 ⟨rfl, n8, hq⟩; rw [hq]; clear hq w8)))
  go_ret
  exact ⟨rfl, by first | exact h7.out.trans ⟨rfl, rfl, rfl, Nat.le_refl _, fun _ _ => rfl⟩ | (rw [← HZ.out]; exact h7.out.trans ⟨rfl, rfl, rfl, Nat.le_refl _, fun _ _ => rfl⟩)⟩
end Go.Proofs.Ytpeblpaadpmceaa
