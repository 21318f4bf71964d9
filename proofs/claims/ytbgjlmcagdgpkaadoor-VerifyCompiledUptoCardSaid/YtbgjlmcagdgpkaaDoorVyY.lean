/-
  may, takes: what an instruction may be, and takes.
-/
import Derived.Test.YtbgjlmcagdgpkaaDoorVyX
import Derived.BigQuiet
namespace Go.Proofs.YtbgjlmcagdgpkaaDoor
open Go Go.RowKit Go.Lib

theorem within_t {n a b : Int} {y : Bool} (h : inI n a b = y) (w : World) : Calls Tryd.prog 21 #[.int .i64 n, .int .i64 a, .int .i64 b] w fun e w' => e = .returned (.bool y) ∧ w' = w := by
  subst h; exact within_any n a b w
theorem within64_t {n a b : Int} {y : Bool} (h : inI n a b = y) (w : World) : Calls Tryd.prog 56 #[.int .i64 n, .int .i64 a, .int .i64 b] w fun e w' => e = .returned (.bool y) ∧ w' = w := by
  subst h; exact within64_any n a b w
theorem drewN_b (w : World) (n : Nat) : Below w.heap.size w (w.drewN n) := ⟨rfl, rfl, rfl, Nat.le_refl _, fun _ _ => rfl⟩
theorem box_drew (w : World) (o : Obj) (n : Nat) : Below w.heap.size w ((w.alloc o).drewN n) := ((Below.refl _ _).alloc (Nat.le_refl _) _).trans ((drewN_b _ _).mono (by simp))
section
variable {O M C : Nat} {W : World} {s : ByteArray} {n v x : Int} {Al Aa : Option Addr} {ll cl na ca o : Nat}
abbrev MayS (O : Nat) (W : World) (v x : Int) (na : Nat) (op a m : Int) : Prop := Calls Tryd.prog 41 #[.pointer (some ⟨O, 0, none⟩), .agg #[.int .i64 op, .int .i64 a, .int .i64 m]] W fun e W' => e = .returned (.bool (mayB v x na op a m)) ∧ Below W.heap.size W W'
set_option maxRecDepth 100000 in
set_option maxHeartbeats 2000000 in
theorem may_2 (a m : Int) (hv : 0 ≤ v ∧ v ≤ 64) (hbx : W.heap[O]? = some (wkO s n v x (.slice Al ll cl) (.slice Aa na ca) M C)) : MayS O W v x na 2 a m := by
  have c2 : W.cell? ⟨O, 2, none⟩ = some (.int .i64 v) := (blk_cell hbx 2).trans rfl
  have hlO := blk_lt hbx
  have hw : IntKind.i64.wrap (v - 1) = v - 1 := IntWalk.i64_in _ (by omega)
  obtain ⟨y, hy⟩ : ∃ y, inI a 0 (v - 1) = y := ⟨_, rfl⟩
  have HY := Lib.hid hy
  have hr : mayB v x na 2 a m = y := by unfold mayB; simp [hy]
  have HR := Lib.hid hr
  clear hy hr
  clear hbx
  go_enter Tryd.func41, Tryd.ntmps41
  go_wp2
  go_quiet ((go_at_call 21; with_reducible exact Calls.quiet_of_same (within_t HY.out _)))
  go_wp2
  go_ret
  exact ⟨by rw [HR.out]; rfl, box_drew _ _ _⟩
set_option maxRecDepth 100000 in
set_option maxHeartbeats 2000000 in
theorem may_3 (a m : Int) (hv : 0 ≤ v ∧ v ≤ 64) (hbx : W.heap[O]? = some (wkO s n v x (.slice Al ll cl) (.slice Aa na ca) M C)) : MayS O W v x na 3 a m := by
  have c2 : W.cell? ⟨O, 2, none⟩ = some (.int .i64 v) := (blk_cell hbx 2).trans rfl
  have hlO := blk_lt hbx
  have hw : IntKind.i64.wrap (v - 1) = v - 1 := IntWalk.i64_in _ (by omega)
  obtain ⟨y, hy⟩ : ∃ y, inI a 0 (v - 1) = y := ⟨_, rfl⟩
  have HY := Lib.hid hy
  have hr : mayB v x na 3 a m = y := by unfold mayB; simp [hy]
  have HR := Lib.hid hr
  clear hy hr
  clear hbx
  go_enter Tryd.func41, Tryd.ntmps41
  go_wp2
  go_quiet ((go_at_call 21; with_reducible exact Calls.quiet_of_same (within_t HY.out _)))
  go_wp2
  go_ret
  exact ⟨by rw [HR.out]; rfl, box_drew _ _ _⟩
set_option maxRecDepth 100000 in
set_option maxHeartbeats 2000000 in
theorem may_23 (a m : Int) (hv : 0 ≤ x ∧ x ≤ 64) (hbx : W.heap[O]? = some (wkO s n v x (.slice Al ll cl) (.slice Aa na ca) M C)) : MayS O W v x na 23 a m := by
  have c3 : W.cell? ⟨O, 3, none⟩ = some (.int .i64 x) := (blk_cell hbx 3).trans rfl
  have hlO := blk_lt hbx
  have hw : IntKind.i64.wrap (x - 1) = x - 1 := IntWalk.i64_in _ (by omega)
  obtain ⟨y, hy⟩ : ∃ y, inI a 0 (x - 1) = y := ⟨_, rfl⟩
  have HY := Lib.hid hy
  have hr : mayB v x na 23 a m = y := by unfold mayB; simp [hy]
  have HR := Lib.hid hr
  clear hy hr
  clear hbx
  go_enter Tryd.func41, Tryd.ntmps41
  go_wp2
  go_quiet ((go_at_call 21; with_reducible exact Calls.quiet_of_same (within_t HY.out _)))
  go_wp2
  go_ret
  exact ⟨by rw [HR.out]; rfl, box_drew _ _ _⟩
set_option maxRecDepth 100000 in
set_option maxHeartbeats 2000000 in
theorem may_24 (a m : Int) (hv : 0 ≤ x ∧ x ≤ 64) (hbx : W.heap[O]? = some (wkO s n v x (.slice Al ll cl) (.slice Aa na ca) M C)) : MayS O W v x na 24 a m := by
  have c3 : W.cell? ⟨O, 3, none⟩ = some (.int .i64 x) := (blk_cell hbx 3).trans rfl
  have hlO := blk_lt hbx
  have hw : IntKind.i64.wrap (x - 1) = x - 1 := IntWalk.i64_in _ (by omega)
  obtain ⟨y, hy⟩ : ∃ y, inI a 0 (x - 1) = y := ⟨_, rfl⟩
  have HY := Lib.hid hy
  have hr : mayB v x na 24 a m = y := by unfold mayB; simp [hy]
  have HR := Lib.hid hr
  clear hy hr
  clear hbx
  go_enter Tryd.func41, Tryd.ntmps41
  go_wp2
  go_quiet ((go_at_call 21; with_reducible exact Calls.quiet_of_same (within_t HY.out _)))
  go_wp2
  go_ret
  exact ⟨by rw [HR.out]; rfl, box_drew _ _ _⟩
set_option maxRecDepth 100000 in
set_option maxHeartbeats 2000000 in
theorem may_21t (a m : Int) (hv : 0 ≤ v ∧ v ≤ 64) (hy : inI a 0 (v - 1) = true) (hbx : W.heap[O]? = some (wkO s n v x (.slice Al ll cl) (.slice Aa na ca) M C)) : MayS O W v x na 21 a m := by
  have c2 : W.cell? ⟨O, 2, none⟩ = some (.int .i64 v) := (blk_cell hbx 2).trans rfl
  have hlO := blk_lt hbx
  have hw : IntKind.i64.wrap (v - 1) = v - 1 := IntWalk.i64_in _ (by omega)
  obtain ⟨z, hz⟩ : ∃ z, inI m 0 1 = z := ⟨_, rfl⟩
  have HZ := Lib.hid hz
  have HY := Lib.hid hy
  have hr : mayB v x na 21 a m = z := by unfold mayB; simp [hy, hz]
  have HR := Lib.hid hr
  clear hy hr hz
  clear hbx
  go_enter Tryd.func41, Tryd.ntmps41
  go_wp2
  go_quiet (first
    | (go_at_call 21; with_reducible exact Calls.quiet_of_same (within_t HY.out _))
    | (go_at_call 56; with_reducible exact Calls.quiet_of_same (within64_t HZ.out _)))
  go_wp2
  go_ret
  exact ⟨by rw [HR.out]; rfl, box_drew _ _ _⟩
set_option maxRecDepth 100000 in
set_option maxHeartbeats 2000000 in
theorem may_21f (a m : Int) (hv : 0 ≤ v ∧ v ≤ 64) (hy : inI a 0 (v - 1) = false) (hbx : W.heap[O]? = some (wkO s n v x (.slice Al ll cl) (.slice Aa na ca) M C)) : MayS O W v x na 21 a m := by
  have c2 : W.cell? ⟨O, 2, none⟩ = some (.int .i64 v) := (blk_cell hbx 2).trans rfl
  have hlO := blk_lt hbx
  have hw : IntKind.i64.wrap (v - 1) = v - 1 := IntWalk.i64_in _ (by omega)
  have HY := Lib.hid hy
  have hr : mayB v x na 21 a m = false := by unfold mayB; simp [hy]
  have HR := Lib.hid hr
  clear hy hr
  clear hbx
  go_enter Tryd.func41, Tryd.ntmps41
  go_wp2
  go_quiet ((go_at_call 21; with_reducible exact Calls.quiet_of_same (within_t HY.out _)))
  go_wp2
  go_ret
  exact ⟨by rw [HR.out]; rfl, box_drew _ _ _⟩
set_option maxRecDepth 100000 in
set_option maxHeartbeats 2000000 in
theorem may_22t (a m : Int) (hv : 0 ≤ x ∧ x ≤ 64) (hy : inI a 0 (x - 1) = true) (hbx : W.heap[O]? = some (wkO s n v x (.slice Al ll cl) (.slice Aa na ca) M C)) : MayS O W v x na 22 a m := by
  have c3 : W.cell? ⟨O, 3, none⟩ = some (.int .i64 x) := (blk_cell hbx 3).trans rfl
  have hlO := blk_lt hbx
  have hw : IntKind.i64.wrap (x - 1) = x - 1 := IntWalk.i64_in _ (by omega)
  obtain ⟨z, hz⟩ : ∃ z, inI m 1 4096 = z := ⟨_, rfl⟩
  have HZ := Lib.hid hz
  have HY := Lib.hid hy
  have hr : mayB v x na 22 a m = z := by unfold mayB; simp [hy, hz]
  have HR := Lib.hid hr
  clear hy hr hz
  clear hbx
  go_enter Tryd.func41, Tryd.ntmps41
  go_wp2
  go_quiet (first
    | (go_at_call 21; with_reducible exact Calls.quiet_of_same (within_t HY.out _))
    | (go_at_call 56; with_reducible exact Calls.quiet_of_same (within64_t HZ.out _)))
  go_wp2
  go_ret
  exact ⟨by rw [HR.out]; rfl, box_drew _ _ _⟩
set_option maxRecDepth 100000 in
set_option maxHeartbeats 2000000 in
theorem may_22f (a m : Int) (hv : 0 ≤ x ∧ x ≤ 64) (hy : inI a 0 (x - 1) = false) (hbx : W.heap[O]? = some (wkO s n v x (.slice Al ll cl) (.slice Aa na ca) M C)) : MayS O W v x na 22 a m := by
  have c3 : W.cell? ⟨O, 3, none⟩ = some (.int .i64 x) := (blk_cell hbx 3).trans rfl
  have hlO := blk_lt hbx
  have hw : IntKind.i64.wrap (x - 1) = x - 1 := IntWalk.i64_in _ (by omega)
  have HY := Lib.hid hy
  have hr : mayB v x na 22 a m = false := by unfold mayB; simp [hy]
  have HR := Lib.hid hr
  clear hy hr
  clear hbx
  go_enter Tryd.func41, Tryd.ntmps41
  go_wp2
  go_quiet ((go_at_call 21; with_reducible exact Calls.quiet_of_same (within_t HY.out _)))
  go_wp2
  go_ret
  exact ⟨by rw [HR.out]; rfl, box_drew _ _ _⟩
set_option maxRecDepth 100000 in
set_option maxHeartbeats 2000000 in
theorem may_17 (a m : Int) (hn : na ≤ 1000) (hbx : W.heap[O]? = some (wkO s n v x (.slice Al ll cl) (.slice Aa na ca) M C)) : MayS O W v x na 17 a m := by
  have c5 : W.cell? ⟨O, 5, none⟩ = some (.slice Aa na ca) := (blk_cell hbx 5).trans rfl
  have hlO := blk_lt hbx
  have hw : IntKind.i64.wrap ((na : Int) - 1) = (na : Int) - 1 := IntWalk.i64_in _ (by omega)
  obtain ⟨y, hy⟩ : ∃ y, inI a 1 ((na : Int) - 1) = y := ⟨_, rfl⟩
  have HY := Lib.hid hy
  have hr : mayB v x na 17 a m = y := by unfold mayB; simp [hy]
  have HR := Lib.hid hr
  clear hy hr
  clear hbx
  go_enter Tryd.func41, Tryd.ntmps41
  go_wp2
  go_quiet ((go_at_call 21; with_reducible exact Calls.quiet_of_same (within_t HY.out _)))
  go_wp2
  go_ret
  exact ⟨by rw [HR.out]; rfl, box_drew _ _ _⟩
set_option maxRecDepth 100000 in
set_option maxHeartbeats 2000000 in
theorem may_no (op a m : Int) (h : op ≠ 2 ∧ op ≠ 3 ∧ op ≠ 21 ∧ op ≠ 22 ∧ op ≠ 23 ∧ op ≠ 24 ∧ op ≠ 17) : MayS O W v x na op a m := by
  obtain ⟨h2, h3, h21, h22, h23, h24, h17⟩ := h
  have g2 : (op == 2) = false := by simpa using h2
  have g3 : (op == 3) = false := by simpa using h3
  have g21 : (op == 21) = false := by simpa using h21
  have g22 : (op == 22) = false := by simpa using h22
  have g23 : (op == 23) = false := by simpa using h23
  have g24 : (op == 24) = false := by simpa using h24
  have g17 : (op == 17) = false := by simpa using h17
  have hr : mayB v x na op a m = knownB op := by unfold mayB; simp [h2, h3, h21, h22, h23, h24, h17]
  have HR := Lib.hid hr
  clear hr h2 h3 h21 h22 h23 h24 h17
  go_enter Tryd.func41, Tryd.ntmps41
  go_wp2_with (go_at_call 57; (with_reducible refine (known_any _ _).mono ?_); rintro e w1 ⟨rfl, rfl⟩)
  go_ret
  exact ⟨by rw [HR.out]; rfl, (Below.refl _ _).alloc (Nat.le_refl _) _⟩
theorem may_any (op a m : Int) (hv : 0 ≤ v ∧ v ≤ 64) (hx : 0 ≤ x ∧ x ≤ 64) (hn : na ≤ 1000) (hbx : W.heap[O]? = some (wkO s n v x (.slice Al ll cl) (.slice Aa na ca) M C)) : MayS O W v x na op a m := by
  by_cases h2 : op = 2
  · subst h2; exact may_2 a m hv hbx
  by_cases h3 : op = 3
  · subst h3; exact may_3 a m hv hbx
  by_cases h23 : op = 23
  · subst h23; exact may_23 a m hx hbx
  by_cases h24 : op = 24
  · subst h24; exact may_24 a m hx hbx
  by_cases h21 : op = 21
  · subst h21
    cases hy : inI a 0 (v - 1) with
    | true => exact may_21t a m hv hy hbx
    | false => exact may_21f a m hv hy hbx
  by_cases h22 : op = 22
  · subst h22
    cases hy : inI a 0 (x - 1) with
    | true => exact may_22t a m hx hy hbx
    | false => exact may_22f a m hx hy hbx
  by_cases h17 : op = 17
  · subst h17; exact may_17 a m hn hbx
  exact may_no op a m ⟨h2, h3, h21, h22, h23, h24, h17⟩
set_option maxRecDepth 100000 in
set_option maxHeartbeats 2000000 in
theorem takes_call (a m p : Int) (g i : Nat) (ha : a = i) (hi : i < na) (hbx : W.heap[O]? = some (wkO s n v x (.slice Al ll cl) (.slice (some ⟨g, o, none⟩) na ca) M C)) (hg : W.cell? ⟨g, o + i * 5 + 1, none⟩ = some (.int .i64 p)) (hgl : g < W.heap.size) :
    Calls Tryd.prog 42 #[.pointer (some ⟨O, 0, none⟩), .agg #[.int .i64 17, .int .i64 a, .int .i64 m]] W fun e W' => e = .returned (.int .i64 p) ∧ Below W.heap.size W W' := by
  subst ha
  have c5 : W.cell? ⟨O, 5, none⟩ = some (.slice (some ⟨g, o, none⟩) na ca) := (blk_cell hbx 5).trans rfl
  have hlO := blk_lt hbx
  have i0 : (0 : Int) ≤ (i : Int) := by omega
  have i1 : (i : Int) < (na : Int) := by omega
  clear hbx
  go_enter Tryd.func42, Tryd.ntmps42
  go_wp2
  go_quiet (fail)
  go_wp2
  go_ret
  exact ⟨rfl, box_drew _ _ _⟩
set_option maxHeartbeats 2000000 in
theorem takes_no (op a m : Int) (lo : Nat) (h : op ≠ 17) (ht : CT lo W) :
    Calls Tryd.prog 42 #[.pointer (some ⟨O, 0, none⟩), .agg #[.int .i64 op, .int .i64 a, .int .i64 m]] W fun e W' => e = .returned (.int .i64 (kdOf op).takes) ∧ Below W.heap.size W W' := by
  have g17 : (op == 17) = false := by simpa using h
  have HT := Lib.hid ht
  clear h ht
  go_enter Tryd.func42, Tryd.ntmps42
  go_wp2_with (go_at_call 58; (with_reducible refine (takes_any _ lo _ (HT.out.step ((Below.refl _ _).alloc (Nat.le_refl _) _))).mono ?_); rintro e w1 ⟨rfl, h1⟩)
  go_ret
  exact ⟨rfl, ((Below.refl _ _).alloc (Nat.le_refl _) _).trans (h1.mono (by simp))⟩
end
end Go.Proofs.YtbgjlmcagdgpkaaDoor
