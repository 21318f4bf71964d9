/-
  One heap of a call's own; shown.
-/
import Derived.Test.YtimpobfilihhmaaHpD
namespace Go.Proofs.Ytimpobfilihhmaa
open Go Go.RowKit Go.Lib

/-- A heap that was made since W, with W as it was. -/
def Hs (W : World) (q g : Nat) (A : List (List Int)) (w : World) : Prop := ∃ F, HpI F g q A w ∧ (∀ k ∈ F, W.heap.size ≤ k) ∧ Below W.heap.size W w
theorem Hs.below {W : World} {q g : Nat} {A : List (List Int)} {w : World} (h : Hs W q g A w) : Below W.heap.size W w := h.choose_spec.2.2
theorem Hs.drewN {W : World} {q g : Nat} {A : List (List Int)} {w : World} (h : Hs W q g A w) (m : Nat) : Hs W q g A (w.drewN m) := by
  obtain ⟨F, h1, h2, h3⟩ := h
  exact ⟨F, h1.drewN m, h2, h3.trans ⟨rfl, rfl, rfl, Nat.le_refl _, fun _ _ => rfl⟩⟩
theorem Hs.grow {W : World} {q g : Nat} {A : List (List Int)} {w w' : World} (h : Hs W q g A w) (hb : Below w.heap.size w w') : Hs W q g A w' := by
  obtain ⟨F, h1, h2, h3⟩ := h
  exact ⟨F, h1.below hb, h2, h3.trans (hb.mono h3.size)⟩
theorem hs_new (x : Int) (w : World) : Calls Try.prog 10 #[.int .i64 x] w fun e w' => e = .returned (.pointer (some ⟨w.heap.size, 0, none⟩)) ∧ Hs w (min (max x 0) 1048576).toNat w.heap.size [] w' :=
  (new_w x w).mono fun _ _ ⟨h1, h2, h3⟩ => ⟨h1, [w.heap.size], h2, fun k hk => by simp at hk; omega, h3⟩
theorem hs_new' (W : World) (x : Int) (w : World) (hb : Below W.heap.size W w) : Calls Try.prog 10 #[.int .i64 x] w fun e w' => e = .returned (.pointer (some ⟨w.heap.size, 0, none⟩)) ∧ Hs W (min (max x 0) 1048576).toNat w.heap.size [] w' :=
  (new_w x w).mono fun _ _ ⟨h1, h2, h3⟩ => ⟨h1, [w.heap.size], h2, fun k hk => by simp at hk; have := hb.size; omega, hb.trans (h3.mono hb.size)⟩
section
variable {W : World} {q g : Nat} {A : List (List Int)} {w : World}
theorem hs_make (h : Hs W q g A w) (x : Int) : Calls Try.prog 11 #[.pointer (some ⟨g, 0, none⟩), .int .i64 x] w fun e w' => e = .returned (.tuple #[.int .i64 (mkI q A x), .int .i64 (mkE q A x)]) ∧ Hs W q g (mkA q A x) w' := by
  obtain ⟨F, h1, h2, h3⟩ := h
  refine (make_w h1 x).mono fun _ _ ⟨e, F', k1, k2, k3⟩ => ⟨e, F', k1, fun k hk => ?_, h3.trans (k2.below h2 h3.size)⟩
  rcases k3 k hk with h | h
  · exact h2 k h
  · exact Nat.le_trans h3.size h
theorem hs_set (h : Hs W q g A w) (id i v : Int) : Calls Try.prog 13 #[.pointer (some ⟨g, 0, none⟩), .int .i64 id, .int .i64 i, .int .i64 v] w fun e w' => e = .returned (.bool (inR A id i)) ∧ Hs W q g (stA A id i v) w' := by
  obtain ⟨F, h1, h2, h3⟩ := h
  exact (set_w h1 id i v).mono fun _ _ ⟨e, k1, k2⟩ => ⟨e, F, k1, h2, h3.trans (k2.below h2 h3.size)⟩
theorem hs_get (h : Hs W q g A w) (id i : Int) : Calls Try.prog 15 #[.pointer (some ⟨g, 0, none⟩), .int .i64 id, .int .i64 i] w fun e w' => e = .returned (.tuple #[.int .i64 (gtV A id i), .bool (inR A id i)]) ∧ Hs W q g A w' := by
  have h' := h
  obtain ⟨F, h1, h2, h3⟩ := h
  exact (get_w h1 id i).mono fun _ _ ⟨e, m, k1⟩ => ⟨e, by rw [k1]; exact h'.drewN m⟩
theorem hs_len (h : Hs W q g A w) (id : Int) : Calls Try.prog 19 #[.pointer (some ⟨g, 0, none⟩), .int .i64 id] w fun e w' => e = .returned (.int .i64 ((arr A id).length : Int)) ∧ Hs W q g A w' := by
  have h' := h
  obtain ⟨F, h1, h2, h3⟩ := h
  exact (len_w h1 id).mono fun _ _ ⟨e, m, k1⟩ => ⟨e, by rw [k1]; exact h'.drewN m⟩
theorem hs_used (h : Hs W q g A w) : Calls Try.prog 17 #[.pointer (some ⟨g, 0, none⟩)] w fun e w' => e = .returned (.int .i64 (A.flatten.length : Int)) ∧ Hs W q g A w' := by
  have h' := h
  obtain ⟨F, h1, h2, h3⟩ := h
  exact (used_w h1).mono fun _ _ ⟨e, k1⟩ => ⟨e, by rw [k1]; exact h'⟩
end

abbrev a1 : List (List Int) := [[0, 0, 0]]
abbrev a2 : List (List Int) := [[0, 0, 0], [0, 0]]
abbrev a3 : List (List Int) := [[0, 0, 0], [0, 7]]
set_option maxRecDepth 100000 in
set_option maxHeartbeats 4000000 in
theorem shown_w (W : World) : Calls Try.prog 9 #[] W fun e w' => e = .returned (.bool true) ∧ Below W.heap.size W w' := by
  have M1 := Lib.hid (fun (g : Nat) (w : World) (h : Hs W 5 g [] w) => (show Calls Try.prog 11 #[.pointer (some ⟨g, 0, none⟩), .int .i64 3] w fun e w' => e = .returned (.tuple #[.int .i64 0, .int .i64 0]) ∧ Hs W 5 g a1 w' from hs_make h 3))
  have M2 := Lib.hid (fun (g : Nat) (w : World) (h : Hs W 5 g a1 w) => (show Calls Try.prog 11 #[.pointer (some ⟨g, 0, none⟩), .int .i64 3] w fun e w' => e = .returned (.tuple #[.int .i64 0, .int .i64 9]) ∧ Hs W 5 g a1 w' from hs_make h 3))
  have M3 := Lib.hid (fun (g : Nat) (w : World) (h : Hs W 5 g a1 w) => (show Calls Try.prog 11 #[.pointer (some ⟨g, 0, none⟩), .int .i64 2] w fun e w' => e = .returned (.tuple #[.int .i64 1, .int .i64 0]) ∧ Hs W 5 g a2 w' from hs_make h 2))
  have M4 := Lib.hid (fun (g : Nat) (w : World) (h : Hs W 5 g a2 w) => (show Calls Try.prog 11 #[.pointer (some ⟨g, 0, none⟩), .int .i64 0] w fun e w' => e = .returned (.tuple #[.int .i64 0, .int .i64 1]) ∧ Hs W 5 g a2 w' from hs_make h 0))
  have S1 := Lib.hid (fun (g : Nat) (w : World) (h : Hs W 5 g a2 w) => (show Calls Try.prog 13 #[.pointer (some ⟨g, 0, none⟩), .int .i64 1, .int .i64 1, .int .i64 7] w fun e w' => e = .returned (.bool true) ∧ Hs W 5 g a3 w' from hs_set h 1 1 7))
  have S2 := Lib.hid (fun (g : Nat) (w : World) (h : Hs W 5 g a3 w) => (show Calls Try.prog 13 #[.pointer (some ⟨g, 0, none⟩), .int .i64 0, .int .i64 3, .int .i64 7] w fun e w' => e = .returned (.bool false) ∧ Hs W 5 g a3 w' from hs_set h 0 3 7))
  have G1 := Lib.hid (fun (g : Nat) (w : World) (h : Hs W 5 g a3 w) => (show Calls Try.prog 15 #[.pointer (some ⟨g, 0, none⟩), .int .i64 1, .int .i64 1] w fun e w' => e = .returned (.tuple #[.int .i64 7, .bool true]) ∧ Hs W 5 g a3 w' from hs_get h 1 1))
  have G2 := Lib.hid (fun (g : Nat) (w : World) (h : Hs W 5 g a3 w) => (show Calls Try.prog 15 #[.pointer (some ⟨g, 0, none⟩), .int .i64 0, .int .i64 2] w fun e w' => e = .returned (.tuple #[.int .i64 0, .bool true]) ∧ Hs W 5 g a3 w' from hs_get h 0 2))
  have G3 := Lib.hid (fun (g : Nat) (w : World) (h : Hs W 5 g a3 w) => (show Calls Try.prog 15 #[.pointer (some ⟨g, 0, none⟩), .int .i64 2, .int .i64 0] w fun e w' => e = .returned (.tuple #[.int .i64 0, .bool false]) ∧ Hs W 5 g a3 w' from hs_get h 2 0))
  have U1 := Lib.hid (fun (g : Nat) (w : World) (h : Hs W 5 g a3 w) => (show Calls Try.prog 17 #[.pointer (some ⟨g, 0, none⟩)] w fun e w' => e = .returned (.int .i64 5) ∧ Hs W 5 g a3 w' from hs_used h))
  have L1 := Lib.hid (fun (g : Nat) (w : World) (h : Hs W 5 g a3 w) => (show Calls Try.prog 19 #[.pointer (some ⟨g, 0, none⟩), .int .i64 0] w fun e w' => e = .returned (.int .i64 3) ∧ Hs W 5 g a3 w' from hs_len h 0))
  have L2 := Lib.hid (fun (g : Nat) (w : World) (h : Hs W 5 g a3 w) => (show Calls Try.prog 19 #[.pointer (some ⟨g, 0, none⟩), .int .i64 (-1)] w fun e w' => e = .returned (.int .i64 0) ∧ Hs W 5 g a3 w' from hs_len h (-1)))
  have N1 := Lib.hid (show Calls Try.prog 10 #[.int .i64 5] W fun e w' => e = .returned (.pointer (some ⟨W.heap.size, 0, none⟩)) ∧ Hs W 5 W.heap.size [] w' from hs_new 5 W)
  generalize hgz : W.heap.size = g at *
  have HZ := Lib.hid hgz
  clear hgz
  go_enter Try.func9, Try.ntmps9
  go_upto_region 4 with (go_at_call 10; ((with_reducible refine N1.out.mono ?_); rintro e w1 ⟨rfl, h1⟩))
  have c1 := Lib.hid (M1.out _ _ h1)
  clear M1 h1
  go_upto_region 5 with (go_at_call 11; ((with_reducible refine c1.out.mono ?_); clear c1; rintro e w2 ⟨rfl, h2⟩))
  have c2 := Lib.hid (M2.out _ _ h2)
  clear M2 h2
  go_upto_region 6 with (go_at_call 11; ((with_reducible refine c2.out.mono ?_); clear c2; rintro e w3 ⟨rfl, h3⟩))
  have c3 := Lib.hid (M3.out _ _ h3)
  clear M3 h3
  go_upto_region 7 with (go_at_call 11; ((with_reducible refine c3.out.mono ?_); clear c3; rintro e w4 ⟨rfl, h4⟩))
  have c4 := Lib.hid (M4.out _ _ h4)
  clear M4 h4
  go_upto_region 8 with (go_at_call 11; ((with_reducible refine c4.out.mono ?_); clear c4; rintro e w5 ⟨rfl, h5⟩))
  have c5 := Lib.hid (S1.out _ _ h5)
  clear S1 h5
  go_upto_region 9 with (go_at_call 13; ((with_reducible refine c5.out.mono ?_); clear c5; rintro e w6 ⟨rfl, h6⟩))
  have c6 := Lib.hid (S2.out _ _ h6)
  clear S2 h6
  go_upto_region 10 with (go_at_call 13; ((with_reducible refine c6.out.mono ?_); clear c6; rintro e w7 ⟨rfl, h7⟩))
  have c7 := Lib.hid (G1.out _ _ h7)
  clear G1 h7
  go_upto_region 11 with (go_at_call 15; ((with_reducible refine c7.out.mono ?_); clear c7; rintro e w8 ⟨rfl, h8⟩))
  have c8 := Lib.hid (G2.out _ _ h8)
  clear G2 h8
  go_upto_region 12 with (go_at_call 15; ((with_reducible refine c8.out.mono ?_); clear c8; rintro e w9 ⟨rfl, h9⟩))
  have c9 := Lib.hid (G3.out _ _ h9)
  clear G3 h9
  go_upto_region 13 with (go_at_call 15; ((with_reducible refine c9.out.mono ?_); clear c9; rintro e w10 ⟨rfl, h10⟩))
  go_wp2_with (first
    | (go_at_call 17; ((with_reducible refine (U1.out _ _ h10).mono ?_); rintro e w11 ⟨rfl, h11⟩))
    | (go_at_call 19; ((with_reducible refine (L1.out _ _ h11).mono ?_); rintro e w12 ⟨rfl, h12⟩))
    | (go_at_call 19; ((with_reducible refine (L2.out _ _ h12).mono ?_); rintro e w13 ⟨rfl, h13⟩)))
  go_ret
  exact ⟨rfl, by rw [← HZ.out]; exact h13.below⟩
end Go.Proofs.Ytimpobfilihhmaa
