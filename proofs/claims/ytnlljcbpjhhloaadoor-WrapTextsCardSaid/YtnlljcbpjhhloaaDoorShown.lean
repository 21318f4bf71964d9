/-
  The contracts of wrap.Text and of the statements' own 'shown': that tells true. Each is said from the world w0 in which a statement's call began: nothing of that has turned.
-/
import Derived.Test.YtnlljcbpjhhloaaDoorParse
import Derived.Test.YtnlljcbpjhhloaaDoorDo
import Derived.Test.YtnlljcbpjhhloaaDoorShelf
import Derived.Lib.AppendIntMem
namespace Go.Proofs.YtnlljcbpjhhloaaDoor
open Go Go.RowKit Go.Lib

/-- Nothing of w0 has turned. -/
def Fr (w0 w : World) : Prop := Below w0.heap.size w0 w
/-- The table that FormatInt reads is as its text lays it. -/
def Tab (w : World) : Prop := Lib.TabIs Tryd.prog w "internal/strconv.uint64pow10" .u64 Lib.pow10Tab

theorem Fr.refl (w : World) : Fr w w := Below.refl _ _
theorem Fr.step {w0 w w' : World} (h : Fr w0 w) (hb : Below w.heap.size w w') : Fr w0 w' := by
  unfold Fr at *
  exact h.trans (hb.mono h.size)
theorem Tab.fr {w0 w : World} (ht : Tab w0) (h : Fr w0 w) : Tab w := Lib.tabBelow_of_tabIs ht w h

/-- wrap.Parse, from w0. -/
theorem parse_fr (w0 : World) (s : ByteArray) (w : World) (hs : s.size ≤ 9223372036854775807) (h : Fr w0 w) :
    Calls Tryd.prog 27 #[.string s] w fun e w' => e = told (parseL s.data.toList) ∧ Fr w0 w' :=
  (parse_any s w hs).mono fun _ _ ⟨he, hb⟩ => ⟨he, h.step hb⟩

set_option maxRecDepth 100000 in
/-- wrap.Text, from w0. -/
theorem text_fr (w0 : World) (n : Int) (w : World) (h0 : -9223372036854775808 ≤ n) (h1 : n ≤ 9223372036854775807) (ht : Tab w0) (h : Fr w0 w) :
    Calls Tryd.prog 26 #[.int .i64 n] w fun e w' => e = .returned (.string ⟨(Lib.itoa n).toArray⟩) ∧ Fr w0 w' := by
  go_enter Tryd.func26, Tryd.ntmps26
  go_wp2_with (go_at_call 38; refine (Tryd.strconv_FormatInt_10 n h0 h1 _ (ht.fr h)).mono ?_; rintro e w' ⟨rfl, k, os, rfl⟩)
  go_ret
  exact ⟨rfl, h.step (Lib.below_grow _ _ (Nat.le_refl _) k os)⟩

theorem p_max : parseL [57, 50, 50, 51, 51, 55, 50, 48, 51, 54, 56, 53, 52, 55, 55, 53, 56, 48, 55] = some 9223372036854775807 := by decide +kernel
theorem p_over : parseL [57, 50, 50, 51, 51, 55, 50, 48, 51, 54, 56, 53, 52, 55, 55, 53, 56, 48, 56] = none := by decide +kernel
theorem p_007 : parseL [48, 48, 55] = none := by decide +kernel
theorem t_least : Lib.itoa (-9223372036854775808) = [45, 57, 50, 50, 51, 51, 55, 50, 48, 51, 54, 56, 53, 52, 55, 55, 53, 56, 48, 56] := by decide +kernel

theorem parse_max (w0 w : World) (h : Fr w0 w) : Calls Tryd.prog 27 #[.string ⟨#[57, 50, 50, 51, 51, 55, 50, 48, 51, 54, 56, 53, 52, 55, 55, 53, 56, 48, 55]⟩] w fun e w' => e = .returned (.tuple #[.int .i64 9223372036854775807, .bool true]) ∧ Fr w0 w' :=
  (parse_fr w0 ⟨#[57, 50, 50, 51, 51, 55, 50, 48, 51, 54, 56, 53, 52, 55, 55, 53, 56, 48, 55]⟩ w (by decide) h).mono fun _ _ ⟨he, hb⟩ => ⟨by rw [he, p_max]; rfl, hb⟩
theorem parse_over (w0 w : World) (h : Fr w0 w) : Calls Tryd.prog 27 #[.string ⟨#[57, 50, 50, 51, 51, 55, 50, 48, 51, 54, 56, 53, 52, 55, 55, 53, 56, 48, 56]⟩] w fun e w' => e = .returned (.tuple #[.int .i64 0, .bool false]) ∧ Fr w0 w' :=
  (parse_fr w0 ⟨#[57, 50, 50, 51, 51, 55, 50, 48, 51, 54, 56, 53, 52, 55, 55, 53, 56, 48, 56]⟩ w (by decide) h).mono fun _ _ ⟨he, hb⟩ => ⟨by rw [he, p_over]; rfl, hb⟩
theorem parse_007 (w0 w : World) (h : Fr w0 w) : Calls Tryd.prog 27 #[.string ⟨#[48, 48, 55]⟩] w fun e w' => e = .returned (.tuple #[.int .i64 0, .bool false]) ∧ Fr w0 w' :=
  (parse_fr w0 ⟨#[48, 48, 55]⟩ w (by decide) h).mono fun _ _ ⟨he, hb⟩ => ⟨by rw [he, p_007]; rfl, hb⟩
theorem text_least (w0 w : World) (ht : Tab w0) (h : Fr w0 w) : Calls Tryd.prog 26 #[.int .i64 (-9223372036854775808)] w fun e w' => e = .returned (.string ⟨#[45, 57, 50, 50, 51, 51, 55, 50, 48, 51, 54, 56, 53, 52, 55, 55, 53, 56, 48, 56]⟩) ∧ Fr w0 w' :=
  (text_fr w0 _ w (by decide) (by decide) ht h).mono fun _ _ ⟨he, hb⟩ => ⟨by rw [he, t_least], hb⟩

theorem div_72 (w : World) : Calls Tryd.prog 20 #[.int .i64 (-7), .int .i64 2] w fun e w' => e = .returned (.tuple #[.int .i64 (-3), .bool true]) ∧ w = w' :=
  (div_any _ _ w (by decide) (by decide)).mono fun _ _ ⟨he, hw⟩ => ⟨by rw [he]; kernel_rfl, hw⟩
theorem mod_72 (w : World) : Calls Tryd.prog 21 #[.int .i64 (-7), .int .i64 2] w fun e w' => e = .returned (.tuple #[.int .i64 (-1), .bool true]) ∧ w = w' :=
  (mod_any _ _ w (by decide) (by decide)).mono fun _ _ ⟨he, hw⟩ => ⟨by rw [he]; kernel_rfl, hw⟩
theorem div_lm (w : World) : Calls Tryd.prog 20 #[.int .i64 (-9223372036854775808), .int .i64 (-1)] w fun e w' => e = .returned (.tuple #[.int .i64 (-9223372036854775808), .bool true]) ∧ w = w' :=
  (div_any _ _ w (by decide) (by decide)).mono fun _ _ ⟨he, hw⟩ => ⟨by rw [he]; kernel_rfl, hw⟩
theorem mod_lm (w : World) : Calls Tryd.prog 21 #[.int .i64 (-9223372036854775808), .int .i64 (-1)] w fun e w' => e = .returned (.tuple #[.int .i64 0, .bool true]) ∧ w = w' :=
  (mod_any _ _ w (by decide) (by decide)).mono fun _ _ ⟨he, hw⟩ => ⟨by rw [he]; kernel_rfl, hw⟩
theorem div_10 (w : World) : Calls Tryd.prog 20 #[.int .i64 1, .int .i64 0] w fun e w' => e = .returned (.tuple #[.int .i64 0, .bool false]) ∧ w = w' :=
  (div_any _ _ w (by decide) (by decide)).mono fun _ _ ⟨he, hw⟩ => ⟨by rw [he]; kernel_rfl, hw⟩
theorem do_13 (w : World) : Calls Tryd.prog 13 #[.int .i64 13, .int .i64 (-1), .int .i64 0] w fun e w' => e = .returned (.tuple #[.int .i64 1, .bool true]) ∧ w = w' :=
  (do_any _ _ _ w (by decide) (by decide)).mono fun _ _ ⟨he, hw⟩ => ⟨by rw [he]; kernel_rfl, hw⟩
theorem do_1 (w : World) : Calls Tryd.prog 13 #[.int .i64 1, .int .i64 1, .int .i64 1] w fun e w' => e = .returned (.tuple #[.int .i64 0, .bool false]) ∧ w = w' :=
  (do_any _ _ _ w (by decide) (by decide)).mono fun _ _ ⟨he, hw⟩ => ⟨by rw [he]; kernel_rfl, hw⟩
theorem add_m1 (w : World) : Calls Tryd.prog 17 #[.int .i64 9223372036854775807, .int .i64 1] w fun e w' => e = .returned (.int .i64 (-9223372036854775808)) ∧ w = w' :=
  (add_any _ _ w (by decide) (by decide)).mono fun _ _ ⟨he, hw⟩ => ⟨by rw [he]; kernel_rfl, hw⟩
theorem not_0 (w : World) : Calls Tryd.prog 16 #[.int .i64 0] w fun e w' => e = .returned (.int .i64 1) ∧ w = w' :=
  (not_any _ w).mono fun _ _ ⟨he, hw⟩ => ⟨by rw [he]; kernel_rfl, hw⟩

set_option maxHeartbeats 2000000 in
set_option maxRecDepth 100000 in
/-- 'shown' tells true, from w0. -/
theorem shown_fr (w0 w : World) (ht : Tab w0) (h : Fr w0 w) :
    Calls Tryd.prog 12 #[] w fun e w' => e = .returned (.bool true) ∧ Fr w0 w' := by
  go_enter Tryd.func12, Tryd.ntmps12
  go_wp2_with (first
    | (go_at_call 20; ((with_reducible refine (div_72 _).mono ?_); rintro e w1 ⟨rfl, rfl⟩))
    | (go_at_call 21; ((with_reducible refine (mod_72 _).mono ?_); rintro e w1 ⟨rfl, rfl⟩))
    | (go_at_call 20; ((with_reducible refine (div_lm _).mono ?_); rintro e w1 ⟨rfl, rfl⟩))
    | (go_at_call 21; ((with_reducible refine (mod_lm _).mono ?_); rintro e w1 ⟨rfl, rfl⟩))
    | (go_at_call 20; ((with_reducible refine (div_10 _).mono ?_); rintro e w1 ⟨rfl, rfl⟩))
    | (go_at_call 13; ((with_reducible refine (do_13 _).mono ?_); rintro e w1 ⟨rfl, rfl⟩))
    | (go_at_call 13; ((with_reducible refine (do_1 _).mono ?_); rintro e w1 ⟨rfl, rfl⟩))
    | (go_at_call 17; ((with_reducible refine (add_m1 _).mono ?_); rintro e w1 ⟨rfl, rfl⟩))
    | (go_at_call 16; ((with_reducible refine (not_0 _).mono ?_); rintro e w1 ⟨rfl, rfl⟩))
    | (go_at_call 27; ((with_reducible refine (parse_max w0 _ (by assumption)).mono ?_); rintro e w1 ⟨rfl, h1⟩))
    | (go_at_call 27; ((with_reducible refine (parse_over w0 _ (by assumption)).mono ?_); rintro e w1 ⟨rfl, h1⟩))
    | (go_at_call 27; ((with_reducible refine (parse_007 w0 _ (by assumption)).mono ?_); rintro e w1 ⟨rfl, h1⟩))
    | (go_at_call 26; ((with_reducible refine (text_least w0 _ ht (by assumption)).mono ?_); rintro e w1 ⟨rfl, h1⟩)))
  go_ret
  exact ⟨rfl, by assumption⟩

end Go.Proofs.YtnlljcbpjhhloaaDoor
