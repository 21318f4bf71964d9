/-
  HeapNew, plainly and its walk: a new array is of noughts, whatever was put into others.
-/
import Derived.Test.YtimpobfilihhmaaHqP
namespace Go.Proofs.Ytimpobfilihhmaa
open Go Go.RowKit Go.Lib

/-- What lies in the array of n cells of which j are filled. -/
def filN (v : Int) (n j : Nat) : List Int := List.replicate j v ++ List.replicate (n - j) 0
theorem filN_len {v : Int} {n j : Nat} (h : j ≤ n) : (filN v n j).length = n := by simp [filN]; omega
theorem filN_zero (v : Int) (n : Nat) : filN v n 0 = List.replicate n 0 := by simp [filN]
theorem filN_get {v : Int} {n j : Nat} (_h : j < n) : (filN v n j).getD j 0 = 0 := by
  unfold filN
  rw [List.getD_eq_getElem?_getD, List.getElem?_append_right (by simp), List.length_replicate, Nat.sub_self, List.getElem?_replicate]
  split <;> rfl
theorem filN_set {v : Int} {n j : Nat} (h : j < n) : (filN v n j).set j v = filN v n (j + 1) := by
  unfold filN
  rw [List.set_append, if_neg (by simp), List.length_replicate, Nat.sub_self]
  obtain ⟨m, hm⟩ : ∃ m, n - j = m + 1 := ⟨n - j - 1, by omega⟩
  rw [hm, List.replicate_succ, List.set_cons_zero, show n - (j + 1) = m by omega, List.replicate_succ', List.append_assoc]
  rfl
def NRel (W : World) (g n : Nat) (i : Value) (wr : World) : Prop :=
  ∃ (k : Nat) (A : List (List Int)), i = .int .i64 k ∧ k ≤ n ∧ k ≤ 20 ∧ A.length = k ∧ A.flatten.length ≤ 100 * k ∧ Hs W 2000 g A wr
def NIn (W : World) (g : Nat) (A : List (List Int)) (n : Nat) (v : Int) (i : Value) (wr : World) : Prop :=
  ∃ j : Nat, i = .int .i64 j ∧ j ≤ n ∧ Hs W 2000 g (A ++ [filN v n j]) wr
set_option maxRecDepth 100000 in
set_option maxHeartbeats 4000000 in
theorem new_walk (X : Option Addr) (n cap : Nat) (l : List Int) (v : Int) (W : World) (hl : l.length = n) (_hnc : n ≤ cap) (_hcm : cap ≤ 9223372036854775807) (hrow : IRow .u8 W X l) (hu : ∀ x ∈ l, 0 ≤ x ∧ x ≤ 255) :
    Calls Try.prog 6 #[.slice X n cap, .int .i64 v] W fun e W' => e = .returned (.bool true) ∧ Below W.heap.size W W' := by
  have HS := Lib.hid (shown_w W)
  have HN := Lib.hid (fun (w : World) (hb : Below W.heap.size W w) => (show Calls Try.prog 10 #[.int .i64 2000] w fun e w' => e = .returned (.pointer (some ⟨w.heap.size, 0, none⟩)) ∧ Hs W 2000 w.heap.size [] w' from hs_new' W 2000 w hb))
  have HR := Lib.hid hrow
  have HU := Lib.hid hu
  have HL := Lib.hid hl
  clear hrow hu hl
  go_enter Try.func6, Try.ntmps6
  go_wp2_with (first
    | (go_at_call 9; ((with_reducible refine HS.out.mono ?_); rintro e w1 ⟨rfl, b1⟩))
    | (go_at_call 10; ((with_reducible refine (HN.out _ b1).mono ?_); rintro e w2 ⟨rfl, h2⟩; obtain ⟨g, hg⟩ : ∃ g, w1.heap.size = g := ⟨_, rfl⟩; rw [hg] at h2 ⊢; clear hg b1)))
  go_loopw [7] (fun i wr => NRel W g n i wr) (fun i _ => n - (RowKit.intOf i).toNat)
  case atStart => exact ⟨0, [], rfl, Nat.zero_le _, by decide, rfl, by simp, h2⟩
  case round =>
    obtain ⟨k, A, rfl, hk, hk20, hA, hfl, hh⟩ := hrel
    by_cases hlt : k < n ∧ k < 20
    · obtain ⟨x, hx⟩ : ∃ x, l[k]? = some x := ⟨l[k]'(by have := HL.out; omega), List.getElem?_eq_getElem _⟩
      obtain ⟨b, o, rfl, hcell⟩ := HR.out.at_ hh.below hx
      obtain ⟨hx0, hx1⟩ := HU.out x (List.mem_of_getElem? hx)
      have i0 : decide ((k : Int) < (n : Int)) = true := decide_eq_true (by omega)
      have i1 : decide ((k : Int) < 20) = true := decide_eq_true (by omega)
      go_upto_region 9 with fail
      obtain ⟨m, hm⟩ : ∃ m : Nat, 1 + x % 100 = (m : Int) := ⟨(1 + x % 100).toNat, by omega⟩
      have hm1 : 1 ≤ m ∧ m ≤ 100 := by omega
      rw [hm]
      have he : mkE 2000 A (m : Int) = 0 := mkE_ok (by omega) (by omega)
      obtain ⟨e1, e2⟩ := mk_good he
      rw [hA] at e1
      rw [Int.toNat_natCast] at e2
      have MK := hs_make hh (m : Int)
      rw [e1, e2, he] at MK
      have HMK := Lib.hid MK
      have LN : Hid (∀ w' : World, Hs W 2000 g (A ++ [List.replicate m 0]) w' → Calls Try.prog 19 #[.pointer (some ⟨g, 0, none⟩), .int .i64 (k : Int)] w' fun e w'' => e = .returned (.int .i64 (m : Int)) ∧ Hs W 2000 g (A ++ [List.replicate m 0]) w'') := Lib.hid fun w' h => by
        have := hs_len h (k : Int)
        rw [← hA, arr_last, List.length_replicate] at this
        rw [← hA]; exact this
      have HA := Lib.hid hA
      have HF : Hid (A.flatten.length ≤ 100 * k) := Lib.hid hfl
      have HLT := Lib.hid hlt
      clear MK e1 e2 he hA hfl hm hcell hx hx0 hx1 hh i0 i1 hlt h2
      go_wp2_with (first
        | (go_at_call 11; ((with_reducible refine HMK.out.mono ?_); rintro e w3 ⟨rfl, h3⟩))
        | (go_at_call 19; ((with_reducible refine (LN.out _ h3).mono ?_); rintro e w4 ⟨rfl, h4⟩)))
      go_loopw [11] (fun i wr => NIn W g A m v i wr) (fun i _ => m - (RowKit.intOf i).toNat)
      case atStart => exact ⟨0, rfl, Nat.zero_le _, by rw [filN_zero]; exact h4⟩
      case round =>
        obtain ⟨j, rfl, hj, hh⟩ := hrel
        clear h3 h4 HMK LN
        by_cases hjm : j < m
        · have i0 : decide ((j : Int) < (m : Int)) = true := decide_eq_true (by omega)
          obtain ⟨g1, g2⟩ := gtV_last A (filN v m j) j (by rw [filN_len hj]; exact hjm)
          rw [filN_get hjm] at g2
          have g3 := stA_last A (filN v m j) j v (by rw [filN_len hj]; exact hjm)
          rw [filN_set hjm] at g3
          rw [HA.out] at g1 g2 g3
          have GT := hs_get hh (k : Int) (j : Int)
          rw [g1, g2] at GT
          have HGT := Lib.hid GT
          have ST : Hid (∀ w' : World, Hs W 2000 g (A ++ [filN v m j]) w' → Calls Try.prog 13 #[.pointer (some ⟨g, 0, none⟩), .int .i64 (k : Int), .int .i64 (j : Int), .int .i64 v] w' fun e w'' => e = .returned (.bool true) ∧ Hs W 2000 g (A ++ [filN v m (j + 1)]) w'') := Lib.hid fun w' h => by
            have := hs_set h (k : Int) (j : Int) v
            rw [g1, g3] at this
            exact this
          clear GT g1 g2 g3 hh
          go_wp2_with (first
            | (go_at_call 15; ((with_reducible refine HGT.out.mono ?_); rintro e w5 ⟨rfl, h5⟩))
            | (go_at_call 13; ((with_reducible refine (ST.out _ h5).mono ?_); rintro e w6 ⟨rfl, h6⟩)))
          go_roundw
          case rel => exact ⟨j + 1, by go_num, hjm, h6⟩
          case measure => simp [RowKit.intOf]; omega
        · obtain rfl : j = m := by omega
          have i0 : decide ((j : Int) < (j : Int)) = false := by simp
          have HH := Lib.hid hh
          clear hjm hh
          go_wp2
          go_roundw
          case rel =>
            obtain ⟨h1, h2⟩ := HLT.out
            refine ⟨k + 1, _, by go_num, h1, h2, by rw [List.length_append, List.length_singleton, HA.out], ?_, HH.out⟩
            have := HF.out
            rw [List.flatten_append, List.length_append, List.flatten_cons, List.flatten_nil, List.append_nil, filN_len hj]
            omega
          case measure => have := HLT.out; simp [RowKit.intOf]; omega
    · have HB := Lib.hid hh.below
      clear hh hA hfl h2
      by_cases h1 : k < n
      · have i0 : decide ((k : Int) < (n : Int)) = true := decide_eq_true (by omega)
        have i1 : decide ((k : Int) < 20) = false := decide_eq_false (by omega)
        clear hlt
        go_wp2
        go_ret
        exact ⟨rfl, HB.out⟩
      · have i0 : decide ((k : Int) < (n : Int)) = false := decide_eq_false (by omega)
        clear hlt
        go_wp2
        go_ret
        exact ⟨rfl, HB.out⟩
end Go.Proofs.Ytimpobfilihhmaa
