/-
  HeapApart, plainly and its walk: arrays have nothing to do with each other.
-/
import Derived.Test.YtimpobfilihhmaaHqP
namespace Go.Proofs.Ytimpobfilihhmaa
open Go Go.RowKit Go.Lib

theorem arr_app_lt {A : List (List Int)} {b : List Int} {j : Nat} (h : j < A.length) : arr (A ++ [b]) (j : Int) = arr A (j : Int) := by
  unfold arr
  rw [if_pos (by omega), if_pos (by omega), Int.toNat_natCast, List.getD_eq_getElem?_getD, List.getD_eq_getElem?_getD, List.getElem?_append_left h]
theorem arr_set {A : List (List Int)} {b : List Int} {j i : Nat} (h : i < A.length) : arr (A.set i b) (j : Int) = if j = i then b else arr A (j : Int) := by
  unfold arr
  have h0 : (0 : Int) ≤ (j : Int) := by omega
  simp only [h0, if_true, Int.toNat_natCast, List.getD_eq_getElem?_getD, List.getElem?_set]
  by_cases e : j = i
  · subst e; simp [h]
  · rw [if_neg (Ne.symm e), if_neg e]
theorem getD_set {a : List Int} {i k : Nat} {v : Int} (h : i < a.length) : (a.set i v).getD k 0 = if k = i then v else a.getD k 0 := by
  rw [List.getD_eq_getElem?_getD, List.getD_eq_getElem?_getD, List.getElem?_set]
  by_cases e : k = i
  · subst e; simp [h]
  · rw [if_neg (Ne.symm e), if_neg e]
/-- m arrays of such sizes, of whose cells those that K names hold what f says. -/
def AS (W : World) (g m : Nat) (z : Nat → Nat) (K : Nat → Nat → Prop) (f : Nat → Nat → Int) (w : World) : Prop :=
  ∃ A, Hs W 400 g A w ∧ A.length = m ∧ (∀ j, j < m → (arr A (j : Int)).length = z j) ∧ ∀ j k, j < m → k < z j → K j k → (arr A (j : Int)).getD k 0 = f j k
theorem AS.below {W : World} {g m : Nat} {z : Nat → Nat} {K : Nat → Nat → Prop} {f : Nat → Nat → Int} {w : World} (h : AS W g m z K f w) : Below W.heap.size W w := by
  obtain ⟨A, h1, _⟩ := h
  exact h1.below
theorem AS.weak {W : World} {g m : Nat} {z : Nat → Nat} {K K' : Nat → Nat → Prop} {f : Nat → Nat → Int} {w : World} (h : AS W g m z K f w) (hK : ∀ j k, j < m → k < z j → K' j k → K j k) : AS W g m z K' f w := by
  obtain ⟨A, h1, h2, h3, h4⟩ := h
  exact ⟨A, h1, h2, h3, fun j k hj hk hk' => h4 j k hj hk (hK j k hj hk hk')⟩
theorem AS.len {W : World} {g m : Nat} {z : Nat → Nat} {K : Nat → Nat → Prop} {f : Nat → Nat → Int} {w : World} (h : AS W g m z K f w) {j : Nat} (hj : j < m) :
    Calls Try.prog 19 #[.pointer (some ⟨g, 0, none⟩), .int .i64 (j : Int)] w fun e w' => e = .returned (.int .i64 (z j : Int)) ∧ AS W g m z K f w' := by
  obtain ⟨A, h1, h2, h3, h4⟩ := h
  exact (hs_len h1 (j : Int)).mono fun e w' ⟨he, k1⟩ => ⟨by rw [he, h3 j hj], A, k1, h2, h3, h4⟩
theorem AS.get {W : World} {g m : Nat} {z : Nat → Nat} {K : Nat → Nat → Prop} {f : Nat → Nat → Int} {w : World} (h : AS W g m z K f w) {j k : Nat} (hj : j < m) (hk : k < z j) (hK : K j k) :
    Calls Try.prog 15 #[.pointer (some ⟨g, 0, none⟩), .int .i64 (j : Int), .int .i64 (k : Int)] w fun e w' => e = .returned (.tuple #[.int .i64 (f j k), .bool true]) ∧ AS W g m z K f w' := by
  obtain ⟨A, h1, h2, h3, h4⟩ := h
  have hin : inR A (j : Int) (k : Int) = true := by unfold inR; rw [h3 j hj]; exact decide_eq_true (by omega)
  refine (hs_get h1 (j : Int) (k : Int)).mono fun e w' ⟨he, k1⟩ => ⟨?_, A, k1, h2, h3, h4⟩
  rw [he, hin]
  unfold gtV
  rw [if_pos hin, Int.toNat_natCast, h4 j k hj hk hK]
theorem AS.out {W : World} {g m : Nat} {z : Nat → Nat} {K : Nat → Nat → Prop} {f : Nat → Nat → Int} {w : World} (h : AS W g m z K f w) {j : Nat} {i : Int} (hj : j < m) (hi : i < 0 ∨ (z j : Int) ≤ i) :
    Calls Try.prog 15 #[.pointer (some ⟨g, 0, none⟩), .int .i64 (j : Int), .int .i64 i] w fun e w' => e = .returned (.tuple #[.int .i64 0, .bool false]) ∧ AS W g m z K f w' := by
  obtain ⟨A, h1, h2, h3, h4⟩ := h
  have hin : inR A (j : Int) i = false := by unfold inR; rw [h3 j hj]; exact decide_eq_false (by omega)
  refine (hs_get h1 (j : Int) i).mono fun e w' ⟨he, k1⟩ => ⟨?_, A, k1, h2, h3, h4⟩
  rw [he, hin]
  unfold gtV
  rw [hin, if_neg (by decide)]
theorem AS.set {W : World} {g m : Nat} {z : Nat → Nat} {K : Nat → Nat → Prop} {f : Nat → Nat → Int} {w : World} (h : AS W g m z K f w) {j k : Nat} (hj : j < m) (hk : k < z j) (v : Int) (K' : Nat → Nat → Prop) (f' : Nat → Nat → Int) (hv : f' j k = v)
    (hK : ∀ j' k', K' j' k' → (j' = j ∧ k' = k) ∨ (K j' k' ∧ f' j' k' = f j' k')) :
    Calls Try.prog 13 #[.pointer (some ⟨g, 0, none⟩), .int .i64 (j : Int), .int .i64 (k : Int), .int .i64 v] w fun e w' => e = .returned (.bool true) ∧ AS W g m z K' f' w' := by
  obtain ⟨A, h1, h2, h3, h4⟩ := h
  have hl := h3 j hj
  have hin : inR A (j : Int) (k : Int) = true := by unfold inR; rw [hl]; exact decide_eq_true (by omega)
  have hst : stA A (j : Int) (k : Int) v = A.set j ((arr A (j : Int)).set k v) := by unfold stA; rw [if_pos hin, Int.toNat_natCast, Int.toNat_natCast]
  refine (hs_set h1 (j : Int) (k : Int) v).mono fun e w' ⟨he, k1⟩ => ⟨by rw [he, hin], A.set j ((arr A (j : Int)).set k v), by rw [← hst]; exact k1, by rw [List.length_set, h2], fun j' hj' => ?_, fun j' k' hj' hk' hK' => ?_⟩
  · rw [arr_set (by omega)]
    split
    · rename_i e; rw [e, List.length_set, hl]
    · exact h3 j' hj'
  · rw [arr_set (by omega)]
    by_cases e : j' = j
    · subst e
      rw [if_pos rfl, getD_set (by rw [hl]; exact hk)]
      by_cases e' : k' = k
      · rw [if_pos e', e', hv]
      · rw [if_neg e']
        rcases hK j' k' hK' with h | h
        · exact absurd h.2 e'
        · rw [h4 j' k' hj' hk' h.1, h.2]
    · rw [if_neg e]
      rcases hK j' k' hK' with h | h
      · exact absurd h.1 e
      · rw [h4 j' k' hj' hk' h.1, h.2]
/-- How large an array is. -/
def zOf (l : List Int) (j : Nat) : Nat := (1 + l.getD j 0 % 40).toNat
theorem zOf_at {l : List Int} {j : Nat} {x : Int} (h : l[j]? = some x) (_h0 : 0 ≤ x) : 1 + x % 40 = (zOf l j : Int) ∧ 1 ≤ zOf l j ∧ zOf l j ≤ 40 := by
  unfold zOf
  rw [List.getD_eq_getElem?_getD, h]
  simp only [Option.getD_some]
  omega
def ARel (W : World) (g m : Nat) (l : List Int) (i : Value) (wr : World) : Prop := ∃ (k : Nat) (A : List (List Int)), i = .int .i64 k ∧ k ≤ m ∧ A.length = k ∧ A.flatten.length ≤ 40 * k ∧ (∀ j, j < k → (arr A (j : Int)).length = zOf l j) ∧ Hs W 400 g A wr
def kno (j k : Nat) : Int := 1000 * (j : Int) + (k : Int)
def BRel (W : World) (g m : Nat) (l : List Int) (i : Value) (wr : World) : Prop := ∃ k : Nat, i = .int .i64 k ∧ k ≤ m ∧ AS W g m (zOf l) (fun j _ => j < k) kno wr
def CRel (W : World) (g m : Nat) (l : List Int) (i : Nat) (v : Value) (wr : World) : Prop := ∃ k : Nat, v = .int .i64 k ∧ k ≤ zOf l i ∧ AS W g m (zOf l) (fun j k' => j < i ∨ (j = i ∧ k' < k)) kno wr
def kn1 (p r : Nat) (v : Int) (j k : Nat) : Int := if j = p ∧ k = r then v else kno j k
def DRel (W : World) (g m : Nat) (l : List Int) (p r : Nat) (v : Int) (i : Value) (wr : World) : Prop := ∃ k : Nat, i = .int .i64 k ∧ k ≤ m ∧ AS W g m (zOf l) (fun _ _ => True) (kn1 p r v) wr
def ERel (W : World) (g m : Nat) (l : List Int) (p r : Nat) (v : Int) (i : Nat) (u : Value) (wr : World) : Prop := ∃ k : Nat, u = .int .i64 k ∧ k ≤ zOf l i ∧ AS W g m (zOf l) (fun _ _ => True) (kn1 p r v) wr

set_option maxRecDepth 100000 in
set_option maxHeartbeats 8000000 in
theorem apart_walk (X : Option Addr) (n cap : Nat) (l : List Int) (x y v : Int) (W : World) (hl : l.length = n) (hnc : n ≤ cap) (hcm : cap ≤ 9223372036854775807) (hrow : IRow .u8 W X l) (hu : ∀ x ∈ l, 0 ≤ x ∧ x ≤ 255) :
    Calls Try.prog 4 #[.slice X n cap, .int .i64 x, .int .i64 y, .int .i64 v] W fun e W' => e = .returned (.bool true) ∧ Below W.heap.size W W' := by
  have HS := Lib.hid (shown_w W)
  have HN := Lib.hid (fun (w : World) (hb : Below W.heap.size W w) => (show Calls Try.prog 10 #[.int .i64 400] w fun e w' => e = .returned (.pointer (some ⟨w.heap.size, 0, none⟩)) ∧ Hs W 400 w.heap.size [] w' from hs_new' W 400 w hb))
  have HR := Lib.hid hrow
  have HU := Lib.hid hu
  have HL := Lib.hid hl
  obtain ⟨m, hm⟩ : ∃ m, min n 10 = m := ⟨_, rfl⟩
  have hmi : min (n : Int) 10 = (m : Int) := by omega
  have hmn : m ≤ n ∧ m ≤ 10 := by omega
  have HM := Lib.hid hmn
  clear hrow hu hl hm hmn
  go_enter Try.func4, Try.ntmps4
  go_upto_region 7 with (first
    | (go_at_call 9; ((with_reducible refine HS.out.mono ?_); rintro e w1 ⟨rfl, b1⟩))
    | (go_at_call 10; ((with_reducible refine (HN.out _ b1).mono ?_); rintro e w2 ⟨rfl, h2⟩; obtain ⟨g, hg⟩ : ∃ g, w1.heap.size = g := ⟨_, rfl⟩; rw [hg] at h2 ⊢; clear hg b1)))
  try rw [hmi]
  clear hmi HS HN
  go_loopw [12] (fun i wr => ARel W g m l i wr) (fun i _ => m - (RowKit.intOf i).toNat)
  case atStart => exact ⟨0, [], rfl, Nat.zero_le _, rfl, Nat.zero_le _, fun j hj => by omega, h2⟩
  case round =>
    obtain ⟨k, A, rfl, hk, hA, hfl, hz, hh⟩ := hrel
    clear h2
    by_cases hkm : k < m
    · have i0 : decide ((k : Int) < (m : Int)) = true := decide_eq_true (by omega)
      obtain ⟨s, hs⟩ : ∃ s, l[k]? = some s := ⟨l[k]'(by have := HL.out; have := HM.out; omega), List.getElem?_eq_getElem _⟩
      obtain ⟨b, o, rfl, hcell⟩ := HR.out.at_ hh.below hs
      obtain ⟨hs0, hs1⟩ := HU.out s (List.mem_of_getElem? hs)
      obtain ⟨e0, e1, e2⟩ := zOf_at hs hs0
      have hkn : k < n := by have := HM.out; omega
      have he : mkE 400 A (zOf l k : Int) = 0 := mkE_ok (by omega) (by have := HM.out; omega)
      obtain ⟨f1, f2⟩ := mk_good he
      rw [hA] at f1
      rw [Int.toNat_natCast] at f2
      have MK := hs_make hh (zOf l k : Int)
      rw [f1, f2, he] at MK
      have HMK := Lib.hid MK
      have HREL : Hid (∀ w', Hs W 400 g (A ++ [List.replicate (zOf l k) 0]) w' → ARel W g m l (.int .i64 ((k : Int) + 1)) w') := Lib.hid fun w' h => ⟨k + 1, A ++ [List.replicate (zOf l k) 0], by go_num, hkm, by rw [List.length_append, hA, List.length_singleton], by rw [List.flatten_append, List.length_append]; simp only [List.flatten_cons, List.flatten_nil, List.append_nil, List.length_replicate]; omega, fun j hj => by
          by_cases e : j < k
          · rw [arr_app_lt (by omega)]; exact hz j e
          · obtain rfl : j = k := by omega
            rw [← hA, arr_last, List.length_replicate], h⟩
      clear MK f1 f2 he hA hfl hz hh hs
      generalize hzz : zOf l k = Z at *
      go_wp2_with (go_at_call 11; first | rw [e0] | skip; ((with_reducible refine HMK.out.mono ?_); rintro e w3 ⟨rfl, h3⟩))
      go_roundw
      case rel => exact HREL.out _ h3
      case measure => simp [RowKit.intOf]; omega
    · obtain rfl : k = m := by omega
      have i0 : decide ((k : Int) < (k : Int)) = false := by simp
      have hAS : AS W g k (zOf l) (fun j _ => j < 0) kno wr := ⟨A, hh, hA, hz, fun j _ _ _ h => by omega⟩
      clear hA hfl hz hh hkm
      go_upto_region 13 with fail
      obtain ⟨m, hm⟩ : ∃ m, k = m := ⟨_, rfl⟩
      subst hm
      go_loopw [15] (fun i wr => BRel W g k l i wr) (fun i _ => k - (RowKit.intOf i).toNat)
      case atStart => exact ⟨0, rfl, Nat.zero_le _, hAS⟩
      case round =>
        obtain ⟨i, rfl, hi, hh⟩ := hrel
        clear hAS
        by_cases hik : i < k
        · have j0 : decide ((i : Int) < (k : Int)) = true := decide_eq_true (by omega)
          have HIK := Lib.hid hik
          have HH := Lib.hid hh
          obtain ⟨s, hs⟩ : ∃ s, l[i]? = some s := ⟨l[i]'(by have := HL.out; have := HM.out; omega), List.getElem?_eq_getElem _⟩
          obtain ⟨-, e1, e2⟩ := zOf_at hs (HU.out s (List.mem_of_getElem? hs)).1
          have hi10 : i < 10 := by have := HM.out; omega
          clear hh hs
          go_upto_region 16 with fail
          go_loopw [16] (fun v wr => CRel W g k l i v wr) (fun v _ => zOf l i - (RowKit.intOf v).toNat)
          case atStart => exact ⟨0, rfl, Nat.zero_le _, HH.out.weak fun j k' _ _ h => by omega⟩
          case round =>
            obtain ⟨j, rfl, hj, hh⟩ := hrel
            have HLN := Lib.hid (hh.len hik)
            by_cases hjz : j < zOf l i
            · have HJZ := Lib.hid hjz
              have HST : Hid (∀ w', AS W g k (zOf l) (fun j' k' => j' < i ∨ (j' = i ∧ k' < j)) kno w' → Calls Try.prog 13 #[.pointer (some ⟨g, 0, none⟩), .int .i64 (i : Int), .int .i64 (j : Int), .int .i64 (1000 * (i : Int) + (j : Int))] w' fun e w'' => e = .returned (.bool true) ∧ AS W g k (zOf l) (fun j' k' => j' < i ∨ (j' = i ∧ k' < j + 1)) kno w'') := Lib.hid fun w' h => h.set hik hjz _ _ _ rfl fun j' k' h => by
                  by_cases e : j' = i ∧ k' = j
                  · exact .inl e
                  · exact .inr ⟨by omega, rfl⟩
              generalize hzz : zOf l i = Z at *
              have j1 : decide ((j : Int) < (Z : Int)) = true := decide_eq_true (by omega)
              have w1 : IntKind.i64.wrap (1000 * (i : Int)) = 1000 * (i : Int) := IntWalk.i64_in _ (by omega)
              have w2 : IntKind.i64.wrap (1000 * (i : Int) + (j : Int)) = 1000 * (i : Int) + (j : Int) := IntWalk.i64_in _ (by omega)
              clear hh hjz hik
              go_wp2_with (first
                | (go_at_call 19; ((with_reducible refine HLN.out.mono ?_); rintro e w3 ⟨rfl, h3⟩))
                | (go_at_call 13; ((with_reducible refine (HST.out _ h3).mono ?_); rintro e w4 ⟨rfl, h4⟩)))
              go_roundw
              case rel => exact ⟨j + 1, by go_num, by rw [hzz]; exact HJZ.out, h4⟩
              case measure => have := HJZ.out; simp [RowKit.intOf]; omega
            · obtain hjz' : j = zOf l i := by omega
              generalize hzz : zOf l i = Z at *
              subst hjz'
              have j1 : decide ((j : Int) < (j : Int)) = false := by simp
              have HZZ := Lib.hid hzz
              clear hh hjz hik hzz
              go_wp2_with (go_at_call 19; ((with_reducible refine HLN.out.mono ?_); rintro e w3 ⟨rfl, h3⟩))
              go_roundw
              case rel => exact ⟨i + 1, by go_num, HIK.out, h3.weak fun j' k' _ hk' h => by
                  by_cases e : j' = i
                  · subst e; rw [HZZ.out] at hk'; exact .inr ⟨rfl, hk'⟩
                  · exact .inl (by omega)⟩
              case measure => have := HIK.out; simp [RowKit.intOf]; omega
        · obtain rfl : i = k := by omega
          have j0 : decide ((i : Int) < (i : Int)) = false := by simp
          have HH : Hid (AS W g i (zOf l) (fun _ _ => True) kno wr) := Lib.hid (hh.weak fun j k' hj _ _ => hj)
          clear hh hik hi
          go_upto_region 20 with fail
          by_cases hi0 : i = 0
          · subst hi0
            have HB := Lib.hid HH.out.below
            go_wp2
            go_loopw [17] (fun u wr => u = .int .i64 0 ∧ Below W.heap.size W wr) (fun _ _ => 0)
            case atStart => exact ⟨rfl, HB.out⟩
            case round =>
              obtain ⟨rfl, hb⟩ := hrel
              go_wp2
              go_ret
              exact ⟨rfl, hb⟩
          · have i1 : decide ((0 : Int) < (i : Int)) = true := decide_eq_true (by omega)
            obtain ⟨P, hP, -⟩ := and_16 x
            obtain ⟨R, hR, -⟩ := and_16 y
            obtain ⟨p, hp⟩ : ∃ p, P % i = p := ⟨_, rfl⟩
            have hpi : p < i := by rw [← hp]; exact Nat.mod_lt _ (by omega)
            have hpz : (P : Int) % (i : Int) = (p : Int) := by rw [← hp]; rfl
            obtain ⟨sp, hsp⟩ : ∃ s, l[p]? = some s := ⟨l[p]'(by have := HL.out; have := HM.out; omega), List.getElem?_eq_getElem _⟩
            obtain ⟨-, g1, g2⟩ := zOf_at hsp (HU.out sp (List.mem_of_getElem? hsp)).1
            obtain ⟨r, hr⟩ : ∃ r, R % zOf l p = r := ⟨_, rfl⟩
            have hrz : r < zOf l p := by rw [← hr]; exact Nat.mod_lt _ (by omega)
            have hrr : (R : Int) % (zOf l p : Int) = (r : Int) := by rw [← hr]; rfl
            have HLN := Lib.hid (fun w' (h : AS W g i (zOf l) (fun _ _ => True) kno w') => h.len hpi)
            have HST : Hid (∀ w', AS W g i (zOf l) (fun _ _ => True) kno w' → Calls Try.prog 13 #[.pointer (some ⟨g, 0, none⟩), .int .i64 (p : Int), .int .i64 (r : Int), .int .i64 v] w' fun e w'' => e = .returned (.bool true) ∧ AS W g i (zOf l) (fun _ _ => True) (kn1 p r v) w'') := Lib.hid fun w' h => h.set hpi hrz _ _ _ (by unfold kn1; rw [if_pos ⟨rfl, rfl⟩]) fun j' k' _ => by
                by_cases e : j' = p ∧ k' = r
                · exact .inl e
                · exact .inr ⟨trivial, by unfold kn1; rw [if_neg e]⟩
            have hzp0 : (zOf l p : Int) ≠ 0 := by omega
            clear hp hsp hr
            generalize hzz : zOf l p = Z at *
            go_upto_region 22 with fail
            try rw [hpz]
            clear hpz hP
            have hAS := HH.out
            go_upto_region 25 with (first
              | (go_at_call 19; ((with_reducible refine (HLN.out _ hAS).mono ?_); rintro e w3 ⟨rfl, h3⟩))
              | (go_at_call 13; (try rw [hrr]); ((with_reducible refine (HST.out _ h3).mono ?_); rintro e w4 ⟨rfl, h4⟩)))
            clear hi0 hAS HLN HST HH
            generalize hmq : i = m at *
            go_upto_region 26 with fail
            go_loopw [17] (fun u wr => DRel W g m l p r v u wr) (fun u _ => m - (RowKit.intOf u).toNat)
            case atStart => exact ⟨0, rfl, Nat.zero_le _, h4⟩
            case round =>
              obtain ⟨i, rfl, hi, hh⟩ := hrel
              clear h4 h3
              by_cases him : i < m
              · have j0 : decide ((i : Int) < (m : Int)) = true := decide_eq_true (by omega)
                have HIM := Lib.hid him
                have HH := Lib.hid hh
                obtain ⟨s, hs⟩ : ∃ s, l[i]? = some s := ⟨l[i]'(by have := HL.out; have := HM.out; omega), List.getElem?_eq_getElem _⟩
                obtain ⟨hs0, hs1⟩ := HU.out s (List.mem_of_getElem? hs)
                obtain ⟨e0, e1, e2⟩ := zOf_at hs hs0
                have hi10 : i < 10 := by have := HM.out; omega
                have hin : i < n := by have := HM.out; omega
                have HS2 := Lib.hid hs
                clear hh hs
                go_upto_region 29 with fail
                go_loopw [18] (fun u wr => ERel W g m l p r v i u wr) (fun u _ => zOf l i - (RowKit.intOf u).toNat)
                case atStart => exact ⟨0, rfl, Nat.zero_le _, HH.out⟩
                case round =>
                  obtain ⟨j, rfl, hj, hh⟩ := hrel
                  obtain ⟨b, o, rfl, hcell⟩ := HR.out.at_ hh.below HS2.out
                  by_cases hjz : j < zOf l i
                  · have HJZ := Lib.hid hjz
                    have HG0 := hh.get him hjz trivial
                    generalize hzi : zOf l i = Y at *
                    have HZZ := Lib.hid hzi
                    have j1 : decide ((j : Int) < (Y : Int)) = true := decide_eq_true (by omega)
                    have w1 : IntKind.i64.wrap (1000 * (i : Int)) = 1000 * (i : Int) := IntWalk.i64_in _ (by omega)
                    have w2 : IntKind.i64.wrap (1000 * (i : Int) + (j : Int)) = 1000 * (i : Int) + (j : Int) := IntWalk.i64_in _ (by omega)
                    clear hh hzi him hjz
                    by_cases hip : i = p
                    · subst hip
                      by_cases hjr : j = r
                      · subst hjr
                        have hf : kn1 i j v i j = v := by unfold kn1; rw [if_pos ⟨rfl, rfl⟩]
                        rw [hf] at HG0
                        have HG := Lib.hid HG0
                        clear hf HG0
                        go_wp2_with (go_at_call 15; ((with_reducible refine HG.out.mono ?_); rintro e w5 ⟨rfl, h5⟩))
                        go_roundw
                        case rel => exact ⟨j + 1, by go_num, by rw [HZZ.out]; exact HJZ.out, h5⟩
                        case measure => have := HJZ.out; simp [RowKit.intOf]; omega
                      · have hf : kn1 i r v i j = 1000 * (i : Int) + (j : Int) := by unfold kn1; rw [if_neg fun h => hjr h.2]; rfl
                        rw [hf] at HG0
                        have HG := Lib.hid HG0
                        have q1 : ((j : Int) == (r : Int)) = false := by simp; omega
                        clear hf HG0
                        go_wp2_with (go_at_call 15; ((with_reducible refine HG.out.mono ?_); rintro e w5 ⟨rfl, h5⟩))
                        go_roundw
                        case rel => exact ⟨j + 1, by go_num, by rw [HZZ.out]; exact HJZ.out, h5⟩
                        case measure => have := HJZ.out; simp [RowKit.intOf]; omega
                    · have hf : kn1 p r v i j = 1000 * (i : Int) + (j : Int) := by unfold kn1; rw [if_neg fun h => hip h.1]; rfl
                      rw [hf] at HG0
                      have HG := Lib.hid HG0
                      have q1 : ((i : Int) == (p : Int)) = false := by simp; omega
                      clear hf HG0
                      go_wp2_with (go_at_call 15; ((with_reducible refine HG.out.mono ?_); rintro e w5 ⟨rfl, h5⟩))
                      go_roundw
                      case rel => exact ⟨j + 1, by go_num, by rw [HZZ.out]; exact HJZ.out, h5⟩
                      case measure => have := HJZ.out; simp [RowKit.intOf]; omega
                  · obtain hjz' : j = zOf l i := by omega
                    have HO1 := Lib.hid (fun w' (h : AS W g m (zOf l) (fun _ _ => True) (kn1 p r v) w') => h.out him (i := -1) (.inl (by decide)))
                    have HO2 := Lib.hid (fun w' (h : AS W g m (zOf l) (fun _ _ => True) (kn1 p r v) w') => h.out him (i := (zOf l i : Int)) (.inr (by omega)))
                    have HL3 := Lib.hid (fun w' (h : AS W g m (zOf l) (fun _ _ => True) (kn1 p r v) w') => h.len him)
                    generalize hzi : zOf l i = Y at *
                    subst hjz'
                    have j1 : decide ((j : Int) < (j : Int)) = false := by simp
                    have HHH := hh
                    clear hh hzi him hjz hj
                    go_wp2_with (first
                      | (go_at_call 19; ((with_reducible refine (HL3.out _ h5).mono ?_); rintro e w6 ⟨rfl, h6⟩))
                      | (go_at_call 15; ((with_reducible refine (HO2.out _ h6).mono ?_); rintro e w7 ⟨rfl, h7⟩))
                      | (go_at_call 15; ((with_reducible refine (HO1.out _ HHH).mono ?_); rintro e w5 ⟨rfl, h5⟩)))
                    go_roundw
                    case rel => exact ⟨i + 1, by go_num, HIM.out, h7⟩
                    case measure => have := HIM.out; simp [RowKit.intOf]; omega
              · have j0 : decide ((i : Int) < (m : Int)) = false := decide_eq_false (by omega)
                have HB := Lib.hid hh.below
                have j2 : decide (i < m) = false := decide_eq_false him
                clear hh hi
                go_wp2
                go_ret
                exact ⟨rfl, HB.out⟩
end Go.Proofs.Ytimpobfilihhmaa
