/-
  The statements' own 'shown' (layer 6): it tells true, and nothing of what was there has turned.
-/
import Derived.Test.YtaajolemjgdfnaaDoorSqS
namespace Go.Proofs.YtaajolemjgdfnaaDoor
open Go Go.RowKit Go.Lib

abbrev sh1 : ByteArray := { data := #[102, 117, 110, 99, 32, 102, 40, 66, 44, 32, 97, 41, 32, 123, 32, 120, 32, 61, 32, 97, 91, 48, 93, 32, 43, 32, 66, 59, 32, 97, 114, 114, 97, 121, 32, 99, 32, 50, 59, 32, 99, 91, 49, 93, 32, 61, 32, 120, 59, 32, 125, 32, 120, 32, 61, 32, 121, 32, 43, 32, 102, 40, 49, 44, 32, 122, 41, 59, 32, 97, 114, 114, 97, 121, 32, 97, 32, 51, 59] }
theorem shk1 : tlOk sh1.data.toList = true := by kernel_rfl
theorem shz1 : resErr (tlq sh1.data.toList) = 4 := by kernel_rfl
theorem shl1 : resP (tlq sh1.data.toList) = [] := by kernel_rfl
theorem shc1 : cntL (tlq sh1.data.toList).pts ≤ 10000000 := of_decide_eq_true (by kernel_rfl)
theorem shw1 (w : World) (ht : Tab w) : Calls Tryd.prog 14 #[.string sh1] w fun e w' => ∃ A c, e = .returned (.tuple #[.slice A 0 c, .int .i64 4]) ∧ SpV w'.heap.size w' (.slice A 0 c) [] ∧ Below w.heap.size w w' :=
  of_any sh1 79 4 [] 0 rfl rfl (by decide) shk1 shz1 shl1 shc1 w ht
abbrev sh2 : ByteArray := { data := #[102, 117, 110, 99, 32, 102, 40, 98, 44, 32, 97, 41, 32, 123, 32, 120, 32, 61, 32, 98, 59, 32, 97, 114, 114, 97, 121, 32, 99, 32, 50, 59, 32, 99, 91, 49, 93, 32, 61, 32, 120, 59, 32, 125, 32, 120, 32, 61, 32, 121, 32, 43, 32, 102, 40, 49, 44, 32, 122, 41, 59, 32, 97, 114, 114, 97, 121, 32, 97, 32, 51, 59] }
theorem shk2 : tlOk sh2.data.toList = true := by kernel_rfl
theorem shz2 : resErr (tlq sh2.data.toList) = 0 := by kernel_rfl
def shL : List Sp := [⟨⟨#[]⟩, 0, [⟨#[120]⟩, ⟨#[121]⟩, ⟨#[122]⟩], [⟨#[97]⟩]⟩, ⟨⟨#[102]⟩, 2, [⟨#[98]⟩, ⟨#[97]⟩, ⟨#[120]⟩], [⟨#[99]⟩]⟩]
theorem shl2 : resP (tlq sh2.data.toList) = shL := by kernel_rfl
theorem shc2 : cntL (tlq sh2.data.toList).pts ≤ 10000000 := of_decide_eq_true (by kernel_rfl)
theorem shw2 (w : World) (ht : Tab w) : Calls Tryd.prog 14 #[.string sh2] w fun e w' => ∃ A c, e = .returned (.tuple #[.slice A 2 c, .int .i64 0]) ∧ SpV w'.heap.size w' (.slice A 2 c) shL ∧ Below w.heap.size w w' :=
  of_any sh2 72 0 shL 2 rfl rfl (by decide) shk2 shz2 shl2 shc2 w ht
abbrev sh3 : ByteArray := { data := #[120, 32, 61, 32, 102, 40, 41, 59] }
theorem shk3 : tlOk sh3.data.toList = true := by kernel_rfl
theorem shz3 : resErr (tlq sh3.data.toList) = 4 := by kernel_rfl
theorem shl3 : resP (tlq sh3.data.toList) = [] := by kernel_rfl
theorem shc3 : cntL (tlq sh3.data.toList).pts ≤ 10000000 := of_decide_eq_true (by kernel_rfl)
theorem shw3 (w : World) (ht : Tab w) : Calls Tryd.prog 14 #[.string sh3] w fun e w' => ∃ A c, e = .returned (.tuple #[.slice A 0 c, .int .i64 4]) ∧ SpV w'.heap.size w' (.slice A 0 c) [] ∧ Below w.heap.size w w' :=
  of_any sh3 8 4 [] 0 rfl rfl (by decide) shk3 shz3 shl3 shc3 w ht
abbrev sh4 : ByteArray := { data := #[102, 117, 110, 99, 32, 102, 40, 97, 41, 32, 123, 32, 125, 32, 120, 32, 61, 32, 102, 40, 41, 59] }
theorem shk4 : tlOk sh4.data.toList = true := by kernel_rfl
theorem shz4 : resErr (tlq sh4.data.toList) = 4 := by kernel_rfl
theorem shl4 : resP (tlq sh4.data.toList) = [] := by kernel_rfl
theorem shc4 : cntL (tlq sh4.data.toList).pts ≤ 10000000 := of_decide_eq_true (by kernel_rfl)
theorem shw4 (w : World) (ht : Tab w) : Calls Tryd.prog 14 #[.string sh4] w fun e w' => ∃ A c, e = .returned (.tuple #[.slice A 0 c, .int .i64 4]) ∧ SpV w'.heap.size w' (.slice A 0 c) [] ∧ Below w.heap.size w w' :=
  of_any sh4 22 4 [] 0 rfl rfl (by decide) shk4 shz4 shl4 shc4 w ht
abbrev sh5 : ByteArray := { data := #[97, 91, 48, 93, 32, 61, 32, 49, 59] }
theorem shk5 : tlOk sh5.data.toList = true := by kernel_rfl
theorem shz5 : resErr (tlq sh5.data.toList) = 4 := by kernel_rfl
theorem shl5 : resP (tlq sh5.data.toList) = [] := by kernel_rfl
theorem shc5 : cntL (tlq sh5.data.toList).pts ≤ 10000000 := of_decide_eq_true (by kernel_rfl)
theorem shw5 (w : World) (ht : Tab w) : Calls Tryd.prog 14 #[.string sh5] w fun e w' => ∃ A c, e = .returned (.tuple #[.slice A 0 c, .int .i64 4]) ∧ SpV w'.heap.size w' (.slice A 0 c) [] ∧ Below w.heap.size w w' :=
  of_any sh5 9 4 [] 0 rfl rfl (by decide) shk5 shz5 shl5 shc5 w ht
abbrev sh6 : ByteArray := { data := #[102, 117, 110, 99, 32, 102, 40, 97, 44, 32, 97, 41, 32, 123, 32, 125] }
theorem shk6 : tlOk sh6.data.toList = true := by kernel_rfl
theorem shz6 : resErr (tlq sh6.data.toList) = 4 := by kernel_rfl
theorem shl6 : resP (tlq sh6.data.toList) = [] := by kernel_rfl
theorem shc6 : cntL (tlq sh6.data.toList).pts ≤ 10000000 := of_decide_eq_true (by kernel_rfl)
theorem shw6 (w : World) (ht : Tab w) : Calls Tryd.prog 14 #[.string sh6] w fun e w' => ∃ A c, e = .returned (.tuple #[.slice A 0 c, .int .i64 4]) ∧ SpV w'.heap.size w' (.slice A 0 c) [] ∧ Below w.heap.size w w' :=
  of_any sh6 16 4 [] 0 rfl rfl (by decide) shk6 shz6 shl6 shc6 w ht
abbrev sh7 : ByteArray := { data := #[102, 117, 110, 99, 32, 102, 40, 41, 32, 123, 32, 125, 32, 102, 117, 110, 99, 32, 102, 40, 41, 32, 123, 32, 125] }
theorem shk7 : tlOk sh7.data.toList = true := by kernel_rfl
theorem shz7 : resErr (tlq sh7.data.toList) = 4 := by kernel_rfl
theorem shl7 : resP (tlq sh7.data.toList) = [] := by kernel_rfl
theorem shc7 : cntL (tlq sh7.data.toList).pts ≤ 10000000 := of_decide_eq_true (by kernel_rfl)
theorem shw7 (w : World) (ht : Tab w) : Calls Tryd.prog 14 #[.string sh7] w fun e w' => ∃ A c, e = .returned (.tuple #[.slice A 0 c, .int .i64 4]) ∧ SpV w'.heap.size w' (.slice A 0 c) [] ∧ Below w.heap.size w w' :=
  of_any sh7 25 4 [] 0 rfl rfl (by decide) shk7 shz7 shl7 shc7 w ht

theorem RowV.get {P : Nat → Nat → Prop} {B n : Nat} {v : Value} (h : RowV P B (n + 1) v) : ∃ b o k, v = .slice (some ⟨b, o, none⟩) (n + 1) k ∧ b < B ∧ P b o := by
  obtain ⟨A, k, e, _, _, hp⟩ := h
  obtain ⟨b, o, ea, hb, hp⟩ := hp (Nat.succ_pos _)
  exact ⟨b, o, k, by rw [e, ea], hb, hp⟩
theorem row_str3 (W : World) (x y z : ByteArray) (h : x.size ≤ 9223372036854775807 ∧ y.size ≤ 9223372036854775807 ∧ z.size ≤ 9223372036854775807) : RowV (PsIn (W.alloc (.cells #[.string x, .string y, .string z] 9)) [x, y, z]) (W.alloc (.cells #[.string x, .string y, .string z] 9)).heap.size 3 (.slice (some ⟨W.heap.size, 0, none⟩) 3 3) := by
  have hg := heap_alloc_new W (.cells #[.string x, .string y, .string z] 9)
  exact ⟨_, 3, rfl, Nat.le_refl _, by decide, fun _ => ⟨_, 0, rfl, by simp, (blk_cell hg 0).trans rfl, h.1, (blk_cell hg 1).trans rfl, h.2.1, (blk_cell hg 2).trans rfl, h.2.2, trivial⟩⟩
theorem row_str1 (W : World) (x : ByteArray) (h : x.size ≤ 9223372036854775807) : RowV (PsIn (W.alloc (.cells #[.string x] 9)) [x]) (W.alloc (.cells #[.string x] 9)).heap.size 1 (.slice (some ⟨W.heap.size, 0, none⟩) 1 1) := by
  have hg := heap_alloc_new W (.cells #[.string x] 9)
  exact ⟨_, 1, rfl, Nat.le_refl _, by decide, fun _ => ⟨_, 0, rfl, by simp, (blk_cell hg 0).trans rfl, h, trivial⟩⟩
theorem RowV.ps {B B' : Nat} {w0 W : World} {v : Value} {l : List ByteArray} {n : Nat} (h : RowV (PsIn w0 l) B n v) (hb : Below B w0 W) (hB : B ≤ B') : RowV (PsIn W l) B' n v := h.imp hB fun _ _ hb' hp => PsIn.below hb hb' hp
theorem same_lit3 (A : Option Addr) (c : Nat) (x y z : ByteArray) (hs : x.size ≤ 9223372036854775807 ∧ y.size ≤ 9223372036854775807 ∧ z.size ≤ 9223372036854775807) (B : Nat) (w0 W : World) (hb : Below B w0 W) (hB : B ≤ W.heap.size) (hv : RowV (PsIn w0 [x, y, z]) B 3 (.slice A 3 c)) :
    Calls Tryd.prog 12 #[.slice A 3 c, .slice (some ⟨W.heap.size, 0, none⟩) 3 3] (W.alloc (.cells #[.string x, .string y, .string z] 9)) fun e w' => e = .returned (.bool true) ∧ Below W.heap.size W w' := by
  have hbA : Below W.heap.size W (W.alloc (.cells #[.string x, .string y, .string z] 9)) := (Below.refl _ _).alloc (Nat.le_refl _) _
  refine (same_any _ _ _ [x, y, z] [x, y, z] _ _ (Below.refl _ _) (Nat.le_refl _) (hv.ps (hb.trans (hbA.mono hB)) (Nat.le_trans hB hbA.size)) (row_str3 W x y z hs)).mono ?_
  rintro e w' ⟨rfl, h⟩
  exact ⟨by simp, hbA.trans (h.mono hbA.size)⟩
theorem same_lit1 (A : Option Addr) (c : Nat) (x : ByteArray) (hs : x.size ≤ 9223372036854775807) (B : Nat) (w0 W : World) (hb : Below B w0 W) (hB : B ≤ W.heap.size) (hv : RowV (PsIn w0 [x]) B 1 (.slice A 1 c)) :
    Calls Tryd.prog 12 #[.slice A 1 c, .slice (some ⟨W.heap.size, 0, none⟩) 1 1] (W.alloc (.cells #[.string x] 9)) fun e w' => e = .returned (.bool true) ∧ Below W.heap.size W w' := by
  have hbA : Below W.heap.size W (W.alloc (.cells #[.string x] 9)) := (Below.refl _ _).alloc (Nat.le_refl _) _
  refine (same_any _ _ _ [x] [x] _ _ (Below.refl _ _) (Nat.le_refl _) (hv.ps (hb.trans (hbA.mono hB)) (Nat.le_trans hB hbA.size)) (row_str1 W x hs)).mono ?_
  rintro e w' ⟨rfl, h⟩
  exact ⟨by simp, hbA.trans (h.mono hbA.size)⟩
theorem find_lit (A : Option Addr) (c n : Nat) (L : List Sp) (s : ByteArray) (z : Int) (hz : findN L s 0 = z) (B : Nat) (w0 W : World) (hb : Below B w0 W) (hB : B ≤ W.heap.size) (hv : RowV (SpsIn B w0 L) B n (.slice A n c)) (hn : L.length = n) :
    Calls Tryd.prog 13 #[.slice A n c, .string s] W fun e w' => e = .returned (.int .i64 z) ∧ Below W.heap.size W w' := by
  subst hn hz
  exact find_any W.heap.size _ L s W (Nat.le_refl _) (SpV.below hv hb hB)
theorem slot_lit (A : Option Addr) (c n : Nat) (l : List ByteArray) (s : ByteArray) (z : Int) (hz : slotP l s = z) (B : Nat) (w0 W : World) (hb : Below B w0 W) (hv : RowV (PsIn w0 l) B n (.slice A n c)) (hn : l.length = n) :
    Calls Tryd.prog 10 #[.slice A n c, .string s] W fun e w' => e = .returned (.int .i64 z) ∧ W = w' := by
  subst hn hz
  exact slot_any B _ l s w0 W hb hv
theorem row_nil (W : World) : RowV (PsIn W []) 0 0 (.slice none 0 0) := ⟨none, 0, rfl, Nat.le_refl _, by decide, fun h => by omega⟩

set_option maxRecDepth 100000 in
set_option maxHeartbeats 8000000 in
theorem shown6_any (w : World) (ht : Tab w) : Calls Tryd.prog 8 #[] w fun e w' => e = .returned (.bool true) ∧ Below w.heap.size w w' := by
  have HT := Lib.hid (fun W (hb : Below w.heap.size w W) => ht.below hb ht.1)
  clear ht
  go_enter Tryd.func8, Tryd.ntmps8
  go_upto_region 2 with (go_at_call 14; ((with_reducible refine (shw1 _ (HT.out _ (Below.refl _ _))).mono ?_); rintro e w1 ⟨A1, c1, rfl, -, h1⟩))
  go_upto_region 3 with (go_at_call 14; ((with_reducible refine (shw2 _ (HT.out _ h1)).mono ?_); rintro e w2 ⟨A2, c2, rfl, hv2, h2⟩))
  have b2 := h1.trans (h2.mono h1.size)
  clear h1 h2
  go_upto_region 4 with (go_at_call 14; ((with_reducible refine (shw3 _ (HT.out _ b2)).mono ?_); rintro e w3 ⟨A3, c3, rfl, -, h3⟩))
  have b3 := b2.trans (h3.mono b2.size)
  have g3 := h3
  clear h3
  go_upto_region 5 with (go_at_call 14; ((with_reducible refine (shw4 _ (HT.out _ b3)).mono ?_); rintro e w4 ⟨A4, c4, rfl, -, h4⟩))
  have b4 := b3.trans (h4.mono b3.size)
  have g4 := g3.trans (h4.mono g3.size)
  clear h4
  go_upto_region 6 with (go_at_call 14; ((with_reducible refine (shw5 _ (HT.out _ b4)).mono ?_); rintro e w5 ⟨A5, c5, rfl, -, h5⟩))
  have b5 := b4.trans (h5.mono b4.size)
  have g5 := g4.trans (h5.mono g4.size)
  clear h5
  go_upto_region 7 with (go_at_call 14; ((with_reducible refine (shw6 _ (HT.out _ b5)).mono ?_); rintro e w6 ⟨A6, c6, rfl, -, h6⟩))
  have b6 := b5.trans (h6.mono b5.size)
  have g6 := g5.trans (h6.mono g5.size)
  clear h6
  go_upto_region 8 with (go_at_call 14; ((with_reducible refine (shw7 _ (HT.out _ b6)).mono ?_); rintro e w7 ⟨A7, c7, rfl, -, h7⟩))
  have b7 := b6.trans (h7.mono b6.size)
  have g7 := g6.trans (h7.mono g6.size)
  clear h7
  have HV2 : Hid (RowV (SpsIn w2.heap.size w2 shL) w2.heap.size 2 (.slice A2 2 c2)) := Lib.hid hv2
  obtain ⟨b, o, k, e2, hb2, p0, p1, ⟨va, p2, hva⟩, ⟨vb, p3, hvb⟩, _, q0, q1, ⟨vc, q2, hvc⟩, ⟨vd, q3, hvd⟩, _, _⟩ := RowV.get (n := 1) hv2
  injection e2 with e21 e22 e23
  subst e21 e23
  clear e22
  obtain ⟨Aa, ca, rfl, _⟩ := id hva
  obtain ⟨Ab, cb, rfl, _⟩ := id hvb
  obtain ⟨Ac, cc, rfl, _⟩ := id hvc
  obtain ⟨Ad, cd, rfl, _⟩ := id hvd
  have x2 := (g7.cell (p := ⟨b, o + 2, none⟩) hb2).trans p2
  have x3 := (g7.cell (p := ⟨b, o + 3, none⟩) hb2).trans p3
  have y1 := (g7.cell (p := ⟨b, o + 4 + 1, none⟩) hb2).trans q1
  have y2 := (g7.cell (p := ⟨b, o + 4 + 2, none⟩) hb2).trans q2
  have y3 := (g7.cell (p := ⟨b, o + 4 + 3, none⟩) hb2).trans q3
  have HVa : Hid (RowV (PsIn w2 [⟨#[120]⟩, ⟨#[121]⟩, ⟨#[122]⟩]) w2.heap.size 3 (.slice Aa 3 ca)) := Lib.hid hva
  have HVb : Hid (RowV (PsIn w2 [⟨#[97]⟩]) w2.heap.size 1 (.slice Ab 1 cb)) := Lib.hid hvb
  have HVc : Hid (RowV (PsIn w2 [⟨#[98]⟩, ⟨#[97]⟩, ⟨#[120]⟩]) w2.heap.size 3 (.slice Ac 3 cc)) := Lib.hid hvc
  have HVd : Hid (RowV (PsIn w2 [⟨#[99]⟩]) w2.heap.size 1 (.slice Ad 1 cd)) := Lib.hid hvd
  have CL := Lib.hid (fun W (hb : Below w2.heap.size w2 W) => (⟨(hb.cell (p := ⟨b, o + 3, none⟩) hb2).trans p3, (hb.cell (p := ⟨b, o + 4 + 1, none⟩) hb2).trans q1, (hb.cell (p := ⟨b, o + 4 + 2, none⟩) hb2).trans q2, (hb.cell (p := ⟨b, o + 4 + 3, none⟩) hb2).trans q3⟩ : W.cell? ⟨b, o + 3, none⟩ = some _ ∧ W.cell? ⟨b, o + 4 + 1, none⟩ = some _ ∧ W.cell? ⟨b, o + 4 + 2, none⟩ = some _ ∧ W.cell? ⟨b, o + 4 + 3, none⟩ = some _))
  have B2 := Lib.hid b2
  have G7 := Lib.hid g7
  clear hv2 hva hvb hvc hvd p0 p1 p2 p3 q0 q1 q2 q3
  have r7 := G7.out
  go_wp2_with (first
    | (go_at_call 12; ((with_reducible refine (same_lit3 Aa ca ⟨#[120]⟩ ⟨#[121]⟩ ⟨#[122]⟩ (by decide) w2.heap.size w2 w7 r7 r7.size HVa.out).mono ?_); rintro e w8 ⟨rfl, k8⟩; have r8 := r7.trans (k8.mono r7.size); obtain ⟨x3, y1, y2, y3⟩ := CL.out w8 r8))
    | (go_at_call 12; ((with_reducible refine (same_lit1 Ab cb ⟨#[97]⟩ (by decide) w2.heap.size w2 w8 r8 r8.size HVb.out).mono ?_); rintro e w9 ⟨rfl, k9⟩; have r9 := r8.trans (k9.mono r8.size); obtain ⟨x3, y1, y2, y3⟩ := CL.out w9 r9))
    | (go_at_call 12; ((with_reducible refine (same_lit3 Ac cc ⟨#[98]⟩ ⟨#[97]⟩ ⟨#[120]⟩ (by decide) w2.heap.size w2 w9 r9 r9.size HVc.out).mono ?_); rintro e w10 ⟨rfl, k10⟩; have r10 := r9.trans (k10.mono r9.size); obtain ⟨x3, y1, y2, y3⟩ := CL.out w10 r10))
    | (go_at_call 12; ((with_reducible refine (same_lit1 Ad cd ⟨#[99]⟩ (by decide) w2.heap.size w2 w10 r10 r10.size HVd.out).mono ?_); rintro e w11 ⟨rfl, k11⟩; have r11 := r10.trans (k11.mono r10.size); obtain ⟨x3, y1, y2, y3⟩ := CL.out w11 r11))
    | (go_at_call 13; ((with_reducible refine (find_lit (some ⟨b, o, none⟩) c2 2 shL ⟨#[102]⟩ 1 (by decide +kernel) w2.heap.size w2 w11 r11 r11.size HV2.out rfl).mono ?_); rintro e w12 ⟨rfl, k12⟩; have r12 := r11.trans (k12.mono r11.size); obtain ⟨x3, y1, y2, y3⟩ := CL.out w12 r12))
    | (go_at_call 13; ((with_reducible refine (find_lit (some ⟨b, o, none⟩) c2 2 shL ⟨#[]⟩ (-1) (by decide +kernel) w2.heap.size w2 w12 r12 r12.size HV2.out rfl).mono ?_); rintro e w13 ⟨rfl, k13⟩; have r13 := r12.trans (k13.mono r12.size); obtain ⟨x3, y1, y2, y3⟩ := CL.out w13 r13))
    | (go_at_call 10; ((with_reducible refine (slot_lit Ac cc 3 [⟨#[98]⟩, ⟨#[97]⟩, ⟨#[120]⟩] ⟨#[120]⟩ 2 (by decide +kernel) w2.heap.size w2 w13 r13 HVc.out rfl).mono ?_); rintro e w14 ⟨rfl, rfl⟩))
    | (go_at_call 10; ((with_reducible refine (slot_lit none 0 0 [] ⟨#[120]⟩ (-1) (by decide +kernel) 0 w13 w13 (Below.refl 0 w13) (row_nil _) rfl).mono ?_); rintro e w15 ⟨rfl, rfl⟩)))
  go_ret
  exact ⟨rfl, B2.out.trans (r13.mono B2.out.size)⟩
end Go.Proofs.YtaajolemjgdfnaaDoor
