/-
  ParseBinds: the walk.
-/
import Derived.Test.YtmpdnikabkandaaPq5
import Derived.Test.YtmpdnikabkandaaPgWm
namespace Go.Proofs.Ytmpdnikabkandaa
open Go Go.RowKit Go.Lib

set_option maxHeartbeats 4000000 in
set_option maxRecDepth 100000 in
theorem binds_l (i1 i2 i3 i4 i5 N P : Int) (x y z a b : Nat) (w : World) (hN : bits BinOp.and IntKind.i64 i1 65535 = N) (hP : bits BinOp.and IntKind.i64 i2 65535 = P) (hA : N.tmod 9 = (a : Int)) (hB : P.tmod 9 = (b : Int)) (ha : a < 9) (hb : b < 9)
    (hX : bits BinOp.and IntKind.i64 i3 63 = (x : Int)) (hY : bits BinOp.and IntKind.i64 i4 63 = (y : Int)) (hZ : bits BinOp.and IntKind.i64 i5 63 = (z : Int)) (hx : x < 100) (hy : y < 100) (hz : z < 100) (hl : lv b ≤ lv a) :
    Calls Try.prog 6 #[.int .i64 i1, .int .i64 i2, .int .i64 i3, .int .i64 i4, .int .i64 i5] w fun e w' => e = .returned (.bool true) ∧ Fr w w' := by
  have h := Fr.refl w
  have HS := Lib.hid (shown4_fr w w h)
  have HNX := Lib.hid (fun w => number_any x hx w)
  have HNY := Lib.hid (fun w => number_any y hy w)
  have HNZ := Lib.hid (fun w => number_any z hz w)
  have HMK := Lib.hid (fun w => (⟨mk_cell w ha, mk_cell w hb⟩ : (w.alloc OM).cell? ⟨w.heap.size, a, none⟩ = some (.string (baT (mkB a))) ∧ (w.alloc OM).cell? ⟨w.heap.size, b, none⟩ = some (.string (baT (mkB b)))))
  have HBA := Lib.hid (fun w => bindsf_any a ha w)
  have HBB := Lib.hid (fun w => bindsf_any b hb w)
  obtain ⟨r8, ht8⟩ := plain_is hx hy hz ha hb
  obtain ⟨r9, ht9⟩ := left_is hx hy hz ha hb
  obtain ⟨r10, ht10⟩ := right_is hx hy hz ha hb
  rw [if_pos hl] at ht8
  have sx : (baT (dg x)).size ≤ 2 := by rw [baT_size]; exact dg_two
  have sy : (baT (dg y)).size ≤ 2 := by rw [baT_size]; exact dg_two
  have sz : (baT (dg z)).size ≤ 2 := by rw [baT_size]; exact dg_two
  have sa : (baT (mkB a)).size ≤ 2 := by rw [baT_size]; exact mk_size ⟨a, ha⟩
  have sb : (baT (mkB b)).size ≤ 2 := by rw [baT_size]; exact mk_size ⟨b, hb⟩
  have HQ8 := Lib.hid (fun X blk cap (hc : 6 + (baT (dg x)).size + 1 + (baT (mkB a)).size + 1 + (baT (dg y)).size + 1 + (baT (mkB b)).size + 1 + (baT (dg z)).size + 1 ≤ cap) (hr : Row X (some ⟨blk, 0, none⟩) ((⟨#[112, 114, 105, 110, 116, 32]⟩ : ByteArray) ++ baT (dg x) ++ ⟨#[32]⟩ ++ baT (mkB a) ++ ⟨#[32]⟩ ++ baT (dg y) ++ ⟨#[32]⟩ ++ baT (mkB b) ++ ⟨#[32]⟩ ++ baT (dg z) ++ ⟨#[59]⟩).data.toList) => (p_gv (e := eLe x y z a b) (l := ((⟨#[112, 114, 105, 110, 116, 32]⟩ : ByteArray) ++ baT (dg x) ++ ⟨#[32]⟩ ++ baT (mkB a) ++ ⟨#[32]⟩ ++ baT (dg y) ++ ⟨#[32]⟩ ++ baT (mkB b) ++ ⟨#[32]⟩ ++ baT (dg z) ++ ⟨#[59]⟩).data.toList) ((congrArg tl (by rw [bat_app, bat_app, bat_app, bat_app, bat_app, bat_app, bat_app, bat_app, bat_app, bat_app]; rfl)).trans ht8) (some ⟨blk, 0, none⟩) (6 + (baT (dg x)).size + 1 + (baT (mkB a)).size + 1 + (baT (dg y)).size + 1 + (baT (mkB b)).size + 1 + (baT (dg z)).size + 1) cap X (by rw [bat_app, bat_app, bat_app, bat_app, bat_app, bat_app, bat_app, bat_app, bat_app, bat_app]; simp only [List.length_append]; rfl) (by omega) hc hr))
  have k8_0 : ¬ 9223372036854775807 < 6 + (baT (dg x)).size := by omega
  have k8_1 : ¬ 9223372036854775807 < 6 + (baT (dg x)).size + 1 := by omega
  have k8_2 : ¬ 9223372036854775807 < 6 + (baT (dg x)).size + 1 + (baT (mkB a)).size := by omega
  have k8_3 : ¬ 9223372036854775807 < 6 + (baT (dg x)).size + 1 + (baT (mkB a)).size + 1 := by omega
  have k8_4 : ¬ 9223372036854775807 < 6 + (baT (dg x)).size + 1 + (baT (mkB a)).size + 1 + (baT (dg y)).size := by omega
  have k8_5 : ¬ 9223372036854775807 < 6 + (baT (dg x)).size + 1 + (baT (mkB a)).size + 1 + (baT (dg y)).size + 1 := by omega
  have k8_6 : ¬ 9223372036854775807 < 6 + (baT (dg x)).size + 1 + (baT (mkB a)).size + 1 + (baT (dg y)).size + 1 + (baT (mkB b)).size := by omega
  have k8_7 : ¬ 9223372036854775807 < 6 + (baT (dg x)).size + 1 + (baT (mkB a)).size + 1 + (baT (dg y)).size + 1 + (baT (mkB b)).size + 1 := by omega
  have k8_8 : ¬ 9223372036854775807 < 6 + (baT (dg x)).size + 1 + (baT (mkB a)).size + 1 + (baT (dg y)).size + 1 + (baT (mkB b)).size + 1 + (baT (dg z)).size := by omega
  have k8_9 : ¬ 9223372036854775807 < 6 + (baT (dg x)).size + 1 + (baT (mkB a)).size + 1 + (baT (dg y)).size + 1 + (baT (mkB b)).size + 1 + (baT (dg z)).size + 1 := by omega
  have HQ9 := Lib.hid (fun X blk cap (hc : 7 + (baT (dg x)).size + (baT (mkB a)).size + (baT (dg y)).size + 1 + (baT (mkB b)).size + (baT (dg z)).size + 1 ≤ cap) (hr : Row X (some ⟨blk, 0, none⟩) ((⟨#[112, 114, 105, 110, 116, 32, 40]⟩ : ByteArray) ++ baT (dg x) ++ baT (mkB a) ++ baT (dg y) ++ ⟨#[41]⟩ ++ baT (mkB b) ++ baT (dg z) ++ ⟨#[59]⟩).data.toList) => (p_gv (e := eLe x y z a b) (l := ((⟨#[112, 114, 105, 110, 116, 32, 40]⟩ : ByteArray) ++ baT (dg x) ++ baT (mkB a) ++ baT (dg y) ++ ⟨#[41]⟩ ++ baT (mkB b) ++ baT (dg z) ++ ⟨#[59]⟩).data.toList) ((congrArg tl (by rw [bat_app, bat_app, bat_app, bat_app, bat_app, bat_app, bat_app]; rfl)).trans ht9) (some ⟨blk, 0, none⟩) (7 + (baT (dg x)).size + (baT (mkB a)).size + (baT (dg y)).size + 1 + (baT (mkB b)).size + (baT (dg z)).size + 1) cap X (by rw [bat_app, bat_app, bat_app, bat_app, bat_app, bat_app, bat_app]; simp only [List.length_append]; rfl) (by omega) hc hr))
  have k9_0 : ¬ 9223372036854775807 < 7 + (baT (dg x)).size := by omega
  have k9_1 : ¬ 9223372036854775807 < 7 + (baT (dg x)).size + (baT (mkB a)).size := by omega
  have k9_2 : ¬ 9223372036854775807 < 7 + (baT (dg x)).size + (baT (mkB a)).size + (baT (dg y)).size := by omega
  have k9_3 : ¬ 9223372036854775807 < 7 + (baT (dg x)).size + (baT (mkB a)).size + (baT (dg y)).size + 1 := by omega
  have k9_4 : ¬ 9223372036854775807 < 7 + (baT (dg x)).size + (baT (mkB a)).size + (baT (dg y)).size + 1 + (baT (mkB b)).size := by omega
  have k9_5 : ¬ 9223372036854775807 < 7 + (baT (dg x)).size + (baT (mkB a)).size + (baT (dg y)).size + 1 + (baT (mkB b)).size + (baT (dg z)).size := by omega
  have k9_6 : ¬ 9223372036854775807 < 7 + (baT (dg x)).size + (baT (mkB a)).size + (baT (dg y)).size + 1 + (baT (mkB b)).size + (baT (dg z)).size + 1 := by omega
  have HQ10 := Lib.hid (fun X blk cap (hc : 6 + (baT (dg x)).size + (baT (mkB a)).size + 1 + (baT (dg y)).size + (baT (mkB b)).size + (baT (dg z)).size + 2 ≤ cap) (hr : Row X (some ⟨blk, 0, none⟩) ((⟨#[112, 114, 105, 110, 116, 32]⟩ : ByteArray) ++ baT (dg x) ++ baT (mkB a) ++ ⟨#[40]⟩ ++ baT (dg y) ++ baT (mkB b) ++ baT (dg z) ++ ⟨#[41, 59]⟩).data.toList) => (p_gv (e := eRi x y z a b) (l := ((⟨#[112, 114, 105, 110, 116, 32]⟩ : ByteArray) ++ baT (dg x) ++ baT (mkB a) ++ ⟨#[40]⟩ ++ baT (dg y) ++ baT (mkB b) ++ baT (dg z) ++ ⟨#[41, 59]⟩).data.toList) ((congrArg tl (by rw [bat_app, bat_app, bat_app, bat_app, bat_app, bat_app, bat_app]; rfl)).trans ht10) (some ⟨blk, 0, none⟩) (6 + (baT (dg x)).size + (baT (mkB a)).size + 1 + (baT (dg y)).size + (baT (mkB b)).size + (baT (dg z)).size + 2) cap X (by rw [bat_app, bat_app, bat_app, bat_app, bat_app, bat_app, bat_app]; simp only [List.length_append]; rfl) (by omega) hc hr))
  have k10_0 : ¬ 9223372036854775807 < 6 + (baT (dg x)).size := by omega
  have k10_1 : ¬ 9223372036854775807 < 6 + (baT (dg x)).size + (baT (mkB a)).size := by omega
  have k10_2 : ¬ 9223372036854775807 < 6 + (baT (dg x)).size + (baT (mkB a)).size + 1 := by omega
  have k10_3 : ¬ 9223372036854775807 < 6 + (baT (dg x)).size + (baT (mkB a)).size + 1 + (baT (dg y)).size := by omega
  have k10_4 : ¬ 9223372036854775807 < 6 + (baT (dg x)).size + (baT (mkB a)).size + 1 + (baT (dg y)).size + (baT (mkB b)).size := by omega
  have k10_5 : ¬ 9223372036854775807 < 6 + (baT (dg x)).size + (baT (mkB a)).size + 1 + (baT (dg y)).size + (baT (mkB b)).size + (baT (dg z)).size := by omega
  have k10_6 : ¬ 9223372036854775807 < 6 + (baT (dg x)).size + (baT (mkB a)).size + 1 + (baT (dg y)).size + (baT (mkB b)).size + (baT (dg z)).size + 2 := by omega
  have kb := run_bs
  have a9 : (a : Int) < 9 := by omega
  have b9 : (b : Int) < 9 := by omega
  have dl : decide ((lv b : Int) ≤ (lv a : Int)) = true := decide_eq_true (by omega)
  have dn : decide (lv b ≤ lv a) = true := decide_eq_true (by omega)
  have HNE := Lib.hid (le_ne_ri (x := x) (y := y) (z := z) (a := a) (b := b) ha)
  clear ht8 ht9 ht10 sx sy sz sa sb ha hb hx hy hz
  go_enter Try.func6, Try.ntmps6
  go_upto_region 4 with (go_at_call 11; ((with_reducible refine HS.out.mono ?_); rintro e w1 ⟨rfl, F1⟩))
  go_upto_region 5 with fail
  have hM1 := HMK.out w1
  have F2 := F1.alloc OM
  obtain ⟨n1, hn1⟩ : ∃ n, w1.heap.size = n := ⟨_, rfl⟩
  have z2 : n1 < (w1.alloc OM).heap.size := by simp; omega
  rw [hn1] at hM1 ⊢
  obtain ⟨u2, hu2⟩ : ∃ u, w1.alloc OM = u := ⟨_, rfl⟩
  rw [hu2] at hM1 F2 z2 ⊢
  clear hu2
  have HM := Lib.hid (fun w' (hb : Below u2.heap.size u2 w') => (⟨(hb.cell (p := ⟨n1, a, none⟩) z2).trans hM1.1, (hb.cell (p := ⟨n1, b, none⟩) z2).trans hM1.2⟩ : w'.cell? ⟨n1, a, none⟩ = some (.string (baT (mkB a))) ∧ w'.cell? ⟨n1, b, none⟩ = some (.string (baT (mkB b)))))
  clear hM1
  go_upto_region 8 with (first
    | (go_at_call 16; first
      | ((with_reducible refine (HNX.out _).mono ?_); rintro e w3 ⟨rfl, e3⟩)
      | ((with_reducible refine (HNY.out _).mono ?_); rintro e w4 ⟨rfl, e4⟩)
      | ((with_reducible refine (HNZ.out _).mono ?_); rintro e w5 ⟨rfl, e5⟩)))
  have E5 : Below u2.heap.size u2 w5 := e3.trans ((e4.trans (e5.mono e4.size)).mono e3.size)
  have F5 := F2.below E5
  clear e3 e4 e5
  go_cut [16, 17, 18] (fun p n e wx => Made w5 wx (pE (eLe x y z a b)) p n e)
  case first =>
    have HB := Lib.hid (fun w' (hb : Below w5.heap.size w5 w') => HM.out w' (E5.trans (hb.mono E5.size)))
    have hS0 : Below w5.heap.size w5 w5.drew := below_drw (Below.refl _ _)
    refine wp_region_late (fun w' => Below w5.heap.size w5 w') 30 (by kernel_rfl) ?_
    obtain ⟨zu, hzu⟩ : ∃ n, w5.heap.size = n := ⟨_, rfl⟩
    obtain ⟨u0, hu0⟩ : ∃ x, w5.drew = x := ⟨_, rfl⟩
    rw [hu0] at hS0 ⊢
    clear hu0
    refine AnyL.take 0 (.string (baT (dg x))) rfl (by kernel_rfl) (by kernel_rfl) (by kernel_rfl) (by kernel_rfl) (fun _ _ _ h => h) (Or.inl ⟨by rfl, ?_⟩) (by assumption) ?_
    · intro W' hSw
      obtain ⟨l1, l2⟩ := HB.out W' hSw
      go_simp
    try simp only [Act.put, List.getElem_toArray, List.getElem_cons_zero, List.setIfInBounds_toArray, List.set_cons_zero, List.set_cons_succ]
    refine AnyL.take 1 (.string ((⟨#[112, 114, 105, 110, 116, 32]⟩ : ByteArray) ++ baT (dg x))) rfl (by kernel_rfl) (by kernel_rfl) (by kernel_rfl) (by kernel_rfl) (fun _ _ _ h => h) (Or.inl ⟨by rfl, ?_⟩) (by assumption) ?_
    · intro W' hSw
      obtain ⟨l1, l2⟩ := HB.out W' hSw
      go_simp
    try simp only [Act.put, List.getElem_toArray, List.getElem_cons_zero, List.getElem_cons_succ, List.setIfInBounds_toArray, List.set_cons_zero, List.set_cons_succ]
    refine AnyL.take 2 (.string ((⟨#[112, 114, 105, 110, 116, 32]⟩ : ByteArray) ++ baT (dg x) ++ ⟨#[32]⟩)) rfl (by kernel_rfl) (by kernel_rfl) (by kernel_rfl) (by kernel_rfl) (fun _ _ _ h => h) (Or.inl ⟨by rfl, ?_⟩) (by assumption) ?_
    · intro W' hSw
      obtain ⟨l1, l2⟩ := HB.out W' hSw
      go_simp
    try simp only [Act.put, List.getElem_toArray, List.getElem_cons_zero, List.getElem_cons_succ, List.setIfInBounds_toArray, List.set_cons_zero, List.set_cons_succ]
    refine AnyL.take 3 (.slice (some ⟨n1, 0, none⟩) 9 9) rfl (by kernel_rfl) (by kernel_rfl) (by kernel_rfl) (by kernel_rfl) (fun _ _ _ h => h) (Or.inl ⟨by rfl, ?_⟩) (by assumption) ?_
    · intro W' hSw
      obtain ⟨l1, l2⟩ := HB.out W' hSw
      go_simp
    try simp only [Act.put, List.getElem_toArray, List.getElem_cons_zero, List.getElem_cons_succ, List.setIfInBounds_toArray, List.set_cons_zero, List.set_cons_succ]
    refine AnyL.take 4 (.int .i64 a) rfl (by kernel_rfl) (by kernel_rfl) (by kernel_rfl) (by kernel_rfl) (fun _ _ _ h => h) (Or.inl ⟨by rfl, ?_⟩) (by assumption) ?_
    · intro W' hSw
      obtain ⟨l1, l2⟩ := HB.out W' hSw
      go_simp
    try simp only [Act.put, List.getElem_toArray, List.getElem_cons_zero, List.getElem_cons_succ, List.setIfInBounds_toArray, List.set_cons_zero, List.set_cons_succ]
    refine AnyL.take 5 (.pointer (some ⟨n1, a, none⟩)) rfl (by kernel_rfl) (by kernel_rfl) (by kernel_rfl) (by kernel_rfl) (fun _ _ _ h => h) (Or.inl ⟨by rfl, ?_⟩) (by assumption) ?_
    · intro W' hSw
      obtain ⟨l1, l2⟩ := HB.out W' hSw
      go_simp
    try simp only [Act.put, List.getElem_toArray, List.getElem_cons_zero, List.getElem_cons_succ, List.setIfInBounds_toArray, List.set_cons_zero, List.set_cons_succ]
    refine AnyL.take 6 (.string (baT (mkB a))) rfl (by kernel_rfl) (by kernel_rfl) (by kernel_rfl) (by kernel_rfl) (fun _ _ _ h => h) (Or.inl ⟨by rfl, ?_⟩) (by assumption) ?_
    · intro W' hSw
      obtain ⟨l1, l2⟩ := HB.out W' hSw
      go_simp
    try simp only [Act.put, List.getElem_toArray, List.getElem_cons_zero, List.getElem_cons_succ, List.setIfInBounds_toArray, List.set_cons_zero, List.set_cons_succ]
    refine AnyL.take 7 (.string ((⟨#[112, 114, 105, 110, 116, 32]⟩ : ByteArray) ++ baT (dg x) ++ ⟨#[32]⟩ ++ baT (mkB a))) rfl (by kernel_rfl) (by kernel_rfl) (by kernel_rfl) (by kernel_rfl) (fun _ _ _ h => h) (Or.inl ⟨by rfl, ?_⟩) (by assumption) ?_
    · intro W' hSw
      obtain ⟨l1, l2⟩ := HB.out W' hSw
      go_simp
    try simp only [Act.put, List.getElem_toArray, List.getElem_cons_zero, List.getElem_cons_succ, List.setIfInBounds_toArray, List.set_cons_zero, List.set_cons_succ]
    refine AnyL.take 8 (.string ((⟨#[112, 114, 105, 110, 116, 32]⟩ : ByteArray) ++ baT (dg x) ++ ⟨#[32]⟩ ++ baT (mkB a) ++ ⟨#[32]⟩)) rfl (by kernel_rfl) (by kernel_rfl) (by kernel_rfl) (by kernel_rfl) (fun _ _ _ h => h) (Or.inl ⟨by rfl, ?_⟩) (by assumption) ?_
    · intro W' hSw
      obtain ⟨l1, l2⟩ := HB.out W' hSw
      go_simp
    try simp only [Act.put, List.getElem_toArray, List.getElem_cons_zero, List.getElem_cons_succ, List.setIfInBounds_toArray, List.set_cons_zero, List.set_cons_succ]
    refine AnyL.take 9 (.string (baT (dg y))) rfl (by kernel_rfl) (by kernel_rfl) (by kernel_rfl) (by kernel_rfl) (fun _ _ _ h => h) (Or.inl ⟨by rfl, ?_⟩) (by assumption) ?_
    · intro W' hSw
      obtain ⟨l1, l2⟩ := HB.out W' hSw
      go_simp
    try simp only [Act.put, List.getElem_toArray, List.getElem_cons_zero, List.getElem_cons_succ, List.setIfInBounds_toArray, List.set_cons_zero, List.set_cons_succ]
    refine AnyL.take 10 (.string ((⟨#[112, 114, 105, 110, 116, 32]⟩ : ByteArray) ++ baT (dg x) ++ ⟨#[32]⟩ ++ baT (mkB a) ++ ⟨#[32]⟩ ++ baT (dg y))) rfl (by kernel_rfl) (by kernel_rfl) (by kernel_rfl) (by kernel_rfl) (fun _ _ _ h => h) (Or.inl ⟨by rfl, ?_⟩) (by assumption) ?_
    · intro W' hSw
      obtain ⟨l1, l2⟩ := HB.out W' hSw
      go_simp
    try simp only [Act.put, List.getElem_toArray, List.getElem_cons_zero, List.getElem_cons_succ, List.setIfInBounds_toArray, List.set_cons_zero, List.set_cons_succ]
    refine AnyL.take 11 (.string ((⟨#[112, 114, 105, 110, 116, 32]⟩ : ByteArray) ++ baT (dg x) ++ ⟨#[32]⟩ ++ baT (mkB a) ++ ⟨#[32]⟩ ++ baT (dg y) ++ ⟨#[32]⟩)) rfl (by kernel_rfl) (by kernel_rfl) (by kernel_rfl) (by kernel_rfl) (fun _ _ _ h => h) (Or.inl ⟨by rfl, ?_⟩) (by assumption) ?_
    · intro W' hSw
      obtain ⟨l1, l2⟩ := HB.out W' hSw
      go_simp
    try simp only [Act.put, List.getElem_toArray, List.getElem_cons_zero, List.getElem_cons_succ, List.setIfInBounds_toArray, List.set_cons_zero, List.set_cons_succ]
    refine AnyL.take 12 (.slice (some ⟨n1, 0, none⟩) 9 9) rfl (by kernel_rfl) (by kernel_rfl) (by kernel_rfl) (by kernel_rfl) (fun _ _ _ h => h) (Or.inl ⟨by rfl, ?_⟩) (by assumption) ?_
    · intro W' hSw
      obtain ⟨l1, l2⟩ := HB.out W' hSw
      go_simp
    try simp only [Act.put, List.getElem_toArray, List.getElem_cons_zero, List.getElem_cons_succ, List.setIfInBounds_toArray, List.set_cons_zero, List.set_cons_succ]
    refine AnyL.take 13 (.int .i64 b) rfl (by kernel_rfl) (by kernel_rfl) (by kernel_rfl) (by kernel_rfl) (fun _ _ _ h => h) (Or.inl ⟨by rfl, ?_⟩) (by assumption) ?_
    · intro W' hSw
      obtain ⟨l1, l2⟩ := HB.out W' hSw
      go_simp
    try simp only [Act.put, List.getElem_toArray, List.getElem_cons_zero, List.getElem_cons_succ, List.setIfInBounds_toArray, List.set_cons_zero, List.set_cons_succ]
    refine AnyL.take 14 (.pointer (some ⟨n1, b, none⟩)) rfl (by kernel_rfl) (by kernel_rfl) (by kernel_rfl) (by kernel_rfl) (fun _ _ _ h => h) (Or.inl ⟨by rfl, ?_⟩) (by assumption) ?_
    · intro W' hSw
      obtain ⟨l1, l2⟩ := HB.out W' hSw
      go_simp
    try simp only [Act.put, List.getElem_toArray, List.getElem_cons_zero, List.getElem_cons_succ, List.setIfInBounds_toArray, List.set_cons_zero, List.set_cons_succ]
    refine AnyL.take 15 (.string (baT (mkB b))) rfl (by kernel_rfl) (by kernel_rfl) (by kernel_rfl) (by kernel_rfl) (fun _ _ _ h => h) (Or.inl ⟨by rfl, ?_⟩) (by assumption) ?_
    · intro W' hSw
      obtain ⟨l1, l2⟩ := HB.out W' hSw
      go_simp
    try simp only [Act.put, List.getElem_toArray, List.getElem_cons_zero, List.getElem_cons_succ, List.setIfInBounds_toArray, List.set_cons_zero, List.set_cons_succ]
    refine AnyL.take 16 (.string ((⟨#[112, 114, 105, 110, 116, 32]⟩ : ByteArray) ++ baT (dg x) ++ ⟨#[32]⟩ ++ baT (mkB a) ++ ⟨#[32]⟩ ++ baT (dg y) ++ ⟨#[32]⟩ ++ baT (mkB b))) rfl (by kernel_rfl) (by kernel_rfl) (by kernel_rfl) (by kernel_rfl) (fun _ _ _ h => h) (Or.inl ⟨by rfl, ?_⟩) (by assumption) ?_
    · intro W' hSw
      obtain ⟨l1, l2⟩ := HB.out W' hSw
      go_simp
    try simp only [Act.put, List.getElem_toArray, List.getElem_cons_zero, List.getElem_cons_succ, List.setIfInBounds_toArray, List.set_cons_zero, List.set_cons_succ]
    refine AnyL.take 17 (.string ((⟨#[112, 114, 105, 110, 116, 32]⟩ : ByteArray) ++ baT (dg x) ++ ⟨#[32]⟩ ++ baT (mkB a) ++ ⟨#[32]⟩ ++ baT (dg y) ++ ⟨#[32]⟩ ++ baT (mkB b) ++ ⟨#[32]⟩)) rfl (by kernel_rfl) (by kernel_rfl) (by kernel_rfl) (by kernel_rfl) (fun _ _ _ h => h) (Or.inl ⟨by rfl, ?_⟩) (by assumption) ?_
    · intro W' hSw
      obtain ⟨l1, l2⟩ := HB.out W' hSw
      go_simp
    try simp only [Act.put, List.getElem_toArray, List.getElem_cons_zero, List.getElem_cons_succ, List.setIfInBounds_toArray, List.set_cons_zero, List.set_cons_succ]
    refine AnyL.take 18 (.string (baT (dg z))) rfl (by kernel_rfl) (by kernel_rfl) (by kernel_rfl) (by kernel_rfl) (fun _ _ _ h => h) (Or.inl ⟨by rfl, ?_⟩) (by assumption) ?_
    · intro W' hSw
      obtain ⟨l1, l2⟩ := HB.out W' hSw
      go_simp
    try simp only [Act.put, List.getElem_toArray, List.getElem_cons_zero, List.getElem_cons_succ, List.setIfInBounds_toArray, List.set_cons_zero, List.set_cons_succ]
    refine AnyL.take 19 (.string ((⟨#[112, 114, 105, 110, 116, 32]⟩ : ByteArray) ++ baT (dg x) ++ ⟨#[32]⟩ ++ baT (mkB a) ++ ⟨#[32]⟩ ++ baT (dg y) ++ ⟨#[32]⟩ ++ baT (mkB b) ++ ⟨#[32]⟩ ++ baT (dg z))) rfl (by kernel_rfl) (by kernel_rfl) (by kernel_rfl) (by kernel_rfl) (fun _ _ _ h => h) (Or.inl ⟨by rfl, ?_⟩) (by assumption) ?_
    · intro W' hSw
      obtain ⟨l1, l2⟩ := HB.out W' hSw
      go_simp
    try simp only [Act.put, List.getElem_toArray, List.getElem_cons_zero, List.getElem_cons_succ, List.setIfInBounds_toArray, List.set_cons_zero, List.set_cons_succ]
    refine AnyL.take 20 (.string ((⟨#[112, 114, 105, 110, 116, 32]⟩ : ByteArray) ++ baT (dg x) ++ ⟨#[32]⟩ ++ baT (mkB a) ++ ⟨#[32]⟩ ++ baT (dg y) ++ ⟨#[32]⟩ ++ baT (mkB b) ++ ⟨#[32]⟩ ++ baT (dg z) ++ ⟨#[59]⟩)) rfl (by kernel_rfl) (by kernel_rfl) (by kernel_rfl) (by kernel_rfl) (fun _ _ _ h => h) (Or.inl ⟨by rfl, ?_⟩) (by assumption) ?_
    · intro W' hSw
      obtain ⟨l1, l2⟩ := HB.out W' hSw
      go_simp
    try simp only [Act.put, List.getElem_toArray, List.getElem_cons_zero, List.getElem_cons_succ, List.setIfInBounds_toArray, List.set_cons_zero, List.set_cons_succ]
    refine AnyL.both 21 27 (by kernel_rfl) rfl rfl (fun K hK => ?_) (fun K hK => ?_)
    · go_simp
      have eA : Below w5.heap.size w5 (u0.alloc (.cells (bytesRow ((⟨#[112, 114, 105, 110, 116, 32]⟩ : ByteArray) ++ baT (dg x) ++ ⟨#[32]⟩ ++ baT (mkB a) ++ ⟨#[32]⟩ ++ baT (dg y) ++ ⟨#[32]⟩ ++ baT (mkB b) ++ ⟨#[32]⟩ ++ baT (dg z) ++ ⟨#[59]⟩) (grownCap u0 (6 + (baT (dg x)).size + 1 + (baT (mkB a)).size + 1 + (baT (dg y)).size + 1 + (baT (mkB b)).size + 1 + (baT (dg z)).size + 1) 0 5)) 5 ((bytesRow ((⟨#[112, 114, 105, 110, 116, 32]⟩ : ByteArray) ++ baT (dg x) ++ ⟨#[32]⟩ ++ baT (mkB a) ++ ⟨#[32]⟩ ++ baT (dg y) ++ ⟨#[32]⟩ ++ baT (mkB b) ++ ⟨#[32]⟩ ++ baT (dg z) ++ ⟨#[59]⟩) (grownCap u0 (6 + (baT (dg x)).size + 1 + (baT (mkB a)).size + 1 + (baT (dg y)).size + 1 + (baT (mkB b)).size + 1 + (baT (dg z)).size + 1) 0 5)).size, (bytesRow ((⟨#[112, 114, 105, 110, 116, 32]⟩ : ByteArray) ++ baT (dg x) ++ ⟨#[32]⟩ ++ baT (mkB a) ++ ⟨#[32]⟩ ++ baT (dg y) ++ ⟨#[32]⟩ ++ baT (mkB b) ++ ⟨#[32]⟩ ++ baT (dg z) ++ ⟨#[59]⟩) (grownCap u0 (6 + (baT (dg x)).size + 1 + (baT (mkB a)).size + 1 + (baT (dg y)).size + 1 + (baT (mkB b)).size + 1 + (baT (dg z)).size + 1) 0 5)).size + 1))).drew := below_drw (hS0.alloc hS0.size _)
      have rA : Row (u0.alloc (.cells (bytesRow ((⟨#[112, 114, 105, 110, 116, 32]⟩ : ByteArray) ++ baT (dg x) ++ ⟨#[32]⟩ ++ baT (mkB a) ++ ⟨#[32]⟩ ++ baT (dg y) ++ ⟨#[32]⟩ ++ baT (mkB b) ++ ⟨#[32]⟩ ++ baT (dg z) ++ ⟨#[59]⟩) (grownCap u0 (6 + (baT (dg x)).size + 1 + (baT (mkB a)).size + 1 + (baT (dg y)).size + 1 + (baT (mkB b)).size + 1 + (baT (dg z)).size + 1) 0 5)) 5 ((bytesRow ((⟨#[112, 114, 105, 110, 116, 32]⟩ : ByteArray) ++ baT (dg x) ++ ⟨#[32]⟩ ++ baT (mkB a) ++ ⟨#[32]⟩ ++ baT (dg y) ++ ⟨#[32]⟩ ++ baT (mkB b) ++ ⟨#[32]⟩ ++ baT (dg z) ++ ⟨#[59]⟩) (grownCap u0 (6 + (baT (dg x)).size + 1 + (baT (mkB a)).size + 1 + (baT (dg y)).size + 1 + (baT (mkB b)).size + 1 + (baT (dg z)).size + 1) 0 5)).size, (bytesRow ((⟨#[112, 114, 105, 110, 116, 32]⟩ : ByteArray) ++ baT (dg x) ++ ⟨#[32]⟩ ++ baT (mkB a) ++ ⟨#[32]⟩ ++ baT (dg y) ++ ⟨#[32]⟩ ++ baT (mkB b) ++ ⟨#[32]⟩ ++ baT (dg z) ++ ⟨#[59]⟩) (grownCap u0 (6 + (baT (dg x)).size + 1 + (baT (mkB a)).size + 1 + (baT (dg y)).size + 1 + (baT (mkB b)).size + 1 + (baT (dg z)).size + 1) 0 5)).size + 1))).drew (some ⟨u0.heap.size, 0, none⟩) ((⟨#[112, 114, 105, 110, 116, 32]⟩ : ByteArray) ++ baT (dg x) ++ ⟨#[32]⟩ ++ baT (mkB a) ++ ⟨#[32]⟩ ++ baT (dg y) ++ ⟨#[32]⟩ ++ baT (mkB b) ++ ⟨#[32]⟩ ++ baT (dg z) ++ ⟨#[59]⟩).data.toList := row_bb u0 _ _
      obtain ⟨wa, hwa⟩ : ∃ wa, (u0.alloc (.cells (bytesRow ((⟨#[112, 114, 105, 110, 116, 32]⟩ : ByteArray) ++ baT (dg x) ++ ⟨#[32]⟩ ++ baT (mkB a) ++ ⟨#[32]⟩ ++ baT (dg y) ++ ⟨#[32]⟩ ++ baT (mkB b) ++ ⟨#[32]⟩ ++ baT (dg z) ++ ⟨#[59]⟩) (grownCap u0 (6 + (baT (dg x)).size + 1 + (baT (mkB a)).size + 1 + (baT (dg y)).size + 1 + (baT (mkB b)).size + 1 + (baT (dg z)).size + 1) 0 5)) 5 ((bytesRow ((⟨#[112, 114, 105, 110, 116, 32]⟩ : ByteArray) ++ baT (dg x) ++ ⟨#[32]⟩ ++ baT (mkB a) ++ ⟨#[32]⟩ ++ baT (dg y) ++ ⟨#[32]⟩ ++ baT (mkB b) ++ ⟨#[32]⟩ ++ baT (dg z) ++ ⟨#[59]⟩) (grownCap u0 (6 + (baT (dg x)).size + 1 + (baT (mkB a)).size + 1 + (baT (dg y)).size + 1 + (baT (mkB b)).size + 1 + (baT (dg z)).size + 1) 0 5)).size, (bytesRow ((⟨#[112, 114, 105, 110, 116, 32]⟩ : ByteArray) ++ baT (dg x) ++ ⟨#[32]⟩ ++ baT (mkB a) ++ ⟨#[32]⟩ ++ baT (dg y) ++ ⟨#[32]⟩ ++ baT (mkB b) ++ ⟨#[32]⟩ ++ baT (dg z) ++ ⟨#[59]⟩) (grownCap u0 (6 + (baT (dg x)).size + 1 + (baT (mkB a)).size + 1 + (baT (dg y)).size + 1 + (baT (mkB b)).size + 1 + (baT (dg z)).size + 1) 0 5)).size + 1))).drew = wa := ⟨_, rfl⟩
      rw [hwa] at eA rA ⊢
      clear hwa
      refine hK.out _ _ (fun _ => eA) ?_
      clear hK K
      try simp only [Act.put, List.getElem_toArray, List.getElem_cons_zero, List.getElem_cons_succ, List.setIfInBounds_toArray, List.set_cons_zero, List.set_cons_succ]
      refine AnyL.both 22 27 (by kernel_rfl) rfl rfl (fun K hK => ?_) (fun K hK => ?_)
      · go_simp
        go_at_call 13
        refine (HQ8.out wa _ _ (grownCap_ge _ _ _ _) (rA)).mono ?_
        rintro e5 w5 ⟨⟨F, f, G, g, rfl, hv⟩, eC⟩
        go_wp2_with fail
        have e5 := eA.trans (eC.mono (eA).size)
        refine hK.out _ _ (fun _ => e5) ?_
        clear hK K
        try simp only [Act.put, List.getElem_toArray, List.getElem_cons_zero, List.getElem_cons_succ, List.setIfInBounds_toArray, List.set_cons_zero, List.set_cons_succ]
        refine AnyL.take 23 (.tuple #[.agg #[.slice F 0 f, .slice G 1 g], .int .i64 0, .int .i64 0]) rfl (by kernel_rfl) (by kernel_rfl) (by kernel_rfl) (by kernel_rfl) (fun _ _ _ h => h) (Or.inl ⟨by rfl, ?_⟩) (by assumption) ?_
        · intro W' hSw
          obtain ⟨l1, l2⟩ := HB.out W' hSw
          go_simp
        try simp only [Act.put, List.getElem_toArray, List.getElem_cons_zero, List.getElem_cons_succ, List.setIfInBounds_toArray, List.set_cons_zero, List.set_cons_succ]
        refine AnyL.take 24 ((.agg #[.slice F 0 f, .slice G 1 g])) rfl (by kernel_rfl) (by kernel_rfl) (by kernel_rfl) (by kernel_rfl) (fun _ _ _ h => h) (Or.inl ⟨by rfl, ?_⟩) (by assumption) ?_
        · intro W' hSw
          obtain ⟨l1, l2⟩ := HB.out W' hSw
          go_simp
        try simp only [Act.put, List.getElem_toArray, List.getElem_cons_zero, List.getElem_cons_succ, List.setIfInBounds_toArray, List.set_cons_zero, List.set_cons_succ]
        refine AnyL.take 25 (.int .i64 0) rfl (by kernel_rfl) (by kernel_rfl) (by kernel_rfl) (by kernel_rfl) (fun _ _ _ h => h) (Or.inl ⟨by rfl, ?_⟩) (by assumption) ?_
        · intro W' hSw
          obtain ⟨l1, l2⟩ := HB.out W' hSw
          go_simp
        try simp only [Act.put, List.getElem_toArray, List.getElem_cons_zero, List.getElem_cons_succ, List.setIfInBounds_toArray, List.set_cons_zero, List.set_cons_succ]
        refine AnyL.take 26 (.int .i64 0) rfl (by kernel_rfl) (by kernel_rfl) (by kernel_rfl) (by kernel_rfl) (fun _ _ _ h => h) (Or.inl ⟨by rfl, ?_⟩) (by assumption) ?_
        · intro W' hSw
          obtain ⟨l1, l2⟩ := HB.out W' hSw
          go_simp
        try simp only [Act.put, List.getElem_toArray, List.getElem_cons_zero, List.getElem_cons_succ, List.setIfInBounds_toArray, List.set_cons_zero, List.set_cons_succ]
        refine AnyL.next 27 (by kernel_rfl) rfl (fun K hK => ?_)
        go_simp
        have e6 := e5.alloc e5.size P2
        have bx := heap_alloc_new w5 P2
        have hz6 := e5.size
        have hp6 := hv.pgv.below ((Below.refl w5.heap.size w5).alloc (Nat.le_refl _) P2) (Nat.le_refl _)
        obtain ⟨wc', hwc⟩ : ∃ wc, w5.alloc P2 = wc := ⟨_, rfl⟩
        rw [hwc] at e6 bx hp6 ⊢
        clear hwc
        obtain ⟨nb, hnb⟩ : ∃ nb, w5.heap.size = nb := ⟨_, rfl⟩
        rw [hnb] at bx hz6 hp6 ⊢
        refine hK.out _ _ (fun _ => e6) ?_
        clear hK K
        try simp only [Act.put, List.getElem_toArray, List.getElem_cons_zero, List.getElem_cons_succ, List.setIfInBounds_toArray, List.set_cons_zero, List.set_cons_succ]
        have b0 := box_cell bx 0
        have b1' := box_cell bx 1
        have fz0 := box_frozen bx 0
        have fz1 := box_frozen bx 1
        simp only [List.getElem?_toArray, List.getElem?_cons_succ, List.getElem?_cons_zero] at b0 b1'
        refine AnyL.next 28 (by kernel_rfl) rfl (fun K hK => ?_)
        go_simp
        have e7 := (Below.setCell (p := ⟨nb, 0, none⟩) e6 (by simp only; omega) (.slice F 0 f)).setCell (p := ⟨nb, 1, none⟩) (by simp only; omega) (.slice G 1 g)
        have x8 := two_cells (x := .slice F 0 f) (y := .slice G 1 g) bx
        have hp8 : PgV ((wc'.setCell ⟨nb, 0, none⟩ (.slice F 0 f)).setCell ⟨nb, 1, none⟩ (.slice G 1 g)).heap.size ((wc'.setCell ⟨nb, 0, none⟩ (.slice F 0 f)).setCell ⟨nb, 1, none⟩ (.slice G 1 g)) (.agg #[.slice F 0 f, .slice G 1 g]) _ := PgV.below hp6 (((Below.refl nb wc').setCell (p := ⟨nb, 0, none⟩) (Nat.le_refl _) (.slice F 0 f)).setCell (p := ⟨nb, 1, none⟩) (Nat.le_refl _) (.slice G 1 g)) (by have := lt_heap bx; simp; omega)
        obtain ⟨w8, hw8⟩ : ∃ w8, (wc'.setCell ⟨nb, 0, none⟩ (.slice F 0 f)).setCell ⟨nb, 1, none⟩ (.slice G 1 g) = w8 := ⟨_, rfl⟩
        rw [hw8] at e7 x8 hp8 ⊢
        clear hw8
        refine hK.out _ _ (fun _ => e7) ?_
        clear hK K
        try simp only [Act.put, List.getElem_toArray, List.getElem_cons_zero, List.getElem_cons_succ, List.setIfInBounds_toArray, List.set_cons_zero, List.set_cons_succ]
        refine AnyL.take 29 (.int .i64 0) rfl (by kernel_rfl) (by kernel_rfl) (by kernel_rfl) (by kernel_rfl) (fun _ _ _ h => h) (Or.inl ⟨by rfl, ?_⟩) (by assumption) ?_
        · intro W' hSw
          obtain ⟨l1, l2⟩ := HB.out W' hSw
          go_simp
        try simp only [Act.put, List.getElem_toArray, List.getElem_cons_zero, List.getElem_cons_succ, List.setIfInBounds_toArray, List.set_cons_zero, List.set_cons_succ]
        refine AnyL.next 30 (by kernel_rfl) rfl (fun K hK => ?_)
        go_simp
        refine hK.out _ _ (fun _ => e7) ?_
        clear hK K
        try simp only [Act.put, List.getElem_toArray, List.getElem_cons_zero, List.getElem_cons_succ, List.setIfInBounds_toArray, List.set_cons_zero, List.set_cons_succ]
        refine AnyL.done (by kernel_rfl) ?_
        go_wp2_with fail
        go_meet
        exact ⟨nb, F, f, G, g, rfl, rfl, rfl, x8, hp8, e7⟩
      · go_simp
        have e6 := eA.alloc eA.size P2
        have bx := heap_alloc_new wa P2
        have hz6 := eA.size
        have rB := rA.al2 P2
        obtain ⟨wc', hwc⟩ : ∃ wc, wa.alloc P2 = wc := ⟨_, rfl⟩
        rw [hwc] at e6 bx rB ⊢
        clear hwc
        obtain ⟨nb, hnb⟩ : ∃ nb, wa.heap.size = nb := ⟨_, rfl⟩
        rw [hnb] at bx hz6 ⊢
        refine hK.out _ _ (fun _ => e6) ?_
        clear hK K
        try simp only [Act.put, List.getElem_toArray, List.getElem_cons_zero, List.getElem_cons_succ, List.setIfInBounds_toArray, List.set_cons_zero, List.set_cons_succ]
        refine AnyL.next 22 (by kernel_rfl) rfl (fun K hK => ?_)
        go_simp
        go_at_call 13
        refine (HQ8.out wc' _ _ (grownCap_ge _ _ _ _) (rB)).mono ?_
        rintro e5 w5 ⟨⟨F, f, G, g, rfl, hv⟩, eC⟩
        go_wp2_with fail
        have e5 := e6.trans (eC.mono (e6).size)
        refine hK.out _ _ (fun _ => e5) ?_
        clear hK K
        try simp only [Act.put, List.getElem_toArray, List.getElem_cons_zero, List.getElem_cons_succ, List.setIfInBounds_toArray, List.set_cons_zero, List.set_cons_succ]
        refine AnyL.take 23 (.tuple #[.agg #[.slice F 0 f, .slice G 1 g], .int .i64 0, .int .i64 0]) rfl (by kernel_rfl) (by kernel_rfl) (by kernel_rfl) (by kernel_rfl) (fun _ _ _ h => h) (Or.inl ⟨by rfl, ?_⟩) (by assumption) ?_
        · intro W' hSw
          obtain ⟨l1, l2⟩ := HB.out W' hSw
          go_simp
        try simp only [Act.put, List.getElem_toArray, List.getElem_cons_zero, List.getElem_cons_succ, List.setIfInBounds_toArray, List.set_cons_zero, List.set_cons_succ]
        refine AnyL.take 24 ((.agg #[.slice F 0 f, .slice G 1 g])) rfl (by kernel_rfl) (by kernel_rfl) (by kernel_rfl) (by kernel_rfl) (fun _ _ _ h => h) (Or.inl ⟨by rfl, ?_⟩) (by assumption) ?_
        · intro W' hSw
          obtain ⟨l1, l2⟩ := HB.out W' hSw
          go_simp
        try simp only [Act.put, List.getElem_toArray, List.getElem_cons_zero, List.getElem_cons_succ, List.setIfInBounds_toArray, List.set_cons_zero, List.set_cons_succ]
        refine AnyL.take 25 (.int .i64 0) rfl (by kernel_rfl) (by kernel_rfl) (by kernel_rfl) (by kernel_rfl) (fun _ _ _ h => h) (Or.inl ⟨by rfl, ?_⟩) (by assumption) ?_
        · intro W' hSw
          obtain ⟨l1, l2⟩ := HB.out W' hSw
          go_simp
        try simp only [Act.put, List.getElem_toArray, List.getElem_cons_zero, List.getElem_cons_succ, List.setIfInBounds_toArray, List.set_cons_zero, List.set_cons_succ]
        refine AnyL.take 26 (.int .i64 0) rfl (by kernel_rfl) (by kernel_rfl) (by kernel_rfl) (by kernel_rfl) (fun _ _ _ h => h) (Or.inl ⟨by rfl, ?_⟩) (by assumption) ?_
        · intro W' hSw
          obtain ⟨l1, l2⟩ := HB.out W' hSw
          go_simp
        try simp only [Act.put, List.getElem_toArray, List.getElem_cons_zero, List.getElem_cons_succ, List.setIfInBounds_toArray, List.set_cons_zero, List.set_cons_succ]
        have bx' := (eC.block nb (lt_heap bx)).trans bx
        have b0 := box_cell bx' 0
        have b1' := box_cell bx' 1
        have fz0 := box_frozen bx' 0
        have fz1 := box_frozen bx' 1
        simp only [List.getElem?_toArray, List.getElem?_cons_succ, List.getElem?_cons_zero] at b0 b1'
        refine AnyL.next 28 (by kernel_rfl) rfl (fun K hK => ?_)
        go_simp
        have e7 := (Below.setCell (p := ⟨nb, 0, none⟩) e5 (by simp only; omega) (.slice F 0 f)).setCell (p := ⟨nb, 1, none⟩) (by simp only; omega) (.slice G 1 g)
        have x8 := two_cells (x := .slice F 0 f) (y := .slice G 1 g) bx'
        have hp8 : PgV ((w5.setCell ⟨nb, 0, none⟩ (.slice F 0 f)).setCell ⟨nb, 1, none⟩ (.slice G 1 g)).heap.size ((w5.setCell ⟨nb, 0, none⟩ (.slice F 0 f)).setCell ⟨nb, 1, none⟩ (.slice G 1 g)) (.agg #[.slice F 0 f, .slice G 1 g]) _ := (hv.kp (kp_two (x := .slice F 0 f) (y := .slice G 1 g) (lt_heap bx)) (Nat.le_refl _)).pgv
        obtain ⟨w8, hw8⟩ : ∃ w8, (w5.setCell ⟨nb, 0, none⟩ (.slice F 0 f)).setCell ⟨nb, 1, none⟩ (.slice G 1 g) = w8 := ⟨_, rfl⟩
        rw [hw8] at e7 x8 hp8 ⊢
        clear hw8
        refine hK.out _ _ (fun _ => e7) ?_
        clear hK K
        try simp only [Act.put, List.getElem_toArray, List.getElem_cons_zero, List.getElem_cons_succ, List.setIfInBounds_toArray, List.set_cons_zero, List.set_cons_succ]
        refine AnyL.take 29 (.int .i64 0) rfl (by kernel_rfl) (by kernel_rfl) (by kernel_rfl) (by kernel_rfl) (fun _ _ _ h => h) (Or.inl ⟨by rfl, ?_⟩) (by assumption) ?_
        · intro W' hSw
          obtain ⟨l1, l2⟩ := HB.out W' hSw
          go_simp
        try simp only [Act.put, List.getElem_toArray, List.getElem_cons_zero, List.getElem_cons_succ, List.setIfInBounds_toArray, List.set_cons_zero, List.set_cons_succ]
        refine AnyL.next 30 (by kernel_rfl) rfl (fun K hK => ?_)
        go_simp
        refine hK.out _ _ (fun _ => e7) ?_
        clear hK K
        try simp only [Act.put, List.getElem_toArray, List.getElem_cons_zero, List.getElem_cons_succ, List.setIfInBounds_toArray, List.set_cons_zero, List.set_cons_succ]
        refine AnyL.done (by kernel_rfl) ?_
        go_wp2_with fail
        go_meet
        exact ⟨nb, F, f, G, g, rfl, rfl, rfl, x8, hp8, e7⟩
    · go_simp
      have e6 : Below w5.heap.size w5 (u0.alloc P2) := hS0.alloc hS0.size _
      have bx : (u0.alloc P2).heap[u0.heap.size]? = some P2 := heap_alloc_new u0 P2
      have hz6 := hS0.size
      obtain ⟨wc', hwc⟩ : ∃ wc, u0.alloc P2 = wc := ⟨_, rfl⟩
      rw [hwc] at e6 bx ⊢
      clear hwc
      obtain ⟨nb, hnb⟩ : ∃ nb, u0.heap.size = nb := ⟨_, rfl⟩
      rw [hnb] at bx hz6 ⊢
      refine hK.out _ _ (fun _ => e6) ?_
      clear hK K
      try simp only [Act.put, List.getElem_toArray, List.getElem_cons_zero, List.getElem_cons_succ, List.setIfInBounds_toArray, List.set_cons_zero, List.set_cons_succ]
      refine AnyL.next 21 (by kernel_rfl) rfl (fun K hK => ?_)
      go_simp
      have eA : Below w5.heap.size w5 (wc'.alloc (.cells (bytesRow ((⟨#[112, 114, 105, 110, 116, 32]⟩ : ByteArray) ++ baT (dg x) ++ ⟨#[32]⟩ ++ baT (mkB a) ++ ⟨#[32]⟩ ++ baT (dg y) ++ ⟨#[32]⟩ ++ baT (mkB b) ++ ⟨#[32]⟩ ++ baT (dg z) ++ ⟨#[59]⟩) (grownCap wc' (6 + (baT (dg x)).size + 1 + (baT (mkB a)).size + 1 + (baT (dg y)).size + 1 + (baT (mkB b)).size + 1 + (baT (dg z)).size + 1) 0 5)) 5 ((bytesRow ((⟨#[112, 114, 105, 110, 116, 32]⟩ : ByteArray) ++ baT (dg x) ++ ⟨#[32]⟩ ++ baT (mkB a) ++ ⟨#[32]⟩ ++ baT (dg y) ++ ⟨#[32]⟩ ++ baT (mkB b) ++ ⟨#[32]⟩ ++ baT (dg z) ++ ⟨#[59]⟩) (grownCap wc' (6 + (baT (dg x)).size + 1 + (baT (mkB a)).size + 1 + (baT (dg y)).size + 1 + (baT (mkB b)).size + 1 + (baT (dg z)).size + 1) 0 5)).size, (bytesRow ((⟨#[112, 114, 105, 110, 116, 32]⟩ : ByteArray) ++ baT (dg x) ++ ⟨#[32]⟩ ++ baT (mkB a) ++ ⟨#[32]⟩ ++ baT (dg y) ++ ⟨#[32]⟩ ++ baT (mkB b) ++ ⟨#[32]⟩ ++ baT (dg z) ++ ⟨#[59]⟩) (grownCap wc' (6 + (baT (dg x)).size + 1 + (baT (mkB a)).size + 1 + (baT (dg y)).size + 1 + (baT (mkB b)).size + 1 + (baT (dg z)).size + 1) 0 5)).size + 1))).drew := below_drw (e6.alloc e6.size _)
      have rA : Row (wc'.alloc (.cells (bytesRow ((⟨#[112, 114, 105, 110, 116, 32]⟩ : ByteArray) ++ baT (dg x) ++ ⟨#[32]⟩ ++ baT (mkB a) ++ ⟨#[32]⟩ ++ baT (dg y) ++ ⟨#[32]⟩ ++ baT (mkB b) ++ ⟨#[32]⟩ ++ baT (dg z) ++ ⟨#[59]⟩) (grownCap wc' (6 + (baT (dg x)).size + 1 + (baT (mkB a)).size + 1 + (baT (dg y)).size + 1 + (baT (mkB b)).size + 1 + (baT (dg z)).size + 1) 0 5)) 5 ((bytesRow ((⟨#[112, 114, 105, 110, 116, 32]⟩ : ByteArray) ++ baT (dg x) ++ ⟨#[32]⟩ ++ baT (mkB a) ++ ⟨#[32]⟩ ++ baT (dg y) ++ ⟨#[32]⟩ ++ baT (mkB b) ++ ⟨#[32]⟩ ++ baT (dg z) ++ ⟨#[59]⟩) (grownCap wc' (6 + (baT (dg x)).size + 1 + (baT (mkB a)).size + 1 + (baT (dg y)).size + 1 + (baT (mkB b)).size + 1 + (baT (dg z)).size + 1) 0 5)).size, (bytesRow ((⟨#[112, 114, 105, 110, 116, 32]⟩ : ByteArray) ++ baT (dg x) ++ ⟨#[32]⟩ ++ baT (mkB a) ++ ⟨#[32]⟩ ++ baT (dg y) ++ ⟨#[32]⟩ ++ baT (mkB b) ++ ⟨#[32]⟩ ++ baT (dg z) ++ ⟨#[59]⟩) (grownCap wc' (6 + (baT (dg x)).size + 1 + (baT (mkB a)).size + 1 + (baT (dg y)).size + 1 + (baT (mkB b)).size + 1 + (baT (dg z)).size + 1) 0 5)).size + 1))).drew (some ⟨wc'.heap.size, 0, none⟩) ((⟨#[112, 114, 105, 110, 116, 32]⟩ : ByteArray) ++ baT (dg x) ++ ⟨#[32]⟩ ++ baT (mkB a) ++ ⟨#[32]⟩ ++ baT (dg y) ++ ⟨#[32]⟩ ++ baT (mkB b) ++ ⟨#[32]⟩ ++ baT (dg z) ++ ⟨#[59]⟩).data.toList := row_bb wc' _ _
      have bx : (wc'.alloc (.cells (bytesRow ((⟨#[112, 114, 105, 110, 116, 32]⟩ : ByteArray) ++ baT (dg x) ++ ⟨#[32]⟩ ++ baT (mkB a) ++ ⟨#[32]⟩ ++ baT (dg y) ++ ⟨#[32]⟩ ++ baT (mkB b) ++ ⟨#[32]⟩ ++ baT (dg z) ++ ⟨#[59]⟩) (grownCap wc' (6 + (baT (dg x)).size + 1 + (baT (mkB a)).size + 1 + (baT (dg y)).size + 1 + (baT (mkB b)).size + 1 + (baT (dg z)).size + 1) 0 5)) 5 ((bytesRow ((⟨#[112, 114, 105, 110, 116, 32]⟩ : ByteArray) ++ baT (dg x) ++ ⟨#[32]⟩ ++ baT (mkB a) ++ ⟨#[32]⟩ ++ baT (dg y) ++ ⟨#[32]⟩ ++ baT (mkB b) ++ ⟨#[32]⟩ ++ baT (dg z) ++ ⟨#[59]⟩) (grownCap wc' (6 + (baT (dg x)).size + 1 + (baT (mkB a)).size + 1 + (baT (dg y)).size + 1 + (baT (mkB b)).size + 1 + (baT (dg z)).size + 1) 0 5)).size, (bytesRow ((⟨#[112, 114, 105, 110, 116, 32]⟩ : ByteArray) ++ baT (dg x) ++ ⟨#[32]⟩ ++ baT (mkB a) ++ ⟨#[32]⟩ ++ baT (dg y) ++ ⟨#[32]⟩ ++ baT (mkB b) ++ ⟨#[32]⟩ ++ baT (dg z) ++ ⟨#[59]⟩) (grownCap wc' (6 + (baT (dg x)).size + 1 + (baT (mkB a)).size + 1 + (baT (dg y)).size + 1 + (baT (mkB b)).size + 1 + (baT (dg z)).size + 1) 0 5)).size + 1))).drew.heap[nb]? = some P2 := (Below.heap_alloc wc' _ _ (lt_heap bx)).trans bx
      obtain ⟨wa, hwa⟩ : ∃ wa, (wc'.alloc (.cells (bytesRow ((⟨#[112, 114, 105, 110, 116, 32]⟩ : ByteArray) ++ baT (dg x) ++ ⟨#[32]⟩ ++ baT (mkB a) ++ ⟨#[32]⟩ ++ baT (dg y) ++ ⟨#[32]⟩ ++ baT (mkB b) ++ ⟨#[32]⟩ ++ baT (dg z) ++ ⟨#[59]⟩) (grownCap wc' (6 + (baT (dg x)).size + 1 + (baT (mkB a)).size + 1 + (baT (dg y)).size + 1 + (baT (mkB b)).size + 1 + (baT (dg z)).size + 1) 0 5)) 5 ((bytesRow ((⟨#[112, 114, 105, 110, 116, 32]⟩ : ByteArray) ++ baT (dg x) ++ ⟨#[32]⟩ ++ baT (mkB a) ++ ⟨#[32]⟩ ++ baT (dg y) ++ ⟨#[32]⟩ ++ baT (mkB b) ++ ⟨#[32]⟩ ++ baT (dg z) ++ ⟨#[59]⟩) (grownCap wc' (6 + (baT (dg x)).size + 1 + (baT (mkB a)).size + 1 + (baT (dg y)).size + 1 + (baT (mkB b)).size + 1 + (baT (dg z)).size + 1) 0 5)).size, (bytesRow ((⟨#[112, 114, 105, 110, 116, 32]⟩ : ByteArray) ++ baT (dg x) ++ ⟨#[32]⟩ ++ baT (mkB a) ++ ⟨#[32]⟩ ++ baT (dg y) ++ ⟨#[32]⟩ ++ baT (mkB b) ++ ⟨#[32]⟩ ++ baT (dg z) ++ ⟨#[59]⟩) (grownCap wc' (6 + (baT (dg x)).size + 1 + (baT (mkB a)).size + 1 + (baT (dg y)).size + 1 + (baT (mkB b)).size + 1 + (baT (dg z)).size + 1) 0 5)).size + 1))).drew = wa := ⟨_, rfl⟩
      rw [hwa] at eA rA bx ⊢
      clear hwa
      refine hK.out _ _ (fun _ => eA) ?_
      clear hK K
      try simp only [Act.put, List.getElem_toArray, List.getElem_cons_zero, List.getElem_cons_succ, List.setIfInBounds_toArray, List.set_cons_zero, List.set_cons_succ]
      refine AnyL.next 22 (by kernel_rfl) rfl (fun K hK => ?_)
      go_simp
      go_at_call 13
      refine (HQ8.out wa _ _ (grownCap_ge _ _ _ _) (rA)).mono ?_
      rintro e5 w5 ⟨⟨F, f, G, g, rfl, hv⟩, eC⟩
      go_wp2_with fail
      have e5 := eA.trans (eC.mono (eA).size)
      refine hK.out _ _ (fun _ => e5) ?_
      clear hK K
      try simp only [Act.put, List.getElem_toArray, List.getElem_cons_zero, List.getElem_cons_succ, List.setIfInBounds_toArray, List.set_cons_zero, List.set_cons_succ]
      refine AnyL.take 23 (.tuple #[.agg #[.slice F 0 f, .slice G 1 g], .int .i64 0, .int .i64 0]) rfl (by kernel_rfl) (by kernel_rfl) (by kernel_rfl) (by kernel_rfl) (fun _ _ _ h => h) (Or.inl ⟨by rfl, ?_⟩) (by assumption) ?_
      · intro W' hSw
        obtain ⟨l1, l2⟩ := HB.out W' hSw
        go_simp
      try simp only [Act.put, List.getElem_toArray, List.getElem_cons_zero, List.getElem_cons_succ, List.setIfInBounds_toArray, List.set_cons_zero, List.set_cons_succ]
      refine AnyL.take 24 ((.agg #[.slice F 0 f, .slice G 1 g])) rfl (by kernel_rfl) (by kernel_rfl) (by kernel_rfl) (by kernel_rfl) (fun _ _ _ h => h) (Or.inl ⟨by rfl, ?_⟩) (by assumption) ?_
      · intro W' hSw
        obtain ⟨l1, l2⟩ := HB.out W' hSw
        go_simp
      try simp only [Act.put, List.getElem_toArray, List.getElem_cons_zero, List.getElem_cons_succ, List.setIfInBounds_toArray, List.set_cons_zero, List.set_cons_succ]
      refine AnyL.take 25 (.int .i64 0) rfl (by kernel_rfl) (by kernel_rfl) (by kernel_rfl) (by kernel_rfl) (fun _ _ _ h => h) (Or.inl ⟨by rfl, ?_⟩) (by assumption) ?_
      · intro W' hSw
        obtain ⟨l1, l2⟩ := HB.out W' hSw
        go_simp
      try simp only [Act.put, List.getElem_toArray, List.getElem_cons_zero, List.getElem_cons_succ, List.setIfInBounds_toArray, List.set_cons_zero, List.set_cons_succ]
      refine AnyL.take 26 (.int .i64 0) rfl (by kernel_rfl) (by kernel_rfl) (by kernel_rfl) (by kernel_rfl) (fun _ _ _ h => h) (Or.inl ⟨by rfl, ?_⟩) (by assumption) ?_
      · intro W' hSw
        obtain ⟨l1, l2⟩ := HB.out W' hSw
        go_simp
      try simp only [Act.put, List.getElem_toArray, List.getElem_cons_zero, List.getElem_cons_succ, List.setIfInBounds_toArray, List.set_cons_zero, List.set_cons_succ]
      have bx' := (eC.block nb (lt_heap bx)).trans bx
      have b0 := box_cell bx' 0
      have b1' := box_cell bx' 1
      have fz0 := box_frozen bx' 0
      have fz1 := box_frozen bx' 1
      simp only [List.getElem?_toArray, List.getElem?_cons_succ, List.getElem?_cons_zero] at b0 b1'
      refine AnyL.next 28 (by kernel_rfl) rfl (fun K hK => ?_)
      go_simp
      have e7 := (Below.setCell (p := ⟨nb, 0, none⟩) e5 (by simp only; omega) (.slice F 0 f)).setCell (p := ⟨nb, 1, none⟩) (by simp only; omega) (.slice G 1 g)
      have x8 := two_cells (x := .slice F 0 f) (y := .slice G 1 g) bx'
      have hp8 : PgV ((w5.setCell ⟨nb, 0, none⟩ (.slice F 0 f)).setCell ⟨nb, 1, none⟩ (.slice G 1 g)).heap.size ((w5.setCell ⟨nb, 0, none⟩ (.slice F 0 f)).setCell ⟨nb, 1, none⟩ (.slice G 1 g)) (.agg #[.slice F 0 f, .slice G 1 g]) _ := (hv.kp (kp_two (x := .slice F 0 f) (y := .slice G 1 g) (lt_heap bx)) (Nat.le_refl _)).pgv
      obtain ⟨w8, hw8⟩ : ∃ w8, (w5.setCell ⟨nb, 0, none⟩ (.slice F 0 f)).setCell ⟨nb, 1, none⟩ (.slice G 1 g) = w8 := ⟨_, rfl⟩
      rw [hw8] at e7 x8 hp8 ⊢
      clear hw8
      refine hK.out _ _ (fun _ => e7) ?_
      clear hK K
      try simp only [Act.put, List.getElem_toArray, List.getElem_cons_zero, List.getElem_cons_succ, List.setIfInBounds_toArray, List.set_cons_zero, List.set_cons_succ]
      refine AnyL.take 29 (.int .i64 0) rfl (by kernel_rfl) (by kernel_rfl) (by kernel_rfl) (by kernel_rfl) (fun _ _ _ h => h) (Or.inl ⟨by rfl, ?_⟩) (by assumption) ?_
      · intro W' hSw
        obtain ⟨l1, l2⟩ := HB.out W' hSw
        go_simp
      try simp only [Act.put, List.getElem_toArray, List.getElem_cons_zero, List.getElem_cons_succ, List.setIfInBounds_toArray, List.set_cons_zero, List.set_cons_succ]
      refine AnyL.next 30 (by kernel_rfl) rfl (fun K hK => ?_)
      go_simp
      refine hK.out _ _ (fun _ => e7) ?_
      clear hK K
      try simp only [Act.put, List.getElem_toArray, List.getElem_cons_zero, List.getElem_cons_succ, List.setIfInBounds_toArray, List.set_cons_zero, List.set_cons_succ]
      refine AnyL.done (by kernel_rfl) ?_
      go_wp2_with fail
      go_meet
      exact ⟨nb, F, f, G, g, rfl, rfl, rfl, x8, hp8, e7⟩
  case rest =>
  obtain ⟨nb8, F8', f8', G8', g8', rfl, rfl, rfl, P8, hp8, eM⟩ := hcut
  obtain ⟨u8, rfl⟩ : ∃ u, u = wc := ⟨_, rfl⟩
  have E8 : Below u2.heap.size u2 u8 := E5.trans (eM.mono E5.size)
  have F8 := F5.below eM
  clear eM
  go_upto_region 9 with fail
  go_cut [19, 20, 21] (fun p n e wx => Made u8 wx (pE (eLe x y z a b)) p n e)
  case first =>
    have HB := Lib.hid (fun w' (hb : Below u8.heap.size u8 w') => HM.out w' (E8.trans (hb.mono E8.size)))
    have hS0 : Below u8.heap.size u8 u8.drew := below_drw (Below.refl _ _)
    refine wp_region_late (fun w' => Below u8.heap.size u8 w') 27 (by kernel_rfl) ?_
    obtain ⟨zu, hzu⟩ : ∃ n, u8.heap.size = n := ⟨_, rfl⟩
    obtain ⟨u0, hu0⟩ : ∃ x, u8.drew = x := ⟨_, rfl⟩
    rw [hu0] at hS0 ⊢
    clear hu0
    refine AnyL.take 0 (.string (baT (dg x))) rfl (by kernel_rfl) (by kernel_rfl) (by kernel_rfl) (by kernel_rfl) (fun _ _ _ h => h) (Or.inl ⟨by rfl, ?_⟩) (by assumption) ?_
    · intro W' hSw
      obtain ⟨l1, l2⟩ := HB.out W' hSw
      go_simp
    try simp only [Act.put, List.getElem_toArray, List.getElem_cons_zero, List.setIfInBounds_toArray, List.set_cons_zero, List.set_cons_succ]
    refine AnyL.take 1 (.string ((⟨#[112, 114, 105, 110, 116, 32, 40]⟩ : ByteArray) ++ baT (dg x))) rfl (by kernel_rfl) (by kernel_rfl) (by kernel_rfl) (by kernel_rfl) (fun _ _ _ h => h) (Or.inl ⟨by rfl, ?_⟩) (by assumption) ?_
    · intro W' hSw
      obtain ⟨l1, l2⟩ := HB.out W' hSw
      go_simp
    try simp only [Act.put, List.getElem_toArray, List.getElem_cons_zero, List.getElem_cons_succ, List.setIfInBounds_toArray, List.set_cons_zero, List.set_cons_succ]
    refine AnyL.take 2 (.slice (some ⟨n1, 0, none⟩) 9 9) rfl (by kernel_rfl) (by kernel_rfl) (by kernel_rfl) (by kernel_rfl) (fun _ _ _ h => h) (Or.inl ⟨by rfl, ?_⟩) (by assumption) ?_
    · intro W' hSw
      obtain ⟨l1, l2⟩ := HB.out W' hSw
      go_simp
    try simp only [Act.put, List.getElem_toArray, List.getElem_cons_zero, List.getElem_cons_succ, List.setIfInBounds_toArray, List.set_cons_zero, List.set_cons_succ]
    refine AnyL.take 3 (.int .i64 a) rfl (by kernel_rfl) (by kernel_rfl) (by kernel_rfl) (by kernel_rfl) (fun _ _ _ h => h) (Or.inl ⟨by rfl, ?_⟩) (by assumption) ?_
    · intro W' hSw
      obtain ⟨l1, l2⟩ := HB.out W' hSw
      go_simp
    try simp only [Act.put, List.getElem_toArray, List.getElem_cons_zero, List.getElem_cons_succ, List.setIfInBounds_toArray, List.set_cons_zero, List.set_cons_succ]
    refine AnyL.take 4 (.pointer (some ⟨n1, a, none⟩)) rfl (by kernel_rfl) (by kernel_rfl) (by kernel_rfl) (by kernel_rfl) (fun _ _ _ h => h) (Or.inl ⟨by rfl, ?_⟩) (by assumption) ?_
    · intro W' hSw
      obtain ⟨l1, l2⟩ := HB.out W' hSw
      go_simp
    try simp only [Act.put, List.getElem_toArray, List.getElem_cons_zero, List.getElem_cons_succ, List.setIfInBounds_toArray, List.set_cons_zero, List.set_cons_succ]
    refine AnyL.take 5 (.string (baT (mkB a))) rfl (by kernel_rfl) (by kernel_rfl) (by kernel_rfl) (by kernel_rfl) (fun _ _ _ h => h) (Or.inl ⟨by rfl, ?_⟩) (by assumption) ?_
    · intro W' hSw
      obtain ⟨l1, l2⟩ := HB.out W' hSw
      go_simp
    try simp only [Act.put, List.getElem_toArray, List.getElem_cons_zero, List.getElem_cons_succ, List.setIfInBounds_toArray, List.set_cons_zero, List.set_cons_succ]
    refine AnyL.take 6 (.string ((⟨#[112, 114, 105, 110, 116, 32, 40]⟩ : ByteArray) ++ baT (dg x) ++ baT (mkB a))) rfl (by kernel_rfl) (by kernel_rfl) (by kernel_rfl) (by kernel_rfl) (fun _ _ _ h => h) (Or.inl ⟨by rfl, ?_⟩) (by assumption) ?_
    · intro W' hSw
      obtain ⟨l1, l2⟩ := HB.out W' hSw
      go_simp
    try simp only [Act.put, List.getElem_toArray, List.getElem_cons_zero, List.getElem_cons_succ, List.setIfInBounds_toArray, List.set_cons_zero, List.set_cons_succ]
    refine AnyL.take 7 (.string (baT (dg y))) rfl (by kernel_rfl) (by kernel_rfl) (by kernel_rfl) (by kernel_rfl) (fun _ _ _ h => h) (Or.inl ⟨by rfl, ?_⟩) (by assumption) ?_
    · intro W' hSw
      obtain ⟨l1, l2⟩ := HB.out W' hSw
      go_simp
    try simp only [Act.put, List.getElem_toArray, List.getElem_cons_zero, List.getElem_cons_succ, List.setIfInBounds_toArray, List.set_cons_zero, List.set_cons_succ]
    refine AnyL.take 8 (.string ((⟨#[112, 114, 105, 110, 116, 32, 40]⟩ : ByteArray) ++ baT (dg x) ++ baT (mkB a) ++ baT (dg y))) rfl (by kernel_rfl) (by kernel_rfl) (by kernel_rfl) (by kernel_rfl) (fun _ _ _ h => h) (Or.inl ⟨by rfl, ?_⟩) (by assumption) ?_
    · intro W' hSw
      obtain ⟨l1, l2⟩ := HB.out W' hSw
      go_simp
    try simp only [Act.put, List.getElem_toArray, List.getElem_cons_zero, List.getElem_cons_succ, List.setIfInBounds_toArray, List.set_cons_zero, List.set_cons_succ]
    refine AnyL.take 9 (.string ((⟨#[112, 114, 105, 110, 116, 32, 40]⟩ : ByteArray) ++ baT (dg x) ++ baT (mkB a) ++ baT (dg y) ++ ⟨#[41]⟩)) rfl (by kernel_rfl) (by kernel_rfl) (by kernel_rfl) (by kernel_rfl) (fun _ _ _ h => h) (Or.inl ⟨by rfl, ?_⟩) (by assumption) ?_
    · intro W' hSw
      obtain ⟨l1, l2⟩ := HB.out W' hSw
      go_simp
    try simp only [Act.put, List.getElem_toArray, List.getElem_cons_zero, List.getElem_cons_succ, List.setIfInBounds_toArray, List.set_cons_zero, List.set_cons_succ]
    refine AnyL.take 10 (.slice (some ⟨n1, 0, none⟩) 9 9) rfl (by kernel_rfl) (by kernel_rfl) (by kernel_rfl) (by kernel_rfl) (fun _ _ _ h => h) (Or.inl ⟨by rfl, ?_⟩) (by assumption) ?_
    · intro W' hSw
      obtain ⟨l1, l2⟩ := HB.out W' hSw
      go_simp
    try simp only [Act.put, List.getElem_toArray, List.getElem_cons_zero, List.getElem_cons_succ, List.setIfInBounds_toArray, List.set_cons_zero, List.set_cons_succ]
    refine AnyL.take 11 (.int .i64 b) rfl (by kernel_rfl) (by kernel_rfl) (by kernel_rfl) (by kernel_rfl) (fun _ _ _ h => h) (Or.inl ⟨by rfl, ?_⟩) (by assumption) ?_
    · intro W' hSw
      obtain ⟨l1, l2⟩ := HB.out W' hSw
      go_simp
    try simp only [Act.put, List.getElem_toArray, List.getElem_cons_zero, List.getElem_cons_succ, List.setIfInBounds_toArray, List.set_cons_zero, List.set_cons_succ]
    refine AnyL.take 12 (.pointer (some ⟨n1, b, none⟩)) rfl (by kernel_rfl) (by kernel_rfl) (by kernel_rfl) (by kernel_rfl) (fun _ _ _ h => h) (Or.inl ⟨by rfl, ?_⟩) (by assumption) ?_
    · intro W' hSw
      obtain ⟨l1, l2⟩ := HB.out W' hSw
      go_simp
    try simp only [Act.put, List.getElem_toArray, List.getElem_cons_zero, List.getElem_cons_succ, List.setIfInBounds_toArray, List.set_cons_zero, List.set_cons_succ]
    refine AnyL.take 13 (.string (baT (mkB b))) rfl (by kernel_rfl) (by kernel_rfl) (by kernel_rfl) (by kernel_rfl) (fun _ _ _ h => h) (Or.inl ⟨by rfl, ?_⟩) (by assumption) ?_
    · intro W' hSw
      obtain ⟨l1, l2⟩ := HB.out W' hSw
      go_simp
    try simp only [Act.put, List.getElem_toArray, List.getElem_cons_zero, List.getElem_cons_succ, List.setIfInBounds_toArray, List.set_cons_zero, List.set_cons_succ]
    refine AnyL.take 14 (.string ((⟨#[112, 114, 105, 110, 116, 32, 40]⟩ : ByteArray) ++ baT (dg x) ++ baT (mkB a) ++ baT (dg y) ++ ⟨#[41]⟩ ++ baT (mkB b))) rfl (by kernel_rfl) (by kernel_rfl) (by kernel_rfl) (by kernel_rfl) (fun _ _ _ h => h) (Or.inl ⟨by rfl, ?_⟩) (by assumption) ?_
    · intro W' hSw
      obtain ⟨l1, l2⟩ := HB.out W' hSw
      go_simp
    try simp only [Act.put, List.getElem_toArray, List.getElem_cons_zero, List.getElem_cons_succ, List.setIfInBounds_toArray, List.set_cons_zero, List.set_cons_succ]
    refine AnyL.take 15 (.string (baT (dg z))) rfl (by kernel_rfl) (by kernel_rfl) (by kernel_rfl) (by kernel_rfl) (fun _ _ _ h => h) (Or.inl ⟨by rfl, ?_⟩) (by assumption) ?_
    · intro W' hSw
      obtain ⟨l1, l2⟩ := HB.out W' hSw
      go_simp
    try simp only [Act.put, List.getElem_toArray, List.getElem_cons_zero, List.getElem_cons_succ, List.setIfInBounds_toArray, List.set_cons_zero, List.set_cons_succ]
    refine AnyL.take 16 (.string ((⟨#[112, 114, 105, 110, 116, 32, 40]⟩ : ByteArray) ++ baT (dg x) ++ baT (mkB a) ++ baT (dg y) ++ ⟨#[41]⟩ ++ baT (mkB b) ++ baT (dg z))) rfl (by kernel_rfl) (by kernel_rfl) (by kernel_rfl) (by kernel_rfl) (fun _ _ _ h => h) (Or.inl ⟨by rfl, ?_⟩) (by assumption) ?_
    · intro W' hSw
      obtain ⟨l1, l2⟩ := HB.out W' hSw
      go_simp
    try simp only [Act.put, List.getElem_toArray, List.getElem_cons_zero, List.getElem_cons_succ, List.setIfInBounds_toArray, List.set_cons_zero, List.set_cons_succ]
    refine AnyL.take 17 (.string ((⟨#[112, 114, 105, 110, 116, 32, 40]⟩ : ByteArray) ++ baT (dg x) ++ baT (mkB a) ++ baT (dg y) ++ ⟨#[41]⟩ ++ baT (mkB b) ++ baT (dg z) ++ ⟨#[59]⟩)) rfl (by kernel_rfl) (by kernel_rfl) (by kernel_rfl) (by kernel_rfl) (fun _ _ _ h => h) (Or.inl ⟨by rfl, ?_⟩) (by assumption) ?_
    · intro W' hSw
      obtain ⟨l1, l2⟩ := HB.out W' hSw
      go_simp
    try simp only [Act.put, List.getElem_toArray, List.getElem_cons_zero, List.getElem_cons_succ, List.setIfInBounds_toArray, List.set_cons_zero, List.set_cons_succ]
    refine AnyL.both 18 24 (by kernel_rfl) rfl rfl (fun K hK => ?_) (fun K hK => ?_)
    · go_simp
      have eA : Below u8.heap.size u8 (u0.alloc (.cells (bytesRow ((⟨#[112, 114, 105, 110, 116, 32, 40]⟩ : ByteArray) ++ baT (dg x) ++ baT (mkB a) ++ baT (dg y) ++ ⟨#[41]⟩ ++ baT (mkB b) ++ baT (dg z) ++ ⟨#[59]⟩) (grownCap u0 (7 + (baT (dg x)).size + (baT (mkB a)).size + (baT (dg y)).size + 1 + (baT (mkB b)).size + (baT (dg z)).size + 1) 0 5)) 5 ((bytesRow ((⟨#[112, 114, 105, 110, 116, 32, 40]⟩ : ByteArray) ++ baT (dg x) ++ baT (mkB a) ++ baT (dg y) ++ ⟨#[41]⟩ ++ baT (mkB b) ++ baT (dg z) ++ ⟨#[59]⟩) (grownCap u0 (7 + (baT (dg x)).size + (baT (mkB a)).size + (baT (dg y)).size + 1 + (baT (mkB b)).size + (baT (dg z)).size + 1) 0 5)).size, (bytesRow ((⟨#[112, 114, 105, 110, 116, 32, 40]⟩ : ByteArray) ++ baT (dg x) ++ baT (mkB a) ++ baT (dg y) ++ ⟨#[41]⟩ ++ baT (mkB b) ++ baT (dg z) ++ ⟨#[59]⟩) (grownCap u0 (7 + (baT (dg x)).size + (baT (mkB a)).size + (baT (dg y)).size + 1 + (baT (mkB b)).size + (baT (dg z)).size + 1) 0 5)).size + 1))).drew := below_drw (hS0.alloc hS0.size _)
      have rA : Row (u0.alloc (.cells (bytesRow ((⟨#[112, 114, 105, 110, 116, 32, 40]⟩ : ByteArray) ++ baT (dg x) ++ baT (mkB a) ++ baT (dg y) ++ ⟨#[41]⟩ ++ baT (mkB b) ++ baT (dg z) ++ ⟨#[59]⟩) (grownCap u0 (7 + (baT (dg x)).size + (baT (mkB a)).size + (baT (dg y)).size + 1 + (baT (mkB b)).size + (baT (dg z)).size + 1) 0 5)) 5 ((bytesRow ((⟨#[112, 114, 105, 110, 116, 32, 40]⟩ : ByteArray) ++ baT (dg x) ++ baT (mkB a) ++ baT (dg y) ++ ⟨#[41]⟩ ++ baT (mkB b) ++ baT (dg z) ++ ⟨#[59]⟩) (grownCap u0 (7 + (baT (dg x)).size + (baT (mkB a)).size + (baT (dg y)).size + 1 + (baT (mkB b)).size + (baT (dg z)).size + 1) 0 5)).size, (bytesRow ((⟨#[112, 114, 105, 110, 116, 32, 40]⟩ : ByteArray) ++ baT (dg x) ++ baT (mkB a) ++ baT (dg y) ++ ⟨#[41]⟩ ++ baT (mkB b) ++ baT (dg z) ++ ⟨#[59]⟩) (grownCap u0 (7 + (baT (dg x)).size + (baT (mkB a)).size + (baT (dg y)).size + 1 + (baT (mkB b)).size + (baT (dg z)).size + 1) 0 5)).size + 1))).drew (some ⟨u0.heap.size, 0, none⟩) ((⟨#[112, 114, 105, 110, 116, 32, 40]⟩ : ByteArray) ++ baT (dg x) ++ baT (mkB a) ++ baT (dg y) ++ ⟨#[41]⟩ ++ baT (mkB b) ++ baT (dg z) ++ ⟨#[59]⟩).data.toList := row_bb u0 _ _
      obtain ⟨wa, hwa⟩ : ∃ wa, (u0.alloc (.cells (bytesRow ((⟨#[112, 114, 105, 110, 116, 32, 40]⟩ : ByteArray) ++ baT (dg x) ++ baT (mkB a) ++ baT (dg y) ++ ⟨#[41]⟩ ++ baT (mkB b) ++ baT (dg z) ++ ⟨#[59]⟩) (grownCap u0 (7 + (baT (dg x)).size + (baT (mkB a)).size + (baT (dg y)).size + 1 + (baT (mkB b)).size + (baT (dg z)).size + 1) 0 5)) 5 ((bytesRow ((⟨#[112, 114, 105, 110, 116, 32, 40]⟩ : ByteArray) ++ baT (dg x) ++ baT (mkB a) ++ baT (dg y) ++ ⟨#[41]⟩ ++ baT (mkB b) ++ baT (dg z) ++ ⟨#[59]⟩) (grownCap u0 (7 + (baT (dg x)).size + (baT (mkB a)).size + (baT (dg y)).size + 1 + (baT (mkB b)).size + (baT (dg z)).size + 1) 0 5)).size, (bytesRow ((⟨#[112, 114, 105, 110, 116, 32, 40]⟩ : ByteArray) ++ baT (dg x) ++ baT (mkB a) ++ baT (dg y) ++ ⟨#[41]⟩ ++ baT (mkB b) ++ baT (dg z) ++ ⟨#[59]⟩) (grownCap u0 (7 + (baT (dg x)).size + (baT (mkB a)).size + (baT (dg y)).size + 1 + (baT (mkB b)).size + (baT (dg z)).size + 1) 0 5)).size + 1))).drew = wa := ⟨_, rfl⟩
      rw [hwa] at eA rA ⊢
      clear hwa
      refine hK.out _ _ (fun _ => eA) ?_
      clear hK K
      try simp only [Act.put, List.getElem_toArray, List.getElem_cons_zero, List.getElem_cons_succ, List.setIfInBounds_toArray, List.set_cons_zero, List.set_cons_succ]
      refine AnyL.both 19 24 (by kernel_rfl) rfl rfl (fun K hK => ?_) (fun K hK => ?_)
      · go_simp
        go_at_call 13
        refine (HQ9.out wa _ _ (grownCap_ge _ _ _ _) (rA)).mono ?_
        rintro e5 w5 ⟨⟨F, f, G, g, rfl, hv⟩, eC⟩
        go_wp2_with fail
        have e5 := eA.trans (eC.mono (eA).size)
        refine hK.out _ _ (fun _ => e5) ?_
        clear hK K
        try simp only [Act.put, List.getElem_toArray, List.getElem_cons_zero, List.getElem_cons_succ, List.setIfInBounds_toArray, List.set_cons_zero, List.set_cons_succ]
        refine AnyL.take 20 (.tuple #[.agg #[.slice F 0 f, .slice G 1 g], .int .i64 0, .int .i64 0]) rfl (by kernel_rfl) (by kernel_rfl) (by kernel_rfl) (by kernel_rfl) (fun _ _ _ h => h) (Or.inl ⟨by rfl, ?_⟩) (by assumption) ?_
        · intro W' hSw
          obtain ⟨l1, l2⟩ := HB.out W' hSw
          go_simp
        try simp only [Act.put, List.getElem_toArray, List.getElem_cons_zero, List.getElem_cons_succ, List.setIfInBounds_toArray, List.set_cons_zero, List.set_cons_succ]
        refine AnyL.take 21 ((.agg #[.slice F 0 f, .slice G 1 g])) rfl (by kernel_rfl) (by kernel_rfl) (by kernel_rfl) (by kernel_rfl) (fun _ _ _ h => h) (Or.inl ⟨by rfl, ?_⟩) (by assumption) ?_
        · intro W' hSw
          obtain ⟨l1, l2⟩ := HB.out W' hSw
          go_simp
        try simp only [Act.put, List.getElem_toArray, List.getElem_cons_zero, List.getElem_cons_succ, List.setIfInBounds_toArray, List.set_cons_zero, List.set_cons_succ]
        refine AnyL.take 22 (.int .i64 0) rfl (by kernel_rfl) (by kernel_rfl) (by kernel_rfl) (by kernel_rfl) (fun _ _ _ h => h) (Or.inl ⟨by rfl, ?_⟩) (by assumption) ?_
        · intro W' hSw
          obtain ⟨l1, l2⟩ := HB.out W' hSw
          go_simp
        try simp only [Act.put, List.getElem_toArray, List.getElem_cons_zero, List.getElem_cons_succ, List.setIfInBounds_toArray, List.set_cons_zero, List.set_cons_succ]
        refine AnyL.take 23 (.int .i64 0) rfl (by kernel_rfl) (by kernel_rfl) (by kernel_rfl) (by kernel_rfl) (fun _ _ _ h => h) (Or.inl ⟨by rfl, ?_⟩) (by assumption) ?_
        · intro W' hSw
          obtain ⟨l1, l2⟩ := HB.out W' hSw
          go_simp
        try simp only [Act.put, List.getElem_toArray, List.getElem_cons_zero, List.getElem_cons_succ, List.setIfInBounds_toArray, List.set_cons_zero, List.set_cons_succ]
        refine AnyL.next 24 (by kernel_rfl) rfl (fun K hK => ?_)
        go_simp
        have e6 := e5.alloc e5.size P2
        have bx := heap_alloc_new w5 P2
        have hz6 := e5.size
        have hp6 := hv.pgv.below ((Below.refl w5.heap.size w5).alloc (Nat.le_refl _) P2) (Nat.le_refl _)
        obtain ⟨wc', hwc⟩ : ∃ wc, w5.alloc P2 = wc := ⟨_, rfl⟩
        rw [hwc] at e6 bx hp6 ⊢
        clear hwc
        obtain ⟨nb, hnb⟩ : ∃ nb, w5.heap.size = nb := ⟨_, rfl⟩
        rw [hnb] at bx hz6 hp6 ⊢
        refine hK.out _ _ (fun _ => e6) ?_
        clear hK K
        try simp only [Act.put, List.getElem_toArray, List.getElem_cons_zero, List.getElem_cons_succ, List.setIfInBounds_toArray, List.set_cons_zero, List.set_cons_succ]
        have b0 := box_cell bx 0
        have b1' := box_cell bx 1
        have fz0 := box_frozen bx 0
        have fz1 := box_frozen bx 1
        simp only [List.getElem?_toArray, List.getElem?_cons_succ, List.getElem?_cons_zero] at b0 b1'
        refine AnyL.next 25 (by kernel_rfl) rfl (fun K hK => ?_)
        go_simp
        have e7 := (Below.setCell (p := ⟨nb, 0, none⟩) e6 (by simp only; omega) (.slice F 0 f)).setCell (p := ⟨nb, 1, none⟩) (by simp only; omega) (.slice G 1 g)
        have x8 := two_cells (x := .slice F 0 f) (y := .slice G 1 g) bx
        have hp8 : PgV ((wc'.setCell ⟨nb, 0, none⟩ (.slice F 0 f)).setCell ⟨nb, 1, none⟩ (.slice G 1 g)).heap.size ((wc'.setCell ⟨nb, 0, none⟩ (.slice F 0 f)).setCell ⟨nb, 1, none⟩ (.slice G 1 g)) (.agg #[.slice F 0 f, .slice G 1 g]) _ := PgV.below hp6 (((Below.refl nb wc').setCell (p := ⟨nb, 0, none⟩) (Nat.le_refl _) (.slice F 0 f)).setCell (p := ⟨nb, 1, none⟩) (Nat.le_refl _) (.slice G 1 g)) (by have := lt_heap bx; simp; omega)
        obtain ⟨w8, hw8⟩ : ∃ w8, (wc'.setCell ⟨nb, 0, none⟩ (.slice F 0 f)).setCell ⟨nb, 1, none⟩ (.slice G 1 g) = w8 := ⟨_, rfl⟩
        rw [hw8] at e7 x8 hp8 ⊢
        clear hw8
        refine hK.out _ _ (fun _ => e7) ?_
        clear hK K
        try simp only [Act.put, List.getElem_toArray, List.getElem_cons_zero, List.getElem_cons_succ, List.setIfInBounds_toArray, List.set_cons_zero, List.set_cons_succ]
        refine AnyL.take 26 (.int .i64 0) rfl (by kernel_rfl) (by kernel_rfl) (by kernel_rfl) (by kernel_rfl) (fun _ _ _ h => h) (Or.inl ⟨by rfl, ?_⟩) (by assumption) ?_
        · intro W' hSw
          obtain ⟨l1, l2⟩ := HB.out W' hSw
          go_simp
        try simp only [Act.put, List.getElem_toArray, List.getElem_cons_zero, List.getElem_cons_succ, List.setIfInBounds_toArray, List.set_cons_zero, List.set_cons_succ]
        refine AnyL.next 27 (by kernel_rfl) rfl (fun K hK => ?_)
        go_simp
        refine hK.out _ _ (fun _ => e7) ?_
        clear hK K
        try simp only [Act.put, List.getElem_toArray, List.getElem_cons_zero, List.getElem_cons_succ, List.setIfInBounds_toArray, List.set_cons_zero, List.set_cons_succ]
        refine AnyL.done (by kernel_rfl) ?_
        go_wp2_with fail
        go_meet
        exact ⟨nb, F, f, G, g, rfl, rfl, rfl, x8, hp8, e7⟩
      · go_simp
        have e6 := eA.alloc eA.size P2
        have bx := heap_alloc_new wa P2
        have hz6 := eA.size
        have rB := rA.al2 P2
        obtain ⟨wc', hwc⟩ : ∃ wc, wa.alloc P2 = wc := ⟨_, rfl⟩
        rw [hwc] at e6 bx rB ⊢
        clear hwc
        obtain ⟨nb, hnb⟩ : ∃ nb, wa.heap.size = nb := ⟨_, rfl⟩
        rw [hnb] at bx hz6 ⊢
        refine hK.out _ _ (fun _ => e6) ?_
        clear hK K
        try simp only [Act.put, List.getElem_toArray, List.getElem_cons_zero, List.getElem_cons_succ, List.setIfInBounds_toArray, List.set_cons_zero, List.set_cons_succ]
        refine AnyL.next 19 (by kernel_rfl) rfl (fun K hK => ?_)
        go_simp
        go_at_call 13
        refine (HQ9.out wc' _ _ (grownCap_ge _ _ _ _) (rB)).mono ?_
        rintro e5 w5 ⟨⟨F, f, G, g, rfl, hv⟩, eC⟩
        go_wp2_with fail
        have e5 := e6.trans (eC.mono (e6).size)
        refine hK.out _ _ (fun _ => e5) ?_
        clear hK K
        try simp only [Act.put, List.getElem_toArray, List.getElem_cons_zero, List.getElem_cons_succ, List.setIfInBounds_toArray, List.set_cons_zero, List.set_cons_succ]
        refine AnyL.take 20 (.tuple #[.agg #[.slice F 0 f, .slice G 1 g], .int .i64 0, .int .i64 0]) rfl (by kernel_rfl) (by kernel_rfl) (by kernel_rfl) (by kernel_rfl) (fun _ _ _ h => h) (Or.inl ⟨by rfl, ?_⟩) (by assumption) ?_
        · intro W' hSw
          obtain ⟨l1, l2⟩ := HB.out W' hSw
          go_simp
        try simp only [Act.put, List.getElem_toArray, List.getElem_cons_zero, List.getElem_cons_succ, List.setIfInBounds_toArray, List.set_cons_zero, List.set_cons_succ]
        refine AnyL.take 21 ((.agg #[.slice F 0 f, .slice G 1 g])) rfl (by kernel_rfl) (by kernel_rfl) (by kernel_rfl) (by kernel_rfl) (fun _ _ _ h => h) (Or.inl ⟨by rfl, ?_⟩) (by assumption) ?_
        · intro W' hSw
          obtain ⟨l1, l2⟩ := HB.out W' hSw
          go_simp
        try simp only [Act.put, List.getElem_toArray, List.getElem_cons_zero, List.getElem_cons_succ, List.setIfInBounds_toArray, List.set_cons_zero, List.set_cons_succ]
        refine AnyL.take 22 (.int .i64 0) rfl (by kernel_rfl) (by kernel_rfl) (by kernel_rfl) (by kernel_rfl) (fun _ _ _ h => h) (Or.inl ⟨by rfl, ?_⟩) (by assumption) ?_
        · intro W' hSw
          obtain ⟨l1, l2⟩ := HB.out W' hSw
          go_simp
        try simp only [Act.put, List.getElem_toArray, List.getElem_cons_zero, List.getElem_cons_succ, List.setIfInBounds_toArray, List.set_cons_zero, List.set_cons_succ]
        refine AnyL.take 23 (.int .i64 0) rfl (by kernel_rfl) (by kernel_rfl) (by kernel_rfl) (by kernel_rfl) (fun _ _ _ h => h) (Or.inl ⟨by rfl, ?_⟩) (by assumption) ?_
        · intro W' hSw
          obtain ⟨l1, l2⟩ := HB.out W' hSw
          go_simp
        try simp only [Act.put, List.getElem_toArray, List.getElem_cons_zero, List.getElem_cons_succ, List.setIfInBounds_toArray, List.set_cons_zero, List.set_cons_succ]
        have bx' := (eC.block nb (lt_heap bx)).trans bx
        have b0 := box_cell bx' 0
        have b1' := box_cell bx' 1
        have fz0 := box_frozen bx' 0
        have fz1 := box_frozen bx' 1
        simp only [List.getElem?_toArray, List.getElem?_cons_succ, List.getElem?_cons_zero] at b0 b1'
        refine AnyL.next 25 (by kernel_rfl) rfl (fun K hK => ?_)
        go_simp
        have e7 := (Below.setCell (p := ⟨nb, 0, none⟩) e5 (by simp only; omega) (.slice F 0 f)).setCell (p := ⟨nb, 1, none⟩) (by simp only; omega) (.slice G 1 g)
        have x8 := two_cells (x := .slice F 0 f) (y := .slice G 1 g) bx'
        have hp8 : PgV ((w5.setCell ⟨nb, 0, none⟩ (.slice F 0 f)).setCell ⟨nb, 1, none⟩ (.slice G 1 g)).heap.size ((w5.setCell ⟨nb, 0, none⟩ (.slice F 0 f)).setCell ⟨nb, 1, none⟩ (.slice G 1 g)) (.agg #[.slice F 0 f, .slice G 1 g]) _ := (hv.kp (kp_two (x := .slice F 0 f) (y := .slice G 1 g) (lt_heap bx)) (Nat.le_refl _)).pgv
        obtain ⟨w8, hw8⟩ : ∃ w8, (w5.setCell ⟨nb, 0, none⟩ (.slice F 0 f)).setCell ⟨nb, 1, none⟩ (.slice G 1 g) = w8 := ⟨_, rfl⟩
        rw [hw8] at e7 x8 hp8 ⊢
        clear hw8
        refine hK.out _ _ (fun _ => e7) ?_
        clear hK K
        try simp only [Act.put, List.getElem_toArray, List.getElem_cons_zero, List.getElem_cons_succ, List.setIfInBounds_toArray, List.set_cons_zero, List.set_cons_succ]
        refine AnyL.take 26 (.int .i64 0) rfl (by kernel_rfl) (by kernel_rfl) (by kernel_rfl) (by kernel_rfl) (fun _ _ _ h => h) (Or.inl ⟨by rfl, ?_⟩) (by assumption) ?_
        · intro W' hSw
          obtain ⟨l1, l2⟩ := HB.out W' hSw
          go_simp
        try simp only [Act.put, List.getElem_toArray, List.getElem_cons_zero, List.getElem_cons_succ, List.setIfInBounds_toArray, List.set_cons_zero, List.set_cons_succ]
        refine AnyL.next 27 (by kernel_rfl) rfl (fun K hK => ?_)
        go_simp
        refine hK.out _ _ (fun _ => e7) ?_
        clear hK K
        try simp only [Act.put, List.getElem_toArray, List.getElem_cons_zero, List.getElem_cons_succ, List.setIfInBounds_toArray, List.set_cons_zero, List.set_cons_succ]
        refine AnyL.done (by kernel_rfl) ?_
        go_wp2_with fail
        go_meet
        exact ⟨nb, F, f, G, g, rfl, rfl, rfl, x8, hp8, e7⟩
    · go_simp
      have e6 : Below u8.heap.size u8 (u0.alloc P2) := hS0.alloc hS0.size _
      have bx : (u0.alloc P2).heap[u0.heap.size]? = some P2 := heap_alloc_new u0 P2
      have hz6 := hS0.size
      obtain ⟨wc', hwc⟩ : ∃ wc, u0.alloc P2 = wc := ⟨_, rfl⟩
      rw [hwc] at e6 bx ⊢
      clear hwc
      obtain ⟨nb, hnb⟩ : ∃ nb, u0.heap.size = nb := ⟨_, rfl⟩
      rw [hnb] at bx hz6 ⊢
      refine hK.out _ _ (fun _ => e6) ?_
      clear hK K
      try simp only [Act.put, List.getElem_toArray, List.getElem_cons_zero, List.getElem_cons_succ, List.setIfInBounds_toArray, List.set_cons_zero, List.set_cons_succ]
      refine AnyL.next 18 (by kernel_rfl) rfl (fun K hK => ?_)
      go_simp
      have eA : Below u8.heap.size u8 (wc'.alloc (.cells (bytesRow ((⟨#[112, 114, 105, 110, 116, 32, 40]⟩ : ByteArray) ++ baT (dg x) ++ baT (mkB a) ++ baT (dg y) ++ ⟨#[41]⟩ ++ baT (mkB b) ++ baT (dg z) ++ ⟨#[59]⟩) (grownCap wc' (7 + (baT (dg x)).size + (baT (mkB a)).size + (baT (dg y)).size + 1 + (baT (mkB b)).size + (baT (dg z)).size + 1) 0 5)) 5 ((bytesRow ((⟨#[112, 114, 105, 110, 116, 32, 40]⟩ : ByteArray) ++ baT (dg x) ++ baT (mkB a) ++ baT (dg y) ++ ⟨#[41]⟩ ++ baT (mkB b) ++ baT (dg z) ++ ⟨#[59]⟩) (grownCap wc' (7 + (baT (dg x)).size + (baT (mkB a)).size + (baT (dg y)).size + 1 + (baT (mkB b)).size + (baT (dg z)).size + 1) 0 5)).size, (bytesRow ((⟨#[112, 114, 105, 110, 116, 32, 40]⟩ : ByteArray) ++ baT (dg x) ++ baT (mkB a) ++ baT (dg y) ++ ⟨#[41]⟩ ++ baT (mkB b) ++ baT (dg z) ++ ⟨#[59]⟩) (grownCap wc' (7 + (baT (dg x)).size + (baT (mkB a)).size + (baT (dg y)).size + 1 + (baT (mkB b)).size + (baT (dg z)).size + 1) 0 5)).size + 1))).drew := below_drw (e6.alloc e6.size _)
      have rA : Row (wc'.alloc (.cells (bytesRow ((⟨#[112, 114, 105, 110, 116, 32, 40]⟩ : ByteArray) ++ baT (dg x) ++ baT (mkB a) ++ baT (dg y) ++ ⟨#[41]⟩ ++ baT (mkB b) ++ baT (dg z) ++ ⟨#[59]⟩) (grownCap wc' (7 + (baT (dg x)).size + (baT (mkB a)).size + (baT (dg y)).size + 1 + (baT (mkB b)).size + (baT (dg z)).size + 1) 0 5)) 5 ((bytesRow ((⟨#[112, 114, 105, 110, 116, 32, 40]⟩ : ByteArray) ++ baT (dg x) ++ baT (mkB a) ++ baT (dg y) ++ ⟨#[41]⟩ ++ baT (mkB b) ++ baT (dg z) ++ ⟨#[59]⟩) (grownCap wc' (7 + (baT (dg x)).size + (baT (mkB a)).size + (baT (dg y)).size + 1 + (baT (mkB b)).size + (baT (dg z)).size + 1) 0 5)).size, (bytesRow ((⟨#[112, 114, 105, 110, 116, 32, 40]⟩ : ByteArray) ++ baT (dg x) ++ baT (mkB a) ++ baT (dg y) ++ ⟨#[41]⟩ ++ baT (mkB b) ++ baT (dg z) ++ ⟨#[59]⟩) (grownCap wc' (7 + (baT (dg x)).size + (baT (mkB a)).size + (baT (dg y)).size + 1 + (baT (mkB b)).size + (baT (dg z)).size + 1) 0 5)).size + 1))).drew (some ⟨wc'.heap.size, 0, none⟩) ((⟨#[112, 114, 105, 110, 116, 32, 40]⟩ : ByteArray) ++ baT (dg x) ++ baT (mkB a) ++ baT (dg y) ++ ⟨#[41]⟩ ++ baT (mkB b) ++ baT (dg z) ++ ⟨#[59]⟩).data.toList := row_bb wc' _ _
      have bx : (wc'.alloc (.cells (bytesRow ((⟨#[112, 114, 105, 110, 116, 32, 40]⟩ : ByteArray) ++ baT (dg x) ++ baT (mkB a) ++ baT (dg y) ++ ⟨#[41]⟩ ++ baT (mkB b) ++ baT (dg z) ++ ⟨#[59]⟩) (grownCap wc' (7 + (baT (dg x)).size + (baT (mkB a)).size + (baT (dg y)).size + 1 + (baT (mkB b)).size + (baT (dg z)).size + 1) 0 5)) 5 ((bytesRow ((⟨#[112, 114, 105, 110, 116, 32, 40]⟩ : ByteArray) ++ baT (dg x) ++ baT (mkB a) ++ baT (dg y) ++ ⟨#[41]⟩ ++ baT (mkB b) ++ baT (dg z) ++ ⟨#[59]⟩) (grownCap wc' (7 + (baT (dg x)).size + (baT (mkB a)).size + (baT (dg y)).size + 1 + (baT (mkB b)).size + (baT (dg z)).size + 1) 0 5)).size, (bytesRow ((⟨#[112, 114, 105, 110, 116, 32, 40]⟩ : ByteArray) ++ baT (dg x) ++ baT (mkB a) ++ baT (dg y) ++ ⟨#[41]⟩ ++ baT (mkB b) ++ baT (dg z) ++ ⟨#[59]⟩) (grownCap wc' (7 + (baT (dg x)).size + (baT (mkB a)).size + (baT (dg y)).size + 1 + (baT (mkB b)).size + (baT (dg z)).size + 1) 0 5)).size + 1))).drew.heap[nb]? = some P2 := (Below.heap_alloc wc' _ _ (lt_heap bx)).trans bx
      obtain ⟨wa, hwa⟩ : ∃ wa, (wc'.alloc (.cells (bytesRow ((⟨#[112, 114, 105, 110, 116, 32, 40]⟩ : ByteArray) ++ baT (dg x) ++ baT (mkB a) ++ baT (dg y) ++ ⟨#[41]⟩ ++ baT (mkB b) ++ baT (dg z) ++ ⟨#[59]⟩) (grownCap wc' (7 + (baT (dg x)).size + (baT (mkB a)).size + (baT (dg y)).size + 1 + (baT (mkB b)).size + (baT (dg z)).size + 1) 0 5)) 5 ((bytesRow ((⟨#[112, 114, 105, 110, 116, 32, 40]⟩ : ByteArray) ++ baT (dg x) ++ baT (mkB a) ++ baT (dg y) ++ ⟨#[41]⟩ ++ baT (mkB b) ++ baT (dg z) ++ ⟨#[59]⟩) (grownCap wc' (7 + (baT (dg x)).size + (baT (mkB a)).size + (baT (dg y)).size + 1 + (baT (mkB b)).size + (baT (dg z)).size + 1) 0 5)).size, (bytesRow ((⟨#[112, 114, 105, 110, 116, 32, 40]⟩ : ByteArray) ++ baT (dg x) ++ baT (mkB a) ++ baT (dg y) ++ ⟨#[41]⟩ ++ baT (mkB b) ++ baT (dg z) ++ ⟨#[59]⟩) (grownCap wc' (7 + (baT (dg x)).size + (baT (mkB a)).size + (baT (dg y)).size + 1 + (baT (mkB b)).size + (baT (dg z)).size + 1) 0 5)).size + 1))).drew = wa := ⟨_, rfl⟩
      rw [hwa] at eA rA bx ⊢
      clear hwa
      refine hK.out _ _ (fun _ => eA) ?_
      clear hK K
      try simp only [Act.put, List.getElem_toArray, List.getElem_cons_zero, List.getElem_cons_succ, List.setIfInBounds_toArray, List.set_cons_zero, List.set_cons_succ]
      refine AnyL.next 19 (by kernel_rfl) rfl (fun K hK => ?_)
      go_simp
      go_at_call 13
      refine (HQ9.out wa _ _ (grownCap_ge _ _ _ _) (rA)).mono ?_
      rintro e5 w5 ⟨⟨F, f, G, g, rfl, hv⟩, eC⟩
      go_wp2_with fail
      have e5 := eA.trans (eC.mono (eA).size)
      refine hK.out _ _ (fun _ => e5) ?_
      clear hK K
      try simp only [Act.put, List.getElem_toArray, List.getElem_cons_zero, List.getElem_cons_succ, List.setIfInBounds_toArray, List.set_cons_zero, List.set_cons_succ]
      refine AnyL.take 20 (.tuple #[.agg #[.slice F 0 f, .slice G 1 g], .int .i64 0, .int .i64 0]) rfl (by kernel_rfl) (by kernel_rfl) (by kernel_rfl) (by kernel_rfl) (fun _ _ _ h => h) (Or.inl ⟨by rfl, ?_⟩) (by assumption) ?_
      · intro W' hSw
        obtain ⟨l1, l2⟩ := HB.out W' hSw
        go_simp
      try simp only [Act.put, List.getElem_toArray, List.getElem_cons_zero, List.getElem_cons_succ, List.setIfInBounds_toArray, List.set_cons_zero, List.set_cons_succ]
      refine AnyL.take 21 ((.agg #[.slice F 0 f, .slice G 1 g])) rfl (by kernel_rfl) (by kernel_rfl) (by kernel_rfl) (by kernel_rfl) (fun _ _ _ h => h) (Or.inl ⟨by rfl, ?_⟩) (by assumption) ?_
      · intro W' hSw
        obtain ⟨l1, l2⟩ := HB.out W' hSw
        go_simp
      try simp only [Act.put, List.getElem_toArray, List.getElem_cons_zero, List.getElem_cons_succ, List.setIfInBounds_toArray, List.set_cons_zero, List.set_cons_succ]
      refine AnyL.take 22 (.int .i64 0) rfl (by kernel_rfl) (by kernel_rfl) (by kernel_rfl) (by kernel_rfl) (fun _ _ _ h => h) (Or.inl ⟨by rfl, ?_⟩) (by assumption) ?_
      · intro W' hSw
        obtain ⟨l1, l2⟩ := HB.out W' hSw
        go_simp
      try simp only [Act.put, List.getElem_toArray, List.getElem_cons_zero, List.getElem_cons_succ, List.setIfInBounds_toArray, List.set_cons_zero, List.set_cons_succ]
      refine AnyL.take 23 (.int .i64 0) rfl (by kernel_rfl) (by kernel_rfl) (by kernel_rfl) (by kernel_rfl) (fun _ _ _ h => h) (Or.inl ⟨by rfl, ?_⟩) (by assumption) ?_
      · intro W' hSw
        obtain ⟨l1, l2⟩ := HB.out W' hSw
        go_simp
      try simp only [Act.put, List.getElem_toArray, List.getElem_cons_zero, List.getElem_cons_succ, List.setIfInBounds_toArray, List.set_cons_zero, List.set_cons_succ]
      have bx' := (eC.block nb (lt_heap bx)).trans bx
      have b0 := box_cell bx' 0
      have b1' := box_cell bx' 1
      have fz0 := box_frozen bx' 0
      have fz1 := box_frozen bx' 1
      simp only [List.getElem?_toArray, List.getElem?_cons_succ, List.getElem?_cons_zero] at b0 b1'
      refine AnyL.next 25 (by kernel_rfl) rfl (fun K hK => ?_)
      go_simp
      have e7 := (Below.setCell (p := ⟨nb, 0, none⟩) e5 (by simp only; omega) (.slice F 0 f)).setCell (p := ⟨nb, 1, none⟩) (by simp only; omega) (.slice G 1 g)
      have x8 := two_cells (x := .slice F 0 f) (y := .slice G 1 g) bx'
      have hp8 : PgV ((w5.setCell ⟨nb, 0, none⟩ (.slice F 0 f)).setCell ⟨nb, 1, none⟩ (.slice G 1 g)).heap.size ((w5.setCell ⟨nb, 0, none⟩ (.slice F 0 f)).setCell ⟨nb, 1, none⟩ (.slice G 1 g)) (.agg #[.slice F 0 f, .slice G 1 g]) _ := (hv.kp (kp_two (x := .slice F 0 f) (y := .slice G 1 g) (lt_heap bx)) (Nat.le_refl _)).pgv
      obtain ⟨w8, hw8⟩ : ∃ w8, (w5.setCell ⟨nb, 0, none⟩ (.slice F 0 f)).setCell ⟨nb, 1, none⟩ (.slice G 1 g) = w8 := ⟨_, rfl⟩
      rw [hw8] at e7 x8 hp8 ⊢
      clear hw8
      refine hK.out _ _ (fun _ => e7) ?_
      clear hK K
      try simp only [Act.put, List.getElem_toArray, List.getElem_cons_zero, List.getElem_cons_succ, List.setIfInBounds_toArray, List.set_cons_zero, List.set_cons_succ]
      refine AnyL.take 26 (.int .i64 0) rfl (by kernel_rfl) (by kernel_rfl) (by kernel_rfl) (by kernel_rfl) (fun _ _ _ h => h) (Or.inl ⟨by rfl, ?_⟩) (by assumption) ?_
      · intro W' hSw
        obtain ⟨l1, l2⟩ := HB.out W' hSw
        go_simp
      try simp only [Act.put, List.getElem_toArray, List.getElem_cons_zero, List.getElem_cons_succ, List.setIfInBounds_toArray, List.set_cons_zero, List.set_cons_succ]
      refine AnyL.next 27 (by kernel_rfl) rfl (fun K hK => ?_)
      go_simp
      refine hK.out _ _ (fun _ => e7) ?_
      clear hK K
      try simp only [Act.put, List.getElem_toArray, List.getElem_cons_zero, List.getElem_cons_succ, List.setIfInBounds_toArray, List.set_cons_zero, List.set_cons_succ]
      refine AnyL.done (by kernel_rfl) ?_
      go_wp2_with fail
      go_meet
      exact ⟨nb, F, f, G, g, rfl, rfl, rfl, x8, hp8, e7⟩
  case rest =>
  obtain ⟨nb9, F9', f9', G9', g9', rfl, rfl, rfl, P9, hp9, eM⟩ := hcut
  obtain ⟨u9, rfl⟩ : ∃ u, u = wc := ⟨_, rfl⟩
  have P8 := (eM.block _ (lt_heap P8)).trans P8
  have hp8 := hp8.below eM eM.size
  have E9 : Below u2.heap.size u2 u9 := E8.trans (eM.mono E8.size)
  have F9 := F8.below eM
  clear eM
  go_upto_region 10 with fail
  go_cut [22, 23, 24] (fun p n e wx => Made u9 wx (pE (eRi x y z a b)) p n e)
  case first =>
    have HB := Lib.hid (fun w' (hb : Below u9.heap.size u9 w') => HM.out w' (E9.trans (hb.mono E9.size)))
    have hS0 : Below u9.heap.size u9 u9.drew := below_drw (Below.refl _ _)
    refine wp_region_late (fun w' => Below u9.heap.size u9 w') 27 (by kernel_rfl) ?_
    obtain ⟨zu, hzu⟩ : ∃ n, u9.heap.size = n := ⟨_, rfl⟩
    obtain ⟨u0, hu0⟩ : ∃ x, u9.drew = x := ⟨_, rfl⟩
    rw [hu0] at hS0 ⊢
    clear hu0
    refine AnyL.take 0 (.string (baT (dg x))) rfl (by kernel_rfl) (by kernel_rfl) (by kernel_rfl) (by kernel_rfl) (fun _ _ _ h => h) (Or.inl ⟨by rfl, ?_⟩) (by assumption) ?_
    · intro W' hSw
      obtain ⟨l1, l2⟩ := HB.out W' hSw
      go_simp
    try simp only [Act.put, List.getElem_toArray, List.getElem_cons_zero, List.setIfInBounds_toArray, List.set_cons_zero, List.set_cons_succ]
    refine AnyL.take 1 (.string ((⟨#[112, 114, 105, 110, 116, 32]⟩ : ByteArray) ++ baT (dg x))) rfl (by kernel_rfl) (by kernel_rfl) (by kernel_rfl) (by kernel_rfl) (fun _ _ _ h => h) (Or.inl ⟨by rfl, ?_⟩) (by assumption) ?_
    · intro W' hSw
      obtain ⟨l1, l2⟩ := HB.out W' hSw
      go_simp
    try simp only [Act.put, List.getElem_toArray, List.getElem_cons_zero, List.getElem_cons_succ, List.setIfInBounds_toArray, List.set_cons_zero, List.set_cons_succ]
    refine AnyL.take 2 (.slice (some ⟨n1, 0, none⟩) 9 9) rfl (by kernel_rfl) (by kernel_rfl) (by kernel_rfl) (by kernel_rfl) (fun _ _ _ h => h) (Or.inl ⟨by rfl, ?_⟩) (by assumption) ?_
    · intro W' hSw
      obtain ⟨l1, l2⟩ := HB.out W' hSw
      go_simp
    try simp only [Act.put, List.getElem_toArray, List.getElem_cons_zero, List.getElem_cons_succ, List.setIfInBounds_toArray, List.set_cons_zero, List.set_cons_succ]
    refine AnyL.take 3 (.int .i64 a) rfl (by kernel_rfl) (by kernel_rfl) (by kernel_rfl) (by kernel_rfl) (fun _ _ _ h => h) (Or.inl ⟨by rfl, ?_⟩) (by assumption) ?_
    · intro W' hSw
      obtain ⟨l1, l2⟩ := HB.out W' hSw
      go_simp
    try simp only [Act.put, List.getElem_toArray, List.getElem_cons_zero, List.getElem_cons_succ, List.setIfInBounds_toArray, List.set_cons_zero, List.set_cons_succ]
    refine AnyL.take 4 (.pointer (some ⟨n1, a, none⟩)) rfl (by kernel_rfl) (by kernel_rfl) (by kernel_rfl) (by kernel_rfl) (fun _ _ _ h => h) (Or.inl ⟨by rfl, ?_⟩) (by assumption) ?_
    · intro W' hSw
      obtain ⟨l1, l2⟩ := HB.out W' hSw
      go_simp
    try simp only [Act.put, List.getElem_toArray, List.getElem_cons_zero, List.getElem_cons_succ, List.setIfInBounds_toArray, List.set_cons_zero, List.set_cons_succ]
    refine AnyL.take 5 (.string (baT (mkB a))) rfl (by kernel_rfl) (by kernel_rfl) (by kernel_rfl) (by kernel_rfl) (fun _ _ _ h => h) (Or.inl ⟨by rfl, ?_⟩) (by assumption) ?_
    · intro W' hSw
      obtain ⟨l1, l2⟩ := HB.out W' hSw
      go_simp
    try simp only [Act.put, List.getElem_toArray, List.getElem_cons_zero, List.getElem_cons_succ, List.setIfInBounds_toArray, List.set_cons_zero, List.set_cons_succ]
    refine AnyL.take 6 (.string ((⟨#[112, 114, 105, 110, 116, 32]⟩ : ByteArray) ++ baT (dg x) ++ baT (mkB a))) rfl (by kernel_rfl) (by kernel_rfl) (by kernel_rfl) (by kernel_rfl) (fun _ _ _ h => h) (Or.inl ⟨by rfl, ?_⟩) (by assumption) ?_
    · intro W' hSw
      obtain ⟨l1, l2⟩ := HB.out W' hSw
      go_simp
    try simp only [Act.put, List.getElem_toArray, List.getElem_cons_zero, List.getElem_cons_succ, List.setIfInBounds_toArray, List.set_cons_zero, List.set_cons_succ]
    refine AnyL.take 7 (.string ((⟨#[112, 114, 105, 110, 116, 32]⟩ : ByteArray) ++ baT (dg x) ++ baT (mkB a) ++ ⟨#[40]⟩)) rfl (by kernel_rfl) (by kernel_rfl) (by kernel_rfl) (by kernel_rfl) (fun _ _ _ h => h) (Or.inl ⟨by rfl, ?_⟩) (by assumption) ?_
    · intro W' hSw
      obtain ⟨l1, l2⟩ := HB.out W' hSw
      go_simp
    try simp only [Act.put, List.getElem_toArray, List.getElem_cons_zero, List.getElem_cons_succ, List.setIfInBounds_toArray, List.set_cons_zero, List.set_cons_succ]
    refine AnyL.take 8 (.string (baT (dg y))) rfl (by kernel_rfl) (by kernel_rfl) (by kernel_rfl) (by kernel_rfl) (fun _ _ _ h => h) (Or.inl ⟨by rfl, ?_⟩) (by assumption) ?_
    · intro W' hSw
      obtain ⟨l1, l2⟩ := HB.out W' hSw
      go_simp
    try simp only [Act.put, List.getElem_toArray, List.getElem_cons_zero, List.getElem_cons_succ, List.setIfInBounds_toArray, List.set_cons_zero, List.set_cons_succ]
    refine AnyL.take 9 (.string ((⟨#[112, 114, 105, 110, 116, 32]⟩ : ByteArray) ++ baT (dg x) ++ baT (mkB a) ++ ⟨#[40]⟩ ++ baT (dg y))) rfl (by kernel_rfl) (by kernel_rfl) (by kernel_rfl) (by kernel_rfl) (fun _ _ _ h => h) (Or.inl ⟨by rfl, ?_⟩) (by assumption) ?_
    · intro W' hSw
      obtain ⟨l1, l2⟩ := HB.out W' hSw
      go_simp
    try simp only [Act.put, List.getElem_toArray, List.getElem_cons_zero, List.getElem_cons_succ, List.setIfInBounds_toArray, List.set_cons_zero, List.set_cons_succ]
    refine AnyL.take 10 (.slice (some ⟨n1, 0, none⟩) 9 9) rfl (by kernel_rfl) (by kernel_rfl) (by kernel_rfl) (by kernel_rfl) (fun _ _ _ h => h) (Or.inl ⟨by rfl, ?_⟩) (by assumption) ?_
    · intro W' hSw
      obtain ⟨l1, l2⟩ := HB.out W' hSw
      go_simp
    try simp only [Act.put, List.getElem_toArray, List.getElem_cons_zero, List.getElem_cons_succ, List.setIfInBounds_toArray, List.set_cons_zero, List.set_cons_succ]
    refine AnyL.take 11 (.int .i64 b) rfl (by kernel_rfl) (by kernel_rfl) (by kernel_rfl) (by kernel_rfl) (fun _ _ _ h => h) (Or.inl ⟨by rfl, ?_⟩) (by assumption) ?_
    · intro W' hSw
      obtain ⟨l1, l2⟩ := HB.out W' hSw
      go_simp
    try simp only [Act.put, List.getElem_toArray, List.getElem_cons_zero, List.getElem_cons_succ, List.setIfInBounds_toArray, List.set_cons_zero, List.set_cons_succ]
    refine AnyL.take 12 (.pointer (some ⟨n1, b, none⟩)) rfl (by kernel_rfl) (by kernel_rfl) (by kernel_rfl) (by kernel_rfl) (fun _ _ _ h => h) (Or.inl ⟨by rfl, ?_⟩) (by assumption) ?_
    · intro W' hSw
      obtain ⟨l1, l2⟩ := HB.out W' hSw
      go_simp
    try simp only [Act.put, List.getElem_toArray, List.getElem_cons_zero, List.getElem_cons_succ, List.setIfInBounds_toArray, List.set_cons_zero, List.set_cons_succ]
    refine AnyL.take 13 (.string (baT (mkB b))) rfl (by kernel_rfl) (by kernel_rfl) (by kernel_rfl) (by kernel_rfl) (fun _ _ _ h => h) (Or.inl ⟨by rfl, ?_⟩) (by assumption) ?_
    · intro W' hSw
      obtain ⟨l1, l2⟩ := HB.out W' hSw
      go_simp
    try simp only [Act.put, List.getElem_toArray, List.getElem_cons_zero, List.getElem_cons_succ, List.setIfInBounds_toArray, List.set_cons_zero, List.set_cons_succ]
    refine AnyL.take 14 (.string ((⟨#[112, 114, 105, 110, 116, 32]⟩ : ByteArray) ++ baT (dg x) ++ baT (mkB a) ++ ⟨#[40]⟩ ++ baT (dg y) ++ baT (mkB b))) rfl (by kernel_rfl) (by kernel_rfl) (by kernel_rfl) (by kernel_rfl) (fun _ _ _ h => h) (Or.inl ⟨by rfl, ?_⟩) (by assumption) ?_
    · intro W' hSw
      obtain ⟨l1, l2⟩ := HB.out W' hSw
      go_simp
    try simp only [Act.put, List.getElem_toArray, List.getElem_cons_zero, List.getElem_cons_succ, List.setIfInBounds_toArray, List.set_cons_zero, List.set_cons_succ]
    refine AnyL.take 15 (.string (baT (dg z))) rfl (by kernel_rfl) (by kernel_rfl) (by kernel_rfl) (by kernel_rfl) (fun _ _ _ h => h) (Or.inl ⟨by rfl, ?_⟩) (by assumption) ?_
    · intro W' hSw
      obtain ⟨l1, l2⟩ := HB.out W' hSw
      go_simp
    try simp only [Act.put, List.getElem_toArray, List.getElem_cons_zero, List.getElem_cons_succ, List.setIfInBounds_toArray, List.set_cons_zero, List.set_cons_succ]
    refine AnyL.take 16 (.string ((⟨#[112, 114, 105, 110, 116, 32]⟩ : ByteArray) ++ baT (dg x) ++ baT (mkB a) ++ ⟨#[40]⟩ ++ baT (dg y) ++ baT (mkB b) ++ baT (dg z))) rfl (by kernel_rfl) (by kernel_rfl) (by kernel_rfl) (by kernel_rfl) (fun _ _ _ h => h) (Or.inl ⟨by rfl, ?_⟩) (by assumption) ?_
    · intro W' hSw
      obtain ⟨l1, l2⟩ := HB.out W' hSw
      go_simp
    try simp only [Act.put, List.getElem_toArray, List.getElem_cons_zero, List.getElem_cons_succ, List.setIfInBounds_toArray, List.set_cons_zero, List.set_cons_succ]
    refine AnyL.take 17 (.string ((⟨#[112, 114, 105, 110, 116, 32]⟩ : ByteArray) ++ baT (dg x) ++ baT (mkB a) ++ ⟨#[40]⟩ ++ baT (dg y) ++ baT (mkB b) ++ baT (dg z) ++ ⟨#[41, 59]⟩)) rfl (by kernel_rfl) (by kernel_rfl) (by kernel_rfl) (by kernel_rfl) (fun _ _ _ h => h) (Or.inl ⟨by rfl, ?_⟩) (by assumption) ?_
    · intro W' hSw
      obtain ⟨l1, l2⟩ := HB.out W' hSw
      go_simp
    try simp only [Act.put, List.getElem_toArray, List.getElem_cons_zero, List.getElem_cons_succ, List.setIfInBounds_toArray, List.set_cons_zero, List.set_cons_succ]
    refine AnyL.both 18 24 (by kernel_rfl) rfl rfl (fun K hK => ?_) (fun K hK => ?_)
    · go_simp
      have eA : Below u9.heap.size u9 (u0.alloc (.cells (bytesRow ((⟨#[112, 114, 105, 110, 116, 32]⟩ : ByteArray) ++ baT (dg x) ++ baT (mkB a) ++ ⟨#[40]⟩ ++ baT (dg y) ++ baT (mkB b) ++ baT (dg z) ++ ⟨#[41, 59]⟩) (grownCap u0 (6 + (baT (dg x)).size + (baT (mkB a)).size + 1 + (baT (dg y)).size + (baT (mkB b)).size + (baT (dg z)).size + 2) 0 5)) 5 ((bytesRow ((⟨#[112, 114, 105, 110, 116, 32]⟩ : ByteArray) ++ baT (dg x) ++ baT (mkB a) ++ ⟨#[40]⟩ ++ baT (dg y) ++ baT (mkB b) ++ baT (dg z) ++ ⟨#[41, 59]⟩) (grownCap u0 (6 + (baT (dg x)).size + (baT (mkB a)).size + 1 + (baT (dg y)).size + (baT (mkB b)).size + (baT (dg z)).size + 2) 0 5)).size, (bytesRow ((⟨#[112, 114, 105, 110, 116, 32]⟩ : ByteArray) ++ baT (dg x) ++ baT (mkB a) ++ ⟨#[40]⟩ ++ baT (dg y) ++ baT (mkB b) ++ baT (dg z) ++ ⟨#[41, 59]⟩) (grownCap u0 (6 + (baT (dg x)).size + (baT (mkB a)).size + 1 + (baT (dg y)).size + (baT (mkB b)).size + (baT (dg z)).size + 2) 0 5)).size + 1))).drew := below_drw (hS0.alloc hS0.size _)
      have rA : Row (u0.alloc (.cells (bytesRow ((⟨#[112, 114, 105, 110, 116, 32]⟩ : ByteArray) ++ baT (dg x) ++ baT (mkB a) ++ ⟨#[40]⟩ ++ baT (dg y) ++ baT (mkB b) ++ baT (dg z) ++ ⟨#[41, 59]⟩) (grownCap u0 (6 + (baT (dg x)).size + (baT (mkB a)).size + 1 + (baT (dg y)).size + (baT (mkB b)).size + (baT (dg z)).size + 2) 0 5)) 5 ((bytesRow ((⟨#[112, 114, 105, 110, 116, 32]⟩ : ByteArray) ++ baT (dg x) ++ baT (mkB a) ++ ⟨#[40]⟩ ++ baT (dg y) ++ baT (mkB b) ++ baT (dg z) ++ ⟨#[41, 59]⟩) (grownCap u0 (6 + (baT (dg x)).size + (baT (mkB a)).size + 1 + (baT (dg y)).size + (baT (mkB b)).size + (baT (dg z)).size + 2) 0 5)).size, (bytesRow ((⟨#[112, 114, 105, 110, 116, 32]⟩ : ByteArray) ++ baT (dg x) ++ baT (mkB a) ++ ⟨#[40]⟩ ++ baT (dg y) ++ baT (mkB b) ++ baT (dg z) ++ ⟨#[41, 59]⟩) (grownCap u0 (6 + (baT (dg x)).size + (baT (mkB a)).size + 1 + (baT (dg y)).size + (baT (mkB b)).size + (baT (dg z)).size + 2) 0 5)).size + 1))).drew (some ⟨u0.heap.size, 0, none⟩) ((⟨#[112, 114, 105, 110, 116, 32]⟩ : ByteArray) ++ baT (dg x) ++ baT (mkB a) ++ ⟨#[40]⟩ ++ baT (dg y) ++ baT (mkB b) ++ baT (dg z) ++ ⟨#[41, 59]⟩).data.toList := row_bb u0 _ _
      obtain ⟨wa, hwa⟩ : ∃ wa, (u0.alloc (.cells (bytesRow ((⟨#[112, 114, 105, 110, 116, 32]⟩ : ByteArray) ++ baT (dg x) ++ baT (mkB a) ++ ⟨#[40]⟩ ++ baT (dg y) ++ baT (mkB b) ++ baT (dg z) ++ ⟨#[41, 59]⟩) (grownCap u0 (6 + (baT (dg x)).size + (baT (mkB a)).size + 1 + (baT (dg y)).size + (baT (mkB b)).size + (baT (dg z)).size + 2) 0 5)) 5 ((bytesRow ((⟨#[112, 114, 105, 110, 116, 32]⟩ : ByteArray) ++ baT (dg x) ++ baT (mkB a) ++ ⟨#[40]⟩ ++ baT (dg y) ++ baT (mkB b) ++ baT (dg z) ++ ⟨#[41, 59]⟩) (grownCap u0 (6 + (baT (dg x)).size + (baT (mkB a)).size + 1 + (baT (dg y)).size + (baT (mkB b)).size + (baT (dg z)).size + 2) 0 5)).size, (bytesRow ((⟨#[112, 114, 105, 110, 116, 32]⟩ : ByteArray) ++ baT (dg x) ++ baT (mkB a) ++ ⟨#[40]⟩ ++ baT (dg y) ++ baT (mkB b) ++ baT (dg z) ++ ⟨#[41, 59]⟩) (grownCap u0 (6 + (baT (dg x)).size + (baT (mkB a)).size + 1 + (baT (dg y)).size + (baT (mkB b)).size + (baT (dg z)).size + 2) 0 5)).size + 1))).drew = wa := ⟨_, rfl⟩
      rw [hwa] at eA rA ⊢
      clear hwa
      refine hK.out _ _ (fun _ => eA) ?_
      clear hK K
      try simp only [Act.put, List.getElem_toArray, List.getElem_cons_zero, List.getElem_cons_succ, List.setIfInBounds_toArray, List.set_cons_zero, List.set_cons_succ]
      refine AnyL.both 19 24 (by kernel_rfl) rfl rfl (fun K hK => ?_) (fun K hK => ?_)
      · go_simp
        go_at_call 13
        refine (HQ10.out wa _ _ (grownCap_ge _ _ _ _) (rA)).mono ?_
        rintro e5 w5 ⟨⟨F, f, G, g, rfl, hv⟩, eC⟩
        go_wp2_with fail
        have e5 := eA.trans (eC.mono (eA).size)
        refine hK.out _ _ (fun _ => e5) ?_
        clear hK K
        try simp only [Act.put, List.getElem_toArray, List.getElem_cons_zero, List.getElem_cons_succ, List.setIfInBounds_toArray, List.set_cons_zero, List.set_cons_succ]
        refine AnyL.take 20 (.tuple #[.agg #[.slice F 0 f, .slice G 1 g], .int .i64 0, .int .i64 0]) rfl (by kernel_rfl) (by kernel_rfl) (by kernel_rfl) (by kernel_rfl) (fun _ _ _ h => h) (Or.inl ⟨by rfl, ?_⟩) (by assumption) ?_
        · intro W' hSw
          obtain ⟨l1, l2⟩ := HB.out W' hSw
          go_simp
        try simp only [Act.put, List.getElem_toArray, List.getElem_cons_zero, List.getElem_cons_succ, List.setIfInBounds_toArray, List.set_cons_zero, List.set_cons_succ]
        refine AnyL.take 21 ((.agg #[.slice F 0 f, .slice G 1 g])) rfl (by kernel_rfl) (by kernel_rfl) (by kernel_rfl) (by kernel_rfl) (fun _ _ _ h => h) (Or.inl ⟨by rfl, ?_⟩) (by assumption) ?_
        · intro W' hSw
          obtain ⟨l1, l2⟩ := HB.out W' hSw
          go_simp
        try simp only [Act.put, List.getElem_toArray, List.getElem_cons_zero, List.getElem_cons_succ, List.setIfInBounds_toArray, List.set_cons_zero, List.set_cons_succ]
        refine AnyL.take 22 (.int .i64 0) rfl (by kernel_rfl) (by kernel_rfl) (by kernel_rfl) (by kernel_rfl) (fun _ _ _ h => h) (Or.inl ⟨by rfl, ?_⟩) (by assumption) ?_
        · intro W' hSw
          obtain ⟨l1, l2⟩ := HB.out W' hSw
          go_simp
        try simp only [Act.put, List.getElem_toArray, List.getElem_cons_zero, List.getElem_cons_succ, List.setIfInBounds_toArray, List.set_cons_zero, List.set_cons_succ]
        refine AnyL.take 23 (.int .i64 0) rfl (by kernel_rfl) (by kernel_rfl) (by kernel_rfl) (by kernel_rfl) (fun _ _ _ h => h) (Or.inl ⟨by rfl, ?_⟩) (by assumption) ?_
        · intro W' hSw
          obtain ⟨l1, l2⟩ := HB.out W' hSw
          go_simp
        try simp only [Act.put, List.getElem_toArray, List.getElem_cons_zero, List.getElem_cons_succ, List.setIfInBounds_toArray, List.set_cons_zero, List.set_cons_succ]
        refine AnyL.next 24 (by kernel_rfl) rfl (fun K hK => ?_)
        go_simp
        have e6 := e5.alloc e5.size P2
        have bx := heap_alloc_new w5 P2
        have hz6 := e5.size
        have hp6 := hv.pgv.below ((Below.refl w5.heap.size w5).alloc (Nat.le_refl _) P2) (Nat.le_refl _)
        obtain ⟨wc', hwc⟩ : ∃ wc, w5.alloc P2 = wc := ⟨_, rfl⟩
        rw [hwc] at e6 bx hp6 ⊢
        clear hwc
        obtain ⟨nb, hnb⟩ : ∃ nb, w5.heap.size = nb := ⟨_, rfl⟩
        rw [hnb] at bx hz6 hp6 ⊢
        refine hK.out _ _ (fun _ => e6) ?_
        clear hK K
        try simp only [Act.put, List.getElem_toArray, List.getElem_cons_zero, List.getElem_cons_succ, List.setIfInBounds_toArray, List.set_cons_zero, List.set_cons_succ]
        have b0 := box_cell bx 0
        have b1' := box_cell bx 1
        have fz0 := box_frozen bx 0
        have fz1 := box_frozen bx 1
        simp only [List.getElem?_toArray, List.getElem?_cons_succ, List.getElem?_cons_zero] at b0 b1'
        refine AnyL.next 25 (by kernel_rfl) rfl (fun K hK => ?_)
        go_simp
        have e7 := (Below.setCell (p := ⟨nb, 0, none⟩) e6 (by simp only; omega) (.slice F 0 f)).setCell (p := ⟨nb, 1, none⟩) (by simp only; omega) (.slice G 1 g)
        have x8 := two_cells (x := .slice F 0 f) (y := .slice G 1 g) bx
        have hp8 : PgV ((wc'.setCell ⟨nb, 0, none⟩ (.slice F 0 f)).setCell ⟨nb, 1, none⟩ (.slice G 1 g)).heap.size ((wc'.setCell ⟨nb, 0, none⟩ (.slice F 0 f)).setCell ⟨nb, 1, none⟩ (.slice G 1 g)) (.agg #[.slice F 0 f, .slice G 1 g]) _ := PgV.below hp6 (((Below.refl nb wc').setCell (p := ⟨nb, 0, none⟩) (Nat.le_refl _) (.slice F 0 f)).setCell (p := ⟨nb, 1, none⟩) (Nat.le_refl _) (.slice G 1 g)) (by have := lt_heap bx; simp; omega)
        obtain ⟨w8, hw8⟩ : ∃ w8, (wc'.setCell ⟨nb, 0, none⟩ (.slice F 0 f)).setCell ⟨nb, 1, none⟩ (.slice G 1 g) = w8 := ⟨_, rfl⟩
        rw [hw8] at e7 x8 hp8 ⊢
        clear hw8
        refine hK.out _ _ (fun _ => e7) ?_
        clear hK K
        try simp only [Act.put, List.getElem_toArray, List.getElem_cons_zero, List.getElem_cons_succ, List.setIfInBounds_toArray, List.set_cons_zero, List.set_cons_succ]
        refine AnyL.take 26 (.int .i64 0) rfl (by kernel_rfl) (by kernel_rfl) (by kernel_rfl) (by kernel_rfl) (fun _ _ _ h => h) (Or.inl ⟨by rfl, ?_⟩) (by assumption) ?_
        · intro W' hSw
          obtain ⟨l1, l2⟩ := HB.out W' hSw
          go_simp
        try simp only [Act.put, List.getElem_toArray, List.getElem_cons_zero, List.getElem_cons_succ, List.setIfInBounds_toArray, List.set_cons_zero, List.set_cons_succ]
        refine AnyL.next 27 (by kernel_rfl) rfl (fun K hK => ?_)
        go_simp
        refine hK.out _ _ (fun _ => e7) ?_
        clear hK K
        try simp only [Act.put, List.getElem_toArray, List.getElem_cons_zero, List.getElem_cons_succ, List.setIfInBounds_toArray, List.set_cons_zero, List.set_cons_succ]
        refine AnyL.done (by kernel_rfl) ?_
        go_wp2_with fail
        go_meet
        exact ⟨nb, F, f, G, g, rfl, rfl, rfl, x8, hp8, e7⟩
      · go_simp
        have e6 := eA.alloc eA.size P2
        have bx := heap_alloc_new wa P2
        have hz6 := eA.size
        have rB := rA.al2 P2
        obtain ⟨wc', hwc⟩ : ∃ wc, wa.alloc P2 = wc := ⟨_, rfl⟩
        rw [hwc] at e6 bx rB ⊢
        clear hwc
        obtain ⟨nb, hnb⟩ : ∃ nb, wa.heap.size = nb := ⟨_, rfl⟩
        rw [hnb] at bx hz6 ⊢
        refine hK.out _ _ (fun _ => e6) ?_
        clear hK K
        try simp only [Act.put, List.getElem_toArray, List.getElem_cons_zero, List.getElem_cons_succ, List.setIfInBounds_toArray, List.set_cons_zero, List.set_cons_succ]
        refine AnyL.next 19 (by kernel_rfl) rfl (fun K hK => ?_)
        go_simp
        go_at_call 13
        refine (HQ10.out wc' _ _ (grownCap_ge _ _ _ _) (rB)).mono ?_
        rintro e5 w5 ⟨⟨F, f, G, g, rfl, hv⟩, eC⟩
        go_wp2_with fail
        have e5 := e6.trans (eC.mono (e6).size)
        refine hK.out _ _ (fun _ => e5) ?_
        clear hK K
        try simp only [Act.put, List.getElem_toArray, List.getElem_cons_zero, List.getElem_cons_succ, List.setIfInBounds_toArray, List.set_cons_zero, List.set_cons_succ]
        refine AnyL.take 20 (.tuple #[.agg #[.slice F 0 f, .slice G 1 g], .int .i64 0, .int .i64 0]) rfl (by kernel_rfl) (by kernel_rfl) (by kernel_rfl) (by kernel_rfl) (fun _ _ _ h => h) (Or.inl ⟨by rfl, ?_⟩) (by assumption) ?_
        · intro W' hSw
          obtain ⟨l1, l2⟩ := HB.out W' hSw
          go_simp
        try simp only [Act.put, List.getElem_toArray, List.getElem_cons_zero, List.getElem_cons_succ, List.setIfInBounds_toArray, List.set_cons_zero, List.set_cons_succ]
        refine AnyL.take 21 ((.agg #[.slice F 0 f, .slice G 1 g])) rfl (by kernel_rfl) (by kernel_rfl) (by kernel_rfl) (by kernel_rfl) (fun _ _ _ h => h) (Or.inl ⟨by rfl, ?_⟩) (by assumption) ?_
        · intro W' hSw
          obtain ⟨l1, l2⟩ := HB.out W' hSw
          go_simp
        try simp only [Act.put, List.getElem_toArray, List.getElem_cons_zero, List.getElem_cons_succ, List.setIfInBounds_toArray, List.set_cons_zero, List.set_cons_succ]
        refine AnyL.take 22 (.int .i64 0) rfl (by kernel_rfl) (by kernel_rfl) (by kernel_rfl) (by kernel_rfl) (fun _ _ _ h => h) (Or.inl ⟨by rfl, ?_⟩) (by assumption) ?_
        · intro W' hSw
          obtain ⟨l1, l2⟩ := HB.out W' hSw
          go_simp
        try simp only [Act.put, List.getElem_toArray, List.getElem_cons_zero, List.getElem_cons_succ, List.setIfInBounds_toArray, List.set_cons_zero, List.set_cons_succ]
        refine AnyL.take 23 (.int .i64 0) rfl (by kernel_rfl) (by kernel_rfl) (by kernel_rfl) (by kernel_rfl) (fun _ _ _ h => h) (Or.inl ⟨by rfl, ?_⟩) (by assumption) ?_
        · intro W' hSw
          obtain ⟨l1, l2⟩ := HB.out W' hSw
          go_simp
        try simp only [Act.put, List.getElem_toArray, List.getElem_cons_zero, List.getElem_cons_succ, List.setIfInBounds_toArray, List.set_cons_zero, List.set_cons_succ]
        have bx' := (eC.block nb (lt_heap bx)).trans bx
        have b0 := box_cell bx' 0
        have b1' := box_cell bx' 1
        have fz0 := box_frozen bx' 0
        have fz1 := box_frozen bx' 1
        simp only [List.getElem?_toArray, List.getElem?_cons_succ, List.getElem?_cons_zero] at b0 b1'
        refine AnyL.next 25 (by kernel_rfl) rfl (fun K hK => ?_)
        go_simp
        have e7 := (Below.setCell (p := ⟨nb, 0, none⟩) e5 (by simp only; omega) (.slice F 0 f)).setCell (p := ⟨nb, 1, none⟩) (by simp only; omega) (.slice G 1 g)
        have x8 := two_cells (x := .slice F 0 f) (y := .slice G 1 g) bx'
        have hp8 : PgV ((w5.setCell ⟨nb, 0, none⟩ (.slice F 0 f)).setCell ⟨nb, 1, none⟩ (.slice G 1 g)).heap.size ((w5.setCell ⟨nb, 0, none⟩ (.slice F 0 f)).setCell ⟨nb, 1, none⟩ (.slice G 1 g)) (.agg #[.slice F 0 f, .slice G 1 g]) _ := (hv.kp (kp_two (x := .slice F 0 f) (y := .slice G 1 g) (lt_heap bx)) (Nat.le_refl _)).pgv
        obtain ⟨w8, hw8⟩ : ∃ w8, (w5.setCell ⟨nb, 0, none⟩ (.slice F 0 f)).setCell ⟨nb, 1, none⟩ (.slice G 1 g) = w8 := ⟨_, rfl⟩
        rw [hw8] at e7 x8 hp8 ⊢
        clear hw8
        refine hK.out _ _ (fun _ => e7) ?_
        clear hK K
        try simp only [Act.put, List.getElem_toArray, List.getElem_cons_zero, List.getElem_cons_succ, List.setIfInBounds_toArray, List.set_cons_zero, List.set_cons_succ]
        refine AnyL.take 26 (.int .i64 0) rfl (by kernel_rfl) (by kernel_rfl) (by kernel_rfl) (by kernel_rfl) (fun _ _ _ h => h) (Or.inl ⟨by rfl, ?_⟩) (by assumption) ?_
        · intro W' hSw
          obtain ⟨l1, l2⟩ := HB.out W' hSw
          go_simp
        try simp only [Act.put, List.getElem_toArray, List.getElem_cons_zero, List.getElem_cons_succ, List.setIfInBounds_toArray, List.set_cons_zero, List.set_cons_succ]
        refine AnyL.next 27 (by kernel_rfl) rfl (fun K hK => ?_)
        go_simp
        refine hK.out _ _ (fun _ => e7) ?_
        clear hK K
        try simp only [Act.put, List.getElem_toArray, List.getElem_cons_zero, List.getElem_cons_succ, List.setIfInBounds_toArray, List.set_cons_zero, List.set_cons_succ]
        refine AnyL.done (by kernel_rfl) ?_
        go_wp2_with fail
        go_meet
        exact ⟨nb, F, f, G, g, rfl, rfl, rfl, x8, hp8, e7⟩
    · go_simp
      have e6 : Below u9.heap.size u9 (u0.alloc P2) := hS0.alloc hS0.size _
      have bx : (u0.alloc P2).heap[u0.heap.size]? = some P2 := heap_alloc_new u0 P2
      have hz6 := hS0.size
      obtain ⟨wc', hwc⟩ : ∃ wc, u0.alloc P2 = wc := ⟨_, rfl⟩
      rw [hwc] at e6 bx ⊢
      clear hwc
      obtain ⟨nb, hnb⟩ : ∃ nb, u0.heap.size = nb := ⟨_, rfl⟩
      rw [hnb] at bx hz6 ⊢
      refine hK.out _ _ (fun _ => e6) ?_
      clear hK K
      try simp only [Act.put, List.getElem_toArray, List.getElem_cons_zero, List.getElem_cons_succ, List.setIfInBounds_toArray, List.set_cons_zero, List.set_cons_succ]
      refine AnyL.next 18 (by kernel_rfl) rfl (fun K hK => ?_)
      go_simp
      have eA : Below u9.heap.size u9 (wc'.alloc (.cells (bytesRow ((⟨#[112, 114, 105, 110, 116, 32]⟩ : ByteArray) ++ baT (dg x) ++ baT (mkB a) ++ ⟨#[40]⟩ ++ baT (dg y) ++ baT (mkB b) ++ baT (dg z) ++ ⟨#[41, 59]⟩) (grownCap wc' (6 + (baT (dg x)).size + (baT (mkB a)).size + 1 + (baT (dg y)).size + (baT (mkB b)).size + (baT (dg z)).size + 2) 0 5)) 5 ((bytesRow ((⟨#[112, 114, 105, 110, 116, 32]⟩ : ByteArray) ++ baT (dg x) ++ baT (mkB a) ++ ⟨#[40]⟩ ++ baT (dg y) ++ baT (mkB b) ++ baT (dg z) ++ ⟨#[41, 59]⟩) (grownCap wc' (6 + (baT (dg x)).size + (baT (mkB a)).size + 1 + (baT (dg y)).size + (baT (mkB b)).size + (baT (dg z)).size + 2) 0 5)).size, (bytesRow ((⟨#[112, 114, 105, 110, 116, 32]⟩ : ByteArray) ++ baT (dg x) ++ baT (mkB a) ++ ⟨#[40]⟩ ++ baT (dg y) ++ baT (mkB b) ++ baT (dg z) ++ ⟨#[41, 59]⟩) (grownCap wc' (6 + (baT (dg x)).size + (baT (mkB a)).size + 1 + (baT (dg y)).size + (baT (mkB b)).size + (baT (dg z)).size + 2) 0 5)).size + 1))).drew := below_drw (e6.alloc e6.size _)
      have rA : Row (wc'.alloc (.cells (bytesRow ((⟨#[112, 114, 105, 110, 116, 32]⟩ : ByteArray) ++ baT (dg x) ++ baT (mkB a) ++ ⟨#[40]⟩ ++ baT (dg y) ++ baT (mkB b) ++ baT (dg z) ++ ⟨#[41, 59]⟩) (grownCap wc' (6 + (baT (dg x)).size + (baT (mkB a)).size + 1 + (baT (dg y)).size + (baT (mkB b)).size + (baT (dg z)).size + 2) 0 5)) 5 ((bytesRow ((⟨#[112, 114, 105, 110, 116, 32]⟩ : ByteArray) ++ baT (dg x) ++ baT (mkB a) ++ ⟨#[40]⟩ ++ baT (dg y) ++ baT (mkB b) ++ baT (dg z) ++ ⟨#[41, 59]⟩) (grownCap wc' (6 + (baT (dg x)).size + (baT (mkB a)).size + 1 + (baT (dg y)).size + (baT (mkB b)).size + (baT (dg z)).size + 2) 0 5)).size, (bytesRow ((⟨#[112, 114, 105, 110, 116, 32]⟩ : ByteArray) ++ baT (dg x) ++ baT (mkB a) ++ ⟨#[40]⟩ ++ baT (dg y) ++ baT (mkB b) ++ baT (dg z) ++ ⟨#[41, 59]⟩) (grownCap wc' (6 + (baT (dg x)).size + (baT (mkB a)).size + 1 + (baT (dg y)).size + (baT (mkB b)).size + (baT (dg z)).size + 2) 0 5)).size + 1))).drew (some ⟨wc'.heap.size, 0, none⟩) ((⟨#[112, 114, 105, 110, 116, 32]⟩ : ByteArray) ++ baT (dg x) ++ baT (mkB a) ++ ⟨#[40]⟩ ++ baT (dg y) ++ baT (mkB b) ++ baT (dg z) ++ ⟨#[41, 59]⟩).data.toList := row_bb wc' _ _
      have bx : (wc'.alloc (.cells (bytesRow ((⟨#[112, 114, 105, 110, 116, 32]⟩ : ByteArray) ++ baT (dg x) ++ baT (mkB a) ++ ⟨#[40]⟩ ++ baT (dg y) ++ baT (mkB b) ++ baT (dg z) ++ ⟨#[41, 59]⟩) (grownCap wc' (6 + (baT (dg x)).size + (baT (mkB a)).size + 1 + (baT (dg y)).size + (baT (mkB b)).size + (baT (dg z)).size + 2) 0 5)) 5 ((bytesRow ((⟨#[112, 114, 105, 110, 116, 32]⟩ : ByteArray) ++ baT (dg x) ++ baT (mkB a) ++ ⟨#[40]⟩ ++ baT (dg y) ++ baT (mkB b) ++ baT (dg z) ++ ⟨#[41, 59]⟩) (grownCap wc' (6 + (baT (dg x)).size + (baT (mkB a)).size + 1 + (baT (dg y)).size + (baT (mkB b)).size + (baT (dg z)).size + 2) 0 5)).size, (bytesRow ((⟨#[112, 114, 105, 110, 116, 32]⟩ : ByteArray) ++ baT (dg x) ++ baT (mkB a) ++ ⟨#[40]⟩ ++ baT (dg y) ++ baT (mkB b) ++ baT (dg z) ++ ⟨#[41, 59]⟩) (grownCap wc' (6 + (baT (dg x)).size + (baT (mkB a)).size + 1 + (baT (dg y)).size + (baT (mkB b)).size + (baT (dg z)).size + 2) 0 5)).size + 1))).drew.heap[nb]? = some P2 := (Below.heap_alloc wc' _ _ (lt_heap bx)).trans bx
      obtain ⟨wa, hwa⟩ : ∃ wa, (wc'.alloc (.cells (bytesRow ((⟨#[112, 114, 105, 110, 116, 32]⟩ : ByteArray) ++ baT (dg x) ++ baT (mkB a) ++ ⟨#[40]⟩ ++ baT (dg y) ++ baT (mkB b) ++ baT (dg z) ++ ⟨#[41, 59]⟩) (grownCap wc' (6 + (baT (dg x)).size + (baT (mkB a)).size + 1 + (baT (dg y)).size + (baT (mkB b)).size + (baT (dg z)).size + 2) 0 5)) 5 ((bytesRow ((⟨#[112, 114, 105, 110, 116, 32]⟩ : ByteArray) ++ baT (dg x) ++ baT (mkB a) ++ ⟨#[40]⟩ ++ baT (dg y) ++ baT (mkB b) ++ baT (dg z) ++ ⟨#[41, 59]⟩) (grownCap wc' (6 + (baT (dg x)).size + (baT (mkB a)).size + 1 + (baT (dg y)).size + (baT (mkB b)).size + (baT (dg z)).size + 2) 0 5)).size, (bytesRow ((⟨#[112, 114, 105, 110, 116, 32]⟩ : ByteArray) ++ baT (dg x) ++ baT (mkB a) ++ ⟨#[40]⟩ ++ baT (dg y) ++ baT (mkB b) ++ baT (dg z) ++ ⟨#[41, 59]⟩) (grownCap wc' (6 + (baT (dg x)).size + (baT (mkB a)).size + 1 + (baT (dg y)).size + (baT (mkB b)).size + (baT (dg z)).size + 2) 0 5)).size + 1))).drew = wa := ⟨_, rfl⟩
      rw [hwa] at eA rA bx ⊢
      clear hwa
      refine hK.out _ _ (fun _ => eA) ?_
      clear hK K
      try simp only [Act.put, List.getElem_toArray, List.getElem_cons_zero, List.getElem_cons_succ, List.setIfInBounds_toArray, List.set_cons_zero, List.set_cons_succ]
      refine AnyL.next 19 (by kernel_rfl) rfl (fun K hK => ?_)
      go_simp
      go_at_call 13
      refine (HQ10.out wa _ _ (grownCap_ge _ _ _ _) (rA)).mono ?_
      rintro e5 w5 ⟨⟨F, f, G, g, rfl, hv⟩, eC⟩
      go_wp2_with fail
      have e5 := eA.trans (eC.mono (eA).size)
      refine hK.out _ _ (fun _ => e5) ?_
      clear hK K
      try simp only [Act.put, List.getElem_toArray, List.getElem_cons_zero, List.getElem_cons_succ, List.setIfInBounds_toArray, List.set_cons_zero, List.set_cons_succ]
      refine AnyL.take 20 (.tuple #[.agg #[.slice F 0 f, .slice G 1 g], .int .i64 0, .int .i64 0]) rfl (by kernel_rfl) (by kernel_rfl) (by kernel_rfl) (by kernel_rfl) (fun _ _ _ h => h) (Or.inl ⟨by rfl, ?_⟩) (by assumption) ?_
      · intro W' hSw
        obtain ⟨l1, l2⟩ := HB.out W' hSw
        go_simp
      try simp only [Act.put, List.getElem_toArray, List.getElem_cons_zero, List.getElem_cons_succ, List.setIfInBounds_toArray, List.set_cons_zero, List.set_cons_succ]
      refine AnyL.take 21 ((.agg #[.slice F 0 f, .slice G 1 g])) rfl (by kernel_rfl) (by kernel_rfl) (by kernel_rfl) (by kernel_rfl) (fun _ _ _ h => h) (Or.inl ⟨by rfl, ?_⟩) (by assumption) ?_
      · intro W' hSw
        obtain ⟨l1, l2⟩ := HB.out W' hSw
        go_simp
      try simp only [Act.put, List.getElem_toArray, List.getElem_cons_zero, List.getElem_cons_succ, List.setIfInBounds_toArray, List.set_cons_zero, List.set_cons_succ]
      refine AnyL.take 22 (.int .i64 0) rfl (by kernel_rfl) (by kernel_rfl) (by kernel_rfl) (by kernel_rfl) (fun _ _ _ h => h) (Or.inl ⟨by rfl, ?_⟩) (by assumption) ?_
      · intro W' hSw
        obtain ⟨l1, l2⟩ := HB.out W' hSw
        go_simp
      try simp only [Act.put, List.getElem_toArray, List.getElem_cons_zero, List.getElem_cons_succ, List.setIfInBounds_toArray, List.set_cons_zero, List.set_cons_succ]
      refine AnyL.take 23 (.int .i64 0) rfl (by kernel_rfl) (by kernel_rfl) (by kernel_rfl) (by kernel_rfl) (fun _ _ _ h => h) (Or.inl ⟨by rfl, ?_⟩) (by assumption) ?_
      · intro W' hSw
        obtain ⟨l1, l2⟩ := HB.out W' hSw
        go_simp
      try simp only [Act.put, List.getElem_toArray, List.getElem_cons_zero, List.getElem_cons_succ, List.setIfInBounds_toArray, List.set_cons_zero, List.set_cons_succ]
      have bx' := (eC.block nb (lt_heap bx)).trans bx
      have b0 := box_cell bx' 0
      have b1' := box_cell bx' 1
      have fz0 := box_frozen bx' 0
      have fz1 := box_frozen bx' 1
      simp only [List.getElem?_toArray, List.getElem?_cons_succ, List.getElem?_cons_zero] at b0 b1'
      refine AnyL.next 25 (by kernel_rfl) rfl (fun K hK => ?_)
      go_simp
      have e7 := (Below.setCell (p := ⟨nb, 0, none⟩) e5 (by simp only; omega) (.slice F 0 f)).setCell (p := ⟨nb, 1, none⟩) (by simp only; omega) (.slice G 1 g)
      have x8 := two_cells (x := .slice F 0 f) (y := .slice G 1 g) bx'
      have hp8 : PgV ((w5.setCell ⟨nb, 0, none⟩ (.slice F 0 f)).setCell ⟨nb, 1, none⟩ (.slice G 1 g)).heap.size ((w5.setCell ⟨nb, 0, none⟩ (.slice F 0 f)).setCell ⟨nb, 1, none⟩ (.slice G 1 g)) (.agg #[.slice F 0 f, .slice G 1 g]) _ := (hv.kp (kp_two (x := .slice F 0 f) (y := .slice G 1 g) (lt_heap bx)) (Nat.le_refl _)).pgv
      obtain ⟨w8, hw8⟩ : ∃ w8, (w5.setCell ⟨nb, 0, none⟩ (.slice F 0 f)).setCell ⟨nb, 1, none⟩ (.slice G 1 g) = w8 := ⟨_, rfl⟩
      rw [hw8] at e7 x8 hp8 ⊢
      clear hw8
      refine hK.out _ _ (fun _ => e7) ?_
      clear hK K
      try simp only [Act.put, List.getElem_toArray, List.getElem_cons_zero, List.getElem_cons_succ, List.setIfInBounds_toArray, List.set_cons_zero, List.set_cons_succ]
      refine AnyL.take 26 (.int .i64 0) rfl (by kernel_rfl) (by kernel_rfl) (by kernel_rfl) (by kernel_rfl) (fun _ _ _ h => h) (Or.inl ⟨by rfl, ?_⟩) (by assumption) ?_
      · intro W' hSw
        obtain ⟨l1, l2⟩ := HB.out W' hSw
        go_simp
      try simp only [Act.put, List.getElem_toArray, List.getElem_cons_zero, List.getElem_cons_succ, List.setIfInBounds_toArray, List.set_cons_zero, List.set_cons_succ]
      refine AnyL.next 27 (by kernel_rfl) rfl (fun K hK => ?_)
      go_simp
      refine hK.out _ _ (fun _ => e7) ?_
      clear hK K
      try simp only [Act.put, List.getElem_toArray, List.getElem_cons_zero, List.getElem_cons_succ, List.setIfInBounds_toArray, List.set_cons_zero, List.set_cons_succ]
      refine AnyL.done (by kernel_rfl) ?_
      go_wp2_with fail
      go_meet
      exact ⟨nb, F, f, G, g, rfl, rfl, rfl, x8, hp8, e7⟩
  case rest =>
  obtain ⟨nb10, F10', f10', G10', g10', rfl, rfl, rfl, P10, hp10, eM⟩ := hcut
  obtain ⟨u10, rfl⟩ : ∃ u, u = wc := ⟨_, rfl⟩
  have P8 := (eM.block _ (lt_heap P8)).trans P8
  have hp8 := hp8.below eM eM.size
  have P9 := (eM.block _ (lt_heap P9)).trans P9
  have hp9 := hp9.below eM eM.size
  have E10 : Below u2.heap.size u2 u10 := E9.trans (eM.mono E9.size)
  have F10 := F9.below eM
  clear eM
  have b80 := box_cell P8 0
  have b81 := box_cell P8 1
  have b90 := box_cell P9 0
  have b91 := box_cell P9 1
  have bX0 := box_cell P10 0
  have bX1 := box_cell P10 1
  simp only [List.getElem?_toArray, List.getElem?_cons_succ, List.getElem?_cons_zero] at b80 b81 b90 b91 bX0 bX1
  have HE1 := Lib.hid (show Calls Try.prog 14 #[.agg #[.slice F9' 0 f9', .slice G9' 1 g9'], .agg #[.slice F10' 0 f10', .slice G10' 1 g10']] u10 (fun e w' => e = .returned (.bool false) ∧ Below u10.heap.size u10 w') from (equal_any _ _ _ _ u10 _ (Nat.le_refl _) hp9 hp10).mono fun e w' he => ⟨he.1.trans (by rw [Bool.eq_false_iff.2 (fun h => HNE.out ((eqG_iff _ _).1 h))]), he.2⟩)
  go_upto_region 13 with (go_at_call 14; ((with_reducible refine HE1.out.mono ?_); rintro e w6 ⟨rfl, e6⟩))
  have F6 := F10.below e6
  have P8 := (e6.block _ (lt_heap P8)).trans P8
  have P9 := (e6.block _ (lt_heap P9)).trans P9
  have P10 := (e6.block _ (lt_heap P10)).trans P10
  have hp8 := hp8.below e6 e6.size
  have hp9 := hp9.below e6 e6.size
  have hp10 := hp10.below e6 e6.size
  go_upto_region 14 with (go_at_call 17; first
    | ((with_reducible refine (HBA.out _).mono ?_); rintro e w7 ⟨rfl, e7⟩)
    | ((with_reducible refine (HBB.out _).mono ?_); rintro e w8 ⟨rfl, e8⟩))
  have F7 := (F6.below e7).below e8
  have P8 := (e8.block _ (lt_heap ((e7.block _ (lt_heap P8)).trans P8))).trans ((e7.block _ (lt_heap P8)).trans P8)
  have P9 := (e8.block _ (lt_heap ((e7.block _ (lt_heap P9)).trans P9))).trans ((e7.block _ (lt_heap P9)).trans P9)
  have P10 := (e8.block _ (lt_heap ((e7.block _ (lt_heap P10)).trans P10))).trans ((e7.block _ (lt_heap P10)).trans P10)
  have hp8 := (hp8.below e7 e7.size).below e8 e8.size
  have hp9 := (hp9.below e7 e7.size).below e8 e8.size
  have hp10 := (hp10.below e7 e7.size).below e8 e8.size
  have b80 := box_cell P8 0
  have b81 := box_cell P8 1
  have b90 := box_cell P9 0
  have b91 := box_cell P9 1
  have bX0 := box_cell P10 0
  have bX1 := box_cell P10 1
  simp only [List.getElem?_toArray, List.getElem?_cons_succ, List.getElem?_cons_zero] at b80 b81 b90 b91 bX0 bX1
  have HE2 := Lib.hid (show Calls Try.prog 14 #[.agg #[.slice F8' 0 f8', .slice G8' 1 g8'], .agg #[.slice F9' 0 f9', .slice G9' 1 g9']] w8 (fun e w' => e = .returned (.bool true) ∧ Below w8.heap.size w8 w') from (equal_any _ _ _ _ w8 _ (Nat.le_refl _) hp8 hp9).mono fun e w' he => ⟨he.1.trans (by rw [(eqG_iff _ _).2 rfl]), he.2⟩)
  go_wp2_with (go_at_call 14; ((with_reducible refine HE2.out.mono ?_); rintro e w9 ⟨rfl, e9⟩))
  go_ret
  exact ⟨rfl, F7.below e9⟩

set_option maxHeartbeats 4000000 in
set_option maxRecDepth 100000 in
theorem binds_r (i1 i2 i3 i4 i5 N P : Int) (x y z a b : Nat) (w : World) (hN : bits BinOp.and IntKind.i64 i1 65535 = N) (hP : bits BinOp.and IntKind.i64 i2 65535 = P) (hA : N.tmod 9 = (a : Int)) (hB : P.tmod 9 = (b : Int)) (ha : a < 9) (hb : b < 9)
    (hX : bits BinOp.and IntKind.i64 i3 63 = (x : Int)) (hY : bits BinOp.and IntKind.i64 i4 63 = (y : Int)) (hZ : bits BinOp.and IntKind.i64 i5 63 = (z : Int)) (hx : x < 100) (hy : y < 100) (hz : z < 100) (hl : lv a < lv b) :
    Calls Try.prog 6 #[.int .i64 i1, .int .i64 i2, .int .i64 i3, .int .i64 i4, .int .i64 i5] w fun e w' => e = .returned (.bool true) ∧ Fr w w' := by
  have h := Fr.refl w
  have HS := Lib.hid (shown4_fr w w h)
  have HNX := Lib.hid (fun w => number_any x hx w)
  have HNY := Lib.hid (fun w => number_any y hy w)
  have HNZ := Lib.hid (fun w => number_any z hz w)
  have HMK := Lib.hid (fun w => (⟨mk_cell w ha, mk_cell w hb⟩ : (w.alloc OM).cell? ⟨w.heap.size, a, none⟩ = some (.string (baT (mkB a))) ∧ (w.alloc OM).cell? ⟨w.heap.size, b, none⟩ = some (.string (baT (mkB b)))))
  have HBA := Lib.hid (fun w => bindsf_any a ha w)
  have HBB := Lib.hid (fun w => bindsf_any b hb w)
  obtain ⟨r8, ht8⟩ := plain_is hx hy hz ha hb
  obtain ⟨r9, ht9⟩ := left_is hx hy hz ha hb
  obtain ⟨r10, ht10⟩ := right_is hx hy hz ha hb
  rw [if_neg (by omega)] at ht8
  have sx : (baT (dg x)).size ≤ 2 := by rw [baT_size]; exact dg_two
  have sy : (baT (dg y)).size ≤ 2 := by rw [baT_size]; exact dg_two
  have sz : (baT (dg z)).size ≤ 2 := by rw [baT_size]; exact dg_two
  have sa : (baT (mkB a)).size ≤ 2 := by rw [baT_size]; exact mk_size ⟨a, ha⟩
  have sb : (baT (mkB b)).size ≤ 2 := by rw [baT_size]; exact mk_size ⟨b, hb⟩
  have HQ8 := Lib.hid (fun X blk cap (hc : 6 + (baT (dg x)).size + 1 + (baT (mkB a)).size + 1 + (baT (dg y)).size + 1 + (baT (mkB b)).size + 1 + (baT (dg z)).size + 1 ≤ cap) (hr : Row X (some ⟨blk, 0, none⟩) ((⟨#[112, 114, 105, 110, 116, 32]⟩ : ByteArray) ++ baT (dg x) ++ ⟨#[32]⟩ ++ baT (mkB a) ++ ⟨#[32]⟩ ++ baT (dg y) ++ ⟨#[32]⟩ ++ baT (mkB b) ++ ⟨#[32]⟩ ++ baT (dg z) ++ ⟨#[59]⟩).data.toList) => (p_gv (e := eRi x y z a b) (l := ((⟨#[112, 114, 105, 110, 116, 32]⟩ : ByteArray) ++ baT (dg x) ++ ⟨#[32]⟩ ++ baT (mkB a) ++ ⟨#[32]⟩ ++ baT (dg y) ++ ⟨#[32]⟩ ++ baT (mkB b) ++ ⟨#[32]⟩ ++ baT (dg z) ++ ⟨#[59]⟩).data.toList) ((congrArg tl (by rw [bat_app, bat_app, bat_app, bat_app, bat_app, bat_app, bat_app, bat_app, bat_app, bat_app]; rfl)).trans ht8) (some ⟨blk, 0, none⟩) (6 + (baT (dg x)).size + 1 + (baT (mkB a)).size + 1 + (baT (dg y)).size + 1 + (baT (mkB b)).size + 1 + (baT (dg z)).size + 1) cap X (by rw [bat_app, bat_app, bat_app, bat_app, bat_app, bat_app, bat_app, bat_app, bat_app, bat_app]; simp only [List.length_append]; rfl) (by omega) hc hr))
  have k8_0 : ¬ 9223372036854775807 < 6 + (baT (dg x)).size := by omega
  have k8_1 : ¬ 9223372036854775807 < 6 + (baT (dg x)).size + 1 := by omega
  have k8_2 : ¬ 9223372036854775807 < 6 + (baT (dg x)).size + 1 + (baT (mkB a)).size := by omega
  have k8_3 : ¬ 9223372036854775807 < 6 + (baT (dg x)).size + 1 + (baT (mkB a)).size + 1 := by omega
  have k8_4 : ¬ 9223372036854775807 < 6 + (baT (dg x)).size + 1 + (baT (mkB a)).size + 1 + (baT (dg y)).size := by omega
  have k8_5 : ¬ 9223372036854775807 < 6 + (baT (dg x)).size + 1 + (baT (mkB a)).size + 1 + (baT (dg y)).size + 1 := by omega
  have k8_6 : ¬ 9223372036854775807 < 6 + (baT (dg x)).size + 1 + (baT (mkB a)).size + 1 + (baT (dg y)).size + 1 + (baT (mkB b)).size := by omega
  have k8_7 : ¬ 9223372036854775807 < 6 + (baT (dg x)).size + 1 + (baT (mkB a)).size + 1 + (baT (dg y)).size + 1 + (baT (mkB b)).size + 1 := by omega
  have k8_8 : ¬ 9223372036854775807 < 6 + (baT (dg x)).size + 1 + (baT (mkB a)).size + 1 + (baT (dg y)).size + 1 + (baT (mkB b)).size + 1 + (baT (dg z)).size := by omega
  have k8_9 : ¬ 9223372036854775807 < 6 + (baT (dg x)).size + 1 + (baT (mkB a)).size + 1 + (baT (dg y)).size + 1 + (baT (mkB b)).size + 1 + (baT (dg z)).size + 1 := by omega
  have HQ9 := Lib.hid (fun X blk cap (hc : 7 + (baT (dg x)).size + (baT (mkB a)).size + (baT (dg y)).size + 1 + (baT (mkB b)).size + (baT (dg z)).size + 1 ≤ cap) (hr : Row X (some ⟨blk, 0, none⟩) ((⟨#[112, 114, 105, 110, 116, 32, 40]⟩ : ByteArray) ++ baT (dg x) ++ baT (mkB a) ++ baT (dg y) ++ ⟨#[41]⟩ ++ baT (mkB b) ++ baT (dg z) ++ ⟨#[59]⟩).data.toList) => (p_gv (e := eLe x y z a b) (l := ((⟨#[112, 114, 105, 110, 116, 32, 40]⟩ : ByteArray) ++ baT (dg x) ++ baT (mkB a) ++ baT (dg y) ++ ⟨#[41]⟩ ++ baT (mkB b) ++ baT (dg z) ++ ⟨#[59]⟩).data.toList) ((congrArg tl (by rw [bat_app, bat_app, bat_app, bat_app, bat_app, bat_app, bat_app]; rfl)).trans ht9) (some ⟨blk, 0, none⟩) (7 + (baT (dg x)).size + (baT (mkB a)).size + (baT (dg y)).size + 1 + (baT (mkB b)).size + (baT (dg z)).size + 1) cap X (by rw [bat_app, bat_app, bat_app, bat_app, bat_app, bat_app, bat_app]; simp only [List.length_append]; rfl) (by omega) hc hr))
  have k9_0 : ¬ 9223372036854775807 < 7 + (baT (dg x)).size := by omega
  have k9_1 : ¬ 9223372036854775807 < 7 + (baT (dg x)).size + (baT (mkB a)).size := by omega
  have k9_2 : ¬ 9223372036854775807 < 7 + (baT (dg x)).size + (baT (mkB a)).size + (baT (dg y)).size := by omega
  have k9_3 : ¬ 9223372036854775807 < 7 + (baT (dg x)).size + (baT (mkB a)).size + (baT (dg y)).size + 1 := by omega
  have k9_4 : ¬ 9223372036854775807 < 7 + (baT (dg x)).size + (baT (mkB a)).size + (baT (dg y)).size + 1 + (baT (mkB b)).size := by omega
  have k9_5 : ¬ 9223372036854775807 < 7 + (baT (dg x)).size + (baT (mkB a)).size + (baT (dg y)).size + 1 + (baT (mkB b)).size + (baT (dg z)).size := by omega
  have k9_6 : ¬ 9223372036854775807 < 7 + (baT (dg x)).size + (baT (mkB a)).size + (baT (dg y)).size + 1 + (baT (mkB b)).size + (baT (dg z)).size + 1 := by omega
  have HQ10 := Lib.hid (fun X blk cap (hc : 6 + (baT (dg x)).size + (baT (mkB a)).size + 1 + (baT (dg y)).size + (baT (mkB b)).size + (baT (dg z)).size + 2 ≤ cap) (hr : Row X (some ⟨blk, 0, none⟩) ((⟨#[112, 114, 105, 110, 116, 32]⟩ : ByteArray) ++ baT (dg x) ++ baT (mkB a) ++ ⟨#[40]⟩ ++ baT (dg y) ++ baT (mkB b) ++ baT (dg z) ++ ⟨#[41, 59]⟩).data.toList) => (p_gv (e := eRi x y z a b) (l := ((⟨#[112, 114, 105, 110, 116, 32]⟩ : ByteArray) ++ baT (dg x) ++ baT (mkB a) ++ ⟨#[40]⟩ ++ baT (dg y) ++ baT (mkB b) ++ baT (dg z) ++ ⟨#[41, 59]⟩).data.toList) ((congrArg tl (by rw [bat_app, bat_app, bat_app, bat_app, bat_app, bat_app, bat_app]; rfl)).trans ht10) (some ⟨blk, 0, none⟩) (6 + (baT (dg x)).size + (baT (mkB a)).size + 1 + (baT (dg y)).size + (baT (mkB b)).size + (baT (dg z)).size + 2) cap X (by rw [bat_app, bat_app, bat_app, bat_app, bat_app, bat_app, bat_app]; simp only [List.length_append]; rfl) (by omega) hc hr))
  have k10_0 : ¬ 9223372036854775807 < 6 + (baT (dg x)).size := by omega
  have k10_1 : ¬ 9223372036854775807 < 6 + (baT (dg x)).size + (baT (mkB a)).size := by omega
  have k10_2 : ¬ 9223372036854775807 < 6 + (baT (dg x)).size + (baT (mkB a)).size + 1 := by omega
  have k10_3 : ¬ 9223372036854775807 < 6 + (baT (dg x)).size + (baT (mkB a)).size + 1 + (baT (dg y)).size := by omega
  have k10_4 : ¬ 9223372036854775807 < 6 + (baT (dg x)).size + (baT (mkB a)).size + 1 + (baT (dg y)).size + (baT (mkB b)).size := by omega
  have k10_5 : ¬ 9223372036854775807 < 6 + (baT (dg x)).size + (baT (mkB a)).size + 1 + (baT (dg y)).size + (baT (mkB b)).size + (baT (dg z)).size := by omega
  have k10_6 : ¬ 9223372036854775807 < 6 + (baT (dg x)).size + (baT (mkB a)).size + 1 + (baT (dg y)).size + (baT (mkB b)).size + (baT (dg z)).size + 2 := by omega
  have kb := run_bs
  have a9 : (a : Int) < 9 := by omega
  have b9 : (b : Int) < 9 := by omega
  have dl : decide ((lv b : Int) ≤ (lv a : Int)) = false := decide_eq_false (by omega)
  have dn : decide (lv b ≤ lv a) = false := decide_eq_false (by omega)
  have HNE := Lib.hid (le_ne_ri (x := x) (y := y) (z := z) (a := a) (b := b) ha)
  clear ht8 ht9 ht10 sx sy sz sa sb ha hb hx hy hz
  go_enter Try.func6, Try.ntmps6
  go_upto_region 4 with (go_at_call 11; ((with_reducible refine HS.out.mono ?_); rintro e w1 ⟨rfl, F1⟩))
  go_upto_region 5 with fail
  have hM1 := HMK.out w1
  have F2 := F1.alloc OM
  obtain ⟨n1, hn1⟩ : ∃ n, w1.heap.size = n := ⟨_, rfl⟩
  have z2 : n1 < (w1.alloc OM).heap.size := by simp; omega
  rw [hn1] at hM1 ⊢
  obtain ⟨u2, hu2⟩ : ∃ u, w1.alloc OM = u := ⟨_, rfl⟩
  rw [hu2] at hM1 F2 z2 ⊢
  clear hu2
  have HM := Lib.hid (fun w' (hb : Below u2.heap.size u2 w') => (⟨(hb.cell (p := ⟨n1, a, none⟩) z2).trans hM1.1, (hb.cell (p := ⟨n1, b, none⟩) z2).trans hM1.2⟩ : w'.cell? ⟨n1, a, none⟩ = some (.string (baT (mkB a))) ∧ w'.cell? ⟨n1, b, none⟩ = some (.string (baT (mkB b)))))
  clear hM1
  go_upto_region 8 with (first
    | (go_at_call 16; first
      | ((with_reducible refine (HNX.out _).mono ?_); rintro e w3 ⟨rfl, e3⟩)
      | ((with_reducible refine (HNY.out _).mono ?_); rintro e w4 ⟨rfl, e4⟩)
      | ((with_reducible refine (HNZ.out _).mono ?_); rintro e w5 ⟨rfl, e5⟩)))
  have E5 : Below u2.heap.size u2 w5 := e3.trans ((e4.trans (e5.mono e4.size)).mono e3.size)
  have F5 := F2.below E5
  clear e3 e4 e5
  go_cut [16, 17, 18] (fun p n e wx => Made w5 wx (pE (eRi x y z a b)) p n e)
  case first =>
    have HB := Lib.hid (fun w' (hb : Below w5.heap.size w5 w') => HM.out w' (E5.trans (hb.mono E5.size)))
    have hS0 : Below w5.heap.size w5 w5.drew := below_drw (Below.refl _ _)
    refine wp_region_late (fun w' => Below w5.heap.size w5 w') 30 (by kernel_rfl) ?_
    obtain ⟨zu, hzu⟩ : ∃ n, w5.heap.size = n := ⟨_, rfl⟩
    obtain ⟨u0, hu0⟩ : ∃ x, w5.drew = x := ⟨_, rfl⟩
    rw [hu0] at hS0 ⊢
    clear hu0
    refine AnyL.take 0 (.string (baT (dg x))) rfl (by kernel_rfl) (by kernel_rfl) (by kernel_rfl) (by kernel_rfl) (fun _ _ _ h => h) (Or.inl ⟨by rfl, ?_⟩) (by assumption) ?_
    · intro W' hSw
      obtain ⟨l1, l2⟩ := HB.out W' hSw
      go_simp
    try simp only [Act.put, List.getElem_toArray, List.getElem_cons_zero, List.setIfInBounds_toArray, List.set_cons_zero, List.set_cons_succ]
    refine AnyL.take 1 (.string ((⟨#[112, 114, 105, 110, 116, 32]⟩ : ByteArray) ++ baT (dg x))) rfl (by kernel_rfl) (by kernel_rfl) (by kernel_rfl) (by kernel_rfl) (fun _ _ _ h => h) (Or.inl ⟨by rfl, ?_⟩) (by assumption) ?_
    · intro W' hSw
      obtain ⟨l1, l2⟩ := HB.out W' hSw
      go_simp
    try simp only [Act.put, List.getElem_toArray, List.getElem_cons_zero, List.getElem_cons_succ, List.setIfInBounds_toArray, List.set_cons_zero, List.set_cons_succ]
    refine AnyL.take 2 (.string ((⟨#[112, 114, 105, 110, 116, 32]⟩ : ByteArray) ++ baT (dg x) ++ ⟨#[32]⟩)) rfl (by kernel_rfl) (by kernel_rfl) (by kernel_rfl) (by kernel_rfl) (fun _ _ _ h => h) (Or.inl ⟨by rfl, ?_⟩) (by assumption) ?_
    · intro W' hSw
      obtain ⟨l1, l2⟩ := HB.out W' hSw
      go_simp
    try simp only [Act.put, List.getElem_toArray, List.getElem_cons_zero, List.getElem_cons_succ, List.setIfInBounds_toArray, List.set_cons_zero, List.set_cons_succ]
    refine AnyL.take 3 (.slice (some ⟨n1, 0, none⟩) 9 9) rfl (by kernel_rfl) (by kernel_rfl) (by kernel_rfl) (by kernel_rfl) (fun _ _ _ h => h) (Or.inl ⟨by rfl, ?_⟩) (by assumption) ?_
    · intro W' hSw
      obtain ⟨l1, l2⟩ := HB.out W' hSw
      go_simp
    try simp only [Act.put, List.getElem_toArray, List.getElem_cons_zero, List.getElem_cons_succ, List.setIfInBounds_toArray, List.set_cons_zero, List.set_cons_succ]
    refine AnyL.take 4 (.int .i64 a) rfl (by kernel_rfl) (by kernel_rfl) (by kernel_rfl) (by kernel_rfl) (fun _ _ _ h => h) (Or.inl ⟨by rfl, ?_⟩) (by assumption) ?_
    · intro W' hSw
      obtain ⟨l1, l2⟩ := HB.out W' hSw
      go_simp
    try simp only [Act.put, List.getElem_toArray, List.getElem_cons_zero, List.getElem_cons_succ, List.setIfInBounds_toArray, List.set_cons_zero, List.set_cons_succ]
    refine AnyL.take 5 (.pointer (some ⟨n1, a, none⟩)) rfl (by kernel_rfl) (by kernel_rfl) (by kernel_rfl) (by kernel_rfl) (fun _ _ _ h => h) (Or.inl ⟨by rfl, ?_⟩) (by assumption) ?_
    · intro W' hSw
      obtain ⟨l1, l2⟩ := HB.out W' hSw
      go_simp
    try simp only [Act.put, List.getElem_toArray, List.getElem_cons_zero, List.getElem_cons_succ, List.setIfInBounds_toArray, List.set_cons_zero, List.set_cons_succ]
    refine AnyL.take 6 (.string (baT (mkB a))) rfl (by kernel_rfl) (by kernel_rfl) (by kernel_rfl) (by kernel_rfl) (fun _ _ _ h => h) (Or.inl ⟨by rfl, ?_⟩) (by assumption) ?_
    · intro W' hSw
      obtain ⟨l1, l2⟩ := HB.out W' hSw
      go_simp
    try simp only [Act.put, List.getElem_toArray, List.getElem_cons_zero, List.getElem_cons_succ, List.setIfInBounds_toArray, List.set_cons_zero, List.set_cons_succ]
    refine AnyL.take 7 (.string ((⟨#[112, 114, 105, 110, 116, 32]⟩ : ByteArray) ++ baT (dg x) ++ ⟨#[32]⟩ ++ baT (mkB a))) rfl (by kernel_rfl) (by kernel_rfl) (by kernel_rfl) (by kernel_rfl) (fun _ _ _ h => h) (Or.inl ⟨by rfl, ?_⟩) (by assumption) ?_
    · intro W' hSw
      obtain ⟨l1, l2⟩ := HB.out W' hSw
      go_simp
    try simp only [Act.put, List.getElem_toArray, List.getElem_cons_zero, List.getElem_cons_succ, List.setIfInBounds_toArray, List.set_cons_zero, List.set_cons_succ]
    refine AnyL.take 8 (.string ((⟨#[112, 114, 105, 110, 116, 32]⟩ : ByteArray) ++ baT (dg x) ++ ⟨#[32]⟩ ++ baT (mkB a) ++ ⟨#[32]⟩)) rfl (by kernel_rfl) (by kernel_rfl) (by kernel_rfl) (by kernel_rfl) (fun _ _ _ h => h) (Or.inl ⟨by rfl, ?_⟩) (by assumption) ?_
    · intro W' hSw
      obtain ⟨l1, l2⟩ := HB.out W' hSw
      go_simp
    try simp only [Act.put, List.getElem_toArray, List.getElem_cons_zero, List.getElem_cons_succ, List.setIfInBounds_toArray, List.set_cons_zero, List.set_cons_succ]
    refine AnyL.take 9 (.string (baT (dg y))) rfl (by kernel_rfl) (by kernel_rfl) (by kernel_rfl) (by kernel_rfl) (fun _ _ _ h => h) (Or.inl ⟨by rfl, ?_⟩) (by assumption) ?_
    · intro W' hSw
      obtain ⟨l1, l2⟩ := HB.out W' hSw
      go_simp
    try simp only [Act.put, List.getElem_toArray, List.getElem_cons_zero, List.getElem_cons_succ, List.setIfInBounds_toArray, List.set_cons_zero, List.set_cons_succ]
    refine AnyL.take 10 (.string ((⟨#[112, 114, 105, 110, 116, 32]⟩ : ByteArray) ++ baT (dg x) ++ ⟨#[32]⟩ ++ baT (mkB a) ++ ⟨#[32]⟩ ++ baT (dg y))) rfl (by kernel_rfl) (by kernel_rfl) (by kernel_rfl) (by kernel_rfl) (fun _ _ _ h => h) (Or.inl ⟨by rfl, ?_⟩) (by assumption) ?_
    · intro W' hSw
      obtain ⟨l1, l2⟩ := HB.out W' hSw
      go_simp
    try simp only [Act.put, List.getElem_toArray, List.getElem_cons_zero, List.getElem_cons_succ, List.setIfInBounds_toArray, List.set_cons_zero, List.set_cons_succ]
    refine AnyL.take 11 (.string ((⟨#[112, 114, 105, 110, 116, 32]⟩ : ByteArray) ++ baT (dg x) ++ ⟨#[32]⟩ ++ baT (mkB a) ++ ⟨#[32]⟩ ++ baT (dg y) ++ ⟨#[32]⟩)) rfl (by kernel_rfl) (by kernel_rfl) (by kernel_rfl) (by kernel_rfl) (fun _ _ _ h => h) (Or.inl ⟨by rfl, ?_⟩) (by assumption) ?_
    · intro W' hSw
      obtain ⟨l1, l2⟩ := HB.out W' hSw
      go_simp
    try simp only [Act.put, List.getElem_toArray, List.getElem_cons_zero, List.getElem_cons_succ, List.setIfInBounds_toArray, List.set_cons_zero, List.set_cons_succ]
    refine AnyL.take 12 (.slice (some ⟨n1, 0, none⟩) 9 9) rfl (by kernel_rfl) (by kernel_rfl) (by kernel_rfl) (by kernel_rfl) (fun _ _ _ h => h) (Or.inl ⟨by rfl, ?_⟩) (by assumption) ?_
    · intro W' hSw
      obtain ⟨l1, l2⟩ := HB.out W' hSw
      go_simp
    try simp only [Act.put, List.getElem_toArray, List.getElem_cons_zero, List.getElem_cons_succ, List.setIfInBounds_toArray, List.set_cons_zero, List.set_cons_succ]
    refine AnyL.take 13 (.int .i64 b) rfl (by kernel_rfl) (by kernel_rfl) (by kernel_rfl) (by kernel_rfl) (fun _ _ _ h => h) (Or.inl ⟨by rfl, ?_⟩) (by assumption) ?_
    · intro W' hSw
      obtain ⟨l1, l2⟩ := HB.out W' hSw
      go_simp
    try simp only [Act.put, List.getElem_toArray, List.getElem_cons_zero, List.getElem_cons_succ, List.setIfInBounds_toArray, List.set_cons_zero, List.set_cons_succ]
    refine AnyL.take 14 (.pointer (some ⟨n1, b, none⟩)) rfl (by kernel_rfl) (by kernel_rfl) (by kernel_rfl) (by kernel_rfl) (fun _ _ _ h => h) (Or.inl ⟨by rfl, ?_⟩) (by assumption) ?_
    · intro W' hSw
      obtain ⟨l1, l2⟩ := HB.out W' hSw
      go_simp
    try simp only [Act.put, List.getElem_toArray, List.getElem_cons_zero, List.getElem_cons_succ, List.setIfInBounds_toArray, List.set_cons_zero, List.set_cons_succ]
    refine AnyL.take 15 (.string (baT (mkB b))) rfl (by kernel_rfl) (by kernel_rfl) (by kernel_rfl) (by kernel_rfl) (fun _ _ _ h => h) (Or.inl ⟨by rfl, ?_⟩) (by assumption) ?_
    · intro W' hSw
      obtain ⟨l1, l2⟩ := HB.out W' hSw
      go_simp
    try simp only [Act.put, List.getElem_toArray, List.getElem_cons_zero, List.getElem_cons_succ, List.setIfInBounds_toArray, List.set_cons_zero, List.set_cons_succ]
    refine AnyL.take 16 (.string ((⟨#[112, 114, 105, 110, 116, 32]⟩ : ByteArray) ++ baT (dg x) ++ ⟨#[32]⟩ ++ baT (mkB a) ++ ⟨#[32]⟩ ++ baT (dg y) ++ ⟨#[32]⟩ ++ baT (mkB b))) rfl (by kernel_rfl) (by kernel_rfl) (by kernel_rfl) (by kernel_rfl) (fun _ _ _ h => h) (Or.inl ⟨by rfl, ?_⟩) (by assumption) ?_
    · intro W' hSw
      obtain ⟨l1, l2⟩ := HB.out W' hSw
      go_simp
    try simp only [Act.put, List.getElem_toArray, List.getElem_cons_zero, List.getElem_cons_succ, List.setIfInBounds_toArray, List.set_cons_zero, List.set_cons_succ]
    refine AnyL.take 17 (.string ((⟨#[112, 114, 105, 110, 116, 32]⟩ : ByteArray) ++ baT (dg x) ++ ⟨#[32]⟩ ++ baT (mkB a) ++ ⟨#[32]⟩ ++ baT (dg y) ++ ⟨#[32]⟩ ++ baT (mkB b) ++ ⟨#[32]⟩)) rfl (by kernel_rfl) (by kernel_rfl) (by kernel_rfl) (by kernel_rfl) (fun _ _ _ h => h) (Or.inl ⟨by rfl, ?_⟩) (by assumption) ?_
    · intro W' hSw
      obtain ⟨l1, l2⟩ := HB.out W' hSw
      go_simp
    try simp only [Act.put, List.getElem_toArray, List.getElem_cons_zero, List.getElem_cons_succ, List.setIfInBounds_toArray, List.set_cons_zero, List.set_cons_succ]
    refine AnyL.take 18 (.string (baT (dg z))) rfl (by kernel_rfl) (by kernel_rfl) (by kernel_rfl) (by kernel_rfl) (fun _ _ _ h => h) (Or.inl ⟨by rfl, ?_⟩) (by assumption) ?_
    · intro W' hSw
      obtain ⟨l1, l2⟩ := HB.out W' hSw
      go_simp
    try simp only [Act.put, List.getElem_toArray, List.getElem_cons_zero, List.getElem_cons_succ, List.setIfInBounds_toArray, List.set_cons_zero, List.set_cons_succ]
    refine AnyL.take 19 (.string ((⟨#[112, 114, 105, 110, 116, 32]⟩ : ByteArray) ++ baT (dg x) ++ ⟨#[32]⟩ ++ baT (mkB a) ++ ⟨#[32]⟩ ++ baT (dg y) ++ ⟨#[32]⟩ ++ baT (mkB b) ++ ⟨#[32]⟩ ++ baT (dg z))) rfl (by kernel_rfl) (by kernel_rfl) (by kernel_rfl) (by kernel_rfl) (fun _ _ _ h => h) (Or.inl ⟨by rfl, ?_⟩) (by assumption) ?_
    · intro W' hSw
      obtain ⟨l1, l2⟩ := HB.out W' hSw
      go_simp
    try simp only [Act.put, List.getElem_toArray, List.getElem_cons_zero, List.getElem_cons_succ, List.setIfInBounds_toArray, List.set_cons_zero, List.set_cons_succ]
    refine AnyL.take 20 (.string ((⟨#[112, 114, 105, 110, 116, 32]⟩ : ByteArray) ++ baT (dg x) ++ ⟨#[32]⟩ ++ baT (mkB a) ++ ⟨#[32]⟩ ++ baT (dg y) ++ ⟨#[32]⟩ ++ baT (mkB b) ++ ⟨#[32]⟩ ++ baT (dg z) ++ ⟨#[59]⟩)) rfl (by kernel_rfl) (by kernel_rfl) (by kernel_rfl) (by kernel_rfl) (fun _ _ _ h => h) (Or.inl ⟨by rfl, ?_⟩) (by assumption) ?_
    · intro W' hSw
      obtain ⟨l1, l2⟩ := HB.out W' hSw
      go_simp
    try simp only [Act.put, List.getElem_toArray, List.getElem_cons_zero, List.getElem_cons_succ, List.setIfInBounds_toArray, List.set_cons_zero, List.set_cons_succ]
    refine AnyL.both 21 27 (by kernel_rfl) rfl rfl (fun K hK => ?_) (fun K hK => ?_)
    · go_simp
      have eA : Below w5.heap.size w5 (u0.alloc (.cells (bytesRow ((⟨#[112, 114, 105, 110, 116, 32]⟩ : ByteArray) ++ baT (dg x) ++ ⟨#[32]⟩ ++ baT (mkB a) ++ ⟨#[32]⟩ ++ baT (dg y) ++ ⟨#[32]⟩ ++ baT (mkB b) ++ ⟨#[32]⟩ ++ baT (dg z) ++ ⟨#[59]⟩) (grownCap u0 (6 + (baT (dg x)).size + 1 + (baT (mkB a)).size + 1 + (baT (dg y)).size + 1 + (baT (mkB b)).size + 1 + (baT (dg z)).size + 1) 0 5)) 5 ((bytesRow ((⟨#[112, 114, 105, 110, 116, 32]⟩ : ByteArray) ++ baT (dg x) ++ ⟨#[32]⟩ ++ baT (mkB a) ++ ⟨#[32]⟩ ++ baT (dg y) ++ ⟨#[32]⟩ ++ baT (mkB b) ++ ⟨#[32]⟩ ++ baT (dg z) ++ ⟨#[59]⟩) (grownCap u0 (6 + (baT (dg x)).size + 1 + (baT (mkB a)).size + 1 + (baT (dg y)).size + 1 + (baT (mkB b)).size + 1 + (baT (dg z)).size + 1) 0 5)).size, (bytesRow ((⟨#[112, 114, 105, 110, 116, 32]⟩ : ByteArray) ++ baT (dg x) ++ ⟨#[32]⟩ ++ baT (mkB a) ++ ⟨#[32]⟩ ++ baT (dg y) ++ ⟨#[32]⟩ ++ baT (mkB b) ++ ⟨#[32]⟩ ++ baT (dg z) ++ ⟨#[59]⟩) (grownCap u0 (6 + (baT (dg x)).size + 1 + (baT (mkB a)).size + 1 + (baT (dg y)).size + 1 + (baT (mkB b)).size + 1 + (baT (dg z)).size + 1) 0 5)).size + 1))).drew := below_drw (hS0.alloc hS0.size _)
      have rA : Row (u0.alloc (.cells (bytesRow ((⟨#[112, 114, 105, 110, 116, 32]⟩ : ByteArray) ++ baT (dg x) ++ ⟨#[32]⟩ ++ baT (mkB a) ++ ⟨#[32]⟩ ++ baT (dg y) ++ ⟨#[32]⟩ ++ baT (mkB b) ++ ⟨#[32]⟩ ++ baT (dg z) ++ ⟨#[59]⟩) (grownCap u0 (6 + (baT (dg x)).size + 1 + (baT (mkB a)).size + 1 + (baT (dg y)).size + 1 + (baT (mkB b)).size + 1 + (baT (dg z)).size + 1) 0 5)) 5 ((bytesRow ((⟨#[112, 114, 105, 110, 116, 32]⟩ : ByteArray) ++ baT (dg x) ++ ⟨#[32]⟩ ++ baT (mkB a) ++ ⟨#[32]⟩ ++ baT (dg y) ++ ⟨#[32]⟩ ++ baT (mkB b) ++ ⟨#[32]⟩ ++ baT (dg z) ++ ⟨#[59]⟩) (grownCap u0 (6 + (baT (dg x)).size + 1 + (baT (mkB a)).size + 1 + (baT (dg y)).size + 1 + (baT (mkB b)).size + 1 + (baT (dg z)).size + 1) 0 5)).size, (bytesRow ((⟨#[112, 114, 105, 110, 116, 32]⟩ : ByteArray) ++ baT (dg x) ++ ⟨#[32]⟩ ++ baT (mkB a) ++ ⟨#[32]⟩ ++ baT (dg y) ++ ⟨#[32]⟩ ++ baT (mkB b) ++ ⟨#[32]⟩ ++ baT (dg z) ++ ⟨#[59]⟩) (grownCap u0 (6 + (baT (dg x)).size + 1 + (baT (mkB a)).size + 1 + (baT (dg y)).size + 1 + (baT (mkB b)).size + 1 + (baT (dg z)).size + 1) 0 5)).size + 1))).drew (some ⟨u0.heap.size, 0, none⟩) ((⟨#[112, 114, 105, 110, 116, 32]⟩ : ByteArray) ++ baT (dg x) ++ ⟨#[32]⟩ ++ baT (mkB a) ++ ⟨#[32]⟩ ++ baT (dg y) ++ ⟨#[32]⟩ ++ baT (mkB b) ++ ⟨#[32]⟩ ++ baT (dg z) ++ ⟨#[59]⟩).data.toList := row_bb u0 _ _
      obtain ⟨wa, hwa⟩ : ∃ wa, (u0.alloc (.cells (bytesRow ((⟨#[112, 114, 105, 110, 116, 32]⟩ : ByteArray) ++ baT (dg x) ++ ⟨#[32]⟩ ++ baT (mkB a) ++ ⟨#[32]⟩ ++ baT (dg y) ++ ⟨#[32]⟩ ++ baT (mkB b) ++ ⟨#[32]⟩ ++ baT (dg z) ++ ⟨#[59]⟩) (grownCap u0 (6 + (baT (dg x)).size + 1 + (baT (mkB a)).size + 1 + (baT (dg y)).size + 1 + (baT (mkB b)).size + 1 + (baT (dg z)).size + 1) 0 5)) 5 ((bytesRow ((⟨#[112, 114, 105, 110, 116, 32]⟩ : ByteArray) ++ baT (dg x) ++ ⟨#[32]⟩ ++ baT (mkB a) ++ ⟨#[32]⟩ ++ baT (dg y) ++ ⟨#[32]⟩ ++ baT (mkB b) ++ ⟨#[32]⟩ ++ baT (dg z) ++ ⟨#[59]⟩) (grownCap u0 (6 + (baT (dg x)).size + 1 + (baT (mkB a)).size + 1 + (baT (dg y)).size + 1 + (baT (mkB b)).size + 1 + (baT (dg z)).size + 1) 0 5)).size, (bytesRow ((⟨#[112, 114, 105, 110, 116, 32]⟩ : ByteArray) ++ baT (dg x) ++ ⟨#[32]⟩ ++ baT (mkB a) ++ ⟨#[32]⟩ ++ baT (dg y) ++ ⟨#[32]⟩ ++ baT (mkB b) ++ ⟨#[32]⟩ ++ baT (dg z) ++ ⟨#[59]⟩) (grownCap u0 (6 + (baT (dg x)).size + 1 + (baT (mkB a)).size + 1 + (baT (dg y)).size + 1 + (baT (mkB b)).size + 1 + (baT (dg z)).size + 1) 0 5)).size + 1))).drew = wa := ⟨_, rfl⟩
      rw [hwa] at eA rA ⊢
      clear hwa
      refine hK.out _ _ (fun _ => eA) ?_
      clear hK K
      try simp only [Act.put, List.getElem_toArray, List.getElem_cons_zero, List.getElem_cons_succ, List.setIfInBounds_toArray, List.set_cons_zero, List.set_cons_succ]
      refine AnyL.both 22 27 (by kernel_rfl) rfl rfl (fun K hK => ?_) (fun K hK => ?_)
      · go_simp
        go_at_call 13
        refine (HQ8.out wa _ _ (grownCap_ge _ _ _ _) (rA)).mono ?_
        rintro e5 w5 ⟨⟨F, f, G, g, rfl, hv⟩, eC⟩
        go_wp2_with fail
        have e5 := eA.trans (eC.mono (eA).size)
        refine hK.out _ _ (fun _ => e5) ?_
        clear hK K
        try simp only [Act.put, List.getElem_toArray, List.getElem_cons_zero, List.getElem_cons_succ, List.setIfInBounds_toArray, List.set_cons_zero, List.set_cons_succ]
        refine AnyL.take 23 (.tuple #[.agg #[.slice F 0 f, .slice G 1 g], .int .i64 0, .int .i64 0]) rfl (by kernel_rfl) (by kernel_rfl) (by kernel_rfl) (by kernel_rfl) (fun _ _ _ h => h) (Or.inl ⟨by rfl, ?_⟩) (by assumption) ?_
        · intro W' hSw
          obtain ⟨l1, l2⟩ := HB.out W' hSw
          go_simp
        try simp only [Act.put, List.getElem_toArray, List.getElem_cons_zero, List.getElem_cons_succ, List.setIfInBounds_toArray, List.set_cons_zero, List.set_cons_succ]
        refine AnyL.take 24 ((.agg #[.slice F 0 f, .slice G 1 g])) rfl (by kernel_rfl) (by kernel_rfl) (by kernel_rfl) (by kernel_rfl) (fun _ _ _ h => h) (Or.inl ⟨by rfl, ?_⟩) (by assumption) ?_
        · intro W' hSw
          obtain ⟨l1, l2⟩ := HB.out W' hSw
          go_simp
        try simp only [Act.put, List.getElem_toArray, List.getElem_cons_zero, List.getElem_cons_succ, List.setIfInBounds_toArray, List.set_cons_zero, List.set_cons_succ]
        refine AnyL.take 25 (.int .i64 0) rfl (by kernel_rfl) (by kernel_rfl) (by kernel_rfl) (by kernel_rfl) (fun _ _ _ h => h) (Or.inl ⟨by rfl, ?_⟩) (by assumption) ?_
        · intro W' hSw
          obtain ⟨l1, l2⟩ := HB.out W' hSw
          go_simp
        try simp only [Act.put, List.getElem_toArray, List.getElem_cons_zero, List.getElem_cons_succ, List.setIfInBounds_toArray, List.set_cons_zero, List.set_cons_succ]
        refine AnyL.take 26 (.int .i64 0) rfl (by kernel_rfl) (by kernel_rfl) (by kernel_rfl) (by kernel_rfl) (fun _ _ _ h => h) (Or.inl ⟨by rfl, ?_⟩) (by assumption) ?_
        · intro W' hSw
          obtain ⟨l1, l2⟩ := HB.out W' hSw
          go_simp
        try simp only [Act.put, List.getElem_toArray, List.getElem_cons_zero, List.getElem_cons_succ, List.setIfInBounds_toArray, List.set_cons_zero, List.set_cons_succ]
        refine AnyL.next 27 (by kernel_rfl) rfl (fun K hK => ?_)
        go_simp
        have e6 := e5.alloc e5.size P2
        have bx := heap_alloc_new w5 P2
        have hz6 := e5.size
        have hp6 := hv.pgv.below ((Below.refl w5.heap.size w5).alloc (Nat.le_refl _) P2) (Nat.le_refl _)
        obtain ⟨wc', hwc⟩ : ∃ wc, w5.alloc P2 = wc := ⟨_, rfl⟩
        rw [hwc] at e6 bx hp6 ⊢
        clear hwc
        obtain ⟨nb, hnb⟩ : ∃ nb, w5.heap.size = nb := ⟨_, rfl⟩
        rw [hnb] at bx hz6 hp6 ⊢
        refine hK.out _ _ (fun _ => e6) ?_
        clear hK K
        try simp only [Act.put, List.getElem_toArray, List.getElem_cons_zero, List.getElem_cons_succ, List.setIfInBounds_toArray, List.set_cons_zero, List.set_cons_succ]
        have b0 := box_cell bx 0
        have b1' := box_cell bx 1
        have fz0 := box_frozen bx 0
        have fz1 := box_frozen bx 1
        simp only [List.getElem?_toArray, List.getElem?_cons_succ, List.getElem?_cons_zero] at b0 b1'
        refine AnyL.next 28 (by kernel_rfl) rfl (fun K hK => ?_)
        go_simp
        have e7 := (Below.setCell (p := ⟨nb, 0, none⟩) e6 (by simp only; omega) (.slice F 0 f)).setCell (p := ⟨nb, 1, none⟩) (by simp only; omega) (.slice G 1 g)
        have x8 := two_cells (x := .slice F 0 f) (y := .slice G 1 g) bx
        have hp8 : PgV ((wc'.setCell ⟨nb, 0, none⟩ (.slice F 0 f)).setCell ⟨nb, 1, none⟩ (.slice G 1 g)).heap.size ((wc'.setCell ⟨nb, 0, none⟩ (.slice F 0 f)).setCell ⟨nb, 1, none⟩ (.slice G 1 g)) (.agg #[.slice F 0 f, .slice G 1 g]) _ := PgV.below hp6 (((Below.refl nb wc').setCell (p := ⟨nb, 0, none⟩) (Nat.le_refl _) (.slice F 0 f)).setCell (p := ⟨nb, 1, none⟩) (Nat.le_refl _) (.slice G 1 g)) (by have := lt_heap bx; simp; omega)
        obtain ⟨w8, hw8⟩ : ∃ w8, (wc'.setCell ⟨nb, 0, none⟩ (.slice F 0 f)).setCell ⟨nb, 1, none⟩ (.slice G 1 g) = w8 := ⟨_, rfl⟩
        rw [hw8] at e7 x8 hp8 ⊢
        clear hw8
        refine hK.out _ _ (fun _ => e7) ?_
        clear hK K
        try simp only [Act.put, List.getElem_toArray, List.getElem_cons_zero, List.getElem_cons_succ, List.setIfInBounds_toArray, List.set_cons_zero, List.set_cons_succ]
        refine AnyL.take 29 (.int .i64 0) rfl (by kernel_rfl) (by kernel_rfl) (by kernel_rfl) (by kernel_rfl) (fun _ _ _ h => h) (Or.inl ⟨by rfl, ?_⟩) (by assumption) ?_
        · intro W' hSw
          obtain ⟨l1, l2⟩ := HB.out W' hSw
          go_simp
        try simp only [Act.put, List.getElem_toArray, List.getElem_cons_zero, List.getElem_cons_succ, List.setIfInBounds_toArray, List.set_cons_zero, List.set_cons_succ]
        refine AnyL.next 30 (by kernel_rfl) rfl (fun K hK => ?_)
        go_simp
        refine hK.out _ _ (fun _ => e7) ?_
        clear hK K
        try simp only [Act.put, List.getElem_toArray, List.getElem_cons_zero, List.getElem_cons_succ, List.setIfInBounds_toArray, List.set_cons_zero, List.set_cons_succ]
        refine AnyL.done (by kernel_rfl) ?_
        go_wp2_with fail
        go_meet
        exact ⟨nb, F, f, G, g, rfl, rfl, rfl, x8, hp8, e7⟩
      · go_simp
        have e6 := eA.alloc eA.size P2
        have bx := heap_alloc_new wa P2
        have hz6 := eA.size
        have rB := rA.al2 P2
        obtain ⟨wc', hwc⟩ : ∃ wc, wa.alloc P2 = wc := ⟨_, rfl⟩
        rw [hwc] at e6 bx rB ⊢
        clear hwc
        obtain ⟨nb, hnb⟩ : ∃ nb, wa.heap.size = nb := ⟨_, rfl⟩
        rw [hnb] at bx hz6 ⊢
        refine hK.out _ _ (fun _ => e6) ?_
        clear hK K
        try simp only [Act.put, List.getElem_toArray, List.getElem_cons_zero, List.getElem_cons_succ, List.setIfInBounds_toArray, List.set_cons_zero, List.set_cons_succ]
        refine AnyL.next 22 (by kernel_rfl) rfl (fun K hK => ?_)
        go_simp
        go_at_call 13
        refine (HQ8.out wc' _ _ (grownCap_ge _ _ _ _) (rB)).mono ?_
        rintro e5 w5 ⟨⟨F, f, G, g, rfl, hv⟩, eC⟩
        go_wp2_with fail
        have e5 := e6.trans (eC.mono (e6).size)
        refine hK.out _ _ (fun _ => e5) ?_
        clear hK K
        try simp only [Act.put, List.getElem_toArray, List.getElem_cons_zero, List.getElem_cons_succ, List.setIfInBounds_toArray, List.set_cons_zero, List.set_cons_succ]
        refine AnyL.take 23 (.tuple #[.agg #[.slice F 0 f, .slice G 1 g], .int .i64 0, .int .i64 0]) rfl (by kernel_rfl) (by kernel_rfl) (by kernel_rfl) (by kernel_rfl) (fun _ _ _ h => h) (Or.inl ⟨by rfl, ?_⟩) (by assumption) ?_
        · intro W' hSw
          obtain ⟨l1, l2⟩ := HB.out W' hSw
          go_simp
        try simp only [Act.put, List.getElem_toArray, List.getElem_cons_zero, List.getElem_cons_succ, List.setIfInBounds_toArray, List.set_cons_zero, List.set_cons_succ]
        refine AnyL.take 24 ((.agg #[.slice F 0 f, .slice G 1 g])) rfl (by kernel_rfl) (by kernel_rfl) (by kernel_rfl) (by kernel_rfl) (fun _ _ _ h => h) (Or.inl ⟨by rfl, ?_⟩) (by assumption) ?_
        · intro W' hSw
          obtain ⟨l1, l2⟩ := HB.out W' hSw
          go_simp
        try simp only [Act.put, List.getElem_toArray, List.getElem_cons_zero, List.getElem_cons_succ, List.setIfInBounds_toArray, List.set_cons_zero, List.set_cons_succ]
        refine AnyL.take 25 (.int .i64 0) rfl (by kernel_rfl) (by kernel_rfl) (by kernel_rfl) (by kernel_rfl) (fun _ _ _ h => h) (Or.inl ⟨by rfl, ?_⟩) (by assumption) ?_
        · intro W' hSw
          obtain ⟨l1, l2⟩ := HB.out W' hSw
          go_simp
        try simp only [Act.put, List.getElem_toArray, List.getElem_cons_zero, List.getElem_cons_succ, List.setIfInBounds_toArray, List.set_cons_zero, List.set_cons_succ]
        refine AnyL.take 26 (.int .i64 0) rfl (by kernel_rfl) (by kernel_rfl) (by kernel_rfl) (by kernel_rfl) (fun _ _ _ h => h) (Or.inl ⟨by rfl, ?_⟩) (by assumption) ?_
        · intro W' hSw
          obtain ⟨l1, l2⟩ := HB.out W' hSw
          go_simp
        try simp only [Act.put, List.getElem_toArray, List.getElem_cons_zero, List.getElem_cons_succ, List.setIfInBounds_toArray, List.set_cons_zero, List.set_cons_succ]
        have bx' := (eC.block nb (lt_heap bx)).trans bx
        have b0 := box_cell bx' 0
        have b1' := box_cell bx' 1
        have fz0 := box_frozen bx' 0
        have fz1 := box_frozen bx' 1
        simp only [List.getElem?_toArray, List.getElem?_cons_succ, List.getElem?_cons_zero] at b0 b1'
        refine AnyL.next 28 (by kernel_rfl) rfl (fun K hK => ?_)
        go_simp
        have e7 := (Below.setCell (p := ⟨nb, 0, none⟩) e5 (by simp only; omega) (.slice F 0 f)).setCell (p := ⟨nb, 1, none⟩) (by simp only; omega) (.slice G 1 g)
        have x8 := two_cells (x := .slice F 0 f) (y := .slice G 1 g) bx'
        have hp8 : PgV ((w5.setCell ⟨nb, 0, none⟩ (.slice F 0 f)).setCell ⟨nb, 1, none⟩ (.slice G 1 g)).heap.size ((w5.setCell ⟨nb, 0, none⟩ (.slice F 0 f)).setCell ⟨nb, 1, none⟩ (.slice G 1 g)) (.agg #[.slice F 0 f, .slice G 1 g]) _ := (hv.kp (kp_two (x := .slice F 0 f) (y := .slice G 1 g) (lt_heap bx)) (Nat.le_refl _)).pgv
        obtain ⟨w8, hw8⟩ : ∃ w8, (w5.setCell ⟨nb, 0, none⟩ (.slice F 0 f)).setCell ⟨nb, 1, none⟩ (.slice G 1 g) = w8 := ⟨_, rfl⟩
        rw [hw8] at e7 x8 hp8 ⊢
        clear hw8
        refine hK.out _ _ (fun _ => e7) ?_
        clear hK K
        try simp only [Act.put, List.getElem_toArray, List.getElem_cons_zero, List.getElem_cons_succ, List.setIfInBounds_toArray, List.set_cons_zero, List.set_cons_succ]
        refine AnyL.take 29 (.int .i64 0) rfl (by kernel_rfl) (by kernel_rfl) (by kernel_rfl) (by kernel_rfl) (fun _ _ _ h => h) (Or.inl ⟨by rfl, ?_⟩) (by assumption) ?_
        · intro W' hSw
          obtain ⟨l1, l2⟩ := HB.out W' hSw
          go_simp
        try simp only [Act.put, List.getElem_toArray, List.getElem_cons_zero, List.getElem_cons_succ, List.setIfInBounds_toArray, List.set_cons_zero, List.set_cons_succ]
        refine AnyL.next 30 (by kernel_rfl) rfl (fun K hK => ?_)
        go_simp
        refine hK.out _ _ (fun _ => e7) ?_
        clear hK K
        try simp only [Act.put, List.getElem_toArray, List.getElem_cons_zero, List.getElem_cons_succ, List.setIfInBounds_toArray, List.set_cons_zero, List.set_cons_succ]
        refine AnyL.done (by kernel_rfl) ?_
        go_wp2_with fail
        go_meet
        exact ⟨nb, F, f, G, g, rfl, rfl, rfl, x8, hp8, e7⟩
    · go_simp
      have e6 : Below w5.heap.size w5 (u0.alloc P2) := hS0.alloc hS0.size _
      have bx : (u0.alloc P2).heap[u0.heap.size]? = some P2 := heap_alloc_new u0 P2
      have hz6 := hS0.size
      obtain ⟨wc', hwc⟩ : ∃ wc, u0.alloc P2 = wc := ⟨_, rfl⟩
      rw [hwc] at e6 bx ⊢
      clear hwc
      obtain ⟨nb, hnb⟩ : ∃ nb, u0.heap.size = nb := ⟨_, rfl⟩
      rw [hnb] at bx hz6 ⊢
      refine hK.out _ _ (fun _ => e6) ?_
      clear hK K
      try simp only [Act.put, List.getElem_toArray, List.getElem_cons_zero, List.getElem_cons_succ, List.setIfInBounds_toArray, List.set_cons_zero, List.set_cons_succ]
      refine AnyL.next 21 (by kernel_rfl) rfl (fun K hK => ?_)
      go_simp
      have eA : Below w5.heap.size w5 (wc'.alloc (.cells (bytesRow ((⟨#[112, 114, 105, 110, 116, 32]⟩ : ByteArray) ++ baT (dg x) ++ ⟨#[32]⟩ ++ baT (mkB a) ++ ⟨#[32]⟩ ++ baT (dg y) ++ ⟨#[32]⟩ ++ baT (mkB b) ++ ⟨#[32]⟩ ++ baT (dg z) ++ ⟨#[59]⟩) (grownCap wc' (6 + (baT (dg x)).size + 1 + (baT (mkB a)).size + 1 + (baT (dg y)).size + 1 + (baT (mkB b)).size + 1 + (baT (dg z)).size + 1) 0 5)) 5 ((bytesRow ((⟨#[112, 114, 105, 110, 116, 32]⟩ : ByteArray) ++ baT (dg x) ++ ⟨#[32]⟩ ++ baT (mkB a) ++ ⟨#[32]⟩ ++ baT (dg y) ++ ⟨#[32]⟩ ++ baT (mkB b) ++ ⟨#[32]⟩ ++ baT (dg z) ++ ⟨#[59]⟩) (grownCap wc' (6 + (baT (dg x)).size + 1 + (baT (mkB a)).size + 1 + (baT (dg y)).size + 1 + (baT (mkB b)).size + 1 + (baT (dg z)).size + 1) 0 5)).size, (bytesRow ((⟨#[112, 114, 105, 110, 116, 32]⟩ : ByteArray) ++ baT (dg x) ++ ⟨#[32]⟩ ++ baT (mkB a) ++ ⟨#[32]⟩ ++ baT (dg y) ++ ⟨#[32]⟩ ++ baT (mkB b) ++ ⟨#[32]⟩ ++ baT (dg z) ++ ⟨#[59]⟩) (grownCap wc' (6 + (baT (dg x)).size + 1 + (baT (mkB a)).size + 1 + (baT (dg y)).size + 1 + (baT (mkB b)).size + 1 + (baT (dg z)).size + 1) 0 5)).size + 1))).drew := below_drw (e6.alloc e6.size _)
      have rA : Row (wc'.alloc (.cells (bytesRow ((⟨#[112, 114, 105, 110, 116, 32]⟩ : ByteArray) ++ baT (dg x) ++ ⟨#[32]⟩ ++ baT (mkB a) ++ ⟨#[32]⟩ ++ baT (dg y) ++ ⟨#[32]⟩ ++ baT (mkB b) ++ ⟨#[32]⟩ ++ baT (dg z) ++ ⟨#[59]⟩) (grownCap wc' (6 + (baT (dg x)).size + 1 + (baT (mkB a)).size + 1 + (baT (dg y)).size + 1 + (baT (mkB b)).size + 1 + (baT (dg z)).size + 1) 0 5)) 5 ((bytesRow ((⟨#[112, 114, 105, 110, 116, 32]⟩ : ByteArray) ++ baT (dg x) ++ ⟨#[32]⟩ ++ baT (mkB a) ++ ⟨#[32]⟩ ++ baT (dg y) ++ ⟨#[32]⟩ ++ baT (mkB b) ++ ⟨#[32]⟩ ++ baT (dg z) ++ ⟨#[59]⟩) (grownCap wc' (6 + (baT (dg x)).size + 1 + (baT (mkB a)).size + 1 + (baT (dg y)).size + 1 + (baT (mkB b)).size + 1 + (baT (dg z)).size + 1) 0 5)).size, (bytesRow ((⟨#[112, 114, 105, 110, 116, 32]⟩ : ByteArray) ++ baT (dg x) ++ ⟨#[32]⟩ ++ baT (mkB a) ++ ⟨#[32]⟩ ++ baT (dg y) ++ ⟨#[32]⟩ ++ baT (mkB b) ++ ⟨#[32]⟩ ++ baT (dg z) ++ ⟨#[59]⟩) (grownCap wc' (6 + (baT (dg x)).size + 1 + (baT (mkB a)).size + 1 + (baT (dg y)).size + 1 + (baT (mkB b)).size + 1 + (baT (dg z)).size + 1) 0 5)).size + 1))).drew (some ⟨wc'.heap.size, 0, none⟩) ((⟨#[112, 114, 105, 110, 116, 32]⟩ : ByteArray) ++ baT (dg x) ++ ⟨#[32]⟩ ++ baT (mkB a) ++ ⟨#[32]⟩ ++ baT (dg y) ++ ⟨#[32]⟩ ++ baT (mkB b) ++ ⟨#[32]⟩ ++ baT (dg z) ++ ⟨#[59]⟩).data.toList := row_bb wc' _ _
      have bx : (wc'.alloc (.cells (bytesRow ((⟨#[112, 114, 105, 110, 116, 32]⟩ : ByteArray) ++ baT (dg x) ++ ⟨#[32]⟩ ++ baT (mkB a) ++ ⟨#[32]⟩ ++ baT (dg y) ++ ⟨#[32]⟩ ++ baT (mkB b) ++ ⟨#[32]⟩ ++ baT (dg z) ++ ⟨#[59]⟩) (grownCap wc' (6 + (baT (dg x)).size + 1 + (baT (mkB a)).size + 1 + (baT (dg y)).size + 1 + (baT (mkB b)).size + 1 + (baT (dg z)).size + 1) 0 5)) 5 ((bytesRow ((⟨#[112, 114, 105, 110, 116, 32]⟩ : ByteArray) ++ baT (dg x) ++ ⟨#[32]⟩ ++ baT (mkB a) ++ ⟨#[32]⟩ ++ baT (dg y) ++ ⟨#[32]⟩ ++ baT (mkB b) ++ ⟨#[32]⟩ ++ baT (dg z) ++ ⟨#[59]⟩) (grownCap wc' (6 + (baT (dg x)).size + 1 + (baT (mkB a)).size + 1 + (baT (dg y)).size + 1 + (baT (mkB b)).size + 1 + (baT (dg z)).size + 1) 0 5)).size, (bytesRow ((⟨#[112, 114, 105, 110, 116, 32]⟩ : ByteArray) ++ baT (dg x) ++ ⟨#[32]⟩ ++ baT (mkB a) ++ ⟨#[32]⟩ ++ baT (dg y) ++ ⟨#[32]⟩ ++ baT (mkB b) ++ ⟨#[32]⟩ ++ baT (dg z) ++ ⟨#[59]⟩) (grownCap wc' (6 + (baT (dg x)).size + 1 + (baT (mkB a)).size + 1 + (baT (dg y)).size + 1 + (baT (mkB b)).size + 1 + (baT (dg z)).size + 1) 0 5)).size + 1))).drew.heap[nb]? = some P2 := (Below.heap_alloc wc' _ _ (lt_heap bx)).trans bx
      obtain ⟨wa, hwa⟩ : ∃ wa, (wc'.alloc (.cells (bytesRow ((⟨#[112, 114, 105, 110, 116, 32]⟩ : ByteArray) ++ baT (dg x) ++ ⟨#[32]⟩ ++ baT (mkB a) ++ ⟨#[32]⟩ ++ baT (dg y) ++ ⟨#[32]⟩ ++ baT (mkB b) ++ ⟨#[32]⟩ ++ baT (dg z) ++ ⟨#[59]⟩) (grownCap wc' (6 + (baT (dg x)).size + 1 + (baT (mkB a)).size + 1 + (baT (dg y)).size + 1 + (baT (mkB b)).size + 1 + (baT (dg z)).size + 1) 0 5)) 5 ((bytesRow ((⟨#[112, 114, 105, 110, 116, 32]⟩ : ByteArray) ++ baT (dg x) ++ ⟨#[32]⟩ ++ baT (mkB a) ++ ⟨#[32]⟩ ++ baT (dg y) ++ ⟨#[32]⟩ ++ baT (mkB b) ++ ⟨#[32]⟩ ++ baT (dg z) ++ ⟨#[59]⟩) (grownCap wc' (6 + (baT (dg x)).size + 1 + (baT (mkB a)).size + 1 + (baT (dg y)).size + 1 + (baT (mkB b)).size + 1 + (baT (dg z)).size + 1) 0 5)).size, (bytesRow ((⟨#[112, 114, 105, 110, 116, 32]⟩ : ByteArray) ++ baT (dg x) ++ ⟨#[32]⟩ ++ baT (mkB a) ++ ⟨#[32]⟩ ++ baT (dg y) ++ ⟨#[32]⟩ ++ baT (mkB b) ++ ⟨#[32]⟩ ++ baT (dg z) ++ ⟨#[59]⟩) (grownCap wc' (6 + (baT (dg x)).size + 1 + (baT (mkB a)).size + 1 + (baT (dg y)).size + 1 + (baT (mkB b)).size + 1 + (baT (dg z)).size + 1) 0 5)).size + 1))).drew = wa := ⟨_, rfl⟩
      rw [hwa] at eA rA bx ⊢
      clear hwa
      refine hK.out _ _ (fun _ => eA) ?_
      clear hK K
      try simp only [Act.put, List.getElem_toArray, List.getElem_cons_zero, List.getElem_cons_succ, List.setIfInBounds_toArray, List.set_cons_zero, List.set_cons_succ]
      refine AnyL.next 22 (by kernel_rfl) rfl (fun K hK => ?_)
      go_simp
      go_at_call 13
      refine (HQ8.out wa _ _ (grownCap_ge _ _ _ _) (rA)).mono ?_
      rintro e5 w5 ⟨⟨F, f, G, g, rfl, hv⟩, eC⟩
      go_wp2_with fail
      have e5 := eA.trans (eC.mono (eA).size)
      refine hK.out _ _ (fun _ => e5) ?_
      clear hK K
      try simp only [Act.put, List.getElem_toArray, List.getElem_cons_zero, List.getElem_cons_succ, List.setIfInBounds_toArray, List.set_cons_zero, List.set_cons_succ]
      refine AnyL.take 23 (.tuple #[.agg #[.slice F 0 f, .slice G 1 g], .int .i64 0, .int .i64 0]) rfl (by kernel_rfl) (by kernel_rfl) (by kernel_rfl) (by kernel_rfl) (fun _ _ _ h => h) (Or.inl ⟨by rfl, ?_⟩) (by assumption) ?_
      · intro W' hSw
        obtain ⟨l1, l2⟩ := HB.out W' hSw
        go_simp
      try simp only [Act.put, List.getElem_toArray, List.getElem_cons_zero, List.getElem_cons_succ, List.setIfInBounds_toArray, List.set_cons_zero, List.set_cons_succ]
      refine AnyL.take 24 ((.agg #[.slice F 0 f, .slice G 1 g])) rfl (by kernel_rfl) (by kernel_rfl) (by kernel_rfl) (by kernel_rfl) (fun _ _ _ h => h) (Or.inl ⟨by rfl, ?_⟩) (by assumption) ?_
      · intro W' hSw
        obtain ⟨l1, l2⟩ := HB.out W' hSw
        go_simp
      try simp only [Act.put, List.getElem_toArray, List.getElem_cons_zero, List.getElem_cons_succ, List.setIfInBounds_toArray, List.set_cons_zero, List.set_cons_succ]
      refine AnyL.take 25 (.int .i64 0) rfl (by kernel_rfl) (by kernel_rfl) (by kernel_rfl) (by kernel_rfl) (fun _ _ _ h => h) (Or.inl ⟨by rfl, ?_⟩) (by assumption) ?_
      · intro W' hSw
        obtain ⟨l1, l2⟩ := HB.out W' hSw
        go_simp
      try simp only [Act.put, List.getElem_toArray, List.getElem_cons_zero, List.getElem_cons_succ, List.setIfInBounds_toArray, List.set_cons_zero, List.set_cons_succ]
      refine AnyL.take 26 (.int .i64 0) rfl (by kernel_rfl) (by kernel_rfl) (by kernel_rfl) (by kernel_rfl) (fun _ _ _ h => h) (Or.inl ⟨by rfl, ?_⟩) (by assumption) ?_
      · intro W' hSw
        obtain ⟨l1, l2⟩ := HB.out W' hSw
        go_simp
      try simp only [Act.put, List.getElem_toArray, List.getElem_cons_zero, List.getElem_cons_succ, List.setIfInBounds_toArray, List.set_cons_zero, List.set_cons_succ]
      have bx' := (eC.block nb (lt_heap bx)).trans bx
      have b0 := box_cell bx' 0
      have b1' := box_cell bx' 1
      have fz0 := box_frozen bx' 0
      have fz1 := box_frozen bx' 1
      simp only [List.getElem?_toArray, List.getElem?_cons_succ, List.getElem?_cons_zero] at b0 b1'
      refine AnyL.next 28 (by kernel_rfl) rfl (fun K hK => ?_)
      go_simp
      have e7 := (Below.setCell (p := ⟨nb, 0, none⟩) e5 (by simp only; omega) (.slice F 0 f)).setCell (p := ⟨nb, 1, none⟩) (by simp only; omega) (.slice G 1 g)
      have x8 := two_cells (x := .slice F 0 f) (y := .slice G 1 g) bx'
      have hp8 : PgV ((w5.setCell ⟨nb, 0, none⟩ (.slice F 0 f)).setCell ⟨nb, 1, none⟩ (.slice G 1 g)).heap.size ((w5.setCell ⟨nb, 0, none⟩ (.slice F 0 f)).setCell ⟨nb, 1, none⟩ (.slice G 1 g)) (.agg #[.slice F 0 f, .slice G 1 g]) _ := (hv.kp (kp_two (x := .slice F 0 f) (y := .slice G 1 g) (lt_heap bx)) (Nat.le_refl _)).pgv
      obtain ⟨w8, hw8⟩ : ∃ w8, (w5.setCell ⟨nb, 0, none⟩ (.slice F 0 f)).setCell ⟨nb, 1, none⟩ (.slice G 1 g) = w8 := ⟨_, rfl⟩
      rw [hw8] at e7 x8 hp8 ⊢
      clear hw8
      refine hK.out _ _ (fun _ => e7) ?_
      clear hK K
      try simp only [Act.put, List.getElem_toArray, List.getElem_cons_zero, List.getElem_cons_succ, List.setIfInBounds_toArray, List.set_cons_zero, List.set_cons_succ]
      refine AnyL.take 29 (.int .i64 0) rfl (by kernel_rfl) (by kernel_rfl) (by kernel_rfl) (by kernel_rfl) (fun _ _ _ h => h) (Or.inl ⟨by rfl, ?_⟩) (by assumption) ?_
      · intro W' hSw
        obtain ⟨l1, l2⟩ := HB.out W' hSw
        go_simp
      try simp only [Act.put, List.getElem_toArray, List.getElem_cons_zero, List.getElem_cons_succ, List.setIfInBounds_toArray, List.set_cons_zero, List.set_cons_succ]
      refine AnyL.next 30 (by kernel_rfl) rfl (fun K hK => ?_)
      go_simp
      refine hK.out _ _ (fun _ => e7) ?_
      clear hK K
      try simp only [Act.put, List.getElem_toArray, List.getElem_cons_zero, List.getElem_cons_succ, List.setIfInBounds_toArray, List.set_cons_zero, List.set_cons_succ]
      refine AnyL.done (by kernel_rfl) ?_
      go_wp2_with fail
      go_meet
      exact ⟨nb, F, f, G, g, rfl, rfl, rfl, x8, hp8, e7⟩
  case rest =>
  obtain ⟨nb8, F8', f8', G8', g8', rfl, rfl, rfl, P8, hp8, eM⟩ := hcut
  obtain ⟨u8, rfl⟩ : ∃ u, u = wc := ⟨_, rfl⟩
  have E8 : Below u2.heap.size u2 u8 := E5.trans (eM.mono E5.size)
  have F8 := F5.below eM
  clear eM
  go_upto_region 9 with fail
  go_cut [19, 20, 21] (fun p n e wx => Made u8 wx (pE (eLe x y z a b)) p n e)
  case first =>
    have HB := Lib.hid (fun w' (hb : Below u8.heap.size u8 w') => HM.out w' (E8.trans (hb.mono E8.size)))
    have hS0 : Below u8.heap.size u8 u8.drew := below_drw (Below.refl _ _)
    refine wp_region_late (fun w' => Below u8.heap.size u8 w') 27 (by kernel_rfl) ?_
    obtain ⟨zu, hzu⟩ : ∃ n, u8.heap.size = n := ⟨_, rfl⟩
    obtain ⟨u0, hu0⟩ : ∃ x, u8.drew = x := ⟨_, rfl⟩
    rw [hu0] at hS0 ⊢
    clear hu0
    refine AnyL.take 0 (.string (baT (dg x))) rfl (by kernel_rfl) (by kernel_rfl) (by kernel_rfl) (by kernel_rfl) (fun _ _ _ h => h) (Or.inl ⟨by rfl, ?_⟩) (by assumption) ?_
    · intro W' hSw
      obtain ⟨l1, l2⟩ := HB.out W' hSw
      go_simp
    try simp only [Act.put, List.getElem_toArray, List.getElem_cons_zero, List.setIfInBounds_toArray, List.set_cons_zero, List.set_cons_succ]
    refine AnyL.take 1 (.string ((⟨#[112, 114, 105, 110, 116, 32, 40]⟩ : ByteArray) ++ baT (dg x))) rfl (by kernel_rfl) (by kernel_rfl) (by kernel_rfl) (by kernel_rfl) (fun _ _ _ h => h) (Or.inl ⟨by rfl, ?_⟩) (by assumption) ?_
    · intro W' hSw
      obtain ⟨l1, l2⟩ := HB.out W' hSw
      go_simp
    try simp only [Act.put, List.getElem_toArray, List.getElem_cons_zero, List.getElem_cons_succ, List.setIfInBounds_toArray, List.set_cons_zero, List.set_cons_succ]
    refine AnyL.take 2 (.slice (some ⟨n1, 0, none⟩) 9 9) rfl (by kernel_rfl) (by kernel_rfl) (by kernel_rfl) (by kernel_rfl) (fun _ _ _ h => h) (Or.inl ⟨by rfl, ?_⟩) (by assumption) ?_
    · intro W' hSw
      obtain ⟨l1, l2⟩ := HB.out W' hSw
      go_simp
    try simp only [Act.put, List.getElem_toArray, List.getElem_cons_zero, List.getElem_cons_succ, List.setIfInBounds_toArray, List.set_cons_zero, List.set_cons_succ]
    refine AnyL.take 3 (.int .i64 a) rfl (by kernel_rfl) (by kernel_rfl) (by kernel_rfl) (by kernel_rfl) (fun _ _ _ h => h) (Or.inl ⟨by rfl, ?_⟩) (by assumption) ?_
    · intro W' hSw
      obtain ⟨l1, l2⟩ := HB.out W' hSw
      go_simp
    try simp only [Act.put, List.getElem_toArray, List.getElem_cons_zero, List.getElem_cons_succ, List.setIfInBounds_toArray, List.set_cons_zero, List.set_cons_succ]
    refine AnyL.take 4 (.pointer (some ⟨n1, a, none⟩)) rfl (by kernel_rfl) (by kernel_rfl) (by kernel_rfl) (by kernel_rfl) (fun _ _ _ h => h) (Or.inl ⟨by rfl, ?_⟩) (by assumption) ?_
    · intro W' hSw
      obtain ⟨l1, l2⟩ := HB.out W' hSw
      go_simp
    try simp only [Act.put, List.getElem_toArray, List.getElem_cons_zero, List.getElem_cons_succ, List.setIfInBounds_toArray, List.set_cons_zero, List.set_cons_succ]
    refine AnyL.take 5 (.string (baT (mkB a))) rfl (by kernel_rfl) (by kernel_rfl) (by kernel_rfl) (by kernel_rfl) (fun _ _ _ h => h) (Or.inl ⟨by rfl, ?_⟩) (by assumption) ?_
    · intro W' hSw
      obtain ⟨l1, l2⟩ := HB.out W' hSw
      go_simp
    try simp only [Act.put, List.getElem_toArray, List.getElem_cons_zero, List.getElem_cons_succ, List.setIfInBounds_toArray, List.set_cons_zero, List.set_cons_succ]
    refine AnyL.take 6 (.string ((⟨#[112, 114, 105, 110, 116, 32, 40]⟩ : ByteArray) ++ baT (dg x) ++ baT (mkB a))) rfl (by kernel_rfl) (by kernel_rfl) (by kernel_rfl) (by kernel_rfl) (fun _ _ _ h => h) (Or.inl ⟨by rfl, ?_⟩) (by assumption) ?_
    · intro W' hSw
      obtain ⟨l1, l2⟩ := HB.out W' hSw
      go_simp
    try simp only [Act.put, List.getElem_toArray, List.getElem_cons_zero, List.getElem_cons_succ, List.setIfInBounds_toArray, List.set_cons_zero, List.set_cons_succ]
    refine AnyL.take 7 (.string (baT (dg y))) rfl (by kernel_rfl) (by kernel_rfl) (by kernel_rfl) (by kernel_rfl) (fun _ _ _ h => h) (Or.inl ⟨by rfl, ?_⟩) (by assumption) ?_
    · intro W' hSw
      obtain ⟨l1, l2⟩ := HB.out W' hSw
      go_simp
    try simp only [Act.put, List.getElem_toArray, List.getElem_cons_zero, List.getElem_cons_succ, List.setIfInBounds_toArray, List.set_cons_zero, List.set_cons_succ]
    refine AnyL.take 8 (.string ((⟨#[112, 114, 105, 110, 116, 32, 40]⟩ : ByteArray) ++ baT (dg x) ++ baT (mkB a) ++ baT (dg y))) rfl (by kernel_rfl) (by kernel_rfl) (by kernel_rfl) (by kernel_rfl) (fun _ _ _ h => h) (Or.inl ⟨by rfl, ?_⟩) (by assumption) ?_
    · intro W' hSw
      obtain ⟨l1, l2⟩ := HB.out W' hSw
      go_simp
    try simp only [Act.put, List.getElem_toArray, List.getElem_cons_zero, List.getElem_cons_succ, List.setIfInBounds_toArray, List.set_cons_zero, List.set_cons_succ]
    refine AnyL.take 9 (.string ((⟨#[112, 114, 105, 110, 116, 32, 40]⟩ : ByteArray) ++ baT (dg x) ++ baT (mkB a) ++ baT (dg y) ++ ⟨#[41]⟩)) rfl (by kernel_rfl) (by kernel_rfl) (by kernel_rfl) (by kernel_rfl) (fun _ _ _ h => h) (Or.inl ⟨by rfl, ?_⟩) (by assumption) ?_
    · intro W' hSw
      obtain ⟨l1, l2⟩ := HB.out W' hSw
      go_simp
    try simp only [Act.put, List.getElem_toArray, List.getElem_cons_zero, List.getElem_cons_succ, List.setIfInBounds_toArray, List.set_cons_zero, List.set_cons_succ]
    refine AnyL.take 10 (.slice (some ⟨n1, 0, none⟩) 9 9) rfl (by kernel_rfl) (by kernel_rfl) (by kernel_rfl) (by kernel_rfl) (fun _ _ _ h => h) (Or.inl ⟨by rfl, ?_⟩) (by assumption) ?_
    · intro W' hSw
      obtain ⟨l1, l2⟩ := HB.out W' hSw
      go_simp
    try simp only [Act.put, List.getElem_toArray, List.getElem_cons_zero, List.getElem_cons_succ, List.setIfInBounds_toArray, List.set_cons_zero, List.set_cons_succ]
    refine AnyL.take 11 (.int .i64 b) rfl (by kernel_rfl) (by kernel_rfl) (by kernel_rfl) (by kernel_rfl) (fun _ _ _ h => h) (Or.inl ⟨by rfl, ?_⟩) (by assumption) ?_
    · intro W' hSw
      obtain ⟨l1, l2⟩ := HB.out W' hSw
      go_simp
    try simp only [Act.put, List.getElem_toArray, List.getElem_cons_zero, List.getElem_cons_succ, List.setIfInBounds_toArray, List.set_cons_zero, List.set_cons_succ]
    refine AnyL.take 12 (.pointer (some ⟨n1, b, none⟩)) rfl (by kernel_rfl) (by kernel_rfl) (by kernel_rfl) (by kernel_rfl) (fun _ _ _ h => h) (Or.inl ⟨by rfl, ?_⟩) (by assumption) ?_
    · intro W' hSw
      obtain ⟨l1, l2⟩ := HB.out W' hSw
      go_simp
    try simp only [Act.put, List.getElem_toArray, List.getElem_cons_zero, List.getElem_cons_succ, List.setIfInBounds_toArray, List.set_cons_zero, List.set_cons_succ]
    refine AnyL.take 13 (.string (baT (mkB b))) rfl (by kernel_rfl) (by kernel_rfl) (by kernel_rfl) (by kernel_rfl) (fun _ _ _ h => h) (Or.inl ⟨by rfl, ?_⟩) (by assumption) ?_
    · intro W' hSw
      obtain ⟨l1, l2⟩ := HB.out W' hSw
      go_simp
    try simp only [Act.put, List.getElem_toArray, List.getElem_cons_zero, List.getElem_cons_succ, List.setIfInBounds_toArray, List.set_cons_zero, List.set_cons_succ]
    refine AnyL.take 14 (.string ((⟨#[112, 114, 105, 110, 116, 32, 40]⟩ : ByteArray) ++ baT (dg x) ++ baT (mkB a) ++ baT (dg y) ++ ⟨#[41]⟩ ++ baT (mkB b))) rfl (by kernel_rfl) (by kernel_rfl) (by kernel_rfl) (by kernel_rfl) (fun _ _ _ h => h) (Or.inl ⟨by rfl, ?_⟩) (by assumption) ?_
    · intro W' hSw
      obtain ⟨l1, l2⟩ := HB.out W' hSw
      go_simp
    try simp only [Act.put, List.getElem_toArray, List.getElem_cons_zero, List.getElem_cons_succ, List.setIfInBounds_toArray, List.set_cons_zero, List.set_cons_succ]
    refine AnyL.take 15 (.string (baT (dg z))) rfl (by kernel_rfl) (by kernel_rfl) (by kernel_rfl) (by kernel_rfl) (fun _ _ _ h => h) (Or.inl ⟨by rfl, ?_⟩) (by assumption) ?_
    · intro W' hSw
      obtain ⟨l1, l2⟩ := HB.out W' hSw
      go_simp
    try simp only [Act.put, List.getElem_toArray, List.getElem_cons_zero, List.getElem_cons_succ, List.setIfInBounds_toArray, List.set_cons_zero, List.set_cons_succ]
    refine AnyL.take 16 (.string ((⟨#[112, 114, 105, 110, 116, 32, 40]⟩ : ByteArray) ++ baT (dg x) ++ baT (mkB a) ++ baT (dg y) ++ ⟨#[41]⟩ ++ baT (mkB b) ++ baT (dg z))) rfl (by kernel_rfl) (by kernel_rfl) (by kernel_rfl) (by kernel_rfl) (fun _ _ _ h => h) (Or.inl ⟨by rfl, ?_⟩) (by assumption) ?_
    · intro W' hSw
      obtain ⟨l1, l2⟩ := HB.out W' hSw
      go_simp
    try simp only [Act.put, List.getElem_toArray, List.getElem_cons_zero, List.getElem_cons_succ, List.setIfInBounds_toArray, List.set_cons_zero, List.set_cons_succ]
    refine AnyL.take 17 (.string ((⟨#[112, 114, 105, 110, 116, 32, 40]⟩ : ByteArray) ++ baT (dg x) ++ baT (mkB a) ++ baT (dg y) ++ ⟨#[41]⟩ ++ baT (mkB b) ++ baT (dg z) ++ ⟨#[59]⟩)) rfl (by kernel_rfl) (by kernel_rfl) (by kernel_rfl) (by kernel_rfl) (fun _ _ _ h => h) (Or.inl ⟨by rfl, ?_⟩) (by assumption) ?_
    · intro W' hSw
      obtain ⟨l1, l2⟩ := HB.out W' hSw
      go_simp
    try simp only [Act.put, List.getElem_toArray, List.getElem_cons_zero, List.getElem_cons_succ, List.setIfInBounds_toArray, List.set_cons_zero, List.set_cons_succ]
    refine AnyL.both 18 24 (by kernel_rfl) rfl rfl (fun K hK => ?_) (fun K hK => ?_)
    · go_simp
      have eA : Below u8.heap.size u8 (u0.alloc (.cells (bytesRow ((⟨#[112, 114, 105, 110, 116, 32, 40]⟩ : ByteArray) ++ baT (dg x) ++ baT (mkB a) ++ baT (dg y) ++ ⟨#[41]⟩ ++ baT (mkB b) ++ baT (dg z) ++ ⟨#[59]⟩) (grownCap u0 (7 + (baT (dg x)).size + (baT (mkB a)).size + (baT (dg y)).size + 1 + (baT (mkB b)).size + (baT (dg z)).size + 1) 0 5)) 5 ((bytesRow ((⟨#[112, 114, 105, 110, 116, 32, 40]⟩ : ByteArray) ++ baT (dg x) ++ baT (mkB a) ++ baT (dg y) ++ ⟨#[41]⟩ ++ baT (mkB b) ++ baT (dg z) ++ ⟨#[59]⟩) (grownCap u0 (7 + (baT (dg x)).size + (baT (mkB a)).size + (baT (dg y)).size + 1 + (baT (mkB b)).size + (baT (dg z)).size + 1) 0 5)).size, (bytesRow ((⟨#[112, 114, 105, 110, 116, 32, 40]⟩ : ByteArray) ++ baT (dg x) ++ baT (mkB a) ++ baT (dg y) ++ ⟨#[41]⟩ ++ baT (mkB b) ++ baT (dg z) ++ ⟨#[59]⟩) (grownCap u0 (7 + (baT (dg x)).size + (baT (mkB a)).size + (baT (dg y)).size + 1 + (baT (mkB b)).size + (baT (dg z)).size + 1) 0 5)).size + 1))).drew := below_drw (hS0.alloc hS0.size _)
      have rA : Row (u0.alloc (.cells (bytesRow ((⟨#[112, 114, 105, 110, 116, 32, 40]⟩ : ByteArray) ++ baT (dg x) ++ baT (mkB a) ++ baT (dg y) ++ ⟨#[41]⟩ ++ baT (mkB b) ++ baT (dg z) ++ ⟨#[59]⟩) (grownCap u0 (7 + (baT (dg x)).size + (baT (mkB a)).size + (baT (dg y)).size + 1 + (baT (mkB b)).size + (baT (dg z)).size + 1) 0 5)) 5 ((bytesRow ((⟨#[112, 114, 105, 110, 116, 32, 40]⟩ : ByteArray) ++ baT (dg x) ++ baT (mkB a) ++ baT (dg y) ++ ⟨#[41]⟩ ++ baT (mkB b) ++ baT (dg z) ++ ⟨#[59]⟩) (grownCap u0 (7 + (baT (dg x)).size + (baT (mkB a)).size + (baT (dg y)).size + 1 + (baT (mkB b)).size + (baT (dg z)).size + 1) 0 5)).size, (bytesRow ((⟨#[112, 114, 105, 110, 116, 32, 40]⟩ : ByteArray) ++ baT (dg x) ++ baT (mkB a) ++ baT (dg y) ++ ⟨#[41]⟩ ++ baT (mkB b) ++ baT (dg z) ++ ⟨#[59]⟩) (grownCap u0 (7 + (baT (dg x)).size + (baT (mkB a)).size + (baT (dg y)).size + 1 + (baT (mkB b)).size + (baT (dg z)).size + 1) 0 5)).size + 1))).drew (some ⟨u0.heap.size, 0, none⟩) ((⟨#[112, 114, 105, 110, 116, 32, 40]⟩ : ByteArray) ++ baT (dg x) ++ baT (mkB a) ++ baT (dg y) ++ ⟨#[41]⟩ ++ baT (mkB b) ++ baT (dg z) ++ ⟨#[59]⟩).data.toList := row_bb u0 _ _
      obtain ⟨wa, hwa⟩ : ∃ wa, (u0.alloc (.cells (bytesRow ((⟨#[112, 114, 105, 110, 116, 32, 40]⟩ : ByteArray) ++ baT (dg x) ++ baT (mkB a) ++ baT (dg y) ++ ⟨#[41]⟩ ++ baT (mkB b) ++ baT (dg z) ++ ⟨#[59]⟩) (grownCap u0 (7 + (baT (dg x)).size + (baT (mkB a)).size + (baT (dg y)).size + 1 + (baT (mkB b)).size + (baT (dg z)).size + 1) 0 5)) 5 ((bytesRow ((⟨#[112, 114, 105, 110, 116, 32, 40]⟩ : ByteArray) ++ baT (dg x) ++ baT (mkB a) ++ baT (dg y) ++ ⟨#[41]⟩ ++ baT (mkB b) ++ baT (dg z) ++ ⟨#[59]⟩) (grownCap u0 (7 + (baT (dg x)).size + (baT (mkB a)).size + (baT (dg y)).size + 1 + (baT (mkB b)).size + (baT (dg z)).size + 1) 0 5)).size, (bytesRow ((⟨#[112, 114, 105, 110, 116, 32, 40]⟩ : ByteArray) ++ baT (dg x) ++ baT (mkB a) ++ baT (dg y) ++ ⟨#[41]⟩ ++ baT (mkB b) ++ baT (dg z) ++ ⟨#[59]⟩) (grownCap u0 (7 + (baT (dg x)).size + (baT (mkB a)).size + (baT (dg y)).size + 1 + (baT (mkB b)).size + (baT (dg z)).size + 1) 0 5)).size + 1))).drew = wa := ⟨_, rfl⟩
      rw [hwa] at eA rA ⊢
      clear hwa
      refine hK.out _ _ (fun _ => eA) ?_
      clear hK K
      try simp only [Act.put, List.getElem_toArray, List.getElem_cons_zero, List.getElem_cons_succ, List.setIfInBounds_toArray, List.set_cons_zero, List.set_cons_succ]
      refine AnyL.both 19 24 (by kernel_rfl) rfl rfl (fun K hK => ?_) (fun K hK => ?_)
      · go_simp
        go_at_call 13
        refine (HQ9.out wa _ _ (grownCap_ge _ _ _ _) (rA)).mono ?_
        rintro e5 w5 ⟨⟨F, f, G, g, rfl, hv⟩, eC⟩
        go_wp2_with fail
        have e5 := eA.trans (eC.mono (eA).size)
        refine hK.out _ _ (fun _ => e5) ?_
        clear hK K
        try simp only [Act.put, List.getElem_toArray, List.getElem_cons_zero, List.getElem_cons_succ, List.setIfInBounds_toArray, List.set_cons_zero, List.set_cons_succ]
        refine AnyL.take 20 (.tuple #[.agg #[.slice F 0 f, .slice G 1 g], .int .i64 0, .int .i64 0]) rfl (by kernel_rfl) (by kernel_rfl) (by kernel_rfl) (by kernel_rfl) (fun _ _ _ h => h) (Or.inl ⟨by rfl, ?_⟩) (by assumption) ?_
        · intro W' hSw
          obtain ⟨l1, l2⟩ := HB.out W' hSw
          go_simp
        try simp only [Act.put, List.getElem_toArray, List.getElem_cons_zero, List.getElem_cons_succ, List.setIfInBounds_toArray, List.set_cons_zero, List.set_cons_succ]
        refine AnyL.take 21 ((.agg #[.slice F 0 f, .slice G 1 g])) rfl (by kernel_rfl) (by kernel_rfl) (by kernel_rfl) (by kernel_rfl) (fun _ _ _ h => h) (Or.inl ⟨by rfl, ?_⟩) (by assumption) ?_
        · intro W' hSw
          obtain ⟨l1, l2⟩ := HB.out W' hSw
          go_simp
        try simp only [Act.put, List.getElem_toArray, List.getElem_cons_zero, List.getElem_cons_succ, List.setIfInBounds_toArray, List.set_cons_zero, List.set_cons_succ]
        refine AnyL.take 22 (.int .i64 0) rfl (by kernel_rfl) (by kernel_rfl) (by kernel_rfl) (by kernel_rfl) (fun _ _ _ h => h) (Or.inl ⟨by rfl, ?_⟩) (by assumption) ?_
        · intro W' hSw
          obtain ⟨l1, l2⟩ := HB.out W' hSw
          go_simp
        try simp only [Act.put, List.getElem_toArray, List.getElem_cons_zero, List.getElem_cons_succ, List.setIfInBounds_toArray, List.set_cons_zero, List.set_cons_succ]
        refine AnyL.take 23 (.int .i64 0) rfl (by kernel_rfl) (by kernel_rfl) (by kernel_rfl) (by kernel_rfl) (fun _ _ _ h => h) (Or.inl ⟨by rfl, ?_⟩) (by assumption) ?_
        · intro W' hSw
          obtain ⟨l1, l2⟩ := HB.out W' hSw
          go_simp
        try simp only [Act.put, List.getElem_toArray, List.getElem_cons_zero, List.getElem_cons_succ, List.setIfInBounds_toArray, List.set_cons_zero, List.set_cons_succ]
        refine AnyL.next 24 (by kernel_rfl) rfl (fun K hK => ?_)
        go_simp
        have e6 := e5.alloc e5.size P2
        have bx := heap_alloc_new w5 P2
        have hz6 := e5.size
        have hp6 := hv.pgv.below ((Below.refl w5.heap.size w5).alloc (Nat.le_refl _) P2) (Nat.le_refl _)
        obtain ⟨wc', hwc⟩ : ∃ wc, w5.alloc P2 = wc := ⟨_, rfl⟩
        rw [hwc] at e6 bx hp6 ⊢
        clear hwc
        obtain ⟨nb, hnb⟩ : ∃ nb, w5.heap.size = nb := ⟨_, rfl⟩
        rw [hnb] at bx hz6 hp6 ⊢
        refine hK.out _ _ (fun _ => e6) ?_
        clear hK K
        try simp only [Act.put, List.getElem_toArray, List.getElem_cons_zero, List.getElem_cons_succ, List.setIfInBounds_toArray, List.set_cons_zero, List.set_cons_succ]
        have b0 := box_cell bx 0
        have b1' := box_cell bx 1
        have fz0 := box_frozen bx 0
        have fz1 := box_frozen bx 1
        simp only [List.getElem?_toArray, List.getElem?_cons_succ, List.getElem?_cons_zero] at b0 b1'
        refine AnyL.next 25 (by kernel_rfl) rfl (fun K hK => ?_)
        go_simp
        have e7 := (Below.setCell (p := ⟨nb, 0, none⟩) e6 (by simp only; omega) (.slice F 0 f)).setCell (p := ⟨nb, 1, none⟩) (by simp only; omega) (.slice G 1 g)
        have x8 := two_cells (x := .slice F 0 f) (y := .slice G 1 g) bx
        have hp8 : PgV ((wc'.setCell ⟨nb, 0, none⟩ (.slice F 0 f)).setCell ⟨nb, 1, none⟩ (.slice G 1 g)).heap.size ((wc'.setCell ⟨nb, 0, none⟩ (.slice F 0 f)).setCell ⟨nb, 1, none⟩ (.slice G 1 g)) (.agg #[.slice F 0 f, .slice G 1 g]) _ := PgV.below hp6 (((Below.refl nb wc').setCell (p := ⟨nb, 0, none⟩) (Nat.le_refl _) (.slice F 0 f)).setCell (p := ⟨nb, 1, none⟩) (Nat.le_refl _) (.slice G 1 g)) (by have := lt_heap bx; simp; omega)
        obtain ⟨w8, hw8⟩ : ∃ w8, (wc'.setCell ⟨nb, 0, none⟩ (.slice F 0 f)).setCell ⟨nb, 1, none⟩ (.slice G 1 g) = w8 := ⟨_, rfl⟩
        rw [hw8] at e7 x8 hp8 ⊢
        clear hw8
        refine hK.out _ _ (fun _ => e7) ?_
        clear hK K
        try simp only [Act.put, List.getElem_toArray, List.getElem_cons_zero, List.getElem_cons_succ, List.setIfInBounds_toArray, List.set_cons_zero, List.set_cons_succ]
        refine AnyL.take 26 (.int .i64 0) rfl (by kernel_rfl) (by kernel_rfl) (by kernel_rfl) (by kernel_rfl) (fun _ _ _ h => h) (Or.inl ⟨by rfl, ?_⟩) (by assumption) ?_
        · intro W' hSw
          obtain ⟨l1, l2⟩ := HB.out W' hSw
          go_simp
        try simp only [Act.put, List.getElem_toArray, List.getElem_cons_zero, List.getElem_cons_succ, List.setIfInBounds_toArray, List.set_cons_zero, List.set_cons_succ]
        refine AnyL.next 27 (by kernel_rfl) rfl (fun K hK => ?_)
        go_simp
        refine hK.out _ _ (fun _ => e7) ?_
        clear hK K
        try simp only [Act.put, List.getElem_toArray, List.getElem_cons_zero, List.getElem_cons_succ, List.setIfInBounds_toArray, List.set_cons_zero, List.set_cons_succ]
        refine AnyL.done (by kernel_rfl) ?_
        go_wp2_with fail
        go_meet
        exact ⟨nb, F, f, G, g, rfl, rfl, rfl, x8, hp8, e7⟩
      · go_simp
        have e6 := eA.alloc eA.size P2
        have bx := heap_alloc_new wa P2
        have hz6 := eA.size
        have rB := rA.al2 P2
        obtain ⟨wc', hwc⟩ : ∃ wc, wa.alloc P2 = wc := ⟨_, rfl⟩
        rw [hwc] at e6 bx rB ⊢
        clear hwc
        obtain ⟨nb, hnb⟩ : ∃ nb, wa.heap.size = nb := ⟨_, rfl⟩
        rw [hnb] at bx hz6 ⊢
        refine hK.out _ _ (fun _ => e6) ?_
        clear hK K
        try simp only [Act.put, List.getElem_toArray, List.getElem_cons_zero, List.getElem_cons_succ, List.setIfInBounds_toArray, List.set_cons_zero, List.set_cons_succ]
        refine AnyL.next 19 (by kernel_rfl) rfl (fun K hK => ?_)
        go_simp
        go_at_call 13
        refine (HQ9.out wc' _ _ (grownCap_ge _ _ _ _) (rB)).mono ?_
        rintro e5 w5 ⟨⟨F, f, G, g, rfl, hv⟩, eC⟩
        go_wp2_with fail
        have e5 := e6.trans (eC.mono (e6).size)
        refine hK.out _ _ (fun _ => e5) ?_
        clear hK K
        try simp only [Act.put, List.getElem_toArray, List.getElem_cons_zero, List.getElem_cons_succ, List.setIfInBounds_toArray, List.set_cons_zero, List.set_cons_succ]
        refine AnyL.take 20 (.tuple #[.agg #[.slice F 0 f, .slice G 1 g], .int .i64 0, .int .i64 0]) rfl (by kernel_rfl) (by kernel_rfl) (by kernel_rfl) (by kernel_rfl) (fun _ _ _ h => h) (Or.inl ⟨by rfl, ?_⟩) (by assumption) ?_
        · intro W' hSw
          obtain ⟨l1, l2⟩ := HB.out W' hSw
          go_simp
        try simp only [Act.put, List.getElem_toArray, List.getElem_cons_zero, List.getElem_cons_succ, List.setIfInBounds_toArray, List.set_cons_zero, List.set_cons_succ]
        refine AnyL.take 21 ((.agg #[.slice F 0 f, .slice G 1 g])) rfl (by kernel_rfl) (by kernel_rfl) (by kernel_rfl) (by kernel_rfl) (fun _ _ _ h => h) (Or.inl ⟨by rfl, ?_⟩) (by assumption) ?_
        · intro W' hSw
          obtain ⟨l1, l2⟩ := HB.out W' hSw
          go_simp
        try simp only [Act.put, List.getElem_toArray, List.getElem_cons_zero, List.getElem_cons_succ, List.setIfInBounds_toArray, List.set_cons_zero, List.set_cons_succ]
        refine AnyL.take 22 (.int .i64 0) rfl (by kernel_rfl) (by kernel_rfl) (by kernel_rfl) (by kernel_rfl) (fun _ _ _ h => h) (Or.inl ⟨by rfl, ?_⟩) (by assumption) ?_
        · intro W' hSw
          obtain ⟨l1, l2⟩ := HB.out W' hSw
          go_simp
        try simp only [Act.put, List.getElem_toArray, List.getElem_cons_zero, List.getElem_cons_succ, List.setIfInBounds_toArray, List.set_cons_zero, List.set_cons_succ]
        refine AnyL.take 23 (.int .i64 0) rfl (by kernel_rfl) (by kernel_rfl) (by kernel_rfl) (by kernel_rfl) (fun _ _ _ h => h) (Or.inl ⟨by rfl, ?_⟩) (by assumption) ?_
        · intro W' hSw
          obtain ⟨l1, l2⟩ := HB.out W' hSw
          go_simp
        try simp only [Act.put, List.getElem_toArray, List.getElem_cons_zero, List.getElem_cons_succ, List.setIfInBounds_toArray, List.set_cons_zero, List.set_cons_succ]
        have bx' := (eC.block nb (lt_heap bx)).trans bx
        have b0 := box_cell bx' 0
        have b1' := box_cell bx' 1
        have fz0 := box_frozen bx' 0
        have fz1 := box_frozen bx' 1
        simp only [List.getElem?_toArray, List.getElem?_cons_succ, List.getElem?_cons_zero] at b0 b1'
        refine AnyL.next 25 (by kernel_rfl) rfl (fun K hK => ?_)
        go_simp
        have e7 := (Below.setCell (p := ⟨nb, 0, none⟩) e5 (by simp only; omega) (.slice F 0 f)).setCell (p := ⟨nb, 1, none⟩) (by simp only; omega) (.slice G 1 g)
        have x8 := two_cells (x := .slice F 0 f) (y := .slice G 1 g) bx'
        have hp8 : PgV ((w5.setCell ⟨nb, 0, none⟩ (.slice F 0 f)).setCell ⟨nb, 1, none⟩ (.slice G 1 g)).heap.size ((w5.setCell ⟨nb, 0, none⟩ (.slice F 0 f)).setCell ⟨nb, 1, none⟩ (.slice G 1 g)) (.agg #[.slice F 0 f, .slice G 1 g]) _ := (hv.kp (kp_two (x := .slice F 0 f) (y := .slice G 1 g) (lt_heap bx)) (Nat.le_refl _)).pgv
        obtain ⟨w8, hw8⟩ : ∃ w8, (w5.setCell ⟨nb, 0, none⟩ (.slice F 0 f)).setCell ⟨nb, 1, none⟩ (.slice G 1 g) = w8 := ⟨_, rfl⟩
        rw [hw8] at e7 x8 hp8 ⊢
        clear hw8
        refine hK.out _ _ (fun _ => e7) ?_
        clear hK K
        try simp only [Act.put, List.getElem_toArray, List.getElem_cons_zero, List.getElem_cons_succ, List.setIfInBounds_toArray, List.set_cons_zero, List.set_cons_succ]
        refine AnyL.take 26 (.int .i64 0) rfl (by kernel_rfl) (by kernel_rfl) (by kernel_rfl) (by kernel_rfl) (fun _ _ _ h => h) (Or.inl ⟨by rfl, ?_⟩) (by assumption) ?_
        · intro W' hSw
          obtain ⟨l1, l2⟩ := HB.out W' hSw
          go_simp
        try simp only [Act.put, List.getElem_toArray, List.getElem_cons_zero, List.getElem_cons_succ, List.setIfInBounds_toArray, List.set_cons_zero, List.set_cons_succ]
        refine AnyL.next 27 (by kernel_rfl) rfl (fun K hK => ?_)
        go_simp
        refine hK.out _ _ (fun _ => e7) ?_
        clear hK K
        try simp only [Act.put, List.getElem_toArray, List.getElem_cons_zero, List.getElem_cons_succ, List.setIfInBounds_toArray, List.set_cons_zero, List.set_cons_succ]
        refine AnyL.done (by kernel_rfl) ?_
        go_wp2_with fail
        go_meet
        exact ⟨nb, F, f, G, g, rfl, rfl, rfl, x8, hp8, e7⟩
    · go_simp
      have e6 : Below u8.heap.size u8 (u0.alloc P2) := hS0.alloc hS0.size _
      have bx : (u0.alloc P2).heap[u0.heap.size]? = some P2 := heap_alloc_new u0 P2
      have hz6 := hS0.size
      obtain ⟨wc', hwc⟩ : ∃ wc, u0.alloc P2 = wc := ⟨_, rfl⟩
      rw [hwc] at e6 bx ⊢
      clear hwc
      obtain ⟨nb, hnb⟩ : ∃ nb, u0.heap.size = nb := ⟨_, rfl⟩
      rw [hnb] at bx hz6 ⊢
      refine hK.out _ _ (fun _ => e6) ?_
      clear hK K
      try simp only [Act.put, List.getElem_toArray, List.getElem_cons_zero, List.getElem_cons_succ, List.setIfInBounds_toArray, List.set_cons_zero, List.set_cons_succ]
      refine AnyL.next 18 (by kernel_rfl) rfl (fun K hK => ?_)
      go_simp
      have eA : Below u8.heap.size u8 (wc'.alloc (.cells (bytesRow ((⟨#[112, 114, 105, 110, 116, 32, 40]⟩ : ByteArray) ++ baT (dg x) ++ baT (mkB a) ++ baT (dg y) ++ ⟨#[41]⟩ ++ baT (mkB b) ++ baT (dg z) ++ ⟨#[59]⟩) (grownCap wc' (7 + (baT (dg x)).size + (baT (mkB a)).size + (baT (dg y)).size + 1 + (baT (mkB b)).size + (baT (dg z)).size + 1) 0 5)) 5 ((bytesRow ((⟨#[112, 114, 105, 110, 116, 32, 40]⟩ : ByteArray) ++ baT (dg x) ++ baT (mkB a) ++ baT (dg y) ++ ⟨#[41]⟩ ++ baT (mkB b) ++ baT (dg z) ++ ⟨#[59]⟩) (grownCap wc' (7 + (baT (dg x)).size + (baT (mkB a)).size + (baT (dg y)).size + 1 + (baT (mkB b)).size + (baT (dg z)).size + 1) 0 5)).size, (bytesRow ((⟨#[112, 114, 105, 110, 116, 32, 40]⟩ : ByteArray) ++ baT (dg x) ++ baT (mkB a) ++ baT (dg y) ++ ⟨#[41]⟩ ++ baT (mkB b) ++ baT (dg z) ++ ⟨#[59]⟩) (grownCap wc' (7 + (baT (dg x)).size + (baT (mkB a)).size + (baT (dg y)).size + 1 + (baT (mkB b)).size + (baT (dg z)).size + 1) 0 5)).size + 1))).drew := below_drw (e6.alloc e6.size _)
      have rA : Row (wc'.alloc (.cells (bytesRow ((⟨#[112, 114, 105, 110, 116, 32, 40]⟩ : ByteArray) ++ baT (dg x) ++ baT (mkB a) ++ baT (dg y) ++ ⟨#[41]⟩ ++ baT (mkB b) ++ baT (dg z) ++ ⟨#[59]⟩) (grownCap wc' (7 + (baT (dg x)).size + (baT (mkB a)).size + (baT (dg y)).size + 1 + (baT (mkB b)).size + (baT (dg z)).size + 1) 0 5)) 5 ((bytesRow ((⟨#[112, 114, 105, 110, 116, 32, 40]⟩ : ByteArray) ++ baT (dg x) ++ baT (mkB a) ++ baT (dg y) ++ ⟨#[41]⟩ ++ baT (mkB b) ++ baT (dg z) ++ ⟨#[59]⟩) (grownCap wc' (7 + (baT (dg x)).size + (baT (mkB a)).size + (baT (dg y)).size + 1 + (baT (mkB b)).size + (baT (dg z)).size + 1) 0 5)).size, (bytesRow ((⟨#[112, 114, 105, 110, 116, 32, 40]⟩ : ByteArray) ++ baT (dg x) ++ baT (mkB a) ++ baT (dg y) ++ ⟨#[41]⟩ ++ baT (mkB b) ++ baT (dg z) ++ ⟨#[59]⟩) (grownCap wc' (7 + (baT (dg x)).size + (baT (mkB a)).size + (baT (dg y)).size + 1 + (baT (mkB b)).size + (baT (dg z)).size + 1) 0 5)).size + 1))).drew (some ⟨wc'.heap.size, 0, none⟩) ((⟨#[112, 114, 105, 110, 116, 32, 40]⟩ : ByteArray) ++ baT (dg x) ++ baT (mkB a) ++ baT (dg y) ++ ⟨#[41]⟩ ++ baT (mkB b) ++ baT (dg z) ++ ⟨#[59]⟩).data.toList := row_bb wc' _ _
      have bx : (wc'.alloc (.cells (bytesRow ((⟨#[112, 114, 105, 110, 116, 32, 40]⟩ : ByteArray) ++ baT (dg x) ++ baT (mkB a) ++ baT (dg y) ++ ⟨#[41]⟩ ++ baT (mkB b) ++ baT (dg z) ++ ⟨#[59]⟩) (grownCap wc' (7 + (baT (dg x)).size + (baT (mkB a)).size + (baT (dg y)).size + 1 + (baT (mkB b)).size + (baT (dg z)).size + 1) 0 5)) 5 ((bytesRow ((⟨#[112, 114, 105, 110, 116, 32, 40]⟩ : ByteArray) ++ baT (dg x) ++ baT (mkB a) ++ baT (dg y) ++ ⟨#[41]⟩ ++ baT (mkB b) ++ baT (dg z) ++ ⟨#[59]⟩) (grownCap wc' (7 + (baT (dg x)).size + (baT (mkB a)).size + (baT (dg y)).size + 1 + (baT (mkB b)).size + (baT (dg z)).size + 1) 0 5)).size, (bytesRow ((⟨#[112, 114, 105, 110, 116, 32, 40]⟩ : ByteArray) ++ baT (dg x) ++ baT (mkB a) ++ baT (dg y) ++ ⟨#[41]⟩ ++ baT (mkB b) ++ baT (dg z) ++ ⟨#[59]⟩) (grownCap wc' (7 + (baT (dg x)).size + (baT (mkB a)).size + (baT (dg y)).size + 1 + (baT (mkB b)).size + (baT (dg z)).size + 1) 0 5)).size + 1))).drew.heap[nb]? = some P2 := (Below.heap_alloc wc' _ _ (lt_heap bx)).trans bx
      obtain ⟨wa, hwa⟩ : ∃ wa, (wc'.alloc (.cells (bytesRow ((⟨#[112, 114, 105, 110, 116, 32, 40]⟩ : ByteArray) ++ baT (dg x) ++ baT (mkB a) ++ baT (dg y) ++ ⟨#[41]⟩ ++ baT (mkB b) ++ baT (dg z) ++ ⟨#[59]⟩) (grownCap wc' (7 + (baT (dg x)).size + (baT (mkB a)).size + (baT (dg y)).size + 1 + (baT (mkB b)).size + (baT (dg z)).size + 1) 0 5)) 5 ((bytesRow ((⟨#[112, 114, 105, 110, 116, 32, 40]⟩ : ByteArray) ++ baT (dg x) ++ baT (mkB a) ++ baT (dg y) ++ ⟨#[41]⟩ ++ baT (mkB b) ++ baT (dg z) ++ ⟨#[59]⟩) (grownCap wc' (7 + (baT (dg x)).size + (baT (mkB a)).size + (baT (dg y)).size + 1 + (baT (mkB b)).size + (baT (dg z)).size + 1) 0 5)).size, (bytesRow ((⟨#[112, 114, 105, 110, 116, 32, 40]⟩ : ByteArray) ++ baT (dg x) ++ baT (mkB a) ++ baT (dg y) ++ ⟨#[41]⟩ ++ baT (mkB b) ++ baT (dg z) ++ ⟨#[59]⟩) (grownCap wc' (7 + (baT (dg x)).size + (baT (mkB a)).size + (baT (dg y)).size + 1 + (baT (mkB b)).size + (baT (dg z)).size + 1) 0 5)).size + 1))).drew = wa := ⟨_, rfl⟩
      rw [hwa] at eA rA bx ⊢
      clear hwa
      refine hK.out _ _ (fun _ => eA) ?_
      clear hK K
      try simp only [Act.put, List.getElem_toArray, List.getElem_cons_zero, List.getElem_cons_succ, List.setIfInBounds_toArray, List.set_cons_zero, List.set_cons_succ]
      refine AnyL.next 19 (by kernel_rfl) rfl (fun K hK => ?_)
      go_simp
      go_at_call 13
      refine (HQ9.out wa _ _ (grownCap_ge _ _ _ _) (rA)).mono ?_
      rintro e5 w5 ⟨⟨F, f, G, g, rfl, hv⟩, eC⟩
      go_wp2_with fail
      have e5 := eA.trans (eC.mono (eA).size)
      refine hK.out _ _ (fun _ => e5) ?_
      clear hK K
      try simp only [Act.put, List.getElem_toArray, List.getElem_cons_zero, List.getElem_cons_succ, List.setIfInBounds_toArray, List.set_cons_zero, List.set_cons_succ]
      refine AnyL.take 20 (.tuple #[.agg #[.slice F 0 f, .slice G 1 g], .int .i64 0, .int .i64 0]) rfl (by kernel_rfl) (by kernel_rfl) (by kernel_rfl) (by kernel_rfl) (fun _ _ _ h => h) (Or.inl ⟨by rfl, ?_⟩) (by assumption) ?_
      · intro W' hSw
        obtain ⟨l1, l2⟩ := HB.out W' hSw
        go_simp
      try simp only [Act.put, List.getElem_toArray, List.getElem_cons_zero, List.getElem_cons_succ, List.setIfInBounds_toArray, List.set_cons_zero, List.set_cons_succ]
      refine AnyL.take 21 ((.agg #[.slice F 0 f, .slice G 1 g])) rfl (by kernel_rfl) (by kernel_rfl) (by kernel_rfl) (by kernel_rfl) (fun _ _ _ h => h) (Or.inl ⟨by rfl, ?_⟩) (by assumption) ?_
      · intro W' hSw
        obtain ⟨l1, l2⟩ := HB.out W' hSw
        go_simp
      try simp only [Act.put, List.getElem_toArray, List.getElem_cons_zero, List.getElem_cons_succ, List.setIfInBounds_toArray, List.set_cons_zero, List.set_cons_succ]
      refine AnyL.take 22 (.int .i64 0) rfl (by kernel_rfl) (by kernel_rfl) (by kernel_rfl) (by kernel_rfl) (fun _ _ _ h => h) (Or.inl ⟨by rfl, ?_⟩) (by assumption) ?_
      · intro W' hSw
        obtain ⟨l1, l2⟩ := HB.out W' hSw
        go_simp
      try simp only [Act.put, List.getElem_toArray, List.getElem_cons_zero, List.getElem_cons_succ, List.setIfInBounds_toArray, List.set_cons_zero, List.set_cons_succ]
      refine AnyL.take 23 (.int .i64 0) rfl (by kernel_rfl) (by kernel_rfl) (by kernel_rfl) (by kernel_rfl) (fun _ _ _ h => h) (Or.inl ⟨by rfl, ?_⟩) (by assumption) ?_
      · intro W' hSw
        obtain ⟨l1, l2⟩ := HB.out W' hSw
        go_simp
      try simp only [Act.put, List.getElem_toArray, List.getElem_cons_zero, List.getElem_cons_succ, List.setIfInBounds_toArray, List.set_cons_zero, List.set_cons_succ]
      have bx' := (eC.block nb (lt_heap bx)).trans bx
      have b0 := box_cell bx' 0
      have b1' := box_cell bx' 1
      have fz0 := box_frozen bx' 0
      have fz1 := box_frozen bx' 1
      simp only [List.getElem?_toArray, List.getElem?_cons_succ, List.getElem?_cons_zero] at b0 b1'
      refine AnyL.next 25 (by kernel_rfl) rfl (fun K hK => ?_)
      go_simp
      have e7 := (Below.setCell (p := ⟨nb, 0, none⟩) e5 (by simp only; omega) (.slice F 0 f)).setCell (p := ⟨nb, 1, none⟩) (by simp only; omega) (.slice G 1 g)
      have x8 := two_cells (x := .slice F 0 f) (y := .slice G 1 g) bx'
      have hp8 : PgV ((w5.setCell ⟨nb, 0, none⟩ (.slice F 0 f)).setCell ⟨nb, 1, none⟩ (.slice G 1 g)).heap.size ((w5.setCell ⟨nb, 0, none⟩ (.slice F 0 f)).setCell ⟨nb, 1, none⟩ (.slice G 1 g)) (.agg #[.slice F 0 f, .slice G 1 g]) _ := (hv.kp (kp_two (x := .slice F 0 f) (y := .slice G 1 g) (lt_heap bx)) (Nat.le_refl _)).pgv
      obtain ⟨w8, hw8⟩ : ∃ w8, (w5.setCell ⟨nb, 0, none⟩ (.slice F 0 f)).setCell ⟨nb, 1, none⟩ (.slice G 1 g) = w8 := ⟨_, rfl⟩
      rw [hw8] at e7 x8 hp8 ⊢
      clear hw8
      refine hK.out _ _ (fun _ => e7) ?_
      clear hK K
      try simp only [Act.put, List.getElem_toArray, List.getElem_cons_zero, List.getElem_cons_succ, List.setIfInBounds_toArray, List.set_cons_zero, List.set_cons_succ]
      refine AnyL.take 26 (.int .i64 0) rfl (by kernel_rfl) (by kernel_rfl) (by kernel_rfl) (by kernel_rfl) (fun _ _ _ h => h) (Or.inl ⟨by rfl, ?_⟩) (by assumption) ?_
      · intro W' hSw
        obtain ⟨l1, l2⟩ := HB.out W' hSw
        go_simp
      try simp only [Act.put, List.getElem_toArray, List.getElem_cons_zero, List.getElem_cons_succ, List.setIfInBounds_toArray, List.set_cons_zero, List.set_cons_succ]
      refine AnyL.next 27 (by kernel_rfl) rfl (fun K hK => ?_)
      go_simp
      refine hK.out _ _ (fun _ => e7) ?_
      clear hK K
      try simp only [Act.put, List.getElem_toArray, List.getElem_cons_zero, List.getElem_cons_succ, List.setIfInBounds_toArray, List.set_cons_zero, List.set_cons_succ]
      refine AnyL.done (by kernel_rfl) ?_
      go_wp2_with fail
      go_meet
      exact ⟨nb, F, f, G, g, rfl, rfl, rfl, x8, hp8, e7⟩
  case rest =>
  obtain ⟨nb9, F9', f9', G9', g9', rfl, rfl, rfl, P9, hp9, eM⟩ := hcut
  obtain ⟨u9, rfl⟩ : ∃ u, u = wc := ⟨_, rfl⟩
  have P8 := (eM.block _ (lt_heap P8)).trans P8
  have hp8 := hp8.below eM eM.size
  have E9 : Below u2.heap.size u2 u9 := E8.trans (eM.mono E8.size)
  have F9 := F8.below eM
  clear eM
  go_upto_region 10 with fail
  go_cut [22, 23, 24] (fun p n e wx => Made u9 wx (pE (eRi x y z a b)) p n e)
  case first =>
    have HB := Lib.hid (fun w' (hb : Below u9.heap.size u9 w') => HM.out w' (E9.trans (hb.mono E9.size)))
    have hS0 : Below u9.heap.size u9 u9.drew := below_drw (Below.refl _ _)
    refine wp_region_late (fun w' => Below u9.heap.size u9 w') 27 (by kernel_rfl) ?_
    obtain ⟨zu, hzu⟩ : ∃ n, u9.heap.size = n := ⟨_, rfl⟩
    obtain ⟨u0, hu0⟩ : ∃ x, u9.drew = x := ⟨_, rfl⟩
    rw [hu0] at hS0 ⊢
    clear hu0
    refine AnyL.take 0 (.string (baT (dg x))) rfl (by kernel_rfl) (by kernel_rfl) (by kernel_rfl) (by kernel_rfl) (fun _ _ _ h => h) (Or.inl ⟨by rfl, ?_⟩) (by assumption) ?_
    · intro W' hSw
      obtain ⟨l1, l2⟩ := HB.out W' hSw
      go_simp
    try simp only [Act.put, List.getElem_toArray, List.getElem_cons_zero, List.setIfInBounds_toArray, List.set_cons_zero, List.set_cons_succ]
    refine AnyL.take 1 (.string ((⟨#[112, 114, 105, 110, 116, 32]⟩ : ByteArray) ++ baT (dg x))) rfl (by kernel_rfl) (by kernel_rfl) (by kernel_rfl) (by kernel_rfl) (fun _ _ _ h => h) (Or.inl ⟨by rfl, ?_⟩) (by assumption) ?_
    · intro W' hSw
      obtain ⟨l1, l2⟩ := HB.out W' hSw
      go_simp
    try simp only [Act.put, List.getElem_toArray, List.getElem_cons_zero, List.getElem_cons_succ, List.setIfInBounds_toArray, List.set_cons_zero, List.set_cons_succ]
    refine AnyL.take 2 (.slice (some ⟨n1, 0, none⟩) 9 9) rfl (by kernel_rfl) (by kernel_rfl) (by kernel_rfl) (by kernel_rfl) (fun _ _ _ h => h) (Or.inl ⟨by rfl, ?_⟩) (by assumption) ?_
    · intro W' hSw
      obtain ⟨l1, l2⟩ := HB.out W' hSw
      go_simp
    try simp only [Act.put, List.getElem_toArray, List.getElem_cons_zero, List.getElem_cons_succ, List.setIfInBounds_toArray, List.set_cons_zero, List.set_cons_succ]
    refine AnyL.take 3 (.int .i64 a) rfl (by kernel_rfl) (by kernel_rfl) (by kernel_rfl) (by kernel_rfl) (fun _ _ _ h => h) (Or.inl ⟨by rfl, ?_⟩) (by assumption) ?_
    · intro W' hSw
      obtain ⟨l1, l2⟩ := HB.out W' hSw
      go_simp
    try simp only [Act.put, List.getElem_toArray, List.getElem_cons_zero, List.getElem_cons_succ, List.setIfInBounds_toArray, List.set_cons_zero, List.set_cons_succ]
    refine AnyL.take 4 (.pointer (some ⟨n1, a, none⟩)) rfl (by kernel_rfl) (by kernel_rfl) (by kernel_rfl) (by kernel_rfl) (fun _ _ _ h => h) (Or.inl ⟨by rfl, ?_⟩) (by assumption) ?_
    · intro W' hSw
      obtain ⟨l1, l2⟩ := HB.out W' hSw
      go_simp
    try simp only [Act.put, List.getElem_toArray, List.getElem_cons_zero, List.getElem_cons_succ, List.setIfInBounds_toArray, List.set_cons_zero, List.set_cons_succ]
    refine AnyL.take 5 (.string (baT (mkB a))) rfl (by kernel_rfl) (by kernel_rfl) (by kernel_rfl) (by kernel_rfl) (fun _ _ _ h => h) (Or.inl ⟨by rfl, ?_⟩) (by assumption) ?_
    · intro W' hSw
      obtain ⟨l1, l2⟩ := HB.out W' hSw
      go_simp
    try simp only [Act.put, List.getElem_toArray, List.getElem_cons_zero, List.getElem_cons_succ, List.setIfInBounds_toArray, List.set_cons_zero, List.set_cons_succ]
    refine AnyL.take 6 (.string ((⟨#[112, 114, 105, 110, 116, 32]⟩ : ByteArray) ++ baT (dg x) ++ baT (mkB a))) rfl (by kernel_rfl) (by kernel_rfl) (by kernel_rfl) (by kernel_rfl) (fun _ _ _ h => h) (Or.inl ⟨by rfl, ?_⟩) (by assumption) ?_
    · intro W' hSw
      obtain ⟨l1, l2⟩ := HB.out W' hSw
      go_simp
    try simp only [Act.put, List.getElem_toArray, List.getElem_cons_zero, List.getElem_cons_succ, List.setIfInBounds_toArray, List.set_cons_zero, List.set_cons_succ]
    refine AnyL.take 7 (.string ((⟨#[112, 114, 105, 110, 116, 32]⟩ : ByteArray) ++ baT (dg x) ++ baT (mkB a) ++ ⟨#[40]⟩)) rfl (by kernel_rfl) (by kernel_rfl) (by kernel_rfl) (by kernel_rfl) (fun _ _ _ h => h) (Or.inl ⟨by rfl, ?_⟩) (by assumption) ?_
    · intro W' hSw
      obtain ⟨l1, l2⟩ := HB.out W' hSw
      go_simp
    try simp only [Act.put, List.getElem_toArray, List.getElem_cons_zero, List.getElem_cons_succ, List.setIfInBounds_toArray, List.set_cons_zero, List.set_cons_succ]
    refine AnyL.take 8 (.string (baT (dg y))) rfl (by kernel_rfl) (by kernel_rfl) (by kernel_rfl) (by kernel_rfl) (fun _ _ _ h => h) (Or.inl ⟨by rfl, ?_⟩) (by assumption) ?_
    · intro W' hSw
      obtain ⟨l1, l2⟩ := HB.out W' hSw
      go_simp
    try simp only [Act.put, List.getElem_toArray, List.getElem_cons_zero, List.getElem_cons_succ, List.setIfInBounds_toArray, List.set_cons_zero, List.set_cons_succ]
    refine AnyL.take 9 (.string ((⟨#[112, 114, 105, 110, 116, 32]⟩ : ByteArray) ++ baT (dg x) ++ baT (mkB a) ++ ⟨#[40]⟩ ++ baT (dg y))) rfl (by kernel_rfl) (by kernel_rfl) (by kernel_rfl) (by kernel_rfl) (fun _ _ _ h => h) (Or.inl ⟨by rfl, ?_⟩) (by assumption) ?_
    · intro W' hSw
      obtain ⟨l1, l2⟩ := HB.out W' hSw
      go_simp
    try simp only [Act.put, List.getElem_toArray, List.getElem_cons_zero, List.getElem_cons_succ, List.setIfInBounds_toArray, List.set_cons_zero, List.set_cons_succ]
    refine AnyL.take 10 (.slice (some ⟨n1, 0, none⟩) 9 9) rfl (by kernel_rfl) (by kernel_rfl) (by kernel_rfl) (by kernel_rfl) (fun _ _ _ h => h) (Or.inl ⟨by rfl, ?_⟩) (by assumption) ?_
    · intro W' hSw
      obtain ⟨l1, l2⟩ := HB.out W' hSw
      go_simp
    try simp only [Act.put, List.getElem_toArray, List.getElem_cons_zero, List.getElem_cons_succ, List.setIfInBounds_toArray, List.set_cons_zero, List.set_cons_succ]
    refine AnyL.take 11 (.int .i64 b) rfl (by kernel_rfl) (by kernel_rfl) (by kernel_rfl) (by kernel_rfl) (fun _ _ _ h => h) (Or.inl ⟨by rfl, ?_⟩) (by assumption) ?_
    · intro W' hSw
      obtain ⟨l1, l2⟩ := HB.out W' hSw
      go_simp
    try simp only [Act.put, List.getElem_toArray, List.getElem_cons_zero, List.getElem_cons_succ, List.setIfInBounds_toArray, List.set_cons_zero, List.set_cons_succ]
    refine AnyL.take 12 (.pointer (some ⟨n1, b, none⟩)) rfl (by kernel_rfl) (by kernel_rfl) (by kernel_rfl) (by kernel_rfl) (fun _ _ _ h => h) (Or.inl ⟨by rfl, ?_⟩) (by assumption) ?_
    · intro W' hSw
      obtain ⟨l1, l2⟩ := HB.out W' hSw
      go_simp
    try simp only [Act.put, List.getElem_toArray, List.getElem_cons_zero, List.getElem_cons_succ, List.setIfInBounds_toArray, List.set_cons_zero, List.set_cons_succ]
    refine AnyL.take 13 (.string (baT (mkB b))) rfl (by kernel_rfl) (by kernel_rfl) (by kernel_rfl) (by kernel_rfl) (fun _ _ _ h => h) (Or.inl ⟨by rfl, ?_⟩) (by assumption) ?_
    · intro W' hSw
      obtain ⟨l1, l2⟩ := HB.out W' hSw
      go_simp
    try simp only [Act.put, List.getElem_toArray, List.getElem_cons_zero, List.getElem_cons_succ, List.setIfInBounds_toArray, List.set_cons_zero, List.set_cons_succ]
    refine AnyL.take 14 (.string ((⟨#[112, 114, 105, 110, 116, 32]⟩ : ByteArray) ++ baT (dg x) ++ baT (mkB a) ++ ⟨#[40]⟩ ++ baT (dg y) ++ baT (mkB b))) rfl (by kernel_rfl) (by kernel_rfl) (by kernel_rfl) (by kernel_rfl) (fun _ _ _ h => h) (Or.inl ⟨by rfl, ?_⟩) (by assumption) ?_
    · intro W' hSw
      obtain ⟨l1, l2⟩ := HB.out W' hSw
      go_simp
    try simp only [Act.put, List.getElem_toArray, List.getElem_cons_zero, List.getElem_cons_succ, List.setIfInBounds_toArray, List.set_cons_zero, List.set_cons_succ]
    refine AnyL.take 15 (.string (baT (dg z))) rfl (by kernel_rfl) (by kernel_rfl) (by kernel_rfl) (by kernel_rfl) (fun _ _ _ h => h) (Or.inl ⟨by rfl, ?_⟩) (by assumption) ?_
    · intro W' hSw
      obtain ⟨l1, l2⟩ := HB.out W' hSw
      go_simp
    try simp only [Act.put, List.getElem_toArray, List.getElem_cons_zero, List.getElem_cons_succ, List.setIfInBounds_toArray, List.set_cons_zero, List.set_cons_succ]
    refine AnyL.take 16 (.string ((⟨#[112, 114, 105, 110, 116, 32]⟩ : ByteArray) ++ baT (dg x) ++ baT (mkB a) ++ ⟨#[40]⟩ ++ baT (dg y) ++ baT (mkB b) ++ baT (dg z))) rfl (by kernel_rfl) (by kernel_rfl) (by kernel_rfl) (by kernel_rfl) (fun _ _ _ h => h) (Or.inl ⟨by rfl, ?_⟩) (by assumption) ?_
    · intro W' hSw
      obtain ⟨l1, l2⟩ := HB.out W' hSw
      go_simp
    try simp only [Act.put, List.getElem_toArray, List.getElem_cons_zero, List.getElem_cons_succ, List.setIfInBounds_toArray, List.set_cons_zero, List.set_cons_succ]
    refine AnyL.take 17 (.string ((⟨#[112, 114, 105, 110, 116, 32]⟩ : ByteArray) ++ baT (dg x) ++ baT (mkB a) ++ ⟨#[40]⟩ ++ baT (dg y) ++ baT (mkB b) ++ baT (dg z) ++ ⟨#[41, 59]⟩)) rfl (by kernel_rfl) (by kernel_rfl) (by kernel_rfl) (by kernel_rfl) (fun _ _ _ h => h) (Or.inl ⟨by rfl, ?_⟩) (by assumption) ?_
    · intro W' hSw
      obtain ⟨l1, l2⟩ := HB.out W' hSw
      go_simp
    try simp only [Act.put, List.getElem_toArray, List.getElem_cons_zero, List.getElem_cons_succ, List.setIfInBounds_toArray, List.set_cons_zero, List.set_cons_succ]
    refine AnyL.both 18 24 (by kernel_rfl) rfl rfl (fun K hK => ?_) (fun K hK => ?_)
    · go_simp
      have eA : Below u9.heap.size u9 (u0.alloc (.cells (bytesRow ((⟨#[112, 114, 105, 110, 116, 32]⟩ : ByteArray) ++ baT (dg x) ++ baT (mkB a) ++ ⟨#[40]⟩ ++ baT (dg y) ++ baT (mkB b) ++ baT (dg z) ++ ⟨#[41, 59]⟩) (grownCap u0 (6 + (baT (dg x)).size + (baT (mkB a)).size + 1 + (baT (dg y)).size + (baT (mkB b)).size + (baT (dg z)).size + 2) 0 5)) 5 ((bytesRow ((⟨#[112, 114, 105, 110, 116, 32]⟩ : ByteArray) ++ baT (dg x) ++ baT (mkB a) ++ ⟨#[40]⟩ ++ baT (dg y) ++ baT (mkB b) ++ baT (dg z) ++ ⟨#[41, 59]⟩) (grownCap u0 (6 + (baT (dg x)).size + (baT (mkB a)).size + 1 + (baT (dg y)).size + (baT (mkB b)).size + (baT (dg z)).size + 2) 0 5)).size, (bytesRow ((⟨#[112, 114, 105, 110, 116, 32]⟩ : ByteArray) ++ baT (dg x) ++ baT (mkB a) ++ ⟨#[40]⟩ ++ baT (dg y) ++ baT (mkB b) ++ baT (dg z) ++ ⟨#[41, 59]⟩) (grownCap u0 (6 + (baT (dg x)).size + (baT (mkB a)).size + 1 + (baT (dg y)).size + (baT (mkB b)).size + (baT (dg z)).size + 2) 0 5)).size + 1))).drew := below_drw (hS0.alloc hS0.size _)
      have rA : Row (u0.alloc (.cells (bytesRow ((⟨#[112, 114, 105, 110, 116, 32]⟩ : ByteArray) ++ baT (dg x) ++ baT (mkB a) ++ ⟨#[40]⟩ ++ baT (dg y) ++ baT (mkB b) ++ baT (dg z) ++ ⟨#[41, 59]⟩) (grownCap u0 (6 + (baT (dg x)).size + (baT (mkB a)).size + 1 + (baT (dg y)).size + (baT (mkB b)).size + (baT (dg z)).size + 2) 0 5)) 5 ((bytesRow ((⟨#[112, 114, 105, 110, 116, 32]⟩ : ByteArray) ++ baT (dg x) ++ baT (mkB a) ++ ⟨#[40]⟩ ++ baT (dg y) ++ baT (mkB b) ++ baT (dg z) ++ ⟨#[41, 59]⟩) (grownCap u0 (6 + (baT (dg x)).size + (baT (mkB a)).size + 1 + (baT (dg y)).size + (baT (mkB b)).size + (baT (dg z)).size + 2) 0 5)).size, (bytesRow ((⟨#[112, 114, 105, 110, 116, 32]⟩ : ByteArray) ++ baT (dg x) ++ baT (mkB a) ++ ⟨#[40]⟩ ++ baT (dg y) ++ baT (mkB b) ++ baT (dg z) ++ ⟨#[41, 59]⟩) (grownCap u0 (6 + (baT (dg x)).size + (baT (mkB a)).size + 1 + (baT (dg y)).size + (baT (mkB b)).size + (baT (dg z)).size + 2) 0 5)).size + 1))).drew (some ⟨u0.heap.size, 0, none⟩) ((⟨#[112, 114, 105, 110, 116, 32]⟩ : ByteArray) ++ baT (dg x) ++ baT (mkB a) ++ ⟨#[40]⟩ ++ baT (dg y) ++ baT (mkB b) ++ baT (dg z) ++ ⟨#[41, 59]⟩).data.toList := row_bb u0 _ _
      obtain ⟨wa, hwa⟩ : ∃ wa, (u0.alloc (.cells (bytesRow ((⟨#[112, 114, 105, 110, 116, 32]⟩ : ByteArray) ++ baT (dg x) ++ baT (mkB a) ++ ⟨#[40]⟩ ++ baT (dg y) ++ baT (mkB b) ++ baT (dg z) ++ ⟨#[41, 59]⟩) (grownCap u0 (6 + (baT (dg x)).size + (baT (mkB a)).size + 1 + (baT (dg y)).size + (baT (mkB b)).size + (baT (dg z)).size + 2) 0 5)) 5 ((bytesRow ((⟨#[112, 114, 105, 110, 116, 32]⟩ : ByteArray) ++ baT (dg x) ++ baT (mkB a) ++ ⟨#[40]⟩ ++ baT (dg y) ++ baT (mkB b) ++ baT (dg z) ++ ⟨#[41, 59]⟩) (grownCap u0 (6 + (baT (dg x)).size + (baT (mkB a)).size + 1 + (baT (dg y)).size + (baT (mkB b)).size + (baT (dg z)).size + 2) 0 5)).size, (bytesRow ((⟨#[112, 114, 105, 110, 116, 32]⟩ : ByteArray) ++ baT (dg x) ++ baT (mkB a) ++ ⟨#[40]⟩ ++ baT (dg y) ++ baT (mkB b) ++ baT (dg z) ++ ⟨#[41, 59]⟩) (grownCap u0 (6 + (baT (dg x)).size + (baT (mkB a)).size + 1 + (baT (dg y)).size + (baT (mkB b)).size + (baT (dg z)).size + 2) 0 5)).size + 1))).drew = wa := ⟨_, rfl⟩
      rw [hwa] at eA rA ⊢
      clear hwa
      refine hK.out _ _ (fun _ => eA) ?_
      clear hK K
      try simp only [Act.put, List.getElem_toArray, List.getElem_cons_zero, List.getElem_cons_succ, List.setIfInBounds_toArray, List.set_cons_zero, List.set_cons_succ]
      refine AnyL.both 19 24 (by kernel_rfl) rfl rfl (fun K hK => ?_) (fun K hK => ?_)
      · go_simp
        go_at_call 13
        refine (HQ10.out wa _ _ (grownCap_ge _ _ _ _) (rA)).mono ?_
        rintro e5 w5 ⟨⟨F, f, G, g, rfl, hv⟩, eC⟩
        go_wp2_with fail
        have e5 := eA.trans (eC.mono (eA).size)
        refine hK.out _ _ (fun _ => e5) ?_
        clear hK K
        try simp only [Act.put, List.getElem_toArray, List.getElem_cons_zero, List.getElem_cons_succ, List.setIfInBounds_toArray, List.set_cons_zero, List.set_cons_succ]
        refine AnyL.take 20 (.tuple #[.agg #[.slice F 0 f, .slice G 1 g], .int .i64 0, .int .i64 0]) rfl (by kernel_rfl) (by kernel_rfl) (by kernel_rfl) (by kernel_rfl) (fun _ _ _ h => h) (Or.inl ⟨by rfl, ?_⟩) (by assumption) ?_
        · intro W' hSw
          obtain ⟨l1, l2⟩ := HB.out W' hSw
          go_simp
        try simp only [Act.put, List.getElem_toArray, List.getElem_cons_zero, List.getElem_cons_succ, List.setIfInBounds_toArray, List.set_cons_zero, List.set_cons_succ]
        refine AnyL.take 21 ((.agg #[.slice F 0 f, .slice G 1 g])) rfl (by kernel_rfl) (by kernel_rfl) (by kernel_rfl) (by kernel_rfl) (fun _ _ _ h => h) (Or.inl ⟨by rfl, ?_⟩) (by assumption) ?_
        · intro W' hSw
          obtain ⟨l1, l2⟩ := HB.out W' hSw
          go_simp
        try simp only [Act.put, List.getElem_toArray, List.getElem_cons_zero, List.getElem_cons_succ, List.setIfInBounds_toArray, List.set_cons_zero, List.set_cons_succ]
        refine AnyL.take 22 (.int .i64 0) rfl (by kernel_rfl) (by kernel_rfl) (by kernel_rfl) (by kernel_rfl) (fun _ _ _ h => h) (Or.inl ⟨by rfl, ?_⟩) (by assumption) ?_
        · intro W' hSw
          obtain ⟨l1, l2⟩ := HB.out W' hSw
          go_simp
        try simp only [Act.put, List.getElem_toArray, List.getElem_cons_zero, List.getElem_cons_succ, List.setIfInBounds_toArray, List.set_cons_zero, List.set_cons_succ]
        refine AnyL.take 23 (.int .i64 0) rfl (by kernel_rfl) (by kernel_rfl) (by kernel_rfl) (by kernel_rfl) (fun _ _ _ h => h) (Or.inl ⟨by rfl, ?_⟩) (by assumption) ?_
        · intro W' hSw
          obtain ⟨l1, l2⟩ := HB.out W' hSw
          go_simp
        try simp only [Act.put, List.getElem_toArray, List.getElem_cons_zero, List.getElem_cons_succ, List.setIfInBounds_toArray, List.set_cons_zero, List.set_cons_succ]
        refine AnyL.next 24 (by kernel_rfl) rfl (fun K hK => ?_)
        go_simp
        have e6 := e5.alloc e5.size P2
        have bx := heap_alloc_new w5 P2
        have hz6 := e5.size
        have hp6 := hv.pgv.below ((Below.refl w5.heap.size w5).alloc (Nat.le_refl _) P2) (Nat.le_refl _)
        obtain ⟨wc', hwc⟩ : ∃ wc, w5.alloc P2 = wc := ⟨_, rfl⟩
        rw [hwc] at e6 bx hp6 ⊢
        clear hwc
        obtain ⟨nb, hnb⟩ : ∃ nb, w5.heap.size = nb := ⟨_, rfl⟩
        rw [hnb] at bx hz6 hp6 ⊢
        refine hK.out _ _ (fun _ => e6) ?_
        clear hK K
        try simp only [Act.put, List.getElem_toArray, List.getElem_cons_zero, List.getElem_cons_succ, List.setIfInBounds_toArray, List.set_cons_zero, List.set_cons_succ]
        have b0 := box_cell bx 0
        have b1' := box_cell bx 1
        have fz0 := box_frozen bx 0
        have fz1 := box_frozen bx 1
        simp only [List.getElem?_toArray, List.getElem?_cons_succ, List.getElem?_cons_zero] at b0 b1'
        refine AnyL.next 25 (by kernel_rfl) rfl (fun K hK => ?_)
        go_simp
        have e7 := (Below.setCell (p := ⟨nb, 0, none⟩) e6 (by simp only; omega) (.slice F 0 f)).setCell (p := ⟨nb, 1, none⟩) (by simp only; omega) (.slice G 1 g)
        have x8 := two_cells (x := .slice F 0 f) (y := .slice G 1 g) bx
        have hp8 : PgV ((wc'.setCell ⟨nb, 0, none⟩ (.slice F 0 f)).setCell ⟨nb, 1, none⟩ (.slice G 1 g)).heap.size ((wc'.setCell ⟨nb, 0, none⟩ (.slice F 0 f)).setCell ⟨nb, 1, none⟩ (.slice G 1 g)) (.agg #[.slice F 0 f, .slice G 1 g]) _ := PgV.below hp6 (((Below.refl nb wc').setCell (p := ⟨nb, 0, none⟩) (Nat.le_refl _) (.slice F 0 f)).setCell (p := ⟨nb, 1, none⟩) (Nat.le_refl _) (.slice G 1 g)) (by have := lt_heap bx; simp; omega)
        obtain ⟨w8, hw8⟩ : ∃ w8, (wc'.setCell ⟨nb, 0, none⟩ (.slice F 0 f)).setCell ⟨nb, 1, none⟩ (.slice G 1 g) = w8 := ⟨_, rfl⟩
        rw [hw8] at e7 x8 hp8 ⊢
        clear hw8
        refine hK.out _ _ (fun _ => e7) ?_
        clear hK K
        try simp only [Act.put, List.getElem_toArray, List.getElem_cons_zero, List.getElem_cons_succ, List.setIfInBounds_toArray, List.set_cons_zero, List.set_cons_succ]
        refine AnyL.take 26 (.int .i64 0) rfl (by kernel_rfl) (by kernel_rfl) (by kernel_rfl) (by kernel_rfl) (fun _ _ _ h => h) (Or.inl ⟨by rfl, ?_⟩) (by assumption) ?_
        · intro W' hSw
          obtain ⟨l1, l2⟩ := HB.out W' hSw
          go_simp
        try simp only [Act.put, List.getElem_toArray, List.getElem_cons_zero, List.getElem_cons_succ, List.setIfInBounds_toArray, List.set_cons_zero, List.set_cons_succ]
        refine AnyL.next 27 (by kernel_rfl) rfl (fun K hK => ?_)
        go_simp
        refine hK.out _ _ (fun _ => e7) ?_
        clear hK K
        try simp only [Act.put, List.getElem_toArray, List.getElem_cons_zero, List.getElem_cons_succ, List.setIfInBounds_toArray, List.set_cons_zero, List.set_cons_succ]
        refine AnyL.done (by kernel_rfl) ?_
        go_wp2_with fail
        go_meet
        exact ⟨nb, F, f, G, g, rfl, rfl, rfl, x8, hp8, e7⟩
      · go_simp
        have e6 := eA.alloc eA.size P2
        have bx := heap_alloc_new wa P2
        have hz6 := eA.size
        have rB := rA.al2 P2
        obtain ⟨wc', hwc⟩ : ∃ wc, wa.alloc P2 = wc := ⟨_, rfl⟩
        rw [hwc] at e6 bx rB ⊢
        clear hwc
        obtain ⟨nb, hnb⟩ : ∃ nb, wa.heap.size = nb := ⟨_, rfl⟩
        rw [hnb] at bx hz6 ⊢
        refine hK.out _ _ (fun _ => e6) ?_
        clear hK K
        try simp only [Act.put, List.getElem_toArray, List.getElem_cons_zero, List.getElem_cons_succ, List.setIfInBounds_toArray, List.set_cons_zero, List.set_cons_succ]
        refine AnyL.next 19 (by kernel_rfl) rfl (fun K hK => ?_)
        go_simp
        go_at_call 13
        refine (HQ10.out wc' _ _ (grownCap_ge _ _ _ _) (rB)).mono ?_
        rintro e5 w5 ⟨⟨F, f, G, g, rfl, hv⟩, eC⟩
        go_wp2_with fail
        have e5 := e6.trans (eC.mono (e6).size)
        refine hK.out _ _ (fun _ => e5) ?_
        clear hK K
        try simp only [Act.put, List.getElem_toArray, List.getElem_cons_zero, List.getElem_cons_succ, List.setIfInBounds_toArray, List.set_cons_zero, List.set_cons_succ]
        refine AnyL.take 20 (.tuple #[.agg #[.slice F 0 f, .slice G 1 g], .int .i64 0, .int .i64 0]) rfl (by kernel_rfl) (by kernel_rfl) (by kernel_rfl) (by kernel_rfl) (fun _ _ _ h => h) (Or.inl ⟨by rfl, ?_⟩) (by assumption) ?_
        · intro W' hSw
          obtain ⟨l1, l2⟩ := HB.out W' hSw
          go_simp
        try simp only [Act.put, List.getElem_toArray, List.getElem_cons_zero, List.getElem_cons_succ, List.setIfInBounds_toArray, List.set_cons_zero, List.set_cons_succ]
        refine AnyL.take 21 ((.agg #[.slice F 0 f, .slice G 1 g])) rfl (by kernel_rfl) (by kernel_rfl) (by kernel_rfl) (by kernel_rfl) (fun _ _ _ h => h) (Or.inl ⟨by rfl, ?_⟩) (by assumption) ?_
        · intro W' hSw
          obtain ⟨l1, l2⟩ := HB.out W' hSw
          go_simp
        try simp only [Act.put, List.getElem_toArray, List.getElem_cons_zero, List.getElem_cons_succ, List.setIfInBounds_toArray, List.set_cons_zero, List.set_cons_succ]
        refine AnyL.take 22 (.int .i64 0) rfl (by kernel_rfl) (by kernel_rfl) (by kernel_rfl) (by kernel_rfl) (fun _ _ _ h => h) (Or.inl ⟨by rfl, ?_⟩) (by assumption) ?_
        · intro W' hSw
          obtain ⟨l1, l2⟩ := HB.out W' hSw
          go_simp
        try simp only [Act.put, List.getElem_toArray, List.getElem_cons_zero, List.getElem_cons_succ, List.setIfInBounds_toArray, List.set_cons_zero, List.set_cons_succ]
        refine AnyL.take 23 (.int .i64 0) rfl (by kernel_rfl) (by kernel_rfl) (by kernel_rfl) (by kernel_rfl) (fun _ _ _ h => h) (Or.inl ⟨by rfl, ?_⟩) (by assumption) ?_
        · intro W' hSw
          obtain ⟨l1, l2⟩ := HB.out W' hSw
          go_simp
        try simp only [Act.put, List.getElem_toArray, List.getElem_cons_zero, List.getElem_cons_succ, List.setIfInBounds_toArray, List.set_cons_zero, List.set_cons_succ]
        have bx' := (eC.block nb (lt_heap bx)).trans bx
        have b0 := box_cell bx' 0
        have b1' := box_cell bx' 1
        have fz0 := box_frozen bx' 0
        have fz1 := box_frozen bx' 1
        simp only [List.getElem?_toArray, List.getElem?_cons_succ, List.getElem?_cons_zero] at b0 b1'
        refine AnyL.next 25 (by kernel_rfl) rfl (fun K hK => ?_)
        go_simp
        have e7 := (Below.setCell (p := ⟨nb, 0, none⟩) e5 (by simp only; omega) (.slice F 0 f)).setCell (p := ⟨nb, 1, none⟩) (by simp only; omega) (.slice G 1 g)
        have x8 := two_cells (x := .slice F 0 f) (y := .slice G 1 g) bx'
        have hp8 : PgV ((w5.setCell ⟨nb, 0, none⟩ (.slice F 0 f)).setCell ⟨nb, 1, none⟩ (.slice G 1 g)).heap.size ((w5.setCell ⟨nb, 0, none⟩ (.slice F 0 f)).setCell ⟨nb, 1, none⟩ (.slice G 1 g)) (.agg #[.slice F 0 f, .slice G 1 g]) _ := (hv.kp (kp_two (x := .slice F 0 f) (y := .slice G 1 g) (lt_heap bx)) (Nat.le_refl _)).pgv
        obtain ⟨w8, hw8⟩ : ∃ w8, (w5.setCell ⟨nb, 0, none⟩ (.slice F 0 f)).setCell ⟨nb, 1, none⟩ (.slice G 1 g) = w8 := ⟨_, rfl⟩
        rw [hw8] at e7 x8 hp8 ⊢
        clear hw8
        refine hK.out _ _ (fun _ => e7) ?_
        clear hK K
        try simp only [Act.put, List.getElem_toArray, List.getElem_cons_zero, List.getElem_cons_succ, List.setIfInBounds_toArray, List.set_cons_zero, List.set_cons_succ]
        refine AnyL.take 26 (.int .i64 0) rfl (by kernel_rfl) (by kernel_rfl) (by kernel_rfl) (by kernel_rfl) (fun _ _ _ h => h) (Or.inl ⟨by rfl, ?_⟩) (by assumption) ?_
        · intro W' hSw
          obtain ⟨l1, l2⟩ := HB.out W' hSw
          go_simp
        try simp only [Act.put, List.getElem_toArray, List.getElem_cons_zero, List.getElem_cons_succ, List.setIfInBounds_toArray, List.set_cons_zero, List.set_cons_succ]
        refine AnyL.next 27 (by kernel_rfl) rfl (fun K hK => ?_)
        go_simp
        refine hK.out _ _ (fun _ => e7) ?_
        clear hK K
        try simp only [Act.put, List.getElem_toArray, List.getElem_cons_zero, List.getElem_cons_succ, List.setIfInBounds_toArray, List.set_cons_zero, List.set_cons_succ]
        refine AnyL.done (by kernel_rfl) ?_
        go_wp2_with fail
        go_meet
        exact ⟨nb, F, f, G, g, rfl, rfl, rfl, x8, hp8, e7⟩
    · go_simp
      have e6 : Below u9.heap.size u9 (u0.alloc P2) := hS0.alloc hS0.size _
      have bx : (u0.alloc P2).heap[u0.heap.size]? = some P2 := heap_alloc_new u0 P2
      have hz6 := hS0.size
      obtain ⟨wc', hwc⟩ : ∃ wc, u0.alloc P2 = wc := ⟨_, rfl⟩
      rw [hwc] at e6 bx ⊢
      clear hwc
      obtain ⟨nb, hnb⟩ : ∃ nb, u0.heap.size = nb := ⟨_, rfl⟩
      rw [hnb] at bx hz6 ⊢
      refine hK.out _ _ (fun _ => e6) ?_
      clear hK K
      try simp only [Act.put, List.getElem_toArray, List.getElem_cons_zero, List.getElem_cons_succ, List.setIfInBounds_toArray, List.set_cons_zero, List.set_cons_succ]
      refine AnyL.next 18 (by kernel_rfl) rfl (fun K hK => ?_)
      go_simp
      have eA : Below u9.heap.size u9 (wc'.alloc (.cells (bytesRow ((⟨#[112, 114, 105, 110, 116, 32]⟩ : ByteArray) ++ baT (dg x) ++ baT (mkB a) ++ ⟨#[40]⟩ ++ baT (dg y) ++ baT (mkB b) ++ baT (dg z) ++ ⟨#[41, 59]⟩) (grownCap wc' (6 + (baT (dg x)).size + (baT (mkB a)).size + 1 + (baT (dg y)).size + (baT (mkB b)).size + (baT (dg z)).size + 2) 0 5)) 5 ((bytesRow ((⟨#[112, 114, 105, 110, 116, 32]⟩ : ByteArray) ++ baT (dg x) ++ baT (mkB a) ++ ⟨#[40]⟩ ++ baT (dg y) ++ baT (mkB b) ++ baT (dg z) ++ ⟨#[41, 59]⟩) (grownCap wc' (6 + (baT (dg x)).size + (baT (mkB a)).size + 1 + (baT (dg y)).size + (baT (mkB b)).size + (baT (dg z)).size + 2) 0 5)).size, (bytesRow ((⟨#[112, 114, 105, 110, 116, 32]⟩ : ByteArray) ++ baT (dg x) ++ baT (mkB a) ++ ⟨#[40]⟩ ++ baT (dg y) ++ baT (mkB b) ++ baT (dg z) ++ ⟨#[41, 59]⟩) (grownCap wc' (6 + (baT (dg x)).size + (baT (mkB a)).size + 1 + (baT (dg y)).size + (baT (mkB b)).size + (baT (dg z)).size + 2) 0 5)).size + 1))).drew := below_drw (e6.alloc e6.size _)
      have rA : Row (wc'.alloc (.cells (bytesRow ((⟨#[112, 114, 105, 110, 116, 32]⟩ : ByteArray) ++ baT (dg x) ++ baT (mkB a) ++ ⟨#[40]⟩ ++ baT (dg y) ++ baT (mkB b) ++ baT (dg z) ++ ⟨#[41, 59]⟩) (grownCap wc' (6 + (baT (dg x)).size + (baT (mkB a)).size + 1 + (baT (dg y)).size + (baT (mkB b)).size + (baT (dg z)).size + 2) 0 5)) 5 ((bytesRow ((⟨#[112, 114, 105, 110, 116, 32]⟩ : ByteArray) ++ baT (dg x) ++ baT (mkB a) ++ ⟨#[40]⟩ ++ baT (dg y) ++ baT (mkB b) ++ baT (dg z) ++ ⟨#[41, 59]⟩) (grownCap wc' (6 + (baT (dg x)).size + (baT (mkB a)).size + 1 + (baT (dg y)).size + (baT (mkB b)).size + (baT (dg z)).size + 2) 0 5)).size, (bytesRow ((⟨#[112, 114, 105, 110, 116, 32]⟩ : ByteArray) ++ baT (dg x) ++ baT (mkB a) ++ ⟨#[40]⟩ ++ baT (dg y) ++ baT (mkB b) ++ baT (dg z) ++ ⟨#[41, 59]⟩) (grownCap wc' (6 + (baT (dg x)).size + (baT (mkB a)).size + 1 + (baT (dg y)).size + (baT (mkB b)).size + (baT (dg z)).size + 2) 0 5)).size + 1))).drew (some ⟨wc'.heap.size, 0, none⟩) ((⟨#[112, 114, 105, 110, 116, 32]⟩ : ByteArray) ++ baT (dg x) ++ baT (mkB a) ++ ⟨#[40]⟩ ++ baT (dg y) ++ baT (mkB b) ++ baT (dg z) ++ ⟨#[41, 59]⟩).data.toList := row_bb wc' _ _
      have bx : (wc'.alloc (.cells (bytesRow ((⟨#[112, 114, 105, 110, 116, 32]⟩ : ByteArray) ++ baT (dg x) ++ baT (mkB a) ++ ⟨#[40]⟩ ++ baT (dg y) ++ baT (mkB b) ++ baT (dg z) ++ ⟨#[41, 59]⟩) (grownCap wc' (6 + (baT (dg x)).size + (baT (mkB a)).size + 1 + (baT (dg y)).size + (baT (mkB b)).size + (baT (dg z)).size + 2) 0 5)) 5 ((bytesRow ((⟨#[112, 114, 105, 110, 116, 32]⟩ : ByteArray) ++ baT (dg x) ++ baT (mkB a) ++ ⟨#[40]⟩ ++ baT (dg y) ++ baT (mkB b) ++ baT (dg z) ++ ⟨#[41, 59]⟩) (grownCap wc' (6 + (baT (dg x)).size + (baT (mkB a)).size + 1 + (baT (dg y)).size + (baT (mkB b)).size + (baT (dg z)).size + 2) 0 5)).size, (bytesRow ((⟨#[112, 114, 105, 110, 116, 32]⟩ : ByteArray) ++ baT (dg x) ++ baT (mkB a) ++ ⟨#[40]⟩ ++ baT (dg y) ++ baT (mkB b) ++ baT (dg z) ++ ⟨#[41, 59]⟩) (grownCap wc' (6 + (baT (dg x)).size + (baT (mkB a)).size + 1 + (baT (dg y)).size + (baT (mkB b)).size + (baT (dg z)).size + 2) 0 5)).size + 1))).drew.heap[nb]? = some P2 := (Below.heap_alloc wc' _ _ (lt_heap bx)).trans bx
      obtain ⟨wa, hwa⟩ : ∃ wa, (wc'.alloc (.cells (bytesRow ((⟨#[112, 114, 105, 110, 116, 32]⟩ : ByteArray) ++ baT (dg x) ++ baT (mkB a) ++ ⟨#[40]⟩ ++ baT (dg y) ++ baT (mkB b) ++ baT (dg z) ++ ⟨#[41, 59]⟩) (grownCap wc' (6 + (baT (dg x)).size + (baT (mkB a)).size + 1 + (baT (dg y)).size + (baT (mkB b)).size + (baT (dg z)).size + 2) 0 5)) 5 ((bytesRow ((⟨#[112, 114, 105, 110, 116, 32]⟩ : ByteArray) ++ baT (dg x) ++ baT (mkB a) ++ ⟨#[40]⟩ ++ baT (dg y) ++ baT (mkB b) ++ baT (dg z) ++ ⟨#[41, 59]⟩) (grownCap wc' (6 + (baT (dg x)).size + (baT (mkB a)).size + 1 + (baT (dg y)).size + (baT (mkB b)).size + (baT (dg z)).size + 2) 0 5)).size, (bytesRow ((⟨#[112, 114, 105, 110, 116, 32]⟩ : ByteArray) ++ baT (dg x) ++ baT (mkB a) ++ ⟨#[40]⟩ ++ baT (dg y) ++ baT (mkB b) ++ baT (dg z) ++ ⟨#[41, 59]⟩) (grownCap wc' (6 + (baT (dg x)).size + (baT (mkB a)).size + 1 + (baT (dg y)).size + (baT (mkB b)).size + (baT (dg z)).size + 2) 0 5)).size + 1))).drew = wa := ⟨_, rfl⟩
      rw [hwa] at eA rA bx ⊢
      clear hwa
      refine hK.out _ _ (fun _ => eA) ?_
      clear hK K
      try simp only [Act.put, List.getElem_toArray, List.getElem_cons_zero, List.getElem_cons_succ, List.setIfInBounds_toArray, List.set_cons_zero, List.set_cons_succ]
      refine AnyL.next 19 (by kernel_rfl) rfl (fun K hK => ?_)
      go_simp
      go_at_call 13
      refine (HQ10.out wa _ _ (grownCap_ge _ _ _ _) (rA)).mono ?_
      rintro e5 w5 ⟨⟨F, f, G, g, rfl, hv⟩, eC⟩
      go_wp2_with fail
      have e5 := eA.trans (eC.mono (eA).size)
      refine hK.out _ _ (fun _ => e5) ?_
      clear hK K
      try simp only [Act.put, List.getElem_toArray, List.getElem_cons_zero, List.getElem_cons_succ, List.setIfInBounds_toArray, List.set_cons_zero, List.set_cons_succ]
      refine AnyL.take 20 (.tuple #[.agg #[.slice F 0 f, .slice G 1 g], .int .i64 0, .int .i64 0]) rfl (by kernel_rfl) (by kernel_rfl) (by kernel_rfl) (by kernel_rfl) (fun _ _ _ h => h) (Or.inl ⟨by rfl, ?_⟩) (by assumption) ?_
      · intro W' hSw
        obtain ⟨l1, l2⟩ := HB.out W' hSw
        go_simp
      try simp only [Act.put, List.getElem_toArray, List.getElem_cons_zero, List.getElem_cons_succ, List.setIfInBounds_toArray, List.set_cons_zero, List.set_cons_succ]
      refine AnyL.take 21 ((.agg #[.slice F 0 f, .slice G 1 g])) rfl (by kernel_rfl) (by kernel_rfl) (by kernel_rfl) (by kernel_rfl) (fun _ _ _ h => h) (Or.inl ⟨by rfl, ?_⟩) (by assumption) ?_
      · intro W' hSw
        obtain ⟨l1, l2⟩ := HB.out W' hSw
        go_simp
      try simp only [Act.put, List.getElem_toArray, List.getElem_cons_zero, List.getElem_cons_succ, List.setIfInBounds_toArray, List.set_cons_zero, List.set_cons_succ]
      refine AnyL.take 22 (.int .i64 0) rfl (by kernel_rfl) (by kernel_rfl) (by kernel_rfl) (by kernel_rfl) (fun _ _ _ h => h) (Or.inl ⟨by rfl, ?_⟩) (by assumption) ?_
      · intro W' hSw
        obtain ⟨l1, l2⟩ := HB.out W' hSw
        go_simp
      try simp only [Act.put, List.getElem_toArray, List.getElem_cons_zero, List.getElem_cons_succ, List.setIfInBounds_toArray, List.set_cons_zero, List.set_cons_succ]
      refine AnyL.take 23 (.int .i64 0) rfl (by kernel_rfl) (by kernel_rfl) (by kernel_rfl) (by kernel_rfl) (fun _ _ _ h => h) (Or.inl ⟨by rfl, ?_⟩) (by assumption) ?_
      · intro W' hSw
        obtain ⟨l1, l2⟩ := HB.out W' hSw
        go_simp
      try simp only [Act.put, List.getElem_toArray, List.getElem_cons_zero, List.getElem_cons_succ, List.setIfInBounds_toArray, List.set_cons_zero, List.set_cons_succ]
      have bx' := (eC.block nb (lt_heap bx)).trans bx
      have b0 := box_cell bx' 0
      have b1' := box_cell bx' 1
      have fz0 := box_frozen bx' 0
      have fz1 := box_frozen bx' 1
      simp only [List.getElem?_toArray, List.getElem?_cons_succ, List.getElem?_cons_zero] at b0 b1'
      refine AnyL.next 25 (by kernel_rfl) rfl (fun K hK => ?_)
      go_simp
      have e7 := (Below.setCell (p := ⟨nb, 0, none⟩) e5 (by simp only; omega) (.slice F 0 f)).setCell (p := ⟨nb, 1, none⟩) (by simp only; omega) (.slice G 1 g)
      have x8 := two_cells (x := .slice F 0 f) (y := .slice G 1 g) bx'
      have hp8 : PgV ((w5.setCell ⟨nb, 0, none⟩ (.slice F 0 f)).setCell ⟨nb, 1, none⟩ (.slice G 1 g)).heap.size ((w5.setCell ⟨nb, 0, none⟩ (.slice F 0 f)).setCell ⟨nb, 1, none⟩ (.slice G 1 g)) (.agg #[.slice F 0 f, .slice G 1 g]) _ := (hv.kp (kp_two (x := .slice F 0 f) (y := .slice G 1 g) (lt_heap bx)) (Nat.le_refl _)).pgv
      obtain ⟨w8, hw8⟩ : ∃ w8, (w5.setCell ⟨nb, 0, none⟩ (.slice F 0 f)).setCell ⟨nb, 1, none⟩ (.slice G 1 g) = w8 := ⟨_, rfl⟩
      rw [hw8] at e7 x8 hp8 ⊢
      clear hw8
      refine hK.out _ _ (fun _ => e7) ?_
      clear hK K
      try simp only [Act.put, List.getElem_toArray, List.getElem_cons_zero, List.getElem_cons_succ, List.setIfInBounds_toArray, List.set_cons_zero, List.set_cons_succ]
      refine AnyL.take 26 (.int .i64 0) rfl (by kernel_rfl) (by kernel_rfl) (by kernel_rfl) (by kernel_rfl) (fun _ _ _ h => h) (Or.inl ⟨by rfl, ?_⟩) (by assumption) ?_
      · intro W' hSw
        obtain ⟨l1, l2⟩ := HB.out W' hSw
        go_simp
      try simp only [Act.put, List.getElem_toArray, List.getElem_cons_zero, List.getElem_cons_succ, List.setIfInBounds_toArray, List.set_cons_zero, List.set_cons_succ]
      refine AnyL.next 27 (by kernel_rfl) rfl (fun K hK => ?_)
      go_simp
      refine hK.out _ _ (fun _ => e7) ?_
      clear hK K
      try simp only [Act.put, List.getElem_toArray, List.getElem_cons_zero, List.getElem_cons_succ, List.setIfInBounds_toArray, List.set_cons_zero, List.set_cons_succ]
      refine AnyL.done (by kernel_rfl) ?_
      go_wp2_with fail
      go_meet
      exact ⟨nb, F, f, G, g, rfl, rfl, rfl, x8, hp8, e7⟩
  case rest =>
  obtain ⟨nb10, F10', f10', G10', g10', rfl, rfl, rfl, P10, hp10, eM⟩ := hcut
  obtain ⟨u10, rfl⟩ : ∃ u, u = wc := ⟨_, rfl⟩
  have P8 := (eM.block _ (lt_heap P8)).trans P8
  have hp8 := hp8.below eM eM.size
  have P9 := (eM.block _ (lt_heap P9)).trans P9
  have hp9 := hp9.below eM eM.size
  have E10 : Below u2.heap.size u2 u10 := E9.trans (eM.mono E9.size)
  have F10 := F9.below eM
  clear eM
  have b80 := box_cell P8 0
  have b81 := box_cell P8 1
  have b90 := box_cell P9 0
  have b91 := box_cell P9 1
  have bX0 := box_cell P10 0
  have bX1 := box_cell P10 1
  simp only [List.getElem?_toArray, List.getElem?_cons_succ, List.getElem?_cons_zero] at b80 b81 b90 b91 bX0 bX1
  have HE1 := Lib.hid (show Calls Try.prog 14 #[.agg #[.slice F9' 0 f9', .slice G9' 1 g9'], .agg #[.slice F10' 0 f10', .slice G10' 1 g10']] u10 (fun e w' => e = .returned (.bool false) ∧ Below u10.heap.size u10 w') from (equal_any _ _ _ _ u10 _ (Nat.le_refl _) hp9 hp10).mono fun e w' he => ⟨he.1.trans (by rw [Bool.eq_false_iff.2 (fun h => HNE.out ((eqG_iff _ _).1 h))]), he.2⟩)
  go_upto_region 13 with (go_at_call 14; ((with_reducible refine HE1.out.mono ?_); rintro e w6 ⟨rfl, e6⟩))
  have F6 := F10.below e6
  have P8 := (e6.block _ (lt_heap P8)).trans P8
  have P9 := (e6.block _ (lt_heap P9)).trans P9
  have P10 := (e6.block _ (lt_heap P10)).trans P10
  have hp8 := hp8.below e6 e6.size
  have hp9 := hp9.below e6 e6.size
  have hp10 := hp10.below e6 e6.size
  go_upto_region 15 with (go_at_call 17; first
    | ((with_reducible refine (HBA.out _).mono ?_); rintro e w7 ⟨rfl, e7⟩)
    | ((with_reducible refine (HBB.out _).mono ?_); rintro e w8 ⟨rfl, e8⟩))
  have F7 := (F6.below e7).below e8
  have P8 := (e8.block _ (lt_heap ((e7.block _ (lt_heap P8)).trans P8))).trans ((e7.block _ (lt_heap P8)).trans P8)
  have P9 := (e8.block _ (lt_heap ((e7.block _ (lt_heap P9)).trans P9))).trans ((e7.block _ (lt_heap P9)).trans P9)
  have P10 := (e8.block _ (lt_heap ((e7.block _ (lt_heap P10)).trans P10))).trans ((e7.block _ (lt_heap P10)).trans P10)
  have hp8 := (hp8.below e7 e7.size).below e8 e8.size
  have hp9 := (hp9.below e7 e7.size).below e8 e8.size
  have hp10 := (hp10.below e7 e7.size).below e8 e8.size
  have b80 := box_cell P8 0
  have b81 := box_cell P8 1
  have b90 := box_cell P9 0
  have b91 := box_cell P9 1
  have bX0 := box_cell P10 0
  have bX1 := box_cell P10 1
  simp only [List.getElem?_toArray, List.getElem?_cons_succ, List.getElem?_cons_zero] at b80 b81 b90 b91 bX0 bX1
  have HE2 := Lib.hid (show Calls Try.prog 14 #[.agg #[.slice F8' 0 f8', .slice G8' 1 g8'], .agg #[.slice F10' 0 f10', .slice G10' 1 g10']] w8 (fun e w' => e = .returned (.bool true) ∧ Below w8.heap.size w8 w') from (equal_any _ _ _ _ w8 _ (Nat.le_refl _) hp8 hp10).mono fun e w' he => ⟨he.1.trans (by rw [(eqG_iff _ _).2 rfl]), he.2⟩)
  go_wp2_with (go_at_call 14; ((with_reducible refine HE2.out.mono ?_); rintro e w9 ⟨rfl, e9⟩))
  go_ret
  exact ⟨rfl, F7.below e9⟩

theorem binds_walk (i1 i2 i3 i4 i5 : Int) (w : World) : Calls Try.prog 6 #[.int .i64 i1, .int .i64 i2, .int .i64 i3, .int .i64 i4, .int .i64 i5] w fun e w' => e = .returned (.bool true) ∧ Fr w w' := by
  obtain ⟨N, hN⟩ : ∃ N, bits BinOp.and IntKind.i64 i1 65535 = N := ⟨_, rfl⟩
  obtain ⟨P, hP⟩ : ∃ P, bits BinOp.and IntKind.i64 i2 65535 = P := ⟨_, rfl⟩
  have ln := low16 i1
  have lp := low16 i2
  have lx := low6 i3
  have ly := low6 i4
  have lz := low6 i5
  rw [hN] at ln
  rw [hP] at lp
  obtain ⟨a, ha⟩ : ∃ a : Nat, N % 9 = (a : Int) := ⟨(N % 9).toNat, by omega⟩
  obtain ⟨b, hb⟩ : ∃ b : Nat, P % 9 = (b : Int) := ⟨(P % 9).toNat, by omega⟩
  obtain ⟨x, hx⟩ : ∃ x : Nat, bits BinOp.and IntKind.i64 i3 63 = (x : Int) := ⟨(bits BinOp.and IntKind.i64 i3 63).toNat, by omega⟩
  obtain ⟨y, hy⟩ : ∃ x : Nat, bits BinOp.and IntKind.i64 i4 63 = (x : Int) := ⟨(bits BinOp.and IntKind.i64 i4 63).toNat, by omega⟩
  obtain ⟨z, hz⟩ : ∃ x : Nat, bits BinOp.and IntKind.i64 i5 63 = (x : Int) := ⟨(bits BinOp.and IntKind.i64 i5 63).toNat, by omega⟩
  rw [hx] at lx
  rw [hy] at ly
  rw [hz] at lz
  have hA : N.tmod 9 = (a : Int) := by rw [Int.tmod_eq_emod_of_nonneg ln.1]; exact ha
  have hB : P.tmod 9 = (b : Int) := by rw [Int.tmod_eq_emod_of_nonneg lp.1]; exact hb
  by_cases hl : lv b ≤ lv a
  · exact binds_l i1 i2 i3 i4 i5 N P x y z a b w hN hP hA hB (by omega) (by omega) hx hy hz (by omega) (by omega) (by omega) hl
  · exact binds_r i1 i2 i3 i4 i5 N P x y z a b w hN hP hA hB (by omega) (by omega) hx hy hz (by omega) (by omega) (by omega) (by omega)
end Go.Proofs.Ytmpdnikabkandaa
