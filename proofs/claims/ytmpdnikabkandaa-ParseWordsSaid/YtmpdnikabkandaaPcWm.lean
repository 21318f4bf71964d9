/-
  ParseWords: the walk.
-/
import Derived.Test.YtmpdnikabkandaaPq5
import Derived.Test.YtmpdnikabkandaaPcWpm
namespace Go.Proofs.Ytmpdnikabkandaa
open Go Go.RowKit Go.Lib

theorem strs_cell (w : World) (l : List ByteArray) (cs : Array Value) {t : TypeId} {fz : Nat × Nat} (hcs : cs = (l.map Value.string).toArray) (m : Nat) (h : m < l.length) : (w.alloc (.cells cs t fz)).cell? ⟨w.heap.size, m, none⟩ = some (.string (l.getD m ⟨#[]⟩)) := by
  subst hcs
  rw [World.cell?_alloc_mark, List.getD_eq_getElem?_getD, List.getElem?_eq_getElem h]
  simp [h]

theorem row_ba (w : World) (s : ByteArray) (c : Nat) {fz : Nat × Nat} : Row (w.alloc (.cells (bytesRow s c) 5 fz)) (some ⟨w.heap.size, 0, none⟩) s.data.toList := row_bs w s c
theorem Row.al1 {W : World} {A : Option Addr} {l : List UInt8} (h : Row W A l) (a : Obj) : Row (W.alloc a) A l := by
  intro h0
  obtain ⟨g, o, e, hl, hc⟩ := h h0
  exact ⟨g, o, e, by simp; omega, fun i hi => (World.cell?_alloc_lt _ _ _ hl).trans (hc i hi)⟩
theorem clock_l : ∀ a : Fin 15, ((wdW a.val).toList == [99, 108, 111, 99, 107]) = (a.val == 9) := by decide +kernel
theorem size_drew' (w : World) : w.drew.heap.size = w.heap.size := rfl
abbrev OA : Obj := (.cells #[.string ⟨#[102, 117, 110, 99]⟩, .string ⟨#[97, 114, 114, 97, 121]⟩, .string ⟨#[105, 110, 112, 117, 116]⟩, .string ⟨#[112, 114, 105, 110, 116]⟩, .string ⟨#[107, 101, 101, 112]⟩, .string ⟨#[105, 102]⟩, .string ⟨#[101, 108, 115, 101]⟩, .string ⟨#[119, 104, 105, 108, 101]⟩, .string ⟨#[114, 101, 116, 117, 114, 110]⟩, .string ⟨#[99, 108, 111, 99, 107]⟩, .string ⟨#[102, 117, 110, 99, 115]⟩, .string ⟨#[73, 102]⟩, .string ⟨#[120]⟩, .string ⟨#[97, 95, 98]⟩, .string ⟨#[67, 108, 111, 99, 107]⟩] 9)
abbrev OH : Obj := (.cells #[.string ⟨#[102, 117, 110, 99, 32]⟩, .string ⟨#[102, 117, 110, 99, 32, 102, 40]⟩, .string ⟨#[97, 114, 114, 97, 121, 32]⟩, .string ⟨#[105, 110, 112, 117, 116, 32]⟩, .string ⟨#[120, 32, 61, 32, 121, 32, 43, 32, 49, 59, 32, 120, 32, 61, 32, 122, 91]⟩, .string ⟨#[102, 117, 110, 99, 32, 102, 40, 97, 44, 32]⟩] 9)
abbrev OT : Obj := (.cells #[.string ⟨#[40, 41, 32, 123, 32, 125]⟩, .string ⟨#[41, 32, 123, 32, 125]⟩, .string ⟨#[32, 51, 59]⟩, .string ⟨#[59]⟩, .string ⟨#[91, 49, 93, 93, 59]⟩, .string ⟨#[41, 32, 123, 32, 125]⟩] 9)
theorem three_strs (w : World) (a b : Nat) (ha : a < 15) (hb : b < 6) :
    (((w.alloc OA).alloc OH).alloc OT).cell? ⟨w.heap.size, a, none⟩ = some (.string (wdW a)) ∧ (((w.alloc OA).alloc OH).alloc OT).cell? ⟨w.heap.size + 1, b, none⟩ = some (.string (hdW b)) ∧ (((w.alloc OA).alloc OH).alloc OT).cell? ⟨w.heap.size + 1 + 1, b, none⟩ = some (.string (taW b)) := by
  refine ⟨?_, ?_, ?_⟩
  · rw [World.cell?_alloc_lt _ _ _ (by simp; omega), World.cell?_alloc_lt _ _ _ (by simp)]
    exact strs_cell w wordsW _ rfl a (by simpa [wordsW] using ha)
  · rw [World.cell?_alloc_lt _ _ _ (by simp)]
    have := strs_cell (w.alloc OA) headsW _ (t := 9) (fz := (0, 0)) rfl b (by simpa [headsW] using hb)
    rw [World.size_alloc] at this
    exact this
  · have := strs_cell ((w.alloc OA).alloc OH) tailsW _ (t := 9) (fz := (0, 0)) rfl b (by simpa [tailsW] using hb)
    rw [World.size_alloc, World.size_alloc] at this
    exact this

set_option maxHeartbeats 4000000 in
set_option maxRecDepth 100000 in
theorem words_ok (n p N P : Int) (a b : Nat) (w : World) (hN : bits BinOp.and IntKind.i64 n 65535 = N) (hP : bits BinOp.and IntKind.i64 p 65535 = P) (ha : N.tmod 15 = (a : Int)) (hb : P.tmod 6 = (b : Int)) (ha' : a < 15) (hb' : b < 6) (q : Pg) (r : List Tok) (ht : tl (hdW b ++ wdW a ++ taW b).data.toList = .ok q r) (h10 : 10 ≤ a) :
    Calls Try.prog 9 #[.int .i64 n, .int .i64 p] w fun e w' => e = .returned (.bool true) ∧ Fr w w' := by
  have h := Fr.refl w
  have HS := Lib.hid (shown4_fr w w h)
  have kb := run_bs
  have a1 : (a : Int) < 15 := by omega
  have b1 : (b : Int) < 6 := by omega
  obtain ⟨s1, s2, s3, _⟩ := words_is ha' hb'
  have HQ := Lib.hid (fun X blk cap (hc : ((hdW b).size + (wdW a).size + (taW b).size) ≤ cap) (hr : Row X (some ⟨blk, 0, none⟩) (hdW b ++ wdW a ++ taW b).data.toList) => (show Calls Try.prog 13 #[.slice (some ⟨blk, 0, none⟩) ((hdW b).size + (wdW a).size + (taW b).size) cap] X (fun e W' => (∃ v, e = .returned (.tuple #[v, .int .i64 0, .int .i64 0]) ∧ GV X.heap.size W' v q) ∧ Below X.heap.size X W') from p_ok ht _ _ _ _ (by rw [bat_app, bat_app, List.length_append, List.length_append]; rfl) (by omega) hc hr))
  have t10 : decide ((10 : Int) ≤ (a : Int)) = true := decide_eq_true (by omega)
  clear ht
  go_enter Try.func9, Try.ntmps9
  go_upto_region 7 with (go_at_call 11; ((with_reducible refine HS.out.mono ?_); rintro e w1 ⟨rfl, F1⟩))
  obtain ⟨cA, cH, cT⟩ := three_strs w1 a b ha' hb'
  have F2 := ((F1.alloc OA).alloc OH).alloc OT
  have z2 : (((w1.alloc OA).alloc OH).alloc OT).heap.size = w1.heap.size + 3 := by simp
  obtain ⟨w2, hw2⟩ : ∃ w2, ((w1.alloc OA).alloc OH).alloc OT = w2 := ⟨_, rfl⟩
  rw [hw2] at cA cH cT F2 z2 ⊢
  obtain ⟨n1, hn1⟩ : ∃ n1, w1.heap.size = n1 := ⟨_, rfl⟩
  rw [hn1] at cA cH cT z2 ⊢
  clear hw2
  have HB := Lib.hid (fun w' (hb : Below w2.heap.size w2 w') => (⟨(hb.cell (p := ⟨n1, a, none⟩) (by simp; omega)).trans cA, (hb.cell (p := ⟨n1 + 1, b, none⟩) (by simp; omega)).trans cH, (hb.cell (p := ⟨n1 + 1 + 1, b, none⟩) (by simp; omega)).trans cT⟩ : w'.cell? ⟨n1, a, none⟩ = some (.string (wdW a)) ∧ w'.cell? ⟨n1 + 1, b, none⟩ = some (.string (hdW b)) ∧ w'.cell? ⟨n1 + 1 + 1, b, none⟩ = some (.string (taW b))))
  have n12 : ¬ 9223372036854775807 < (hdW b).size + (wdW a).size := by omega
  have n123 : ¬ 9223372036854775807 < (hdW b).size + (wdW a).size + (taW b).size := by omega
  have hS0 : Below w2.heap.size w2 w2.drew := below_drw (Below.refl _ _)
  refine wp_region_late (fun w' => Below w2.heap.size w2 w') 23 (by kernel_rfl) ?_
  refine AnyL.take 0 (.slice (some ⟨n1 + 1, 0, none⟩) 6 6) rfl (by kernel_rfl) (by kernel_rfl) (by kernel_rfl) (by kernel_rfl) (fun _ _ _ h => h) (Or.inl ⟨by rfl, ?_⟩) (by assumption) ?_
  · intro W' hSw
    obtain ⟨l1, l2, l3⟩ := HB.out W' hSw
    go_simp
  try simp only [Act.put, List.getElem_toArray, List.getElem_cons_zero, List.setIfInBounds_toArray, List.set_cons_zero, List.set_cons_succ]
  refine AnyL.take 1 (.int .i64 b) rfl (by kernel_rfl) (by kernel_rfl) (by kernel_rfl) (by kernel_rfl) (fun _ _ _ h => h) (Or.inl ⟨by rfl, ?_⟩) (by assumption) ?_
  · intro W' hSw
    obtain ⟨l1, l2, l3⟩ := HB.out W' hSw
    go_simp
  try simp only [Act.put, List.getElem_toArray, List.getElem_cons_zero, List.getElem_cons_succ, List.setIfInBounds_toArray, List.set_cons_zero, List.set_cons_succ]
  refine AnyL.take 2 (.pointer (some ⟨n1 + 1, b, none⟩)) rfl (by kernel_rfl) (by kernel_rfl) (by kernel_rfl) (by kernel_rfl) (fun _ _ _ h => h) (Or.inl ⟨by rfl, ?_⟩) (by assumption) ?_
  · intro W' hSw
    obtain ⟨l1, l2, l3⟩ := HB.out W' hSw
    go_simp
  try simp only [Act.put, List.getElem_toArray, List.getElem_cons_zero, List.getElem_cons_succ, List.setIfInBounds_toArray, List.set_cons_zero, List.set_cons_succ]
  refine AnyL.take 3 (.string (hdW b)) rfl (by kernel_rfl) (by kernel_rfl) (by kernel_rfl) (by kernel_rfl) (fun _ _ _ h => h) (Or.inl ⟨by rfl, ?_⟩) (by assumption) ?_
  · intro W' hSw
    obtain ⟨l1, l2, l3⟩ := HB.out W' hSw
    go_simp
  try simp only [Act.put, List.getElem_toArray, List.getElem_cons_zero, List.getElem_cons_succ, List.setIfInBounds_toArray, List.set_cons_zero, List.set_cons_succ]
  refine AnyL.take 4 (.slice (some ⟨n1, 0, none⟩) 15 15) rfl (by kernel_rfl) (by kernel_rfl) (by kernel_rfl) (by kernel_rfl) (fun _ _ _ h => h) (Or.inl ⟨by rfl, ?_⟩) (by assumption) ?_
  · intro W' hSw
    obtain ⟨l1, l2, l3⟩ := HB.out W' hSw
    go_simp
  try simp only [Act.put, List.getElem_toArray, List.getElem_cons_zero, List.getElem_cons_succ, List.setIfInBounds_toArray, List.set_cons_zero, List.set_cons_succ]
  refine AnyL.take 5 (.int .i64 a) rfl (by kernel_rfl) (by kernel_rfl) (by kernel_rfl) (by kernel_rfl) (fun _ _ _ h => h) (Or.inl ⟨by rfl, ?_⟩) (by assumption) ?_
  · intro W' hSw
    obtain ⟨l1, l2, l3⟩ := HB.out W' hSw
    go_simp
  try simp only [Act.put, List.getElem_toArray, List.getElem_cons_zero, List.getElem_cons_succ, List.setIfInBounds_toArray, List.set_cons_zero, List.set_cons_succ]
  refine AnyL.take 6 (.pointer (some ⟨n1, a, none⟩)) rfl (by kernel_rfl) (by kernel_rfl) (by kernel_rfl) (by kernel_rfl) (fun _ _ _ h => h) (Or.inl ⟨by rfl, ?_⟩) (by assumption) ?_
  · intro W' hSw
    obtain ⟨l1, l2, l3⟩ := HB.out W' hSw
    go_simp
  try simp only [Act.put, List.getElem_toArray, List.getElem_cons_zero, List.getElem_cons_succ, List.setIfInBounds_toArray, List.set_cons_zero, List.set_cons_succ]
  refine AnyL.take 7 (.string (wdW a)) rfl (by kernel_rfl) (by kernel_rfl) (by kernel_rfl) (by kernel_rfl) (fun _ _ _ h => h) (Or.inl ⟨by rfl, ?_⟩) (by assumption) ?_
  · intro W' hSw
    obtain ⟨l1, l2, l3⟩ := HB.out W' hSw
    go_simp
  try simp only [Act.put, List.getElem_toArray, List.getElem_cons_zero, List.getElem_cons_succ, List.setIfInBounds_toArray, List.set_cons_zero, List.set_cons_succ]
  refine AnyL.take 8 (.string (hdW b ++ wdW a)) rfl (by kernel_rfl) (by kernel_rfl) (by kernel_rfl) (by kernel_rfl) (fun _ _ _ h => h) (Or.inl ⟨by rfl, ?_⟩) (by assumption) ?_
  · intro W' hSw
    obtain ⟨l1, l2, l3⟩ := HB.out W' hSw
    go_simp
  try simp only [Act.put, List.getElem_toArray, List.getElem_cons_zero, List.getElem_cons_succ, List.setIfInBounds_toArray, List.set_cons_zero, List.set_cons_succ]
  refine AnyL.take 9 (.slice (some ⟨n1 + 1 + 1, 0, none⟩) 6 6) rfl (by kernel_rfl) (by kernel_rfl) (by kernel_rfl) (by kernel_rfl) (fun _ _ _ h => h) (Or.inl ⟨by rfl, ?_⟩) (by assumption) ?_
  · intro W' hSw
    obtain ⟨l1, l2, l3⟩ := HB.out W' hSw
    go_simp
  try simp only [Act.put, List.getElem_toArray, List.getElem_cons_zero, List.getElem_cons_succ, List.setIfInBounds_toArray, List.set_cons_zero, List.set_cons_succ]
  refine AnyL.take 10 (.int .i64 b) rfl (by kernel_rfl) (by kernel_rfl) (by kernel_rfl) (by kernel_rfl) (fun _ _ _ h => h) (Or.inl ⟨by rfl, ?_⟩) (by assumption) ?_
  · intro W' hSw
    obtain ⟨l1, l2, l3⟩ := HB.out W' hSw
    go_simp
  try simp only [Act.put, List.getElem_toArray, List.getElem_cons_zero, List.getElem_cons_succ, List.setIfInBounds_toArray, List.set_cons_zero, List.set_cons_succ]
  refine AnyL.take 11 (.pointer (some ⟨n1 + 1 + 1, b, none⟩)) rfl (by kernel_rfl) (by kernel_rfl) (by kernel_rfl) (by kernel_rfl) (fun _ _ _ h => h) (Or.inl ⟨by rfl, ?_⟩) (by assumption) ?_
  · intro W' hSw
    obtain ⟨l1, l2, l3⟩ := HB.out W' hSw
    go_simp
  try simp only [Act.put, List.getElem_toArray, List.getElem_cons_zero, List.getElem_cons_succ, List.setIfInBounds_toArray, List.set_cons_zero, List.set_cons_succ]
  refine AnyL.take 12 (.string (taW b)) rfl (by kernel_rfl) (by kernel_rfl) (by kernel_rfl) (by kernel_rfl) (fun _ _ _ h => h) (Or.inl ⟨by rfl, ?_⟩) (by assumption) ?_
  · intro W' hSw
    obtain ⟨l1, l2, l3⟩ := HB.out W' hSw
    go_simp
  try simp only [Act.put, List.getElem_toArray, List.getElem_cons_zero, List.getElem_cons_succ, List.setIfInBounds_toArray, List.set_cons_zero, List.set_cons_succ]
  refine AnyL.take 13 (.string (hdW b ++ wdW a ++ taW b)) rfl (by kernel_rfl) (by kernel_rfl) (by kernel_rfl) (by kernel_rfl) (fun _ _ _ h => h) (Or.inl ⟨by rfl, ?_⟩) (by assumption) ?_
  · intro W' hSw
    obtain ⟨l1, l2, l3⟩ := HB.out W' hSw
    go_simp
  try simp only [Act.put, List.getElem_toArray, List.getElem_cons_zero, List.getElem_cons_succ, List.setIfInBounds_toArray, List.set_cons_zero, List.set_cons_succ]
  refine AnyL.both 14 20 (by kernel_rfl) rfl rfl (fun K hK => ?_) (fun K hK => ?_)
  · go_simp
    have eA : Below w2.heap.size w2 (w2.alloc (.cells (bytesRow (hdW b ++ wdW a ++ taW b) (grownCap w2.drew ((hdW b).size + (wdW a).size + (taW b).size) 0 5)) 5 ((bytesRow (hdW b ++ wdW a ++ taW b) (grownCap w2.drew ((hdW b).size + (wdW a).size + (taW b).size) 0 5)).size, (bytesRow (hdW b ++ wdW a ++ taW b) (grownCap w2.drew ((hdW b).size + (wdW a).size + (taW b).size) 0 5)).size + 1))).drew.drew := below_drw (below_drw ((Below.refl _ _).alloc (Nat.le_refl _) _))
    have rA : Row (w2.alloc (.cells (bytesRow (hdW b ++ wdW a ++ taW b) (grownCap w2.drew ((hdW b).size + (wdW a).size + (taW b).size) 0 5)) 5 ((bytesRow (hdW b ++ wdW a ++ taW b) (grownCap w2.drew ((hdW b).size + (wdW a).size + (taW b).size) 0 5)).size, (bytesRow (hdW b ++ wdW a ++ taW b) (grownCap w2.drew ((hdW b).size + (wdW a).size + (taW b).size) 0 5)).size + 1))).drew.drew (some ⟨n1 + 3, 0, none⟩) (hdW b ++ wdW a ++ taW b).data.toList := by rw [← z2]; exact row_ba w2 _ _
    have zA : (w2.alloc (.cells (bytesRow (hdW b ++ wdW a ++ taW b) (grownCap w2.drew ((hdW b).size + (wdW a).size + (taW b).size) 0 5)) 5 ((bytesRow (hdW b ++ wdW a ++ taW b) (grownCap w2.drew ((hdW b).size + (wdW a).size + (taW b).size) 0 5)).size, (bytesRow (hdW b ++ wdW a ++ taW b) (grownCap w2.drew ((hdW b).size + (wdW a).size + (taW b).size) 0 5)).size + 1))).drew.drew.heap.size = n1 + 3 + 1 := by rw [← z2]; simp
    obtain ⟨wa, hwa⟩ : ∃ wa, (w2.alloc (.cells (bytesRow (hdW b ++ wdW a ++ taW b) (grownCap w2.drew ((hdW b).size + (wdW a).size + (taW b).size) 0 5)) 5 ((bytesRow (hdW b ++ wdW a ++ taW b) (grownCap w2.drew ((hdW b).size + (wdW a).size + (taW b).size) 0 5)).size, (bytesRow (hdW b ++ wdW a ++ taW b) (grownCap w2.drew ((hdW b).size + (wdW a).size + (taW b).size) 0 5)).size + 1))).drew.drew = wa := ⟨_, rfl⟩
    rw [hwa] at eA rA zA ⊢
    clear hwa
    have hZ := Lib.hid zA
    clear zA
    refine hK.out _ _ (fun _ => eA) ?_
    clear hK K
    try simp only [Act.put, List.getElem_toArray, List.getElem_cons_zero, List.getElem_cons_succ, List.setIfInBounds_toArray, List.set_cons_zero, List.set_cons_succ]
    refine AnyL.both 15 20 (by kernel_rfl) rfl rfl (fun K hK => ?_) (fun K hK => ?_)
    · go_simp
      go_at_call 13
      refine (HQ.out wa _ _ (grownCap_ge _ _ _ _) (rA)).mono ?_
      rintro e5 w5 ⟨⟨v, rfl, hv⟩, eC⟩; obtain ⟨Af, cf, Am, cm, rfl, hvf, hvm⟩ := hv.pgv
      go_wp2_with fail
      have e5 := eA.trans (eC.mono (eA).size)
      refine hK.out _ _ (fun _ => e5) ?_
      clear hK K
      try simp only [Act.put, List.getElem_toArray, List.getElem_cons_zero, List.getElem_cons_succ, List.setIfInBounds_toArray, List.set_cons_zero, List.set_cons_succ]
      refine AnyL.take 16 (.tuple #[.agg #[.slice Af q.fs.length cf, .slice Am q.m.len cm], .int .i64 0, .int .i64 0]) rfl (by kernel_rfl) (by kernel_rfl) (by kernel_rfl) (by kernel_rfl) (fun _ _ _ h => h) (Or.inl ⟨by rfl, ?_⟩) (by assumption) ?_
      · intro W' hSw
        obtain ⟨l1, l2, l3⟩ := HB.out W' hSw
        go_simp
      try simp only [Act.put, List.getElem_toArray, List.getElem_cons_zero, List.getElem_cons_succ, List.setIfInBounds_toArray, List.set_cons_zero, List.set_cons_succ]
      refine AnyL.take 17 (.agg #[.slice Af q.fs.length cf, .slice Am q.m.len cm]) rfl (by kernel_rfl) (by kernel_rfl) (by kernel_rfl) (by kernel_rfl) (fun _ _ _ h => h) (Or.inl ⟨by rfl, ?_⟩) (by assumption) ?_
      · intro W' hSw
        obtain ⟨l1, l2, l3⟩ := HB.out W' hSw
        go_simp
      try simp only [Act.put, List.getElem_toArray, List.getElem_cons_zero, List.getElem_cons_succ, List.setIfInBounds_toArray, List.set_cons_zero, List.set_cons_succ]
      refine AnyL.take 18 (.int .i64 0) rfl (by kernel_rfl) (by kernel_rfl) (by kernel_rfl) (by kernel_rfl) (fun _ _ _ h => h) (Or.inl ⟨by rfl, ?_⟩) (by assumption) ?_
      · intro W' hSw
        obtain ⟨l1, l2, l3⟩ := HB.out W' hSw
        go_simp
      try simp only [Act.put, List.getElem_toArray, List.getElem_cons_zero, List.getElem_cons_succ, List.setIfInBounds_toArray, List.set_cons_zero, List.set_cons_succ]
      refine AnyL.take 19 (.int .i64 0) rfl (by kernel_rfl) (by kernel_rfl) (by kernel_rfl) (by kernel_rfl) (fun _ _ _ h => h) (Or.inl ⟨by rfl, ?_⟩) (by assumption) ?_
      · intro W' hSw
        obtain ⟨l1, l2, l3⟩ := HB.out W' hSw
        go_simp
      try simp only [Act.put, List.getElem_toArray, List.getElem_cons_zero, List.getElem_cons_succ, List.setIfInBounds_toArray, List.set_cons_zero, List.set_cons_succ]
      refine AnyL.next 20 (by kernel_rfl) rfl (fun K hK => ?_)
      go_simp
      have e6 := e5.alloc e5.size P2
      have bx := heap_alloc_new w5 P2
      have hz6 := e5.size
      obtain ⟨wc, hwc⟩ : ∃ wc, w5.alloc P2 = wc := ⟨_, rfl⟩
      rw [hwc] at e6 bx ⊢
      clear hwc
      obtain ⟨nb, hnb⟩ : ∃ nb, w5.heap.size = nb := ⟨_, rfl⟩
      rw [hnb] at bx hz6 ⊢
      refine hK.out _ _ (fun _ => e6) ?_
      clear hK K
      try simp only [Act.put, List.getElem_toArray, List.getElem_cons_zero, List.getElem_cons_succ, List.setIfInBounds_toArray, List.set_cons_zero, List.set_cons_succ]
      have b0 := box_cell bx 0
      have b1' := box_cell bx 1
      have f0 := box_frozen bx 0
      have f1 := box_frozen bx 1
      simp only [List.getElem?_toArray, List.getElem?_cons_succ, List.getElem?_cons_zero] at b0 b1'
      refine AnyL.next 21 (by kernel_rfl) rfl (fun K hK => ?_)
      go_simp
      have e7 := (Below.setCell (p := ⟨nb, 0, none⟩) e6 (by simp only; omega) (.slice Af q.fs.length cf)).setCell (p := ⟨nb, 1, none⟩) (by simp only; omega) (.slice Am q.m.len cm)
      obtain ⟨w8, hw8⟩ : ∃ w8, (wc.setCell ⟨nb, 0, none⟩ (.slice Af q.fs.length cf)).setCell ⟨nb, 1, none⟩ (.slice Am q.m.len cm) = w8 := ⟨_, rfl⟩
      rw [hw8] at e7 ⊢
      clear hw8
      refine hK.out _ _ (fun _ => e7) ?_
      clear hK K
      try simp only [Act.put, List.getElem_toArray, List.getElem_cons_zero, List.getElem_cons_succ, List.setIfInBounds_toArray, List.set_cons_zero, List.set_cons_succ]
      refine AnyL.take 22 (.int .i64 0) rfl (by kernel_rfl) (by kernel_rfl) (by kernel_rfl) (by kernel_rfl) (fun _ _ _ h => h) (Or.inl ⟨by rfl, ?_⟩) (by assumption) ?_
      · intro W' hSw
        obtain ⟨l1, l2, l3⟩ := HB.out W' hSw
        go_simp
      try simp only [Act.put, List.getElem_toArray, List.getElem_cons_zero, List.getElem_cons_succ, List.setIfInBounds_toArray, List.set_cons_zero, List.set_cons_succ]
      refine AnyL.next 23 (by kernel_rfl) rfl (fun K hK => ?_)
      go_simp
      refine hK.out _ _ (fun _ => e7) ?_
      clear hK K
      try simp only [Act.put, List.getElem_toArray, List.getElem_cons_zero, List.getElem_cons_succ, List.setIfInBounds_toArray, List.set_cons_zero, List.set_cons_succ]
      refine AnyL.done (by kernel_rfl) ?_
      obtain ⟨l1, l2, l3⟩ := HB.out w8 e7
      go_wp2
      go_ret
      exact ⟨rfl, F2.below e7⟩
    · go_simp
      have e6 := eA.alloc eA.size P2
      have bx := heap_alloc_new wa P2
      have hz6 := eA.size
      have rB := rA.al1 P2
      obtain ⟨wc, hwc⟩ : ∃ wc, wa.alloc P2 = wc := ⟨_, rfl⟩
      rw [hwc] at e6 bx rB ⊢
      clear hwc
      obtain ⟨nb, hnb⟩ : ∃ nb, wa.heap.size = nb := ⟨_, rfl⟩
      rw [hnb] at bx hz6 ⊢
      refine hK.out _ _ (fun _ => e6) ?_
      clear hK K
      try simp only [Act.put, List.getElem_toArray, List.getElem_cons_zero, List.getElem_cons_succ, List.setIfInBounds_toArray, List.set_cons_zero, List.set_cons_succ]
      refine AnyL.next 15 (by kernel_rfl) rfl (fun K hK => ?_)
      go_simp
      go_at_call 13
      refine (HQ.out wc _ _ (grownCap_ge _ _ _ _) (rB)).mono ?_
      rintro e5 w5 ⟨⟨v, rfl, hv⟩, eC⟩; obtain ⟨Af, cf, Am, cm, rfl, hvf, hvm⟩ := hv.pgv
      go_wp2_with fail
      have e5 := e6.trans (eC.mono (e6).size)
      refine hK.out _ _ (fun _ => e5) ?_
      clear hK K
      try simp only [Act.put, List.getElem_toArray, List.getElem_cons_zero, List.getElem_cons_succ, List.setIfInBounds_toArray, List.set_cons_zero, List.set_cons_succ]
      refine AnyL.take 16 (.tuple #[.agg #[.slice Af q.fs.length cf, .slice Am q.m.len cm], .int .i64 0, .int .i64 0]) rfl (by kernel_rfl) (by kernel_rfl) (by kernel_rfl) (by kernel_rfl) (fun _ _ _ h => h) (Or.inl ⟨by rfl, ?_⟩) (by assumption) ?_
      · intro W' hSw
        obtain ⟨l1, l2, l3⟩ := HB.out W' hSw
        go_simp
      try simp only [Act.put, List.getElem_toArray, List.getElem_cons_zero, List.getElem_cons_succ, List.setIfInBounds_toArray, List.set_cons_zero, List.set_cons_succ]
      refine AnyL.take 17 (.agg #[.slice Af q.fs.length cf, .slice Am q.m.len cm]) rfl (by kernel_rfl) (by kernel_rfl) (by kernel_rfl) (by kernel_rfl) (fun _ _ _ h => h) (Or.inl ⟨by rfl, ?_⟩) (by assumption) ?_
      · intro W' hSw
        obtain ⟨l1, l2, l3⟩ := HB.out W' hSw
        go_simp
      try simp only [Act.put, List.getElem_toArray, List.getElem_cons_zero, List.getElem_cons_succ, List.setIfInBounds_toArray, List.set_cons_zero, List.set_cons_succ]
      refine AnyL.take 18 (.int .i64 0) rfl (by kernel_rfl) (by kernel_rfl) (by kernel_rfl) (by kernel_rfl) (fun _ _ _ h => h) (Or.inl ⟨by rfl, ?_⟩) (by assumption) ?_
      · intro W' hSw
        obtain ⟨l1, l2, l3⟩ := HB.out W' hSw
        go_simp
      try simp only [Act.put, List.getElem_toArray, List.getElem_cons_zero, List.getElem_cons_succ, List.setIfInBounds_toArray, List.set_cons_zero, List.set_cons_succ]
      refine AnyL.take 19 (.int .i64 0) rfl (by kernel_rfl) (by kernel_rfl) (by kernel_rfl) (by kernel_rfl) (fun _ _ _ h => h) (Or.inl ⟨by rfl, ?_⟩) (by assumption) ?_
      · intro W' hSw
        obtain ⟨l1, l2, l3⟩ := HB.out W' hSw
        go_simp
      try simp only [Act.put, List.getElem_toArray, List.getElem_cons_zero, List.getElem_cons_succ, List.setIfInBounds_toArray, List.set_cons_zero, List.set_cons_succ]
      have bx := (eC.block nb (lt_heap bx)).trans bx
      have b0 := box_cell bx 0
      have b1' := box_cell bx 1
      have f0 := box_frozen bx 0
      have f1 := box_frozen bx 1
      simp only [List.getElem?_toArray, List.getElem?_cons_succ, List.getElem?_cons_zero] at b0 b1'
      refine AnyL.next 21 (by kernel_rfl) rfl (fun K hK => ?_)
      go_simp
      have e7 := (Below.setCell (p := ⟨nb, 0, none⟩) e5 (by simp only; omega) (.slice Af q.fs.length cf)).setCell (p := ⟨nb, 1, none⟩) (by simp only; omega) (.slice Am q.m.len cm)
      obtain ⟨w8, hw8⟩ : ∃ w8, (w5.setCell ⟨nb, 0, none⟩ (.slice Af q.fs.length cf)).setCell ⟨nb, 1, none⟩ (.slice Am q.m.len cm) = w8 := ⟨_, rfl⟩
      rw [hw8] at e7 ⊢
      clear hw8
      refine hK.out _ _ (fun _ => e7) ?_
      clear hK K
      try simp only [Act.put, List.getElem_toArray, List.getElem_cons_zero, List.getElem_cons_succ, List.setIfInBounds_toArray, List.set_cons_zero, List.set_cons_succ]
      refine AnyL.take 22 (.int .i64 0) rfl (by kernel_rfl) (by kernel_rfl) (by kernel_rfl) (by kernel_rfl) (fun _ _ _ h => h) (Or.inl ⟨by rfl, ?_⟩) (by assumption) ?_
      · intro W' hSw
        obtain ⟨l1, l2, l3⟩ := HB.out W' hSw
        go_simp
      try simp only [Act.put, List.getElem_toArray, List.getElem_cons_zero, List.getElem_cons_succ, List.setIfInBounds_toArray, List.set_cons_zero, List.set_cons_succ]
      refine AnyL.next 23 (by kernel_rfl) rfl (fun K hK => ?_)
      go_simp
      refine hK.out _ _ (fun _ => e7) ?_
      clear hK K
      try simp only [Act.put, List.getElem_toArray, List.getElem_cons_zero, List.getElem_cons_succ, List.setIfInBounds_toArray, List.set_cons_zero, List.set_cons_succ]
      refine AnyL.done (by kernel_rfl) ?_
      obtain ⟨l1, l2, l3⟩ := HB.out w8 e7
      go_wp2
      go_ret
      exact ⟨rfl, F2.below e7⟩
  · go_simp
    have e6 : Below w2.heap.size w2 (w2.alloc P2).drew := below_drw ((Below.refl _ _).alloc (Nat.le_refl _) _)
    have bx : (w2.alloc P2).drew.heap[w2.heap.size]? = some P2 := heap_alloc_new w2 P2
    obtain ⟨wc, hwc⟩ : ∃ wc, (w2.alloc P2).drew = wc := ⟨_, rfl⟩
    rw [hwc] at e6 bx ⊢
    clear hwc
    rw [z2] at bx
    refine hK.out _ _ (fun _ => e6) ?_
    clear hK K
    try simp only [Act.put, List.getElem_toArray, List.getElem_cons_zero, List.getElem_cons_succ, List.setIfInBounds_toArray, List.set_cons_zero, List.set_cons_succ]
    refine AnyL.next 14 (by kernel_rfl) rfl (fun K hK => ?_)
    go_simp
    have eA : Below w2.heap.size w2 (wc.alloc (.cells (bytesRow (hdW b ++ wdW a ++ taW b) (grownCap wc ((hdW b).size + (wdW a).size + (taW b).size) 0 5)) 5 ((bytesRow (hdW b ++ wdW a ++ taW b) (grownCap wc ((hdW b).size + (wdW a).size + (taW b).size) 0 5)).size, (bytesRow (hdW b ++ wdW a ++ taW b) (grownCap wc ((hdW b).size + (wdW a).size + (taW b).size) 0 5)).size + 1))).drew := below_drw (e6.alloc e6.size _)
    have rA : Row (wc.alloc (.cells (bytesRow (hdW b ++ wdW a ++ taW b) (grownCap wc ((hdW b).size + (wdW a).size + (taW b).size) 0 5)) 5 ((bytesRow (hdW b ++ wdW a ++ taW b) (grownCap wc ((hdW b).size + (wdW a).size + (taW b).size) 0 5)).size, (bytesRow (hdW b ++ wdW a ++ taW b) (grownCap wc ((hdW b).size + (wdW a).size + (taW b).size) 0 5)).size + 1))).drew (some ⟨wc.heap.size, 0, none⟩) (hdW b ++ wdW a ++ taW b).data.toList := row_ba wc _ _
    have bx : (wc.alloc (.cells (bytesRow (hdW b ++ wdW a ++ taW b) (grownCap wc ((hdW b).size + (wdW a).size + (taW b).size) 0 5)) 5 ((bytesRow (hdW b ++ wdW a ++ taW b) (grownCap wc ((hdW b).size + (wdW a).size + (taW b).size) 0 5)).size, (bytesRow (hdW b ++ wdW a ++ taW b) (grownCap wc ((hdW b).size + (wdW a).size + (taW b).size) 0 5)).size + 1))).drew.heap[n1 + 3]? = some P2 := (Below.heap_alloc wc _ _ (lt_heap bx)).trans bx
    obtain ⟨wa, hwa⟩ : ∃ wa, (wc.alloc (.cells (bytesRow (hdW b ++ wdW a ++ taW b) (grownCap wc ((hdW b).size + (wdW a).size + (taW b).size) 0 5)) 5 ((bytesRow (hdW b ++ wdW a ++ taW b) (grownCap wc ((hdW b).size + (wdW a).size + (taW b).size) 0 5)).size, (bytesRow (hdW b ++ wdW a ++ taW b) (grownCap wc ((hdW b).size + (wdW a).size + (taW b).size) 0 5)).size + 1))).drew = wa := ⟨_, rfl⟩
    rw [hwa] at eA rA bx ⊢
    clear hwa
    refine hK.out _ _ (fun _ => eA) ?_
    clear hK K
    try simp only [Act.put, List.getElem_toArray, List.getElem_cons_zero, List.getElem_cons_succ, List.setIfInBounds_toArray, List.set_cons_zero, List.set_cons_succ]
    refine AnyL.next 15 (by kernel_rfl) rfl (fun K hK => ?_)
    go_simp
    go_at_call 13
    refine (HQ.out wa _ _ (grownCap_ge _ _ _ _) (rA)).mono ?_
    rintro e5 w5 ⟨⟨v, rfl, hv⟩, eC⟩; obtain ⟨Af, cf, Am, cm, rfl, hvf, hvm⟩ := hv.pgv
    go_wp2_with fail
    have e5 := eA.trans (eC.mono (eA).size)
    refine hK.out _ _ (fun _ => e5) ?_
    clear hK K
    try simp only [Act.put, List.getElem_toArray, List.getElem_cons_zero, List.getElem_cons_succ, List.setIfInBounds_toArray, List.set_cons_zero, List.set_cons_succ]
    refine AnyL.take 16 (.tuple #[.agg #[.slice Af q.fs.length cf, .slice Am q.m.len cm], .int .i64 0, .int .i64 0]) rfl (by kernel_rfl) (by kernel_rfl) (by kernel_rfl) (by kernel_rfl) (fun _ _ _ h => h) (Or.inl ⟨by rfl, ?_⟩) (by assumption) ?_
    · intro W' hSw
      obtain ⟨l1, l2, l3⟩ := HB.out W' hSw
      go_simp
    try simp only [Act.put, List.getElem_toArray, List.getElem_cons_zero, List.getElem_cons_succ, List.setIfInBounds_toArray, List.set_cons_zero, List.set_cons_succ]
    refine AnyL.take 17 (.agg #[.slice Af q.fs.length cf, .slice Am q.m.len cm]) rfl (by kernel_rfl) (by kernel_rfl) (by kernel_rfl) (by kernel_rfl) (fun _ _ _ h => h) (Or.inl ⟨by rfl, ?_⟩) (by assumption) ?_
    · intro W' hSw
      obtain ⟨l1, l2, l3⟩ := HB.out W' hSw
      go_simp
    try simp only [Act.put, List.getElem_toArray, List.getElem_cons_zero, List.getElem_cons_succ, List.setIfInBounds_toArray, List.set_cons_zero, List.set_cons_succ]
    refine AnyL.take 18 (.int .i64 0) rfl (by kernel_rfl) (by kernel_rfl) (by kernel_rfl) (by kernel_rfl) (fun _ _ _ h => h) (Or.inl ⟨by rfl, ?_⟩) (by assumption) ?_
    · intro W' hSw
      obtain ⟨l1, l2, l3⟩ := HB.out W' hSw
      go_simp
    try simp only [Act.put, List.getElem_toArray, List.getElem_cons_zero, List.getElem_cons_succ, List.setIfInBounds_toArray, List.set_cons_zero, List.set_cons_succ]
    refine AnyL.take 19 (.int .i64 0) rfl (by kernel_rfl) (by kernel_rfl) (by kernel_rfl) (by kernel_rfl) (fun _ _ _ h => h) (Or.inl ⟨by rfl, ?_⟩) (by assumption) ?_
    · intro W' hSw
      obtain ⟨l1, l2, l3⟩ := HB.out W' hSw
      go_simp
    try simp only [Act.put, List.getElem_toArray, List.getElem_cons_zero, List.getElem_cons_succ, List.setIfInBounds_toArray, List.set_cons_zero, List.set_cons_succ]
    have bx := (eC.block (n1 + 3) (lt_heap bx)).trans bx
    have b0 := box_cell bx 0
    have b1' := box_cell bx 1
    have f0 := box_frozen bx 0
    have f1 := box_frozen bx 1
    simp only [List.getElem?_toArray, List.getElem?_cons_succ, List.getElem?_cons_zero] at b0 b1'
    refine AnyL.next 21 (by kernel_rfl) rfl (fun K hK => ?_)
    go_simp
    have e7 := (Below.setCell (p := ⟨(n1 + 3), 0, none⟩) e5 (by simp only; omega) (.slice Af q.fs.length cf)).setCell (p := ⟨(n1 + 3), 1, none⟩) (by simp only; omega) (.slice Am q.m.len cm)
    obtain ⟨w8, hw8⟩ : ∃ w8, (w5.setCell ⟨(n1 + 3), 0, none⟩ (.slice Af q.fs.length cf)).setCell ⟨(n1 + 3), 1, none⟩ (.slice Am q.m.len cm) = w8 := ⟨_, rfl⟩
    rw [hw8] at e7 ⊢
    clear hw8
    refine hK.out _ _ (fun _ => e7) ?_
    clear hK K
    try simp only [Act.put, List.getElem_toArray, List.getElem_cons_zero, List.getElem_cons_succ, List.setIfInBounds_toArray, List.set_cons_zero, List.set_cons_succ]
    refine AnyL.take 22 (.int .i64 0) rfl (by kernel_rfl) (by kernel_rfl) (by kernel_rfl) (by kernel_rfl) (fun _ _ _ h => h) (Or.inl ⟨by rfl, ?_⟩) (by assumption) ?_
    · intro W' hSw
      obtain ⟨l1, l2, l3⟩ := HB.out W' hSw
      go_simp
    try simp only [Act.put, List.getElem_toArray, List.getElem_cons_zero, List.getElem_cons_succ, List.setIfInBounds_toArray, List.set_cons_zero, List.set_cons_succ]
    refine AnyL.next 23 (by kernel_rfl) rfl (fun K hK => ?_)
    go_simp
    refine hK.out _ _ (fun _ => e7) ?_
    clear hK K
    try simp only [Act.put, List.getElem_toArray, List.getElem_cons_zero, List.getElem_cons_succ, List.setIfInBounds_toArray, List.set_cons_zero, List.set_cons_succ]
    refine AnyL.done (by kernel_rfl) ?_
    obtain ⟨l1, l2, l3⟩ := HB.out w8 e7
    go_wp2
    go_ret
    exact ⟨rfl, F2.below e7⟩

set_option maxHeartbeats 4000000 in
set_option maxRecDepth 100000 in
theorem words_bad (n p N P : Int) (a b : Nat) (w : World) (hN : bits BinOp.and IntKind.i64 n 65535 = N) (hP : bits BinOp.and IntKind.i64 p 65535 = P) (ha : N.tmod 15 = (a : Int)) (hb : P.tmod 6 = (b : Int)) (ha' : a < 15) (hb' : b < 6) (k : Nat) (hk : k = (hdW b).size + if b = 4 ∧ a = 9 then 5 else 0) (ht : tl (hdW b ++ wdW a ++ taW b).data.toList = .bad k 2) (h10 : a < 10) :
    Calls Try.prog 9 #[.int .i64 n, .int .i64 p] w fun e w' => e = .returned (.bool true) ∧ Fr w w' := by
  have h := Fr.refl w
  have HS := Lib.hid (shown4_fr w w h)
  have kb := run_bs
  have a1 : (a : Int) < 15 := by omega
  have b1 : (b : Int) < 6 := by omega
  obtain ⟨s1, s2, s3, _⟩ := words_is ha' hb'
  have HQ := Lib.hid (fun X blk cap (hc : ((hdW b).size + (wdW a).size + (taW b).size) ≤ cap) (hr : Row X (some ⟨blk, 0, none⟩) (hdW b ++ wdW a ++ taW b).data.toList) => (show Calls Try.prog 13 #[.slice (some ⟨blk, 0, none⟩) ((hdW b).size + (wdW a).size + (taW b).size) cap] X (fun e W' => e = .returned (.tuple #[.agg #[.slice none 0 0, .slice none 0 0], .int .i64 k, .int .i64 2]) ∧ Below X.heap.size X W') from p_bad ht _ _ _ _ (by rw [bat_app, bat_app, List.length_append, List.length_append]; rfl) (by omega) hc hr))
  have t10 : decide ((10 : Int) ≤ (a : Int)) = false := decide_eq_false (by omega)
  have hkk := Lib.hid hk
  clear hk
  have ck : ((wdW a).toList == [99, 108, 111, 99, 107]) = decide (a = 9) := by have := clock_l ⟨a, ha'⟩; exact this.trans rfl
  clear ht
  go_enter Try.func9, Try.ntmps9
  go_upto_region 7 with (go_at_call 11; ((with_reducible refine HS.out.mono ?_); rintro e w1 ⟨rfl, F1⟩))
  obtain ⟨cA, cH, cT⟩ := three_strs w1 a b ha' hb'
  have F2 := ((F1.alloc OA).alloc OH).alloc OT
  have z2 : (((w1.alloc OA).alloc OH).alloc OT).heap.size = w1.heap.size + 3 := by simp
  obtain ⟨w2, hw2⟩ : ∃ w2, ((w1.alloc OA).alloc OH).alloc OT = w2 := ⟨_, rfl⟩
  rw [hw2] at cA cH cT F2 z2 ⊢
  obtain ⟨n1, hn1⟩ : ∃ n1, w1.heap.size = n1 := ⟨_, rfl⟩
  rw [hn1] at cA cH cT z2 ⊢
  clear hw2
  have HB := Lib.hid (fun w' (hb : Below w2.heap.size w2 w') => (⟨(hb.cell (p := ⟨n1, a, none⟩) (by simp; omega)).trans cA, (hb.cell (p := ⟨n1 + 1, b, none⟩) (by simp; omega)).trans cH, (hb.cell (p := ⟨n1 + 1 + 1, b, none⟩) (by simp; omega)).trans cT⟩ : w'.cell? ⟨n1, a, none⟩ = some (.string (wdW a)) ∧ w'.cell? ⟨n1 + 1, b, none⟩ = some (.string (hdW b)) ∧ w'.cell? ⟨n1 + 1 + 1, b, none⟩ = some (.string (taW b))))
  have n12 : ¬ 9223372036854775807 < (hdW b).size + (wdW a).size := by omega
  have n123 : ¬ 9223372036854775807 < (hdW b).size + (wdW a).size + (taW b).size := by omega
  have hS0 : Below w2.heap.size w2 w2.drew := below_drw (Below.refl _ _)
  refine wp_region_late (fun w' => Below w2.heap.size w2 w') 23 (by kernel_rfl) ?_
  refine AnyL.take 0 (.slice (some ⟨n1 + 1, 0, none⟩) 6 6) rfl (by kernel_rfl) (by kernel_rfl) (by kernel_rfl) (by kernel_rfl) (fun _ _ _ h => h) (Or.inl ⟨by rfl, ?_⟩) (by assumption) ?_
  · intro W' hSw
    obtain ⟨l1, l2, l3⟩ := HB.out W' hSw
    go_simp
  try simp only [Act.put, List.getElem_toArray, List.getElem_cons_zero, List.setIfInBounds_toArray, List.set_cons_zero, List.set_cons_succ]
  refine AnyL.take 1 (.int .i64 b) rfl (by kernel_rfl) (by kernel_rfl) (by kernel_rfl) (by kernel_rfl) (fun _ _ _ h => h) (Or.inl ⟨by rfl, ?_⟩) (by assumption) ?_
  · intro W' hSw
    obtain ⟨l1, l2, l3⟩ := HB.out W' hSw
    go_simp
  try simp only [Act.put, List.getElem_toArray, List.getElem_cons_zero, List.getElem_cons_succ, List.setIfInBounds_toArray, List.set_cons_zero, List.set_cons_succ]
  refine AnyL.take 2 (.pointer (some ⟨n1 + 1, b, none⟩)) rfl (by kernel_rfl) (by kernel_rfl) (by kernel_rfl) (by kernel_rfl) (fun _ _ _ h => h) (Or.inl ⟨by rfl, ?_⟩) (by assumption) ?_
  · intro W' hSw
    obtain ⟨l1, l2, l3⟩ := HB.out W' hSw
    go_simp
  try simp only [Act.put, List.getElem_toArray, List.getElem_cons_zero, List.getElem_cons_succ, List.setIfInBounds_toArray, List.set_cons_zero, List.set_cons_succ]
  refine AnyL.take 3 (.string (hdW b)) rfl (by kernel_rfl) (by kernel_rfl) (by kernel_rfl) (by kernel_rfl) (fun _ _ _ h => h) (Or.inl ⟨by rfl, ?_⟩) (by assumption) ?_
  · intro W' hSw
    obtain ⟨l1, l2, l3⟩ := HB.out W' hSw
    go_simp
  try simp only [Act.put, List.getElem_toArray, List.getElem_cons_zero, List.getElem_cons_succ, List.setIfInBounds_toArray, List.set_cons_zero, List.set_cons_succ]
  refine AnyL.take 4 (.slice (some ⟨n1, 0, none⟩) 15 15) rfl (by kernel_rfl) (by kernel_rfl) (by kernel_rfl) (by kernel_rfl) (fun _ _ _ h => h) (Or.inl ⟨by rfl, ?_⟩) (by assumption) ?_
  · intro W' hSw
    obtain ⟨l1, l2, l3⟩ := HB.out W' hSw
    go_simp
  try simp only [Act.put, List.getElem_toArray, List.getElem_cons_zero, List.getElem_cons_succ, List.setIfInBounds_toArray, List.set_cons_zero, List.set_cons_succ]
  refine AnyL.take 5 (.int .i64 a) rfl (by kernel_rfl) (by kernel_rfl) (by kernel_rfl) (by kernel_rfl) (fun _ _ _ h => h) (Or.inl ⟨by rfl, ?_⟩) (by assumption) ?_
  · intro W' hSw
    obtain ⟨l1, l2, l3⟩ := HB.out W' hSw
    go_simp
  try simp only [Act.put, List.getElem_toArray, List.getElem_cons_zero, List.getElem_cons_succ, List.setIfInBounds_toArray, List.set_cons_zero, List.set_cons_succ]
  refine AnyL.take 6 (.pointer (some ⟨n1, a, none⟩)) rfl (by kernel_rfl) (by kernel_rfl) (by kernel_rfl) (by kernel_rfl) (fun _ _ _ h => h) (Or.inl ⟨by rfl, ?_⟩) (by assumption) ?_
  · intro W' hSw
    obtain ⟨l1, l2, l3⟩ := HB.out W' hSw
    go_simp
  try simp only [Act.put, List.getElem_toArray, List.getElem_cons_zero, List.getElem_cons_succ, List.setIfInBounds_toArray, List.set_cons_zero, List.set_cons_succ]
  refine AnyL.take 7 (.string (wdW a)) rfl (by kernel_rfl) (by kernel_rfl) (by kernel_rfl) (by kernel_rfl) (fun _ _ _ h => h) (Or.inl ⟨by rfl, ?_⟩) (by assumption) ?_
  · intro W' hSw
    obtain ⟨l1, l2, l3⟩ := HB.out W' hSw
    go_simp
  try simp only [Act.put, List.getElem_toArray, List.getElem_cons_zero, List.getElem_cons_succ, List.setIfInBounds_toArray, List.set_cons_zero, List.set_cons_succ]
  refine AnyL.take 8 (.string (hdW b ++ wdW a)) rfl (by kernel_rfl) (by kernel_rfl) (by kernel_rfl) (by kernel_rfl) (fun _ _ _ h => h) (Or.inl ⟨by rfl, ?_⟩) (by assumption) ?_
  · intro W' hSw
    obtain ⟨l1, l2, l3⟩ := HB.out W' hSw
    go_simp
  try simp only [Act.put, List.getElem_toArray, List.getElem_cons_zero, List.getElem_cons_succ, List.setIfInBounds_toArray, List.set_cons_zero, List.set_cons_succ]
  refine AnyL.take 9 (.slice (some ⟨n1 + 1 + 1, 0, none⟩) 6 6) rfl (by kernel_rfl) (by kernel_rfl) (by kernel_rfl) (by kernel_rfl) (fun _ _ _ h => h) (Or.inl ⟨by rfl, ?_⟩) (by assumption) ?_
  · intro W' hSw
    obtain ⟨l1, l2, l3⟩ := HB.out W' hSw
    go_simp
  try simp only [Act.put, List.getElem_toArray, List.getElem_cons_zero, List.getElem_cons_succ, List.setIfInBounds_toArray, List.set_cons_zero, List.set_cons_succ]
  refine AnyL.take 10 (.int .i64 b) rfl (by kernel_rfl) (by kernel_rfl) (by kernel_rfl) (by kernel_rfl) (fun _ _ _ h => h) (Or.inl ⟨by rfl, ?_⟩) (by assumption) ?_
  · intro W' hSw
    obtain ⟨l1, l2, l3⟩ := HB.out W' hSw
    go_simp
  try simp only [Act.put, List.getElem_toArray, List.getElem_cons_zero, List.getElem_cons_succ, List.setIfInBounds_toArray, List.set_cons_zero, List.set_cons_succ]
  refine AnyL.take 11 (.pointer (some ⟨n1 + 1 + 1, b, none⟩)) rfl (by kernel_rfl) (by kernel_rfl) (by kernel_rfl) (by kernel_rfl) (fun _ _ _ h => h) (Or.inl ⟨by rfl, ?_⟩) (by assumption) ?_
  · intro W' hSw
    obtain ⟨l1, l2, l3⟩ := HB.out W' hSw
    go_simp
  try simp only [Act.put, List.getElem_toArray, List.getElem_cons_zero, List.getElem_cons_succ, List.setIfInBounds_toArray, List.set_cons_zero, List.set_cons_succ]
  refine AnyL.take 12 (.string (taW b)) rfl (by kernel_rfl) (by kernel_rfl) (by kernel_rfl) (by kernel_rfl) (fun _ _ _ h => h) (Or.inl ⟨by rfl, ?_⟩) (by assumption) ?_
  · intro W' hSw
    obtain ⟨l1, l2, l3⟩ := HB.out W' hSw
    go_simp
  try simp only [Act.put, List.getElem_toArray, List.getElem_cons_zero, List.getElem_cons_succ, List.setIfInBounds_toArray, List.set_cons_zero, List.set_cons_succ]
  refine AnyL.take 13 (.string (hdW b ++ wdW a ++ taW b)) rfl (by kernel_rfl) (by kernel_rfl) (by kernel_rfl) (by kernel_rfl) (fun _ _ _ h => h) (Or.inl ⟨by rfl, ?_⟩) (by assumption) ?_
  · intro W' hSw
    obtain ⟨l1, l2, l3⟩ := HB.out W' hSw
    go_simp
  try simp only [Act.put, List.getElem_toArray, List.getElem_cons_zero, List.getElem_cons_succ, List.setIfInBounds_toArray, List.set_cons_zero, List.set_cons_succ]
  refine AnyL.both 14 20 (by kernel_rfl) rfl rfl (fun K hK => ?_) (fun K hK => ?_)
  · go_simp
    have eA : Below w2.heap.size w2 (w2.alloc (.cells (bytesRow (hdW b ++ wdW a ++ taW b) (grownCap w2.drew ((hdW b).size + (wdW a).size + (taW b).size) 0 5)) 5 ((bytesRow (hdW b ++ wdW a ++ taW b) (grownCap w2.drew ((hdW b).size + (wdW a).size + (taW b).size) 0 5)).size, (bytesRow (hdW b ++ wdW a ++ taW b) (grownCap w2.drew ((hdW b).size + (wdW a).size + (taW b).size) 0 5)).size + 1))).drew.drew := below_drw (below_drw ((Below.refl _ _).alloc (Nat.le_refl _) _))
    have rA : Row (w2.alloc (.cells (bytesRow (hdW b ++ wdW a ++ taW b) (grownCap w2.drew ((hdW b).size + (wdW a).size + (taW b).size) 0 5)) 5 ((bytesRow (hdW b ++ wdW a ++ taW b) (grownCap w2.drew ((hdW b).size + (wdW a).size + (taW b).size) 0 5)).size, (bytesRow (hdW b ++ wdW a ++ taW b) (grownCap w2.drew ((hdW b).size + (wdW a).size + (taW b).size) 0 5)).size + 1))).drew.drew (some ⟨n1 + 3, 0, none⟩) (hdW b ++ wdW a ++ taW b).data.toList := by rw [← z2]; exact row_ba w2 _ _
    have zA : (w2.alloc (.cells (bytesRow (hdW b ++ wdW a ++ taW b) (grownCap w2.drew ((hdW b).size + (wdW a).size + (taW b).size) 0 5)) 5 ((bytesRow (hdW b ++ wdW a ++ taW b) (grownCap w2.drew ((hdW b).size + (wdW a).size + (taW b).size) 0 5)).size, (bytesRow (hdW b ++ wdW a ++ taW b) (grownCap w2.drew ((hdW b).size + (wdW a).size + (taW b).size) 0 5)).size + 1))).drew.drew.heap.size = n1 + 3 + 1 := by rw [← z2]; simp
    obtain ⟨wa, hwa⟩ : ∃ wa, (w2.alloc (.cells (bytesRow (hdW b ++ wdW a ++ taW b) (grownCap w2.drew ((hdW b).size + (wdW a).size + (taW b).size) 0 5)) 5 ((bytesRow (hdW b ++ wdW a ++ taW b) (grownCap w2.drew ((hdW b).size + (wdW a).size + (taW b).size) 0 5)).size, (bytesRow (hdW b ++ wdW a ++ taW b) (grownCap w2.drew ((hdW b).size + (wdW a).size + (taW b).size) 0 5)).size + 1))).drew.drew = wa := ⟨_, rfl⟩
    rw [hwa] at eA rA zA ⊢
    clear hwa
    have hZ := Lib.hid zA
    clear zA
    refine hK.out _ _ (fun _ => eA) ?_
    clear hK K
    try simp only [Act.put, List.getElem_toArray, List.getElem_cons_zero, List.getElem_cons_succ, List.setIfInBounds_toArray, List.set_cons_zero, List.set_cons_succ]
    refine AnyL.both 15 20 (by kernel_rfl) rfl rfl (fun K hK => ?_) (fun K hK => ?_)
    · go_simp
      go_at_call 13
      refine (HQ.out wa _ _ (grownCap_ge _ _ _ _) (rA)).mono ?_
      rintro e5 w5 ⟨rfl, eC⟩
      go_wp2_with fail
      have e5 := eA.trans (eC.mono (eA).size)
      refine hK.out _ _ (fun _ => e5) ?_
      clear hK K
      try simp only [Act.put, List.getElem_toArray, List.getElem_cons_zero, List.getElem_cons_succ, List.setIfInBounds_toArray, List.set_cons_zero, List.set_cons_succ]
      refine AnyL.take 16 (.tuple #[.agg #[.slice none 0 0, .slice none 0 0], .int .i64 k, .int .i64 2]) rfl (by kernel_rfl) (by kernel_rfl) (by kernel_rfl) (by kernel_rfl) (fun _ _ _ h => h) (Or.inl ⟨by rfl, ?_⟩) (by assumption) ?_
      · intro W' hSw
        obtain ⟨l1, l2, l3⟩ := HB.out W' hSw
        go_simp
      try simp only [Act.put, List.getElem_toArray, List.getElem_cons_zero, List.getElem_cons_succ, List.setIfInBounds_toArray, List.set_cons_zero, List.set_cons_succ]
      refine AnyL.take 17 (.agg #[.slice none 0 0, .slice none 0 0]) rfl (by kernel_rfl) (by kernel_rfl) (by kernel_rfl) (by kernel_rfl) (fun _ _ _ h => h) (Or.inl ⟨by rfl, ?_⟩) (by assumption) ?_
      · intro W' hSw
        obtain ⟨l1, l2, l3⟩ := HB.out W' hSw
        go_simp
      try simp only [Act.put, List.getElem_toArray, List.getElem_cons_zero, List.getElem_cons_succ, List.setIfInBounds_toArray, List.set_cons_zero, List.set_cons_succ]
      refine AnyL.take 18 (.int .i64 k) rfl (by kernel_rfl) (by kernel_rfl) (by kernel_rfl) (by kernel_rfl) (fun _ _ _ h => h) (Or.inl ⟨by rfl, ?_⟩) (by assumption) ?_
      · intro W' hSw
        obtain ⟨l1, l2, l3⟩ := HB.out W' hSw
        go_simp
      try simp only [Act.put, List.getElem_toArray, List.getElem_cons_zero, List.getElem_cons_succ, List.setIfInBounds_toArray, List.set_cons_zero, List.set_cons_succ]
      refine AnyL.take 19 (.int .i64 2) rfl (by kernel_rfl) (by kernel_rfl) (by kernel_rfl) (by kernel_rfl) (fun _ _ _ h => h) (Or.inl ⟨by rfl, ?_⟩) (by assumption) ?_
      · intro W' hSw
        obtain ⟨l1, l2, l3⟩ := HB.out W' hSw
        go_simp
      try simp only [Act.put, List.getElem_toArray, List.getElem_cons_zero, List.getElem_cons_succ, List.setIfInBounds_toArray, List.set_cons_zero, List.set_cons_succ]
      refine AnyL.next 20 (by kernel_rfl) rfl (fun K hK => ?_)
      go_simp
      have e6 := e5.alloc e5.size P2
      have bx := heap_alloc_new w5 P2
      have hz6 := e5.size
      obtain ⟨wc, hwc⟩ : ∃ wc, w5.alloc P2 = wc := ⟨_, rfl⟩
      rw [hwc] at e6 bx ⊢
      clear hwc
      obtain ⟨nb, hnb⟩ : ∃ nb, w5.heap.size = nb := ⟨_, rfl⟩
      rw [hnb] at bx hz6 ⊢
      refine hK.out _ _ (fun _ => e6) ?_
      clear hK K
      try simp only [Act.put, List.getElem_toArray, List.getElem_cons_zero, List.getElem_cons_succ, List.setIfInBounds_toArray, List.set_cons_zero, List.set_cons_succ]
      have b0 := box_cell bx 0
      have b1' := box_cell bx 1
      have f0 := box_frozen bx 0
      have f1 := box_frozen bx 1
      simp only [List.getElem?_toArray, List.getElem?_cons_succ, List.getElem?_cons_zero] at b0 b1'
      refine AnyL.next 21 (by kernel_rfl) rfl (fun K hK => ?_)
      go_simp
      have e7 := (Below.setCell (p := ⟨nb, 0, none⟩) e6 (by simp only; omega) (.slice none 0 0)).setCell (p := ⟨nb, 1, none⟩) (by simp only; omega) (.slice none 0 0)
      obtain ⟨w8, hw8⟩ : ∃ w8, (wc.setCell ⟨nb, 0, none⟩ (.slice none 0 0)).setCell ⟨nb, 1, none⟩ (.slice none 0 0) = w8 := ⟨_, rfl⟩
      rw [hw8] at e7 ⊢
      clear hw8
      refine hK.out _ _ (fun _ => e7) ?_
      clear hK K
      try simp only [Act.put, List.getElem_toArray, List.getElem_cons_zero, List.getElem_cons_succ, List.setIfInBounds_toArray, List.set_cons_zero, List.set_cons_succ]
      refine AnyL.take 22 (.int .i64 k) rfl (by kernel_rfl) (by kernel_rfl) (by kernel_rfl) (by kernel_rfl) (fun _ _ _ h => h) (Or.inl ⟨by rfl, ?_⟩) (by assumption) ?_
      · intro W' hSw
        obtain ⟨l1, l2, l3⟩ := HB.out W' hSw
        go_simp
      try simp only [Act.put, List.getElem_toArray, List.getElem_cons_zero, List.getElem_cons_succ, List.setIfInBounds_toArray, List.set_cons_zero, List.set_cons_succ]
      refine AnyL.next 23 (by kernel_rfl) rfl (fun K hK => ?_)
      go_simp
      refine hK.out _ _ (fun _ => e7) ?_
      clear hK K
      try simp only [Act.put, List.getElem_toArray, List.getElem_cons_zero, List.getElem_cons_succ, List.setIfInBounds_toArray, List.set_cons_zero, List.set_cons_succ]
      refine AnyL.done (by kernel_rfl) ?_
      obtain ⟨l1, l2, l3⟩ := HB.out w8 e7
      have hk := hkk.out
      by_cases h4 : b = 4
      · have t4 : (b : Int) = 4 := by omega
        have l4 : w8.cell? ⟨n1 + 1, 4, none⟩ = some (.string (hdW b)) := by
          have := l2
          rw [show (⟨n1 + 1, b, none⟩ : Addr) = ⟨n1 + 1, 4, none⟩ by rw [h4]] at this
          exact this
        by_cases h9 : a = 9
        · rw [if_pos (by omega)] at hk
          rw [show decide (a = 9) = true by simp [h9]] at ck
          clear h4 h9 HS HQ HB
          go_wp2
          go_ret
          exact ⟨rfl, F2.below e7⟩
        · rw [if_neg (by omega)] at hk
          rw [show decide (a = 9) = false by simp [h9]] at ck
          clear h4 h9 HS HQ HB
          go_wp2
          go_ret
          exact ⟨rfl, F2.below e7⟩
      · have t4 : ¬ (b : Int) = 4 := by omega
        rw [if_neg (by omega)] at hk
        clear h4 HS HQ HB
        go_wp2
        go_ret
        exact ⟨rfl, F2.below e7⟩
    · go_simp
      have e6 := eA.alloc eA.size P2
      have bx := heap_alloc_new wa P2
      have hz6 := eA.size
      have rB := rA.al1 P2
      obtain ⟨wc, hwc⟩ : ∃ wc, wa.alloc P2 = wc := ⟨_, rfl⟩
      rw [hwc] at e6 bx rB ⊢
      clear hwc
      obtain ⟨nb, hnb⟩ : ∃ nb, wa.heap.size = nb := ⟨_, rfl⟩
      rw [hnb] at bx hz6 ⊢
      refine hK.out _ _ (fun _ => e6) ?_
      clear hK K
      try simp only [Act.put, List.getElem_toArray, List.getElem_cons_zero, List.getElem_cons_succ, List.setIfInBounds_toArray, List.set_cons_zero, List.set_cons_succ]
      refine AnyL.next 15 (by kernel_rfl) rfl (fun K hK => ?_)
      go_simp
      go_at_call 13
      refine (HQ.out wc _ _ (grownCap_ge _ _ _ _) (rB)).mono ?_
      rintro e5 w5 ⟨rfl, eC⟩
      go_wp2_with fail
      have e5 := e6.trans (eC.mono (e6).size)
      refine hK.out _ _ (fun _ => e5) ?_
      clear hK K
      try simp only [Act.put, List.getElem_toArray, List.getElem_cons_zero, List.getElem_cons_succ, List.setIfInBounds_toArray, List.set_cons_zero, List.set_cons_succ]
      refine AnyL.take 16 (.tuple #[.agg #[.slice none 0 0, .slice none 0 0], .int .i64 k, .int .i64 2]) rfl (by kernel_rfl) (by kernel_rfl) (by kernel_rfl) (by kernel_rfl) (fun _ _ _ h => h) (Or.inl ⟨by rfl, ?_⟩) (by assumption) ?_
      · intro W' hSw
        obtain ⟨l1, l2, l3⟩ := HB.out W' hSw
        go_simp
      try simp only [Act.put, List.getElem_toArray, List.getElem_cons_zero, List.getElem_cons_succ, List.setIfInBounds_toArray, List.set_cons_zero, List.set_cons_succ]
      refine AnyL.take 17 (.agg #[.slice none 0 0, .slice none 0 0]) rfl (by kernel_rfl) (by kernel_rfl) (by kernel_rfl) (by kernel_rfl) (fun _ _ _ h => h) (Or.inl ⟨by rfl, ?_⟩) (by assumption) ?_
      · intro W' hSw
        obtain ⟨l1, l2, l3⟩ := HB.out W' hSw
        go_simp
      try simp only [Act.put, List.getElem_toArray, List.getElem_cons_zero, List.getElem_cons_succ, List.setIfInBounds_toArray, List.set_cons_zero, List.set_cons_succ]
      refine AnyL.take 18 (.int .i64 k) rfl (by kernel_rfl) (by kernel_rfl) (by kernel_rfl) (by kernel_rfl) (fun _ _ _ h => h) (Or.inl ⟨by rfl, ?_⟩) (by assumption) ?_
      · intro W' hSw
        obtain ⟨l1, l2, l3⟩ := HB.out W' hSw
        go_simp
      try simp only [Act.put, List.getElem_toArray, List.getElem_cons_zero, List.getElem_cons_succ, List.setIfInBounds_toArray, List.set_cons_zero, List.set_cons_succ]
      refine AnyL.take 19 (.int .i64 2) rfl (by kernel_rfl) (by kernel_rfl) (by kernel_rfl) (by kernel_rfl) (fun _ _ _ h => h) (Or.inl ⟨by rfl, ?_⟩) (by assumption) ?_
      · intro W' hSw
        obtain ⟨l1, l2, l3⟩ := HB.out W' hSw
        go_simp
      try simp only [Act.put, List.getElem_toArray, List.getElem_cons_zero, List.getElem_cons_succ, List.setIfInBounds_toArray, List.set_cons_zero, List.set_cons_succ]
      have bx := (eC.block nb (lt_heap bx)).trans bx
      have b0 := box_cell bx 0
      have b1' := box_cell bx 1
      have f0 := box_frozen bx 0
      have f1 := box_frozen bx 1
      simp only [List.getElem?_toArray, List.getElem?_cons_succ, List.getElem?_cons_zero] at b0 b1'
      refine AnyL.next 21 (by kernel_rfl) rfl (fun K hK => ?_)
      go_simp
      have e7 := (Below.setCell (p := ⟨nb, 0, none⟩) e5 (by simp only; omega) (.slice none 0 0)).setCell (p := ⟨nb, 1, none⟩) (by simp only; omega) (.slice none 0 0)
      obtain ⟨w8, hw8⟩ : ∃ w8, (w5.setCell ⟨nb, 0, none⟩ (.slice none 0 0)).setCell ⟨nb, 1, none⟩ (.slice none 0 0) = w8 := ⟨_, rfl⟩
      rw [hw8] at e7 ⊢
      clear hw8
      refine hK.out _ _ (fun _ => e7) ?_
      clear hK K
      try simp only [Act.put, List.getElem_toArray, List.getElem_cons_zero, List.getElem_cons_succ, List.setIfInBounds_toArray, List.set_cons_zero, List.set_cons_succ]
      refine AnyL.take 22 (.int .i64 k) rfl (by kernel_rfl) (by kernel_rfl) (by kernel_rfl) (by kernel_rfl) (fun _ _ _ h => h) (Or.inl ⟨by rfl, ?_⟩) (by assumption) ?_
      · intro W' hSw
        obtain ⟨l1, l2, l3⟩ := HB.out W' hSw
        go_simp
      try simp only [Act.put, List.getElem_toArray, List.getElem_cons_zero, List.getElem_cons_succ, List.setIfInBounds_toArray, List.set_cons_zero, List.set_cons_succ]
      refine AnyL.next 23 (by kernel_rfl) rfl (fun K hK => ?_)
      go_simp
      refine hK.out _ _ (fun _ => e7) ?_
      clear hK K
      try simp only [Act.put, List.getElem_toArray, List.getElem_cons_zero, List.getElem_cons_succ, List.setIfInBounds_toArray, List.set_cons_zero, List.set_cons_succ]
      refine AnyL.done (by kernel_rfl) ?_
      obtain ⟨l1, l2, l3⟩ := HB.out w8 e7
      have hk := hkk.out
      by_cases h4 : b = 4
      · have t4 : (b : Int) = 4 := by omega
        have l4 : w8.cell? ⟨n1 + 1, 4, none⟩ = some (.string (hdW b)) := by
          have := l2
          rw [show (⟨n1 + 1, b, none⟩ : Addr) = ⟨n1 + 1, 4, none⟩ by rw [h4]] at this
          exact this
        by_cases h9 : a = 9
        · rw [if_pos (by omega)] at hk
          rw [show decide (a = 9) = true by simp [h9]] at ck
          clear h4 h9 HS HQ HB
          go_wp2
          go_ret
          exact ⟨rfl, F2.below e7⟩
        · rw [if_neg (by omega)] at hk
          rw [show decide (a = 9) = false by simp [h9]] at ck
          clear h4 h9 HS HQ HB
          go_wp2
          go_ret
          exact ⟨rfl, F2.below e7⟩
      · have t4 : ¬ (b : Int) = 4 := by omega
        rw [if_neg (by omega)] at hk
        clear h4 HS HQ HB
        go_wp2
        go_ret
        exact ⟨rfl, F2.below e7⟩
  · go_simp
    have e6 : Below w2.heap.size w2 (w2.alloc P2).drew := below_drw ((Below.refl _ _).alloc (Nat.le_refl _) _)
    have bx : (w2.alloc P2).drew.heap[w2.heap.size]? = some P2 := heap_alloc_new w2 P2
    obtain ⟨wc, hwc⟩ : ∃ wc, (w2.alloc P2).drew = wc := ⟨_, rfl⟩
    rw [hwc] at e6 bx ⊢
    clear hwc
    rw [z2] at bx
    refine hK.out _ _ (fun _ => e6) ?_
    clear hK K
    try simp only [Act.put, List.getElem_toArray, List.getElem_cons_zero, List.getElem_cons_succ, List.setIfInBounds_toArray, List.set_cons_zero, List.set_cons_succ]
    refine AnyL.next 14 (by kernel_rfl) rfl (fun K hK => ?_)
    go_simp
    have eA : Below w2.heap.size w2 (wc.alloc (.cells (bytesRow (hdW b ++ wdW a ++ taW b) (grownCap wc ((hdW b).size + (wdW a).size + (taW b).size) 0 5)) 5 ((bytesRow (hdW b ++ wdW a ++ taW b) (grownCap wc ((hdW b).size + (wdW a).size + (taW b).size) 0 5)).size, (bytesRow (hdW b ++ wdW a ++ taW b) (grownCap wc ((hdW b).size + (wdW a).size + (taW b).size) 0 5)).size + 1))).drew := below_drw (e6.alloc e6.size _)
    have rA : Row (wc.alloc (.cells (bytesRow (hdW b ++ wdW a ++ taW b) (grownCap wc ((hdW b).size + (wdW a).size + (taW b).size) 0 5)) 5 ((bytesRow (hdW b ++ wdW a ++ taW b) (grownCap wc ((hdW b).size + (wdW a).size + (taW b).size) 0 5)).size, (bytesRow (hdW b ++ wdW a ++ taW b) (grownCap wc ((hdW b).size + (wdW a).size + (taW b).size) 0 5)).size + 1))).drew (some ⟨wc.heap.size, 0, none⟩) (hdW b ++ wdW a ++ taW b).data.toList := row_ba wc _ _
    have bx : (wc.alloc (.cells (bytesRow (hdW b ++ wdW a ++ taW b) (grownCap wc ((hdW b).size + (wdW a).size + (taW b).size) 0 5)) 5 ((bytesRow (hdW b ++ wdW a ++ taW b) (grownCap wc ((hdW b).size + (wdW a).size + (taW b).size) 0 5)).size, (bytesRow (hdW b ++ wdW a ++ taW b) (grownCap wc ((hdW b).size + (wdW a).size + (taW b).size) 0 5)).size + 1))).drew.heap[n1 + 3]? = some P2 := (Below.heap_alloc wc _ _ (lt_heap bx)).trans bx
    obtain ⟨wa, hwa⟩ : ∃ wa, (wc.alloc (.cells (bytesRow (hdW b ++ wdW a ++ taW b) (grownCap wc ((hdW b).size + (wdW a).size + (taW b).size) 0 5)) 5 ((bytesRow (hdW b ++ wdW a ++ taW b) (grownCap wc ((hdW b).size + (wdW a).size + (taW b).size) 0 5)).size, (bytesRow (hdW b ++ wdW a ++ taW b) (grownCap wc ((hdW b).size + (wdW a).size + (taW b).size) 0 5)).size + 1))).drew = wa := ⟨_, rfl⟩
    rw [hwa] at eA rA bx ⊢
    clear hwa
    refine hK.out _ _ (fun _ => eA) ?_
    clear hK K
    try simp only [Act.put, List.getElem_toArray, List.getElem_cons_zero, List.getElem_cons_succ, List.setIfInBounds_toArray, List.set_cons_zero, List.set_cons_succ]
    refine AnyL.next 15 (by kernel_rfl) rfl (fun K hK => ?_)
    go_simp
    go_at_call 13
    refine (HQ.out wa _ _ (grownCap_ge _ _ _ _) (rA)).mono ?_
    rintro e5 w5 ⟨rfl, eC⟩
    go_wp2_with fail
    have e5 := eA.trans (eC.mono (eA).size)
    refine hK.out _ _ (fun _ => e5) ?_
    clear hK K
    try simp only [Act.put, List.getElem_toArray, List.getElem_cons_zero, List.getElem_cons_succ, List.setIfInBounds_toArray, List.set_cons_zero, List.set_cons_succ]
    refine AnyL.take 16 (.tuple #[.agg #[.slice none 0 0, .slice none 0 0], .int .i64 k, .int .i64 2]) rfl (by kernel_rfl) (by kernel_rfl) (by kernel_rfl) (by kernel_rfl) (fun _ _ _ h => h) (Or.inl ⟨by rfl, ?_⟩) (by assumption) ?_
    · intro W' hSw
      obtain ⟨l1, l2, l3⟩ := HB.out W' hSw
      go_simp
    try simp only [Act.put, List.getElem_toArray, List.getElem_cons_zero, List.getElem_cons_succ, List.setIfInBounds_toArray, List.set_cons_zero, List.set_cons_succ]
    refine AnyL.take 17 (.agg #[.slice none 0 0, .slice none 0 0]) rfl (by kernel_rfl) (by kernel_rfl) (by kernel_rfl) (by kernel_rfl) (fun _ _ _ h => h) (Or.inl ⟨by rfl, ?_⟩) (by assumption) ?_
    · intro W' hSw
      obtain ⟨l1, l2, l3⟩ := HB.out W' hSw
      go_simp
    try simp only [Act.put, List.getElem_toArray, List.getElem_cons_zero, List.getElem_cons_succ, List.setIfInBounds_toArray, List.set_cons_zero, List.set_cons_succ]
    refine AnyL.take 18 (.int .i64 k) rfl (by kernel_rfl) (by kernel_rfl) (by kernel_rfl) (by kernel_rfl) (fun _ _ _ h => h) (Or.inl ⟨by rfl, ?_⟩) (by assumption) ?_
    · intro W' hSw
      obtain ⟨l1, l2, l3⟩ := HB.out W' hSw
      go_simp
    try simp only [Act.put, List.getElem_toArray, List.getElem_cons_zero, List.getElem_cons_succ, List.setIfInBounds_toArray, List.set_cons_zero, List.set_cons_succ]
    refine AnyL.take 19 (.int .i64 2) rfl (by kernel_rfl) (by kernel_rfl) (by kernel_rfl) (by kernel_rfl) (fun _ _ _ h => h) (Or.inl ⟨by rfl, ?_⟩) (by assumption) ?_
    · intro W' hSw
      obtain ⟨l1, l2, l3⟩ := HB.out W' hSw
      go_simp
    try simp only [Act.put, List.getElem_toArray, List.getElem_cons_zero, List.getElem_cons_succ, List.setIfInBounds_toArray, List.set_cons_zero, List.set_cons_succ]
    have bx := (eC.block (n1 + 3) (lt_heap bx)).trans bx
    have b0 := box_cell bx 0
    have b1' := box_cell bx 1
    have f0 := box_frozen bx 0
    have f1 := box_frozen bx 1
    simp only [List.getElem?_toArray, List.getElem?_cons_succ, List.getElem?_cons_zero] at b0 b1'
    refine AnyL.next 21 (by kernel_rfl) rfl (fun K hK => ?_)
    go_simp
    have e7 := (Below.setCell (p := ⟨(n1 + 3), 0, none⟩) e5 (by simp only; omega) (.slice none 0 0)).setCell (p := ⟨(n1 + 3), 1, none⟩) (by simp only; omega) (.slice none 0 0)
    obtain ⟨w8, hw8⟩ : ∃ w8, (w5.setCell ⟨(n1 + 3), 0, none⟩ (.slice none 0 0)).setCell ⟨(n1 + 3), 1, none⟩ (.slice none 0 0) = w8 := ⟨_, rfl⟩
    rw [hw8] at e7 ⊢
    clear hw8
    refine hK.out _ _ (fun _ => e7) ?_
    clear hK K
    try simp only [Act.put, List.getElem_toArray, List.getElem_cons_zero, List.getElem_cons_succ, List.setIfInBounds_toArray, List.set_cons_zero, List.set_cons_succ]
    refine AnyL.take 22 (.int .i64 k) rfl (by kernel_rfl) (by kernel_rfl) (by kernel_rfl) (by kernel_rfl) (fun _ _ _ h => h) (Or.inl ⟨by rfl, ?_⟩) (by assumption) ?_
    · intro W' hSw
      obtain ⟨l1, l2, l3⟩ := HB.out W' hSw
      go_simp
    try simp only [Act.put, List.getElem_toArray, List.getElem_cons_zero, List.getElem_cons_succ, List.setIfInBounds_toArray, List.set_cons_zero, List.set_cons_succ]
    refine AnyL.next 23 (by kernel_rfl) rfl (fun K hK => ?_)
    go_simp
    refine hK.out _ _ (fun _ => e7) ?_
    clear hK K
    try simp only [Act.put, List.getElem_toArray, List.getElem_cons_zero, List.getElem_cons_succ, List.setIfInBounds_toArray, List.set_cons_zero, List.set_cons_succ]
    refine AnyL.done (by kernel_rfl) ?_
    obtain ⟨l1, l2, l3⟩ := HB.out w8 e7
    have hk := hkk.out
    by_cases h4 : b = 4
    · have t4 : (b : Int) = 4 := by omega
      have l4 : w8.cell? ⟨n1 + 1, 4, none⟩ = some (.string (hdW b)) := by
        have := l2
        rw [show (⟨n1 + 1, b, none⟩ : Addr) = ⟨n1 + 1, 4, none⟩ by rw [h4]] at this
        exact this
      by_cases h9 : a = 9
      · rw [if_pos (by omega)] at hk
        rw [show decide (a = 9) = true by simp [h9]] at ck
        clear h4 h9 HS HQ HB
        go_wp2
        go_ret
        exact ⟨rfl, F2.below e7⟩
      · rw [if_neg (by omega)] at hk
        rw [show decide (a = 9) = false by simp [h9]] at ck
        clear h4 h9 HS HQ HB
        go_wp2
        go_ret
        exact ⟨rfl, F2.below e7⟩
    · have t4 : ¬ (b : Int) = 4 := by omega
      rw [if_neg (by omega)] at hk
      clear h4 HS HQ HB
      go_wp2
      go_ret
      exact ⟨rfl, F2.below e7⟩

theorem words_walk (n p : Int) (w : World) : Calls Try.prog 9 #[.int .i64 n, .int .i64 p] w fun e w' => e = .returned (.bool true) ∧ Fr w w' := by
  obtain ⟨N, hN⟩ : ∃ N, bits BinOp.and IntKind.i64 n 65535 = N := ⟨_, rfl⟩
  obtain ⟨P, hP⟩ : ∃ P, bits BinOp.and IntKind.i64 p 65535 = P := ⟨_, rfl⟩
  have ln := low16 n
  have lp := low16 p
  rw [hN] at ln
  rw [hP] at lp
  obtain ⟨a, ha⟩ : ∃ a : Nat, N % 15 = (a : Int) := ⟨(N % 15).toNat, by omega⟩
  obtain ⟨b, hb⟩ : ∃ b : Nat, P % 6 = (b : Int) := ⟨(P % 6).toNat, by omega⟩
  have ha' : a < 15 := by omega
  have hb' : b < 6 := by omega
  have hA : N.tmod 15 = (a : Int) := by rw [Int.tmod_eq_emod_of_nonneg ln.1]; exact ha
  have hB : P.tmod 6 = (b : Int) := by rw [Int.tmod_eq_emod_of_nonneg lp.1]; exact hb
  obtain ⟨_, _, _, h⟩ := words_is ha' hb'
  rcases h with ⟨h10, q, r, h⟩ | ⟨h10, h⟩
  · exact words_ok n p N P a b w hN hP hA hB ha' hb' q r h h10
  · exact words_bad n p N P a b w hN hP hA hB ha' hb' _ rfl h h10

end Go.Proofs.Ytmpdnikabkandaa
