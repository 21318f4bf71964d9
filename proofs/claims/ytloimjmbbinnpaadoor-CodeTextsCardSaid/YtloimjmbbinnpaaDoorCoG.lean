/-
  The document's own Of, Line (package evenhandref08).
-/
import Derived.Test.YtloimjmbbinnpaaDoorCoF
import Derived.Deep.RegionHeld3
namespace Go.Proofs.YtloimjmbbinnpaaDoor
open Go Go.RowKit Go.Lib

theorem heap_set_any {w : World} {b : Nat} {cs : Array Value} {T : TypeId} {fr : Nat × Nat} (hb : w.heap[b]? = some (.cells cs T fr)) (o : Nat) (x : Value) : (w.setCell ⟨b, o, none⟩ x).heap[b]? = some (.cells (cs.setIfInBounds o x) T fr) := by
  simp [World.setCell, Array.getElem?_modify, hb]
/-- The cells of the document's table. -/
def refCells : Array Value := #[.string ⟨#[]⟩, .int .i64 0, .int .i64 0, .int .i64 0, .bool false, .bool false, .string ⟨#[112, 117, 115, 104]⟩, .int .i64 0, .int .i64 1, .int .i64 1, .bool false, .bool true, .string ⟨#[108, 111, 97, 100]⟩, .int .i64 0, .int .i64 1, .int .i64 1, .bool true, .bool false, .string ⟨#[115, 116, 111, 114, 101]⟩, .int .i64 1, .int .i64 0, .int .i64 1, .bool true, .bool false, .string ⟨#[110, 101, 103]⟩, .int .i64 1, .int .i64 1, .int .i64 1, .bool false, .bool false, .string ⟨#[110, 111, 116]⟩, .int .i64 1, .int .i64 1, .int .i64 1, .bool false, .bool false, .string ⟨#[97, 100, 100]⟩, .int .i64 2, .int .i64 1, .int .i64 1, .bool false, .bool false, .string ⟨#[115, 117, 98]⟩, .int .i64 2, .int .i64 1, .int .i64 1, .bool false, .bool false, .string ⟨#[109, 117, 108]⟩, .int .i64 2, .int .i64 1, .int .i64 3, .bool false, .bool false, .string ⟨#[100, 105, 118]⟩, .int .i64 2, .int .i64 1, .int .i64 8, .bool false, .bool false, .string ⟨#[109, 111, 100]⟩, .int .i64 2, .int .i64 1, .int .i64 8, .bool false, .bool false, .string ⟨#[108, 101, 115, 115]⟩, .int .i64 2, .int .i64 1, .int .i64 1, .bool false, .bool false, .string ⟨#[115, 97, 109, 101]⟩, .int .i64 2, .int .i64 1, .int .i64 1, .bool false, .bool false, .string ⟨#[97, 110, 100]⟩, .int .i64 2, .int .i64 1, .int .i64 1, .bool false, .bool false, .string ⟨#[111, 114]⟩, .int .i64 2, .int .i64 1, .int .i64 1, .bool false, .bool false, .string ⟨#[106, 117, 109, 112]⟩, .int .i64 0, .int .i64 0, .int .i64 1, .bool true, .bool false, .string ⟨#[122, 101, 114, 111]⟩, .int .i64 1, .int .i64 0, .int .i64 1, .bool true, .bool false, .string ⟨#[99, 97, 108, 108]⟩, .int .i64 0, .int .i64 1, .int .i64 10, .bool true, .bool false, .string ⟨#[114, 101, 116, 117, 114, 110]⟩, .int .i64 1, .int .i64 0, .int .i64 2, .bool false, .bool false, .string ⟨#[112, 114, 105, 110, 116]⟩, .int .i64 1, .int .i64 0, .int .i64 5, .bool false, .bool false, .string ⟨#[107, 101, 101, 112]⟩, .int .i64 1, .int .i64 0, .int .i64 5, .bool false, .bool false, .string ⟨#[105, 110, 112, 117, 116]⟩, .int .i64 0, .int .i64 0, .int .i64 4, .bool true, .bool true, .string ⟨#[97, 114, 114, 97, 121]⟩, .int .i64 0, .int .i64 0, .int .i64 20, .bool true, .bool true, .string ⟨#[103, 101, 116]⟩, .int .i64 1, .int .i64 1, .int .i64 3, .bool true, .bool false, .string ⟨#[115, 101, 116]⟩, .int .i64 2, .int .i64 0, .int .i64 3, .bool true, .bool false, .string ⟨#[99, 108, 111, 99, 107]⟩, .int .i64 0, .int .i64 1, .int .i64 2, .bool false, .bool false]
/-- A row of it. -/
def Kd.rval (s : Kd) : Value := .agg #[.string ⟨s.name.toArray⟩, .int .i64 s.takes, .int .i64 s.leaves, .int .i64 s.cost, .bool s.hasA, .bool s.hasN]
set_option maxRecDepth 100000 in
theorem ref_at (k : Nat) (h1 : 1 ≤ k) (h : k ≤ 25) : refCells[k * 6]? = some (.string ⟨(kindT.getD k kd0).name.toArray⟩) ∧ refCells[k * 6 + 1]? = some (.int .i64 (kindT.getD k kd0).takes) ∧ refCells[k * 6 + 2]? = some (.int .i64 (kindT.getD k kd0).leaves) ∧
    refCells[k * 6 + 3]? = some (.int .i64 (kindT.getD k kd0).cost) ∧ refCells[k * 6 + 4]? = some (.bool (kindT.getD k kd0).hasA) ∧ refCells[k * 6 + 5]? = some (.bool (kindT.getD k kd0).hasN) := by
  match k, h1, h with
  | 1, _, _ => exact ⟨rfl, rfl, rfl, rfl, rfl, rfl⟩
  | 2, _, _ => exact ⟨rfl, rfl, rfl, rfl, rfl, rfl⟩
  | 3, _, _ => exact ⟨rfl, rfl, rfl, rfl, rfl, rfl⟩
  | 4, _, _ => exact ⟨rfl, rfl, rfl, rfl, rfl, rfl⟩
  | 5, _, _ => exact ⟨rfl, rfl, rfl, rfl, rfl, rfl⟩
  | 6, _, _ => exact ⟨rfl, rfl, rfl, rfl, rfl, rfl⟩
  | 7, _, _ => exact ⟨rfl, rfl, rfl, rfl, rfl, rfl⟩
  | 8, _, _ => exact ⟨rfl, rfl, rfl, rfl, rfl, rfl⟩
  | 9, _, _ => exact ⟨rfl, rfl, rfl, rfl, rfl, rfl⟩
  | 10, _, _ => exact ⟨rfl, rfl, rfl, rfl, rfl, rfl⟩
  | 11, _, _ => exact ⟨rfl, rfl, rfl, rfl, rfl, rfl⟩
  | 12, _, _ => exact ⟨rfl, rfl, rfl, rfl, rfl, rfl⟩
  | 13, _, _ => exact ⟨rfl, rfl, rfl, rfl, rfl, rfl⟩
  | 14, _, _ => exact ⟨rfl, rfl, rfl, rfl, rfl, rfl⟩
  | 15, _, _ => exact ⟨rfl, rfl, rfl, rfl, rfl, rfl⟩
  | 16, _, _ => exact ⟨rfl, rfl, rfl, rfl, rfl, rfl⟩
  | 17, _, _ => exact ⟨rfl, rfl, rfl, rfl, rfl, rfl⟩
  | 18, _, _ => exact ⟨rfl, rfl, rfl, rfl, rfl, rfl⟩
  | 19, _, _ => exact ⟨rfl, rfl, rfl, rfl, rfl, rfl⟩
  | 20, _, _ => exact ⟨rfl, rfl, rfl, rfl, rfl, rfl⟩
  | 21, _, _ => exact ⟨rfl, rfl, rfl, rfl, rfl, rfl⟩
  | 22, _, _ => exact ⟨rfl, rfl, rfl, rfl, rfl, rfl⟩
  | 23, _, _ => exact ⟨rfl, rfl, rfl, rfl, rfl, rfl⟩
  | 24, _, _ => exact ⟨rfl, rfl, rfl, rfl, rfl, rfl⟩
  | 25, _, _ => exact ⟨rfl, rfl, rfl, rfl, rfl, rfl⟩
  | k + 26, _, h => exact absurd h (by omega)

set_option maxHeartbeats 4000000 in
set_option maxRecDepth 100000 in
theorem of_not (op : Int) (w : World) (hk : knownB op = false) :
    Calls Tryd.prog 8 #[.int .i64 op] w fun e w' => e = .returned kd0.rval ∧ Below w.heap.size w w' := by
  have hb : Below w.heap.size w ((w.alloc (.cells #[.string ⟨#[63]⟩, .int .i64 0, .int .i64 0, .int .i64 0, .bool false, .bool false] 24)).alloc (.cells refCells 24)) := ((Below.refl _ _).alloc (Nat.le_refl _) _).alloc (by simp) _
  have HB := Lib.hid hb; clear hb
  go_enter Tryd.func8, Tryd.ntmps8
  go_upto_region 2 with fail
  by_cases h1 : op < 1
  · go_wp2
    refine bodyPost_ret (v := kd0.rval) (by simp [results, Tryd.results8, go_sem, Kd.rval, kd0]) rfl ⟨rfl, HB.out⟩
  · have h2 : ¬ op ≤ 25 := by
      unfold knownB at hk
      simp only [Bool.and_eq_false_iff, decide_eq_false_iff_not] at hk
      omega
    go_wp2
    refine bodyPost_ret (v := kd0.rval) (by simp [results, Tryd.results8, go_sem, Kd.rval, kd0]) rfl ⟨rfl, HB.out⟩

set_option maxHeartbeats 4000000 in
set_option maxRecDepth 100000 in
theorem of_known (k : Nat) (w : World) (h1 : 1 ≤ k) (h25 : k ≤ 25) :
    Calls Tryd.prog 8 #[.int .i64 k] w fun e w' => e = .returned (kindT.getD k kd0).rval ∧ Below w.heap.size w w' := by
  obtain ⟨c0, c1, c2, c3, c4, c5⟩ := ref_at k h1 h25
  obtain ⟨sh, hsh⟩ : ∃ sh, sh = kindT.getD k kd0 := ⟨_, rfl⟩
  rw [← hsh] at c0 c1 c2 c3 c4 c5 ⊢
  clear hsh
  go_enter Tryd.func8, Tryd.ntmps8
  go_upto_region 2 with fail
  have hb : Below w.heap.size w ((w.alloc (.cells #[.string ⟨#[]⟩, .int .i64 0, .int .i64 0, .int .i64 0, .bool false, .bool false] 24)).alloc (.cells refCells 24)) := ((Below.refl _ _).alloc (Nat.le_refl _) _).alloc (by simp) _
  have hn : ((w.alloc (.cells #[.string ⟨#[]⟩, .int .i64 0, .int .i64 0, .int .i64 0, .bool false, .bool false] 24)).alloc (.cells refCells 24)).heap[w.heap.size + 1]? = some (.cells refCells 24 (0, 0)) := by
    have := heap_alloc_new (w.alloc (.cells #[.string ⟨#[]⟩, .int .i64 0, .int .i64 0, .int .i64 0, .bool false, .bool false] 24)) (.cells refCells 24)
    simpa only [World.size_alloc] using this
  have ho : ((w.alloc (.cells #[.string ⟨#[]⟩, .int .i64 0, .int .i64 0, .int .i64 0, .bool false, .bool false] 24)).alloc (.cells refCells 24)).heap[w.heap.size]? = some (.cells #[.string ⟨#[]⟩, .int .i64 0, .int .i64 0, .int .i64 0, .bool false, .bool false] 24 (0, 0)) :=
    (alloc_old _ _ _ (by simp)).trans (heap_alloc_new w _)
  show Code.wp _ _ _ _ ((w.alloc (.cells #[.string ⟨#[]⟩, .int .i64 0, .int .i64 0, .int .i64 0, .bool false, .bool false] 24)).alloc (.cells refCells 24))
  obtain ⟨W2, hW2⟩ : ∃ W2, (w.alloc (.cells #[.string ⟨#[]⟩, .int .i64 0, .int .i64 0, .int .i64 0, .bool false, .bool false] 24)).alloc (.cells refCells 24) = W2 := ⟨_, rfl⟩
  rw [hW2] at hb hn ho ⊢
  clear hW2
  have hz : w.heap.size + 1 < W2.heap.size := (Array.getElem?_eq_some_iff.1 hn).1
  have d0 : W2.cell? ⟨w.heap.size + 1, k * 6, none⟩ = some (.string ⟨sh.name.toArray⟩) := by rw [cell_of_heap hn]; exact c0
  have d1 : W2.cell? ⟨w.heap.size + 1, k * 6 + 1, none⟩ = some (.int .i64 sh.takes) := by rw [cell_of_heap hn]; exact c1
  have d2 : W2.cell? ⟨w.heap.size + 1, k * 6 + 2, none⟩ = some (.int .i64 sh.leaves) := by rw [cell_of_heap hn]; exact c2
  have d3 : W2.cell? ⟨w.heap.size + 1, k * 6 + 3, none⟩ = some (.int .i64 sh.cost) := by rw [cell_of_heap hn]; exact c3
  have d4 : W2.cell? ⟨w.heap.size + 1, k * 6 + 4, none⟩ = some (.bool sh.hasA) := by rw [cell_of_heap hn]; exact c4
  have d5 : W2.cell? ⟨w.heap.size + 1, k * 6 + 5, none⟩ = some (.bool sh.hasN) := by rw [cell_of_heap hn]; exact c5
  have f0 : W2.cell? ⟨w.heap.size, 0, none⟩ = some (.string ⟨#[]⟩) := by rw [cell_of_heap ho]; rfl
  have f1 : W2.cell? ⟨w.heap.size, 1, none⟩ = some (.int .i64 0) := by rw [cell_of_heap ho]; rfl
  have f2 : W2.cell? ⟨w.heap.size, 2, none⟩ = some (.int .i64 0) := by rw [cell_of_heap ho]; rfl
  have f3 : W2.cell? ⟨w.heap.size, 3, none⟩ = some (.int .i64 0) := by rw [cell_of_heap ho]; rfl
  have f4 : W2.cell? ⟨w.heap.size, 4, none⟩ = some (.bool false) := by rw [cell_of_heap ho]; rfl
  have f5 : W2.cell? ⟨w.heap.size, 5, none⟩ = some (.bool false) := by rw [cell_of_heap ho]; rfl
  have z0 : W2.frozen? ⟨w.heap.size, 0, none⟩ = false := frozen_of_heap ho 0
  have z1 : W2.frozen? ⟨w.heap.size, 1, none⟩ = false := frozen_of_heap ho 1
  have z2 : W2.frozen? ⟨w.heap.size, 2, none⟩ = false := frozen_of_heap ho 2
  have z3 : W2.frozen? ⟨w.heap.size, 3, none⟩ = false := frozen_of_heap ho 3
  have z4 : W2.frozen? ⟨w.heap.size, 4, none⟩ = false := frozen_of_heap ho 4
  have z5 : W2.frozen? ⟨w.heap.size, 5, none⟩ = false := frozen_of_heap ho 5
  have g1 : decide ((k : Int) < 1) = false := decide_eq_false (by omega)
  have g2 : decide ((25 : Int) < (k : Int)) = false := decide_eq_false (by omega)
  have hq : ((((((W2.setCell ⟨w.heap.size, 0, none⟩ (.string ⟨sh.name.toArray⟩)).setCell ⟨w.heap.size, 1, none⟩ (.int .i64 sh.takes)).setCell ⟨w.heap.size, 2, none⟩ (.int .i64 sh.leaves)).setCell ⟨w.heap.size, 3, none⟩ (.int .i64 sh.cost)).setCell ⟨w.heap.size, 4, none⟩ (.bool sh.hasA)).setCell ⟨w.heap.size, 5, none⟩ (.bool sh.hasN)).heap[w.heap.size]? = some (.cells #[.string ⟨sh.name.toArray⟩, .int .i64 sh.takes, .int .i64 sh.leaves, .int .i64 sh.cost, .bool sh.hasA, .bool sh.hasN] 24 (0, 0)) := (heap_set_any (heap_set_any (heap_set_any (heap_set_any (heap_set_any (heap_set_any ho 0 (.string ⟨sh.name.toArray⟩)) 1 (.int .i64 sh.takes)) 2 (.int .i64 sh.leaves)) 3 (.int .i64 sh.cost)) 4 (.bool sh.hasA)) 5 (.bool sh.hasN))
  have hbq : Below w.heap.size w ((((((W2.setCell ⟨w.heap.size, 0, none⟩ (.string ⟨sh.name.toArray⟩)).setCell ⟨w.heap.size, 1, none⟩ (.int .i64 sh.takes)).setCell ⟨w.heap.size, 2, none⟩ (.int .i64 sh.leaves)).setCell ⟨w.heap.size, 3, none⟩ (.int .i64 sh.cost)).setCell ⟨w.heap.size, 4, none⟩ (.bool sh.hasA)).setCell ⟨w.heap.size, 5, none⟩ (.bool sh.hasN)) := ((((((hb.setCell (p := ⟨w.heap.size, 0, none⟩) (Nat.le_refl _) (.string ⟨sh.name.toArray⟩)).setCell (p := ⟨w.heap.size, 1, none⟩) (Nat.le_refl _) (.int .i64 sh.takes)).setCell (p := ⟨w.heap.size, 2, none⟩) (Nat.le_refl _) (.int .i64 sh.leaves)).setCell (p := ⟨w.heap.size, 3, none⟩) (Nat.le_refl _) (.int .i64 sh.cost)).setCell (p := ⟨w.heap.size, 4, none⟩) (Nat.le_refl _) (.bool sh.hasA)).setCell (p := ⟨w.heap.size, 5, none⟩) (Nat.le_refl _) (.bool sh.hasN))
  have HQ := Lib.hid hq
  have HB := Lib.hid hbq
  clear hn ho c0 c1 c2 c3 c4 c5 hq hbq
  go_wp2
  have hq := HQ.out
  have hbq := HB.out
  clear HQ HB
  obtain ⟨W3, hW3⟩ : ∃ W3, ((((((W2.setCell ⟨w.heap.size, 0, none⟩ (.string ⟨sh.name.toArray⟩)).setCell ⟨w.heap.size, 1, none⟩ (.int .i64 sh.takes)).setCell ⟨w.heap.size, 2, none⟩ (.int .i64 sh.leaves)).setCell ⟨w.heap.size, 3, none⟩ (.int .i64 sh.cost)).setCell ⟨w.heap.size, 4, none⟩ (.bool sh.hasA)).setCell ⟨w.heap.size, 5, none⟩ (.bool sh.hasN)) = W3 := ⟨_, rfl⟩
  rw [hW3] at hq hbq ⊢
  have p0 : W3.cell? ⟨w.heap.size, 0, none⟩ = some (.string ⟨sh.name.toArray⟩) := by rw [cell_of_heap hq]; rfl
  have p1 : W3.cell? ⟨w.heap.size, 1, none⟩ = some (.int .i64 sh.takes) := by rw [cell_of_heap hq]; rfl
  have p2 : W3.cell? ⟨w.heap.size, 2, none⟩ = some (.int .i64 sh.leaves) := by rw [cell_of_heap hq]; rfl
  have p3 : W3.cell? ⟨w.heap.size, 3, none⟩ = some (.int .i64 sh.cost) := by rw [cell_of_heap hq]; rfl
  have p4 : W3.cell? ⟨w.heap.size, 4, none⟩ = some (.bool sh.hasA) := by rw [cell_of_heap hq]; rfl
  have p5 : W3.cell? ⟨w.heap.size, 5, none⟩ = some (.bool sh.hasN) := by rw [cell_of_heap hq]; rfl
  refine bodyPost_ret (v := sh.rval) (by simp [results, Tryd.results8, go_sem, Kd.rval, p0, p1, p2, p3, p4, p5]) rfl ⟨rfl, hbq⟩

theorem of_any (op : Int) (sh : Kd) (h : kdOf op = sh) (w : World) :
    Calls Tryd.prog 8 #[.int .i64 op] w fun e w' => e = .returned (.agg #[.string ⟨sh.name.toArray⟩, .int .i64 sh.takes, .int .i64 sh.leaves, .int .i64 sh.cost, .bool sh.hasA, .bool sh.hasN]) ∧ Below w.heap.size w w' := by
  subst h
  cases hk : knownB op with
  | false => rw [kd_not hk]; exact of_not op w hk
  | true =>
    obtain ⟨k, rfl, h1, h25, e⟩ := kd_known hk
    rw [e]
    exact of_known k w h1 h25
end Go.Proofs.YtloimjmbbinnpaaDoor
