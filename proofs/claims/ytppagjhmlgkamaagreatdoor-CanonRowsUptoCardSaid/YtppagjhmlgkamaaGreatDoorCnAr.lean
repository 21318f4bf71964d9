/-
  The writer's add and tabs.
-/
import Derived.Test.YtppagjhmlgkamaaGreatDoorCz5
import Derived.Test.YtppagjhmlgkamaaGreatDoorCnWr
namespace Go.Proofs.YtppagjhmlgkamaaGreatDoor
open Go Go.RowKit Go.Lib

def tabsT (k : Nat) : List UInt8 := List.replicate k 9
def catB : List ByteArray → List UInt8
  | [] => []
  | s :: r => s.data.toList ++ catB r
theorem catB_app : ∀ a b : List ByteArray, catB (a ++ b) = catB a ++ catB b
  | [], _ => rfl
  | s :: r, b => by simp only [List.cons_append, catB, catB_app r b, List.append_assoc]

theorem kept_cell {w w' : World} {e T : TypeId} {b : Option Nat} {g o : Nat} {cs : Array Value} {fr : Nat × Nat} (h : OthersKept e b w w') (hg : w.heap[g]? = some (.cells cs T fr)) (hb : some g ≠ b) (hT : T ≠ e) : w'.cell? ⟨g, o, none⟩ = cs[o]? := by
  have := h g _ hg hb (fun c fz h => hT (by injection h))
  rw [cell_of_heap this]

set_option maxHeartbeats 2000000 in
set_option maxRecDepth 100000 in
theorem add_any (lo b : Nat) (t : List UInt8) (k : Int) (ss : List ByteArray) (n : Nat) (hn : ss.length = n) (hn9 : n ≤ 9) (W : World) (h : WS lo W b t k) (hlo : lo ≤ W.heap.size) (hlen : t.length + (catB ss).length ≤ 70368744177664) (arr : Array Value) (harr : arr = (ss.map Value.string).toArray) :
    Calls Tryz.prog 42 #[used b, .slice (some ⟨W.heap.size, 0, none⟩) n n] (W.alloc (.cells arr 9)) fun e w' => e = .returned (.tuple #[]) ∧ Wrote lo b W (t ++ catB ss) k w' := by
  have hg0 : (W.alloc (.cells arr 9)).heap[W.heap.size]? = some (.cells arr 9 (0, 0)) := heap_alloc_new W _
  have hw0 : Wrote lo b W t k (W.alloc (.cells arr 9)) := ⟨h.alloc _, (Below.refl _ _).alloc hlo _, (OthersKept.refl _ _ _).alloc _⟩
  have hbg : W.heap.size ≠ b := by have := h.lt; omega
  obtain ⟨g, hg⟩ : ∃ g, W.heap.size = g := ⟨_, rfl⟩
  rw [hg] at hg0 hbg ⊢
  obtain ⟨W1, hW1⟩ : ∃ W1, W.alloc (.cells arr 9) = W1 := ⟨_, rfl⟩
  rw [hW1] at hg0 hw0 ⊢
  have hlo1 : lo ≤ W1.heap.size := Nat.le_trans hlo hw0.bl.size
  have hws := hw0.ws
  have HW := hid hW1; clear hW1
  go_enter Tryz.func42, Tryz.ntmps42
  go_wp2
  go_loopw [8] (fun i wr => ∃ pre r : List ByteArray, i = .int .i64 pre.length ∧ pre ++ r = ss ∧ Wrote lo b W1 (t ++ catB pre) k wr) (fun i _ => n - (RowKit.intOf i).toNat)
  case atStart => exact ⟨[], ss, rfl, rfl, by rw [catB, List.append_nil]; exact ⟨hws, Below.refl _ _, OthersKept.refl _ _ _⟩⟩
  case round =>
    obtain ⟨pre, r, rfl, hpr, hwr⟩ := hrel
    have hl : pre.length + r.length = n := by rw [← hn, ← hpr, List.length_append]
    have hlr : (catB pre).length + (catB r).length = (catB ss).length := by rw [← hpr, catB_app, List.length_append]
    obtain ⟨j, hj⟩ : ∃ j, pre.length = j := ⟨_, rfl⟩
    rw [hj] at hl ⊢
    cases r with
    | nil =>
      obtain rfl : j = n := by simpa using hl
      rw [List.append_nil] at hpr
      subst hpr
      go_wp2
      go_end0
      exact ⟨rfl, hw0.trans hwr⟩
    | cons s r =>
      have hlt : j < n := by simp at hl; omega
      have hc : wr.cell? ⟨g, j, none⟩ = some (.string s) := by
        rw [kept_cell hwr.ok hg0 (fun e => hbg (by injection e)) (by decide), harr, ← hpr]
        simp [← hj]
      have hls : (catB (s :: r)).length = s.size + (catB r).length := by rw [catB, List.length_append, Array.length_toList]; rfl
      have hlw : (t ++ catB pre).length + s.size ≤ 70368744177664 := by rw [List.length_append]; omega
      have hlow : lo ≤ wr.heap.size := Nat.le_trans hlo1 hwr.bl.size
      have hcl := write_any lo b _ k s wr hwr.ws hlow hlw
      have HL := hid hl; clear hl
      go_wp2_with (go_at_call 73; ((with_reducible refine hcl.mono ?_); rintro e w1 ⟨rfl, h1⟩))
      go_roundw
      case rel => exact ⟨pre ++ [s], r, by rw [List.length_append, hj]; go_num, by rw [← hpr]; simp, by rw [catB_app, catB, catB, List.append_nil, ← List.append_assoc]; exact hwr.trans h1⟩
      case measure => simp [RowKit.intOf]; omega

set_option maxHeartbeats 2000000 in
set_option maxRecDepth 100000 in
theorem tabs_any (lo b : Nat) (t : List UInt8) (k : Nat) (W : World) (h : WS lo W b t k) (hlo : lo ≤ W.heap.size) (hlen : t.length + k ≤ 70368744177664) :
    Calls Tryz.prog 45 #[used b] W fun e w' => e = .returned (.tuple #[]) ∧ Wrote lo b W (t ++ tabsT k) k w' := by
  have hc : W.cell? ⟨b, 2, none⟩ = some (.int .i64 k) := by
    obtain ⟨p, _, _, v, hb, _⟩ := h.at
    rw [cell_of_heap hb]; rfl
  go_enter Tryz.func45, Tryz.ntmps45
  go_wp2
  go_loopw [6] (fun i wr => ∃ j : Nat, i = .int .i64 j ∧ j ≤ k ∧ Wrote lo b W (t ++ tabsT j) k wr) (fun i _ => k - (RowKit.intOf i).toNat)
  case atStart => exact ⟨0, rfl, Nat.zero_le _, by unfold tabsT; rw [List.replicate_zero, List.append_nil]; exact ⟨h, Below.refl _ _, OthersKept.refl _ _ _⟩⟩
  case round =>
    obtain ⟨j, rfl, hj, hwr⟩ := hrel
    by_cases hlt : j < k
    · have hlw : (t ++ tabsT j).length + 1 ≤ 70368744177664 := by unfold tabsT; rw [List.length_append, List.length_replicate]; omega
      have hcl := writeByte_any lo b _ k 9 wr hwr.ws (Nat.le_trans hlo hwr.bl.size) hlw
      have hcl' : Calls Tryz.prog 75 #[used b, .int .u8 9] wr _ := hcl
      clear hcl
      go_wp2_with (go_at_call 75; ((with_reducible refine hcl'.mono ?_); rintro e w1 ⟨rfl, h1⟩))
      go_roundw
      case rel => exact ⟨j + 1, by go_num, by omega, by unfold tabsT at *; rw [List.replicate_succ', ← List.append_assoc]; exact hwr.trans h1⟩
      case measure => simp [RowKit.intOf]; omega
    · obtain rfl : j = k := by omega
      go_wp2
      go_end0
      exact ⟨rfl, hwr⟩

end Go.Proofs.YtppagjhmlgkamaaGreatDoor
