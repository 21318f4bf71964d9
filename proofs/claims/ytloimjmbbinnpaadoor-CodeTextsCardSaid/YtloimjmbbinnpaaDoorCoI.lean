/-
  The statements' own 'shown' tells true.
-/
import Derived.Test.YtloimjmbbinnpaaDoorCoH
namespace Go.Proofs.YtloimjmbbinnpaaDoor
open Go Go.RowKit Go.Lib

theorem shown_text : textT 0 [(1, 0, 5), (18, 0, 0)] = [48, 32, 112, 117, 115, 104, 32, 53, 10, 49, 32, 114, 101, 116, 117, 114, 110, 10] := by decide +kernel

theorem shown_row (w : World) : InV (w.alloc (.cells #[.int .i64 1, .int .i64 0, .int .i64 5, .int .i64 18, .int .i64 0, .int .i64 0] 33)).heap.size (w.alloc (.cells #[.int .i64 1, .int .i64 0, .int .i64 5, .int .i64 18, .int .i64 0, .int .i64 0] 33)) (.slice (some ⟨w.heap.size, 0, none⟩) 2 2) [(1, 0, 5), (18, 0, 0)] := by
  have h := heap_alloc_new w (.cells #[.int .i64 1, .int .i64 0, .int .i64 5, .int .i64 18, .int .i64 0, .int .i64 0] 33)
  refine ⟨_, 2, rfl, Nat.le_refl _, by decide, fun _ => ⟨w.heap.size, 0, rfl, by simp, ?_⟩⟩
  have c : ∀ i v, (#[Value.int .i64 1, .int .i64 0, .int .i64 5, .int .i64 18, .int .i64 0, .int .i64 0])[i]? = some v → (w.alloc (.cells #[.int .i64 1, .int .i64 0, .int .i64 5, .int .i64 18, .int .i64 0, .int .i64 0] 33)).cell? ⟨w.heap.size, i, none⟩ = some v := fun i v hv => by rw [cell_of_heap h]; exact hv
  exact ⟨c 0 _ rfl, c 1 _ rfl, c 2 _ rfl, ⟨⟨by decide, by decide⟩, ⟨by decide, by decide⟩, ⟨by decide, by decide⟩⟩, c 3 _ rfl, c 4 _ rfl, c 5 _ rfl, ⟨⟨by decide, by decide⟩, ⟨by decide, by decide⟩, ⟨by decide, by decide⟩⟩, trivial⟩

theorem text_shown (lo : Nat) (w : World) (ht : CT lo w) :
    Calls Tryd.prog 16 #[.slice (some ⟨w.heap.size, 0, none⟩) 2 2] (w.alloc (.cells #[.int .i64 1, .int .i64 0, .int .i64 5, .int .i64 18, .int .i64 0, .int .i64 0] 33)) fun e w' => e = .returned (.string ⟨#[48, 32, 112, 117, 115, 104, 32, 53, 10, 49, 32, 114, 101, 116, 117, 114, 110, 10]⟩) ∧ Below w.heap.size w w' := by
  have hb : Below w.heap.size w (w.alloc (.cells #[.int .i64 1, .int .i64 0, .int .i64 5, .int .i64 18, .int .i64 0, .int .i64 0] 33)) := (Below.refl _ _).alloc (Nat.le_refl _) _
  have h := text_any [(1, 0, 5), (18, 0, 0)] lo _ (some ⟨w.heap.size, 0, none⟩) 2 (ht.step hb) (shown_row w) (fun x hx => by
    simp only [List.mem_cons, List.not_mem_nil, or_false] at hx
    rcases hx with rfl | rfl
    · exact ⟨⟨by decide, by decide⟩, ⟨by decide, by decide⟩, ⟨by decide, by decide⟩⟩
    · exact ⟨⟨by decide, by decide⟩, ⟨by decide, by decide⟩, ⟨by decide, by decide⟩⟩) (by decide)
  rw [shown_text] at h
  exact h.mono fun e w' ⟨h1, h2⟩ => ⟨h1, hb.trans (h2.mono hb.size)⟩

set_option maxHeartbeats 4000000 in
set_option maxRecDepth 100000 in
theorem shown_any (lo : Nat) (w : World) (ht : CT lo w) :
    Calls Tryd.prog 7 #[] w fun e w' => e = .returned (.bool true) ∧ Below w.heap.size w w' := by
  have q0 := text_shown lo w ht
  have q1 : ∀ wx, Below w.heap.size w wx → Calls Tryd.prog 13 #[.int .i64 9] wx fun e w' => e = .returned (.int .i64 8) ∧ Below w.heap.size w w' := fun wx h => (cost_any 9 lo wx (ht.step h)).mono fun _ _ ⟨a, b⟩ => ⟨a, h.trans (b.mono h.size)⟩
  have q2 : ∀ wx, Below w.heap.size w wx → Calls Tryd.prog 14 #[.int .i64 9] wx fun e w' => e = .returned (.int .i64 4) ∧ Below w.heap.size w w' := fun wx h => (fast_any 9 lo wx (ht.step h)).mono fun _ _ ⟨a, b⟩ => ⟨a, h.trans (b.mono h.size)⟩
  have q3 : ∀ wx, Below w.heap.size w wx → Calls Tryd.prog 11 #[.int .i64 24] wx fun e w' => e = .returned (.int .i64 2) ∧ Below w.heap.size w w' := fun wx h => (takes_any 24 lo wx (ht.step h)).mono fun _ _ ⟨a, b⟩ => ⟨a, h.trans (b.mono h.size)⟩
  have q4 : ∀ wx, Below w.heap.size w wx → Calls Tryd.prog 12 #[.int .i64 17] wx fun e w' => e = .returned (.int .i64 1) ∧ Below w.heap.size w w' := fun wx h => (leaves_any 17 lo wx (ht.step h)).mono fun _ _ ⟨a, b⟩ => ⟨a, h.trans (b.mono h.size)⟩
  have q5 : ∀ wx, Below w.heap.size w wx → Calls Tryd.prog 9 #[.int .i64 0] wx fun e w' => e = .returned (.bool false) ∧ Below w.heap.size w w' := fun wx h => (known_any 0 wx).mono fun _ _ ⟨a, b⟩ => ⟨a, by rw [← b]; exact h⟩
  have q6 : ∀ wx, Below w.heap.size w wx → Calls Tryd.prog 9 #[.int .i64 25] wx fun e w' => e = .returned (.bool true) ∧ Below w.heap.size w w' := fun wx h => (known_any 25 wx).mono fun _ _ ⟨a, b⟩ => ⟨a, by rw [← b]; exact h⟩
  go_enter Tryd.func7, Tryd.ntmps7
  go_wp2_with (first
    | (go_at_call 16; ((with_reducible refine q0.mono ?_); clear q0; rintro e w1 ⟨rfl, h1⟩))
    | (go_at_call 13; ((with_reducible refine (q1 _ (by assumption)).mono ?_); rintro e w2 ⟨rfl, h2⟩))
    | (go_at_call 14; ((with_reducible refine (q2 _ (by assumption)).mono ?_); rintro e w3 ⟨rfl, h3⟩))
    | (go_at_call 11; ((with_reducible refine (q3 _ (by assumption)).mono ?_); rintro e w4 ⟨rfl, h4⟩))
    | (go_at_call 12; ((with_reducible refine (q4 _ (by assumption)).mono ?_); rintro e w5 ⟨rfl, h5⟩))
    | (go_at_call 9; ((with_reducible refine (q5 _ (by assumption)).mono ?_); rintro e w6 ⟨rfl, h6⟩))
    | (go_at_call 9; ((with_reducible refine (q6 _ (by assumption)).mono ?_); rintro e w7 ⟨rfl, h7⟩)))
  go_ret
  exact ⟨rfl, by assumption⟩
end Go.Proofs.YtloimjmbbinnpaaDoor
