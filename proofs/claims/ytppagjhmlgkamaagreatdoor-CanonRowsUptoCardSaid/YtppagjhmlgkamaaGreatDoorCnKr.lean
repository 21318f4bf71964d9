/-
  block, of what `statements` does.
-/
import Derived.Test.YtppagjhmlgkamaaGreatDoorCz5
import Derived.Test.YtppagjhmlgkamaaGreatDoorCnSr
namespace Go.Proofs.YtppagjhmlgkamaaGreatDoor
open Go Go.RowKit Go.Lib

theorem WAt.count {lo : Nat} {w : World} {b : Nat} {p : Value} {t : List UInt8} {k : Int} (h : WAt lo w b p t k) (k' : Int) : WAt lo (w.setCell ⟨b, 2, none⟩ (.int .i64 k')) b p t k' := by
  obtain ⟨h1, v, h2, h3, h4⟩ := h
  exact ⟨h1, v, heap_set h2 2 _, ownsRow_set h2 h3 2 _, h4⟩
theorem Wrote.count {lo b : Nat} {w w1 : World} {t : List UInt8} {k : Int} (h : Wrote lo b w t k w1) (k' : Int) : Wrote lo b w t k' (w1.setCell ⟨b, 2, none⟩ (.int .i64 k')) :=
  ⟨h.ws.imp (·.count k') (·.count k'), h.bl.setCell (p := ⟨b, 2, none⟩) (h.ws.elim (·.1) (·.1)) _, h.ok.setCell ⟨b, 2, none⟩ rfl _⟩
theorem WS.cnt {lo : Nat} {w : World} {b : Nat} {t : List UInt8} {k : Int} (h : WS lo w b t k) : w.cell? ⟨b, 2, none⟩ = some (.int .i64 k) ∧ w.frozen? ⟨b, 2, none⟩ = false := by
  obtain ⟨p, _, _, v, hb, _⟩ := h.at
  exact ⟨by rw [cell_of_heap hb]; rfl, frozen_of_heap hb 2⟩

set_option maxHeartbeats 2000000 in
set_option maxRecDepth 100000 in
theorem cn_block_any (l : SS) (hok : l.stok) (lo b : Nat) (t : List UInt8) (k : Nat) (W : World) (A : Option Addr) (cap : Nat) (ht : CT lo W) (h : WS lo W b t k) (hlo : lo ≤ W.heap.size) (hv : SV lo W (.slice A l.len cap) l) (hk : k < 70368744177664)
    (hlen : t.length + (blkT k (l.txt (k + 1))).length ≤ 70368744177664) :
    Calls Tryz.prog 44 #[used b, .slice A l.len cap] W fun e w' => e = .returned (.tuple #[]) ∧ Wrote lo b W (t ++ blkT k (l.txt (k + 1))) k w' := by
  have htl : (tabsT k).length = k := by unfold tabsT; rw [List.length_replicate]
  obtain ⟨X, hX⟩ : ∃ X, l.txt (k + 1) = X := ⟨_, rfl⟩
  have hst := statements_any l hok
  rw [hX] at hlen ⊢
  unfold blkT at hlen ⊢
  simp only [List.length_append, List.length_cons, List.length_nil] at hlen
  have ha := add_one lo b _ k ⟨#[32, 123, 10]⟩ W h hlo (by simp only [List.length_cons, List.length_nil]; omega)
  have HS : Hid (∀ w2, Wrote lo b W (t ++ [32, 123, 10]) ((k : Int) + 1) w2 → Calls Tryz.prog 21 #[used b, .slice A l.len cap] w2 fun e w' => e = .returned (.tuple #[]) ∧ Wrote lo b w2 (t ++ [32, 123, 10] ++ X) ((k : Int) + 1) w') :=
    hid fun w2 hw => by
      have := hst lo b (t ++ [32, 123, 10]) (k + 1) w2 A cap (ht.on hw.bl) hw.ws (hw.lo hlo) (SV.below hv hw.bl (Nat.le_refl _)) (by omega)
      rw [hX] at this
      exact this (by simp only [List.length_append, List.length_cons, List.length_nil]; omega)
  have HT : Hid (∀ w2, Wrote lo b W (t ++ [32, 123, 10] ++ X) k w2 → Calls Tryz.prog 45 #[used b] w2 fun e w' => e = .returned (.tuple #[]) ∧ Wrote lo b w2 (t ++ [32, 123, 10] ++ X ++ tabsT k) k w') :=
    hid fun w2 hw => tabs_any lo b _ k w2 hw.ws (hw.lo hlo) (by simp only [List.length_append, List.length_cons, List.length_nil]; omega)
  have HZ : Hid (∀ w2, Wrote lo b W (t ++ [32, 123, 10] ++ X ++ tabsT k) k w2 → Calls Tryz.prog 42 #[used b, .slice (some ⟨w2.heap.size, 0, none⟩) 1 1] (w2.alloc (.cells #[.string ⟨#[125]⟩] 9)) fun e w' => e = .returned (.tuple #[]) ∧ Wrote lo b w2 (t ++ [32, 123, 10] ++ X ++ tabsT k ++ [125]) k w') :=
    hid fun w2 hw => add_one lo b _ k ⟨#[125]⟩ w2 hw.ws (hw.lo hlo) (by simp only [List.length_append, List.length_cons, List.length_nil]; omega)
  have hk1 : IntKind.i64.wrap ((k : Int) + 1) = (k : Int) + 1 := IntWalk.i64_in _ (by omega)
  have hk2 : IntKind.i64.wrap ((k : Int) + 1 - 1) = (k : Int) := by rw [Int.add_sub_cancel]; exact IntWalk.i64_in _ (by omega)
  clear hst hX
  go_enter Tryz.func44, Tryz.ntmps44
  go_upto_region 1 with (go_at_call 42; ((with_reducible refine ha.mono ?_); clear ha; rintro e w2 ⟨rfl, h2⟩))
  obtain ⟨g2, f2⟩ := h2.ws.cnt
  have h2c := h2.count ((k : Int) + 1)
  have hq := HS.out _ h2c
  go_upto_region 3 with (go_at_call 21; ((with_reducible refine hq.mono ?_); clear hq; rintro e w3 ⟨rfl, h3q⟩))
  have h3 := h2c.trans h3q
  obtain ⟨g3, f3⟩ := h3.ws.cnt
  have h3c := h3.count k
  have hq := HT.out _ h3c
  clear g2 f2
  go_upto_region 5 with (go_at_call 45; ((with_reducible refine hq.mono ?_); clear hq; rintro e w4 ⟨rfl, h4q⟩))
  have h4 := h3c.trans h4q
  have hz := HZ.out _ h4
  clear g3 f3
  go_wp2_with (go_at_call 42; ((with_reducible refine hz.mono ?_); rintro e w5 ⟨rfl, h5q⟩))
  go_end0
  exact ⟨rfl, by have := h4.trans h5q; simp only [List.append_assoc] at this ⊢; exact this⟩

end Go.Proofs.YtppagjhmlgkamaaGreatDoor
