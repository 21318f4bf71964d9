/-
  writeNumber, writeIns.
-/
import Derived.Test.YtnilklgnpfgieaaDoorCoB
import Derived.Lib.ItoaLen
namespace Go.Proofs.YtnilklgnpfgieaaDoor
open Go Go.RowKit Go.Lib

theorem WAt.below {lo : Nat} {w w' : World} {b : Nat} {p : Value} {t : List UInt8} (h : WAt lo w b p t) (hb : Below w.heap.size w w') : WAt lo w' b p t := by
  obtain ⟨h1, v, h2, ⟨h3, h4⟩, h5⟩ := h
  refine ⟨h1, v, (hb.block b (Array.getElem?_eq_some_iff.1 h2).1).trans h2, ⟨h3, ?_⟩, h5⟩
  rcases h4 with h4 | ⟨g, cap, cur, e1, e2, e3, e4⟩
  · exact .inl h4
  · exact .inr ⟨g, cap, cur, e1, e2, (hb.block g (Array.getElem?_eq_some_iff.1 e3).1).trans e3, e4⟩
theorem WS.below {lo : Nat} {w w' : World} {b : Nat} {t : List UInt8} (h : WS lo w b t) (hb : Below w.heap.size w w') : WS lo w' b t := h.imp (·.below hb) (·.below hb)
theorem kept_below {e : TypeId} {b : Option Nat} {a w w' : World} (h : OthersKept e b a w) (hb : Below w.heap.size w w') : OthersKept e b a w' := fun k o hk hkb ho => by
  have h1 := h k o hk hkb ho
  exact (hb.block k (Array.getElem?_eq_some_iff.1 h1).1).trans h1
theorem Wrote.below {lo b : Nat} {w w1 w2 : World} {t : List UInt8} (h : Wrote lo b w t w1) (hb : Below w1.heap.size w1 w2) (hlo : lo ≤ w1.heap.size) : Wrote lo b w t w2 :=
  ⟨h.ws.below hb, h.bl.trans (hb.mono hlo), kept_below h.ok hb⟩
theorem Wrote.refl {lo b : Nat} {w : World} {t : List UInt8} (h : WS lo w b t) : Wrote lo b w t w := ⟨h, Below.refl _ _, OthersKept.refl _ _ _⟩
theorem Wrote.lo {lo b : Nat} {w w1 : World} {t : List UInt8} (h : Wrote lo b w t w1) (hlo : lo ≤ w.heap.size) : lo ≤ w1.heap.size := Nat.le_trans hlo h.bl.size

theorem itoa_len {n : Int} (h : I64 n) : (itoa n).length ≤ 21 := itoa_length_le n h.1 h.2

set_option maxHeartbeats 1000000 in
theorem writeNumber_any (lo b : Nat) (t : List UInt8) (n : Int) (w : World) (ht : CT lo w) (h : WS lo w b t) (hn : I64 n) (hlen : t.length + 22 ≤ 70368744177664) :
    Calls Tryd.prog 27 #[used b, .int .i64 n] w fun e w' => e = .returned (.tuple #[]) ∧ Wrote lo b w (t ++ (32 :: itoa n)) w' := by
  have hi := itoa_len hn
  have ha : Calls Tryd.prog 13 #[used b, .int .u8 32] w fun e w' => e = .returned .nilIface ∧ Wrote lo b w (t ++ [32]) w' := writeByte_any lo b t 32 w h ht.lw (by omega)
  go_enter Tryd.func27, Tryd.ntmps27
  go_upto_region 1 with (go_at_call 13; ((with_reducible refine ha.mono ?_); clear ha; rintro e w1 ⟨rfl, h1⟩))
  have hq := fmt_any lo n w1 (ht.on h1.bl) hn
  go_wp2_with (first
    | (go_at_call 45; ((with_reducible refine hq.mono ?_); clear hq; rintro e w2 ⟨rfl, h2⟩))
    | (go_at_call 11; ((with_reducible refine (write_any lo b (t ++ [32]) ⟨(itoa n).toArray⟩ _ (h1.ws.below h2) (Nat.le_trans (h1.lo ht.lw) h2.size) (by simp [ByteArray.size]; omega)).mono ?_); rintro e w3 ⟨rfl, h3⟩)))
  go_end0
  exact ⟨rfl, by
    have := (h1.below h2 (h1.lo ht.lw)).trans h3
    simp only [List.append_assoc, List.singleton_append] at this
    exact this⟩
end Go.Proofs.YtnilklgnpfgieaaDoor
