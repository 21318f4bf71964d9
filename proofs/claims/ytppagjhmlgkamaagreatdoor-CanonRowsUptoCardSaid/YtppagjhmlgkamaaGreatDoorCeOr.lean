/-
  An expression that came in, counted.
-/
import Derived.Test.YtppagjhmlgkamaaGreatDoorCz5
import Derived.Test.YtppagjhmlgkamaaGreatDoorTreeBkr
namespace Go.Proofs.YtppagjhmlgkamaaGreatDoor
open Go Go.ChangeShapes Go.WideShapes Go.ChangeAt Go.RowKit Go.Deep

set_option maxRecDepth 100000
section
variable {H : Type} {enc : TypeId × Value → H} {W : World} {sp : Nat → Bool} {held : Bool}
theorem open_exprB {v : Value} {d : DataW H} {p : List MemPlace} {base : Nat} (hv : Value.okWide Tryz.prog W .any base 38 v) (h : DataW.Trod enc Tryz.prog W 0 sp held 38 v d p) :
    ∃ (op n : Int) (s : ByteArray) (A : Option Addr) (cap : Nat) (l : ES), v = .agg #[.int .i64 op, .int .i64 n, .string s, .slice A l.len cap] ∧ EV W.heap.size W (.slice A l.len cap) l ∧ (I64 op ∧ I64 n ∧ s.size ≤ 9223372036854775807) ∧ l.cnt ≤ Rows.uptoBulk d := by
  obtain ⟨cs, rfl, hsz⟩ := okWide_struct Tryz.underlying38 hv
  have hsz4 : cs.size = 4 := hsz.trans (by kernel_rfl)
  obtain ⟨fuel, hf⟩ := h
  obtain ⟨xs, k, hk, hx, hlen, hxl, hf⟩ := DataW.trod_struct Tryz.underlying38 hf
  have hxl4 : xs.length = 4 := hxl
  have hcl : (Value.agg cs).cells.toList.length = 4 := hlen.trans (by kernel_rfl)
  obtain ⟨v0, c0, t0⟩ := field_one (j := 0) (by omega) (show Tryz.prog.cellsOf 3 = 1 by kernel_rfl) ((hf 0 _ rfl).trans (List.getElem?_eq_getElem (by omega)))
  obtain ⟨v1, c1, t1⟩ := field_one (j := 1) (by omega) (show Tryz.prog.cellsOf 2 = 1 by kernel_rfl) ((hf 1 _ rfl).trans (List.getElem?_eq_getElem (by omega)))
  obtain ⟨v2, c2, t2⟩ := field_one (j := 2) (by omega) (show Tryz.prog.cellsOf 9 = 1 by kernel_rfl) ((hf 2 _ rfl).trans (List.getElem?_eq_getElem (by omega)))
  obtain ⟨v3, c3, t3⟩ := field_one (j := 3) (by omega) (show Tryz.prog.cellsOf 36 = 1 by kernel_rfl) ((hf 3 _ rfl).trans (List.getElem?_eq_getElem (by omega)))
  obtain ⟨op, rfl, w0⟩ := int_one Tryz.underlying3 t0
  obtain ⟨n1, rfl, w1⟩ := int_one Tryz.underlying2 t1
  obtain ⟨s, rfl, w2⟩ := str_one t2
  obtain ⟨v, l, e, w3, w4⟩ := es_openB k t3
  injection e with e _
  subst e
  obtain ⟨A, cap, rfl, _⟩ := id w3
  have hcs : cs = #[.int .i64 op, .int .i64 n1, .string s, .slice A l.len cap] := by
    apply Array.ext'
    have h0 : cs.toList[0]? = some (.int .i64 op) := c0
    have h1 : cs.toList[1]? = some (.int .i64 n1) := c1
    have h2 : cs.toList[2]? = some (.string s) := c2
    have h3 : cs.toList[3]? = some (.slice A l.len cap) := c3
    have hl : cs.toList.length = 4 := by simpa using hsz4
    match hh : cs.toList, hl with
    | [a, b, c, e], _ =>
      rw [hh] at h0 h1 h2 h3
      simp at h0 h1 h2 h3
      simp [h0, h1, h2, h3]
  refine ⟨op, n1, s, A, cap, l, by rw [hcs], w3, ⟨w0, w1, w2⟩, ?_⟩
  have hd : d = .agg (xs.map (·.1)) := congrArg Prod.fst hx
  obtain ⟨y0, y1, y2, y3, rfl⟩ := list4_of hxl4
  rw [hd]
  have w4' : l.cnt ≤ Rows.uptoBulk y3.1 := w4
  simp only [List.map_cons, List.map_nil, Rows.uptoBulk, Rows.uptoBulkAll]
  omega
end
end Go.Proofs.YtppagjhmlgkamaaGreatDoor
