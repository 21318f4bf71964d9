/-
  resolve's own memory: the scope's box, the map of uses, the closures' boxes; uses.first; the closures for variables and arrays.
-/
import Derived.Test.YtnilklgnpfgieaaDoorSd
import Derived.Test.YtnilklgnpfgieaaDoorSpP
import Derived.Maps.OwnSet
import Derived.OwnWalk
import Derived.Maps.Views
import Derived.Maps.AppendAt
namespace Go.Proofs.YtnilklgnpfgieaaDoor
open Go Go.RowKit Go.Lib

theorem blk_set {w : World} {b : Nat} {cs : Array Value} {T : TypeId} {fr : Nat × Nat} (hb : w.heap[b]? = some (.cells cs T fr)) (o : Nat) (x : Value) : (w.setCell ⟨b, o, none⟩ x).heap[b]? = some (.cells (cs.setIfInBounds o x) T fr) := by
  simp [World.setCell, Array.getElem?_modify, hb]
theorem bs_eq {s t : ByteArray} (h : s.data.toList = t.data.toList) : s = t := by
  obtain ⟨⟨l⟩⟩ := s
  obtain ⟨⟨m⟩⟩ := t
  simp at h
  rw [h]

/-- A row of texts of the call's own. -/
abbrev StO (base : Nat) (W : World) (v : Value) (l : List ByteArray) : Prop := W.ownsRow base 9 1 v l.length (l.map Value.string)
abbrev strO (s : ByteArray) : Obj := .cells #[.string s] 9
theorem stringInfo : (Tryd.prog.info? 9).map (fun i => (i.zero, i.size, i.bytes)) = some (some (.string ⟨#[]⟩), 1, 16) := by kernel_rfl
/-- append(v, s), s in a row of its own. -/
theorem wp_app_st {w : World} {N : Nat} {ops : Array Oper} {rest : List Oper} {o : Oper} {a : Act} {Q : Exit → Act → World → Prop} {s x : Operand} {v : Value} {l : List ByteArray} {b c : Nat} {s0 : ByteArray} (hgd : o.guard = none)
    (ho : o.op = .call { callee := .builtin .append, args := #[s, x], argTypes := #[52, 52] })
    (hB : StO N w v l) (hN : N ≤ w.heap.size) (hs : a.eval s = v) (hx : a.eval x = .slice (some ⟨b, 0, none⟩) 1 c) (hc : w.heap[b]? = some (strO s0)) (hlen : l.length ≤ 100000000)
    (h : ∀ v' w', StO N w' v' (l ++ [s0]) → w.grownBy w' v.ownBlock → (v'.ownBlock = v.ownBlock ∨ v'.ownBlock = some w.heap.size) → wpList Tryd.prog ops Q rest (a.put o.dst v') w') : wpList Tryd.prog ops Q (o :: rest) a w := by
  obtain ⟨i0, hi, hz0, hz1, hz2⟩ := info_parts stringInfo
  exact wpList_append_own_at _ hgd s x 52 ho N 9 i0 _ 1 16 Tryd.underlying52 hi hz0 hz1 hz2 rfl (by decide) v l.length _ hs hB ⟨b, 0, none⟩ 1 c [.string s0] hx rfl (blk_news hc _ rfl) (fun u hu => by rw [List.mem_singleton.1 hu]; rfl) (by unfold maxLen; omega) (by omega) hN
    (fun v' w' h1 h2 _ h4 => h v' w' (by unfold StO; rw [List.length_append, List.map_append]; exact h1) h2 h4)

/-- The map of uses. -/
def UMap (M c : Nat) (g : Gt) (W : World) : Prop :=
  ∃ D : DataW Unit, W.ownsMap Tryd.prog 9 (plainElem Tryd.prog 3) M c D ∧ ∀ s : ByteArray, D.atKey (.string s.data.toList) (.lit (.int .i64 0)) = .lit (.int .i64 (g.bits s))
theorem zeroI (w : World) : (zeroValue 3).run Tryd.prog w = .ok (.int .i64 0) w := by kernel_rfl
set_option maxRecDepth 100000 in
theorem umap_look {M c : Nat} {D : DataW Unit} {W : World} (h : W.ownsMap Tryd.prog 9 (plainElem Tryd.prog 3) M c D) (s : ByteArray) (hs : s.size ≤ 9223372036854775807) {z : Int} (hz : D.atKey (.string s.data.toList) (.lit (.int .i64 0)) = .lit (.int .i64 z)) :
    (Instr.lookup 94 (.map (some M)) (.string s) false).run Tryd.prog W = .ok (.int .i64 z) W := by
  obtain ⟨c, hr, hc, _⟩ := h.lookup_int (Maps.string_keyed Tryd.underlying9) Tryd.underlying94 Tryd.underlying3 (zeroI _) (Go.WideMaps.keyOf_string_mk Tryd.underlying9 (by unfold maxLen; omega))
  rw [hz] at hc
  injection hc with hc
  injection hc with _ hc
  rw [hr, hc]

set_option maxRecDepth 100000 in
set_option maxHeartbeats 1000000 in
/-- uses.first. -/
theorem ufirst_any (M c : Nat) (D : DataW Unit) (s : ByteArray) (way z r1 r2 : Int) (w : World) (hown : w.ownsMap Tryd.prog 9 (plainElem Tryd.prog 3) M c D) (hat : D.atKey (.string s.data.toList) (.lit (.int .i64 0)) = .lit (.int .i64 z))
    (h1 : bits BinOp.or IntKind.i64 z way = r1) (h2 : bits BinOp.and IntKind.i64 z way = r2) (hs : s.size ≤ 9223372036854775807) (hc : c ≤ 1000000000) (hwf : (Lit.int .i64 r1).wf = true) :
    Calls Tryd.prog 34 #[.map (some M), .string s, .int .i64 way] w fun e w' => e = .returned (.bool (r2 == 0)) ∧ w'.ownsMap Tryd.prog 9 (plainElem Tryd.prog 3) M (c + 1) (D.put (.string s.data.toList) (.lit (.int .i64 r1))) ∧ w.grownBy w' (some M) := by
  have hlook := umap_look hown s hs hat
  have HO := Lib.hid hown
  clear hown hat
  go_enter Tryd.func34, Tryd.ntmps34
  go_wp2_with (at_mapUpdate; refine wpList_mapUpdate_own _ rfl _ _ _ 94 rfl 9 3 (Maps.string_keyed Tryd.underlying9) Tryd.underlying94 (plainElem Tryd.prog 3) M c D rfl HO.out (by unfold maxLen; omega) _ _ (.string s.data.toList) rfl rfl (Go.WideMaps.keyOf_string_mk Tryd.underlying9 (by unfold maxLen; omega)) (.lit (.int .i64 r1)) [] (plainElem_int Tryd.underlying3 hwf) ?_; intro w3 hown3 hgrow3)
  go_ret
  exact ⟨rfl, hown3, hgrow3⟩
end Go.Proofs.YtnilklgnpfgieaaDoor
