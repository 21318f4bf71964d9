/-
  Numbers (int) that the call has gathered in a row of its own, and append of one more: laws for the walk.
-/
import Derived.Test.YtmpdnikabkandaaPq5
import Derived.Test.YtmpdnikabkandaaBym
namespace Go.Proofs.Ytmpdnikabkandaa
open Go Go.RowKit Go.Lib

theorem intInfo : (Try.prog.info? 3).map (fun i => (i.zero, i.size, i.bytes)) = some (some (.int .i64 0), 1, 8) := by kernel_rfl
def intsV (l : List Int) : List Value := l.map fun x => .int .i64 x
/-- A row of numbers that was made since W, with W as it was. -/
def IOwn (W w : World) (v : Value) (l : List Int) : Prop := Fr W w ∧ w.ownsRow W.heap.size 3 1 v l.length (intsV l)
theorem IOwn.fr {W w : World} {v : Value} {l : List Int} (h : IOwn W w v l) : Fr W w := h.1
theorem iown_nil (W : World) : IOwn W W (.slice none 0 0) [] := ⟨Fr.refl W, ⟨rfl, .inl ⟨rfl, rfl⟩⟩⟩
theorem IOwn.alloc {W w : World} {v : Value} {l : List Int} (h : IOwn W w v l) (o : Obj) : IOwn W (w.alloc o) v l := by
  obtain ⟨h1, h2, h3⟩ := h
  refine ⟨h1.alloc o, ⟨h2, ?_⟩⟩
  rcases h3 with h3 | ⟨g, cap, cur, e1, e2, e3, e4⟩
  · exact .inl h3
  · refine .inr ⟨g, cap, cur, e1, e2, ?_, e4⟩
    have hlt := (Array.getElem?_eq_some_iff.1 e3).1
    have := ((Below.refl w.heap.size w).alloc (Nat.le_refl _) o).block g hlt
    rw [this]; exact e3
theorem IOwn.drew {W w : World} {v : Value} {l : List Int} (h : IOwn W w v l) : IOwn W w.drew v l := ⟨⟨h.1.os, h.1.tape, h.1.output, h.1.size, h.1.block⟩, h.2⟩
theorem IOwn.below {W w w' : World} {v : Value} {l : List Int} (h : IOwn W w v l) (hb : Below w.heap.size w w') : IOwn W w' v l := by
  obtain ⟨h1, h2, h3⟩ := h
  refine ⟨h1.below hb, ⟨h2, ?_⟩⟩
  rcases h3 with h3 | ⟨g, cap, cur, e1, e2, e3, e4⟩
  · exact .inl h3
  · refine .inr ⟨g, cap, cur, e1, e2, ?_, e4⟩
    have hlt := (Array.getElem?_eq_some_iff.1 e3).1
    rw [hb.block g hlt]; exact e3
/-- What lies there. -/
theorem IOwn.at_ {W w : World} {v : Value} {l : List Int} (h : IOwn W w v l) (hl : 0 < l.length) :
    ∃ g c, v = .slice (some ⟨g, 0, none⟩) l.length c ∧ W.heap.size ≤ g ∧ g < w.heap.size ∧ l.length ≤ c ∧ ∀ i x, l[i]? = some x → w.cell? ⟨g, i, none⟩ = some (.int .i64 x) := by
  rcases h.2.2 with ⟨rfl, e⟩ | ⟨g, cap, cur, rfl, hg, hh, hnc, hrest⟩
  · have := h.2.1
    rw [e] at this
    cases l with
    | nil => simp at hl
    | cons a l => cases e
  · have hlt := h.2.lt g rfl
    refine ⟨g, cap, rfl, hg, hlt.2, hnc, fun i x hi => ?_⟩
    have hc := h.2.cells (g := g) rfl i (.int .i64 x) (by unfold intsV; rw [List.getElem?_map, hi]; rfl)
    have e : (⟨g, 0, none⟩ : Addr).add i = ⟨g, i, none⟩ := by unfold Addr.add; split <;> simp_all
    rw [e] at hc
    exact hc
set_option maxRecDepth 100000 in
/-- append(v, y), y in a row of its own. -/
theorem wp_app_int {w W : World} {ops : Array Oper} {rest : List Oper} {o : Oper} {a : Act} {Q : Exit → Act → World → Prop} {s x : Operand} {v : Value} {l : List Int} {b c : Nat} {y : Int} (hgd : o.guard = none)
    (ho : o.op = .call { callee := .builtin .append, args := #[s, x], argTypes := #[29, 29] })
    (hB : IOwn W w v l) (hs : a.eval s = v) (hx : a.eval x = .slice (some ⟨b, 0, none⟩) 1 c) (hc : w.cell? ⟨b, 0, none⟩ = some (.int .i64 y)) (hlen : l.length ≤ 100000)
    (h : ∀ v' w', IOwn W w' v' (l ++ [y]) → w.grownBy w' v.ownBlock → wpList Try.prog ops Q rest (a.put o.dst v') w') : wpList Try.prog ops Q (o :: rest) a w := by
  obtain ⟨i0, hi, hz0, hz1, hz2⟩ := info_parts intInfo
  obtain ⟨h1, h2⟩ := hB
  refine wpList_append_own _ hgd s x 29 ho W.heap.size 3 i0 _ 1 8 Try.underlying29 hi hz0 hz1 hz2 rfl (by decide) v l.length (intsV l) hs h2 ⟨b, 0, none⟩ 1 c [.int .i64 y] hx rfl (fun j u hj => ?_) (fun u hu => ?_) (by unfold maxLen; omega) (by omega) h1.size ?_
  · cases j with
    | zero =>
      have hj : Value.int .i64 y = u := by simpa using hj
      subst hj
      have e : (⟨b, 0, none⟩ : Addr).add 0 = ⟨b, 0, none⟩ := by unfold Addr.add; split <;> simp_all
      rw [e]; exact hc
    | succ j => simp at hj
  · rw [List.mem_singleton.1 hu]; rfl
  · intro v' w' hown hgrow _
    refine h v' w' ⟨Below.grown h1 hgrow h1.size (fun k hk => (h2.lt k hk).1), ?_⟩ hgrow
    have e : intsV (l ++ [y]) = intsV l ++ [.int .i64 y] := by unfold intsV; rw [List.map_append]; rfl
    rw [List.length_append, e]; exact hown
end Go.Proofs.Ytmpdnikabkandaa
