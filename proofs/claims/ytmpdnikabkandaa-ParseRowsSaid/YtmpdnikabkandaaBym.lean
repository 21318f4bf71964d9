/-
  Bytes that the call has made, and append onto them: laws for the walk (of any seat that holds package lex).
-/
import Derived.Test.YtmpdnikabkandaaPq5
import Derived.Laws.AppendOwnNone
import Derived.Deep.DeepCutAuto
import Derived.Lib.AppendStr
namespace Go.Proofs.Ytmpdnikabkandaa
open Go Go.RowKit Go.Lib

theorem byteInfo : (Try.prog.info? 5).map (fun i => (i.zero, i.size, i.bytes)) = some (some (.int .u8 0), 1, 1) := by kernel_rfl
/-- The cells of bytes. -/
def byts (l : List UInt8) : List Value := l.map fun c => .int .u8 (bv c)
theorem byts_one (l : List UInt8) : ∀ u ∈ byts l, u.oneCell' = true := by
  intro u hu
  obtain ⟨c, _, rfl⟩ := List.mem_map.1 hu
  rfl
theorem byts_at {l : List UInt8} {j : Nat} {u : Value} (h : (byts l)[j]? = some u) : j < l.length ∧ u = .int .u8 (nth l j) := by
  unfold byts at h
  rw [List.getElem?_map] at h
  have hj : j < l.length := by
    rcases Nat.lt_or_ge j l.length with h' | h'
    · exact h'
    · rw [List.getElem?_eq_none h'] at h; cases h
  refine ⟨hj, ?_⟩
  rw [List.getElem?_eq_getElem hj] at h
  unfold nth
  rw [List.getD_eq_getElem?_getD, List.getElem?_eq_getElem hj]
  simpa using h.symm
theorem add_at (b o j : Nat) : (⟨b, o, none⟩ : Addr).add j = ⟨b, o + j, none⟩ := by unfold Addr.add; split <;> simp_all
/-- A row of bytes that the call has made. -/
theorem byte_row {w : World} {B N : Nat} {v : Value} {l : List UInt8} (h : w.ownsRow B 5 1 v N (byts l)) (hl : l.length = N) (hv : v ≠ .slice none 0 0) :
    ∃ g c, v = .slice (some ⟨g, 0, none⟩) N c ∧ B ≤ g ∧ g < w.heap.size ∧ N ≤ c ∧ Row w (some ⟨g, 0, none⟩) l := by
  rcases h.2 with ⟨rfl, rfl⟩ | ⟨g, cap, cur, rfl, hg, hh, hnc, hrest⟩
  · exact absurd rfl hv
  · have hlt := h.lt g rfl
    refine ⟨g, cap, rfl, hg, hlt.2, hnc, fun _ => ⟨g, 0, rfl, hlt.2, fun i hi => ?_⟩⟩
    have hc := h.cells (g := g) rfl i (.int .u8 (nth l i)) (by
      unfold byts nth
      rw [List.getElem?_map, List.getElem?_eq_getElem hi, List.getD_eq_getElem?_getD, List.getElem?_eq_getElem hi]; rfl)
    rw [add_at] at hc
    exact hc
theorem conv_row {w : World} {g N : Nat} {l : List UInt8} (hr : Row w (some ⟨g, 0, none⟩) l) (hl : l.length = N) :
    ∀ c, (convert 22 9 (.slice (some ⟨g, 0, none⟩) N c)).run Try.prog w = .ok (.string ⟨l.toArray⟩) w := by
  intro c
  subst hl
  refine run_convert_bytes_back (P := Try.prog) w 22 9 5 ⟨g, 0, none⟩ c l Try.underlying22 Try.underlying5 Try.underlying9 (fun j hj => ?_)
  obtain ⟨b, o, e, _, hc⟩ := hr (by omega)
  injection e with e
  injection e with e1 e2
  subst e1 e2
  rw [add_at, hc j hj]
  unfold nth bv
  rw [List.getD_eq_getElem?_getD, List.getElem?_eq_getElem hj]
  simp

/-- A slice of bytes that was made since W, with W as it was. -/
def BOwn (W w : World) (v : Value) (l : List UInt8) : Prop := Fr W w ∧ w.ownsRow W.heap.size 5 1 v l.length (byts l) ∧ v ≠ .slice none 0 0
theorem BOwn.fr {W w : World} {v : Value} {l : List UInt8} (h : BOwn W w v l) : Fr W w := h.1
theorem byts_length (l : List UInt8) : (byts l).length = l.length := by unfold byts; rw [List.length_map]
theorem byts_app (a b : List UInt8) : byts (a ++ b) = byts a ++ byts b := by unfold byts; rw [List.map_append]
theorem bown_new (W : World) : BOwn W (W.alloc (.cells #[] 5)) (.slice (some ⟨W.heap.size, 0, none⟩) 0 0) [] :=
  ⟨(Fr.refl W).alloc _, World.ownsRow_made W #[] 0 (Nat.le_refl _) (Nat.zero_le _) rfl, fun h => by cases h⟩
theorem bown_new1 (W : World) (c : UInt8) : BOwn W (W.alloc (.cells #[.int .u8 (bv c)] 5)) (.slice (some ⟨W.heap.size, 0, none⟩) 1 1) [c] :=
  ⟨(Fr.refl W).alloc _, ⟨rfl, .inr ⟨W.heap.size, 1, _, rfl, Nat.le_refl _, heap_alloc_new W _, Nat.le_refl _, by unfold maxLen; omega, rfl, rfl⟩⟩, fun h => by cases h⟩
theorem BOwn.alloc {W w : World} {v : Value} {l : List UInt8} (h : BOwn W w v l) (o : Obj) : BOwn W (w.alloc o) v l := by
  obtain ⟨h1, ⟨h2, h3⟩, h4⟩ := h
  refine ⟨h1.alloc o, ⟨h2, ?_⟩, h4⟩
  rcases h3 with h3 | ⟨g, cap, cur, e1, e2, e3, e4⟩
  · exact .inl h3
  · refine .inr ⟨g, cap, cur, e1, e2, ?_, e4⟩
    have hlt := (Array.getElem?_eq_some_iff.1 e3).1
    have := ((Below.refl w.heap.size w).alloc (Nat.le_refl _) o).block g hlt
    rw [this]; exact e3
theorem BOwn.below {W w w' : World} {v : Value} {l : List UInt8} (h : BOwn W w v l) (hb : Below w.heap.size w w') : BOwn W w' v l := by
  obtain ⟨h1, ⟨h2, h3⟩, h4⟩ := h
  refine ⟨h1.below hb, ⟨h2, ?_⟩, h4⟩
  rcases h3 with h3 | ⟨g, cap, cur, e1, e2, e3, e4⟩
  · exact .inl h3
  · refine .inr ⟨g, cap, cur, e1, e2, ?_, e4⟩
    have hlt := (Array.getElem?_eq_some_iff.1 e3).1
    rw [hb.block g hlt]; exact e3
theorem BOwn.row {W w : World} {v : Value} {l : List UInt8} (h : BOwn W w v l) :
    ∃ g c, v = .slice (some ⟨g, 0, none⟩) l.length c ∧ W.heap.size ≤ g ∧ g < w.heap.size ∧ l.length ≤ c ∧ Row w (some ⟨g, 0, none⟩) l := byte_row h.2.1 rfl h.2.2

set_option maxRecDepth 100000 in
/-- append(v, x...), x any slice of bytes that can be read. -/
theorem wp_app {w W : World} {ops : Array Oper} {rest : List Oper} {o : Oper} {a : Act} {Q : Exit → Act → World → Prop} {s x : Operand} {v : Value} {l l2 : List UInt8} {A : Option Addr} {n cap : Nat} (hgd : o.guard = none)
    (ho : o.op = .call { callee := .builtin .append, args := #[s, x], argTypes := #[22, 22] })
    (hB : BOwn W w v l) (hs : a.eval s = v) (hx : a.eval x = .slice A n cap) (hr : Row w A l2) (hl : l2.length = n) (hcap : n ≤ cap) (hA : A = none → cap = 0) (hlen : l.length + n ≤ 100000)
    (h : ∀ v' w', BOwn W w' v' (l ++ l2) → w.grownBy w' v.ownBlock → wpList Try.prog ops Q rest (a.put o.dst v') w') : wpList Try.prog ops Q (o :: rest) a w := by
  obtain ⟨i0, hi, hz0, hz1, hz2⟩ := info_parts byteInfo
  subst hl
  obtain ⟨h1, h2, h3⟩ := hB
  cases A with
  | none =>
    obtain rfl := hA rfl
    have e0 : l2.length = 0 := by omega
    obtain rfl : l2 = [] := List.eq_nil_of_length_eq_zero e0
    refine wpList_append_own_none hgd s x 22 ho W.heap.size 5 i0 1 Try.underlying22 hi v l.length (byts l) hs h2 hx ?_
    exact h v w ⟨h1, by rw [List.append_nil]; exact h2, h3⟩ ⟨rfl, rfl, rfl, Nat.le_refl _, fun _ _ _ => rfl⟩
  | some ad =>
    refine wpList_append_own _ hgd s x 22 ho W.heap.size 5 i0 _ 1 1 Try.underlying22 hi hz0 hz1 hz2 rfl (by decide) v l.length (byts l) hs h2 ad l2.length cap (byts l2) hx (by rw [byts_length]; omega) (fun j u hj => ?_) (byts_one _) (by unfold maxLen; omega) (by omega) h1.size ?_
    · obtain ⟨hj1, rfl⟩ := byts_at hj
      obtain ⟨b, o, e, _, hc⟩ := hr (by omega)
      injection e with e
      subst e
      rw [add_at]; exact hc j hj1
    · intro v' w' hown hgrow hnil
      refine h v' w' ⟨Below.grown h1 hgrow h1.size (fun k hk => (h2.lt k hk).1), ?_, fun e => h3 (hnil.1 e).1⟩ hgrow
      rw [List.length_append, byts_app]; exact hown

theorem grown_cell {w w' : World} {g h o : Nat} (hg : w.grownBy w' (some h)) (hne : g ≠ h) (hlt : g < w.heap.size) : w'.cell? ⟨g, o, none⟩ = w.cell? ⟨g, o, none⟩ :=
  World.cell?_of_block (w := w) (hg.block g hlt (fun e => hne (by injection e)))


theorem strCells_byts (l : List UInt8) : strCells ⟨l.toArray⟩ = byts l := by
  unfold strCells byts bv; simp
/-- append(v, s...), s a string. -/
theorem wp_app_str {w W : World} {ops : Array Oper} {rest : List Oper} {o : Oper} {a : Act} {Q : Exit → Act → World → Prop} {s x : Operand} {v : Value} {l l2 : List UInt8} (hgd : o.guard = none)
    (ho : o.op = .call { callee := .builtin .append, args := #[s, x], argTypes := #[22, 9] })
    (hB : BOwn W w v l) (hs : a.eval s = v) (hx : a.eval x = .string ⟨l2.toArray⟩) (hlen : l.length + l2.length ≤ 100000)
    (h : ∀ v' w', BOwn W w' v' (l ++ l2) → wpList Try.prog ops Q rest (a.put o.dst v') w') : wpList Try.prog ops Q (o :: rest) a w := by
  obtain ⟨i0, hi, hz0, hz1, hz2⟩ := info_parts byteInfo
  obtain ⟨h1, h2, h3⟩ := hB
  have hsz : (⟨l2.toArray⟩ : ByteArray).size = l2.length := by simp [ByteArray.size]
  refine wpList_append_own_string _ hgd s x 22 9 ho W.heap.size 5 i0 Try.underlying22 Try.underlying9 hi hz0 hz1 hz2 v l.length (byts l) hs h2 ⟨l2.toArray⟩ hx (by rw [hsz]; unfold maxLen; omega) (by rw [hsz]; omega) h1.size ?_
  intro v' w' hown hgrow hnil
  refine h v' w' ⟨Below.grown h1 hgrow h1.size (fun k hk => (h2.lt k hk).1), ?_, fun e => h3 (hnil.1 e).1⟩
  rw [List.length_append, byts_app, ← strCells_byts l2, ← hsz]; exact hown


/-- Bytes, a line's end, and more. -/
def yL (b m : List UInt8) : List UInt8 := [] ++ b ++ [10] ++ m
theorem yL_eq (b m : List UInt8) : yL b m = b ++ 10 :: m := by unfold yL; simp
theorem yL_len {b m : List UInt8} {N M : Nat} (hb : b.length = N) (hm : m.length = M) : (yL b m).length = N + 1 + M := by rw [yL_eq]; simp; omega
theorem BOwn.rowAt {W w : World} {v : Value} {l : List UInt8} {n : Nat} (h : BOwn W w v l) (hn : l.length = n) :
    ∃ g c, v = .slice (some ⟨g, 0, none⟩) n c ∧ n ≤ c ∧ Row w (some ⟨g, 0, none⟩) l := by
  subst hn
  obtain ⟨g, c, h1, _, _, h2, h3⟩ := h.row
  exact ⟨g, c, h1, h2, h3⟩


end Go.Proofs.Ytmpdnikabkandaa
