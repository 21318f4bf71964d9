/-
  A strings.Builder in a block of its own: copyCheck, WriteString, WriteByte, String.
-/
import Derived.Test.YtnilklgnpfgieaaDoorChecked
import Derived.WalkKit
import Derived.Lib.Hide
import Derived.Lib.Builder
import Derived.Lib.OthersKept
import Derived.Lib.AppendStr
import Derived.Lib.BytesEntry
import Derived.Laws.AppendOwnNone
import Derived.Shelf.RegionOpen
namespace Go.Proofs.YtnilklgnpfgieaaDoor
open Go Go.RowKit Go.Lib

/-- The Builder lies in block b: what 'addr' holds, and the bytes. -/
def WAt (lo : Nat) (w : World) (b : Nat) (p : Value) (t : List UInt8) : Prop :=
  lo ≤ b ∧ ∃ v, w.heap[b]? = some (.cells #[p, v] 60 (0, 0)) ∧ w.ownsRow lo 5 1 v t.length (byteCells t) ∧ (t = [] → v = .slice none 0 0)
abbrev used (b : Nat) : Value := .pointer (some ⟨b, 0, none⟩)
def WS (lo : Nat) (w : World) (b : Nat) (t : List UInt8) : Prop := WAt lo w b (.pointer none) t ∨ WAt lo w b (used b) t
theorem WS.at {lo : Nat} {w : World} {b : Nat} {t : List UInt8} (h : WS lo w b t) : ∃ p, (p = .pointer none ∨ p = used b) ∧ WAt lo w b p t := by
  rcases h with h | h
  · exact ⟨_, .inl rfl, h⟩
  · exact ⟨_, .inr rfl, h⟩

theorem builderNe : 60 ≠ 5 := by decide
theorem WAt.own_ne {lo : Nat} {w : World} {b : Nat} {v : Value} {n : Nat} {xs : List Value} {cs : Array Value} {fr : Nat × Nat} (hb : w.heap[b]? = some (.cells cs 60 fr)) (hown : w.ownsRow lo 5 1 v n xs) : v.ownBlock ≠ some b := by
  intro h
  obtain ⟨c, fz, hc⟩ := ownsRowF_kind (World.ownsRowF_of hown) b h
  rw [hb] at hc
  injection hc with hc
  injection hc with _ hc _
  exact builderNe hc

/-- What is written goes behind what was; what lay below lo stands, and all else that is no row of bytes. -/
structure Wrote (lo b : Nat) (w : World) (t : List UInt8) (w' : World) : Prop where
  ws : WS lo w' b t
  bl : Below lo w w'
  ok : OthersKept 5 (some b) w w'
theorem Wrote.trans {lo b : Nat} {w w1 w2 : World} {t t' : List UInt8} (h : Wrote lo b w t w1) (h' : Wrote lo b w1 t' w2) : Wrote lo b w t' w2 := ⟨h'.ws, h.bl.trans h'.bl, h.ok.trans h'.ok⟩

theorem ownsRow_set {w : World} {lo b : Nat} {v : Value} {n : Nat} {xs : List Value} {cs : Array Value} {fr : Nat × Nat} (hb : w.heap[b]? = some (.cells cs 60 fr)) (hown : w.ownsRow lo 5 1 v n xs) (o : Nat) (x : Value) : (w.setCell ⟨b, o, none⟩ x).ownsRow lo 5 1 v n xs := by
  refine ⟨hown.1, ?_⟩
  rcases hown.2 with hn | ⟨g, cap, cur, e1, e2, e3, e4⟩
  · exact .inl hn
  · refine .inr ⟨g, cap, cur, e1, e2, ?_, e4⟩
    rw [Below.heap_setCell _ _ _ _ (fun e => ?_)]
    · exact e3
    · subst e
      rw [hb] at e3
      injection e3 with e3
      injection e3 with _ e3 _
      exact builderNe e3
theorem heap_set {w : World} {b : Nat} {cs : Array Value} {T : TypeId} {fr : Nat × Nat} (hb : w.heap[b]? = some (.cells cs T fr)) (o : Nat) (x : Value) : (w.setCell ⟨b, o, none⟩ x).heap[b]? = some (.cells (cs.setIfInBounds o x) T fr) := by
  simp [World.setCell, Array.getElem?_modify, hb]

theorem WAt.lt {lo : Nat} {w : World} {b : Nat} {p : Value} {t : List UInt8} (h : WAt lo w b p t) : b < w.heap.size := by
  obtain ⟨_, v, hb, _⟩ := h
  exact (Array.getElem?_eq_some_iff.1 hb).1
theorem WS.lt {lo : Nat} {w : World} {b : Nat} {t : List UInt8} (h : WS lo w b t) : b < w.heap.size := h.elim WAt.lt WAt.lt
theorem WAt.alloc {lo : Nat} {w : World} {b : Nat} {p : Value} {t : List UInt8} (h : WAt lo w b p t) (o : Obj) : WAt lo (w.alloc o) b p t := by
  obtain ⟨h1, v, h2, h3⟩ := h
  exact ⟨h1, v, (alloc_old w o b (Array.getElem?_eq_some_iff.1 h2).1).trans h2, h3.1.alloc o, h3.2⟩
theorem WS.alloc {lo : Nat} {w : World} {b : Nat} {t : List UInt8} (h : WS lo w b t) (o : Obj) : WS lo (w.alloc o) b t := h.imp (·.alloc o) (·.alloc o)
theorem Wrote.alloc {lo b : Nat} {w w' : World} {t : List UInt8} (h : Wrote lo b w t w') (o : Obj) (hlo : lo ≤ w'.heap.size) : Wrote lo b w t (w'.alloc o) := ⟨h.ws.alloc o, h.bl.alloc hlo o, h.ok.alloc o⟩

set_option maxHeartbeats 1000000 in
set_option maxRecDepth 100000 in
theorem cc_used (b : Nat) (w : World) (h0 : w.cell? ⟨b, 0, none⟩ = some (used b)) :
    Calls Tryd.prog 24 #[used b] w fun e w' => e = .returned (.tuple #[]) ∧ w' = w := by
  obtain ⟨j, hj, _⟩ := Option.map_eq_some_iff.1 (show (Tryd.prog.info? 60).map (·.size) = some 2 by kernel_rfl)
  go_enter Tryd.func24, Tryd.ntmps24
  go_wp2
  rw [run_neq_ptr_same w _ Tryd.underlying57 hj]
  go_wp2
  go_end0
  exact ⟨rfl, rfl⟩
set_option maxHeartbeats 1000000 in
set_option maxRecDepth 100000 in
theorem cc_fresh (b : Nat) (w : World) (h0 : w.cell? ⟨b, 0, none⟩ = some (.pointer none)) (hsh : w.shape? b = some (60, 2)) (hfz : w.frozen? ⟨b, 0, none⟩ = false) :
    Calls Tryd.prog 24 #[used b] w fun e w' => e = .returned (.tuple #[]) ∧ w' = w.setCell ⟨b, 0, none⟩ (used b) := by
  obtain ⟨j, hj, hjs⟩ := Option.map_eq_some_iff.1 (show (Tryd.prog.info? 60).map (·.size) = some 2 by kernel_rfl)
  go_enter Tryd.func24, Tryd.ntmps24
  go_wp2
  rw [run_to_unsafe w ⟨b, 0, none⟩ Tryd.underlying57 Tryd.underlying104 hj (by rw [hjs]; decide) hsh (Nat.zero_lt_succ 1)]
  simp only [Result.andThen]
  rw [Oper.upon_value]
  go_wp2
  rw [run_callFunc_extern Tryd.func42 (by kernel_rfl) (by kernel_rfl) (by kernel_rfl) (e := Extern.AbiNoEscape.same) (by kernel_rfl)]
  rw [run_noEscape]
  simp only [Result.andThen]
  rw [Oper.upon_value]
  go_wp2
  rw [run_from_unsafe w ⟨b, 0, none⟩ Tryd.underlying104 Tryd.underlying57 hj hsh (by kernel_rfl)]
  simp only [Result.andThen]
  rw [Oper.upon_value]
  go_wp2
  go_end0
  exact ⟨rfl, rfl⟩

theorem cc_any (lo b : Nat) (t : List UInt8) (w : World) (h : WS lo w b t) :
    Calls Tryd.prog 24 #[used b] w fun e w' => e = .returned (.tuple #[]) ∧ WAt lo w' b (used b) t ∧ Below lo w w' ∧ OthersKept 5 (some b) w w' := by
  rcases h with h | h
  · obtain ⟨h1, v, h2, h3⟩ := id h
    refine (cc_fresh b w (by rw [cell_of_heap h2]; rfl) (by simp [World.shape?, h2]) (frozen_of_heap h2 0)).mono ?_
    rintro e w' ⟨rfl, rfl⟩
    exact ⟨rfl, ⟨h1, v, heap_set h2 0 _, ownsRow_set h2 h3.1 0 _, h3.2⟩, (Below.refl lo w).setCell (p := ⟨b, 0, none⟩) h1 _, (OthersKept.refl _ _ w).setCell ⟨b, 0, none⟩ rfl _⟩
  · obtain ⟨h1, v, h2, h3⟩ := id h
    refine (cc_used b w (by rw [cell_of_heap h2]; rfl)).mono ?_
    rintro e w' ⟨rfl, rfl⟩
    exact ⟨rfl, h, Below.refl lo _, OthersKept.refl _ _ _⟩

theorem byteInfoW : (Tryd.prog.info? 5).map (fun i => (i.zero, i.size, i.bytes)) = some (some (.int .u8 0), 1, 1) := by kernel_rfl
theorem strCells_bytes (s : ByteArray) : strCells s = byteCells s.data.toList := by
  unfold strCells byteCells; rfl

/-- What a row that grew, stored behind, leaves. -/
theorem wat_put {lo b : Nat} {t t' : List UInt8} {w1 w2 : World} {v v' : Value} (hlo : lo ≤ b) (hb : w1.heap[b]? = some (.cells #[used b, v] 60 (0, 0))) (hown : w1.ownsRow lo 5 1 v t.length (byteCells t)) (hl : lo ≤ w1.heap.size)
    (hown' : w2.ownsRow lo 5 1 v' t'.length (byteCells t')) (hn : t' = [] → v' = .slice none 0 0) (hg : w1.grownBy w2 v.ownBlock) : Wrote lo b w1 t' (w2.setCell ⟨b, 1, none⟩ v') := by
  have hlt := (Array.getElem?_eq_some_iff.1 hb).1
  have hb2 : w2.heap[b]? = some (.cells #[used b, v] 60 (0, 0)) := by
    rw [hg.block b hlt (fun e => WAt.own_ne hb hown e.symm)]
    exact hb
  exact ⟨.inr ⟨hlo, v', heap_set hb2 1 _, ownsRow_set hb2 hown' 1 _, hn⟩, ((Below.refl lo w1).grown hg hl (fun k hk => (hown.lt k hk).1)).setCell (p := ⟨b, 1, none⟩) hlo _,
    ((OthersKept.refl _ _ w1).grown hg (ownsRowF_kind (World.ownsRowF_of hown))).setCell ⟨b, 1, none⟩ rfl _⟩

set_option maxHeartbeats 2000000 in
set_option maxRecDepth 100000 in
theorem write_any (lo b : Nat) (t : List UInt8) (s : ByteArray) (w : World) (h : WS lo w b t) (hlo : lo ≤ w.heap.size) (hlen : t.length + s.size ≤ 70368744177664) :
    Calls Tryd.prog 11 #[used b, .string s] w fun e w' => e = .returned (.tuple #[.int .i64 s.size, .nilIface]) ∧ Wrote lo b w (t ++ s.data.toList) w' := by
  obtain ⟨i0, hi, hz0, hz1, hz2⟩ := info_parts byteInfoW
  go_enter Tryd.func11, Tryd.ntmps11
  go_wp2_with (go_at_call 24; refine (cc_any lo b t _ h).mono ?_)
  rintro e w1 ⟨rfl, h1, hb1, ho1⟩
  obtain ⟨hB, v, hbk, hown, hnil⟩ := h1
  have c0 : w1.cell? ⟨b, 0, none⟩ = some (used b) := by rw [cell_of_heap hbk]; rfl
  have c1 : w1.cell? ⟨b, 1, none⟩ = some v := by rw [cell_of_heap hbk]; rfl
  have hlo1 : lo ≤ w1.heap.size := Nat.le_trans hlo hb1.size
  go_wp2_with (at_builtin; refine wpList_append_own_string _ rfl _ _ 58 9 rfl lo 5 i0 Tryd.underlying58 Tryd.underlying9 hi hz0 hz1 hz2 _ _ _ rfl hown s rfl ?c3 ?c4 ?c5 ?_)
  case c3 => unfold maxLen; omega
  case c4 => omega
  case c5 => omega
  intro v' w2 hown' hgrow hvn
  have hb2 : w2.heap[b]? = some (.cells #[used b, v] 60 (0, 0)) := by
    rw [hgrow.block b (Array.getElem?_eq_some_iff.1 hbk).1 (fun e => WAt.own_ne hbk hown e.symm)]
    exact hbk
  have f1 : w2.frozen? ⟨b, 1, none⟩ = false := frozen_of_heap hb2 1
  have d1 : w2.cell? ⟨b, 1, none⟩ = some v := by rw [cell_of_heap hb2]; rfl
  have hown2 : w2.ownsRow lo 5 1 v' (t ++ s.data.toList).length (byteCells (t ++ s.data.toList)) := by
    have e : (t ++ s.data.toList).length = t.length + s.size := by rw [List.length_append, Array.length_toList]; rfl
    rw [e, byteCells_append, ← strCells_bytes]
    exact hown'
  have hn2 : t ++ s.data.toList = [] → v' = .slice none 0 0 := by
    intro e
    rw [List.append_eq_nil_iff] at e
    refine hvn.2 ⟨hnil e.1, ?_⟩
    have : s.data.toList.length = 0 := by rw [e.2]; rfl
    rw [Array.length_toList] at this
    exact ByteArray.ext (Array.eq_empty_of_size_eq_zero this)
  have hw := wat_put hB hbk hown hlo1 hown2 hn2 hgrow
  clear hn2 hvn
  obtain ⟨ao, n', cap, rfl⟩ : ∃ ao n' cap, v' = .slice ao n' cap := by
    rcases hown'.2 with ⟨hv, _⟩ | ⟨g, cap, cur, hv, _⟩
    · exact ⟨_, _, _, hv⟩
    · exact ⟨_, _, _, hv⟩
  go_wp2
  go_ret2
  exact ⟨rfl, hw.ws, hb1.trans hw.bl, ho1.trans hw.ok⟩

set_option maxHeartbeats 2000000 in
set_option maxRecDepth 100000 in
theorem writeByte_any (lo b : Nat) (t : List UInt8) (c : UInt8) (w : World) (h : WS lo w b t) (hlo : lo ≤ w.heap.size) (hlen : t.length + 1 ≤ 70368744177664) :
    Calls Tryd.prog 13 #[used b, .int .u8 c.toNat] w fun e w' => e = .returned .nilIface ∧ Wrote lo b w (t ++ [c]) w' := by
  obtain ⟨i0, hi, hz0, hz1, hz2⟩ := info_parts byteInfoW
  go_enter Tryd.func13, Tryd.ntmps13
  go_wp2_with (go_at_call 24; refine (cc_any lo b t _ h).mono ?_)
  rintro e w1 ⟨rfl, h1, hb1, ho1⟩
  obtain ⟨hB, v, hbk, hown, hnil⟩ := h1
  have c0 : w1.cell? ⟨b, 0, none⟩ = some (used b) := by rw [cell_of_heap hbk]; rfl
  have c1 : w1.cell? ⟨b, 1, none⟩ = some v := by rw [cell_of_heap hbk]; rfl
  have hlo1 : lo ≤ w1.heap.size := Nat.le_trans hlo hb1.size
  go_wp2_with (at_builtin; refine wpList_append_own _ rfl _ _ 58 rfl lo 5 i0 (.int .u8 0) 1 1 Tryd.underlying58 hi hz0 hz1 hz2 rfl (by decide) _ _ _ rfl (hown.alloc _) ⟨w1.heap.size, 0, none⟩ 1 1 [.int .u8 c.toNat] rfl rfl ?c1 ?c2 ?c3 ?c4 ?c5 ?_)
  case c1 =>
    intro j u hj
    match j, hj with
    | 0, hj => simp at hj; subst hj; simp [Addr.add]
  case c2 => intro u hu; simp at hu; subst hu; rfl
  case c3 => unfold maxLen; omega
  case c4 => omega
  case c5 => simp; omega
  intro v' w2 hown' hgrow hvn
  have hlt := (Array.getElem?_eq_some_iff.1 hbk).1
  have hbk' : (w1.alloc (.cells #[.int .u8 c.toNat] 5)).heap[b]? = some (.cells #[used b, v] 60 (0, 0)) := (alloc_old w1 _ b hlt).trans hbk
  have hb2 : w2.heap[b]? = some (.cells #[used b, v] 60 (0, 0)) := by
    rw [hgrow.block b (Array.getElem?_eq_some_iff.1 hbk').1 (fun e => WAt.own_ne hbk hown e.symm)]
    exact hbk'
  have f1 : w2.frozen? ⟨b, 1, none⟩ = false := frozen_of_heap hb2 1
  have d1 : w2.cell? ⟨b, 1, none⟩ = some v := by rw [cell_of_heap hb2]; rfl
  have hown2 : w2.ownsRow lo 5 1 v' (t ++ [c]).length (byteCells (t ++ [c])) := by
    have e : (t ++ [c]).length = t.length + 1 := by rw [List.length_append]; rfl
    rw [e, byteCells_append]
    exact hown'
  have hw := wat_put hB hbk' (hown.alloc _) (by simp; omega) hown2 (fun e => absurd e (by simp)) hgrow
  obtain ⟨g, cap, rfl⟩ : ∃ g cap, v' = .slice (some ⟨g, 0, none⟩) (t.length + 1) cap := by
    rcases hown'.2 with ⟨_, h0⟩ | ⟨g, cap, cur, hv, _⟩
    · omega
    · exact ⟨g, cap, hv⟩
  go_wp2
  go_ret
  exact ⟨rfl, hw.ws, (hb1.alloc hlo1 _).trans hw.bl, (ho1.alloc _).trans hw.ok⟩

set_option maxHeartbeats 2000000 in
set_option maxRecDepth 100000 in
/-- String, of a writer that has written something. -/
theorem string_some (lo b : Nat) (t : List UInt8) (w : World) (h : WS lo w b t) (h0 : t ≠ []) :
    Calls Tryd.prog 15 #[used b] w fun e w' => e = .returned (.string ⟨t.toArray⟩) ∧ Below lo w w' := by
  obtain ⟨p, _, hB, v, hbk, hown, _⟩ := h.at
  have hl0 : t.length ≠ 0 := by simpa using h0
  obtain ⟨g, cap, cur, rfl, hbg, hg, hnc, hcm, hcs, htake⟩ : ∃ g cap cur, v = .slice (some ⟨g, 0, none⟩) t.length cap ∧ lo ≤ g ∧ w.heap[g]? = some (.cells cur 5 (0, 0)) ∧ t.length ≤ cap ∧ cap ≤ maxLen ∧ cur.size = cap * 1 ∧ cur.toList.take (t.length * 1) = byteCells t := by
    rcases hown.2 with ⟨_, hz⟩ | ⟨g, cap, cur, hv, r⟩
    · exact absurd hz hl0
    · exact ⟨g, cap, cur, hv, r⟩
  have c1 : w.drew.cell? ⟨b, 1, none⟩ = some (.slice (some ⟨g, 0, none⟩) t.length cap) := by
    have : w.drew.heap[b]? = some (.cells #[p, .slice (some ⟨g, 0, none⟩) t.length cap] 60 (0, 0)) := hbk
    rw [cell_of_heap this]; rfl
  have hSD : (Builtin.unsafeSliceData_ #[58] 85 #[.slice (some ⟨g, 0, none⟩) t.length cap]).run Tryd.prog w.drew = .ok (.pointer (some ⟨g, 0, none⟩)) w.drew :=
    run_unsafeSliceData_row _ _ _ _ _ _ (by omega)
  have hUS : (Builtin.unsafeString_ #[85, 3] 9 #[.pointer (some ⟨g, 0, none⟩), .int .i64 t.length]).run Tryd.prog w.drew = .ok (.string ⟨t.toArray⟩) (w.drew.freeze ⟨g, 0, none⟩ t.length) := by
    refine run_unsafeString_row w.drew 85 3 9 5 Tryd.underlying85 (by kernel_rfl) g cur.size (by have hg' : w.drew.heap[g]? = some (.cells cur 5 (0, 0)) := hg; simp [World.shape?, hg']) t h0 (by omega) (by unfold maxLen at hcm; omega) ?_
    intro j x hx
    have := hown.cells (g := g) rfl j (.int .u8 x.toNat) (by simp [byteCells, hx])
    exact this
  go_enter Tryd.func15, Tryd.ntmps15
  go_wp2
  go_region
  all_goals (go_wp2; go_ret; exact ⟨rfl, below_freeze (Below.drew (Below.refl lo w)) (p := ⟨g, 0, none⟩) hbg _⟩)

set_option maxHeartbeats 2000000 in
set_option maxRecDepth 100000 in
theorem string_none (lo b : Nat) (w : World) (h : WS lo w b []) :
    Calls Tryd.prog 15 #[used b] w fun e w' => e = .returned (.string ⟨#[]⟩) ∧ Below lo w w' := by
  obtain ⟨p, _, hB, v, hbk, hown, hn⟩ := h.at
  obtain rfl := hn rfl
  have c1 : w.drew.cell? ⟨b, 1, none⟩ = some (.slice none 0 0) := by
    have : w.drew.heap[b]? = some (.cells #[p, .slice none 0 0] 60 (0, 0)) := hbk
    rw [cell_of_heap this]; rfl
  have hSD : (Builtin.unsafeSliceData_ #[58] 85 #[.slice none 0 0]).run Tryd.prog w.drew = .ok (.pointer none) w.drew := rfl
  have hUS : (Builtin.unsafeString_ #[85, 3] 9 #[.pointer none, .int .i64 0]).run Tryd.prog w.drew = .ok (.string ⟨#[]⟩) w.drew := run_unsafeString_none w.drew _ _ _ none
  go_enter Tryd.func15, Tryd.ntmps15
  go_wp2
  go_region
  all_goals (go_wp2; go_ret; exact ⟨rfl, Below.drew (Below.refl lo w)⟩)

theorem string_any (lo b : Nat) (t : List UInt8) (w : World) (h : WS lo w b t) :
    Calls Tryd.prog 15 #[used b] w fun e w' => e = .returned (.string ⟨t.toArray⟩) ∧ Below lo w w' := by
  cases t with
  | nil => exact string_none lo b w h
  | cons c r => exact string_some lo b (c :: r) w h (by simp)

end Go.Proofs.YtnilklgnpfgieaaDoor
