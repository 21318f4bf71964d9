/-
  The statements' own small calls of layer 7: name, sets; programs that a call lays.
-/
import Derived.Test.YtacleafbjbhcgaaLbJ
namespace Go.Proofs.Ytacleafbjbhcgaa
open Go Go.RowKit Go.Lib

theorem ev_nil (B : Nat) (w : World) : EV B w (.slice none 0 0) .nil := ⟨none, 0, rfl, Nat.le_refl _, by decide, fun h => by simp [ES.len] at h⟩
theorem sv_nil (B : Nat) (w : World) : SV B w (.slice none 0 0) .nil := ⟨none, 0, rfl, Nat.le_refl _, by decide, fun h => by simp [SS.len] at h⟩
theorem fv_nil (B : Nat) (w : World) : FV B w (.slice none 0 0) [] := ⟨none, 0, rfl, Nat.le_refl _, by decide, fun h => by simp at h⟩
def okE (op n : Int) (s : ByteArray) : Prop := I64 op ∧ I64 n ∧ s.size ≤ 9223372036854775807
/-- Lists in a block of their own. -/
theorem ev_one {W : World} {b : Nat} {op n : Int} {s : ByteArray} {v : Value} {l : ES} {t : TypeId} (h : W.heap[b]? = some (.cells #[.int .i64 op, .int .i64 n, .string s, v] t)) (hv : EV W.heap.size W v l) (ho : okE op n s) :
    EV W.heap.size W (.slice (some ⟨b, 0, none⟩) 1 1) (.cons op n s l .nil) :=
  ⟨_, _, rfl, Nat.le_refl _, by decide, fun _ => ⟨b, 0, rfl, lt_heap h, (box_cell h 0).trans rfl, (box_cell h 1).trans rfl, (box_cell h 2).trans rfl, ⟨v, (box_cell h 3).trans rfl, hv⟩, ho, trivial⟩⟩
theorem ev_two {W : World} {b : Nat} {op n op' n' : Int} {s s' : ByteArray} {v v' : Value} {l l' : ES} {t : TypeId} (h : W.heap[b]? = some (.cells #[.int .i64 op, .int .i64 n, .string s, v, .int .i64 op', .int .i64 n', .string s', v'] t)) (hv : EV W.heap.size W v l) (ho : okE op n s) (hv' : EV W.heap.size W v' l') (ho' : okE op' n' s') :
    EV W.heap.size W (.slice (some ⟨b, 0, none⟩) 2 2) (.cons op n s l (.cons op' n' s' l' .nil)) :=
  ⟨_, _, rfl, Nat.le_refl _, by decide, fun _ => ⟨b, 0, rfl, lt_heap h, (box_cell h 0).trans rfl, (box_cell h 1).trans rfl, (box_cell h 2).trans rfl, ⟨v, (box_cell h 3).trans rfl, hv⟩, ho,
    (box_cell h 4).trans rfl, (box_cell h 5).trans rfl, (box_cell h 6).trans rfl, ⟨v', (box_cell h 7).trans rfl, hv'⟩, ho', trivial⟩⟩
theorem sv_one {W : World} {b : Nat} {op n : Int} {s : ByteArray} {v x y : Value} {l : ES} {lx ly : SS} {t : TypeId} (h : W.heap[b]? = some (.cells #[.int .i64 op, .string s, .int .i64 n, v, x, y] t)) (hv : EV W.heap.size W v l) (hx : SV W.heap.size W x lx) (hy : SV W.heap.size W y ly) (ho : okE op n s) :
    SV W.heap.size W (.slice (some ⟨b, 0, none⟩) 1 1) (.cons op s n l lx ly .nil) :=
  ⟨_, _, rfl, Nat.le_refl _, by decide, fun _ => ⟨b, 0, rfl, lt_heap h, (box_cell h 0).trans rfl, (box_cell h 1).trans rfl, (box_cell h 2).trans rfl, ⟨v, (box_cell h 3).trans rfl, hv⟩, ⟨x, (box_cell h 4).trans rfl, hx⟩, ⟨y, (box_cell h 5).trans rfl, hy⟩, ho, trivial⟩⟩
theorem sv_two {W : World} {b : Nat} {op n op' n' : Int} {s s' : ByteArray} {v x y v' x' y' : Value} {l l' : ES} {lx ly lx' ly' : SS} {t : TypeId} (h : W.heap[b]? = some (.cells #[.int .i64 op, .string s, .int .i64 n, v, x, y, .int .i64 op', .string s', .int .i64 n', v', x', y'] t))
    (hv : EV W.heap.size W v l) (hx : SV W.heap.size W x lx) (hy : SV W.heap.size W y ly) (ho : okE op n s) (hv' : EV W.heap.size W v' l') (hx' : SV W.heap.size W x' lx') (hy' : SV W.heap.size W y' ly') (ho' : okE op' n' s') :
    SV W.heap.size W (.slice (some ⟨b, 0, none⟩) 2 2) (.cons op s n l lx ly (.cons op' s' n' l' lx' ly' .nil)) :=
  ⟨_, _, rfl, Nat.le_refl _, by decide, fun _ => ⟨b, 0, rfl, lt_heap h, (box_cell h 0).trans rfl, (box_cell h 1).trans rfl, (box_cell h 2).trans rfl, ⟨v, (box_cell h 3).trans rfl, hv⟩, ⟨x, (box_cell h 4).trans rfl, hx⟩, ⟨y, (box_cell h 5).trans rfl, hy⟩, ho,
    (box_cell h 6).trans rfl, (box_cell h 7).trans rfl, (box_cell h 8).trans rfl, ⟨v', (box_cell h 9).trans rfl, hv'⟩, ⟨x', (box_cell h 10).trans rfl, hx'⟩, ⟨y', (box_cell h 11).trans rfl, hy'⟩, ho', trivial⟩⟩
theorem ps_two {W : World} {b : Nat} {s s' : ByteArray} {t : TypeId} (h : W.heap[b]? = some (.cells #[.string s, .string s'] t)) (hs : s.size ≤ 9223372036854775807) (hs' : s'.size ≤ 9223372036854775807) : RowV (PsIn W [s, s']) W.heap.size 2 (.slice (some ⟨b, 0, none⟩) 2 2) :=
  ⟨_, _, rfl, Nat.le_refl _, by decide, fun _ => ⟨b, 0, rfl, lt_heap h, (box_cell h 0).trans rfl, hs, (box_cell h 1).trans rfl, hs', trivial⟩⟩
theorem fv_one {W : World} {b : Nat} {f : Fn} {v v' : Value} {t : TypeId} (h : W.heap[b]? = some (.cells #[.string f.s, v, v'] t)) (hv : RowV (PsIn W f.ps) W.heap.size f.ps.length v) (hv' : SV W.heap.size W v' f.b) (hs : f.s.size ≤ 9223372036854775807) : FV W.heap.size W (.slice (some ⟨b, 0, none⟩) 1 1) [f] :=
  ⟨_, _, rfl, Nat.le_refl _, by decide, fun _ => ⟨b, 0, rfl, lt_heap h, (box_cell h 0).trans rfl, ⟨v, (box_cell h 1).trans rfl, hv⟩, ⟨v', (box_cell h 2).trans rfl, hv'⟩, hs, trivial⟩⟩

/-- A variable's expression. -/
abbrev nameV (s : ByteArray) : Value := .agg #[.int .i64 2, .int .i64 0, .string s, .slice none 0 0]
abbrev nameO (s : ByteArray) : Obj := .cells #[.int .i64 2, .int .i64 0, .string s, .slice none 0 0] 37
theorem name_any (s : ByteArray) (w : World) :
    Calls Try.prog 8 #[.string s] w fun e w' => e = .returned (nameV s) ∧ Below w.heap.size w w' := by
  go_enter Try.func8, Try.ntmps8
  go_wp2
  refine bodyPost_ret (v := nameV s) (by simp [results, Try.results8, go_sem]) rfl ⟨rfl, (Below.refl _ _).alloc (Nat.le_refl _) _⟩
/-- An assignment, its expression in block b. -/
abbrev setsV (s : ByteArray) (b : Nat) : Value := .agg #[.int .i64 1, .string s, .int .i64 0, .slice (some ⟨b, 0, none⟩) 1 1, .slice none 0 0, .slice none 0 0]
theorem sets_any (s : ByteArray) (op n : Int) (s' : ByteArray) (v : Value) (w : World) :
    Calls Try.prog 9 #[.string s, .agg #[.int .i64 op, .int .i64 n, .string s', v]] w fun e w' => ∃ b, e = .returned (setsV s b) ∧ Below w.heap.size w w' ∧ w'.heap[b]? = some (.cells #[.int .i64 op, .int .i64 n, .string s', v] 37) := by
  go_enter Try.func9, Try.ntmps9
  go_wp2
  refine bodyPost_ret (v := setsV s (w.heap.size + 1 + 1)) (by simp [results, Try.results9, go_sem]) rfl ⟨_, rfl, ?_, ?_⟩
  · exact (((Below.refl _ _).alloc (Nat.le_refl _) _).alloc (by simp) _).alloc (by simp only [World.size_alloc]; omega) _
  · have h := heap_alloc_new ((w.alloc (.cells #[.int .i64 op, .int .i64 n, .string s', v] 37)).alloc (.cells #[.int .i64 1, .string s, .int .i64 0, .slice (some ⟨w.heap.size + 1 + 1, 0, none⟩) 1 1, .slice none 0 0, .slice none 0 0] 40)) (.cells #[.int .i64 op, .int .i64 n, .string s', v] 37)
    simpa only [World.size_alloc] using h
end Go.Proofs.Ytacleafbjbhcgaa
