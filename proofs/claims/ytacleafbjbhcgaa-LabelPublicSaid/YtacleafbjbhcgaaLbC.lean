/-
  The checker in memory: its box, the map of functions, rows of bools; public, into.
-/
import Derived.Test.YtacleafbjbhcgaaLbB
import Derived.Maps.OwnSet
import Derived.OwnWalk
namespace Go.Proofs.Ytacleafbjbhcgaa
open Go Go.RowKit Go.Lib

theorem lt_heap {W : World} {k : Nat} {o : Obj} (h : W.heap[k]? = some o) : k < W.heap.size := by
  rcases Nat.lt_or_ge k W.heap.size with h' | h'
  · exact h'
  · rw [Array.getElem?_eq_none h'] at h; cases h
theorem box_cell {W : World} {k : Nat} {cs : Array Value} {t : TypeId} {fz : Nat × Nat} (h : W.heap[k]? = some (.cells cs t fz)) (i : Nat) : W.cell? ⟨k, i, none⟩ = cs[i]? := by
  simp [World.cell?, h]
theorem box_frozen {W : World} {k : Nat} {cs : Array Value} {t : TypeId} (h : W.heap[k]? = some (.cells cs t)) (i : Nat) : W.frozen? ⟨k, i, none⟩ = false := by
  simp [World.frozen?, h]
theorem heap_set {w : World} {b : Nat} {cs : Array Value} {T : TypeId} {fr : Nat × Nat} (hb : w.heap[b]? = some (.cells cs T fr)) (o : Nat) (x : Value) : (w.setCell ⟨b, o, none⟩ x).heap[b]? = some (.cells (cs.setIfInBounds o x) T fr) := by
  simp [World.setCell, Array.getElem?_modify, hb]

/-- All that was there stays, but for the checker's box. -/
def Gr (rb : Nat) (W W' : World) : Prop := W.grownBy W' (some rb)
theorem Gr.of {rb : Nat} {W W' : World} (hb : Below W.heap.size W W') : Gr rb W W' := ⟨hb.os, hb.tape, hb.output, hb.size, fun k hk _ => hb.block k hk⟩
theorem Gr.size {rb : Nat} {W W' : World} (h : Gr rb W W') : W.heap.size ≤ W'.heap.size := World.grownBy.size h
theorem Gr.block {rb k : Nat} {W W' : World} (h : Gr rb W W') (hk : k < W.heap.size) (hne : k ≠ rb) : W'.heap[k]? = W.heap[k]? := World.grownBy.block h k hk (fun e => hne (Option.some.inj e))
theorem Gr.trans {rb : Nat} {W W' W'' : World} (h : Gr rb W W') (h' : Gr rb W' W'') : Gr rb W W'' :=
  ⟨(World.grownBy.os h').trans (World.grownBy.os h), (World.grownBy.tape h').trans (World.grownBy.tape h), (World.grownBy.output h').trans (World.grownBy.output h), Nat.le_trans h.size h'.size, fun k hk hne => (h'.block (Nat.lt_of_lt_of_le hk h.size) (fun e => hne (by rw [e]))).trans (h.block hk (fun e => hne (by rw [e])))⟩
theorem Gr.set {rb : Nat} {W : World} (j : Nat) (u : Value) : Gr rb W (W.setCell ⟨rb, j, none⟩ u) := ⟨rfl, rfl, rfl, by simp, fun k _ hk => Below.heap_setCell W ⟨rb, j, none⟩ u k (fun e => hk (by rw [e]))⟩
theorem Gr.refl (rb : Nat) (W : World) : Gr rb W W := World.grownBy.refl W _
theorem Gr.alloc {rb : Nat} {W W' : World} (h : Gr rb W W') (o : Obj) : Gr rb W (W'.alloc o) := h.trans (World.grownBy_alloc W' o _)
theorem Gr.drew {rb : Nat} {W W' : World} (h : Gr rb W W') : Gr rb W W'.drew := h.trans ⟨rfl, rfl, rfl, Nat.le_refl _, fun _ _ _ => rfl⟩
theorem Gr.grown {rb : Nat} {W w w' : World} {row : Option Nat} (h : Gr rb W w) (hg : w.grownBy w' row) (hr : ∀ k, row = some k → W.heap.size ≤ k) : Gr rb W w' :=
  ⟨(World.grownBy.os hg).trans (World.grownBy.os h), (World.grownBy.tape hg).trans (World.grownBy.tape h), (World.grownBy.output hg).trans (World.grownBy.output h), Nat.le_trans h.size (World.grownBy.size hg), fun k hk hne =>
    (World.grownBy.block hg k (Nat.lt_of_lt_of_le hk h.size) (fun e => by have := hr k e.symm; omega)).trans (h.block hk (fun e => hne (by rw [e])))⟩
theorem Gr.below {rb B : Nat} {W W' : World} (h : Gr rb W W') (hB : B ≤ rb) (hs : B ≤ W.heap.size) : Below B W W' :=
  ⟨World.grownBy.os h, World.grownBy.tape h, World.grownBy.output h, World.grownBy.size h, fun k hk => h.block (by omega) (by omega)⟩

/-- How an element of the map reads: as itself. -/
def RV : Value → Option (DataW Value × List MemPlace) := fun v => some (.held v, [])
abbrev zeroF : Value := .agg #[.string ⟨#[]⟩, .slice none 0 0, .slice none 0 0]
/-- The map of functions: at each name the parameters of the first one that has it. -/
def FMap (B M : Nat) (fs : List Fn) (w0 W : World) : Prop :=
  B ≤ M ∧ ∃ (n : Nat) (D : DataW Value), W.ownsMap Try.prog 9 RV M n D ∧ ∀ s : ByteArray, ∃ nm vps A' n' cap', D.atKey (.string s.data.toList) (.held zeroF) = .held (.agg #[.string nm, vps, .slice A' n' cap']) ∧ RowV (PsIn w0 (findP fs s)) B (findP fs s).length vps
theorem FMap.grown {B M : Nat} {fs : List Fn} {w0 W W' : World} {row : Option Nat} (h : FMap B M fs w0 W) (hg : W.grownBy W' row) (hne : some M ≠ row) : FMap B M fs w0 W' := by
  obtain ⟨h1, n, D, h2, h3⟩ := h
  exact ⟨h1, n, D, h2.kept hg hne, h3⟩
theorem zeroE (w : World) : (zeroValue 31).run Try.prog w = .ok zeroF w := by kernel_rfl
/-- What is found at a name. -/
theorem FMap.look {B M : Nat} {fs : List Fn} {w0 W : World} (h : FMap B M fs w0 W) (s : ByteArray) (hs : s.size ≤ 9223372036854775807) :
    ∃ nm A cap A' n' cap', (∀ q, (Instr.lookup 44 (.map (some M)) (.string s) false).run Try.prog (W.drewN q) = .ok (.agg #[.string nm, .slice A (findP fs s).length cap, .slice A' n' cap']) (W.drewN q)) ∧ RowV (PsIn w0 (findP fs s)) B (findP fs s).length (.slice A (findP fs s).length cap) := by
  obtain ⟨h1, n, D, h2, h3⟩ := h
  obtain ⟨nm, vps, A', n', cap', h4, h5⟩ := h3 s
  obtain ⟨A, cap, rfl, _⟩ := id h5
  refine ⟨nm, A, cap, A', n', cap', fun q => ?_, h5⟩
  have h2q : (W.drewN q).ownsMap Try.prog 9 RV M n D := h2
  obtain ⟨v, ps, hrun, hv⟩ := h2q.lookup (Maps.string_keyed Try.underlying9) Try.underlying44 (zeroE _) rfl (Go.WideMaps.keyOf_string_mk Try.underlying9 (by unfold maxLen; omega))
  have hv' : DataW.held v = DataW.held (.agg #[.string nm, .slice A (findP fs s).length cap, .slice A' n' cap']) := by
    rw [← h4]
    simpa [RV] using congrArg (Option.map Prod.fst) hv
  injection hv' with hv'
  rw [hrun, hv']

/-- The checker: what came in stands as it was; its box; the map. -/
structure Ck (B C M : Nat) (fs : List Fn) (w0 W : World) (nm : ByteArray) (t : Bool) : Prop where
  base : Below B w0 W
  hB : B ≤ C
  hM : M < C
  blk : W.heap[C]? = some (.cells #[.map (some M), .string nm, .bool t] 47)
  map : FMap B M fs w0 W

section
variable {B C M : Nat} {fs : List Fn} {w0 W W' : World} {nm : ByteArray} {t : Bool}
theorem Ck.lt (h : Ck B C M fs w0 W nm t) : C < W.heap.size := lt_heap h.blk
theorem Ck.le (h : Ck B C M fs w0 W nm t) : B ≤ W.heap.size := Nat.le_trans h.hB (Nat.le_of_lt h.lt)
theorem Ck.grown (h : Ck B C M fs w0 W nm t) {row : Option Nat} (hg : W.grownBy W' row) (hr : ∀ k, row = some k → C < k) : Ck B C M fs w0 W' nm t :=
  ⟨h.base.grown hg h.le (fun k e => by have := hr k e; have := h.hB; omega), h.hB, h.hM, (World.grownBy.block hg C h.lt (fun e => by have := hr C e.symm; omega)).trans h.blk,
    h.map.grown hg (fun e => by have := hr M e.symm; have := h.hM; omega)⟩
theorem Ck.below (h : Ck B C M fs w0 W nm t) (hb : Below W.heap.size W W') : Ck B C M fs w0 W' nm t := h.grown (row := none) ⟨hb.os, hb.tape, hb.output, hb.size, fun k hk _ => hb.block k hk⟩ (fun k e => by cases e)
theorem Ck.alloc (h : Ck B C M fs w0 W nm t) (o : Obj) : Ck B C M fs w0 (W.alloc o) nm t := h.grown (World.grownBy_alloc W o none) (fun k e => by cases e)
theorem Ck.drew (h : Ck B C M fs w0 W nm t) : Ck B C M fs w0 W.drew nm t := h.below ⟨rfl, rfl, rfl, Nat.le_refl _, fun _ _ => rfl⟩
theorem Ck.c0 (h : Ck B C M fs w0 W nm t) : W.cell? ⟨C, 0, none⟩ = some (.map (some M)) := (box_cell h.blk 0).trans rfl
theorem Ck.c1 (h : Ck B C M fs w0 W nm t) : W.cell? ⟨C, 1, none⟩ = some (.string nm) := (box_cell h.blk 1).trans rfl
theorem Ck.c2 (h : Ck B C M fs w0 W nm t) : W.cell? ⟨C, 2, none⟩ = some (.bool t) := (box_cell h.blk 2).trans rfl
theorem Ck.fz (h : Ck B C M fs w0 W nm t) (j : Nat) : W.frozen? ⟨C, j, none⟩ = false := box_frozen h.blk j
theorem Ck.tell (h : Ck B C M fs w0 W nm t) : Ck B C M fs w0 (W.setCell ⟨C, 2, none⟩ (.bool true)) nm true :=
  ⟨h.base.setCell h.hB _, h.hB, h.hM, (heap_set h.blk 2 _).trans rfl, h.map.grown (Gr.set (rb := C) 2 _) (fun e => by have := h.hM; injection e with e; omega)⟩
theorem Ck.name (h : Ck B C M fs w0 W nm t) (s : ByteArray) : Ck B C M fs w0 (W.setCell ⟨C, 1, none⟩ (.string s)) s t :=
  ⟨h.base.setCell h.hB _, h.hB, h.hM, (heap_set h.blk 1 _).trans rfl, h.map.grown (Gr.set (rb := C) 1 _) (fun e => by have := h.hM; injection e with e; omega)⟩
theorem Ck.at_ (h : Ck B C M fs w0 W nm t) {v : Value} {l : ES} (hv : EV B w0 v l) : EV B W v l := hv.below h.base (Nat.le_refl _)
theorem Ck.said (h : Ck B C M fs w0 W nm t) {t' : Bool} (e : t = t') : Ck B C M fs w0 W nm t' := e ▸ h
end

/-- A row of bools that is not the checker's box. -/
def BRow (C : Nat) (W : World) (v : Value) (ps : List Bool) : Prop :=
  ∃ A cap, v = .slice A ps.length cap ∧ ps.length ≤ cap ∧ cap ≤ 9223372036854775807 ∧ (0 < ps.length → ∃ b, A = some ⟨b, 0, none⟩ ∧ b ≠ C ∧ b < W.heap.size ∧ ∀ i x, ps[i]? = some x → W.cell? ⟨b, i, none⟩ = some (.bool x))
theorem BRow.gr {C : Nat} {W W' : World} {v : Value} {ps : List Bool} (h : BRow C W v ps) (hg : Gr C W W') : BRow C W' v ps := by
  obtain ⟨A, cap, e, h3, h4, h⟩ := h
  refine ⟨A, cap, e, h3, h4, fun hl => ?_⟩
  obtain ⟨b, eA, h1, h2, h5⟩ := h hl
  exact ⟨b, eA, h1, Nat.lt_of_lt_of_le h2 hg.size, fun i x hx => (World.cell?_of_block (a := ⟨b, i, none⟩) (hg.block h2 h1)).trans (h5 i x hx)⟩
theorem BRow.below {C : Nat} {W W' : World} {v : Value} {ps : List Bool} (h : BRow C W v ps) (hb : Below W.heap.size W W') : BRow C W' v ps := h.gr (Gr.of hb)

set_option maxHeartbeats 1000000 in
theorem public_any {B C M : Nat} {fs : List Fn} {w0 W : World} {nm : ByteArray} {t : Bool} (hc : Ck B C M fs w0 W nm t) {v : Value} {ps : List Bool} (hp : BRow C W v ps) (k : Nat) (z : Int) (hz : (k : Int) = z) (hk : k ≤ 9223372036854775807) :
    Calls Try.prog 26 #[.pointer (some ⟨C, 0, none⟩), v, .int .i64 z] W fun e W' => e = .returned (.tuple #[]) ∧ Ck B C M fs w0 W' nm (t || ps.getD k false) ∧ Gr C W W' := by
  subst hz
  obtain ⟨A, cap, rfl, h1, h2, h0⟩ := hp
  obtain ⟨len, hlen⟩ : ∃ len, ps.length = len := ⟨_, rfl⟩
  by_cases h : k < ps.length
  · obtain ⟨b, rfl, hne, hlt, h3⟩ := h0 (by omega)
    clear h0
    have hx := h3 k _ (List.getElem?_eq_getElem h)
    have e : ps.getD k false = ps[k] := by rw [List.getD_eq_getElem?_getD, List.getElem?_eq_getElem h]; rfl
    rw [e]
    obtain ⟨x, hxx⟩ : ∃ x, ps[k] = x := ⟨_, rfl⟩
    rw [hxx] at hx ⊢
    rw [hlen] at h h1 ⊢
    clear hxx e h3
    have hf := hc.fz 2
    have hc2 := hc.c2
    have HC := Lib.hid hc
    have hCl := hc.lt
    clear hc
    cases x with
    | true =>
      go_enter Try.func26, Try.ntmps26
      go_wp2
      go_end0
      exact ⟨rfl, HC.out.tell.said (by simp), Gr.set 2 _⟩
    | false =>
      go_enter Try.func26, Try.ntmps26
      go_wp2
      go_end0
      exact ⟨rfl, HC.out.said (by simp), Gr.refl _ _⟩
  · have e : ps.getD k false = false := by rw [List.getD_eq_getElem?_getD, List.getElem?_eq_none (by omega)]; rfl
    rw [e]
    rw [hlen] at h h1 ⊢
    clear e h0
    have HC := Lib.hid hc
    clear hc
    go_enter Try.func26, Try.ntmps26
    go_wp2
    go_end0
    exact ⟨rfl, HC.out.said (by simp), Gr.refl _ _⟩

set_option maxHeartbeats 1000000 in
theorem into_any {B C M : Nat} {fs : List Fn} {w0 W : World} {nm : ByteArray} {t : Bool} (hc : Ck B C M fs w0 W nm t) {v : Value} {ps : List Bool} (hp : BRow C W v ps) (k : Nat) (z : Int) (hz : (k : Int) = z) (hk : k ≤ 9223372036854775807) (s : ByteArray) (hs : s.size ≤ 9223372036854775807) :
    Calls Try.prog 25 #[.pointer (some ⟨C, 0, none⟩), .string s, v, .int .i64 z] W fun e W' => e = .returned (.tuple #[]) ∧ Ck B C M fs w0 W' nm (t || (!greatB s && ps.getD k false)) ∧ Gr C W W' := by
  have HP := Lib.hid (public_any hc hp k z hz hk)
  clear hz
  have HS := Lib.hid (fun w1 => secret_any s w1 hs)
  have HC := Lib.hid hc
  clear hc hp
  obtain ⟨g, hg⟩ : ∃ g, greatB s = g := ⟨_, rfl⟩
  rw [hg] at HS ⊢
  clear hg
  cases g with
  | true =>
    go_enter Try.func25, Try.ntmps25
    go_wp2_with (go_at_call 20; ((with_reducible refine (HS.out _).mono ?_); rintro e w1 ⟨rfl, rfl⟩))
    go_end0
    exact ⟨rfl, HC.out.said (by simp), Gr.refl _ _⟩
  | false =>
    go_enter Try.func25, Try.ntmps25
    go_wp2_with (first
      | (go_at_call 20; ((with_reducible refine (HS.out _).mono ?_); rintro e w1 ⟨rfl, rfl⟩))
      | (go_at_call 26; ((with_reducible refine HP.out.mono ?_); rintro e w1 ⟨rfl, h1, h2⟩)))
    go_end0
    exact ⟨rfl, h1.said (by simp), h2⟩
end Go.Proofs.Ytacleafbjbhcgaa
