/-
  Texts PaC PaD PaN PaE PaF PaG: put together.
-/
import Derived.Test.YtaajolemjgdfnaaDoorPaP
import Derived.Test.YtaajolemjgdfnaaDoorPnQ
import Derived.WalkMore
import Derived.WalkLawsBesides
import Derived.Lib.Hide
import Derived.Deep.RegionHeld3
import Derived.Deep.DeepCutAuto
/-
  Package parse's reader in memory; what each of its small calls does.
-/
namespace Go.Proofs.YtaajolemjgdfnaaDoor
open Go Go.RowKit Go.Lib

/-- Tokens in a block of memory. -/
def Tk (W : World) (g : Nat) (T : List Tok) : Prop :=
  g < W.heap.size ∧ ∀ (i : Nat) (t : Tok), T[i]? = some t → W.cell? ⟨g, i * 3, none⟩ = some (.int .i64 t.kind) ∧ W.cell? ⟨g, i * 3 + 1, none⟩ = some (.string (baT t.text)) ∧ W.cell? ⟨g, i * 3 + 2, none⟩ = some (.int .i64 t.at_)
/-- What is so of tokens. -/
structure TokOk (T : List Tok) : Prop where
  len : T.length ≤ 65537
  one : ∀ (i : Nat) (t : Tok), T[i]? = some t → t.text.length ≤ 65536 ∧ t.at_ ≤ 65536 ∧ t.kind ≤ 4
  last : ∃ (b : List Tok) (p : Nat), T = b ++ [⟨4, [], p⟩] ∧ ∀ t ∈ b, t.kind ≠ 4
/-- The reader's box, and its tokens. -/
structure Rd (W : World) (rb g N cT : Nat) (T : List Tok) (i o : Nat) : Prop where
  c0 : W.cell? ⟨rb, 0, none⟩ = some (.slice (some ⟨g, 0, none⟩) N cT)
  c1 : W.cell? ⟨rb, 1, none⟩ = some (.int .i64 i)
  c2 : W.cell? ⟨rb, 2, none⟩ = some (.int .i64 o)
  fz : ∀ j, W.frozen? ⟨rb, j, none⟩ = false
  rlt : rb < W.heap.size
  tok : Tk W g T
  ne : g ≠ rb
  len : T.length = N
  lt : i < N
  small : o ≤ 256
  good : TokOk T

theorem lt_heap {W : World} {k : Nat} {o : Obj} (h : W.heap[k]? = some o) : k < W.heap.size := by
  rcases Nat.lt_or_ge k W.heap.size with h' | h'
  · exact h'
  · rw [Array.getElem?_eq_none h'] at h; cases h
theorem box_cell {W : World} {k : Nat} {cs : Array Value} {t : TypeId} {fz : Nat × Nat} (h : W.heap[k]? = some (.cells cs t fz)) (i : Nat) : W.cell? ⟨k, i, none⟩ = cs[i]? := by
  simp [World.cell?, h]
theorem box_frozen {W : World} {k : Nat} {cs : Array Value} {t : TypeId} (h : W.heap[k]? = some (.cells cs t)) (i : Nat) : W.frozen? ⟨k, i, none⟩ = false := by
  simp [World.frozen?, h]

theorem new_block (W : World) (o : Obj) : (W.alloc o).heap[W.heap.size]? = some o := heap_alloc_new W o
/-- What is left to be read. -/
theorem Rd.now {W : World} {rb g N cT i o : Nat} {T : List Tok} (h : Rd W rb g N cT T i o) : T[i]? = some (hdT (T.drop i)) := by
  have hl : i < T.length := by rw [h.len]; exact h.lt
  rw [List.getElem?_eq_getElem hl]
  unfold hdT
  rw [List.drop_eq_getElem_cons hl]
  rfl
theorem Tk.step {W W' : World} {g : Nat} {T : List Tok} (h : Tk W g T) (hs : W.heap.size ≤ W'.heap.size) (hb : W'.heap[g]? = W.heap[g]?) : Tk W' g T :=
  ⟨Nat.lt_of_lt_of_le h.1 hs, fun j t hj => by
    obtain ⟨a, b, c⟩ := h.2 j t hj
    have e : ∀ k, W'.cell? ⟨g, k, none⟩ = W.cell? ⟨g, k, none⟩ := fun k => World.cell?_of_block (a := ⟨g, k, none⟩) hb
    exact ⟨(e _).trans a, (e _).trans b, (e _).trans c⟩⟩
theorem Rd.below {W W' : World} {rb g N cT i o : Nat} {T : List Tok} (h : Rd W rb g N cT T i o) (hb : Below W.heap.size W W') : Rd W' rb g N cT T i o :=
  ⟨(hb.cell (p := ⟨rb, 0, none⟩) h.rlt).trans h.c0, (hb.cell (p := ⟨rb, 1, none⟩) h.rlt).trans h.c1, (hb.cell (p := ⟨rb, 2, none⟩) h.rlt).trans h.c2, fun j => (hb.frozen (p := ⟨rb, j, none⟩) h.rlt).trans (h.fz j),
    Nat.lt_of_lt_of_le h.rlt hb.size, h.tok.step hb.size (hb.block g h.tok.1), h.ne, h.len, h.lt, h.small, h.good⟩

/-- All that was there stays, but for the reader's box. -/
def Gr (rb : Nat) (W W' : World) : Prop := W.grownBy W' (some rb)
theorem Gr.of {rb : Nat} {W W' : World} (hb : Below W.heap.size W W') : Gr rb W W' := ⟨hb.os, hb.tape, hb.output, hb.size, fun k hk _ => hb.block k hk⟩
theorem Gr.size {rb : Nat} {W W' : World} (h : Gr rb W W') : W.heap.size ≤ W'.heap.size := World.grownBy.size h
theorem Gr.block {rb k : Nat} {W W' : World} (h : Gr rb W W') (hk : k < W.heap.size) (hne : k ≠ rb) : W'.heap[k]? = W.heap[k]? := World.grownBy.block h k hk (fun e => hne (Option.some.inj e))
theorem Gr.trans {rb : Nat} {W W' W'' : World} (h : Gr rb W W') (h' : Gr rb W' W'') : Gr rb W W'' :=
  ⟨(World.grownBy.os h').trans (World.grownBy.os h), (World.grownBy.tape h').trans (World.grownBy.tape h), (World.grownBy.output h').trans (World.grownBy.output h), Nat.le_trans h.size h'.size, fun k hk hne => (h'.block (Nat.lt_of_lt_of_le hk h.size) (fun e => hne (by rw [e]))).trans (h.block hk (fun e => hne (by rw [e])))⟩
theorem Gr.set {rb : Nat} {W : World} (j : Nat) (u : Value) : Gr rb W (W.setCell ⟨rb, j, none⟩ u) := ⟨rfl, rfl, rfl, by simp, fun k _ hk => Below.heap_setCell W ⟨rb, j, none⟩ u k (fun e => hk (by rw [e]))⟩
theorem Rd.next {W : World} {rb g N cT i o : Nat} {T : List Tok} (h : Rd W rb g N cT T i o) {i' : Nat} (hi : i' < N) : Rd (W.setCell ⟨rb, 1, none⟩ (.int .i64 i')) rb g N cT T i' o :=
  ⟨(World.cell?_setCell_other _ _ _ _ (by simp)).trans h.c0, World.cell?_setCell_same _ _ _ h.c1, (World.cell?_setCell_other _ _ _ _ (by simp)).trans h.c2, fun j => (World.frozen?_setCell _ _ _ _).trans (h.fz j),
    by simpa using h.rlt, h.tok.step (by simp) (Below.heap_setCell W ⟨rb, 1, none⟩ _ g h.ne), h.ne, h.len, hi, h.small, h.good⟩
theorem Rd.open_ {W : World} {rb g N cT i o : Nat} {T : List Tok} (h : Rd W rb g N cT T i o) {o' : Nat} (ho : o' ≤ 256) : Rd (W.setCell ⟨rb, 2, none⟩ (.int .i64 o')) rb g N cT T i o' :=
  ⟨(World.cell?_setCell_other _ _ _ _ (by simp)).trans h.c0, (World.cell?_setCell_other _ _ _ _ (by simp)).trans h.c1, World.cell?_setCell_same _ _ _ h.c2, fun j => (World.frozen?_setCell _ _ _ _).trans (h.fz j),
    by simpa using h.rlt, h.tok.step (by simp) (Below.heap_setCell W ⟨rb, 2, none⟩ _ g h.ne), h.ne, h.len, h.lt, ho, h.good⟩

set_option maxRecDepth 100000 in
theorem now_any {W : World} {rb g N cT i o : Nat} {T : List Tok} (h : Rd W rb g N cT T i o) (t : Tok) (ht : hdT (T.drop i) = t) :
    Calls Tryd.prog 56 #[.pointer (some ⟨rb, 0, none⟩)] W fun e w' => e = .returned (.agg #[.int .i64 t.kind, .string (baT t.text), .int .i64 t.at_]) ∧ Below W.heap.size W w' := by
  obtain ⟨k0, k1, k2⟩ := h.tok.2 i t (by rw [h.now, ht])
  have hgl := h.tok.1
  have hrl := h.rlt
  have hil := h.lt
  have HA : ∀ (C : Obj) (b j : Nat), b < W.heap.size → (W.alloc C).cell? ⟨b, j, none⟩ = W.cell? ⟨b, j, none⟩ := fun C b j hb => World.cell?_of_block (a := ⟨b, j, none⟩) (Below.heap_alloc W C b hb)
  have c0 : W.cell? ⟨rb, 0, none⟩ = some (.slice (some ⟨g, 0, none⟩) N cT) := h.c0
  have c1 : W.cell? ⟨rb, 1, none⟩ = some (.int .i64 i) := h.c1
  have hN : (N : Int) ≤ 65537 := by have := h.good.len; have := h.len; omega
  go_enter Tryd.func56, Tryd.ntmps56
  go_upto_region 1 with fail
  obtain ⟨w1, hw1⟩ : ∃ w1, W.alloc (.cells #[.int .i64 0, .string ⟨#[]⟩, .int .i64 0] 101) = w1 := ⟨_, rfl⟩
  have d0 : w1.cell? ⟨rb, 0, none⟩ = some (.slice (some ⟨g, 0, none⟩) N cT) := by rw [← hw1, HA _ _ _ hrl]; exact c0
  have d1 : w1.cell? ⟨rb, 1, none⟩ = some (.int .i64 i) := by rw [← hw1, HA _ _ _ hrl]; exact c1
  have e0 : w1.cell? ⟨g, i * 3, none⟩ = some (.int .i64 t.kind) := by rw [← hw1, HA _ _ _ hgl]; exact k0
  have e1 : w1.cell? ⟨g, i * 3 + 1, none⟩ = some (.string (baT t.text)) := by rw [← hw1, HA _ _ _ hgl]; exact k1
  have e2 : w1.cell? ⟨g, i * 3 + 2, none⟩ = some (.int .i64 t.at_) := by rw [← hw1, HA _ _ _ hgl]; exact k2
  have hb1 : Below W.heap.size W w1 := by rw [← hw1]; exact (Below.refl _ _).alloc (Nat.le_refl _) _
  have hn : w1.heap[W.heap.size]? = some (.cells #[.int .i64 0, .string ⟨#[]⟩, .int .i64 0] 101) := by rw [← hw1]; exact new_block _ _
  rw [hw1]
  clear hw1 HA
  obtain ⟨n, hnn⟩ : ∃ n, W.heap.size = n := ⟨_, rfl⟩
  rw [hnn] at hn hb1 hgl hrl ⊢
  have n0 : w1.cell? ⟨n, 0, none⟩ = some (.int .i64 0) := box_cell hn 0
  have n1 : w1.cell? ⟨n, 1, none⟩ = some (.string ⟨#[]⟩) := box_cell hn 1
  have n2 : w1.cell? ⟨n, 2, none⟩ = some (.int .i64 0) := box_cell hn 2
  have f0 := box_frozen hn 0
  have f1 := box_frozen hn 1
  have f2 := box_frozen hn 2
  go_region
  go_wp2
  refine bodyPost_ret (v := .agg #[.int .i64 t.kind, .string (baT t.text), .int .i64 t.at_]) ?_ rfl ⟨rfl, ?_⟩
  · simp [results, Tryd.results56, go_sem, n0, n1, n2]
  · rw [hnn]
    exact (((hb1.setCell (p := ⟨n, 0, none⟩) (Nat.le_refl _) _).setCell (p := ⟨n, 1, none⟩) (Nat.le_refl _) _).setCell (p := ⟨n, 2, none⟩) (Nat.le_refl _) _).trans ⟨rfl, rfl, rfl, Nat.le_refl _, fun _ _ => rfl⟩

theorem baT_toList (l : List UInt8) : (baT l).toList = l := by rw [ByteArray.toList_eq]; rfl
theorem beq_dec (a b : List UInt8) : (a == b) = decide (a = b) := by rw [Bool.eq_iff_iff]; simp
theorem run_tok0 (w : World) (k a : Int) (s : ByteArray) : (Instr.field 101 (.agg #[.int .i64 k, .string s, .int .i64 a]) 0).run Tryd.prog w = .ok (.int .i64 k) w := by kernel_rfl
theorem run_tok1 (w : World) (k a : Int) (s : ByteArray) : (Instr.field 101 (.agg #[.int .i64 k, .string s, .int .i64 a]) 1).run Tryd.prog w = .ok (.string s) w := by kernel_rfl
theorem run_tok2 (w : World) (k a : Int) (s : ByteArray) : (Instr.field 101 (.agg #[.int .i64 k, .string s, .int .i64 a]) 2).run Tryd.prog w = .ok (.int .i64 a) w := by kernel_rfl
attribute [local go_sem high] run_tok0 run_tok1 run_tok2

set_option maxRecDepth 100000 in
theorem is_any {W : World} {rb g N cT i o : Nat} {T : List Tok} (h : Rd W rb g N cT T i o) (s : List UInt8) (b : Bool) (hb : isT (T.drop i) s = b) :
    Calls Tryd.prog 53 #[.pointer (some ⟨rb, 0, none⟩), .string (baT s)] W fun e w' => e = .returned (.bool b) ∧ Below W.heap.size W w' := by
  have HN := now_any h _ rfl
  obtain ⟨t, ht⟩ : ∃ t, hdT (T.drop i) = t := ⟨_, rfl⟩
  unfold isT at hb
  rw [ht] at HN hb
  clear ht
  go_enter Tryd.func53, Tryd.ntmps53
  go_wp2_with (go_at_call 56; ((with_reducible refine HN.mono ?_); rintro e w1 ⟨rfl, h1⟩))
  go_ret
  refine ⟨?_, h1⟩
  show Ending.returned (.bool ((baT t.text).toList == (baT s).toList)) = _
  rw [baT_toList, baT_toList, ← hb, beq_dec]

/-- What is panicked with. -/
abbrev flt (p c : Nat) : Ending := .panicked [{ v := .iface 85 (.agg #[.int .i64 p, .int .i64 c]), recovered := false }]

set_option maxRecDepth 100000 in
theorem fail_any {W : World} {rb g N cT i o : Nat} {T : List Tok} (h : Rd W rb g N cT T i o) (c p : Nat) (c' : Int) (hc : c' = c) (hp : (hdT (T.drop i)).at_ = p) :
    Calls Tryd.prog 54 #[.pointer (some ⟨rb, 0, none⟩), .int .i64 c'] W fun e w' => e = flt p c ∧ Below W.heap.size W w' := by
  have HN := now_any h _ rfl
  obtain ⟨t, ht⟩ : ∃ t, hdT (T.drop i) = t := ⟨_, rfl⟩
  rw [ht] at HN hp
  clear ht
  subst hp hc
  go_enter Tryd.func54, Tryd.ntmps54
  go_wp2_with (go_at_call 56; ((with_reducible refine HN.mono ?_); rintro e w1 ⟨rfl, h1⟩))
  exact ⟨rfl, rfl, h1⟩

theorem last_end {T : List Tok} (h : TokOk T) {i : Nat} {t : Tok} (ht : T[i]? = some t) (hk : t.text ≠ [] ∨ t.kind ≠ 4) : i + 1 < T.length := by
  have hl := (List.getElem?_eq_some_iff.1 ht).1
  rcases Nat.lt_or_ge (i + 1) T.length with h1 | h1
  · exact h1
  · exfalso
    obtain ⟨b, p, e, _⟩ := h.last
    have hb : T.length = b.length + 1 := by rw [e]; simp
    have hi : i = b.length := by omega
    subst hi
    rw [e, List.getElem?_append_right (Nat.le_refl _), Nat.sub_self] at ht
    have := Option.some.inj ht
    subst this
    simp at hk
theorem Rd.more {W : World} {rb g N cT i o : Nat} {T : List Tok} (h : Rd W rb g N cT T i o) (hk : (hdT (T.drop i)).text ≠ [] ∨ (hdT (T.drop i)).kind ≠ 4) : i + 1 < N := by
  rw [← h.len]
  exact last_end h.good h.now hk
theorem Rd.end_ {W : World} {rb g N cT i o : Nat} {T : List Tok} (h : Rd W rb g N cT T i o) (hk : (hdT (T.drop i)).kind ≠ 4) : i + 1 < N := h.more (.inr hk)
theorem isT_ne {ts : List Tok} {s : List UInt8} (h : isT ts s = true) (hs : s ≠ []) : (hdT ts).text ≠ [] := by
  unfold isT at h
  rw [of_decide_eq_true h]
  exact hs
theorem drop_tail (T : List Tok) (i : Nat) : (T.drop i).tail = T.drop (i + 1) := by rw [List.tail_drop]

theorem step_num {i N : Nat} (h : i + 1 < N) (hN : N ≤ 65537) : IntKind.i64.wrap ((i : Int) + 1) = ((i + 1 : Nat) : Int) := by
  rw [IntWalk.i64_in _ (by omega)]
  rfl

set_option maxRecDepth 100000 in
theorem take_yes {W : World} {rb g N cT i o : Nat} {T : List Tok} (h : Rd W rb g N cT T i o) (s : List UInt8) (hs : s ≠ []) (hb : isT (T.drop i) s = true) :
    Calls Tryd.prog 75 #[.pointer (some ⟨rb, 0, none⟩), .string (baT s)] W fun e w' => e = .returned (.bool true) ∧ Rd w' rb g N cT T (i + 1) o ∧ Gr rb W w' := by
  have HI := is_any h s true hb
  have hm := h.more (.inl (isT_ne hb hs))
  have hw := step_num hm (by have := h.good.len; have := h.len; omega)
  have HR := Lib.hid (fun w1 (h1 : Below W.heap.size W w1) => h.below h1)
  have HC := Lib.hid (fun w1 (h1 : Below W.heap.size W w1) => (h.below h1).next hm)
  have c1 := fun w1 (h1 : Below W.heap.size W w1) => (h.below h1).c1
  have HC1 := Lib.hid c1
  have HF := Lib.hid (fun w1 (h1 : Below W.heap.size W w1) => (h.below h1).fz 1)
  clear c1 hb hm
  go_enter Tryd.func75, Tryd.ntmps75
  go_wp2_with (go_at_call 53; ((with_reducible refine HI.mono ?_); rintro e w1 ⟨rfl, h1⟩; have k1 := HC1.out w1 h1; have k2 := HF.out w1 h1))
  go_ret
  refine ⟨rfl, HC.out w1 h1, (Gr.of h1).trans (Gr.set 1 _)⟩

set_option maxRecDepth 100000 in
theorem take_no {W : World} {rb g N cT i o : Nat} {T : List Tok} (h : Rd W rb g N cT T i o) (s : List UInt8) (hb : isT (T.drop i) s = false) :
    Calls Tryd.prog 75 #[.pointer (some ⟨rb, 0, none⟩), .string (baT s)] W fun e w' => e = .returned (.bool false) ∧ Below W.heap.size W w' := by
  have HI := is_any h s false hb
  go_enter Tryd.func75, Tryd.ntmps75
  go_wp2_with (go_at_call 53; ((with_reducible refine HI.mono ?_); rintro e w1 ⟨rfl, h1⟩))
  go_ret
  exact ⟨rfl, h1⟩

set_option maxRecDepth 100000 in
theorem want_yes {W : World} {rb g N cT i o : Nat} {T : List Tok} (h : Rd W rb g N cT T i o) (s : List UInt8) (hs : s ≠ []) (hb : isT (T.drop i) s = true) :
    Calls Tryd.prog 68 #[.pointer (some ⟨rb, 0, none⟩), .string (baT s)] W fun e w' => e = .returned (.tuple #[]) ∧ Rd w' rb g N cT T (i + 1) o ∧ Gr rb W w' := by
  have HI := take_yes h s hs hb
  go_enter Tryd.func68, Tryd.ntmps68
  go_wp2_with (go_at_call 75; ((with_reducible refine HI.mono ?_); rintro e w1 ⟨rfl, h1, h2⟩))
  go_end0
  exact ⟨rfl, h1, h2⟩

set_option maxRecDepth 100000 in
theorem want_no {W : World} {rb g N cT i o : Nat} {T : List Tok} (h : Rd W rb g N cT T i o) (s : List UInt8) (hb : isT (T.drop i) s = false) (p : Nat) (hp : (hdT (T.drop i)).at_ = p) :
    Calls Tryd.prog 68 #[.pointer (some ⟨rb, 0, none⟩), .string (baT s)] W fun e w' => e = flt p 2 ∧ Below W.heap.size W w' := by
  have HI := take_no h s hb
  have HFL := Lib.hid (fun w1 (h1 : Below W.heap.size W w1) => fail_any (h.below h1) 2 p 2 rfl hp)
  go_enter Tryd.func68, Tryd.ntmps68
  go_wp2_with (first
    | (go_at_call 75; ((with_reducible refine HI.mono ?_); rintro e w1 ⟨rfl, h1⟩))
    | (go_at_call 54; ((with_reducible refine (HFL.out _ h1).mono ?_); rintro e w2 ⟨rfl, h2⟩)))
  exact ⟨rfl, rfl, h1.trans (h2.mono h1.size)⟩

set_option maxRecDepth 100000 in
theorem enter_yes {W : World} {rb g N cT i o : Nat} {T : List Tok} (h : Rd W rb g N cT T i o) (s : List UInt8) (hs : s ≠ []) (hb : isT (T.drop i) s = true) (ho : o < 256) :
    Calls Tryd.prog 76 #[.pointer (some ⟨rb, 0, none⟩), .string (baT s)] W fun e w' => e = .returned (.tuple #[]) ∧ Rd w' rb g N cT T (i + 1) (o + 1) ∧ Gr rb W w' := by
  have HI := is_any h s true hb
  have HWT := Lib.hid (fun w1 (h1 : Below W.heap.size W w1) => want_yes (h.below h1) s hs hb)
  have HC2 := Lib.hid (fun w1 (h1 : Below W.heap.size W w1) => (h.below h1).c2)
  have hno : ((o : Int) == 256) = false := by rw [beq_eq_false_iff_ne]; omega
  have hno' : decide ((o : Int) = 256) = false := decide_eq_false (by omega)
  have hwo : IntKind.i64.wrap ((o : Int) + 1) = ((o + 1 : Nat) : Int) := by rw [IntWalk.i64_in _ (by omega)]; rfl
  clear hb hs
  go_enter Tryd.func76, Tryd.ntmps76
  go_wp2_with (first
    | (go_at_call 53; ((with_reducible refine HI.mono ?_); rintro e w1 ⟨rfl, h1⟩; have k2 := HC2.out w1 h1))
    | (go_at_call 68; ((with_reducible refine (HWT.out _ h1).mono ?_); rintro e w2 ⟨rfl, h2, h3⟩; have k3 := h2.c2; have k4 := h2.fz 2)))
  go_end0
  refine ⟨rfl, h2.open_ (o' := o + 1) (by omega), (Gr.of h1).trans (h3.trans (Gr.set 2 _))⟩

set_option maxRecDepth 100000 in
theorem enter_deep {W : World} {rb g N cT i : Nat} {T : List Tok} (h : Rd W rb g N cT T i 256) (s : List UInt8) (hb : isT (T.drop i) s = true) (p : Nat) (hp : (hdT (T.drop i)).at_ = p) :
    Calls Tryd.prog 76 #[.pointer (some ⟨rb, 0, none⟩), .string (baT s)] W fun e w' => e = flt p 3 ∧ Below W.heap.size W w' := by
  have HI := is_any h s true hb
  have HFL := Lib.hid (fun w1 (h1 : Below W.heap.size W w1) => fail_any (h.below h1) 3 p 3 rfl hp)
  have HC2 := Lib.hid (fun w1 (h1 : Below W.heap.size W w1) => (show w1.cell? ⟨rb, 2, none⟩ = some (.int .i64 256) from (h.below h1).c2))
  go_enter Tryd.func76, Tryd.ntmps76
  go_wp2_with (first
    | (go_at_call 53; ((with_reducible refine HI.mono ?_); rintro e w1 ⟨rfl, h1⟩; have k2 := HC2.out w1 h1))
    | (go_at_call 54; ((with_reducible refine (HFL.out _ h1).mono ?_); rintro e w2 ⟨rfl, h2⟩)))
  exact ⟨rfl, rfl, h1.trans (h2.mono h1.size)⟩

set_option maxRecDepth 100000 in
theorem enter_no {W : World} {rb g N cT i o : Nat} {T : List Tok} (h : Rd W rb g N cT T i o) (s : List UInt8) (hb : isT (T.drop i) s = false) (p : Nat) (hp : (hdT (T.drop i)).at_ = p) :
    Calls Tryd.prog 76 #[.pointer (some ⟨rb, 0, none⟩), .string (baT s)] W fun e w' => e = flt p 2 ∧ Below W.heap.size W w' := by
  have HI := is_any h s false hb
  have HWT := Lib.hid (fun w1 (h1 : Below W.heap.size W w1) => want_no (h.below h1) s hb p hp)
  go_enter Tryd.func76, Tryd.ntmps76
  go_wp2_with (first
    | (go_at_call 53; ((with_reducible refine HI.mono ?_); rintro e w1 ⟨rfl, h1⟩))
    | (go_at_call 68; ((with_reducible refine (HWT.out _ h1).mono ?_); rintro e w2 ⟨rfl, h2⟩)))
  exact ⟨rfl, rfl, h1.trans (h2.mono h1.size)⟩

set_option maxRecDepth 100000 in
theorem leave_yes {W : World} {rb g N cT i o : Nat} {T : List Tok} (h : Rd W rb g N cT T i (o + 1)) (s : List UInt8) (hs : s ≠ []) (hb : isT (T.drop i) s = true) :
    Calls Tryd.prog 77 #[.pointer (some ⟨rb, 0, none⟩), .string (baT s)] W fun e w' => e = .returned (.tuple #[]) ∧ Rd w' rb g N cT T (i + 1) o ∧ Gr rb W w' := by
  have HWT := want_yes h s hs hb
  have hwo : IntKind.i64.wrap ((o + 1 : Nat) - 1) = (o : Int) := by have := h.small; rw [IntWalk.i64_in _ (by omega)]; omega
  have ho : o ≤ 256 := by have := h.small; omega
  clear hb hs
  go_enter Tryd.func77, Tryd.ntmps77
  go_wp2_with (go_at_call 68; ((with_reducible refine HWT.mono ?_); rintro e w2 ⟨rfl, h2, h3⟩; have k3 := h2.c2; have k4 := h2.fz 2))
  go_end0
  refine ⟨rfl, h2.open_ ho, h3.trans (Gr.set 2 _)⟩

set_option maxRecDepth 100000 in
theorem leave_no {W : World} {rb g N cT i o : Nat} {T : List Tok} (h : Rd W rb g N cT T i o) (s : List UInt8) (hb : isT (T.drop i) s = false) (p : Nat) (hp : (hdT (T.drop i)).at_ = p) :
    Calls Tryd.prog 77 #[.pointer (some ⟨rb, 0, none⟩), .string (baT s)] W fun e w' => e = flt p 2 ∧ Below W.heap.size W w' := by
  have HWT := want_no h s hb p hp
  go_enter Tryd.func77, Tryd.ntmps77
  go_wp2_with (go_at_call 68; ((with_reducible refine HWT.mono ?_); rintro e w2 ⟨rfl, h2⟩))
  exact ⟨rfl, rfl, h2⟩

end Go.Proofs.YtaajolemjgdfnaaDoor

/-
  Package parse: a name, a number, and which operation of two a mark is.
-/
namespace Go.Proofs.YtaajolemjgdfnaaDoor
open Go Go.RowKit Go.Lib
attribute [local go_sem high] run_tok0 run_tok1 run_tok2

theorem baT_size (l : List UInt8) : (baT l).size = l.length := by simp [baT, ByteArray.size]
theorem Rd.text {W : World} {rb g N cT i o : Nat} {T : List Tok} (h : Rd W rb g N cT T i o) : (baT (hdT (T.drop i)).text).size ≤ 9223372036854775807 := by
  have := (h.good.one i _ h.now).1
  rw [baT_size]
  omega

set_option maxRecDepth 100000 in
theorem name_yes {W : World} {rb g N cT i o : Nat} {T : List Tok} (h : Rd W rb g N cT T i o) (t : List UInt8) (ht : (hdT (T.drop i)).text = t) (hb : nameB (baT t) = true) :
    Calls Tryd.prog 69 #[.pointer (some ⟨rb, 0, none⟩)] W fun e w' => e = .returned (.string (baT t)) ∧ Rd w' rb g N cT T (i + 1) o ∧ Gr rb W w' := by
  have hne : (hdT (T.drop i)).text ≠ [] := by
    intro e
    rw [← ht, e] at hb
    revert hb
    decide +kernel
  have hm := h.more (.inl hne)
  have hw := step_num hm (by have := h.good.len; have := h.len; omega)
  have HN := now_any h _ rfl
  have hsz := h.text
  rw [ht] at hsz
  have HNM := Lib.hid (fun w1 => name_any (baT t) w1 hsz)
  rw [ht] at HN
  obtain ⟨k, hk⟩ : ∃ k, (hdT (T.drop i)).kind = k := ⟨_, rfl⟩
  obtain ⟨a, ha⟩ : ∃ a, (hdT (T.drop i)).at_ = a := ⟨_, rfl⟩
  rw [hk, ha] at HN
  have HC := Lib.hid (fun w1 (h1 : Below W.heap.size W w1) => (h.below h1).next hm)
  have HC1 := Lib.hid (fun w1 (h1 : Below W.heap.size W w1) => (h.below h1).c1)
  have HF := Lib.hid (fun w1 (h1 : Below W.heap.size W w1) => (h.below h1).fz 1)
  have hb' := hb
  clear hne hm hk ha ht hsz
  go_enter Tryd.func69, Tryd.ntmps69
  go_wp2_with (first
    | (go_at_call 56; ((with_reducible refine HN.mono ?_); rintro e w1 ⟨rfl, h1⟩; have k1 := HC1.out w1 h1; have k2 := HF.out w1 h1))
    | (go_at_call 11; ((with_reducible refine (HNM.out _).mono ?_); rintro e w2 ⟨rfl, rfl⟩)))
  go_ret
  exact ⟨rfl, HC.out w1 h1, (Gr.of h1).trans (Gr.set 1 _)⟩

set_option maxRecDepth 100000 in
theorem name_no {W : World} {rb g N cT i o : Nat} {T : List Tok} (h : Rd W rb g N cT T i o) (hb : nameB (baT (hdT (T.drop i)).text) = false) (p : Nat) (hp : (hdT (T.drop i)).at_ = p) :
    Calls Tryd.prog 69 #[.pointer (some ⟨rb, 0, none⟩)] W fun e w' => e = flt p 2 ∧ Below W.heap.size W w' := by
  have HN := now_any h _ rfl
  have hsz := h.text
  have HFL := Lib.hid (fun w1 (h1 : Below W.heap.size W w1) => fail_any (h.below h1) 2 p 2 rfl hp)
  obtain ⟨t, ht⟩ : ∃ t, hdT (T.drop i) = t := ⟨_, rfl⟩
  rw [ht] at HN hb hsz
  have HNM := Lib.hid (fun w1 => name_any (baT t.text) w1 hsz)
  clear ht hsz
  go_enter Tryd.func69, Tryd.ntmps69
  go_wp2_with (first
    | (go_at_call 56; ((with_reducible refine HN.mono ?_); rintro e w1 ⟨rfl, h1⟩))
    | (go_at_call 11; ((with_reducible refine (HNM.out _).mono ?_); rintro e w2 ⟨rfl, rfl⟩))
    | (go_at_call 54; ((with_reducible refine (HFL.out _ h1).mono ?_); rintro e w2 ⟨rfl, h2⟩)))
  exact ⟨rfl, rfl, h1.trans (h2.mono h1.size)⟩

attribute [local go_sem high] baT_toList
set_option maxRecDepth 100000 in
theorem oftwo_any (l : List UInt8) (w : World) :
    Calls Tryd.prog 89 #[.string (baT l)] w fun e w' => e = .returned (.tuple #[.int .i64 (opT l).1, .int .i64 (opT l).2]) ∧ w = w' := by
  by_cases h : l = [124] ∨ l = [38] ∨ l = [61, 61] ∨ l = [60] ∨ l = [43] ∨ l = [45] ∨ l = [42] ∨ l = [47] ∨ l = [37]
  · rcases h with rfl | rfl | rfl | rfl | rfl | rfl | rfl | rfl | rfl
    all_goals
      go_enter Tryd.func89, Tryd.ntmps89
      go_wp2
      go_ret2
      exact ⟨rfl, rfl⟩
  · simp only [not_or] at h
    obtain ⟨h1, h2, h3, h4, h5, h6, h7, h8, h9⟩ := h
    have e : opT l = (0, 0) := by simp [opT, h1, h2, h3, h4, h5, h6, h7, h8, h9]
    rw [e]
    have b1 : (l == [124]) = false := by simpa using h1
    have b2 : (l == [38]) = false := by simpa using h2
    have b3 : (l == [61, 61]) = false := by simpa using h3
    have b4 : (l == [60]) = false := by simpa using h4
    have b5 : (l == [43]) = false := by simpa using h5
    have b6 : (l == [45]) = false := by simpa using h6
    have b7 : (l == [42]) = false := by simpa using h7
    have b8 : (l == [47]) = false := by simpa using h8
    have b9 : (l == [37]) = false := by simpa using h9
    clear h1 h2 h3 h4 h5 h6 h7 h8 h9 e
    go_enter Tryd.func89, Tryd.ntmps89
    go_wp2
    go_ret2
    exact ⟨rfl, rfl⟩

end Go.Proofs.YtaajolemjgdfnaaDoor

/-
  Package parse: a number.
-/
namespace Go.Proofs.YtaajolemjgdfnaaDoor
open Go Go.RowKit Go.Lib
attribute [local go_sem high] run_tok0 run_tok1 run_tok2

theorem wparse_some {l : List UInt8} {n : Int} (w : World) (h : parseL l = some n) (hl : l.length ≤ 65536) : Calls Tryd.prog 84 #[.string (baT l)] w fun e w' => e = .returned (.tuple #[.int .i64 n, .bool true]) ∧ Below w.heap.size w w' :=
  (parse_any (baT l) w (by rw [baT_size]; omega)).mono fun e w' ⟨he, hb⟩ => by
    have e0 : (baT l).data.toList = l := rfl
    rw [e0, h] at he
    exact ⟨he, hb⟩
theorem wparse_none {l : List UInt8} (w : World) (h : parseL l = none) (hl : l.length ≤ 65536) : Calls Tryd.prog 84 #[.string (baT l)] w fun e w' => e = .returned (.tuple #[.int .i64 0, .bool false]) ∧ Below w.heap.size w w' :=
  (parse_any (baT l) w (by rw [baT_size]; omega)).mono fun e w' ⟨he, hb⟩ => by
    have e0 : (baT l).data.toList = l := rfl
    rw [e0, h] at he
    exact ⟨he, hb⟩

set_option maxRecDepth 100000 in
theorem num_kind {W : World} {rb g N cT i o : Nat} {T : List Tok} (h : Rd W rb g N cT T i o) (low high : Int) (hk : (hdT (T.drop i)).kind ≠ 2) (p : Nat) (hp : (hdT (T.drop i)).at_ = p) :
    Calls Tryd.prog 78 #[.pointer (some ⟨rb, 0, none⟩), .int .i64 low, .int .i64 high] W fun e w' => e = flt p 2 ∧ Below W.heap.size W w' := by
  have HN := now_any h _ rfl
  have HFL := Lib.hid (fun w1 (h1 : Below W.heap.size W w1) => fail_any (h.below h1) 2 p 2 rfl hp)
  obtain ⟨t, ht⟩ : ∃ t, hdT (T.drop i) = t := ⟨_, rfl⟩
  rw [ht] at HN hk
  have k1 : ((t.kind : Int) == 2) = false := by rw [beq_eq_false_iff_ne]; omega
  have k2 : ((t.kind : Int) != 2) = true := by rw [bne, k1]; rfl
  clear ht hk
  go_enter Tryd.func78, Tryd.ntmps78
  go_wp2_with (first
    | (go_at_call 56; ((with_reducible refine HN.mono ?_); rintro e w1 ⟨rfl, h1⟩))
    | (go_at_call 54; ((with_reducible refine (HFL.out _ h1).mono ?_); rintro e w2 ⟨rfl, h2⟩)))
  exact ⟨rfl, rfl, h1.trans (h2.mono h1.size)⟩

set_option maxRecDepth 100000 in
theorem num_none {W : World} {rb g N cT i o : Nat} {T : List Tok} (h : Rd W rb g N cT T i o) (low high : Int) (hk : (hdT (T.drop i)).kind = 2) (hn : parseL (hdT (T.drop i)).text = none) (p : Nat) (hp : (hdT (T.drop i)).at_ = p) :
    Calls Tryd.prog 78 #[.pointer (some ⟨rb, 0, none⟩), .int .i64 low, .int .i64 high] W fun e w' => e = flt p 1 ∧ Below W.heap.size W w' := by
  have HN := Lib.hid (fun w1 (h1 : Below W.heap.size W w1) => now_any (h.below h1) _ rfl)
  have HFL := Lib.hid (fun w1 (h1 : Below W.heap.size W w1) => fail_any (h.below h1) 1 p 1 rfl hp)
  have hsz := (h.good.one i _ h.now).1
  obtain ⟨t, ht⟩ : ∃ t, hdT (T.drop i) = t := ⟨_, rfl⟩
  rw [ht] at HN hk hn hsz
  have k1 : ((t.kind : Int) == 2) = true := by rw [hk]; rfl
  have k2 : ((t.kind : Int) != 2) = false := by rw [bne, k1]; rfl
  have HP := Lib.hid (fun w1 => wparse_none w1 hn hsz)
  clear ht hk hn hsz
  go_enter Tryd.func78, Tryd.ntmps78
  go_wp2_with (first
    | (go_at_call 56; ((with_reducible refine (HN.out _ (Below.refl _ _)).mono ?_); rintro e w1 ⟨rfl, h1⟩))
    | (go_at_call 56; ((with_reducible refine (HN.out _ h1).mono ?_); rintro e w2 ⟨rfl, h2⟩))
    | (go_at_call 84; ((with_reducible refine (HP.out _).mono ?_); rintro e w3 ⟨rfl, h3⟩; have h3 := h1.trans ((h2.trans (h3.mono h2.size)).mono h1.size)))
    | (go_at_call 54; ((with_reducible refine (HFL.out _ h3).mono ?_); rintro e w4 ⟨rfl, h4⟩)))
  exact ⟨rfl, rfl, h3.trans (h4.mono h3.size)⟩

set_option maxRecDepth 100000 in
theorem num_out {W : World} {rb g N cT i o : Nat} {T : List Tok} (h : Rd W rb g N cT T i o) (low high n : Int) (hk : (hdT (T.drop i)).kind = 2) (hn : parseL (hdT (T.drop i)).text = some n) (hr : n < low ∨ high < n) (p : Nat) (hp : (hdT (T.drop i)).at_ = p) :
    Calls Tryd.prog 78 #[.pointer (some ⟨rb, 0, none⟩), .int .i64 low, .int .i64 high] W fun e w' => e = flt p 1 ∧ Below W.heap.size W w' := by
  have HN := Lib.hid (fun w1 (h1 : Below W.heap.size W w1) => now_any (h.below h1) _ rfl)
  have HFL := Lib.hid (fun w1 (h1 : Below W.heap.size W w1) => fail_any (h.below h1) 1 p 1 rfl hp)
  have hsz := (h.good.one i _ h.now).1
  obtain ⟨t, ht⟩ : ∃ t, hdT (T.drop i) = t := ⟨_, rfl⟩
  rw [ht] at HN hk hn hsz
  have k1 : ((t.kind : Int) == 2) = true := by rw [hk]; rfl
  have k2 : ((t.kind : Int) != 2) = false := by rw [bne, k1]; rfl
  have HP := Lib.hid (fun w1 => wparse_some w1 hn hsz)
  clear ht hk hn hsz
  by_cases hl : n < low
  · have d1 : decide (n < low) = true := decide_eq_true hl
    go_enter Tryd.func78, Tryd.ntmps78
    go_wp2_with (first
      | (go_at_call 56; ((with_reducible refine (HN.out _ (Below.refl _ _)).mono ?_); rintro e w1 ⟨rfl, h1⟩))
      | (go_at_call 56; ((with_reducible refine (HN.out _ h1).mono ?_); rintro e w2 ⟨rfl, h2⟩))
      | (go_at_call 84; ((with_reducible refine (HP.out _).mono ?_); rintro e w3 ⟨rfl, h3⟩; have h3 := h1.trans ((h2.trans (h3.mono h2.size)).mono h1.size)))
      | (go_at_call 54; ((with_reducible refine (HFL.out _ h3).mono ?_); rintro e w4 ⟨rfl, h4⟩)))
    exact ⟨rfl, rfl, h3.trans (h4.mono h3.size)⟩
  · have d1 : decide (n < low) = false := decide_eq_false hl
    have d2 : decide (high < n) = true := decide_eq_true (by omega)
    clear hl hr
    go_enter Tryd.func78, Tryd.ntmps78
    go_wp2_with (first
      | (go_at_call 56; ((with_reducible refine (HN.out _ (Below.refl _ _)).mono ?_); rintro e w1 ⟨rfl, h1⟩))
      | (go_at_call 56; ((with_reducible refine (HN.out _ h1).mono ?_); rintro e w2 ⟨rfl, h2⟩))
      | (go_at_call 84; ((with_reducible refine (HP.out _).mono ?_); rintro e w3 ⟨rfl, h3⟩; have h3 := h1.trans ((h2.trans (h3.mono h2.size)).mono h1.size)))
      | (go_at_call 54; ((with_reducible refine (HFL.out _ h3).mono ?_); rintro e w4 ⟨rfl, h4⟩)))
    exact ⟨rfl, rfl, h3.trans (h4.mono h3.size)⟩

set_option maxRecDepth 100000 in
theorem num_yes {W : World} {rb g N cT i o : Nat} {T : List Tok} (h : Rd W rb g N cT T i o) (low high n : Int) (hk : (hdT (T.drop i)).kind = 2) (hn : parseL (hdT (T.drop i)).text = some n) (hr : low ≤ n ∧ n ≤ high) :
    Calls Tryd.prog 78 #[.pointer (some ⟨rb, 0, none⟩), .int .i64 low, .int .i64 high] W fun e w' => e = .returned (.int .i64 n) ∧ Rd w' rb g N cT T (i + 1) o ∧ Gr rb W w' := by
  have hm := h.end_ (by rw [hk]; decide)
  have hw := step_num hm (by have := h.good.len; have := h.len; omega)
  have HN := Lib.hid (fun w1 (h1 : Below W.heap.size W w1) => now_any (h.below h1) _ rfl)
  have HC := Lib.hid (fun w1 (h1 : Below W.heap.size W w1) => (h.below h1).next hm)
  have HC1 := Lib.hid (fun w1 (h1 : Below W.heap.size W w1) => (h.below h1).c1)
  have HF := Lib.hid (fun w1 (h1 : Below W.heap.size W w1) => (h.below h1).fz 1)
  have hsz := (h.good.one i _ h.now).1
  obtain ⟨t, ht⟩ : ∃ t, hdT (T.drop i) = t := ⟨_, rfl⟩
  rw [ht] at HN hk hn hsz
  have k1 : ((t.kind : Int) == 2) = true := by rw [hk]; rfl
  have k2 : ((t.kind : Int) != 2) = false := by rw [bne, k1]; rfl
  have HP := Lib.hid (fun w1 => wparse_some w1 hn hsz)
  have d1 : decide (n < low) = false := decide_eq_false (by omega)
  have d2 : decide (high < n) = false := decide_eq_false (by omega)
  clear ht hk hn hsz hm hr
  go_enter Tryd.func78, Tryd.ntmps78
  go_wp2_with (first
    | (go_at_call 56; ((with_reducible refine (HN.out _ (Below.refl _ _)).mono ?_); rintro e w1 ⟨rfl, h1⟩))
    | (go_at_call 56; ((with_reducible refine (HN.out _ h1).mono ?_); rintro e w2 ⟨rfl, h2⟩))
    | (go_at_call 84; ((with_reducible refine (HP.out _).mono ?_); rintro e w3 ⟨rfl, h3⟩; have h3 := h1.trans ((h2.trans (h3.mono h2.size)).mono h1.size); have q1 := HC1.out w3 h3; have q2 := HF.out w3 h3)))
  go_ret
  exact ⟨rfl, HC.out w3 h3, (Gr.of h3).trans (Gr.set 1 _)⟩

end Go.Proofs.YtaajolemjgdfnaaDoor

/-
  What a call of the reader's makes: it lies in blocks of the call's own; what stays of it.
-/
namespace Go.Proofs.YtaajolemjgdfnaaDoor
open Go Go.RowKit Go.Lib

theorem ES.In.ext {B B' : Nat} {W W' : World} (hB : B ≤ B') (h : ∀ b j v, b < B → W.cell? ⟨b, j, none⟩ = some v → W'.cell? ⟨b, j, none⟩ = some v) : ∀ {l : ES} {b o : Nat}, b < B → l.In B W b o → l.In B' W' b o
  | .nil, _, _, _, _ => trivial
  | .cons _ _ _ _ _, _, _, hb, ⟨h0, h1, h2, ⟨v, h3, hl⟩, h4, hr⟩ =>
    ⟨h _ _ _ hb h0, h _ _ _ hb h1, h _ _ _ hb h2, ⟨v, h _ _ _ hb h3, hl.imp hB fun _ _ hb' hp => ES.In.ext hB h hb' hp⟩, h4, ES.In.ext hB h hb hr⟩
theorem SS.In.ext {B B' : Nat} {W W' : World} (hB : B ≤ B') (h : ∀ b j v, b < B → W.cell? ⟨b, j, none⟩ = some v → W'.cell? ⟨b, j, none⟩ = some v) : ∀ {l : SS} {b o : Nat}, b < B → l.In B W b o → l.In B' W' b o
  | .nil, _, _, _, _ => trivial
  | .cons _ _ _ _ _ _ _, _, _, hb, ⟨h0, h1, h2, ⟨v, h3, hl⟩, ⟨v', h3', hx⟩, ⟨v'', h3'', hy⟩, h4, hr⟩ =>
    ⟨h _ _ _ hb h0, h _ _ _ hb h1, h _ _ _ hb h2, ⟨v, h _ _ _ hb h3, hl.imp hB fun _ _ hb' hp => ES.In.ext hB h hb' hp⟩,
      ⟨v', h _ _ _ hb h3', hx.imp hB fun _ _ hb' hp => SS.In.ext hB h hb' hp⟩, ⟨v'', h _ _ _ hb h3'', hy.imp hB fun _ _ hb' hp => SS.In.ext hB h hb' hp⟩, h4, SS.In.ext hB h hb hr⟩

/-- The world without the blocks below lo. -/
def er (lo : Nat) (W : World) : World := { W with heap := W.heap.mapIdx fun k o => if k < lo then .cells #[] 0 else o }
theorem er_cell (lo : Nat) (W : World) (b j : Nat) : (er lo W).cell? ⟨b, j, none⟩ = if b < lo then none else W.cell? ⟨b, j, none⟩ := by
  by_cases h : b < lo
  · rw [if_pos h]
    cases hw : W.heap[b]? with
    | none => simp [er, World.cell?, hw]
    | some o => simp [er, World.cell?, hw, h]
  · rw [if_neg h]
    cases hw : W.heap[b]? with
    | none => simp [er, World.cell?, hw]
    | some o => simp [er, World.cell?, hw, h]

/-- All blocks from lo on stay. -/
structure Kp (lo : Nat) (W W' : World) : Prop where
  size : W.heap.size ≤ W'.heap.size
  block : ∀ k, lo ≤ k → k < W.heap.size → W'.heap[k]? = W.heap[k]?
theorem Kp.refl (lo : Nat) (W : World) : Kp lo W W := ⟨Nat.le_refl _, fun _ _ _ => rfl⟩
theorem Kp.trans {lo : Nat} {W W' W'' : World} (h : Kp lo W W') (h' : Kp lo W' W'') : Kp lo W W'' := ⟨Nat.le_trans h.size h'.size, fun k hk hl => (h'.block k hk (Nat.lt_of_lt_of_le hl h.size)).trans (h.block k hk hl)⟩
theorem Kp.below {lo : Nat} {W W' : World} (h : Below W.heap.size W W') : Kp lo W W' := ⟨h.size, fun k _ hl => h.block k hl⟩
theorem Kp.gr {lo rb : Nat} {W W' : World} (h : Gr rb W W') (hr : rb < lo) : Kp lo W W' := ⟨h.size, fun k hk hl => h.block hl (by omega)⟩
theorem Kp.set {lo b j : Nat} {W : World} (u : Value) (hb : b < lo) : Kp lo W (W.setCell ⟨b, j, none⟩ u) := ⟨by simp, fun k hk _ => Below.heap_setCell W ⟨b, j, none⟩ u k (show k ≠ b by omega)⟩
theorem Kp.drew {lo : Nat} {W : World} : Kp lo W W.drew := ⟨Nat.le_refl _, fun _ _ _ => rfl⟩
theorem er_ext {lo lo' : Nat} {W W' : World} (h : Kp lo W W') (hl : lo' ≤ lo) : ∀ b j v, b < W.heap.size → (er lo W).cell? ⟨b, j, none⟩ = some v → (er lo' W').cell? ⟨b, j, none⟩ = some v := by
  intro b j v hb hc
  rw [er_cell] at hc ⊢
  by_cases e : b < lo
  · rw [if_pos e] at hc; cases hc
  · rw [if_neg e] at hc
    rw [if_neg (by omega), World.cell?_of_block (a := ⟨b, j, none⟩) (h.block b (by omega) hb)]
    exact hc

abbrev EX (lo : Nat) (W : World) (v : Value) (l : ES) : Prop := EV W.heap.size (er lo W) v l
abbrev SX (lo : Nat) (W : World) (v : Value) (l : SS) : Prop := SV W.heap.size (er lo W) v l
theorem EX.kp {lo lo' : Nat} {W W' : World} {v : Value} {l : ES} (hv : EX lo W v l) (h : Kp lo W W') (hl : lo' ≤ lo) : EX lo' W' v l := RowV.imp hv h.size fun _ _ hb hp => ES.In.ext h.size (er_ext h hl) hb hp
theorem SX.kp {lo lo' : Nat} {W W' : World} {v : Value} {l : SS} (hv : SX lo W v l) (h : Kp lo W W') (hl : lo' ≤ lo) : SX lo' W' v l := RowV.imp hv h.size fun _ _ hb hp => SS.In.ext h.size (er_ext h hl) hb hp
theorem ex_nil (lo : Nat) (W : World) : EX lo W (.slice none 0 0) .nil := ⟨none, 0, rfl, Nat.le_refl _, by decide, fun h => by simp [ES.len] at h⟩
theorem sx_nil (lo : Nat) (W : World) : SX lo W (.slice none 0 0) .nil := ⟨none, 0, rfl, Nat.le_refl _, by decide, fun h => by simp [SS.len] at h⟩

/-- What can be an expression's cells. -/
def okE (e : Ex) : Prop := I64 e.op ∧ I64 e.n ∧ e.s.size ≤ 9223372036854775807
theorem i64_0 : I64 0 := by unfold I64; omega
theorem okE_of {op : Int} {l : ES} (h : I64 op) : okE ⟨op, 0, nilS, l⟩ := ⟨h, i64_0, by show nilS.size ≤ _; decide⟩
/-- An expression's value. -/
def XV (lo : Nat) (W : World) (v : Value) (e : Ex) : Prop := ∃ vl, v = .agg #[.int .i64 e.op, .int .i64 e.n, .string e.s, vl] ∧ EX lo W vl e.l ∧ okE e
theorem XV.kp {lo lo' : Nat} {W W' : World} {v : Value} {e : Ex} (hv : XV lo W v e) (h : Kp lo W W') (hl : lo' ≤ lo) : XV lo' W' v e := by
  obtain ⟨vl, e1, h1, h2⟩ := hv
  exact ⟨vl, e1, h1.kp h hl, h2⟩
theorem er_at {lo n j : Nat} {W : World} {cs : Array Value} {t : TypeId} {u : Value} (hc : W.heap[n]? = some (.cells cs t)) (hl : lo ≤ n) (hu : cs[j]? = some u) : (er lo W).cell? ⟨n, j, none⟩ = some u := by
  rw [er_cell, if_neg (by omega), box_cell hc, hu]
/-- One expression; two. -/
theorem ex_one {lo n : Nat} {W : World} {e : Ex} {vl : Value} {t : TypeId} (hc : W.heap[n]? = some (.cells #[.int .i64 e.op, .int .i64 e.n, .string e.s, vl] t)) (hl : lo ≤ n) (hv : EX lo W vl e.l) (ho : okE e) : EX lo W (.slice (some ⟨n, 0, none⟩) 1 1) (toES e .nil) :=
  ⟨some ⟨n, 0, none⟩, 1, rfl, Nat.le_refl _, by decide, fun _ => ⟨n, 0, rfl, lt_heap hc, er_at hc hl rfl, er_at hc hl rfl, er_at hc hl rfl, ⟨vl, er_at hc hl rfl, hv⟩, ho, trivial⟩⟩
theorem ex_two {lo n : Nat} {W : World} {e e' : Ex} {vl vl' : Value} {t : TypeId} (hc : W.heap[n]? = some (.cells #[.int .i64 e.op, .int .i64 e.n, .string e.s, vl, .int .i64 e'.op, .int .i64 e'.n, .string e'.s, vl'] t)) (hl : lo ≤ n) (hv : EX lo W vl e.l) (ho : okE e) (hv' : EX lo W vl' e'.l) (ho' : okE e') :
    EX lo W (.slice (some ⟨n, 0, none⟩) 2 2) (toES e (toES e' .nil)) :=
  ⟨some ⟨n, 0, none⟩, 2, rfl, Nat.le_refl _, by decide, fun _ => ⟨n, 0, rfl, lt_heap hc, er_at hc hl rfl, er_at hc hl rfl, er_at hc hl rfl, ⟨vl, er_at hc hl rfl, hv⟩, ho, er_at hc hl rfl, er_at hc hl rfl, er_at hc hl rfl, ⟨vl', er_at hc hl rfl, hv'⟩, ho', trivial⟩⟩

/-- The reader, wherever another block is written to. -/
theorem Rd.set {W : World} {rb g N cT i o b j : Nat} {T : List Tok} (h : Rd W rb g N cT T i o) (u : Value) (hb : b ≠ rb) (hg : b ≠ g) : Rd (W.setCell ⟨b, j, none⟩ u) rb g N cT T i o :=
  ⟨(World.cell?_setCell_other _ _ _ _ (fun e => hb (congrArg Addr.block e))).trans h.c0, (World.cell?_setCell_other _ _ _ _ (fun e => hb (congrArg Addr.block e))).trans h.c1, (World.cell?_setCell_other _ _ _ _ (fun e => hb (congrArg Addr.block e))).trans h.c2, fun k => (World.frozen?_setCell _ _ _ _).trans (h.fz k),
    by simpa using h.rlt, h.tok.step (by simp) (Below.heap_setCell W ⟨b, j, none⟩ u g (Ne.symm hg)), h.ne, h.len, h.lt, h.small, h.good⟩
theorem Rd.alloc {W : World} {rb g N cT i o : Nat} {T : List Tok} (h : Rd W rb g N cT T i o) (c : Obj) : Rd (W.alloc c) rb g N cT T i o := h.below ((Below.refl _ _).alloc (Nat.le_refl _) c)
theorem Rd.drew {W : World} {rb g N cT i o : Nat} {T : List Tok} (h : Rd W rb g N cT T i o) : Rd W.drew rb g N cT T i o := h.below ⟨rfl, rfl, rfl, Nat.le_refl _, fun _ _ => rfl⟩
theorem Gr.setNew {rb b j : Nat} {W W' : World} (h : Gr rb W W') (u : Value) (hb : W.heap.size ≤ b) : Gr rb W (W'.setCell ⟨b, j, none⟩ u) :=
  ⟨(show W'.os = W.os from World.grownBy.os h), (show W'.tape = W.tape from World.grownBy.tape h), (show W'.output = W.output from World.grownBy.output h), by simpa using h.size, fun k hk hne => (Below.heap_setCell W' ⟨b, j, none⟩ u k (show k ≠ b by omega)).trans (h.block hk (fun e => hne (by rw [e])))⟩
theorem Gr.alloc {rb : Nat} {W W' : World} (h : Gr rb W W') (c : Obj) : Gr rb W (W'.alloc c) := h.trans (Gr.of ((Below.refl _ _).alloc (Nat.le_refl _) c))
theorem Gr.drew {rb : Nat} {W W' : World} (h : Gr rb W W') : Gr rb W W'.drew := h.trans (Gr.of ⟨rfl, rfl, rfl, Nat.le_refl _, fun _ _ => rfl⟩)
theorem Gr.refl (rb : Nat) (W : World) : Gr rb W W := Gr.of (Below.refl _ _)

/-- Four cells that are stored one behind the other. -/
def put4 (W : World) (n : Nat) (a b c d : Value) : World := (((W.setCell ⟨n, 0, none⟩ a).setCell ⟨n, 1, none⟩ b).setCell ⟨n, 2, none⟩ c).setCell ⟨n, 3, none⟩ d
theorem Rd.put4 {W : World} {rb g N cT i o n : Nat} {T : List Tok} {a b c d : Value} (h : Rd W rb g N cT T i o) (hb : n ≠ rb) (hg : n ≠ g) : Rd (put4 W n a b c d) rb g N cT T i o := (((h.set a hb hg).set b hb hg).set c hb hg).set d hb hg
theorem Gr.put4 {rb n : Nat} {W W' : World} {a b c d : Value} (h : Gr rb W W') (hb : W.heap.size ≤ n) : Gr rb W (put4 W' n a b c d) := (((h.setNew a hb).setNew b hb).setNew c hb).setNew d hb
theorem Kp.put4 {lo n : Nat} {W : World} {a b c d : Value} (hb : n < lo) : Kp lo W (put4 W n a b c d) := (((Kp.set a hb).trans (Kp.set b hb)).trans (Kp.set c hb)).trans (Kp.set d hb)
theorem put4_cells {W : World} {n : Nat} {a b c d x y z u : Value} {t : TypeId} (h : W.heap[n]? = some (.cells #[x, y, z, u] t)) :
    (put4 W n a b c d).cell? ⟨n, 0, none⟩ = some a ∧ (put4 W n a b c d).cell? ⟨n, 1, none⟩ = some b ∧ (put4 W n a b c d).cell? ⟨n, 2, none⟩ = some c ∧ (put4 W n a b c d).cell? ⟨n, 3, none⟩ = some d := by
  have h0 : W.cell? ⟨n, 0, none⟩ = some x := box_cell h 0
  have h1 : W.cell? ⟨n, 1, none⟩ = some y := box_cell h 1
  have h2 : W.cell? ⟨n, 2, none⟩ = some z := box_cell h 2
  have h3 : W.cell? ⟨n, 3, none⟩ = some u := box_cell h 3
  have ne : ∀ p q : Nat, p ≠ q → (⟨n, p, none⟩ : Addr) ≠ ⟨n, q, none⟩ := fun p q hpq e => hpq (congrArg Addr.off e)
  have ot : ∀ {V : World} {p q : Nat} {v : Value}, p ≠ q → (V.setCell ⟨n, p, none⟩ v).cell? ⟨n, q, none⟩ = V.cell? ⟨n, q, none⟩ := fun hpq => World.cell?_setCell_other _ _ _ _ (ne _ _ hpq)
  unfold put4
  refine ⟨?_, ?_, ?_, ?_⟩
  · rw [ot (by decide), ot (by decide), ot (by decide)]; exact World.cell?_setCell_same _ _ _ h0
  · rw [ot (by decide), ot (by decide)]; exact World.cell?_setCell_same (u := y) _ _ _ (by rw [ot (by decide)]; exact h1)
  · rw [ot (by decide)]; exact World.cell?_setCell_same (u := z) _ _ _ (by rw [ot (by decide), ot (by decide)]; exact h2)
  · exact World.cell?_setCell_same (u := u) _ _ _ (by rw [ot (by decide), ot (by decide), ot (by decide)]; exact h3)

/-- What a call that reads an expression has done. -/
def XP (rb g N cT o : Nat) (T : List Tok) (W : World) (x : PR Ex) (e : Ending) (W' : World) : Prop :=
  match x with
  | .ok v r => (∃ vv, e = .returned vv ∧ XV W.heap.size W' vv v) ∧ (∃ i, Rd W' rb g N cT T i o ∧ T.drop i = r) ∧ Gr rb W W'
  | .bad p c => e = flt p c ∧ Gr rb W W'
  | .out => True

end Go.Proofs.YtaajolemjgdfnaaDoor

/-
  Package parse: an operation of one, and an expression in brackets.
-/
namespace Go.Proofs.YtaajolemjgdfnaaDoor
open Go Go.RowKit Go.Lib

set_option maxRecDepth 100000 in
theorem one_yes {W : World} {rb g N cT i o : Nat} {T : List Tok} (h : Rd W rb g N cT T i o) (op : Int) (hop : I64 op) (s : List UInt8) (hs : s ≠ []) (hb : isT (T.drop i) s = true) (ho : o < 256) (v : Ex) (r : List Tok)
    (HS : ∀ W2, Rd W2 rb g N cT T (i + 1) (o + 1) → Calls Tryd.prog 88 #[.pointer (some ⟨rb, 0, none⟩)] W2 (XP rb g N cT (o + 1) T W2 (.ok v r))) :
    Calls Tryd.prog 90 #[.pointer (some ⟨rb, 0, none⟩), .int .i64 op, .string (baT s)] W (XP rb g N cT o T W (.ok ⟨op, 0, nilS, toES v .nil⟩ r)) := by
  have HE := Lib.hid (fun W1 (h1 : Rd W1 rb g N cT T i o) => enter_yes h1 s hs hb ho)
  have HSS := Lib.hid HS
  have HR := Lib.hid h
  have hrl := h.rlt
  have hgl := h.tok.1
  clear HS h hb
  go_enter Tryd.func90, Tryd.ntmps90
  go_upto_region 3 with (first
    | (go_at_call 76; ((with_reducible refine (HE.out _ (HR.out.alloc _)).mono ?_); rintro e w1 ⟨rfl, h1, g1⟩))
    | (go_at_call 88; ((with_reducible refine (HSS.out _ h1).mono ?_); rintro e w2 ⟨⟨vv, rfl, vl, rfl, hv, hok⟩, ⟨i', h2, hd⟩, g2⟩)))
  have z1 := g1.size
  have z2 := g2.size
  rw [World.size_alloc] at z1
  have B6 : w2.heap[W.heap.size]? = some (.cells #[.int .i64 0, .int .i64 0, .string ⟨#[]⟩, .slice none 0 0] 43) :=
    (g2.block (by omega) (by omega)).trans ((g1.block (by simp) (by omega)).trans (heap_alloc_new W _))
  have hA := heap_alloc_new w2 (.cells #[.int .i64 v.op, .int .i64 v.n, .string v.s, vl] 43)
  have hB := heap_alloc_new (w2.alloc (.cells #[.int .i64 v.op, .int .i64 v.n, .string v.s, vl] 43)) (.cells #[.int .i64 op, .int .i64 0, .string ⟨#[]⟩, .slice (some ⟨w2.heap.size, 0, none⟩) 1 1] 43)
  rw [World.size_alloc] at hB
  have hA := (Below.heap_alloc _ (.cells #[.int .i64 op, .int .i64 0, .string ⟨#[]⟩, .slice (some ⟨w2.heap.size, 0, none⟩) 1 1] 43) w2.heap.size (by simp)).trans hA
  have hb3 : Below w2.heap.size w2 ((w2.alloc (.cells #[.int .i64 v.op, .int .i64 v.n, .string v.s, vl] 43)).alloc (.cells #[.int .i64 op, .int .i64 0, .string ⟨#[]⟩, .slice (some ⟨w2.heap.size, 0, none⟩) 1 1] 43)) := ((Below.refl _ _).alloc (Nat.le_refl _) _).alloc (by simp) _
  obtain ⟨w3, hw3⟩ : ∃ W3, (w2.alloc (.cells #[.int .i64 v.op, .int .i64 v.n, .string v.s, vl] 43)).alloc (.cells #[.int .i64 op, .int .i64 0, .string ⟨#[]⟩, .slice (some ⟨w2.heap.size, 0, none⟩) 1 1] 43) = W3 := ⟨_, rfl⟩
  rw [hw3] at hA hB hb3 ⊢
  clear hw3
  have h3 := h2.below hb3
  have B6 := (hb3.block _ (by omega)).trans B6
  have hEX : EX (W.heap.size + 1) w3 (.slice (some ⟨w2.heap.size, 0, none⟩) 1 1) (toES v .nil) := ex_one hA (by omega) (hv.kp (Kp.below hb3) (by omega)) hok
  have k2 := h3.c2
  have k4 := h3.fz 2
  have hwo : IntKind.i64.wrap ((o + 1 : Nat) - 1) = (o : Int) := by have := h3.small; rw [IntWalk.i64_in _ (by omega)]; omega
  go_upto_region 4 with fail
  have h4 := h3.open_ (o' := o) (by omega)
  have g4 : Gr rb W (w3.setCell ⟨rb, 2, none⟩ (.int .i64 o)) := ((Gr.refl rb W).alloc _).trans (g1.trans (g2.trans ((Gr.of hb3).trans (Gr.set 2 _))))
  have hK : Kp (W.heap.size + 1) w3 (w3.setCell ⟨rb, 2, none⟩ (.int .i64 o)) := Kp.set _ (by omega)
  have hs4 : (w3.setCell ⟨rb, 2, none⟩ (.int .i64 o)).heap.size = w3.heap.size := by simp
  have B7 := (Below.heap_setCell w3 ⟨rb, 2, none⟩ (.int .i64 o) (w2.heap.size + 1) (show w2.heap.size + 1 ≠ rb by omega)).trans hB
  have B6 := (Below.heap_setCell w3 ⟨rb, 2, none⟩ (.int .i64 o) W.heap.size (show W.heap.size ≠ rb by omega)).trans B6
  obtain ⟨w4, hw4⟩ : ∃ W4, w3.setCell ⟨rb, 2, none⟩ (.int .i64 o) = W4 := ⟨_, rfl⟩
  rw [hw4] at h4 g4 hK B7 B6 hs4 ⊢
  have c70 : w4.cell? ⟨w2.heap.size + 1, 0, none⟩ = some (.int .i64 op) := box_cell B7 0
  have c71 : w4.cell? ⟨w2.heap.size + 1, 1, none⟩ = some (.int .i64 0) := box_cell B7 1
  have c72 : w4.cell? ⟨w2.heap.size + 1, 2, none⟩ = some (.string ⟨#[]⟩) := box_cell B7 2
  have c73 : w4.cell? ⟨w2.heap.size + 1, 3, none⟩ = some (.slice (some ⟨w2.heap.size, 0, none⟩) 1 1) := box_cell B7 3
  have c60 : w4.cell? ⟨W.heap.size, 0, none⟩ = some (.int .i64 0) := box_cell B6 0
  have c61 : w4.cell? ⟨W.heap.size, 1, none⟩ = some (.int .i64 0) := box_cell B6 1
  have c62 : w4.cell? ⟨W.heap.size, 2, none⟩ = some (.string ⟨#[]⟩) := box_cell B6 2
  have c63 : w4.cell? ⟨W.heap.size, 3, none⟩ = some (.slice none 0 0) := box_cell B6 3
  have f60 := box_frozen B6 0
  have f61 := box_frozen B6 1
  have f62 := box_frozen B6 2
  have f63 := box_frozen B6 3
  have hP := put4_cells (a := .int .i64 op) (b := .int .i64 0) (c := .string ⟨#[]⟩) (d := .slice (some ⟨w2.heap.size, 0, none⟩) 1 1) B6
  have hfin : XP rb g N cT o T W (.ok ⟨op, 0, nilS, toES v .nil⟩ r) (.returned (.agg #[.int .i64 op, .int .i64 0, .string ⟨#[]⟩, .slice (some ⟨w2.heap.size, 0, none⟩) 1 1])) (put4 w4 W.heap.size (.int .i64 op) (.int .i64 0) (.string ⟨#[]⟩) (.slice (some ⟨w2.heap.size, 0, none⟩) 1 1)) :=
    ⟨⟨_, rfl, _, rfl, hEX.kp (hK.trans (Kp.put4 (Nat.lt_succ_self _))) (Nat.le_succ _), okE_of hop⟩, ⟨i', h4.put4 (by omega) (by omega), hd⟩, g4.put4 (Nat.le_refl _)⟩
  go_wp2
  obtain ⟨p0, p1, p2, p3⟩ := hP
  obtain ⟨w5, hw5⟩ : ∃ W5, put4 w4 W.heap.size (.int .i64 op) (.int .i64 0) (.string ⟨#[]⟩) (.slice (some ⟨w2.heap.size, 0, none⟩) 1 1) = W5 := ⟨_, rfl⟩
  show bodyPost _ _ _ _ _ (put4 w4 W.heap.size (.int .i64 op) (.int .i64 0) (.string ⟨#[]⟩) (.slice (some ⟨w2.heap.size, 0, none⟩) 1 1))
  rw [hw5] at p0 p1 p2 p3 hfin ⊢
  exact bodyPost_ret (v := .agg #[.int .i64 op, .int .i64 0, .string ⟨#[]⟩, .slice (some ⟨w2.heap.size, 0, none⟩) 1 1]) (by simp [results, Tryd.results90, go_sem, p0, p1, p2, p3]) rfl hfin

set_option maxRecDepth 100000 in
theorem one_bad {W : World} {rb g N cT i o : Nat} {T : List Tok} (h : Rd W rb g N cT T i o) (op : Int) (s : List UInt8) (hs : s ≠ []) (hb : isT (T.drop i) s = true) (ho : o < 256) (p c : Nat)
    (HS : ∀ W2, Rd W2 rb g N cT T (i + 1) (o + 1) → Calls Tryd.prog 88 #[.pointer (some ⟨rb, 0, none⟩)] W2 (XP rb g N cT (o + 1) T W2 (.bad p c))) :
    Calls Tryd.prog 90 #[.pointer (some ⟨rb, 0, none⟩), .int .i64 op, .string (baT s)] W (XP rb g N cT o T W (.bad p c)) := by
  have HE := Lib.hid (fun W1 (h1 : Rd W1 rb g N cT T i o) => enter_yes h1 s hs hb ho)
  have HSS := Lib.hid HS
  have HR := Lib.hid h
  clear HS h hb
  go_enter Tryd.func90, Tryd.ntmps90
  go_wp2_with (first
    | (go_at_call 76; ((with_reducible refine (HE.out _ (HR.out.alloc _)).mono ?_); rintro e w1 ⟨rfl, h1, g1⟩))
    | (go_at_call 88; ((with_reducible refine (HSS.out _ h1).mono ?_); rintro e w2 ⟨rfl, g2⟩)))
  exact ⟨rfl, rfl, ((Gr.refl rb W).alloc _).trans (g1.trans g2)⟩

set_option maxRecDepth 100000 in
theorem one_deep {W : World} {rb g N cT i : Nat} {T : List Tok} (h : Rd W rb g N cT T i 256) (op : Int) (s : List UInt8) (hb : isT (T.drop i) s = true) (p : Nat) (hp : (hdT (T.drop i)).at_ = p) :
    Calls Tryd.prog 90 #[.pointer (some ⟨rb, 0, none⟩), .int .i64 op, .string (baT s)] W (XP rb g N cT 256 T W (.bad p 3)) := by
  have HE := Lib.hid (fun W1 (h1 : Rd W1 rb g N cT T i 256) => enter_deep h1 s hb p hp)
  have HR := Lib.hid h
  clear h hb
  go_enter Tryd.func90, Tryd.ntmps90
  go_wp2_with (go_at_call 76; ((with_reducible refine (HE.out _ (HR.out.alloc _)).mono ?_); rintro e w1 ⟨rfl, h1⟩))
  exact ⟨rfl, rfl, ((Gr.refl rb W).alloc _).trans (Gr.of h1)⟩

/-- An operation of one. -/
theorem on_any {W : World} {rb g N cT i o : Nat} {T : List Tok} (h : Rd W rb g N cT T i o) (op : Int) (hop : I64 op) (s : List UInt8) (hs : s ≠ []) (hb : isT (T.drop i) s = true) (x : PR Ex) (hx : o < 256 → x ≠ .out)
    (HS : ∀ W2, Rd W2 rb g N cT T (i + 1) (o + 1) → Calls Tryd.prog 88 #[.pointer (some ⟨rb, 0, none⟩)] W2 (XP rb g N cT (o + 1) T W2 x)) :
    Calls Tryd.prog 90 #[.pointer (some ⟨rb, 0, none⟩), .int .i64 op, .string (baT s)] W (XP rb g N cT o T W ((enterT s o (T.drop i)).bind fun _ _ => x.bind fun e r => .ok ⟨op, 0, nilS, toES e .nil⟩ r)) := by
  unfold enterT
  rw [if_pos hb]
  by_cases ho : o = 256
  · subst ho
    exact one_deep h op s hb _ rfl
  · rw [if_neg ho]
    have ho' : o < 256 := by have := h.small; omega
    cases x with
    | ok v r => exact one_yes h op hop s hs hb ho' v r HS
    | bad p c => exact one_bad h op s hs hb ho' p c HS
    | out => exact absurd rfl (hx ho')

/-- A struct that a call hands back: read out of its cell. -/
theorem ret4 {W : World} {n : Nat} {a b c d x y z u : Value} {t : TypeId} (h : W.heap[n]? = some (.cells #[x, y, z, u] t)) : ∀ j, j < 4 → (put4 W n a b c d).cell? ⟨n, j, none⟩ = #[a, b, c, d][j]? := by
  obtain ⟨p0, p1, p2, p3⟩ := put4_cells (a := a) (b := b) (c := c) (d := d) h
  intro j hj
  have hj' : j = 0 ∨ j = 1 ∨ j = 2 ∨ j = 3 := by omega
  rcases hj' with rfl | rfl | rfl | rfl
  · exact p0
  · exact p1
  · exact p2
  · exact p3

set_option maxRecDepth 100000 in
theorem expr_yes {W : World} {rb g N cT i o : Nat} {T : List Tok} (h : Rd W rb g N cT T i o) (v : Ex) (r : List Tok)
    (HS : ∀ W2, Rd W2 rb g N cT T i o → Calls Tryd.prog 87 #[.pointer (some ⟨rb, 0, none⟩), .int .i64 1] W2 (XP rb g N cT o T W2 (.ok v r))) :
    Calls Tryd.prog 85 #[.pointer (some ⟨rb, 0, none⟩)] W (XP rb g N cT o T W (.ok v r)) := by
  have HSS := Lib.hid HS
  have HR := Lib.hid h
  have hrl := h.rlt
  have hgl := h.tok.1
  clear HS h
  go_enter Tryd.func85, Tryd.ntmps85
  go_upto_region 1 with fail
  have h1 := HR.out.alloc (.cells #[.int .i64 0, .int .i64 0, .string ⟨#[]⟩, .slice none 0 0] 43)
  have B6 := heap_alloc_new W (.cells #[.int .i64 0, .int .i64 0, .string ⟨#[]⟩, .slice none 0 0] 43)
  have g1 := (Gr.refl rb W).alloc (.cells #[.int .i64 0, .int .i64 0, .string ⟨#[]⟩, .slice none 0 0] 43)
  have z1 : (W.alloc (.cells #[.int .i64 0, .int .i64 0, .string ⟨#[]⟩, .slice none 0 0] 43)).heap.size = W.heap.size + 1 := by simp
  obtain ⟨w1, hw1⟩ : ∃ W1, W.alloc (.cells #[.int .i64 0, .int .i64 0, .string ⟨#[]⟩, .slice none 0 0] 43) = W1 := ⟨_, rfl⟩
  rw [hw1] at h1 B6 g1 z1 ⊢
  have HB := Lib.hid (fun w2 (g2 : Gr rb w1 w2) => (g2.block (by omega) (by omega)).trans B6)
  have HC := Lib.hid (fun w2 (g2 : Gr rb w1 w2) (j : Nat) => box_cell (HB.out w2 g2) j)
  have HFZ := Lib.hid (fun w2 (g2 : Gr rb w1 w2) (j : Nat) => box_frozen (HB.out w2 g2) j)
  clear hw1 B6
  go_wp2_with (go_at_call 87; ((with_reducible refine (HSS.out _ h1).mono ?_); rintro e w2 ⟨⟨vv, rfl, vl, rfl, hv, hok⟩, ⟨i', h2, hd⟩, g2⟩; obtain ⟨Al, cl, el, _⟩ := id hv; subst el; have c0 := HC.out w2 g2 0; have c1 := HC.out w2 g2 1; have c2 := HC.out w2 g2 2; have c3 := HC.out w2 g2 3; have f0 := HFZ.out w2 g2 0; have f1 := HFZ.out w2 g2 1; have f2 := HFZ.out w2 g2 2; have f3 := HFZ.out w2 g2 3; simp at c0 c1 c2 c3))
  have hP := ret4 (a := .int .i64 v.op) (b := .int .i64 v.n) (c := .string v.s) (d := .slice Al v.l.len cl) (HB.out w2 g2)
  have z2 := g2.size
  have hfin : XP rb g N cT o T W (.ok v r) (.returned (.agg #[.int .i64 v.op, .int .i64 v.n, .string v.s, .slice Al v.l.len cl])) (put4 w2 W.heap.size (.int .i64 v.op) (.int .i64 v.n) (.string v.s) (.slice Al v.l.len cl)) :=
    ⟨⟨_, rfl, _, rfl, hv.kp (Kp.put4 (by omega)) (by omega), hok⟩, ⟨i', h2.put4 (by omega) (by omega), hd⟩, (g1.trans g2).put4 (Nat.le_refl _)⟩
  obtain ⟨w5, hw5⟩ : ∃ W5, put4 w2 W.heap.size (.int .i64 v.op) (.int .i64 v.n) (.string v.s) (.slice Al v.l.len cl) = W5 := ⟨_, rfl⟩
  show bodyPost _ _ _ _ _ (put4 w2 W.heap.size (.int .i64 v.op) (.int .i64 v.n) (.string v.s) (.slice Al v.l.len cl))
  rw [hw5] at hP hfin ⊢
  have p0 := hP 0 (by decide)
  have p1 := hP 1 (by decide)
  have p2 := hP 2 (by decide)
  have p3 := hP 3 (by decide)
  exact bodyPost_ret (v := .agg #[.int .i64 v.op, .int .i64 v.n, .string v.s, .slice Al v.l.len cl]) (by simp [results, Tryd.results85, go_sem, p0, p1, p2, p3]) rfl hfin

set_option maxRecDepth 100000 in
theorem expr_bad {W : World} {rb g N cT i o : Nat} {T : List Tok} (h : Rd W rb g N cT T i o) (p c : Nat)
    (HS : ∀ W2, Rd W2 rb g N cT T i o → Calls Tryd.prog 87 #[.pointer (some ⟨rb, 0, none⟩), .int .i64 1] W2 (XP rb g N cT o T W2 (.bad p c))) :
    Calls Tryd.prog 85 #[.pointer (some ⟨rb, 0, none⟩)] W (XP rb g N cT o T W (.bad p c)) := by
  have HSS := Lib.hid HS
  have HR := Lib.hid h
  clear HS h
  go_enter Tryd.func85, Tryd.ntmps85
  go_wp2_with (go_at_call 87; ((with_reducible refine (HSS.out _ (HR.out.alloc _)).mono ?_); rintro e w2 ⟨rfl, g2⟩))
  exact ⟨rfl, rfl, ((Gr.refl rb W).alloc _).trans g2⟩

/-- An expression. -/
theorem expr_any {W : World} {rb g N cT i o : Nat} {T : List Tok} (h : Rd W rb g N cT T i o) (x : PR Ex) (hx : x ≠ .out)
    (HS : ∀ W2, Rd W2 rb g N cT T i o → Calls Tryd.prog 87 #[.pointer (some ⟨rb, 0, none⟩), .int .i64 1] W2 (XP rb g N cT o T W2 x)) :
    Calls Tryd.prog 85 #[.pointer (some ⟨rb, 0, none⟩)] W (XP rb g N cT o T W x) := by
  cases x with
  | ok v r => exact expr_yes h v r HS
  | bad p c => exact expr_bad h p c HS
  | out => exact absurd rfl hx

end Go.Proofs.YtaajolemjgdfnaaDoor

/-
  Package parse: an expression in brackets; what begins with a name.
-/
namespace Go.Proofs.YtaajolemjgdfnaaDoor
open Go Go.RowKit Go.Lib

/-- An empty expression's cells, and those of one. -/
abbrev z4 : Obj := .cells #[.int .i64 0, .int .i64 0, .string ⟨#[]⟩, .slice none 0 0] 43

set_option maxRecDepth 100000 in
theorem within_yes {W : World} {rb g N cT i o : Nat} {T : List Tok} (h : Rd W rb g N cT T i o) (s t : List UInt8) (hs : s ≠ []) (ht : t ≠ []) (hb : isT (T.drop i) s = true) (ho : o < 256) (v : Ex) (r : List Tok) (hc : isT r t = true)
    (HS : ∀ W2, Rd W2 rb g N cT T (i + 1) (o + 1) → Calls Tryd.prog 85 #[.pointer (some ⟨rb, 0, none⟩)] W2 (XP rb g N cT (o + 1) T W2 (.ok v r))) :
    Calls Tryd.prog 86 #[.pointer (some ⟨rb, 0, none⟩), .string (baT s), .string (baT t)] W (XP rb g N cT o T W (.ok v r.tail)) := by
  have HE := Lib.hid (fun W1 (h1 : Rd W1 rb g N cT T i o) => enter_yes h1 s hs hb ho)
  have HSS := Lib.hid HS
  have HL := Lib.hid (fun W1 i' (h1 : Rd W1 rb g N cT T i' (o + 1)) (hd : T.drop i' = r) => leave_yes h1 t ht (by rw [hd]; exact hc))
  have HR := Lib.hid h
  have hrl := h.rlt
  have hgl := h.tok.1
  clear HS h hb hc
  go_enter Tryd.func86, Tryd.ntmps86
  go_upto_region 1 with fail
  have h0 := HR.out.alloc (.cells #[.int .i64 0, .int .i64 0, .string ⟨#[]⟩, .slice none 0 0] 43)
  have B6 := heap_alloc_new W (.cells #[.int .i64 0, .int .i64 0, .string ⟨#[]⟩, .slice none 0 0] 43)
  have g0 := (Gr.refl rb W).alloc (.cells #[.int .i64 0, .int .i64 0, .string ⟨#[]⟩, .slice none 0 0] 43)
  have z0 : (W.alloc (.cells #[.int .i64 0, .int .i64 0, .string ⟨#[]⟩, .slice none 0 0] 43)).heap.size = W.heap.size + 1 := by simp
  obtain ⟨w0, hw0⟩ : ∃ W1, W.alloc (.cells #[.int .i64 0, .int .i64 0, .string ⟨#[]⟩, .slice none 0 0] 43) = W1 := ⟨_, rfl⟩
  rw [hw0] at h0 B6 g0 z0 ⊢
  clear hw0
  go_upto_region 3 with (first
    | (go_at_call 76; ((with_reducible refine (HE.out _ h0).mono ?_); rintro e w1 ⟨rfl, h1, g1⟩))
    | (go_at_call 85; ((with_reducible refine (HSS.out _ h1).mono ?_); rintro e w2 ⟨⟨vv, rfl, vl, rfl, hv, hok⟩, ⟨i', h2, hd⟩, g2⟩; obtain ⟨Al, cl, el, _⟩ := id hv; subst el)))
  have z1 := g1.size
  have z2 := g2.size
  have h3 := h2.alloc (.cells #[.int .i64 v.op, .int .i64 v.n, .string v.s, .slice Al v.l.len cl] 43)
  have B7 := heap_alloc_new w2 (.cells #[.int .i64 v.op, .int .i64 v.n, .string v.s, .slice Al v.l.len cl] 43)
  have g3 := (g0.trans (g1.trans g2)).alloc (.cells #[.int .i64 v.op, .int .i64 v.n, .string v.s, .slice Al v.l.len cl] 43)
  have g03 := (g1.trans g2).alloc (.cells #[.int .i64 v.op, .int .i64 v.n, .string v.s, .slice Al v.l.len cl] 43)
  have z3 : (w2.alloc (.cells #[.int .i64 v.op, .int .i64 v.n, .string v.s, .slice Al v.l.len cl] 43)).heap.size = w2.heap.size + 1 := by simp
  have hv3 : EX w1.heap.size (w2.alloc (.cells #[.int .i64 v.op, .int .i64 v.n, .string v.s, .slice Al v.l.len cl] 43)) (.slice Al v.l.len cl) v.l := hv.kp (Kp.below ((Below.refl _ _).alloc (Nat.le_refl _) _)) (Nat.le_refl _)
  obtain ⟨w3, hw3⟩ : ∃ W1, w2.alloc (.cells #[.int .i64 v.op, .int .i64 v.n, .string v.s, .slice Al v.l.len cl] 43) = W1 := ⟨_, rfl⟩
  rw [hw3] at h3 B7 g3 g03 z3 hv3 ⊢
  clear hw3 hv
  have HB6 := Lib.hid (fun w4 (g4 : Gr rb w3 w4) => (g4.block (by omega) (by omega)).trans ((g03.block (by omega) (by omega)).trans B6))
  have HB7 := Lib.hid (fun w4 (g4 : Gr rb w3 w4) => (g4.block (by omega) (by omega)).trans B7)
  have HC := Lib.hid (fun w2 (g2 : Gr rb w3 w2) (j : Nat) => box_cell (HB6.out w2 g2) j)
  have HFZ := Lib.hid (fun w2 (g2 : Gr rb w3 w2) (j : Nat) => box_frozen (HB6.out w2 g2) j)
  have HC7 := Lib.hid (fun w2 (g2 : Gr rb w3 w2) (j : Nat) => box_cell (HB7.out w2 g2) j)
  clear B6 B7
  go_wp2_with (go_at_call 77; ((with_reducible refine (HL.out _ _ h3 hd).mono ?_); rintro e w4 ⟨rfl, h4, g4⟩; have c0 := HC.out w4 g4 0; have c1 := HC.out w4 g4 1; have c2 := HC.out w4 g4 2; have c3 := HC.out w4 g4 3; have f0 := HFZ.out w4 g4 0; have f1 := HFZ.out w4 g4 1; have f2 := HFZ.out w4 g4 2; have f3 := HFZ.out w4 g4 3; have d0 := HC7.out w4 g4 0; have d1 := HC7.out w4 g4 1; have d2 := HC7.out w4 g4 2; have d3 := HC7.out w4 g4 3; simp at c0 c1 c2 c3 d0 d1 d2 d3))
  have hP := ret4 (a := .int .i64 v.op) (b := .int .i64 v.n) (c := .string v.s) (d := .slice Al v.l.len cl) (HB6.out w4 g4)
  have z4' := g4.size
  have hfin : XP rb g N cT o T W (.ok v r.tail) (.returned (.agg #[.int .i64 v.op, .int .i64 v.n, .string v.s, .slice Al v.l.len cl])) (put4 w4 W.heap.size (.int .i64 v.op) (.int .i64 v.n) (.string v.s) (.slice Al v.l.len cl)) :=
    ⟨⟨_, rfl, _, rfl, hv3.kp ((Kp.gr g4 (by omega)).trans (Kp.put4 (by omega))) (by omega), hok⟩, ⟨i' + 1, h4.put4 (by omega) (by omega), by rw [← drop_tail, hd]⟩, (g3.trans g4).put4 (Nat.le_refl _)⟩
  obtain ⟨w5, hw5⟩ : ∃ W5, put4 w4 W.heap.size (.int .i64 v.op) (.int .i64 v.n) (.string v.s) (.slice Al v.l.len cl) = W5 := ⟨_, rfl⟩
  show bodyPost _ _ _ _ _ (put4 w4 W.heap.size (.int .i64 v.op) (.int .i64 v.n) (.string v.s) (.slice Al v.l.len cl))
  rw [hw5] at hP hfin ⊢
  have p0 := hP 0 (by decide)
  have p1 := hP 1 (by decide)
  have p2 := hP 2 (by decide)
  have p3 := hP 3 (by decide)
  exact bodyPost_ret (v := .agg #[.int .i64 v.op, .int .i64 v.n, .string v.s, .slice Al v.l.len cl]) (by simp [results, Tryd.results86, go_sem, p0, p1, p2, p3]) rfl hfin

set_option maxRecDepth 100000 in
theorem within_shut {W : World} {rb g N cT i o : Nat} {T : List Tok} (h : Rd W rb g N cT T i o) (s t : List UInt8) (hs : s ≠ []) (hb : isT (T.drop i) s = true) (ho : o < 256) (v : Ex) (r : List Tok) (hc : isT r t = false)
    (HS : ∀ W2, Rd W2 rb g N cT T (i + 1) (o + 1) → Calls Tryd.prog 85 #[.pointer (some ⟨rb, 0, none⟩)] W2 (XP rb g N cT (o + 1) T W2 (.ok v r))) :
    Calls Tryd.prog 86 #[.pointer (some ⟨rb, 0, none⟩), .string (baT s), .string (baT t)] W (XP rb g N cT o T W (.bad (hdT r).at_ 2)) := by
  have HE := Lib.hid (fun W1 (h1 : Rd W1 rb g N cT T i o) => enter_yes h1 s hs hb ho)
  have HSS := Lib.hid HS
  have HL := Lib.hid (fun W1 i' (h1 : Rd W1 rb g N cT T i' (o + 1)) (hd : T.drop i' = r) => leave_no h1 t (by rw [hd]; exact hc) (hdT r).at_ (by rw [hd]))
  have HR := Lib.hid h
  clear HS h hb hc
  go_enter Tryd.func86, Tryd.ntmps86
  go_wp2_with (first
    | (go_at_call 76; ((with_reducible refine (HE.out _ (HR.out.alloc _)).mono ?_); rintro e w1 ⟨rfl, h1, g1⟩))
    | (go_at_call 85; ((with_reducible refine (HSS.out _ h1).mono ?_); rintro e w2 ⟨⟨vv, rfl, vl, rfl, hv, hok⟩, ⟨i', h2, hd⟩, g2⟩; obtain ⟨Al, cl, el, _⟩ := id hv; subst el))
    | (go_at_call 77; ((with_reducible refine (HL.out _ _ (h2.alloc _) hd).mono ?_); rintro e w4 ⟨rfl, h4⟩)))
  exact ⟨rfl, rfl, ((Gr.refl rb W).alloc _).trans (g1.trans (g2.trans (((Gr.refl rb w2).alloc _).trans (Gr.of h4))))⟩

set_option maxRecDepth 100000 in
theorem within_bad {W : World} {rb g N cT i o : Nat} {T : List Tok} (h : Rd W rb g N cT T i o) (s t : List UInt8) (hs : s ≠ []) (hb : isT (T.drop i) s = true) (ho : o < 256) (p c : Nat)
    (HS : ∀ W2, Rd W2 rb g N cT T (i + 1) (o + 1) → Calls Tryd.prog 85 #[.pointer (some ⟨rb, 0, none⟩)] W2 (XP rb g N cT (o + 1) T W2 (.bad p c))) :
    Calls Tryd.prog 86 #[.pointer (some ⟨rb, 0, none⟩), .string (baT s), .string (baT t)] W (XP rb g N cT o T W (.bad p c)) := by
  have HE := Lib.hid (fun W1 (h1 : Rd W1 rb g N cT T i o) => enter_yes h1 s hs hb ho)
  have HSS := Lib.hid HS
  have HR := Lib.hid h
  clear HS h hb
  go_enter Tryd.func86, Tryd.ntmps86
  go_wp2_with (first
    | (go_at_call 76; ((with_reducible refine (HE.out _ (HR.out.alloc _)).mono ?_); rintro e w1 ⟨rfl, h1, g1⟩))
    | (go_at_call 85; ((with_reducible refine (HSS.out _ h1).mono ?_); rintro e w2 ⟨rfl, g2⟩)))
  exact ⟨rfl, rfl, ((Gr.refl rb W).alloc _).trans (g1.trans g2)⟩

set_option maxRecDepth 100000 in
theorem within_deep {W : World} {rb g N cT i : Nat} {T : List Tok} (h : Rd W rb g N cT T i 256) (s t : List UInt8) (hb : isT (T.drop i) s = true) (p : Nat) (hp : (hdT (T.drop i)).at_ = p) :
    Calls Tryd.prog 86 #[.pointer (some ⟨rb, 0, none⟩), .string (baT s), .string (baT t)] W (XP rb g N cT 256 T W (.bad p 3)) := by
  have HE := Lib.hid (fun W1 (h1 : Rd W1 rb g N cT T i 256) => enter_deep h1 s hb p hp)
  have HR := Lib.hid h
  clear h hb
  go_enter Tryd.func86, Tryd.ntmps86
  go_wp2_with (go_at_call 76; ((with_reducible refine (HE.out _ (HR.out.alloc _)).mono ?_); rintro e w1 ⟨rfl, h1⟩))
  exact ⟨rfl, rfl, ((Gr.refl rb W).alloc _).trans (Gr.of h1)⟩

/-- An expression in brackets. -/
theorem within_any {W : World} {rb g N cT i o : Nat} {T : List Tok} (h : Rd W rb g N cT T i o) (s t : List UInt8) (hs : s ≠ []) (ht : t ≠ []) (hb : isT (T.drop i) s = true) (ex : Nat → Nat → List Tok → PR Ex) (hx : o < 256 → ex 1 (o + 1) (T.drop (i + 1)) ≠ .out)
    (HS : ∀ W2, Rd W2 rb g N cT T (i + 1) (o + 1) → Calls Tryd.prog 85 #[.pointer (some ⟨rb, 0, none⟩)] W2 (XP rb g N cT (o + 1) T W2 (ex 1 (o + 1) (T.drop (i + 1))))) :
    Calls Tryd.prog 86 #[.pointer (some ⟨rb, 0, none⟩), .string (baT s), .string (baT t)] W (XP rb g N cT o T W (withinT ex s t o (T.drop i))) := by
  unfold withinT enterT
  rw [if_pos hb]
  by_cases ho : o = 256
  · subst ho
    exact within_deep h s t hb _ rfl
  · rw [if_neg ho, drop_tail]
    have ho' : o < 256 := by have := h.small; omega
    show Calls _ _ _ _ (XP rb g N cT o T W ((ex 1 (o + 1) (T.drop (i + 1))).bind fun e r => (wantT t r).bind fun _ r => .ok e r))
    cases hxx : ex 1 (o + 1) (T.drop (i + 1)) with
    | ok v r =>
      rw [hxx] at HS
      show Calls _ _ _ _ (XP rb g N cT o T W ((wantT t r).bind fun _ r => .ok v r))
      unfold wantT
      by_cases hc : isT r t = true
      · rw [if_pos hc]
        exact within_yes h s t hs ht hb ho' v r hc HS
      · rw [if_neg hc]
        exact within_shut h s t hs hb ho' v r (by simpa using hc) HS
    | bad p c => rw [hxx] at HS; exact within_bad h s t hs hb ho' p c HS
    | out => exact absurd hxx (hx ho')

end Go.Proofs.YtaajolemjgdfnaaDoor

