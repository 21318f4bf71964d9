/-
  Package parse: Parse, where bytes are tokens.
-/
import Derived.Test.YtaajolemjgdfnaaDoorPbO
namespace Go.Proofs.YtaajolemjgdfnaaDoor
open Go Go.RowKit Go.Lib

theorem rd_new {w : World} {g m c : Nat} {T : List Tok} (ht : TokRow w g T) (hm : T.length = m) (hT : TokOk T) : Rd (w.alloc (.cells #[.slice (some ⟨g, 0, none⟩) m c, .int .i64 0, .int .i64 0] 88)) w.heap.size g m c T 0 0 := by
  have hb := heap_alloc_new w (.cells #[.slice (some ⟨g, 0, none⟩) m c, .int .i64 0, .int .i64 0] 88)
  have hl := ht.1
  refine ⟨box_cell hb 0, box_cell hb 1, box_cell hb 2, fun j => box_frozen hb j, by simp, ⟨by simp; omega, fun i t hi => ?_⟩, by omega, hm, ?_, by omega, hT⟩
  · obtain ⟨a, b, d⟩ := ht.2 i t hi
    exact ⟨(World.cell?_alloc_lt _ _ _ hl).trans a, (World.cell?_alloc_lt _ _ _ hl).trans b, (World.cell?_alloc_lt _ _ _ hl).trans d⟩
  · obtain ⟨b, p, e, _⟩ := hT.last
    rw [← hm, e]
    simp

theorem TokRow.same {w w' : World} {g : Nat} {T : List Tok} (h : TokRow w g T) (hs : w.heap.size ≤ w'.heap.size) (hb : w'.heap[g]? = w.heap[g]?) : TokRow w' g T :=
  ⟨Nat.lt_of_lt_of_le h.1 hs, fun j t hj => by
    obtain ⟨a, b, c⟩ := h.2 j t hj
    have e : ∀ k, w'.cell? ⟨g, k, none⟩ = w.cell? ⟨g, k, none⟩ := fun k => World.cell?_of_block (a := ⟨g, k, none⟩) hb
    exact ⟨(e _).trans a, (e _).trans b, (e _).trans c⟩⟩
theorem set1_heap {W : World} {n : Nat} {p x : Value} {t : TypeId} (h : W.heap[n]? = some (.cells #[p] t)) : (W.setCell ⟨n, 0, none⟩ x).heap[n]? = some (.cells #[x] t) := by
  simp [World.setCell, Array.getElem?_modify, h]
theorem put2_block {W : World} {n k : Nat} {a b : Value} (h : k ≠ n) : (put2 W n a b).heap[k]? = W.heap[k]? := by
  unfold put2
  rw [Below.heap_setCell _ _ _ _ h, Below.heap_setCell _ _ _ _ h]
theorem Gr.below {rb B : Nat} {W W' : World} (h : Gr rb W W') (h1 : B ≤ rb) (h2 : B ≤ W.heap.size) : Below B W W' := ⟨World.grownBy.os h, World.grownBy.tape h, World.grownBy.output h, h.size, fun k hk => h.block (by omega) (by omega)⟩
theorem below_drw {B : Nat} {w w' : World} (h : Below B w w') : Below B w w'.drew := ⟨h.os, h.tape, h.output, h.size, h.block⟩
abbrev TB (g m c : Nat) : Obj := .cells #[.slice (some ⟨g, 0, none⟩) m c, .int .i64 0, .int .i64 0] 88

set_option maxRecDepth 100000 in
theorem parse_ok (A : Option Addr) (n cap : Nat) (l : List UInt8) (ts : List Tok) (q : Pg) (r : List Tok) (W : World) (hn : l.length = n) (hl : n ≤ 65536) (hcap : n ≤ cap) (hr : Row W A l) (hok : lexS 0 l = .ok ts) (hp : progT (ts.length + 2) (fin ts n) = .ok q r) :
    Calls Tryd.prog 25 #[.slice A n cap] W fun e W' => Below W.heap.size W W' ∧ ∃ v, e = .returned (.tuple #[v, .int .i64 0, .int .i64 0]) ∧ GV W.heap.size W' v q := by
  have hmf : ∀ (fn : Go.Fn) (first cap : Array Value) (w : World), (Instr.makeFunc fn first cap).run Tryd.prog w = .ok (.func fn first cap) w := fun _ _ _ _ => rfl
  obtain ⟨m, hm⟩ : ∃ m, ts.length + 1 = m := ⟨_, rfl⟩
  have hTok : TokOk (fin ts n) := hn ▸ tok_ok hok (by omega)
  have hTl : (fin ts n).length = m := by rw [fin_length, hm]
  have HL := Lib.hid (lex_ok A n cap m l ts _ hn hl hcap (hr.al P2 P1 P0) hok hm)
  have HP := Lib.hid (fun w g cT (b : Nat) (h : Rd w b g m cT (fin ts n) 0 0) => prog_any h (ts.length + 2) (.ok q r) hp (fun e => by cases e))
  clear hn hl hcap hr hok hp
  go_enter_defers Tryd.func25, Tryd.ntmps25
  go_upto_region 1 with fail
  have B0 := three0 W
  have B1 := three1 W
  have B2 := three2 W
  have g0 := three_below W
  have z0 := three_size W
  obtain ⟨w0, hw0⟩ : ∃ w0, ((W.alloc P2).alloc P1).alloc P0 = w0 := ⟨_, rfl⟩
  rw [hw0] at HL B0 B1 B2 g0 z0 ⊢
  clear hw0
  obtain ⟨b0, hb0⟩ : ∃ b0, W.heap.size = b0 := ⟨_, rfl⟩
  rw [hb0] at B0 B1 B2 g0 z0 ⊢
  have HB0 := Lib.hid (fun w1 (e1 : Below w0.heap.size w0 w1) => (e1.block b0 (by omega)).trans B0)
  have HB1 := Lib.hid (fun w1 (e1 : Below w0.heap.size w0 w1) => (e1.block (b0 + 1) (by omega)).trans B1)
  have HB2 := Lib.hid (fun w1 (e1 : Below w0.heap.size w0 w1) => (e1.block (b0 + 1 + 1) (by omega)).trans B2)
  go_upto_region 2 with (go_at_call 39; ((with_reducible refine HL.out.mono ?_); rintro e1 w1 ⟨g, c', rfl, hgs, hmc, htr, e1⟩; have c1 := box_cell (HB1.out w1 e1) 0; have f1 := box_frozen (HB1.out w1 e1) 0; have c2 := box_cell (HB2.out w1 e1) 0; have f2 := box_frozen (HB2.out w1 e1) 0; have c2' := (World.cell?_setCell_far w1 ⟨b0 + 1, 0, none⟩ ⟨b0 + 1 + 1, 0, none⟩ (.int .i64 0) (by simp)).trans c2; simp at c1 c2 c2'))
  have hb2 : ∀ k, k ≠ b0 + 1 → k ≠ b0 + 1 + 1 → ((w1.setCell ⟨b0 + 1, 0, none⟩ (.int .i64 0)).setCell ⟨b0 + 1 + 1, 0, none⟩ (.int .i64 0)).heap[k]? = w1.heap[k]? := fun k h1 h2 => (Below.heap_setCell _ ⟨b0 + 1 + 1, 0, none⟩ _ _ h2).trans (Below.heap_setCell _ ⟨b0 + 1, 0, none⟩ _ _ h1)
  have g2 : Below b0 W ((w1.setCell ⟨b0 + 1, 0, none⟩ (.int .i64 0)).setCell ⟨b0 + 1 + 1, 0, none⟩ (.int .i64 0)) := ((g0.trans (e1.mono (by omega))).setCell (p := ⟨b0 + 1, 0, none⟩) (by simp) _).setCell (p := ⟨b0 + 1 + 1, 0, none⟩) (by simp; omega) _
  have z2 : ((w1.setCell ⟨b0 + 1, 0, none⟩ (.int .i64 0)).setCell ⟨b0 + 1 + 1, 0, none⟩ (.int .i64 0)).heap.size = w1.heap.size := by simp
  have t2 : TokRow ((w1.setCell ⟨b0 + 1, 0, none⟩ (.int .i64 0)).setCell ⟨b0 + 1 + 1, 0, none⟩ (.int .i64 0)) g (fin ts n) := htr.same (by rw [z2]; exact Nat.le_refl _) (hb2 g (by omega) (by omega))
  have Z1 : ((w1.setCell ⟨b0 + 1, 0, none⟩ (.int .i64 0)).setCell ⟨b0 + 1 + 1, 0, none⟩ (.int .i64 0)).heap[b0 + 1]? = some P1 := (Below.heap_setCell _ ⟨b0 + 1 + 1, 0, none⟩ _ _ (by simp)).trans (set1_heap (HB1.out w1 e1))
  have Z2 : ((w1.setCell ⟨b0 + 1, 0, none⟩ (.int .i64 0)).setCell ⟨b0 + 1 + 1, 0, none⟩ (.int .i64 0)).heap[b0 + 1 + 1]? = some P0 := set1_heap ((Below.heap_setCell _ ⟨b0 + 1, 0, none⟩ _ _ (by simp)).trans (HB2.out w1 e1))
  have Z0 := (hb2 b0 (by omega) (by omega)).trans (HB0.out w1 e1)
  have zw1 := e1.size
  obtain ⟨w2, hw2⟩ : ∃ w2, (w1.setCell ⟨b0 + 1, 0, none⟩ (.int .i64 0)).setCell ⟨b0 + 1 + 1, 0, none⟩ (.int .i64 0) = w2 := ⟨_, rfl⟩
  rw [hw2] at g2 z2 t2 Z0 Z1 Z2 ⊢
  clear hw2 c1 c2 c2' f1 f2 HB0 HB1 HB2 B0 B1 B2 g0 hb2
  have q2 := box_cell Z2 0
  simp only [List.getElem?_toArray, List.getElem?_cons_zero] at q2
  go_upto_region 6 with fail
  have h3 := rd_new (c := c') t2 hTl hTok
  have e3 : Below w2.heap.size w2 (w2.alloc (TB g m c')) := (Below.refl _ _).alloc (Nat.le_refl _) _
  have Z0 := (e3.block b0 (by omega)).trans Z0
  have Z1 := (e3.block (b0 + 1) (by omega)).trans Z1
  have Z2 := (e3.block (b0 + 1 + 1) (by omega)).trans Z2
  have g3 := g2.trans (e3.mono (by omega))
  have z3 : (w2.alloc (TB g m c')).heap.size = w2.heap.size + 1 := by simp
  obtain ⟨w3, hw3⟩ : ∃ w3, w2.alloc (TB g m c') = w3 := ⟨_, rfl⟩
  rw [hw3] at h3 Z0 Z1 Z2 g3 z3 ⊢
  clear hw3 e3 q2 t2 g2 htr
  obtain ⟨n5, hn5⟩ : ∃ n5, w1.heap.size = n5 := ⟨_, rfl⟩
  rw [z2, hn5] at h3 z3
  rw [hn5] at zw1 ⊢
  have HBk := Lib.hid (fun w6 (g6 : Gr n5 w3 w6) k (hk : k ≤ b0 + 2) => g6.block (k := k) (by omega) (by omega))
  have HBP := Lib.hid (HP.out w3 g c' n5 h3)
  clear HP HL
  go_wp2_with (go_at_call 41; ((with_reducible refine HBP.out.mono ?_); rintro e2 w6 ⟨⟨vv, rfl, vf, vm, rfl, hf, hvm⟩, ⟨i6, h6, _⟩, g6⟩; obtain ⟨A1, k1, el1, _⟩ := id hf; obtain ⟨A2, k2, el2, _⟩ := id hvm; subst el1; subst el2; have Y0 := (HBk.out w6 g6 b0 (by omega)).trans Z0; have Y1 := (HBk.out w6 g6 (b0 + 1) (by omega)).trans Z1; have Y2 := (HBk.out w6 g6 (b0 + 1 + 1) (by omega)).trans Z2; have c0 := box_cell Y0 0; have c1 := box_cell Y0 1; have f0 := box_frozen Y0 0; have f1 := box_frozen Y0 1; have d1 := (World.cell?_setCell_far (w6.setCell ⟨b0, 0, none⟩ (.slice A1 q.fs.length k1)) ⟨b0, 1, none⟩ ⟨b0 + 1, 0, none⟩ (.slice A2 q.m.len k2) (by simp)).trans ((World.cell?_setCell_far w6 ⟨b0, 0, none⟩ ⟨b0 + 1, 0, none⟩ (.slice A1 q.fs.length k1) (by simp)).trans (box_cell Y1 0)); have x1 := box_frozen Y1 0; have x2 := box_frozen Y2 0; have d2 := (World.cell?_setCell_far ((w6.setCell ⟨b0, 0, none⟩ (.slice A1 q.fs.length k1)).setCell ⟨b0, 1, none⟩ (.slice A2 q.m.len k2)) ⟨b0 + 1, 0, none⟩ ⟨b0 + 1 + 1, 0, none⟩ (.int .i64 0) (by simp)).trans ((World.cell?_setCell_far (w6.setCell ⟨b0, 0, none⟩ (.slice A1 q.fs.length k1)) ⟨b0, 1, none⟩ ⟨b0 + 1 + 1, 0, none⟩ (.slice A2 q.m.len k2) (by simp; omega)).trans ((World.cell?_setCell_far w6 ⟨b0, 0, none⟩ ⟨b0 + 1 + 1, 0, none⟩ (.slice A1 q.fs.length k1) (by simp; omega)).trans (box_cell Y2 0))); simp at c0 c1 d1 d2))
  have z6 := g6.size
  have X0 : (((Proofs.YtaajolemjgdfnaaDoor.put2 w6 b0 (.slice A1 q.fs.length k1) (.slice A2 q.m.len k2)).setCell ⟨b0 + 1, 0, none⟩ (.int .i64 0)).setCell ⟨b0 + 1 + 1, 0, none⟩ (.int .i64 0)).heap[b0]? = some (.cells #[.slice A1 q.fs.length k1, .slice A2 q.m.len k2] 25) := (Below.heap_setCell _ ⟨b0 + 1 + 1, 0, none⟩ _ _ (show b0 ≠ b0 + 1 + 1 by omega)).trans ((Below.heap_setCell _ ⟨b0 + 1, 0, none⟩ _ _ (show b0 ≠ b0 + 1 by omega)).trans (put2_heap Y0))
  have X1 : (((Proofs.YtaajolemjgdfnaaDoor.put2 w6 b0 (.slice A1 q.fs.length k1) (.slice A2 q.m.len k2)).setCell ⟨b0 + 1, 0, none⟩ (.int .i64 0)).setCell ⟨b0 + 1 + 1, 0, none⟩ (.int .i64 0)).heap[b0 + 1]? = some P1 := (Below.heap_setCell _ ⟨b0 + 1 + 1, 0, none⟩ _ _ (show b0 + 1 ≠ b0 + 1 + 1 by omega)).trans (set1_heap ((put2_block (show b0 + 1 ≠ b0 by omega)).trans Y1))
  have X2 : (((Proofs.YtaajolemjgdfnaaDoor.put2 w6 b0 (.slice A1 q.fs.length k1) (.slice A2 q.m.len k2)).setCell ⟨b0 + 1, 0, none⟩ (.int .i64 0)).setCell ⟨b0 + 1 + 1, 0, none⟩ (.int .i64 0)).heap[b0 + 1 + 1]? = some P0 := set1_heap ((Below.heap_setCell _ ⟨b0 + 1, 0, none⟩ _ _ (show b0 + 1 + 1 ≠ b0 + 1 by omega)).trans ((put2_block (show b0 + 1 + 1 ≠ b0 by omega)).trans Y2))
  have G7 : Below b0 W (((Proofs.YtaajolemjgdfnaaDoor.put2 w6 b0 (.slice A1 q.fs.length k1) (.slice A2 q.m.len k2)).setCell ⟨b0 + 1, 0, none⟩ (.int .i64 0)).setCell ⟨b0 + 1 + 1, 0, none⟩ (.int .i64 0)) :=
    ((((g3.trans (g6.below (by omega) (by omega))).setCell (p := ⟨b0, 0, none⟩) (Nat.le_refl _) _).setCell (p := ⟨b0, 1, none⟩) (Nat.le_refl _) _).setCell (p := ⟨b0 + 1, 0, none⟩) (by simp) _).setCell (p := ⟨b0 + 1 + 1, 0, none⟩) (by simp; omega) _
  have hK : Kp w3.heap.size w6 (((Proofs.YtaajolemjgdfnaaDoor.put2 w6 b0 (.slice A1 q.fs.length k1) (.slice A2 q.m.len k2)).setCell ⟨b0 + 1, 0, none⟩ (.int .i64 0)).setCell ⟨b0 + 1 + 1, 0, none⟩ (.int .i64 0)) := ((Kp.put2 (by omega)).trans (Kp.set _ (by omega))).trans (Kp.set _ (by omega))
  obtain ⟨w7, hw7⟩ : ∃ w7, (((Proofs.YtaajolemjgdfnaaDoor.put2 w6 b0 (.slice A1 q.fs.length k1) (.slice A2 q.m.len k2)).setCell ⟨b0 + 1, 0, none⟩ (.int .i64 0)).setCell ⟨b0 + 1 + 1, 0, none⟩ (.int .i64 0)) = w7 := ⟨_, rfl⟩
  show bodyPostD _ _ _ _ _ (((Proofs.YtaajolemjgdfnaaDoor.put2 w6 b0 (.slice A1 q.fs.length k1) (.slice A2 q.m.len k2)).setCell ⟨b0 + 1, 0, none⟩ (.int .i64 0)).setCell ⟨b0 + 1 + 1, 0, none⟩ (.int .i64 0))
  rw [hw7] at X0 X1 X2 G7 hK ⊢
  clear hw7
  have hv : GV W.heap.size (w7.alloc (.cells #[.int .i64 0, .int .i64 0] 85)) (.agg #[.slice A1 q.fs.length k1, .slice A2 q.m.len k2]) q := ⟨_, _, rfl, (hf.kp hK (Nat.le_refl _)).kp (Kp.below ((Below.refl _ _).alloc (Nat.le_refl _) _)) (by omega), (hvm.kp hK (Nat.le_refl _)).kp (Kp.below ((Below.refl _ _).alloc (Nat.le_refl _) _)) (by omega)⟩
  have y0 := box_cell ((Below.heap_alloc w7 (.cells #[.int .i64 0, .int .i64 0] 85) b0 (lt_heap X0)).trans X0) 0
  have y1 := box_cell ((Below.heap_alloc w7 (.cells #[.int .i64 0, .int .i64 0] 85) b0 (lt_heap X0)).trans X0) 1
  have y2 := box_cell ((Below.heap_alloc w7 (.cells #[.int .i64 0, .int .i64 0] 85) (b0 + 1) (lt_heap X1)).trans X1) 0
  have y3 := box_cell ((Below.heap_alloc w7 (.cells #[.int .i64 0, .int .i64 0] 85) (b0 + 1 + 1) (lt_heap X2)).trans X2) 0
  simp only [List.getElem?_toArray, List.getElem?_cons_succ, List.getElem?_cons_zero] at y0 y1 y2 y3
  have G8 := G7.alloc (by rw [← hb0]; exact (by have := G7.size; omega)) (.cells #[.int .i64 0, .int .i64 0] 85)
  rw [hb0] at *
  refine leaves_cons (f := 40) (args := #[.pointer (some ⟨b0 + 1, 0, none⟩), .pointer (some ⟨b0 + 1 + 1, 0, none⟩)]) (by simp) (by simp [go_sem]) ?_
  refine (idle _ _ _).mono ?_
  rintro e u' w'' ⟨rfl, rfl, rfl⟩
  exact ⟨_, by simp [results, Tryd.results25, go_sem, y0, y1, y2, y3], G8, _, rfl, hv⟩

set_option maxRecDepth 100000 in
theorem parse_flt (A : Option Addr) (n cap : Nat) (l : List UInt8) (ts : List Tok) (p c : Nat) (W : World) (hn : l.length = n) (hl : n ≤ 65536) (hcap : n ≤ cap) (hr : Row W A l) (hok : lexS 0 l = .ok ts) (hp : progT (ts.length + 2) (fin ts n) = .bad p c) :
    Calls Tryd.prog 25 #[.slice A n cap] W fun e W' => Below W.heap.size W W' ∧ e = .returned (.tuple #[.agg #[.slice none 0 0, .slice none 0 0], .int .i64 p, .int .i64 c]) := by
  have hmf : ∀ (fn : Go.Fn) (first cap : Array Value) (w : World), (Instr.makeFunc fn first cap).run Tryd.prog w = .ok (.func fn first cap) w := fun _ _ _ _ => rfl
  obtain ⟨m, hm⟩ : ∃ m, ts.length + 1 = m := ⟨_, rfl⟩
  have hTok : TokOk (fin ts n) := hn ▸ tok_ok hok (by omega)
  have hTl : (fin ts n).length = m := by rw [fin_length, hm]
  have HL := Lib.hid (lex_ok A n cap m l ts _ hn hl hcap (hr.al P2 P1 P0) hok hm)
  have HP := Lib.hid (fun w g cT (b : Nat) (h : Rd w b g m cT (fin ts n) 0 0) => prog_any h (ts.length + 2) (.bad p c) hp (fun e => by cases e))
  clear hn hl hcap hr hok hp
  go_enter_defers Tryd.func25, Tryd.ntmps25
  go_upto_region 1 with fail
  have B0 := three0 W
  have B1 := three1 W
  have B2 := three2 W
  have g0 := three_below W
  have z0 := three_size W
  obtain ⟨w0, hw0⟩ : ∃ w0, ((W.alloc P2).alloc P1).alloc P0 = w0 := ⟨_, rfl⟩
  rw [hw0] at HL B0 B1 B2 g0 z0 ⊢
  clear hw0
  obtain ⟨b0, hb0⟩ : ∃ b0, W.heap.size = b0 := ⟨_, rfl⟩
  rw [hb0] at B0 B1 B2 g0 z0 ⊢
  have HB0 := Lib.hid (fun w1 (e1 : Below w0.heap.size w0 w1) => (e1.block b0 (by omega)).trans B0)
  have HB1 := Lib.hid (fun w1 (e1 : Below w0.heap.size w0 w1) => (e1.block (b0 + 1) (by omega)).trans B1)
  have HB2 := Lib.hid (fun w1 (e1 : Below w0.heap.size w0 w1) => (e1.block (b0 + 1 + 1) (by omega)).trans B2)
  go_upto_region 2 with (go_at_call 39; ((with_reducible refine HL.out.mono ?_); rintro e1 w1 ⟨g, c', rfl, hgs, hmc, htr, e1⟩; have c1 := box_cell (HB1.out w1 e1) 0; have f1 := box_frozen (HB1.out w1 e1) 0; have c2 := box_cell (HB2.out w1 e1) 0; have f2 := box_frozen (HB2.out w1 e1) 0; have c2' := (World.cell?_setCell_far w1 ⟨b0 + 1, 0, none⟩ ⟨b0 + 1 + 1, 0, none⟩ (.int .i64 0) (by simp)).trans c2; simp at c1 c2 c2'))
  have hb2 : ∀ k, k ≠ b0 + 1 → k ≠ b0 + 1 + 1 → ((w1.setCell ⟨b0 + 1, 0, none⟩ (.int .i64 0)).setCell ⟨b0 + 1 + 1, 0, none⟩ (.int .i64 0)).heap[k]? = w1.heap[k]? := fun k h1 h2 => (Below.heap_setCell _ ⟨b0 + 1 + 1, 0, none⟩ _ _ h2).trans (Below.heap_setCell _ ⟨b0 + 1, 0, none⟩ _ _ h1)
  have g2 : Below b0 W ((w1.setCell ⟨b0 + 1, 0, none⟩ (.int .i64 0)).setCell ⟨b0 + 1 + 1, 0, none⟩ (.int .i64 0)) := ((g0.trans (e1.mono (by omega))).setCell (p := ⟨b0 + 1, 0, none⟩) (by simp) _).setCell (p := ⟨b0 + 1 + 1, 0, none⟩) (by simp; omega) _
  have z2 : ((w1.setCell ⟨b0 + 1, 0, none⟩ (.int .i64 0)).setCell ⟨b0 + 1 + 1, 0, none⟩ (.int .i64 0)).heap.size = w1.heap.size := by simp
  have t2 : TokRow ((w1.setCell ⟨b0 + 1, 0, none⟩ (.int .i64 0)).setCell ⟨b0 + 1 + 1, 0, none⟩ (.int .i64 0)) g (fin ts n) := htr.same (by rw [z2]; exact Nat.le_refl _) (hb2 g (by omega) (by omega))
  have Z1 : ((w1.setCell ⟨b0 + 1, 0, none⟩ (.int .i64 0)).setCell ⟨b0 + 1 + 1, 0, none⟩ (.int .i64 0)).heap[b0 + 1]? = some P1 := (Below.heap_setCell _ ⟨b0 + 1 + 1, 0, none⟩ _ _ (by simp)).trans (set1_heap (HB1.out w1 e1))
  have Z2 : ((w1.setCell ⟨b0 + 1, 0, none⟩ (.int .i64 0)).setCell ⟨b0 + 1 + 1, 0, none⟩ (.int .i64 0)).heap[b0 + 1 + 1]? = some P0 := set1_heap ((Below.heap_setCell _ ⟨b0 + 1, 0, none⟩ _ _ (by simp)).trans (HB2.out w1 e1))
  have Z0 := (hb2 b0 (by omega) (by omega)).trans (HB0.out w1 e1)
  have zw1 := e1.size
  obtain ⟨w2, hw2⟩ : ∃ w2, (w1.setCell ⟨b0 + 1, 0, none⟩ (.int .i64 0)).setCell ⟨b0 + 1 + 1, 0, none⟩ (.int .i64 0) = w2 := ⟨_, rfl⟩
  rw [hw2] at g2 z2 t2 Z0 Z1 Z2 ⊢
  clear hw2 c1 c2 c2' f1 f2 HB0 HB1 HB2 B0 B1 B2 g0 hb2
  have q2 := box_cell Z2 0
  simp only [List.getElem?_toArray, List.getElem?_cons_zero] at q2
  go_upto_region 6 with fail
  have h3 := rd_new (c := c') t2 hTl hTok
  have e3 : Below w2.heap.size w2 (w2.alloc (TB g m c')) := (Below.refl _ _).alloc (Nat.le_refl _) _
  have Z0 := (e3.block b0 (by omega)).trans Z0
  have Z1 := (e3.block (b0 + 1) (by omega)).trans Z1
  have Z2 := (e3.block (b0 + 1 + 1) (by omega)).trans Z2
  have g3 := g2.trans (e3.mono (by omega))
  have z3 : (w2.alloc (TB g m c')).heap.size = w2.heap.size + 1 := by simp
  obtain ⟨w3, hw3⟩ : ∃ w3, w2.alloc (TB g m c') = w3 := ⟨_, rfl⟩
  rw [hw3] at h3 Z0 Z1 Z2 g3 z3 ⊢
  clear hw3 e3 q2 t2 g2 htr
  obtain ⟨n5, hn5⟩ : ∃ n5, w1.heap.size = n5 := ⟨_, rfl⟩
  rw [z2, hn5] at h3 z3
  rw [hn5] at zw1 ⊢
  have HBk := Lib.hid (fun w6 (g6 : Gr n5 w3 w6) k (hk : k ≤ b0 + 2) => g6.block (k := k) (by omega) (by omega))
  have HBP := Lib.hid (HP.out w3 g c' n5 h3)
  clear HP HL
  go_wp2_with (go_at_call 41; ((with_reducible refine HBP.out.mono ?_); rintro e2 w6 ⟨rfl, g6⟩))
  have Y0 := (HBk.out w6 g6 b0 (by omega)).trans Z0
  have Y1 := (HBk.out w6 g6 (b0 + 1) (by omega)).trans Z1
  have Y2 := (HBk.out w6 g6 (b0 + 1 + 1) (by omega)).trans Z2
  have G7 : Below b0 W w6 := g3.trans (g6.below (by omega) (by omega))
  have e7 : Below b0 w6 (((w6.alloc (.cells #[.int .i64 p, .int .i64 c] 85)).drew.setCell ⟨b0 + 1, 0, none⟩ (.int .i64 p)).setCell ⟨b0 + 1 + 1, 0, none⟩ (.int .i64 c)) :=
    ((below_drw ((Below.refl b0 w6).alloc (by have := G7.size; omega) (.cells #[.int .i64 p, .int .i64 c] 85))).setCell (p := ⟨b0 + 1, 0, none⟩) (by simp) _).setCell (p := ⟨b0 + 1 + 1, 0, none⟩) (by simp; omega) _
  have V0 : ((w6.alloc (.cells #[.int .i64 p, .int .i64 c] 85)).drew).heap[b0]? = some P2 := (Below.heap_alloc w6 (.cells #[.int .i64 p, .int .i64 c] 85) b0 (lt_heap Y0)).trans Y0
  have V1 : ((w6.alloc (.cells #[.int .i64 p, .int .i64 c] 85)).drew).heap[b0 + 1]? = some P1 := (Below.heap_alloc w6 (.cells #[.int .i64 p, .int .i64 c] 85) (b0 + 1) (lt_heap Y1)).trans Y1
  have V2 : ((w6.alloc (.cells #[.int .i64 p, .int .i64 c] 85)).drew).heap[b0 + 1 + 1]? = some P0 := (Below.heap_alloc w6 (.cells #[.int .i64 p, .int .i64 c] 85) (b0 + 1 + 1) (lt_heap Y2)).trans Y2
  have X0 : (((w6.alloc (.cells #[.int .i64 p, .int .i64 c] 85)).drew.setCell ⟨b0 + 1, 0, none⟩ (.int .i64 p)).setCell ⟨b0 + 1 + 1, 0, none⟩ (.int .i64 c)).heap[b0]? = some P2 := (Below.heap_setCell _ ⟨b0 + 1 + 1, 0, none⟩ _ _ (show b0 ≠ b0 + 1 + 1 by omega)).trans ((Below.heap_setCell _ ⟨b0 + 1, 0, none⟩ _ _ (show b0 ≠ b0 + 1 by omega)).trans V0)
  have X1 : (((w6.alloc (.cells #[.int .i64 p, .int .i64 c] 85)).drew.setCell ⟨b0 + 1, 0, none⟩ (.int .i64 p)).setCell ⟨b0 + 1 + 1, 0, none⟩ (.int .i64 c)).heap[b0 + 1]? = some (.cells #[.int .i64 p] 3) := (Below.heap_setCell _ ⟨b0 + 1 + 1, 0, none⟩ _ _ (show b0 + 1 ≠ b0 + 1 + 1 by omega)).trans (set1_heap V1)
  have X2 : (((w6.alloc (.cells #[.int .i64 p, .int .i64 c] 85)).drew.setCell ⟨b0 + 1, 0, none⟩ (.int .i64 p)).setCell ⟨b0 + 1 + 1, 0, none⟩ (.int .i64 c)).heap[b0 + 1 + 1]? = some (.cells #[.int .i64 c] 28) := set1_heap ((Below.heap_setCell _ ⟨b0 + 1, 0, none⟩ _ _ (show b0 + 1 + 1 ≠ b0 + 1 by omega)).trans V2)
  refine leaves_cons (f := 40) (args := #[.pointer (some ⟨b0 + 1, 0, none⟩), .pointer (some ⟨b0 + 1 + 1, 0, none⟩)]) (by simp) (by simp [go_sem]) ?_
  refine (caught (b0 + 1) (b0 + 1 + 1) 0 0 p c [] w6 Y1 Y2 (by omega)).mono ?_
  rintro e u' w'' ⟨rfl, rfl, rfl⟩
  have G8 := G7.trans e7
  obtain ⟨w8, hw8⟩ : ∃ w8, (((w6.alloc (.cells #[.int .i64 p, .int .i64 c] 85)).drew.setCell ⟨b0 + 1, 0, none⟩ (.int .i64 p)).setCell ⟨b0 + 1 + 1, 0, none⟩ (.int .i64 c)) = w8 := ⟨_, rfl⟩
  rw [hw8] at X0 X1 X2 G8 ⊢
  have y0 := box_cell X0 0
  have y1 := box_cell X0 1
  have y2 := box_cell X1 0
  have y3 := box_cell X2 0
  simp only [List.getElem?_toArray, List.getElem?_cons_succ, List.getElem?_cons_zero] at y0 y1 y2 y3
  rw [← hb0] at G8
  exact ⟨_, by simp [results, Tryd.results25, go_sem, y0, y1, y2, y3], G8, rfl⟩

/-- Parse, whole. -/
theorem parse_whole (A : Option Addr) (n cap : Nat) (l : List UInt8) (W : World) (hn : l.length = n) (hl : n ≤ 65536) (hcap : n ≤ cap) (hr : Row W A l) :
    Calls Tryd.prog 25 #[.slice A n cap] W (ParseOut l W) := by
  unfold ParseOut
  cases hx : lexS 0 l with
  | bad p =>
    have e : tl l = .bad p 2 := by unfold tl; rw [hx]
    rw [e]
    exact parse_err A n cap p 2 W (by decide) (lex_no A n cap l p _ hn hl hcap (hr.al P2 P1 P0) hx)
  | ok ts =>
    have e : tl l = progT (ts.length + 2) (fin ts n) := by unfold tl; rw [hx, hn]
    rw [e]
    cases hp : progT (ts.length + 2) (fin ts n) with
    | out => exact absurd (e.trans hp) (tl_ne l)
    | ok q r => exact parse_ok A n cap l ts q r W hn hl hcap hr hx hp
    | bad p c => exact parse_flt A n cap l ts p c W hn hl hcap hr hx hp
/-- Of too many bytes none is a program. -/
theorem parse_big (A : Option Addr) (n cap : Nat) (W : World) (hn : 65536 < (n : Int)) :
    Calls Tryd.prog 25 #[.slice A n cap] W fun e W' => Below W.heap.size W W' ∧ e = .returned (.tuple #[.agg #[.slice none 0 0, .slice none 0 0], .int .i64 (0 : Nat), .int .i64 (1 : Nat)]) :=
  parse_err A n cap 0 1 W (by decide) ((lex_big A n cap _ hn).mono fun e w' ⟨h1, h2⟩ => ⟨h1, h2 ▸ Below.refl _ _⟩)

end Go.Proofs.YtaajolemjgdfnaaDoor
