/-
  Texts PbK PbL PbM PbN LexC LexF LexL LexR LexM LexPl Inv PbO PbP: put together.
-/
import Derived.Test.YtppagjhmlgkamaaGreatDoorCz4
import Derived.Recover
import Derived.Test.YtppagjhmlgkamaaGreatDoorChecked
import Derived.WalkKit
import Derived.Lib.Hide
import Derived.Lib.OthersKept
import Derived.Lib.BytesEntry
import Derived.Deep.QuietTactic
import Derived.BigQuiet
import Derived.Deep.LoopGhost
import Derived.WalkMore
import Derived.Laws.OwnMore
import Derived.Laws.Rows
import Derived.Deep.RegionHeld3
import Derived.Deep.RegionHeldLaw
/-
  Package parse: a function.
-/
namespace Go.Proofs.YtppagjhmlgkamaaGreatDoor
open Go Go.RowKit Go.Lib

/-- A function's value. -/
def WV (lo : Nat) (W : World) (v : Value) (q : Fn) : Prop := ∃ vp vb, v = .agg #[.string q.s, vp, vb] ∧ NX lo W vp q.ps ∧ SX lo W vb q.b ∧ q.s.size ≤ 9223372036854775807
theorem WV.kp {lo lo' : Nat} {W W' : World} {v : Value} {q : Fn} (hv : WV lo W v q) (h : Kp lo W W') (hl : lo' ≤ lo) : WV lo' W' v q := by
  obtain ⟨vp, vb, e, h1, h2, h3⟩ := hv
  exact ⟨vp, vb, e, h1.kp h hl, h2.kp h hl, h3⟩
/-- What a call that reads a function has done. -/
def FP (rb g N cT : Nat) (T : List Tok) (W : World) (x : PR Fn) (e : Ending) (W' : World) : Prop :=
  match x with
  | .ok v r => (∃ vv, e = .returned vv ∧ WV W.heap.size W' vv v) ∧ (∃ i, Rd W' rb g N cT T i 0 ∧ T.drop i = r) ∧ Gr rb W W'
  | .bad p c => e = flt p c ∧ Gr rb W W'
  | .out => True
/-- Three cells that are stored one behind the other. -/
def put3 (W : World) (n : Nat) (a b c : Value) : World := ((W.setCell ⟨n, 0, none⟩ a).setCell ⟨n, 1, none⟩ b).setCell ⟨n, 2, none⟩ c
section
variable {W W' : World} {rb g N cT i o n lo : Nat} {T : List Tok} {a b c : Value}
theorem Rd.put3 (h : Rd W rb g N cT T i o) (hb : n ≠ rb) (hg : n ≠ g) : Rd (put3 W n a b c) rb g N cT T i o := ((h.set a hb hg).set b hb hg).set c hb hg
theorem Gr.put3 (h : Gr rb W W') (hb : W.heap.size ≤ n) : Gr rb W (put3 W' n a b c) := ((h.setNew a hb).setNew b hb).setNew c hb
theorem Kp.put3 (hb : n < lo) : Kp lo W (put3 W n a b c) := ((Kp.set a hb).trans (Kp.set b hb)).trans (Kp.set c hb)
theorem put3_heap {p q r : Value} {t : TypeId} (h : W.heap[n]? = some (.cells #[p, q, r] t)) : (put3 W n a b c).heap[n]? = some (.cells #[a, b, c] t) := by
  simp [Proofs.YtppagjhmlgkamaaGreatDoor.put3, World.setCell, Array.getElem?_modify, h]
theorem set3_at {p q r x : Value} {t : TypeId} (h : W.heap[n]? = some (.cells #[p, q, r] t)) :
    (W.setCell ⟨n, 1, none⟩ x).heap[n]? = some (.cells #[p, x, r] t) ∧ (W.setCell ⟨n, 2, none⟩ x).heap[n]? = some (.cells #[p, q, x] t) := by
  refine ⟨?_, ?_⟩ <;> simp [World.setCell, Array.getElem?_modify, h]
end

set_option maxRecDepth 100000 in
theorem fn_want {W : World} {rb g N cT i : Nat} {T : List Tok} (h : Rd W rb g N cT T i 0) (b1 : isT (T.drop i) [102, 117, 110, 99] = false) :
    Calls Tryz.prog 60 #[.pointer (some ⟨rb, 0, none⟩)] W (FP rb g N cT T W (.bad (hdT (T.drop i)).at_ 2)) := by
  have HW := Lib.hid (fun w2 (h2 : Rd w2 rb g N cT T i 0) => (show Calls Tryz.prog 91 #[.pointer (some ⟨rb, 0, none⟩), .string ⟨#[102, 117, 110, 99]⟩] w2 (fun e w' => e = flt (hdT (T.drop i)).at_ 2 ∧ Below w2.heap.size w2 w') from want_no h2 [102, 117, 110, 99] b1 _ rfl))
  have hrl := h.rlt
  have hgl := h.tok.1
  have h0 := h.alloc (.cells #[.string ⟨#[]⟩, .slice none 0 0, .slice none 0 0] 47)
  have B6 := heap_alloc_new W (.cells #[.string ⟨#[]⟩, .slice none 0 0, .slice none 0 0] 47)
  have g0 := (Gr.refl rb W).alloc (.cells #[.string ⟨#[]⟩, .slice none 0 0, .slice none 0 0] 47)
  have z0 : (W.alloc (.cells #[.string ⟨#[]⟩, .slice none 0 0, .slice none 0 0] 47)).heap.size = W.heap.size + 1 := by simp
  clear h b1
  go_enter Tryz.func60, Tryz.ntmps60
  go_upto_region 1 with fail
  obtain ⟨w0, hw0⟩ : ∃ W1, W.alloc (.cells #[.string ⟨#[]⟩, .slice none 0 0, .slice none 0 0] 47) = W1 := ⟨_, rfl⟩
  rw [hw0] at h0 B6 g0 z0 ⊢
  clear hw0
  go_wp2_with (go_at_call 91; ((with_reducible refine (HW.out _ h0).mono ?_); rintro e w1 ⟨rfl, e1⟩))
  exact ⟨rfl, rfl, g0.trans (Gr.of e1)⟩

set_option maxRecDepth 100000 in
theorem fn_name {W : World} {rb g N cT i : Nat} {T : List Tok} (h : Rd W rb g N cT T i 0) (b1 : isT (T.drop i) [102, 117, 110, 99] = true) (p c : Nat) (hv : nameT (T.drop (i + 1)) = .bad p c) :
    Calls Tryz.prog 60 #[.pointer (some ⟨rb, 0, none⟩)] W (FP rb g N cT T W (.bad p c)) := by
  have HW := Lib.hid (fun w2 (h2 : Rd w2 rb g N cT T i 0) => (show Calls Tryz.prog 91 #[.pointer (some ⟨rb, 0, none⟩), .string ⟨#[102, 117, 110, 99]⟩] w2 (fun e w' => e = .returned (.tuple #[]) ∧ Rd w' rb g N cT T (i + 1) 0 ∧ Gr rb w2 w') from want_yes h2 [102, 117, 110, 99] (by decide) b1))
  have HN := Lib.hid (fun W1 (h1 : Rd W1 rb g N cT T (i + 1) 0) => (show Calls Tryz.prog 92 #[.pointer (some ⟨rb, 0, none⟩)] W1 (NP rb g N cT 0 T W1 (.bad p c)) from hv ▸ nam_any h1))
  have hrl := h.rlt
  have hgl := h.tok.1
  have h0 := h.alloc (.cells #[.string ⟨#[]⟩, .slice none 0 0, .slice none 0 0] 47)
  have B6 := heap_alloc_new W (.cells #[.string ⟨#[]⟩, .slice none 0 0, .slice none 0 0] 47)
  have g0 := (Gr.refl rb W).alloc (.cells #[.string ⟨#[]⟩, .slice none 0 0, .slice none 0 0] 47)
  have z0 : (W.alloc (.cells #[.string ⟨#[]⟩, .slice none 0 0, .slice none 0 0] 47)).heap.size = W.heap.size + 1 := by simp
  clear h b1 hv
  go_enter Tryz.func60, Tryz.ntmps60
  go_upto_region 1 with fail
  obtain ⟨w0, hw0⟩ : ∃ W1, W.alloc (.cells #[.string ⟨#[]⟩, .slice none 0 0, .slice none 0 0] 47) = W1 := ⟨_, rfl⟩
  rw [hw0] at h0 B6 g0 z0 ⊢
  clear hw0
  go_wp2_with (first
    | (go_at_call 91; ((with_reducible refine (HW.out _ h0).mono ?_); rintro e wn ⟨rfl, hn, gn⟩))
    | (go_at_call 92; ((with_reducible refine (HN.out _ hn).mono ?_); rintro e w1 ⟨rfl, g1⟩)))
  exact ⟨rfl, rfl, g0.trans (gn.trans g1)⟩

set_option maxRecDepth 100000 in
theorem fn_sev {W : World} {rb g N cT i : Nat} {T : List Tok} (h : Rd W rb g N cT T i 0) (b1 : isT (T.drop i) [102, 117, 110, 99] = true) (s : ByteArray) (r1 : List Tok) (hv : nameT (T.drop (i + 1)) = .ok s r1) (p c : Nat)
    (HV : ∀ W2 i', Rd W2 rb g N cT T i' 0 → T.drop i' = r1 → Calls Tryz.prog 93 #[.pointer (some ⟨rb, 0, none⟩), .func (.func 92) #[.pointer (some ⟨rb, 0, none⟩)] #[]] W2 (MP rb g N cT 0 T W2 (.bad p c))) :
    Calls Tryz.prog 60 #[.pointer (some ⟨rb, 0, none⟩)] W (FP rb g N cT T W (.bad p c)) := by
  have HW := Lib.hid (fun w2 (h2 : Rd w2 rb g N cT T i 0) => (show Calls Tryz.prog 91 #[.pointer (some ⟨rb, 0, none⟩), .string ⟨#[102, 117, 110, 99]⟩] w2 (fun e w' => e = .returned (.tuple #[]) ∧ Rd w' rb g N cT T (i + 1) 0 ∧ Gr rb w2 w') from want_yes h2 [102, 117, 110, 99] (by decide) b1))
  have HN := Lib.hid (fun W1 (h1 : Rd W1 rb g N cT T (i + 1) 0) => (show Calls Tryz.prog 92 #[.pointer (some ⟨rb, 0, none⟩)] W1 (NP rb g N cT 0 T W1 (.ok s r1)) from hv ▸ nam_any h1))
  have HVV := Lib.hid HV
  have hrl := h.rlt
  have hgl := h.tok.1
  have h0 := h.alloc (.cells #[.string ⟨#[]⟩, .slice none 0 0, .slice none 0 0] 47)
  have B6 := heap_alloc_new W (.cells #[.string ⟨#[]⟩, .slice none 0 0, .slice none 0 0] 47)
  have g0 := (Gr.refl rb W).alloc (.cells #[.string ⟨#[]⟩, .slice none 0 0, .slice none 0 0] 47)
  have z0 : (W.alloc (.cells #[.string ⟨#[]⟩, .slice none 0 0, .slice none 0 0] 47)).heap.size = W.heap.size + 1 := by simp
  clear h b1 hv HV
  go_enter Tryz.func60, Tryz.ntmps60
  go_upto_region 1 with fail
  obtain ⟨w0, hw0⟩ : ∃ W1, W.alloc (.cells #[.string ⟨#[]⟩, .slice none 0 0, .slice none 0 0] 47) = W1 := ⟨_, rfl⟩
  rw [hw0] at h0 B6 g0 z0 ⊢
  clear hw0
  go_upto_region 3 with (first
    | (go_at_call 91; ((with_reducible refine (HW.out _ h0).mono ?_); rintro e wn ⟨rfl, hn, gn⟩))
    | (go_at_call 92; ((with_reducible refine (HN.out _ hn).mono ?_); rintro e w1 ⟨rfl, ⟨i1, h1, hd1⟩, g1, hsz⟩)))
  have zn := gn.size
  have z1 := g1.size
  have h2 := h1.alloc (.cells #[.string s, .slice none 0 0, .slice none 0 0] 47)
  have B7 := heap_alloc_new w1 (.cells #[.string s, .slice none 0 0, .slice none 0 0] 47)
  have g2 := ((g0.trans gn).trans g1).alloc (.cells #[.string s, .slice none 0 0, .slice none 0 0] 47)
  have z2 : (w1.alloc (.cells #[.string s, .slice none 0 0, .slice none 0 0] 47)).heap.size = w1.heap.size + 1 := by simp
  have B8 := (Below.heap_alloc w1 (.cells #[.string s, .slice none 0 0, .slice none 0 0] 47) W.heap.size (by omega)).trans ((g1.block (k := W.heap.size) (by omega) (by omega)).trans ((gn.block (k := W.heap.size) (by omega) (by omega)).trans B6))
  obtain ⟨w2, hw2⟩ : ∃ W1, w1.alloc (.cells #[.string s, .slice none 0 0, .slice none 0 0] 47) = W1 := ⟨_, rfl⟩
  rw [hw2] at h2 B7 g2 B8 z2 ⊢
  clear hw2
  obtain ⟨n3, hn3⟩ : ∃ n3, w1.heap.size = n3 := ⟨_, rfl⟩
  rw [hn3] at B7 z2 z1 ⊢
  go_wp2_with (go_at_call 93; ((with_reducible refine (HVV.out _ i1 h2 hd1).mono ?_); rintro e w5 ⟨rfl, g5⟩))
  exact ⟨rfl, rfl, g2.trans g5⟩

set_option maxRecDepth 100000 in
theorem fn_blk {W : World} {rb g N cT i : Nat} {T : List Tok} (h : Rd W rb g N cT T i 0) (b1 : isT (T.drop i) [102, 117, 110, 99] = true) (s : ByteArray) (r1 : List Tok) (hv : nameT (T.drop (i + 1)) = .ok s r1) (ps : List ByteArray) (r2 : List Tok)
    (HV : ∀ W2 i', Rd W2 rb g N cT T i' 0 → T.drop i' = r1 → Calls Tryz.prog 93 #[.pointer (some ⟨rb, 0, none⟩), .func (.func 92) #[.pointer (some ⟨rb, 0, none⟩)] #[]] W2 (MP rb g N cT 0 T W2 (.ok ps r2))) (p c : Nat)
    (HB : ∀ W2 i', Rd W2 rb g N cT T i' 0 → T.drop i' = r2 → Calls Tryz.prog 94 #[.pointer (some ⟨rb, 0, none⟩), .func (.func 62) #[.pointer (some ⟨rb, 0, none⟩)] #[]] W2 (BP rb g N cT 0 T W2 (.bad p c))) :
    Calls Tryz.prog 60 #[.pointer (some ⟨rb, 0, none⟩)] W (FP rb g N cT T W (.bad p c)) := by
  have HW := Lib.hid (fun w2 (h2 : Rd w2 rb g N cT T i 0) => (show Calls Tryz.prog 91 #[.pointer (some ⟨rb, 0, none⟩), .string ⟨#[102, 117, 110, 99]⟩] w2 (fun e w' => e = .returned (.tuple #[]) ∧ Rd w' rb g N cT T (i + 1) 0 ∧ Gr rb w2 w') from want_yes h2 [102, 117, 110, 99] (by decide) b1))
  have HN := Lib.hid (fun W1 (h1 : Rd W1 rb g N cT T (i + 1) 0) => (show Calls Tryz.prog 92 #[.pointer (some ⟨rb, 0, none⟩)] W1 (NP rb g N cT 0 T W1 (.ok s r1)) from hv ▸ nam_any h1))
  have HVV := Lib.hid HV
  have HBB := Lib.hid HB
  have hrl := h.rlt
  have hgl := h.tok.1
  have h0 := h.alloc (.cells #[.string ⟨#[]⟩, .slice none 0 0, .slice none 0 0] 47)
  have B6 := heap_alloc_new W (.cells #[.string ⟨#[]⟩, .slice none 0 0, .slice none 0 0] 47)
  have g0 := (Gr.refl rb W).alloc (.cells #[.string ⟨#[]⟩, .slice none 0 0, .slice none 0 0] 47)
  have z0 : (W.alloc (.cells #[.string ⟨#[]⟩, .slice none 0 0, .slice none 0 0] 47)).heap.size = W.heap.size + 1 := by simp
  clear h b1 hv HV HB
  go_enter Tryz.func60, Tryz.ntmps60
  go_upto_region 1 with fail
  obtain ⟨w0, hw0⟩ : ∃ W1, W.alloc (.cells #[.string ⟨#[]⟩, .slice none 0 0, .slice none 0 0] 47) = W1 := ⟨_, rfl⟩
  rw [hw0] at h0 B6 g0 z0 ⊢
  clear hw0
  go_upto_region 3 with (first
    | (go_at_call 91; ((with_reducible refine (HW.out _ h0).mono ?_); rintro e wn ⟨rfl, hn, gn⟩))
    | (go_at_call 92; ((with_reducible refine (HN.out _ hn).mono ?_); rintro e w1 ⟨rfl, ⟨i1, h1, hd1⟩, g1, hsz⟩)))
  have zn := gn.size
  have z1 := g1.size
  have h2 := h1.alloc (.cells #[.string s, .slice none 0 0, .slice none 0 0] 47)
  have B7 := heap_alloc_new w1 (.cells #[.string s, .slice none 0 0, .slice none 0 0] 47)
  have g2 := ((g0.trans gn).trans g1).alloc (.cells #[.string s, .slice none 0 0, .slice none 0 0] 47)
  have z2 : (w1.alloc (.cells #[.string s, .slice none 0 0, .slice none 0 0] 47)).heap.size = w1.heap.size + 1 := by simp
  have B8 := (Below.heap_alloc w1 (.cells #[.string s, .slice none 0 0, .slice none 0 0] 47) W.heap.size (by omega)).trans ((g1.block (k := W.heap.size) (by omega) (by omega)).trans ((gn.block (k := W.heap.size) (by omega) (by omega)).trans B6))
  obtain ⟨w2, hw2⟩ : ∃ W1, w1.alloc (.cells #[.string s, .slice none 0 0, .slice none 0 0] 47) = W1 := ⟨_, rfl⟩
  rw [hw2] at h2 B7 g2 B8 z2 ⊢
  clear hw2
  obtain ⟨n3, hn3⟩ : ∃ n3, w1.heap.size = n3 := ⟨_, rfl⟩
  rw [hn3] at B7 z2 z1 ⊢
  have HB7 := Lib.hid (fun w5 (g5 : Gr rb w2 w5) => (g5.block (lt_heap B7) (by omega)).trans B7)
  have HB8 := Lib.hid (fun w5 (g5 : Gr rb w2 w5) => (g5.block (lt_heap B8) (by omega)).trans B8)
  go_upto_region 4 with (go_at_call 93; ((with_reducible refine (HVV.out _ i1 h2 hd1).mono ?_); rintro e w5 ⟨⟨vv, rfl, hvp⟩, ⟨i5, h5, hd5⟩, g5⟩; obtain ⟨Ap, cp, el, _⟩ := id hvp; subst el; have c1 := box_cell (HB7.out w5 g5) 1; have f1 := box_frozen (HB7.out w5 g5) 1; simp only [List.getElem?_toArray, List.getElem?_cons_succ, List.getElem?_cons_zero] at c1))
  have z5 := g5.size
  have hl7 := lt_heap (HB7.out w5 g5)
  have hl8 := lt_heap (HB8.out w5 g5)
  have h6 := h5.set (b := n3) (j := 1) (.slice Ap ps.length cp) (by omega) (by omega)
  have g6 := (g2.trans g5).setNew (j := 1) (.slice Ap ps.length cp) (show W.heap.size ≤ n3 by omega)
  have B7 := (set3_at (x := .slice Ap ps.length cp) (HB7.out w5 g5)).1
  have B8 := (Below.heap_setCell w5 ⟨n3, 1, none⟩ (.slice Ap ps.length cp) W.heap.size (show W.heap.size ≠ n3 by omega)).trans (HB8.out w5 g5)
  have HK1 := Lib.hid (fun k (hk : k ≠ n3) => Below.heap_setCell w5 ⟨n3, 1, none⟩ (.slice Ap ps.length cp) k hk)
  have zz1 : (w5.setCell ⟨n3, 1, none⟩ (.slice Ap ps.length cp)).heap.size = w5.heap.size := by simp
  obtain ⟨w6, hw6⟩ : ∃ W1, (w5.setCell ⟨n3, 1, none⟩ (.slice Ap ps.length cp)) = W1 := ⟨_, rfl⟩
  rw [hw6] at h6 g6 B7 B8 HK1 zz1 ⊢
  clear hw6
  clear c1 f1 HB7 HB8 h5
  have hl7 := lt_heap B7
  have hl8 := lt_heap B8
  go_wp2_with (go_at_call 94; ((with_reducible refine (HBB.out _ i5 h6 hd5).mono ?_); rintro e w7 ⟨rfl, g7⟩))
  exact ⟨rfl, rfl, g6.trans g7⟩

set_option maxRecDepth 100000 in
theorem fn_ok {W : World} {rb g N cT i : Nat} {T : List Tok} (h : Rd W rb g N cT T i 0) (b1 : isT (T.drop i) [102, 117, 110, 99] = true) (s : ByteArray) (r1 : List Tok) (hv : nameT (T.drop (i + 1)) = .ok s r1) (ps : List ByteArray) (r2 : List Tok)
    (HV : ∀ W2 i', Rd W2 rb g N cT T i' 0 → T.drop i' = r1 → Calls Tryz.prog 93 #[.pointer (some ⟨rb, 0, none⟩), .func (.func 92) #[.pointer (some ⟨rb, 0, none⟩)] #[]] W2 (MP rb g N cT 0 T W2 (.ok ps r2))) (l : List Sm) (r : List Tok)
    (HB : ∀ W2 i', Rd W2 rb g N cT T i' 0 → T.drop i' = r2 → Calls Tryz.prog 94 #[.pointer (some ⟨rb, 0, none⟩), .func (.func 62) #[.pointer (some ⟨rb, 0, none⟩)] #[]] W2 (BP rb g N cT 0 T W2 (.ok l r))) :
    Calls Tryz.prog 60 #[.pointer (some ⟨rb, 0, none⟩)] W (FP rb g N cT T W (.ok ⟨s, ps, smSS l⟩ r)) := by
  have HW := Lib.hid (fun w2 (h2 : Rd w2 rb g N cT T i 0) => (show Calls Tryz.prog 91 #[.pointer (some ⟨rb, 0, none⟩), .string ⟨#[102, 117, 110, 99]⟩] w2 (fun e w' => e = .returned (.tuple #[]) ∧ Rd w' rb g N cT T (i + 1) 0 ∧ Gr rb w2 w') from want_yes h2 [102, 117, 110, 99] (by decide) b1))
  have HN := Lib.hid (fun W1 (h1 : Rd W1 rb g N cT T (i + 1) 0) => (show Calls Tryz.prog 92 #[.pointer (some ⟨rb, 0, none⟩)] W1 (NP rb g N cT 0 T W1 (.ok s r1)) from hv ▸ nam_any h1))
  have HVV := Lib.hid HV
  have HBB := Lib.hid HB
  have hrl := h.rlt
  have hgl := h.tok.1
  have h0 := h.alloc (.cells #[.string ⟨#[]⟩, .slice none 0 0, .slice none 0 0] 47)
  have B6 := heap_alloc_new W (.cells #[.string ⟨#[]⟩, .slice none 0 0, .slice none 0 0] 47)
  have g0 := (Gr.refl rb W).alloc (.cells #[.string ⟨#[]⟩, .slice none 0 0, .slice none 0 0] 47)
  have z0 : (W.alloc (.cells #[.string ⟨#[]⟩, .slice none 0 0, .slice none 0 0] 47)).heap.size = W.heap.size + 1 := by simp
  clear h b1 hv HV HB
  go_enter Tryz.func60, Tryz.ntmps60
  go_upto_region 1 with fail
  obtain ⟨w0, hw0⟩ : ∃ W1, W.alloc (.cells #[.string ⟨#[]⟩, .slice none 0 0, .slice none 0 0] 47) = W1 := ⟨_, rfl⟩
  rw [hw0] at h0 B6 g0 z0 ⊢
  clear hw0
  go_upto_region 3 with (first
    | (go_at_call 91; ((with_reducible refine (HW.out _ h0).mono ?_); rintro e wn ⟨rfl, hn, gn⟩))
    | (go_at_call 92; ((with_reducible refine (HN.out _ hn).mono ?_); rintro e w1 ⟨rfl, ⟨i1, h1, hd1⟩, g1, hsz⟩)))
  have zn := gn.size
  have z1 := g1.size
  have h2 := h1.alloc (.cells #[.string s, .slice none 0 0, .slice none 0 0] 47)
  have B7 := heap_alloc_new w1 (.cells #[.string s, .slice none 0 0, .slice none 0 0] 47)
  have g2 := ((g0.trans gn).trans g1).alloc (.cells #[.string s, .slice none 0 0, .slice none 0 0] 47)
  have z2 : (w1.alloc (.cells #[.string s, .slice none 0 0, .slice none 0 0] 47)).heap.size = w1.heap.size + 1 := by simp
  have B8 := (Below.heap_alloc w1 (.cells #[.string s, .slice none 0 0, .slice none 0 0] 47) W.heap.size (by omega)).trans ((g1.block (k := W.heap.size) (by omega) (by omega)).trans ((gn.block (k := W.heap.size) (by omega) (by omega)).trans B6))
  obtain ⟨w2, hw2⟩ : ∃ W1, w1.alloc (.cells #[.string s, .slice none 0 0, .slice none 0 0] 47) = W1 := ⟨_, rfl⟩
  rw [hw2] at h2 B7 g2 B8 z2 ⊢
  clear hw2
  obtain ⟨n3, hn3⟩ : ∃ n3, w1.heap.size = n3 := ⟨_, rfl⟩
  rw [hn3] at B7 z2 z1 ⊢
  have HB7 := Lib.hid (fun w5 (g5 : Gr rb w2 w5) => (g5.block (lt_heap B7) (by omega)).trans B7)
  have HB8 := Lib.hid (fun w5 (g5 : Gr rb w2 w5) => (g5.block (lt_heap B8) (by omega)).trans B8)
  go_upto_region 4 with (go_at_call 93; ((with_reducible refine (HVV.out _ i1 h2 hd1).mono ?_); rintro e w5 ⟨⟨vv, rfl, hvp⟩, ⟨i5, h5, hd5⟩, g5⟩; obtain ⟨Ap, cp, el, _⟩ := id hvp; subst el; have c1 := box_cell (HB7.out w5 g5) 1; have f1 := box_frozen (HB7.out w5 g5) 1; simp only [List.getElem?_toArray, List.getElem?_cons_succ, List.getElem?_cons_zero] at c1))
  have z5 := g5.size
  have hl7 := lt_heap (HB7.out w5 g5)
  have hl8 := lt_heap (HB8.out w5 g5)
  have h6 := h5.set (b := n3) (j := 1) (.slice Ap ps.length cp) (by omega) (by omega)
  have g6 := (g2.trans g5).setNew (j := 1) (.slice Ap ps.length cp) (show W.heap.size ≤ n3 by omega)
  have B7 := (set3_at (x := .slice Ap ps.length cp) (HB7.out w5 g5)).1
  have B8 := (Below.heap_setCell w5 ⟨n3, 1, none⟩ (.slice Ap ps.length cp) W.heap.size (show W.heap.size ≠ n3 by omega)).trans (HB8.out w5 g5)
  have HK1 := Lib.hid (fun k (hk : k ≠ n3) => Below.heap_setCell w5 ⟨n3, 1, none⟩ (.slice Ap ps.length cp) k hk)
  have zz1 : (w5.setCell ⟨n3, 1, none⟩ (.slice Ap ps.length cp)).heap.size = w5.heap.size := by simp
  obtain ⟨w6, hw6⟩ : ∃ W1, (w5.setCell ⟨n3, 1, none⟩ (.slice Ap ps.length cp)) = W1 := ⟨_, rfl⟩
  rw [hw6] at h6 g6 B7 B8 HK1 zz1 ⊢
  clear hw6
  clear c1 f1 HB7 HB8 h5
  have hl7 := lt_heap B7
  have hl8 := lt_heap B8
  have HB7 := Lib.hid (fun w5 (g5 : Gr rb w6 w5) => (g5.block (lt_heap B7) (by omega)).trans B7)
  have HB8 := Lib.hid (fun w5 (g5 : Gr rb w6 w5) => (g5.block (lt_heap B8) (by omega)).trans B8)
  go_upto_region 5 with (go_at_call 94; ((with_reducible refine (HBB.out _ i5 h6 hd5).mono ?_); rintro e w7 ⟨⟨vv, rfl, hvb⟩, ⟨i7, h7, hd7⟩, g7⟩; obtain ⟨Ab, cb, el, _⟩ := id hvb; subst el; have c2 := box_cell (HB7.out w7 g7) 2; have f2 := box_frozen (HB7.out w7 g7) 2; simp only [List.getElem?_toArray, List.getElem?_cons_succ, List.getElem?_cons_zero] at c2))
  have z7 := g7.size
  have hl7b := lt_heap (HB7.out w7 g7)
  have hl8b := lt_heap (HB8.out w7 g7)
  have h8 := h7.set (b := n3) (j := 2) (.slice Ab (smSS l).len cb) (by omega) (by omega)
  have g8 := (g6.trans g7).setNew (j := 2) (.slice Ab (smSS l).len cb) (show W.heap.size ≤ n3 by omega)
  have B7 := (set3_at (x := .slice Ab (smSS l).len cb) (HB7.out w7 g7)).2
  have B8 := (Below.heap_setCell w7 ⟨n3, 2, none⟩ (.slice Ab (smSS l).len cb) W.heap.size (show W.heap.size ≠ n3 by omega)).trans (HB8.out w7 g7)
  have HK2 := Lib.hid (fun k (hk : k ≠ n3) => Below.heap_setCell w7 ⟨n3, 2, none⟩ (.slice Ab (smSS l).len cb) k hk)
  have zz2 : (w7.setCell ⟨n3, 2, none⟩ (.slice Ab (smSS l).len cb)).heap.size = w7.heap.size := by simp
  obtain ⟨w8, hw6⟩ : ∃ W1, (w7.setCell ⟨n3, 2, none⟩ (.slice Ab (smSS l).len cb)) = W1 := ⟨_, rfl⟩
  rw [hw6] at h8 g8 B7 B8 HK2 zz2 ⊢
  clear hw6
  clear c2 f2 HB7 HB8
  have hP1 := hvp.kp (lo' := w0.heap.size) (W' := w8) ⟨by omega, fun k hk hl => (HK2.out k (by omega)).trans ((g7.block (by omega) (by omega)).trans (HK1.out k (by omega)))⟩ (by omega)
  have hB1 := hvb.kp (lo' := w0.heap.size) (W' := w8) ⟨by omega, fun k hk hl => HK2.out k (by omega)⟩ (by omega)
  have c0 := box_cell B8 0
  have f0 := box_frozen B8 0
  have d0 := box_cell B7 0
  have c1 := box_cell B8 1
  have f1 := box_frozen B8 1
  have d1 := box_cell B7 1
  have c2 := box_cell B8 2
  have f2 := box_frozen B8 2
  have d2 := box_cell B7 2
  simp only [List.getElem?_toArray, List.getElem?_cons_succ, List.getElem?_cons_zero] at c0 d0 c1 d1 c2 d2
  have hP := put3_heap (a := .string s) (b := .slice Ap ps.length cp) (c := .slice Ab (smSS l).len cb) B8
  have hfin : FP rb g N cT T W (.ok ⟨s, ps, smSS l⟩ r) (.returned (.agg #[.string s, .slice Ap ps.length cp, .slice Ab (smSS l).len cb])) (Proofs.YtppagjhmlgkamaaGreatDoor.put3 w8 W.heap.size (.string s) (.slice Ap ps.length cp) (.slice Ab (smSS l).len cb)) :=
    ⟨⟨_, rfl, _, _, rfl, hP1.kp (Kp.put3 (by omega)) (by omega), hB1.kp (Kp.put3 (by omega)) (by omega), hsz⟩, ⟨i7, h8.put3 (by omega) (by omega), hd7⟩, g8.put3 (Nat.le_refl _)⟩
  go_wp2
  obtain ⟨wz, hwz⟩ : ∃ W5, (Proofs.YtppagjhmlgkamaaGreatDoor.put3 w8 W.heap.size (.string s) (.slice Ap ps.length cp) (.slice Ab (smSS l).len cb)) = W5 := ⟨_, rfl⟩
  show bodyPost _ _ _ _ _ (Proofs.YtppagjhmlgkamaaGreatDoor.put3 w8 W.heap.size (.string s) (.slice Ap ps.length cp) (.slice Ab (smSS l).len cb))
  rw [hwz] at hP hfin ⊢
  have p0 := box_cell hP 0
  have p1 := box_cell hP 1
  have p2 := box_cell hP 2
  simp only [List.getElem?_toArray, List.getElem?_cons_succ, List.getElem?_cons_zero] at p0 p1 p2
  exact bodyPost_ret (v := .agg #[.string s, .slice Ap ps.length cp, .slice Ab (smSS l).len cb]) (by simp [results, Tryz.results60, go_sem, p0, p1, p2]) rfl hfin

/-- A function, whole. -/
theorem func_any {W : World} {rb g N cT i : Nat} {T : List Tok} (h : Rd W rb g N cT T i 0) (n : Nat) (hx : funcT n (T.drop i) ≠ .out) :
    Calls Tryz.prog 60 #[.pointer (some ⟨rb, 0, none⟩)] W (FP rb g N cT T W (funcT n (T.drop i))) := by
  unfold funcT at hx ⊢
  cases b1 : isT (T.drop i) [102, 117, 110, 99] with
  | false =>
    rw [want_isnt _ _ b1]
    exact fn_want h b1
  | true =>
    rw [want_is _ _ b1, drop_tail] at hx ⊢
    simp only [PR.bind] at hx ⊢
    cases hv : nameT (T.drop (i + 1)) with
    | out => exact absurd hv (nam_ne _)
    | bad p c => exact fn_name h b1 p c hv
    | ok s r1 =>
      rw [hv] at hx
      simp only at hx ⊢
      have HV : ∀ x, severalT nameT n 0 r1 = x → x ≠ .out → ∀ W2 i', Rd W2 rb g N cT T i' 0 → T.drop i' = r1 → Calls Tryz.prog 93 #[.pointer (some ⟨rb, 0, none⟩), ovN rb] W2 (MP rb g N cT 0 T W2 x) := by
        intro x hr hne W2 i' h2 hd
        have := names_any h2 n (by rw [hd, hr]; exact hne)
        rw [hd, hr] at this
        exact this
      cases hs : severalT nameT n 0 r1 with
      | out => rw [hs] at hx; exact absurd rfl hx
      | bad p c => exact fn_sev h b1 s r1 hv p c (HV _ hs (fun e => by cases e))
      | ok ps r2 =>
        have HV := HV _ hs (fun e => by cases e)
        rw [hs] at hx
        simp only at hx ⊢
        have HB : ∀ x, blockT (outerT n 1) n 0 r2 = x → x ≠ .out → ∀ W2 i', Rd W2 rb g N cT T i' 0 → T.drop i' = r2 → Calls Tryz.prog 94 #[.pointer (some ⟨rb, 0, none⟩), .func (.func 62) #[.pointer (some ⟨rb, 0, none⟩)] #[]] W2 (BP rb g N cT 0 T W2 x) := by
          intro x hr hne W2 i' h2 hd
          have := blockO_any h2 (outerT n 1) n (by rw [hd, hr]; exact hne) (fun j v r h => outer_left h) (fun W3 i3 h3 hx3 => outerS_any h3 n hx3)
          rw [hd, hr] at this
          exact this
        cases hb : blockT (outerT n 1) n 0 r2 with
        | out => rw [hb] at hx; exact absurd rfl hx
        | bad p c => exact fn_blk h b1 s r1 hv ps r2 HV p c (HB _ hb (fun e => by cases e))
        | ok l r => exact fn_ok h b1 s r1 hv ps r2 HV l r (HB _ hb (fun e => by cases e))

end Go.Proofs.YtppagjhmlgkamaaGreatDoor

/-
  Package parse: functions that are gathered in a row of the call's own; a program in memory.
-/
namespace Go.Proofs.YtppagjhmlgkamaaGreatDoor
open Go Go.RowKit Go.Lib

theorem func_ls (n : Nat) (ts : List Tok) : Ls ts.length (funcT n ts) :=
  (want_fn (by decide) ts).ls.bind fun _ r hr => Ls.of ((name_lq r).bind fun s r1 h1 => ((several_lq name_lq n 0 r1).mono h1).bind fun ps r2 h2 =>
    ((block_lq (fun ts => (stmt_ls n 1 ts).le.bind fun t r hr => by
      split
      · trivial
      · exact hr) n 0 r2).mono h2).bind fun b r3 h3 => h3) hr
theorem func_left {n : Nat} {ts : List Tok} {v : Fn} {r : List Tok} (h : funcT n ts = .ok v r) : r.length < ts.length := by
  have h1 := func_ls n ts
  rw [h] at h1
  exact h1

abbrev NY (p : Nat → Prop) [DecidablePred p] (W : World) (v : Value) (l : List ByteArray) : Prop := RowV (PsIn (erp p W) l) W.heap.size l.length v
section
variable {p q : Nat → Prop} [DecidablePred p] [DecidablePred q] {W W' : World} {v : Value} {l : List ByteArray} {lo : Nat}
theorem NY.kp (hv : NY p W v l) (hs : W.heap.size ≤ W'.heap.size) (hk : ∀ k, p k → k < W.heap.size → W'.heap[k]? = W.heap[k]?) (hp : ∀ k, p k → k < W.heap.size → q k) : NY q W' v l :=
  RowV.imp hv hs fun _ _ hb hq => PsIn.ext (fun b j u hb hc => by
    rw [erp_cell] at hc ⊢
    by_cases e : p b
    · rw [if_pos e] at hc
      rw [if_pos (hp b e hb), World.cell?_of_block (a := ⟨b, j, none⟩) (hk b e hb)]
      exact hc
    · rw [if_neg e] at hc; cases hc) hb hq
theorem NY.of_nx (hv : NX lo W v l) (hk : Kp lo W W') (hp : ∀ k, lo ≤ k → k < W.heap.size → q k) : NY q W' v l :=
  RowV.imp hv hk.size fun _ _ hb hq => PsIn.ext (fun b j u hb hc => by
    rw [er_cell] at hc
    rw [erp_cell]
    by_cases e : b < lo
    · rw [if_pos e] at hc; cases hc
    · rw [if_neg e] at hc
      rw [if_pos (hp b (by omega) hb), World.cell?_of_block (a := ⟨b, j, none⟩) (hk.block b (by omega) hb)]
      exact hc) hb hq
theorem NX.of_ny (hv : NY p W v l) (hs : W.heap.size ≤ W'.heap.size) (hk : ∀ k, p k → k < W.heap.size → W'.heap[k]? = W.heap[k]?) (hp : ∀ k, p k → lo ≤ k) : NX lo W' v l :=
  RowV.imp hv hs fun _ _ hb hq => PsIn.ext (fun b j u hb hc => by
    rw [erp_cell] at hc
    rw [er_cell]
    by_cases e : p b
    · rw [if_pos e] at hc
      have := hp b e
      rw [if_neg (by omega), World.cell?_of_block (a := ⟨b, j, none⟩) (hk b e hb)]
      exact hc
    · rw [if_neg e] at hc; cases hc) hb hq
end
/-- The cells of functions that lie one behind the other. -/
def fCs (p : Nat → Prop) [DecidablePred p] (W : World) : List Fn → List Value → Prop
  | [] => fun cs => cs = []
  | t :: r => fun cs => ∃ vp vb rest, cs = .string t.s :: vp :: vb :: rest ∧ NY p W vp t.ps ∧ SY p W vb t.b ∧ t.s.size ≤ 9223372036854775807 ∧ fCs p W r rest
/-- Functions in a slice, in blocks from lo on. -/
abbrev FX (lo : Nat) (W : World) (v : Value) (l : List Fn) : Prop := RowV (FsIn W.heap.size (er lo W) l) W.heap.size l.length v
theorem FsIn.ext {B B' : Nat} {W W' : World} (hB : B ≤ B') (h : ∀ b j v, b < B → W.cell? ⟨b, j, none⟩ = some v → W'.cell? ⟨b, j, none⟩ = some v) : ∀ {l : List Fn} {b o : Nat}, b < B → FsIn B W l b o → FsIn B' W' l b o
  | [], _, _, _, _ => trivial
  | _ :: _, _, _, hb, ⟨h0, ⟨v, h1, hp⟩, ⟨v', h2, hs⟩, h3, hr⟩ =>
    ⟨h _ _ _ hb h0, ⟨v, h _ _ _ hb h1, hp.imp hB fun _ _ hb' hq => PsIn.ext h hb' hq⟩, ⟨v', h _ _ _ hb h2, hs.imp hB fun _ _ hb' hq => SS.In.ext hB h hb' hq⟩, h3, FsIn.ext hB h hb hr⟩
theorem FX.kp {lo lo' : Nat} {W W' : World} {v : Value} {l : List Fn} (hv : FX lo W v l) (h : Kp lo W W') (hl : lo' ≤ lo) : FX lo' W' v l := RowV.imp hv h.size fun _ _ hb hp => FsIn.ext h.size (er_ext h hl) hb hp
theorem FX.fv {lo : Nat} {W : World} {v : Value} {l : List Fn} (h : FX lo W v l) : FV W.heap.size W v l := RowV.imp h (Nat.le_refl _) fun _ _ hb hp => FsIn.ext (Nat.le_refl _) (fun _ _ _ _ hc => er_sub hc) hb hp
theorem fx_nil (lo : Nat) (W : World) : FX lo W (.slice none 0 0) [] := ⟨none, 0, rfl, Nat.le_refl _, by decide, fun h => by simp at h⟩
section
variable {p q : Nat → Prop} [DecidablePred p] [DecidablePred q] {W W' : World}
theorem fCs.kp (hs : W.heap.size ≤ W'.heap.size) (hk : ∀ k, p k → k < W.heap.size → W'.heap[k]? = W.heap[k]?) (hp : ∀ k, p k → k < W.heap.size → q k) : ∀ {l : List Fn} {cs : List Value}, fCs p W l cs → fCs q W' l cs
  | [], _, h => h
  | _ :: _, _, ⟨vp, vb, rest, e, h1, h2, h3, hr⟩ => ⟨vp, vb, rest, e, h1.kp hs hk hp, h2.kp hs hk hp, h3, fCs.kp hs hk hp hr⟩
theorem fCs.snoc {t : Fn} {vp vb : Value} (h1 : NY p W vp t.ps) (h2 : SY p W vb t.b) (h3 : t.s.size ≤ 9223372036854775807) : ∀ {l : List Fn} {cs : List Value}, fCs p W l cs → fCs p W (l ++ [t]) (cs ++ [.string t.s, vp, vb])
  | [], cs, h => by rw [show cs = [] from h]; exact ⟨vp, vb, [], rfl, h1, h2, h3, rfl⟩
  | _ :: _, cs, ⟨vp', vb', rest, e', g1, g2, g3, hr⟩ => ⟨vp', vb', rest ++ _, by rw [e']; rfl, g1, g2, g3, fCs.snoc h1 h2 h3 hr⟩
theorem fCs.in_ {lo g : Nat} (hp : ∀ k, p k → lo ≤ k) : ∀ {l : List Fn} {cs : List Value} {o : Nat}, fCs p W l cs → (∀ j u, cs[j]? = some u → (er lo W).cell? ⟨g, o + j, none⟩ = some u) → FsIn W.heap.size (er lo W) l g o
  | [], _, _, _, _ => trivial
  | t :: r, _, o, ⟨vp, vb, rest, e1, h1, h2, h3, hr⟩, hq => by
    subst e1
    have hvp : NX lo W vp t.ps := NX.of_ny h1 (Nat.le_refl _) (fun _ _ _ => rfl) hp
    have hvb : SX lo W vb t.b := SX.of_sy h2 (Nat.le_refl _) (fun _ _ _ => rfl) hp
    exact ⟨hq 0 _ rfl, ⟨_, hq 1 _ rfl, hvp⟩, ⟨_, hq 2 _ rfl, hvb⟩, h3, fCs.in_ hp hr fun j u hu => by
      rw [show o + 3 + j = o + (j + 3) by omega]
      exact hq (j + 3) u (by simpa using hu)⟩
end
/-- A row of the call's own that holds functions. -/
theorem row_fx {p : Nat → Prop} [DecidablePred p] {W : World} {base lo n : Nat} {e : TypeId} {v : Value} {l : List Fn} {cs : List Value} (h : W.ownsRow base e 3 v n cs) (hb : lo ≤ base) (hc : fCs p W l cs) (hp : ∀ k, p k → lo ≤ k) (hn : n = l.length) : FX lo W v l := by
  rcases h.2 with ⟨rfl, rfl⟩ | ⟨g, cap, cur, rfl, hg, hh, hnc, hcm, hrest⟩
  · have hl : l = [] := List.eq_nil_of_length_eq_zero hn.symm
    subst hl
    exact fx_nil lo W
  · subst hn
    refine ⟨some ⟨g, 0, none⟩, cap, rfl, hnc, by unfold maxLen at hcm; omega, fun _ => ⟨g, 0, rfl, (h.lt g rfl).2, fCs.in_ hp hc fun j u hu => ?_⟩⟩
    have hcj := h.cells (g := g) rfl j u hu
    rw [show (⟨g, 0, none⟩ : Addr).add j = ⟨g, j, none⟩ by unfold Addr.add; split <;> simp_all] at hcj
    rw [Nat.zero_add, er_cell, if_neg (by have := (h.lt g rfl).1; omega)]
    exact hcj

section
variable {wr w3 w4 : World} {O : Obj} {rb g N cT i o n L : Nat} {T : List Tok} {E : TypeId} {vv v1 : Value} {cs : List Value}
/-- What one thing more leaves as it was. -/
theorem low_step {size : Nat} (hL : L ≤ wr.heap.size) (hown : wr.ownsRow L E size vv n cs) (g3 : Gr rb wr w3) (h3 : Rd w3 rb g N cT T i o)
    (hgrow : (w3.alloc O).grownBy w4 vv.ownBlock) (hat : ∀ k, v1.ownBlock = some k → vv.ownBlock = some k ∨ (w3.alloc O).heap.size ≤ k) (hrl : rb < L) (hgl : g < L) :
    Rd w4 rb g N cT T i o ∧ (∀ W, Gr rb W wr → W.heap.size ≤ L → Gr rb W w4) ∧ (∀ k, k < L → k ≠ rb → w4.heap[k]? = wr.heap[k]?) ∧ wr.heap.size ≤ w4.heap.size ∧
      Kp wr.heap.size w3 w4 ∧ (∀ k, wr.heap.size ≤ k → k < w3.heap.size → rowp L v1 k) ∧ (∀ k, rowp L vv k → k < wr.heap.size → w4.heap[k]? = wr.heap[k]?) ∧ (∀ k, rowp L vv k → k < wr.heap.size → rowp L v1 k) := by
  have z2 := g3.size
  have z3 : (w3.alloc O).heap.size = w3.heap.size + 1 := by simp
  have z4 := World.grownBy.size hgrow
  have hrow := hown.lt
  have hs := low_size hL
  obtain ⟨a, b⟩ := app_step (W := low L wr) (gr_low hL) (fun k hk => by rw [hs]; exact (hrow k hk).1) g3 h3 hgrow (by rw [hs]; exact hrl) (by rw [hs]; exact hgl)
  have hba : ∀ k, k < w3.heap.size → vv.ownBlock ≠ some k → w4.heap[k]? = w3.heap[k]? := fun k hk hne => (World.grownBy.block hgrow k (by omega) (fun e => hne e.symm)).trans (Below.heap_alloc w3 O k hk)
  refine ⟨a, fun W hG hW => Gr.low hL hG hW b, fun k hk hne => (b.block (by rw [hs]; exact hk) hne).trans (low_block hL hk), by omega, ⟨by omega, fun k hk hl => hba k hl (fun e => by have := (hrow k e).2; omega)⟩, fun k hk hl => ⟨by omega, fun e => ?_⟩,
    fun k hk hl => (hba k (by omega) hk.2).trans (g3.block hl (by have := hk.1; omega)), fun k hk hl => ⟨hk.1, fun e => ?_⟩⟩
  · rcases hat k e with e | e
    · have := (hrow k e).2; omega
    · omega
  · rcases hat k e with e | e
    · exact hk.2 e
    · omega
/-- One more function; one more statement. -/
abbrev newf (q : Fn) (vp vb : Value) : List Value := [.string q.s, vp, vb]
theorem fn_low {l : List Fn} {q : Fn} {vp vb : Value} (hL : L ≤ wr.heap.size) (hown : wr.ownsRow L E 3 vv n cs) (hx : fCs (rowp L vv) wr l cs) (g3 : Gr rb wr w3) (hv1 : NX wr.heap.size w3 vp q.ps) (hv2 : SX wr.heap.size w3 vb q.b) (hsz : q.s.size ≤ 9223372036854775807) (h3 : Rd w3 rb g N cT T i o)
    (hgrow : (w3.alloc O).grownBy w4 vv.ownBlock) (hat : ∀ k, v1.ownBlock = some k → vv.ownBlock = some k ∨ (w3.alloc O).heap.size ≤ k) (hrl : rb < L) (hgl : g < L) :
    Rd w4 rb g N cT T i o ∧ (∀ W, Gr rb W wr → W.heap.size ≤ L → Gr rb W w4) ∧ (∀ k, k < L → k ≠ rb → w4.heap[k]? = wr.heap[k]?) ∧ wr.heap.size ≤ w4.heap.size ∧ fCs (rowp L v1) w4 (l ++ [q]) (cs ++ newf q vp vb) := by
  obtain ⟨a, b, c, d, e1, e2, e3, e4⟩ := low_step hL hown g3 h3 hgrow hat hrl hgl
  exact ⟨a, b, c, d, fCs.snoc (NY.of_nx hv1 e1 e2) (SY.of_sx hv2 e1 e2) hsz (hx.kp d e3 e4)⟩
theorem st_low {l : List Sm} {t : Sm} {vl vx vy : Value} (hL : L ≤ wr.heap.size) (hown : wr.ownsRow L E 6 vv n cs) (hx : tCs (rowp L vv) wr l cs) (g3 : Gr rb wr w3) (hv1 : EX wr.heap.size w3 vl t.l) (hv2 : SX wr.heap.size w3 vx t.x) (hv3 : SX wr.heap.size w3 vy t.y) (hok : okS t) (h3 : Rd w3 rb g N cT T i o)
    (hgrow : (w3.alloc O).grownBy w4 vv.ownBlock) (hat : ∀ k, v1.ownBlock = some k → vv.ownBlock = some k ∨ (w3.alloc O).heap.size ≤ k) (hrl : rb < L) (hgl : g < L) :
    Rd w4 rb g N cT T i o ∧ (∀ W, Gr rb W wr → W.heap.size ≤ L → Gr rb W w4) ∧ (∀ k, k < L → k ≠ rb → w4.heap[k]? = wr.heap[k]?) ∧ wr.heap.size ≤ w4.heap.size ∧ tCs (rowp L v1) w4 (l ++ [t]) (cs ++ newt t vl vx vy) := by
  obtain ⟨a, b, c, d, e1, e2, e3, e4⟩ := low_step hL hown g3 h3 hgrow hat hrl hgl
  exact ⟨a, b, c, d, tCs.snoc (EY.of_ex hv1 e1 e2) (SY.of_sx hv2 e1 e2) (SY.of_sx hv3 e1 e2) hok (hx.kp d e3 e4)⟩
end
theorem newf_one (q : Fn) (A B : Option Addr) (a b a' b' : Nat) : ∀ u ∈ newf q (.slice A a a') (.slice B b b'), u.oneCell' = true := by
  intro u hu
  simp only [newf, List.mem_cons, List.not_mem_nil, or_false] at hu
  rcases hu with rfl | rfl | rfl <;> rfl
theorem newf_cells (w3 : World) (q : Fn) (x y : Value) : ∀ j u, (newf q x y)[j]? = some u → (w3.alloc (.cells #[.string q.s, x, y] 47)).cell? ((⟨w3.heap.size, 0, none⟩ : Addr).add j) = some u := by
  intro j u hu
  rw [show (⟨w3.heap.size, 0, none⟩ : Addr).add j = ⟨w3.heap.size, j, none⟩ by unfold Addr.add; split <;> simp_all, box_cell (heap_alloc_new w3 _)]
  simpa using hu
theorem fnInfo : (Tryz.prog.info? 47).map (fun i => (i.zero, i.size, i.bytes)) = some (some (.agg #[.string ⟨#[]⟩, .slice none 0 0, .slice none 0 0]), 3, 64) := by kernel_rfl

/-- A program's value. -/
def GV (lo : Nat) (W : World) (v : Value) (q : Pg) : Prop := ∃ vf vm, v = .agg #[vf, vm] ∧ FX lo W vf q.fs ∧ SX lo W vm q.m
theorem GV.kp {lo lo' : Nat} {W W' : World} {v : Value} {q : Pg} (hv : GV lo W v q) (h : Kp lo W W') (hl : lo' ≤ lo) : GV lo' W' v q := by
  obtain ⟨vf, vm, e, h1, h2⟩ := hv
  exact ⟨vf, vm, e, h1.kp h hl, h2.kp h hl⟩
theorem GV.pgv {lo : Nat} {W : World} {v : Value} {q : Pg} (hv : GV lo W v q) : PgV W.heap.size W v q := by
  obtain ⟨vf, vm, rfl, h1, h2⟩ := hv
  obtain ⟨A, c, e1, _⟩ := id h1
  obtain ⟨A', c', e2, _⟩ := id h2
  subst e1 e2
  exact ⟨A, c, A', c', rfl, h1.fv, h2.sv⟩
/-- What a call that reads a program has done. -/
def QP (rb g N cT : Nat) (T : List Tok) (W : World) (x : PR Pg) (e : Ending) (W' : World) : Prop :=
  match x with
  | .ok v r => (∃ vv, e = .returned vv ∧ GV W.heap.size W' vv v) ∧ (∃ i, Rd W' rb g N cT T i 0 ∧ T.drop i = r) ∧ Gr rb W W'
  | .bad p c => e = flt p c ∧ Gr rb W W'
  | .out => True
/-- Two cells that are stored one behind the other. -/
def put2 (W : World) (n : Nat) (a b : Value) : World := (W.setCell ⟨n, 0, none⟩ a).setCell ⟨n, 1, none⟩ b
section
variable {W W' : World} {rb g N cT i o n lo : Nat} {T : List Tok} {a b : Value}
theorem Rd.put2 (h : Rd W rb g N cT T i o) (hb : n ≠ rb) (hg : n ≠ g) : Rd (put2 W n a b) rb g N cT T i o := (h.set a hb hg).set b hb hg
theorem Gr.put2 (h : Gr rb W W') (hb : W.heap.size ≤ n) : Gr rb W (put2 W' n a b) := (h.setNew a hb).setNew b hb
theorem Kp.put2 (hb : n < lo) : Kp lo W (put2 W n a b) := (Kp.set a hb).trans (Kp.set b hb)
theorem put2_heap {p q : Value} {t : TypeId} (h : W.heap[n]? = some (.cells #[p, q] t)) : (put2 W n a b).heap[n]? = some (.cells #[a, b] t) := by
  simp [Proofs.YtppagjhmlgkamaaGreatDoor.put2, World.setCell, Array.getElem?_modify, h]
theorem set2_at {p q x : Value} {t : TypeId} (h : W.heap[n]? = some (.cells #[p, q] t)) :
    (W.setCell ⟨n, 0, none⟩ x).heap[n]? = some (.cells #[x, q] t) ∧ (W.setCell ⟨n, 1, none⟩ x).heap[n]? = some (.cells #[p, x] t) := by
  refine ⟨?_, ?_⟩ <;> simp [World.setCell, Array.getElem?_modify, h]
end

end Go.Proofs.YtppagjhmlgkamaaGreatDoor

/-
  Package parse: a program.
-/
namespace Go.Proofs.YtppagjhmlgkamaaGreatDoor
open Go Go.RowKit Go.Lib
attribute [local go_sem high] run_tok0 run_tok1 run_tok2

/-- At the head of each round: the functions so far; the statements so far. -/
def FRel (n rb g N cT : Nat) (T : List Tok) (W : World) (n3 : Nat) (y : PR (List Fn)) (wr : World) : Prop :=
  ∃ m l cs i A c, funcsT n m l (T.drop i) = y ∧ Rd wr rb g N cT T i 0 ∧ Gr rb W wr ∧ wr.heap[W.heap.size]? = some (.cells #[.slice none 0 0, .slice none 0 0] 25) ∧ wr.heap[n3]? = some (.cells #[.slice A l.length c, .slice none 0 0] 25) ∧
    wr.ownsRow (n3 + 1) 47 3 (.slice A l.length c) l.length cs ∧ fCs (rowp (n3 + 1) (.slice A l.length c)) wr l cs ∧ l.length ≤ 32
def MRel (n rb g N cT : Nat) (T : List Tok) (W : World) (n3 : Nat) (wE : World) (Af : Option Addr) (nf cf : Nat) (y : PR (List Sm)) (wr : World) : Prop :=
  ∃ m l cs i A c, mainT n m l (T.drop i) = y ∧ Rd wr rb g N cT T i 0 ∧ Gr rb W wr ∧ Kp (n3 + 1) wE wr ∧ wr.heap[W.heap.size]? = some (.cells #[.slice none 0 0, .slice none 0 0] 25) ∧ wr.heap[n3]? = some (.cells #[.slice Af nf cf, .slice A l.length c] 25) ∧
    wr.ownsRow wE.heap.size 41 6 (.slice A l.length c) l.length cs ∧ tCs (rowp wE.heap.size (.slice A l.length c)) wr l cs ∧ l.length ≤ i
theorem drop_lt {T : List Tok} {i j : Nat} (h : (T.drop j).length < (T.drop i).length) : i < j := by
  rw [List.length_drop, List.length_drop] at h
  omega
theorem outer_ne {n o : Nat} {ts : List Tok} {m : Nat} {l : List Sm} {y : PR (List Sm)} (h : (outerT n o ts).bind (fun t r => mainT n m (l ++ [t]) r) = y) (hy : y ≠ .out) : outerT n o ts ≠ .out := fun e => by rw [e] at h; exact hy h.symm
theorem func_ne {n : Nat} {ts : List Tok} {m : Nat} {l : List Fn} {y : PR (List Fn)} (h : (funcT n ts).bind (fun t r => funcsT n m (l ++ [t]) r) = y) (hy : y ≠ .out) : funcT n ts ≠ .out := fun e => by rw [e] at h; exact hy h.symm

set_option maxRecDepth 100000 in
set_option maxHeartbeats 2000000 in
theorem prog_any {W : World} {rb g N cT i0 : Nat} {T : List Tok} (h : Rd W rb g N cT T i0 0) (n : Nat) (Y : PR Pg) (hYY : progT n (T.drop i0) = Y) (hYo : Y ≠ .out) :
    Calls Tryz.prog 30 #[.pointer (some ⟨rb, 0, none⟩)] W (QP rb g N cT T W Y) := by
  obtain ⟨y, hy⟩ : ∃ y, funcsT n n [] (T.drop i0) = y := ⟨_, rfl⟩
  have hY : (y.bind fun fs r => (mainT n n [] r).bind fun m r => .ok (⟨fs, smSS m⟩ : Pg) r) = Y := by rw [← hYY, progT, hy]
  have hyo : y ≠ .out := fun e => by rw [e] at hY; exact hYo hY.symm
  clear hYY
  obtain ⟨i0', hi, hz0, hz1, hz2⟩ := info_parts stInfo
  obtain ⟨i1', fi, fz0, fz1, fz2⟩ := info_parts fnInfo
  have hrl := h.rlt
  have hgl := h.tok.1
  have hN : N ≤ 65537 := by have := h.good.len; have := h.len; omega
  have h0 := (h.alloc (.cells #[.slice none 0 0, .slice none 0 0] 25)).alloc (.cells #[.slice none 0 0, .slice none 0 0] 25)
  have B8 := (Below.heap_alloc (W.alloc (.cells #[.slice none 0 0, .slice none 0 0] 25)) (.cells #[.slice none 0 0, .slice none 0 0] 25) W.heap.size (by simp)).trans (heap_alloc_new W (.cells #[.slice none 0 0, .slice none 0 0] 25))
  have B7 := heap_alloc_new (W.alloc (.cells #[.slice none 0 0, .slice none 0 0] 25)) (.cells #[.slice none 0 0, .slice none 0 0] 25)
  rw [World.size_alloc] at B7
  have g0 := ((Gr.refl rb W).alloc (.cells #[.slice none 0 0, .slice none 0 0] 25)).alloc (.cells #[.slice none 0 0, .slice none 0 0] 25)
  have z0 : ((W.alloc (.cells #[.slice none 0 0, .slice none 0 0] 25)).alloc (.cells #[.slice none 0 0, .slice none 0 0] 25)).heap.size = W.heap.size + 2 := by simp
  clear h
  go_enter Tryz.func30, Tryz.ntmps30
  go_wp2
  obtain ⟨w0, hw0⟩ : ∃ W1, (W.alloc (.cells #[.slice none 0 0, .slice none 0 0] 25)).alloc (.cells #[.slice none 0 0, .slice none 0 0] 25) = W1 := ⟨_, rfl⟩
  rw [hw0] at h0 B8 B7 g0 z0 ⊢
  clear hw0
  obtain ⟨n3, hn3⟩ : ∃ n3, W.heap.size + 1 = n3 := ⟨_, rfl⟩
  rw [hn3] at B7 ⊢
  have hrb3 : rb < n3 := by omega
  have hstart : FRel n rb g N cT T W n3 y w0 := ⟨n, [], [], i0, none, 0, hy, h0, g0, B8, B7, World.ownsRow_nil _ _ _ _, rfl, Nat.zero_le _⟩
  clear h0 g0 B8 B7 z0 hy
  go_loopw [] (fun wr => FRel n rb g N cT T W n3 y wr) (fun wr => posR rb N wr)
  case atStart => exact hstart
  case round =>
    clear hstart
    obtain ⟨m, l, cs, i, A, c, hy, hR, hG, B8, B7, hown, hx, hl32⟩ := hrel
    have hl7 := lt_heap B7
    have hl8 := lt_heap B8
    cases m with
    | zero => exact absurd hy.symm hyo
    | succ m =>
    rw [funcsT] at hy
    obtain ⟨nf, hnf⟩ : ∃ nf, l.length = nf := ⟨_, rfl⟩
    rw [hnf] at hown hl32 hy B7 hx
    have hne0 : (Value.slice A nf c).ownBlock ≠ some rb := fun e => by have := (hown.lt rb e).1; omega
    have hiN := hR.lt
    cases b : isT (T.drop i) [102, 117, 110, 99] with
    | true =>
      have HI := Lib.hid (show Calls Tryz.prog 58 #[.pointer (some ⟨rb, 0, none⟩), .string ⟨#[102, 117, 110, 99]⟩] wr (fun e w' => e = .returned (.bool true) ∧ Below wr.heap.size wr w') from is_any hR [102, 117, 110, 99] true b)
      rw [b, if_pos rfl] at hy
      have HB7 := Lib.hid (fun w5 (e5 : Below wr.heap.size wr w5) => (e5.block _ (lt_heap B7)).trans B7)
      have HC7 := Lib.hid (fun w5 (e5 : Below wr.heap.size wr w5) (j : Nat) => box_cell (HB7.out w5 e5) j)
      by_cases h32 : nf = 32
      · subst h32
        rw [if_pos rfl] at hy
        have HF := Lib.hid (fun w1 (h1 : Rd w1 rb g N cT T i 0) => fail_any h1 10 _ 10 rfl rfl)
        go_wp2_with (first
          | (go_at_call 58; ((with_reducible refine HI.out.mono ?_); rintro e' w5 ⟨rfl, e5⟩; have h5 := hR.below e5; have c0 := HC7.out w5 e5 0; simp only [List.getElem?_toArray, List.getElem?_cons_zero] at c0))
          | (go_at_call 59; ((with_reducible refine (HF.out _ h5).mono ?_); rintro e' w6 ⟨rfl, e6⟩)))
        rw [← hY, ← hy]
        exact ⟨rfl, rfl, hG.trans ((Gr.of e5).trans (Gr.of e6))⟩
      · rw [if_neg h32] at hy
        have h33 : nf + 1 ≤ 32 := Nat.lt_of_le_of_ne hl32 h32
        have d32 : decide ((nf : Int) = 32) = false := decide_eq_false (by omega)
        have hfne := func_ne hy hyo
        have HFN := fun w1 (h1 : Rd w1 rb g N cT T i 0) => func_any h1 n hfne
        go_upto_region 5 with (go_at_call 58; ((with_reducible refine HI.out.mono ?_); rintro e' w5 ⟨rfl, e5⟩; have h5 := hR.below e5; have c0 := HC7.out w5 e5 0; simp only [List.getElem?_toArray, List.getElem?_cons_zero] at c0))
        have g5 := Gr.of (rb := rb) e5
        have z5 := e5.size
        have B7 := HB7.out w5 e5
        have B8 := (e5.block _ (lt_heap B8)).trans B8
        have cS : w5.cell? ⟨n3, 0, none⟩ = some (.slice A nf c) := box_cell B7 0
        have hown5 := hown.kept g5 (.inr hne0)
        have hx5 : fCs (rowp (n3 + 1) (.slice A nf c)) w5.drew l cs := hx.kp (W' := w5.drew) (q := rowp (n3 + 1) (.slice A nf c)) z5 (fun k hk hl => e5.block k hl) (fun k hk _ => hk)
        have hl5 := lt_heap B7
        clear HI HB7 HC7 c0 hown hx
        cases hq : funcT n (T.drop i) with
        | out => exact absurd hq hfne
        | bad p cc =>
          rw [hq] at HFN hy
          have HF := Lib.hid HFN
          clear HFN
          subst hy
          have hS : w5.drew.cell? ⟨n3, 0, none⟩ = some (.slice A nf c) := cS
          refine wp_region_late (fun w' => w'.cell? ⟨n3, 0, none⟩ = some (.slice A nf c)) 7 (by kernel_rfl) ?_
          refine AnyL.take 0 (.pointer (some ⟨n3, 0, none⟩)) rfl (by kernel_rfl) (by kernel_rfl) (by kernel_rfl) (by kernel_rfl) (fun _ _ _ h => h) (Or.inl ⟨by rfl, ?_⟩) (by assumption) ?_
          · intro W' hSw
            go_simp
          try simp only [Act.put, List.getElem_toArray, List.getElem_cons_zero, List.setIfInBounds_toArray, List.set_cons_zero, List.set_cons_succ]
          refine AnyL.take 1 (.slice A nf c) rfl (by kernel_rfl) (by kernel_rfl) (by kernel_rfl) (by kernel_rfl) (fun _ _ _ h => h) (Or.inl ⟨by rfl, ?_⟩) (by assumption) ?_
          · intro W' hSw
            go_simp
          try simp only [Act.put, List.getElem_toArray, List.getElem_cons_zero, List.getElem_cons_succ, List.setIfInBounds_toArray, List.set_cons_zero, List.set_cons_succ]
          refine AnyL.take 2 (.pointer (some ⟨rb, 0, none⟩)) rfl (by kernel_rfl) (by kernel_rfl) (by kernel_rfl) (by kernel_rfl) (fun _ _ _ h => h) (Or.inl ⟨by rfl, ?_⟩) (by assumption) ?_
          · intro W' hSw
            go_simp
          try simp only [Act.put, List.getElem_toArray, List.getElem_cons_zero, List.getElem_cons_succ, List.setIfInBounds_toArray, List.set_cons_zero, List.set_cons_succ]
          refine AnyL.next 3 (by kernel_rfl) rfl (fun K hK => ?_)
          go_simp
          go_at_call 60
          refine (HF.out _ h5.drew).mono ?_
          rintro e2 w6 ⟨rfl, g6⟩
          go_wp2_with fail
          rw [← hY]
          exact ⟨rfl, rfl, hG.trans (g5.trans ((Gr.drew (Gr.refl rb w5)).trans g6))⟩
        | ok q r =>
          have hlen2 := func_left hq
          rw [hq] at HFN hy
          have HF := Lib.hid HFN
          clear HFN
          have hS : w5.drew.cell? ⟨n3, 0, none⟩ = some (.slice A nf c) := cS
          refine wp_region_late (fun w' => w'.cell? ⟨n3, 0, none⟩ = some (.slice A nf c)) 7 (by kernel_rfl) ?_
          refine AnyL.take 0 (.pointer (some ⟨n3, 0, none⟩)) rfl (by kernel_rfl) (by kernel_rfl) (by kernel_rfl) (by kernel_rfl) (fun _ _ _ h => h) (Or.inl ⟨by rfl, ?_⟩) (by assumption) ?_
          · intro W' hSw
            go_simp
          try simp only [Act.put, List.getElem_toArray, List.getElem_cons_zero, List.setIfInBounds_toArray, List.set_cons_zero, List.set_cons_succ]
          refine AnyL.take 1 (.slice A nf c) rfl (by kernel_rfl) (by kernel_rfl) (by kernel_rfl) (by kernel_rfl) (fun _ _ _ h => h) (Or.inl ⟨by rfl, ?_⟩) (by assumption) ?_
          · intro W' hSw
            go_simp
          try simp only [Act.put, List.getElem_toArray, List.getElem_cons_zero, List.getElem_cons_succ, List.setIfInBounds_toArray, List.set_cons_zero, List.set_cons_succ]
          refine AnyL.take 2 (.pointer (some ⟨rb, 0, none⟩)) rfl (by kernel_rfl) (by kernel_rfl) (by kernel_rfl) (by kernel_rfl) (fun _ _ _ h => h) (Or.inl ⟨by rfl, ?_⟩) (by assumption) ?_
          · intro W' hSw
            go_simp
          try simp only [Act.put, List.getElem_toArray, List.getElem_cons_zero, List.getElem_cons_succ, List.setIfInBounds_toArray, List.set_cons_zero, List.set_cons_succ]
          refine AnyL.next 3 (by kernel_rfl) rfl (fun K hK => ?_)
          go_simp
          go_at_call 60
          refine (HF.out _ h5.drew).mono ?_
          rintro e2 w6 ⟨⟨vv, rfl, vp, vb, rfl, hvp, hvb, hsz⟩, ⟨i6, h6, hd6⟩, g6⟩
          obtain ⟨A1, k1, el1, _⟩ := id hvp
          obtain ⟨A2, k2, el2, _⟩ := id hvb
          subst el1
          subst el2
          go_wp2_with fail
          have B76 := (g6.block (k := n3) (lt_heap B7) (by omega)).trans B7
          have s6 : w6.cell? ⟨n3, 0, none⟩ = some (.slice A nf c) := box_cell B76 0
          refine hK.out _ _ (fun _ => s6) ?_
          clear hK K
          try simp only [Act.put, List.getElem_toArray, List.getElem_cons_zero, List.getElem_cons_succ, List.setIfInBounds_toArray, List.set_cons_zero, List.set_cons_succ]
          refine AnyL.next 4 (by kernel_rfl) rfl (fun K hK => ?_)
          go_simp
          have s6a : (w6.alloc (.cells #[.string q.s, .slice A1 q.ps.length k1, .slice A2 q.b.len k2] 47)).cell? ⟨n3, 0, none⟩ = some (.slice A nf c) := box_cell ((Below.heap_alloc w6 (.cells #[.string q.s, .slice A1 q.ps.length k1, .slice A2 q.b.len k2] 47) n3 (lt_heap B76)).trans B76) 0
          refine hK.out _ _ (fun _ => s6a) ?_
          clear hK K
          try simp only [Act.put, List.getElem_toArray, List.getElem_cons_zero, List.getElem_cons_succ, List.setIfInBounds_toArray, List.set_cons_zero, List.set_cons_succ]
          refine AnyL.next 5 (by kernel_rfl) rfl (fun K hK => ?_)
          have zw6 := g6.size
          have zw6' : w5.drew.heap.size = w5.heap.size := rfl
          refine oper_append_at (by rfl) (.tmp 13) (.tmp 16) 22 rfl (n3 + 1) 47 i1' _ 3 64 Tryz.underlying22 fi fz0 fz1 fz2 rfl (by decide) (.slice A nf c) nf (cs) rfl ((hown5.kept ((Gr.drew (Gr.refl rb w5)).trans g6) (.inr hne0)).alloc _) ⟨w6.heap.size, 0, none⟩ 1 1 (newf q (.slice A1 q.ps.length k1) (.slice A2 q.b.len k2)) rfl rfl (newf_cells w6 q _ _) (newf_one q A1 A2 _ _ _ _) (by unfold maxLen; omega) (by omega) (by simp; omega) ?_
          intro v7 w7 hown7 hgrow7 _ hat7
          obtain ⟨h7, G7, K7, z7, hx7⟩ := fn_low (l := l) (wr := w5.drew) (L := n3 + 1) (by omega) (hown5.kept (Gr.drew (Gr.refl rb w5)) (.inr hne0)) hx5 g6 hvp hvb hsz h6 hgrow7 hat7 (by omega) (by omega)
          obtain ⟨A7, c7, e7⟩ := own_slice hown7
          subst e7
          have B77 := (K7 n3 (by omega) (by omega)).trans (show w5.drew.heap[n3]? = _ from B7)
          have s7 : w7.cell? ⟨n3, 0, none⟩ = some (.slice A nf c) := box_cell B77 0
          have f7 := box_frozen B77 0
          refine hK.out _ _ (fun _ => s7) ?_
          clear hK K s6 s6a
          try simp only [Act.put, List.getElem_toArray, List.getElem_cons_zero, List.getElem_cons_succ, List.setIfInBounds_toArray, List.set_cons_zero, List.set_cons_succ]
          refine AnyL.take 6 (.pointer (some ⟨n3, 0, none⟩)) rfl (by kernel_rfl) (by kernel_rfl) (by kernel_rfl) (by kernel_rfl) (fun _ _ _ h => h) (Or.inl ⟨by rfl, ?_⟩) (by assumption) ?_
          · intro W' hSw
            go_simp
          try simp only [Act.put, List.getElem_toArray, List.getElem_cons_zero, List.getElem_cons_succ, List.setIfInBounds_toArray, List.set_cons_zero, List.set_cons_succ]
          refine AnyL.next 7 (by kernel_rfl) rfl (fun K hK => ?_)
          go_simp
          refine hK.out _ _ (fun e => absurd rfl e) ?_
          clear hK K
          try simp only [Act.put, List.getElem_toArray, List.getElem_cons_zero, List.getElem_cons_succ, List.setIfInBounds_toArray, List.set_cons_zero, List.set_cons_succ]
          refine AnyL.done (by kernel_rfl) ?_
          have hne7 : (Value.slice A7 (nf + 1) c7).ownBlock ≠ some n3 := fun e => by have := (hown7.lt n3 e).1; omega
          have hown8 := hown7.kept (Gr.set (rb := n3) (W := w7) 0 (.slice A7 (nf + 1) c7)) (.inr hne7)
          have hx8 := hx7.kp (W' := w7.setCell ⟨n3, 0, none⟩ (.slice A7 (nf + 1) c7)) (q := rowp (n3 + 1) (.slice A7 (nf + 1) c7)) (by simp) (fun k hk hl => Below.heap_setCell w7 ⟨n3, 0, none⟩ _ k (show k ≠ n3 by have := hk.1; omega)) (fun k hk _ => hk)
          have h8 := h7.set (b := n3) (j := 0) (.slice A7 (nf + 1) c7) (by omega) (by omega)
          have G8 := (G7 W (hG.trans g5).drew (by omega)).setNew (j := 0) (.slice A7 (nf + 1) c7) (show W.heap.size ≤ n3 by omega)
          have B7n := (set2_at (x := .slice A7 (nf + 1) c7) B77).1
          have K8 : ∀ k, k < n3 + 1 → k ≠ rb → k ≠ n3 → (w7.setCell ⟨n3, 0, none⟩ (.slice A7 (nf + 1) c7)).heap[k]? = w5.heap[k]? := fun k hk hr hn => (Below.heap_setCell w7 ⟨n3, 0, none⟩ (.slice A7 (nf + 1) c7) k hn).trans (K7 k hk hr)
          have z8 : (w7.setCell ⟨n3, 0, none⟩ (.slice A7 (nf + 1) c7)).heap.size = w7.heap.size := by simp
          obtain ⟨w8, hw8⟩ : ∃ W1, w7.setCell ⟨n3, 0, none⟩ (.slice A7 (nf + 1) c7) = W1 := ⟨_, rfl⟩
          rw [hw8] at hown8 hx8 h8 G8 B7n K8 z8 ⊢
          clear hw8 f7 s7 hgrow7 hat7 hown7 hx7 B77 B76 G7 K7
          have B8n := (K8 W.heap.size (by omega) (by omega) (by omega)).trans B8
          have hl2 := h8.lt
          rw [← hd6] at hlen2
          have hl3 : i < i6 := drop_lt hlen2
          go_wp2_with fail
          refine ⟨⟨m, l ++ [q], _, i6, A7, c7, by rw [hd6]; exact hy, h8, G8, B8n, by rw [List.length_append, hnf]; exact B7n, by rw [List.length_append, hnf]; exact hown8, by rw [List.length_append, hnf]; exact hx8, by rw [List.length_append, hnf]; exact h33⟩, ?_⟩
          rw [posR_eq h8, posR_eq hR]
          exact Nat.sub_lt_sub_left (Nat.lt_trans hl3 hl2) hl3
    | false =>
      have HI := Lib.hid (show Calls Tryz.prog 58 #[.pointer (some ⟨rb, 0, none⟩), .string ⟨#[102, 117, 110, 99]⟩] wr (fun e w' => e = .returned (.bool false) ∧ Below wr.heap.size wr w') from is_any hR [102, 117, 110, 99] false b)
      rw [b, if_neg (by decide)] at hy
      subst hy
      simp only [PR.bind] at hY
      go_wp2_with (go_at_call 58; ((with_reducible refine HI.out.mono ?_); rintro e' w5 ⟨rfl, e5⟩; have h5 := hR.below e5))
      have g5 := Gr.of (rb := rb) e5
      have hF5 : FX (n3 + 1) w5 (.slice A nf c) l := row_fx (p := rowp (n3 + 1) (.slice A nf c)) (hown.kept g5 (.inr hne0)) (Nat.le_refl _) (hx.kp e5.size (fun k hk hl => e5.block k hl) (fun k hk _ => hk)) (fun k hk => hk.1) hnf.symm
      have G5 := hG.trans g5
      have B7 := (e5.block _ (lt_heap B7)).trans B7
      have B8 := (e5.block _ (lt_heap B8)).trans B8
      obtain ⟨y2, hy2⟩ : ∃ y2, mainT n n [] (T.drop i) = y2 := ⟨_, rfl⟩
      rw [hy2] at hY
      have hy2o : y2 ≠ .out := fun e => by rw [e] at hY; exact hYo hY.symm
      have hE3 := lt_heap B7
      have hE8 := lt_heap B8
      have hzE := G5.size
      have hstart : MRel n rb g N cT T W n3 w5 A nf c y2 w5 := ⟨n, [], [], i, none, 0, hy2, h5, G5, Kp.refl _ _, B8, B7, World.ownsRow_nil _ _ _ _, rfl, Nat.zero_le _⟩
      clear HI hown hx hR hG B7 B8 hl7 hl8 G5 h5 hyo hy2 e5 g5 hne0 hiN
      obtain ⟨wE, hwE⟩ : ∃ wE, w5 = wE := ⟨_, rfl⟩
      rw [hwE] at hF5 hstart hE3 hE8 hzE ⊢
      clear hwE
      go_loopw [] (fun wr => MRel n rb g N cT T W n3 wE A nf c y2 wr) (fun wr => posR rb N wr)
      case atStart => exact hstart
      case round =>
        clear hstart
        obtain ⟨m, lm, cs, i, Am, cm, hy, hR, hG, hKE, B8, B7, hown, hx, hli⟩ := hrel
        have hl7 := lt_heap B7
        have hl8 := lt_heap B8
        have hzK := hKE.size
        cases m with
        | zero => exact absurd hy.symm hy2o
        | succ m =>
        rw [mainT] at hy
        obtain ⟨nm, hnm⟩ : ∃ nm, lm.length = nm := ⟨_, rfl⟩
        rw [hnm] at hown hli B7 hx
        have hne0 : (Value.slice Am nm cm).ownBlock ≠ some rb := fun e => by have := (hown.lt rb e).1; omega
        have hiN := hR.lt
        obtain ⟨tk, htk⟩ : ∃ tk, hdT (T.drop i) = tk := ⟨_, rfl⟩
        have HNW := Lib.hid (now_any hR tk htk)
        rw [htk] at hy
        by_cases hk : tk.kind = 4
        · rw [if_pos hk] at hy
          have k1 : ((tk.kind : Int) == 4) = true := by rw [hk]; rfl
          have k2 : ((tk.kind : Int) != 4) = false := by rw [bne, k1]; rfl
          subst hy
          simp only at hY
          have HB7 := Lib.hid (fun w5 (e5 : Below wr.heap.size wr w5) => (e5.block _ (lt_heap B7)).trans B7)
          have HB8 := Lib.hid (fun w5 (e5 : Below wr.heap.size wr w5) => (e5.block _ (lt_heap B8)).trans B8)
          go_wp2_with (go_at_call 61; ((with_reducible refine HNW.out.mono ?_); rintro e' w5 ⟨rfl, e5⟩; have B7 := HB7.out w5 e5; have B8 := HB8.out w5 e5; have c0 := box_cell B8 0; have c1 := box_cell B8 1; have f0 := box_frozen B8 0; have f1 := box_frozen B8 1; have d0 := box_cell B7 0; have d1 := box_cell B7 1; simp only [List.getElem?_toArray, List.getElem?_cons_succ, List.getElem?_cons_zero] at c0 c1 d0 d1))
          have g5 := Gr.of (rb := rb) e5
          have z5 := e5.size
          have hX : SX wE.heap.size w5 (.slice Am nm cm) (smSS lm) := row_sx (p := rowp wE.heap.size (.slice Am nm cm)) (hown.kept g5 (.inr hne0)) (Nat.le_refl _) (hx.kp e5.size (fun k hk hl => e5.block k hl) (fun k hk _ => hk)) (fun k hk => hk.1) hnm.symm
          have hF := (hF5.kp hKE (Nat.le_refl _)).kp (Kp.below e5) (Nat.le_refl _)
          have hP := put2_heap (a := .slice A nf c) (b := .slice Am nm cm) B8
          have hfin : QP rb g N cT T W Y (.returned (.agg #[.slice A nf c, .slice Am nm cm])) (Proofs.YtppagjhmlgkamaaGreatDoor.put2 w5 W.heap.size (.slice A nf c) (.slice Am nm cm)) := by
            rw [← hY]
            exact ⟨⟨_, rfl, _, _, rfl, hF.kp (Kp.put2 (by omega)) (by omega), hX.kp (Kp.put2 (by omega)) (by omega)⟩, ⟨i, (hR.below e5).put2 (by omega) (by omega), rfl⟩, (hG.trans g5).put2 (Nat.le_refl _)⟩
          obtain ⟨wz, hwz⟩ : ∃ W5, Proofs.YtppagjhmlgkamaaGreatDoor.put2 w5 W.heap.size (.slice A nf c) (.slice Am nm cm) = W5 := ⟨_, rfl⟩
          show bodyPost _ _ _ _ _ (Proofs.YtppagjhmlgkamaaGreatDoor.put2 w5 W.heap.size (.slice A nf c) (.slice Am nm cm))
          rw [hwz] at hP hfin ⊢
          have p0 := box_cell hP 0
          have p1 := box_cell hP 1
          simp only [List.getElem?_toArray, List.getElem?_cons_succ, List.getElem?_cons_zero] at p0 p1
          exact bodyPost_ret (v := .agg #[.slice A nf c, .slice Am nm cm]) (by simp [results, Tryz.results30, go_sem, p0, p1]) rfl hfin
        · rw [if_neg hk] at hy
          have k1 : ((tk.kind : Int) == 4) = false := by rw [beq_eq_false_iff_ne]; omega
          have k2 : ((tk.kind : Int) != 4) = true := by rw [bne, k1]; rfl
          have hone := outer_ne hy hy2o
          have HON := fun w1 (h1 : Rd w1 rb g N cT T i 0) => outerS_any h1 n hone
          go_upto_region 7 with (go_at_call 61; ((with_reducible refine HNW.out.mono ?_); rintro e' w5 ⟨rfl, e5⟩; have h5 := hR.below e5))
          have g5 := Gr.of (rb := rb) e5
          have z5 := e5.size
          have B7 := (e5.block _ (lt_heap B7)).trans B7
          have B8 := (e5.block _ (lt_heap B8)).trans B8
          have cS : w5.cell? ⟨n3, 1, none⟩ = some (.slice Am nm cm) := box_cell B7 1
          have hown5 := hown.kept g5 (.inr hne0)
          have hx5 : tCs (rowp wE.heap.size (.slice Am nm cm)) w5.drew lm cs := hx.kp (W' := w5.drew) (q := rowp wE.heap.size (.slice Am nm cm)) z5 (fun k hk hl => e5.block k hl) (fun k hk _ => hk)
          have hl5 := lt_heap B7
          clear HNW hown hx
          cases hq : outerT n 0 (T.drop i) with
          | out => exact absurd hq hone
          | bad p cc =>
            rw [hq] at HON hy
            have HF := Lib.hid HON
            clear HON
            subst hy
            have hS : w5.drew.cell? ⟨n3, 1, none⟩ = some (.slice Am nm cm) := cS
            refine wp_region_late (fun w' => w'.cell? ⟨n3, 1, none⟩ = some (.slice Am nm cm)) 7 (by kernel_rfl) ?_
            refine AnyL.take 0 (.pointer (some ⟨n3, 1, none⟩)) rfl (by kernel_rfl) (by kernel_rfl) (by kernel_rfl) (by kernel_rfl) (fun _ _ _ h => h) (Or.inl ⟨by rfl, ?_⟩) (by assumption) ?_
            · intro W' hSw
              go_simp
            try simp only [Act.put, List.getElem_toArray, List.getElem_cons_zero, List.setIfInBounds_toArray, List.set_cons_zero, List.set_cons_succ]
            refine AnyL.take 1 (.slice Am nm cm) rfl (by kernel_rfl) (by kernel_rfl) (by kernel_rfl) (by kernel_rfl) (fun _ _ _ h => h) (Or.inl ⟨by rfl, ?_⟩) (by assumption) ?_
            · intro W' hSw
              go_simp
            try simp only [Act.put, List.getElem_toArray, List.getElem_cons_zero, List.getElem_cons_succ, List.setIfInBounds_toArray, List.set_cons_zero, List.set_cons_succ]
            refine AnyL.take 2 (.pointer (some ⟨rb, 0, none⟩)) rfl (by kernel_rfl) (by kernel_rfl) (by kernel_rfl) (by kernel_rfl) (fun _ _ _ h => h) (Or.inl ⟨by rfl, ?_⟩) (by assumption) ?_
            · intro W' hSw
              go_simp
            try simp only [Act.put, List.getElem_toArray, List.getElem_cons_zero, List.getElem_cons_succ, List.setIfInBounds_toArray, List.set_cons_zero, List.set_cons_succ]
            refine AnyL.next 3 (by kernel_rfl) rfl (fun K hK => ?_)
            go_simp
            go_at_call 62
            refine (HF.out _ h5.drew).mono ?_
            rintro e2 w6 ⟨rfl, g6⟩
            go_wp2_with fail
            rw [← hY]
            exact ⟨rfl, rfl, hG.trans (g5.trans ((Gr.drew (Gr.refl rb w5)).trans g6))⟩
          | ok t r =>
            have hlen2 := outer_left hq
            rw [hq] at HON hy
            have HF := Lib.hid HON
            clear HON
            have hS : w5.drew.cell? ⟨n3, 1, none⟩ = some (.slice Am nm cm) := cS
            refine wp_region_late (fun w' => w'.cell? ⟨n3, 1, none⟩ = some (.slice Am nm cm)) 7 (by kernel_rfl) ?_
            refine AnyL.take 0 (.pointer (some ⟨n3, 1, none⟩)) rfl (by kernel_rfl) (by kernel_rfl) (by kernel_rfl) (by kernel_rfl) (fun _ _ _ h => h) (Or.inl ⟨by rfl, ?_⟩) (by assumption) ?_
            · intro W' hSw
              go_simp
            try simp only [Act.put, List.getElem_toArray, List.getElem_cons_zero, List.setIfInBounds_toArray, List.set_cons_zero, List.set_cons_succ]
            refine AnyL.take 1 (.slice Am nm cm) rfl (by kernel_rfl) (by kernel_rfl) (by kernel_rfl) (by kernel_rfl) (fun _ _ _ h => h) (Or.inl ⟨by rfl, ?_⟩) (by assumption) ?_
            · intro W' hSw
              go_simp
            try simp only [Act.put, List.getElem_toArray, List.getElem_cons_zero, List.getElem_cons_succ, List.setIfInBounds_toArray, List.set_cons_zero, List.set_cons_succ]
            refine AnyL.take 2 (.pointer (some ⟨rb, 0, none⟩)) rfl (by kernel_rfl) (by kernel_rfl) (by kernel_rfl) (by kernel_rfl) (fun _ _ _ h => h) (Or.inl ⟨by rfl, ?_⟩) (by assumption) ?_
            · intro W' hSw
              go_simp
            try simp only [Act.put, List.getElem_toArray, List.getElem_cons_zero, List.getElem_cons_succ, List.setIfInBounds_toArray, List.set_cons_zero, List.set_cons_succ]
            refine AnyL.next 3 (by kernel_rfl) rfl (fun K hK => ?_)
            go_simp
            go_at_call 62
            refine (HF.out _ h5.drew).mono ?_
            rintro e2 w6 ⟨⟨vv, rfl, vl, vx, vy, rfl, hvl, hvx, hvy, hok⟩, ⟨i6, h6, hd6⟩, g6⟩
            obtain ⟨A1, k1, el1, _⟩ := id hvl
            obtain ⟨A2, k2, el2, _⟩ := id hvx
            obtain ⟨A3, k3, el3, _⟩ := id hvy
            subst el1
            subst el2
            subst el3
            go_wp2_with fail
            have B76 := (g6.block (k := n3) (lt_heap B7) (by omega)).trans B7
            have s6 : w6.cell? ⟨n3, 1, none⟩ = some (.slice Am nm cm) := box_cell B76 1
            refine hK.out _ _ (fun _ => s6) ?_
            clear hK K
            try simp only [Act.put, List.getElem_toArray, List.getElem_cons_zero, List.getElem_cons_succ, List.setIfInBounds_toArray, List.set_cons_zero, List.set_cons_succ]
            refine AnyL.next 4 (by kernel_rfl) rfl (fun K hK => ?_)
            go_simp
            have s6a : (w6.alloc (.cells #[.int .i64 t.op, .string t.s, .int .i64 t.n, .slice A1 t.l.len k1, .slice A2 t.x.len k2, .slice A3 t.y.len k3] 41)).cell? ⟨n3, 1, none⟩ = some (.slice Am nm cm) := box_cell ((Below.heap_alloc w6 (.cells #[.int .i64 t.op, .string t.s, .int .i64 t.n, .slice A1 t.l.len k1, .slice A2 t.x.len k2, .slice A3 t.y.len k3] 41) n3 (lt_heap B76)).trans B76) 1
            refine hK.out _ _ (fun _ => s6a) ?_
            clear hK K
            try simp only [Act.put, List.getElem_toArray, List.getElem_cons_zero, List.getElem_cons_succ, List.setIfInBounds_toArray, List.set_cons_zero, List.set_cons_succ]
            refine AnyL.next 5 (by kernel_rfl) rfl (fun K hK => ?_)
            have zw6 := g6.size
            have zw6' : w5.drew.heap.size = w5.heap.size := rfl
            refine oper_append_at (by rfl) (.tmp 24) (.tmp 27) 23 rfl (wE.heap.size) 41 i0' _ 6 104 Tryz.underlying23 hi hz0 hz1 hz2 rfl (by decide) (.slice Am nm cm) nm (cs) rfl ((hown5.kept ((Gr.drew (Gr.refl rb w5)).trans g6) (.inr hne0)).alloc _) ⟨w6.heap.size, 0, none⟩ 1 1 (newt t (.slice A1 t.l.len k1) (.slice A2 t.x.len k2) (.slice A3 t.y.len k3)) rfl rfl (newt_cells w6 t _ _ _) (newt_one t A1 A2 A3 _ _ _ _ _ _) (by unfold maxLen; omega) (by omega) (by simp; omega) ?_
            intro v7 w7 hown7 hgrow7 _ hat7
            obtain ⟨h7, G7, K7, z7, hx7⟩ := st_low (l := lm) (wr := w5.drew) (L := wE.heap.size) (by omega) (hown5.kept (Gr.drew (Gr.refl rb w5)) (.inr hne0)) hx5 g6 hvl hvx hvy hok h6 hgrow7 hat7 (by omega) (by omega)
            obtain ⟨A7, c7, e7⟩ := own_slice hown7
            subst e7
            have B77 := (K7 n3 (by omega) (by omega)).trans (show w5.drew.heap[n3]? = _ from B7)
            have s7 : w7.cell? ⟨n3, 1, none⟩ = some (.slice Am nm cm) := box_cell B77 1
            have f7 := box_frozen B77 1
            refine hK.out _ _ (fun _ => s7) ?_
            clear hK K s6 s6a
            try simp only [Act.put, List.getElem_toArray, List.getElem_cons_zero, List.getElem_cons_succ, List.setIfInBounds_toArray, List.set_cons_zero, List.set_cons_succ]
            refine AnyL.take 6 (.pointer (some ⟨n3, 1, none⟩)) rfl (by kernel_rfl) (by kernel_rfl) (by kernel_rfl) (by kernel_rfl) (fun _ _ _ h => h) (Or.inl ⟨by rfl, ?_⟩) (by assumption) ?_
            · intro W' hSw
              go_simp
            try simp only [Act.put, List.getElem_toArray, List.getElem_cons_zero, List.getElem_cons_succ, List.setIfInBounds_toArray, List.set_cons_zero, List.set_cons_succ]
            refine AnyL.next 7 (by kernel_rfl) rfl (fun K hK => ?_)
            go_simp
            refine hK.out _ _ (fun e => absurd rfl e) ?_
            clear hK K
            try simp only [Act.put, List.getElem_toArray, List.getElem_cons_zero, List.getElem_cons_succ, List.setIfInBounds_toArray, List.set_cons_zero, List.set_cons_succ]
            refine AnyL.done (by kernel_rfl) ?_
            have hne7 : (Value.slice A7 (nm + 1) c7).ownBlock ≠ some n3 := fun e => by have := (hown7.lt n3 e).1; omega
            have hown8 := hown7.kept (Gr.set (rb := n3) (W := w7) 1 (.slice A7 (nm + 1) c7)) (.inr hne7)
            have hx8 := hx7.kp (W' := w7.setCell ⟨n3, 1, none⟩ (.slice A7 (nm + 1) c7)) (q := rowp (wE.heap.size) (.slice A7 (nm + 1) c7)) (by simp) (fun k hk hl => Below.heap_setCell w7 ⟨n3, 1, none⟩ _ k (show k ≠ n3 by have := hk.1; omega)) (fun k hk _ => hk)
            have h8 := h7.set (b := n3) (j := 1) (.slice A7 (nm + 1) c7) (by omega) (by omega)
            have G8 := (G7 W (hG.trans g5).drew (by omega)).setNew (j := 1) (.slice A7 (nm + 1) c7) (show W.heap.size ≤ n3 by omega)
            have B7n := (set2_at (x := .slice A7 (nm + 1) c7) B77).2
            have K8 : ∀ k, k < wE.heap.size → k ≠ rb → k ≠ n3 → (w7.setCell ⟨n3, 1, none⟩ (.slice A7 (nm + 1) c7)).heap[k]? = w5.heap[k]? := fun k hk hr hn => (Below.heap_setCell w7 ⟨n3, 1, none⟩ (.slice A7 (nm + 1) c7) k hn).trans (K7 k hk hr)
            have z8 : (w7.setCell ⟨n3, 1, none⟩ (.slice A7 (nm + 1) c7)).heap.size = w7.heap.size := by simp
            obtain ⟨w8, hw8⟩ : ∃ W1, w7.setCell ⟨n3, 1, none⟩ (.slice A7 (nm + 1) c7) = W1 := ⟨_, rfl⟩
            rw [hw8] at hown8 hx8 h8 G8 B7n K8 z8 ⊢
            clear hw8 f7 s7 hgrow7 hat7 hown7 hx7 B77 B76 G7 K7
            have B8n := (K8 W.heap.size (by omega) (by omega) (by omega)).trans B8
            have hl2 := h8.lt
            rw [← hd6] at hlen2
            have hl3 : i < i6 := drop_lt hlen2
            have hKE8 : Kp (n3 + 1) wE w8 := ⟨Nat.le_trans (Nat.le_trans hzK z5) (by rw [z8]; exact z7), fun k hk hl => (K8 k hl (Nat.ne_of_gt (Nat.lt_of_lt_of_le hrb3 (Nat.le_of_succ_le hk))) (Nat.ne_of_gt hk)).trans ((e5.block k (Nat.lt_of_lt_of_le hl hzK)).trans (hKE.block k hk hl))⟩
            go_wp2_with fail
            refine ⟨⟨m, lm ++ [t], _, i6, A7, c7, by rw [hd6]; exact hy, h8, G8, hKE8, B8n, by rw [List.length_append, hnm]; exact B7n, by rw [List.length_append, hnm]; exact hown8, by rw [List.length_append, hnm]; exact hx8, by rw [List.length_append, hnm]; exact Nat.lt_of_le_of_lt hli hl3⟩, ?_⟩
            rw [posR_eq h8, posR_eq hR]
            exact Nat.sub_lt_sub_left (Nat.lt_trans hl3 hl2) hl3

end Go.Proofs.YtppagjhmlgkamaaGreatDoor

/-
  Package parse: what Parse defers: a fault that is panicked with is told.
-/
namespace Go.Proofs.YtppagjhmlgkamaaGreatDoor
open Go Go.RowKit Go.Lib

theorem run_asked (w : World) (a c : Int) : (Instr.typeAssert (.iface 67 (.agg #[.int .i64 a, .int .i64 c])) 20 67 true).run Tryz.prog w = .ok (.tuple #[.agg #[.int .i64 a, .int .i64 c], .bool true]) w := by kernel_rfl
theorem run_asked0 (w : World) : (Instr.typeAssert .nilIface 20 67 true).run Tryz.prog w = .ok (.tuple #[.agg #[.int .i64 0, .int .i64 0], .bool false]) w := by kernel_rfl
attribute [local go_sem high] run_asked run_asked0

set_option maxRecDepth 100000 in
theorem caught (b1 b2 : Nat) (x y : Int) (a c : Nat) (older : List PanicEntry) (w : World) (h1 : w.heap[b1]? = some (.cells #[.int .i64 x] 3)) (h2 : w.heap[b2]? = some (.cells #[.int .i64 y] 30)) (hne : b1 ≠ b2) :
    CallsD Tryz.prog 29 #[.pointer (some ⟨b1, 0, none⟩), .pointer (some ⟨b2, 0, none⟩)] (.panicking ({ v := .iface 67 (.agg #[.int .i64 a, .int .i64 c]), recovered := false } :: older)) w fun e u' w' =>
      e = .returned (.tuple #[]) ∧ u' = .panicking ({ v := .iface 67 (.agg #[.int .i64 a, .int .i64 c]), recovered := true } :: older) ∧
        w' = ((w.alloc (.cells #[.int .i64 a, .int .i64 c] 67)).drew.setCell ⟨b1, 0, none⟩ (.int .i64 a)).setCell ⟨b2, 0, none⟩ (.int .i64 c) := by
  refine callsD_of_wpS Tryz.func29 rfl fun c₀ cs hu => ?_
  apply wpS_seq
  apply wpS_region
  simp [wpOpsS, go_sem, recoverD, hu, Tryz.ntmps29, Exit.thenS]
  refine wpS_of_wp ?_
  simp only [Array.replicate_succ, Array.replicate_zero, List.push_toArray, List.append_toArray, List.nil_append, List.cons_append, List.setIfInBounds_toArray, List.set_cons_zero, List.set_cons_succ]
  go_wp2
  have hl1 := lt_heap h1
  have hl2 := lt_heap h2
  have B3 := heap_alloc_new w (.cells #[.int .i64 a, .int .i64 c] 67)
  have B1 := (Below.heap_alloc w (.cells #[.int .i64 a, .int .i64 c] 67) b1 hl1).trans h1
  have B2 := (Below.heap_alloc w (.cells #[.int .i64 a, .int .i64 c] 67) b2 hl2).trans h2
  obtain ⟨w1, hw1⟩ : ∃ w1, w.alloc (.cells #[.int .i64 a, .int .i64 c] 67) = w1 := ⟨_, rfl⟩
  rw [hw1] at B1 B2 B3 ⊢
  obtain ⟨n, hn⟩ : ∃ n, w.heap.size = n := ⟨_, rfl⟩
  rw [hn] at B3 hl1 hl2 ⊢
  have hb1 : b1 ≠ n := by omega
  have hb2 : b2 ≠ n := by omega
  have hne' : b2 ≠ b1 := hne.symm
  have d0 : w1.drew.cell? ⟨n, 0, none⟩ = some (.int .i64 a) := box_cell B3 0
  have d1 : w1.drew.cell? ⟨n, 1, none⟩ = some (.int .i64 c) := box_cell B3 1
  have e0 : w1.drew.cell? ⟨b1, 0, none⟩ = some (.int .i64 x) := box_cell B1 0
  have e1 : w1.drew.cell? ⟨b2, 0, none⟩ = some (.int .i64 y) := box_cell B2 0
  have f0 : w1.drew.frozen? ⟨b1, 0, none⟩ = false := box_frozen B1 0
  have f1 : w1.drew.frozen? ⟨b2, 0, none⟩ = false := box_frozen B2 0
  have e1' : (w1.drew.setCell ⟨b1, 0, none⟩ (.int .i64 a)).cell? ⟨b2, 0, none⟩ = some (.int .i64 y) := (World.cell?_setCell_far _ _ _ _ hne).trans e1
  have f1' : (w1.drew.setCell ⟨b1, 0, none⟩ (.int .i64 a)).frozen? ⟨b2, 0, none⟩ = false := (World.frozen?_setCell _ _ _ _).trans f1
  have e2' : (w1.setCell ⟨b1, 0, none⟩ (.int .i64 a)).cell? ⟨b2, 0, none⟩ = some (.int .i64 y) := (World.cell?_setCell_far _ _ _ _ hne).trans e1
  have f2' : (w1.setCell ⟨b1, 0, none⟩ (.int .i64 a)).frozen? ⟨b2, 0, none⟩ = false := (World.frozen?_setCell _ _ _ _).trans f1
  go_region_held (fun w' => w'.cell? ⟨n, 0, none⟩ = some (.int .i64 a) ∧ w'.cell? ⟨n, 1, none⟩ = some (.int .i64 c)) (first | exact ⟨d0, d1⟩ | exact ⟨(World.cell?_setCell_far _ _ _ _ hb1).trans d0, (World.cell?_setCell_far _ _ _ _ hb1).trans d1⟩ | exact ⟨(World.cell?_setCell_far _ _ _ _ hb2).trans ((World.cell?_setCell_far _ _ _ _ hb1).trans d0), (World.cell?_setCell_far _ _ _ _ hb2).trans ((World.cell?_setCell_far _ _ _ _ hb1).trans d1)⟩) (fail)
  refine (show bodyPostS _ _ _ _ _ _ _ _ _ from ?_)
  subst hw1
  exact ⟨rfl, _, rfl, _, results_none rfl _ _ _, rfl, rfl, rfl⟩

set_option maxRecDepth 100000 in
theorem idle (p q : Addr) (w : World) :
    CallsD Tryz.prog 29 #[.pointer (some p), .pointer (some q)] .returning w fun e u' w' =>
      e = .returned (.tuple #[]) ∧ u' = .returning ∧ w' = w.alloc (.cells #[.int .i64 0, .int .i64 0] 67) := by
  refine callsD_of_wpS Tryz.func29 rfl fun c₀ cs hu => ?_
  apply wpS_seq
  apply wpS_region
  simp [wpOpsS, go_sem, recoverD, hu, Tryz.ntmps29, Exit.thenS]
  refine wpS_of_wp ?_
  simp only [Array.replicate_succ, Array.replicate_zero, List.push_toArray, List.append_toArray, List.nil_append, List.cons_append, List.setIfInBounds_toArray, List.set_cons_zero, List.set_cons_succ]
  go_wp2
  exact ⟨rfl, .returning, by cases c₀; simp_all, _, results_none rfl _ _ _, rfl, rfl, rfl⟩

end Go.Proofs.YtppagjhmlgkamaaGreatDoor

/-
  The contracts of package lex's small functions: what a byte is, how far bytes of a kind reach, where a comment ends, what the first token is.
-/
namespace Go.Proofs.YtppagjhmlgkamaaGreatDoor
open Go Go.RowKit Go.Lib

theorem lret_bool {a b : Bool} (h : a = b) : Ending.returned (.bool a) = .returned (.bool b) := by rw [h]
theorem lret_int {k : IntKind} {a b : Int} (h : a = b) : Ending.returned (.int k a) = .returned (.int k b) := by rw [h]

theorem lletter_any (x : Int) (w : World) (h0 : 0 ≤ x) (h1 : x ≤ 255) :
    Calls Tryz.prog 41 #[.int .u8 x] w fun e w' => e = .returned (.bool (letB x)) ∧ w = w' := by
  go_enter Tryz.func41, Tryz.ntmps41
  go_wp2
  all_goals
    go_ret
    refine ⟨lret_bool ?_, rfl⟩
    unfold letB
    rw [Bool.eq_iff_iff]
    simp only [decide_eq_true_eq, Bool.or_eq_true, Bool.false_eq_true, false_iff, true_iff]
    omega

theorem digit_any (x : Int) (w : World) (h0 : 0 ≤ x) (h1 : x ≤ 255) :
    Calls Tryz.prog 71 #[.int .u8 x] w fun e w' => e = .returned (.bool (digB x)) ∧ w = w' := by
  go_enter Tryz.func71, Tryz.ntmps71
  go_wp2
  all_goals
    go_ret
    refine ⟨lret_bool ?_, rfl⟩
    unfold digB
    rw [Bool.eq_iff_iff]
    simp only [decide_eq_true_eq, Bool.false_eq_true, false_iff]
    omega

theorem lparts_any (x : Int) (w : World) :
    Calls Tryz.prog 38 #[.int .u8 x] w fun e w' => e = .returned (.bool (blkB x)) ∧ w = w' := by
  go_enter Tryz.func38, Tryz.ntmps38
  go_wp2
  all_goals
    go_ret
    refine ⟨lret_bool ?_, rfl⟩
    unfold blkB
    try simp_all

theorem inword_any (x : Int) (w : World) (h0 : 0 ≤ x) (h1 : x ≤ 255) :
    Calls Tryz.prog 70 #[.int .u8 x] w fun e w' => e = .returned (.bool (inwB x)) ∧ w = w' := by
  go_enter Tryz.func70, Tryz.ntmps70
  go_wp2_with (first
    | (go_at_call 41; ((with_reducible refine (lletter_any _ _ h0 h1).mono ?_); rintro e w1 ⟨rfl, rfl⟩))
    | (go_at_call 71; ((with_reducible refine (digit_any _ _ h0 h1).mono ?_); rintro e w1 ⟨rfl, rfl⟩)))
  all_goals
    go_ret
    refine ⟨lret_bool ?_, rfl⟩
    unfold inwB
    try simp_all

/-- A slice of bytes: the address is asked for only where there is a byte. -/
def Row (w : World) (A : Option Addr) (l : List UInt8) : Prop :=
  0 < l.length → ∃ b o, A = some ⟨b, o, none⟩ ∧ b < w.heap.size ∧ ∀ i, i < l.length → w.cell? ⟨b, o + i, none⟩ = some (.int .u8 (nth l i))

theorem reachL_at (p : Int → Bool) (l : List UInt8) (k : Nat) (h : k < l.length) : reachL p (l.drop k) = if p (nth l k) then reachL p (l.drop (k + 1)) + 1 else 0 := by
  rw [drop_cons h, reachL]; rfl

set_option maxHeartbeats 800000 in
theorem reach_word (b o cap : Nat) (l : List UInt8) (w : World) (hl : l.length ≤ 65536)
    (hc : ∀ i, i < l.length → w.cell? ⟨b, o + i, none⟩ = some (.int .u8 (nth l i))) :
    Calls Tryz.prog 69 #[.slice (some ⟨b, o, none⟩) l.length cap, .func (.func 70) #[] #[]] w fun e w' => e = .returned (.int .i64 (reachL inwB l)) ∧ w = w' := by
  have HC := Lib.hid hc; clear hc
  go_enter Tryz.func69, Tryz.ntmps69
  go_wp2
  go_loop [5] (fun i => ∃ k : Nat, k ≤ l.length ∧ i = .int .i64 k ∧ reachL inwB l = k + reachL inwB (l.drop k)) (fun i => l.length - (intOf i).toNat)
  case atStart => exact ⟨0, Nat.zero_le _, rfl, by simp⟩
  case round =>
    obtain ⟨k, hk, rfl, hr⟩ := hrel
    have HR := Lib.hid hr; clear hr
    by_cases hlt : k < l.length
    · have hcell := HC.out k hlt
      obtain ⟨r0, r1⟩ := nth_range l k
      have HS := Lib.hid (reachL_at inwB l k hlt)
      cases hpk : inwB (nth l k) with
      | true =>
        go_wp2_with (go_at_call 70; ((with_reducible refine (inword_any _ _ r0 r1).mono ?_); rintro e w1 ⟨rfl, rfl⟩))
        go_round
        case rel => exact ⟨k + 1, by omega, by go_num, by rw [HR.out, HS.out, if_pos hpk]; omega⟩
        case measure => simp [intOf]; omega
      | false =>
        go_wp2_with (go_at_call 70; ((with_reducible refine (inword_any _ _ r0 r1).mono ?_); rintro e w1 ⟨rfl, rfl⟩))
        go_ret
        exact ⟨lret_int (by rw [HR.out, HS.out, if_neg (by rw [hpk]; decide)]; rfl), rfl⟩
    · go_wp2
      go_ret
      exact ⟨lret_int (by rw [HR.out, List.drop_eq_nil_of_le (by omega)]; rfl), rfl⟩

set_option maxHeartbeats 800000 in
theorem reach_digits (b o cap : Nat) (l : List UInt8) (w : World) (hl : l.length ≤ 65536)
    (hc : ∀ i, i < l.length → w.cell? ⟨b, o + i, none⟩ = some (.int .u8 (nth l i))) :
    Calls Tryz.prog 69 #[.slice (some ⟨b, o, none⟩) l.length cap, .func (.func 71) #[] #[]] w fun e w' => e = .returned (.int .i64 (reachL digB l)) ∧ w = w' := by
  have HC := Lib.hid hc; clear hc
  go_enter Tryz.func69, Tryz.ntmps69
  go_wp2
  go_loop [5] (fun i => ∃ k : Nat, k ≤ l.length ∧ i = .int .i64 k ∧ reachL digB l = k + reachL digB (l.drop k)) (fun i => l.length - (intOf i).toNat)
  case atStart => exact ⟨0, Nat.zero_le _, rfl, by simp⟩
  case round =>
    obtain ⟨k, hk, rfl, hr⟩ := hrel
    have HR := Lib.hid hr; clear hr
    by_cases hlt : k < l.length
    · have hcell := HC.out k hlt
      obtain ⟨r0, r1⟩ := nth_range l k
      have HS := Lib.hid (reachL_at digB l k hlt)
      cases hpk : digB (nth l k) with
      | true =>
        go_wp2_with (go_at_call 71; ((with_reducible refine (digit_any _ _ r0 r1).mono ?_); rintro e w1 ⟨rfl, rfl⟩))
        go_round
        case rel => exact ⟨k + 1, by omega, by go_num, by rw [HR.out, HS.out, if_pos hpk]; omega⟩
        case measure => simp [intOf]; omega
      | false =>
        go_wp2_with (go_at_call 71; ((with_reducible refine (digit_any _ _ r0 r1).mono ?_); rintro e w1 ⟨rfl, rfl⟩))
        go_ret
        exact ⟨lret_int (by rw [HR.out, HS.out, if_neg (by rw [hpk]; decide)]; rfl), rfl⟩
    · go_wp2
      go_ret
      exact ⟨lret_int (by rw [HR.out, List.drop_eq_nil_of_le (by omega)]; rfl), rfl⟩

end Go.Proofs.YtppagjhmlgkamaaGreatDoor

/-
  The contracts of lex.comment and lex.first, and of the two IndexByte of Go's library that they call.
-/
namespace Go.Proofs.YtppagjhmlgkamaaGreatDoor
open Go Go.RowKit Go.Lib

def ints (l : List UInt8) : List Int := l.map bv
theorem ints_getD (l : List UInt8) (i : Nat) (h : i < l.length) : (ints l).getD i 0 = nth l i := by
  unfold ints nth
  rw [List.getD_eq_getElem?_getD, List.getD_eq_getElem?_getD, List.getElem?_map, List.getElem?_eq_getElem h]; rfl
theorem bytesOf_ints (l : List UInt8) : Lib.bytesOf (ints l) = l := by
  unfold Lib.bytesOf ints
  rw [List.map_map]
  conv => rhs; rw [← List.map_id l]
  apply List.map_congr_left
  intro c _
  simp [bv]

set_option maxHeartbeats 1000000 in
set_option maxRecDepth 100000 in
theorem bytes_index (b o c : Nat) (l : List UInt8) (cv : Int) (w : World)
    (hc : ∀ i, i < l.length → w.cell? ⟨b, o + i, none⟩ = some (.int .u8 (nth l i))) :
    Calls Tryz.prog 68 #[.slice (some ⟨b, o, none⟩) l.length c, .int .u8 cv] w fun e w' => e = .returned (.int .i64 (Lib.indexByte l cv.toNat.toUInt8)) ∧ w = w' := by
  have HR := Lib.hid (Lib.run_indexByteSlice (P := Tryz.prog) w b o l.length c (ints l) (by simp [ints]) (fun i hi => by rw [ints_getD l i hi]; exact hc i hi) cv)
  clear hc
  go_enter Tryz.func68, Tryz.ntmps68
  go_wp2
  rw [run_callFunc_extern Tryz.func97 (by kernel_rfl) (by kernel_rfl) (by kernel_rfl) (e := Extern.BytealgIndexByte.indexByte) (by kernel_rfl), HR.out, bytesOf_ints]
  simp only [Result.andThen]
  rw [Oper.upon_value]
  go_wp2
  go_ret
  exact ⟨rfl, rfl⟩

set_option maxHeartbeats 1000000 in
set_option maxRecDepth 100000 in
theorem lite_index (s : ByteArray) (cv : Int) (w : World) :
    Calls Tryz.prog 98 #[.string s, .int .u8 cv] w fun e w' => e = .returned (.int .i64 (Lib.indexByte s.data.toList cv.toNat.toUInt8)) ∧ w = w' := by
  go_enter Tryz.func98, Tryz.ntmps98
  go_wp2
  rw [run_callFunc_extern Tryz.func115 (by kernel_rfl) (by kernel_rfl) (by kernel_rfl) (e := Extern.BytealgIndexByte.indexByte) (by kernel_rfl), Lib.run_indexByteString]
  simp only [Result.andThen]
  rw [Oper.upon_value]
  go_wp2
  go_ret
  exact ⟨rfl, rfl⟩

set_option maxRecDepth 100000 in
theorem strings_index (s : ByteArray) (cv : Int) (w : World) :
    Calls Tryz.prog 72 #[.string s, .int .u8 cv] w fun e w' => e = .returned (.int .i64 (Lib.indexByte s.data.toList cv.toNat.toUInt8)) ∧ w = w' := by
  go_enter Tryz.func72, Tryz.ntmps72
  go_wp2_with (go_at_call 98; ((with_reducible refine (lite_index _ _ _).mono ?_); rintro e w1 ⟨rfl, rfl⟩))
  go_ret
  exact ⟨rfl, rfl⟩

theorem index_ge (l : List UInt8) (c : UInt8) : (0 ≤ Lib.indexByte l c ∧ l.contains c = true) ∨ (Lib.indexByte l c = -1 ∧ l.contains c = false) := by
  induction l with
  | nil => right; exact ⟨rfl, rfl⟩
  | cons b l ih =>
    unfold Lib.indexByte
    by_cases h : b = c
    · left; subst h; simp
    · rw [if_neg (by simpa using h)]
      rcases ih with ⟨h1, h2⟩ | ⟨h1, h2⟩
      · left
        rw [if_neg (by simp; omega)]
        exact ⟨by omega, by rw [List.contains_cons, h2]; simp⟩
      · right
        rw [if_pos (by simpa using h1)]
        refine ⟨rfl, by rw [List.contains_cons, h2, Bool.or_false]; simpa using fun e => h e.symm⟩
theorem index_cons (b c : UInt8) (l : List UInt8) : Lib.indexByte (b :: l) c = if b == c then 0 else if Lib.indexByte l c == -1 then -1 else Lib.indexByte l c + 1 := rfl
theorem commL_cons (b : UInt8) (l : List UInt8) : commL (b :: l) = if b = 10 then 0 else commL l + 1 := rfl
theorem comm_index (l : List UInt8) : (commL l : Int) = if 0 ≤ Lib.indexByte l 10 then Lib.indexByte l 10 else l.length := by
  induction l with
  | nil => rfl
  | cons b l ih =>
    rw [commL_cons, index_cons]
    by_cases h : b = 10
    · subst h; simp
    · have hb : (b == 10) = false := by simpa using h
      rw [if_neg h, hb]
      have hg := Lib.indexByte_ge l 10
      by_cases hi : Lib.indexByte l 10 = -1
      · rw [hi] at ih ⊢
        simp at ih ⊢
        omega
      · have hi' : (Lib.indexByte l 10 == -1) = false := by simpa using hi
        rw [if_pos (by omega)] at ih
        rw [hi']
        simp only [Bool.false_eq_true, if_false]
        rw [if_pos (by omega)]
        omega
theorem index_le (l : List UInt8) (c : UInt8) : Lib.indexByte l c ≤ l.length := by
  induction l with
  | nil => show (-1 : Int) ≤ 0; decide
  | cons b l ih =>
    rw [index_cons]
    split
    · simp; omega
    · split
      · simp; omega
      · simp; omega

set_option maxRecDepth 100000 in
theorem comment_any (b o c : Nat) (l : List UInt8) (w : World) (_hl : l.length ≤ 65536)
    (hc : ∀ i, i < l.length → w.cell? ⟨b, o + i, none⟩ = some (.int .u8 (nth l i))) :
    Calls Tryz.prog 39 #[.slice (some ⟨b, o, none⟩) l.length c] w fun e w' => e = .returned (.int .i64 (commL l)) ∧ w = w' := by
  have HC := Lib.hid hc; clear hc
  have HX := Lib.hid (comm_index l)
  obtain ⟨x, hx⟩ : ∃ x, Lib.indexByte l 10 = x := ⟨_, rfl⟩
  have hx0 := Lib.indexByte_ge l 10
  have hx1 := index_le l 10
  rw [hx] at hx0 hx1
  have hb : Calls Tryz.prog 68 #[.slice (some ⟨b, o, none⟩) l.length c, .int .u8 10] w fun e w' => e = .returned (.int .i64 x) ∧ w = w' := by
    rw [← hx]; exact bytes_index b o c l 10 w HC.out
  have HB := Lib.hid hx; clear hx
  go_enter Tryz.func39, Tryz.ntmps39
  go_wp2_with (go_at_call 68; ((with_reducible refine hb.mono ?_); rintro e w1 ⟨rfl, rfl⟩))
  all_goals
    go_ret
    refine ⟨lret_int ?_, rfl⟩
    rw [HX.out, HB.out]
    first | (rw [if_pos (by omega)]; done) | (rw [if_neg (by omega)]; done)

theorem mrk_index (c : UInt8) : mrkB c = decide (0 ≤ Lib.indexByte marksL c) := by
  unfold mrkB
  rcases index_ge marksL c with ⟨h1, h2⟩ | ⟨h1, h2⟩
  · rw [h2, decide_eq_true h1]
  · rw [h2, h1]; rfl

theorem firstK_nth {l : List UInt8} (h : 0 < l.length) : firstK l = if letB (nth l 0) then 1 else if digB (nth l 0) then 2 else if mrkB (l.getD 0 0) then 3 else 0 := by
  cases l with
  | nil => simp at h
  | cons c l => rfl
theorem firstN_nth {l : List UInt8} (h : 0 < l.length) : firstN l = if letB (nth l 0) then reachL inwB l else if digB (nth l 0) then reachL digB l
      else if nth l 0 = 61 ∧ 1 < l.length ∧ nth l 1 = 61 then 2 else if mrkB (l.getD 0 0) then 1 else 0 := by
  cases l with
  | nil => simp at h
  | cons c l =>
    rw [firstN_cons]
    have e : (c = 61 ∧ l.head? = some 61) ↔ (nth (c :: l) 0 = 61 ∧ 1 < (c :: l).length ∧ nth (c :: l) 1 = 61) := by
      have key : ∀ d : UInt8, d = 61 ↔ bv d = 61 := fun d => ⟨fun h => by rw [h]; rfl, fun h => bv_inj (n := 61) h (by decide)⟩
      cases l with
      | nil => simp
      | cons d l =>
        simp only [List.head?_cons, Option.some.injEq, List.length_cons]
        rw [key c, key d]
        exact ⟨fun ⟨h1, h2⟩ => ⟨h1, by omega, h2⟩, fun ⟨h1, _, h2⟩ => ⟨h1, h2⟩⟩
    simp only [e]
    rfl
theorem u8_back (c : UInt8) : (bv c).toNat.toUInt8 = c := by simp [bv]

theorem ret_two {a b : Int} {c d : Nat} (h1 : a = c) (h2 : b = d) : Ending.returned (.tuple #[.int .i64 a, .int .i64 b]) = .returned (.tuple #[.int .i64 c, .int .i64 d]) := by rw [h1, h2]


section
variable (b o c : Nat) (l : List UInt8) (w : World) (x : Int)
/-- What first_any's walks ask for. -/
def FirstIn : Prop := l.length ≤ 65536 ∧ 0 < l.length ∧ (∀ i, i < l.length → w.cell? ⟨b, o + i, none⟩ = some (.int .u8 (nth l i))) ∧ Lib.indexByte marksL (nth l 0).toNat.toUInt8 = x ∧ -1 ≤ x ∧ x ≤ 18
def FirstOut (e : Ending) (w' : World) : Prop := e = .returned (.tuple #[.int .i64 (firstK l), .int .i64 (firstN l)]) ∧ w = w'
variable {l} {x}
theorem out_let (h0 : 0 < l.length) (h : letB (nth l 0) = true) : FirstOut l w (.returned (.tuple #[.int .i64 1, .int .i64 (reachL inwB l)])) w := by
  unfold FirstOut; rw [firstK_nth h0, firstN_nth h0, if_pos h, if_pos h]; exact ⟨rfl, rfl⟩
theorem out_dig (h0 : 0 < l.length) (h : letB (nth l 0) = false) (h2 : digB (nth l 0) = true) : FirstOut l w (.returned (.tuple #[.int .i64 2, .int .i64 (reachL digB l)])) w := by
  unfold FirstOut; rw [firstK_nth h0, firstN_nth h0, h, h2]; exact ⟨rfl, rfl⟩
theorem out_mark (h0 : 0 < l.length) (hm : mrkB (l.getD 0 0) = decide (0 ≤ x)) (h : letB (nth l 0) = false) (h2 : digB (nth l 0) = false) (hn : ¬ (nth l 0 = 61 ∧ 1 < l.length ∧ nth l 1 = 61)) (hx : 0 ≤ x) : FirstOut l w (.returned (.tuple #[.int .i64 3, .int .i64 1])) w := by
  unfold FirstOut; rw [firstK_nth h0, firstN_nth h0, h, h2, if_neg hn, hm, decide_eq_true hx]; exact ⟨rfl, rfl⟩
theorem out_none (h0 : 0 < l.length) (hm : mrkB (l.getD 0 0) = decide (0 ≤ x)) (h : letB (nth l 0) = false) (h2 : digB (nth l 0) = false) (hn : ¬ (nth l 0 = 61 ∧ 1 < l.length ∧ nth l 1 = 61)) (hx : x < 0) : FirstOut l w (.returned (.tuple #[.int .i64 0, .int .i64 0])) w := by
  unfold FirstOut; rw [firstK_nth h0, firstN_nth h0, h, h2, if_neg hn, hm, decide_eq_false (by omega)]; exact ⟨rfl, rfl⟩
theorem out_two (h0 : 0 < l.length) (hn : nth l 0 = 61 ∧ 1 < l.length ∧ nth l 1 = 61) : FirstOut l w (.returned (.tuple #[.int .i64 3, .int .i64 2])) w := by
  have e1 : letB 61 = false := rfl
  have e2 : digB 61 = false := rfl
  have e3 : l.getD 0 0 = 61 := bv_inj (n := 61) hn.1 (by decide)
  have e4 : mrkB 61 = true := rfl
  unfold FirstOut; rw [firstK_nth h0, firstN_nth h0, if_pos hn, hn.1, e1, e2, e3, e4]; exact ⟨rfl, rfl⟩
variable (l) (x)

set_option maxHeartbeats 2000000 in
set_option maxRecDepth 100000 in
theorem first_0 (q0 : (nth l 0 == 61) = false) (h : FirstIn b o l w x) : Calls Tryz.prog 40 #[.slice (some ⟨b, o, none⟩) l.length c] w (FirstOut l w) := by
  obtain ⟨hl, h0, hc, hx, hx0, hx1⟩ := h
  have c0 : w.cell? ⟨b, o, none⟩ = some (.int .u8 (nth l 0)) := hc 0 h0
  have HT := Lib.hid (show ¬ (nth l 0 = 61 ∧ 1 < l.length ∧ nth l 1 = 61) from fun h => by rw [h.1] at q0; simp at q0)
  have HC := Lib.hid hc; clear hc
  obtain ⟨r0, r1⟩ := nth_range l 0
  have hm0 : mrkB (l.getD 0 0) = decide (0 ≤ Lib.indexByte marksL (nth l 0).toNat.toUInt8) := by
    rw [mrk_index]; unfold nth; rw [u8_back]
  rw [hx] at hm0
  have HM := Lib.hid hm0; clear hm0
  have hb : Calls Tryz.prog 72 #[.string ⟨#[40, 41, 123, 125, 91, 93, 44, 59, 61, 43, 45, 42, 47, 37, 60, 33, 38, 124]⟩, .int .u8 (nth l 0)] w fun e w' => e = .returned (.int .i64 x) ∧ w = w' := by
    rw [← hx]; exact strings_index _ _ w
  have HX := Lib.hid hx; clear hx
  go_enter Tryz.func40, Tryz.ntmps40
  go_wp2_with (first
    | (go_at_call 41; ((with_reducible refine (lletter_any _ _ r0 r1).mono ?_); rintro e w1 ⟨rfl, rfl⟩))
    | (go_at_call 71; ((with_reducible refine (digit_any _ _ r0 r1).mono ?_); rintro e w1 ⟨rfl, rfl⟩))
    | (go_at_call 69; ((with_reducible refine (reach_word _ _ _ _ _ hl HC.out).mono ?_); rintro e w1 ⟨rfl, rfl⟩))
    | (go_at_call 69; ((with_reducible refine (reach_digits _ _ _ _ _ hl HC.out).mono ?_); rintro e w1 ⟨rfl, rfl⟩))
    | (go_at_call 72; ((with_reducible refine hb.mono ?_); rintro e w1 ⟨rfl, rfl⟩)))
  all_goals
    go_ret2
    first
      | exact out_let w h0 (by assumption)
      | exact out_dig w h0 (by assumption) (by assumption)
      | exact out_two w h0 HT.out
      | exact out_mark w h0 HM.out (by assumption) (by assumption) HT.out (by assumption)
      | exact out_none w h0 HM.out (by assumption) (by assumption) HT.out (by assumption)

set_option maxHeartbeats 2000000 in
set_option maxRecDepth 100000 in
theorem first_1 (q0 : (nth l 0 == 61) = true) (q1 : decide (1 < l.length) = false) (h : FirstIn b o l w x) : Calls Tryz.prog 40 #[.slice (some ⟨b, o, none⟩) l.length c] w (FirstOut l w) := by
  obtain ⟨hl, h0, hc, hx, hx0, hx1⟩ := h
  have c0 : w.cell? ⟨b, o, none⟩ = some (.int .u8 (nth l 0)) := hc 0 h0
  have h1 : (l.length : Int) ≤ 1 := by have := of_decide_eq_false q1; omega
  have HT := Lib.hid (show ¬ (nth l 0 = 61 ∧ 1 < l.length ∧ nth l 1 = 61) from fun h => of_decide_eq_false q1 h.2.1)
  have HC := Lib.hid hc; clear hc
  obtain ⟨r0, r1⟩ := nth_range l 0
  have hm0 : mrkB (l.getD 0 0) = decide (0 ≤ Lib.indexByte marksL (nth l 0).toNat.toUInt8) := by
    rw [mrk_index]; unfold nth; rw [u8_back]
  rw [hx] at hm0
  have HM := Lib.hid hm0; clear hm0
  have hb : Calls Tryz.prog 72 #[.string ⟨#[40, 41, 123, 125, 91, 93, 44, 59, 61, 43, 45, 42, 47, 37, 60, 33, 38, 124]⟩, .int .u8 (nth l 0)] w fun e w' => e = .returned (.int .i64 x) ∧ w = w' := by
    rw [← hx]; exact strings_index _ _ w
  have HX := Lib.hid hx; clear hx
  go_enter Tryz.func40, Tryz.ntmps40
  go_wp2_with (first
    | (go_at_call 41; ((with_reducible refine (lletter_any _ _ r0 r1).mono ?_); rintro e w1 ⟨rfl, rfl⟩))
    | (go_at_call 71; ((with_reducible refine (digit_any _ _ r0 r1).mono ?_); rintro e w1 ⟨rfl, rfl⟩))
    | (go_at_call 69; ((with_reducible refine (reach_word _ _ _ _ _ hl HC.out).mono ?_); rintro e w1 ⟨rfl, rfl⟩))
    | (go_at_call 69; ((with_reducible refine (reach_digits _ _ _ _ _ hl HC.out).mono ?_); rintro e w1 ⟨rfl, rfl⟩))
    | (go_at_call 72; ((with_reducible refine hb.mono ?_); rintro e w1 ⟨rfl, rfl⟩)))
  all_goals
    go_ret2
    first
      | exact out_let w h0 (by assumption)
      | exact out_dig w h0 (by assumption) (by assumption)
      | exact out_two w h0 HT.out
      | exact out_mark w h0 HM.out (by assumption) (by assumption) HT.out (by assumption)
      | exact out_none w h0 HM.out (by assumption) (by assumption) HT.out (by assumption)

set_option maxHeartbeats 2000000 in
set_option maxRecDepth 100000 in
theorem first_2 (q0 : (nth l 0 == 61) = true) (q1 : decide (1 < l.length) = true) (q2 : (nth l 1 == 61) = false) (h : FirstIn b o l w x) : Calls Tryz.prog 40 #[.slice (some ⟨b, o, none⟩) l.length c] w (FirstOut l w) := by
  obtain ⟨hl, h0, hc, hx, hx0, hx1⟩ := h
  have c0 : w.cell? ⟨b, o, none⟩ = some (.int .u8 (nth l 0)) := hc 0 h0
  have h1 : 1 < l.length := of_decide_eq_true q1
  have h1' : 1 < (l.length : Int) := by omega
  have c1 : w.cell? ⟨b, o + 1, none⟩ = some (.int .u8 (nth l 1)) := hc 1 h1
  have HT := Lib.hid (show ¬ (nth l 0 = 61 ∧ 1 < l.length ∧ nth l 1 = 61) from fun h => by rw [h.2.2] at q2; simp at q2)
  have HC := Lib.hid hc; clear hc
  obtain ⟨r0, r1⟩ := nth_range l 0
  have hm0 : mrkB (l.getD 0 0) = decide (0 ≤ Lib.indexByte marksL (nth l 0).toNat.toUInt8) := by
    rw [mrk_index]; unfold nth; rw [u8_back]
  rw [hx] at hm0
  have HM := Lib.hid hm0; clear hm0
  have hb : Calls Tryz.prog 72 #[.string ⟨#[40, 41, 123, 125, 91, 93, 44, 59, 61, 43, 45, 42, 47, 37, 60, 33, 38, 124]⟩, .int .u8 (nth l 0)] w fun e w' => e = .returned (.int .i64 x) ∧ w = w' := by
    rw [← hx]; exact strings_index _ _ w
  have HX := Lib.hid hx; clear hx
  go_enter Tryz.func40, Tryz.ntmps40
  go_wp2_with (first
    | (go_at_call 41; ((with_reducible refine (lletter_any _ _ r0 r1).mono ?_); rintro e w1 ⟨rfl, rfl⟩))
    | (go_at_call 71; ((with_reducible refine (digit_any _ _ r0 r1).mono ?_); rintro e w1 ⟨rfl, rfl⟩))
    | (go_at_call 69; ((with_reducible refine (reach_word _ _ _ _ _ hl HC.out).mono ?_); rintro e w1 ⟨rfl, rfl⟩))
    | (go_at_call 69; ((with_reducible refine (reach_digits _ _ _ _ _ hl HC.out).mono ?_); rintro e w1 ⟨rfl, rfl⟩))
    | (go_at_call 72; ((with_reducible refine hb.mono ?_); rintro e w1 ⟨rfl, rfl⟩)))
  all_goals
    go_ret2
    first
      | exact out_let w h0 (by assumption)
      | exact out_dig w h0 (by assumption) (by assumption)
      | exact out_two w h0 HT.out
      | exact out_mark w h0 HM.out (by assumption) (by assumption) HT.out (by assumption)
      | exact out_none w h0 HM.out (by assumption) (by assumption) HT.out (by assumption)

set_option maxHeartbeats 2000000 in
set_option maxRecDepth 100000 in
theorem first_3 (q0 : (nth l 0 == 61) = true) (q1 : decide (1 < l.length) = true) (q2 : (nth l 1 == 61) = true) (h : FirstIn b o l w x) : Calls Tryz.prog 40 #[.slice (some ⟨b, o, none⟩) l.length c] w (FirstOut l w) := by
  obtain ⟨hl, h0, hc, hx, hx0, hx1⟩ := h
  have c0 : w.cell? ⟨b, o, none⟩ = some (.int .u8 (nth l 0)) := hc 0 h0
  have h1 : 1 < l.length := of_decide_eq_true q1
  have h1' : 1 < (l.length : Int) := by omega
  have c1 : w.cell? ⟨b, o + 1, none⟩ = some (.int .u8 (nth l 1)) := hc 1 h1
  have HT := Lib.hid (show (nth l 0 = 61 ∧ 1 < l.length ∧ nth l 1 = 61) from ⟨by simpa using q0, of_decide_eq_true q1, by simpa using q2⟩)
  have HC := Lib.hid hc; clear hc
  obtain ⟨r0, r1⟩ := nth_range l 0
  have hm0 : mrkB (l.getD 0 0) = decide (0 ≤ Lib.indexByte marksL (nth l 0).toNat.toUInt8) := by
    rw [mrk_index]; unfold nth; rw [u8_back]
  rw [hx] at hm0
  have HM := Lib.hid hm0; clear hm0
  have hb : Calls Tryz.prog 72 #[.string ⟨#[40, 41, 123, 125, 91, 93, 44, 59, 61, 43, 45, 42, 47, 37, 60, 33, 38, 124]⟩, .int .u8 (nth l 0)] w fun e w' => e = .returned (.int .i64 x) ∧ w = w' := by
    rw [← hx]; exact strings_index _ _ w
  have HX := Lib.hid hx; clear hx
  go_enter Tryz.func40, Tryz.ntmps40
  go_wp2_with (first
    | (go_at_call 41; ((with_reducible refine (lletter_any _ _ r0 r1).mono ?_); rintro e w1 ⟨rfl, rfl⟩))
    | (go_at_call 71; ((with_reducible refine (digit_any _ _ r0 r1).mono ?_); rintro e w1 ⟨rfl, rfl⟩))
    | (go_at_call 69; ((with_reducible refine (reach_word _ _ _ _ _ hl HC.out).mono ?_); rintro e w1 ⟨rfl, rfl⟩))
    | (go_at_call 69; ((with_reducible refine (reach_digits _ _ _ _ _ hl HC.out).mono ?_); rintro e w1 ⟨rfl, rfl⟩))
    | (go_at_call 72; ((with_reducible refine hb.mono ?_); rintro e w1 ⟨rfl, rfl⟩)))
  all_goals
    go_ret2
    first
      | exact out_let w h0 (by assumption)
      | exact out_dig w h0 (by assumption) (by assumption)
      | exact out_two w h0 HT.out
      | exact out_mark w h0 HM.out (by assumption) (by assumption) HT.out (by assumption)
      | exact out_none w h0 HM.out (by assumption) (by assumption) HT.out (by assumption)
end

theorem first_any (b o c : Nat) (l : List UInt8) (w : World) (hl : l.length ≤ 65536) (h0 : 0 < l.length)
    (hc : ∀ i, i < l.length → w.cell? ⟨b, o + i, none⟩ = some (.int .u8 (nth l i))) :
    Calls Tryz.prog 40 #[.slice (some ⟨b, o, none⟩) l.length c] w (FirstOut l w) := by
  have hi : FirstIn b o l w (Lib.indexByte marksL (nth l 0).toNat.toUInt8) := ⟨hl, h0, hc, rfl, Lib.indexByte_ge _ _, index_le marksL _⟩
  cases q0 : nth l 0 == 61 with
  | false => exact first_0 b o c l w _ q0 hi
  | true =>
    cases q1 : decide (1 < l.length) with
    | false => exact first_1 b o c l w _ q0 q1 hi
    | true =>
      cases q2 : nth l 1 == 61 with
      | false => exact first_2 b o c l w _ q0 q1 q2 hi
      | true => exact first_3 b o c l w _ q0 q1 q2 hi

end Go.Proofs.YtppagjhmlgkamaaGreatDoor

/-
  The contract of lex.Lex: at every slice of bytes it tells what 'lexS' tells of them; the tokens lie in a row of its own; of what was there nothing has turned.
-/
namespace Go.Proofs.YtppagjhmlgkamaaGreatDoor
open Go Go.RowKit Go.Lib

theorem comment_n (b o c n : Nat) (l : List UInt8) (w : World) (hn : l.length = n) (hl : l.length ≤ 65536)
    (hc : ∀ i, i < l.length → w.cell? ⟨b, o + i, none⟩ = some (.int .u8 (nth l i))) :
    Calls Tryz.prog 39 #[.slice (some ⟨b, o, none⟩) n c] w fun e w' => e = .returned (.int .i64 (commL l)) ∧ w = w' := by
  subst hn; exact comment_any b o c l w hl hc
theorem first_n (b o c n : Nat) (l : List UInt8) (w : World) (hn : l.length = n) (hl : l.length ≤ 65536) (h0 : 0 < l.length)
    (hc : ∀ i, i < l.length → w.cell? ⟨b, o + i, none⟩ = some (.int .u8 (nth l i))) :
    Calls Tryz.prog 40 #[.slice (some ⟨b, o, none⟩) n c] w fun e w' => e = .returned (.tuple #[.int .i64 (firstK l), .int .i64 (firstN l)]) ∧ w = w' := by
  subst hn; exact first_any b o c l w hl h0 hc

/-- The cells of tokens in a row. -/
def toks (ts : List Tok) : List Value := ts.flatMap fun t => [.int .i64 t.kind, .string ⟨t.text.toArray⟩, .int .i64 t.at_]
theorem tokInfo : (Tryz.prog.info? 83).map (fun i => (i.zero, i.size, i.bytes)) = some (some (.agg #[.int .i64 0, .string ⟨#[]⟩, .int .i64 0]), 3, 32) := by kernel_rfl

def LexAt (l : List UInt8) (w : World) (v i : Value) (wr : World) : Prop :=
  ∃ (k : Nat) (acc : List Tok), k ≤ l.length ∧ i = .int .i64 k ∧ wr.ownsRow w.heap.size 83 3 v acc.length (toks acc) ∧ Below w.heap.size w wr ∧ (lexS k (l.drop k)).app acc = lexS 0 l ∧ acc.length ≤ k

theorem toks_snoc (ts : List Tok) (t : Tok) : toks (ts ++ [t]) = toks ts ++ [.int .i64 t.kind, .string ⟨t.text.toArray⟩, .int .i64 t.at_] := by
  simp [toks]
theorem below_row {w wr w1 : World} {v : Value} {n : Nat} {xs : List Value} {o : Obj} (hown : wr.ownsRow w.heap.size 83 3 v n xs) (hbw : Below w.heap.size w wr) (hg : (wr.alloc o).grownBy w1 v.ownBlock) : Below w.heap.size w w1 := by
  have := hbw.size
  exact (hbw.alloc (by omega) o).grown hg (by simp; omega) (fun j hj => (hown.lt j hj).1)
theorem three_cells {wr : World} {a b c : Value} : ∀ j u, [a, b, c][j]? = some u → (wr.alloc (.cells #[a, b, c] 83)).cell? ((⟨wr.heap.size, 0, none⟩ : Addr).add j) = some u := by
  intro j u hj
  match j, hj with
  | 0, hj => simp at hj; subst hj; simp [Addr.add]
  | 1, hj => simp at hj; subst hj; simp [Addr.add]
  | 2, hj => simp at hj; subst hj; simp [Addr.add]
theorem three_one {k a : Int} {s : ByteArray} : ∀ u ∈ [Value.int .i64 k, .string s, .int .i64 a], u.oneCell' = true := by
  intro u hu
  simp at hu
  rcases hu with rfl | rfl | rfl <;> rfl
theorem own_snoc {w1 : World} {B : Nat} {v : Value} {acc : List Tok} {t : Tok} (h : w1.ownsRow B 83 3 v (acc.length + 1) (toks acc ++ [.int .i64 t.kind, .string ⟨t.text.toArray⟩, .int .i64 t.at_])) :
    w1.ownsRow B 83 3 v (acc ++ [t]).length (toks (acc ++ [t])) := by
  rw [toks_snoc, List.length_append]; exact h

/-- What Lex leaves. -/
def LexOut (l : List UInt8) (w : World) (e : Ending) (w' : World) : Prop :=
  Below w.heap.size w w' ∧
    ((∃ p, lexS 0 l = .bad p ∧ e = .returned (.tuple #[.slice none 0 0, .int .i64 p, .int .i64 2])) ∨
     (∃ ts v, lexS 0 l = .ok ts ∧ e = .returned (.tuple #[v, .int .i64 0, .int .i64 0]) ∧ w'.ownsRow w.heap.size 83 3 v (ts.length + 1) (toks (ts ++ [⟨4, [], l.length⟩]))))

theorem out_bad {l : List UInt8} {w w' : World} {k p : Nat} {acc : List Tok} {P : Int} (hb : Below w.heap.size w w') (hgo : (lexS k (l.drop k)).app acc = lexS 0 l) (h : lexS k (l.drop k) = .bad p) (hP : P = p) :
    LexOut l w (.returned (.tuple #[.slice none 0 0, .int .i64 P, .int .i64 2])) w' := by
  subst hP
  refine ⟨hb, .inl ⟨p, ?_, rfl⟩⟩
  rw [← hgo, h]; rfl
theorem out_ok {l : List UInt8} {w w' : World} {k : Nat} {acc : List Tok} {v : Value} (hb : Below w.heap.size w w') (hk : l.length ≤ k) (hgo : (lexS k (l.drop k)).app acc = lexS 0 l)
    (hown : w'.ownsRow w.heap.size 83 3 v (acc.length + 1) (toks (acc ++ [⟨4, [], l.length⟩]))) :
    LexOut l w (.returned (.tuple #[v, .int .i64 0, .int .i64 0])) w' := by
  refine ⟨hb, .inr ⟨acc, v, ?_, rfl, hown⟩⟩
  rw [← hgo, List.drop_eq_nil_of_le hk, lexS_nil]
  simp [Res.app]
theorem go_blank {l : List UInt8} {k : Nat} {acc : List Tok} (hlt : k < l.length) (hb : blkB (nth l k) = true) (hgo : (lexS k (l.drop k)).app acc = lexS 0 l) : (lexS (k + 1) (l.drop (k + 1))).app acc = lexS 0 l := by
  rw [← hgo, drop_cons hlt, lexS_blank hb]
theorem go_comm {l : List UInt8} {k : Nat} {acc : List Tok} (hlt : k < l.length) (hc : (nth l k == 35) = true) (hgo : (lexS k (l.drop k)).app acc = lexS 0 l) : (lexS (k + commL (l.drop k)) (l.drop (k + commL (l.drop k)))).app acc = lexS 0 l := by
  have e : l.getD k 0 = 35 := bv_inj (n := 35) (by simpa [nth] using hc) (by decide)
  have ed : l.drop k = 35 :: l.drop (k + 1) := by rw [drop_cons hlt, e]
  rw [← hgo]
  conv => rhs; rw [ed, lexS_comm, ← ed, List.drop_drop]
theorem comm_pos {l : List UInt8} {k : Nat} (hlt : k < l.length) (hc : (nth l k == 35) = true) : 1 ≤ commL (l.drop k) := by
  have e : l.getD k 0 = 35 := bv_inj (n := 35) (by simpa [nth] using hc) (by decide)
  rw [drop_cons hlt, e, commL_cons, if_neg (by decide)]; omega
theorem at_bad {l : List UInt8} {k : Nat} (hlt : k < l.length) (hb : blkB (nth l k) = false) (hc : (nth l k == 35) = false) (h : firstK (l.drop k) = 0 ∨ (firstK (l.drop k) = 1 ∧ 32 < firstN (l.drop k))) : lexS k (l.drop k) = .bad k := by
  rw [drop_cons hlt] at h ⊢
  exact lexS_bad hb (fun e => by rw [show nth l k = 35 by unfold nth; rw [e]; rfl] at hc; simp at hc) h
theorem at_glued {l : List UInt8} {k : Nat} (hlt : k < l.length) (hb : blkB (nth l k) = false) (hc : (nth l k == 35) = false) (h : firstK (l.drop k) = 2) (hg : glued (l.drop k) (firstN (l.drop k)) = true) : lexS k (l.drop k) = .bad (k + firstN (l.drop k)) := by
  rw [drop_cons hlt] at h hg ⊢
  exact lexS_glued hb (fun e => by rw [show nth l k = 35 by unfold nth; rw [e]; rfl] at hc; simp at hc) (by omega) ⟨h, hg⟩
theorem go_tok {l : List UInt8} {k : Nat} {acc : List Tok} (hlt : k < l.length) (hb : blkB (nth l k) = false) (hc : (nth l k == 35) = false) (h : ¬ (firstK (l.drop k) = 0 ∨ (firstK (l.drop k) = 1 ∧ 32 < firstN (l.drop k))))
    (hg : ¬ (firstK (l.drop k) = 2 ∧ glued (l.drop k) (firstN (l.drop k)) = true)) (hgo : (lexS k (l.drop k)).app acc = lexS 0 l) :
    (lexS (k + firstN (l.drop k)) (l.drop (k + firstN (l.drop k)))).app (acc ++ [⟨firstK (l.drop k), (l.drop k).take (firstN (l.drop k)), k⟩]) = lexS 0 l := by
  rw [← hgo, ← Res.app_cons, ← List.drop_drop]
  rw [drop_cons hlt] at h hg ⊢
  rw [lexS_tok hb (fun e => by rw [show nth l k = 35 by unfold nth; rw [e]; rfl] at hc; simp at hc) h hg]
theorem firstK_le (l : List UInt8) : firstK l ≤ 3 := by
  unfold firstK
  split
  · omega
  · split
    · omega
    · split
      · omega
      · split <;> omega

theorem conv_take {b o cn k n : Nat} {l : List UInt8} {wr : World} (hd : (l.drop k).length = cn) (hc : ∀ i, i < (l.drop k).length → wr.cell? ⟨b, o + k + i, none⟩ = some (.int .u8 (nth (l.drop k) i))) (hn : n ≤ cn) :
    ∀ c, (convert 29 9 (.slice (some ⟨b, o + k, none⟩) n c)).run Tryz.prog wr = .ok (.string ⟨((l.drop k).take n).toArray⟩) wr := by
  intro c
  have hlen : ((l.drop k).take n).length = n := by rw [List.length_take]; omega
  have h := run_convert_bytes_back (P := Tryz.prog) wr 29 9 5 ⟨b, o + k, none⟩ c ((l.drop k).take n) Tryz.underlying29 Tryz.underlying5 Tryz.underlying9 (fun j hj => by
    have e : (⟨b, o + k, none⟩ : Addr).add j = ⟨b, o + k + j, none⟩ := by unfold Addr.add; split <;> simp_all
    have hj' : j < (l.drop k).length := by omega
    rw [e, hc j hj']
    unfold nth bv
    rw [List.getD_eq_getElem?_getD, List.getElem?_eq_getElem hj']
    simp)
  rw [hlen] at h
  exact h

set_option maxHeartbeats 8000000 in
set_option maxRecDepth 100000 in
theorem lex_row (b o cap : Nat) (l : List UInt8) (w : World) (hl : l.length ≤ 65536) (h0 : 0 < l.length) (hcap : l.length ≤ cap) (hb : b < w.heap.size)
    (hc : ∀ i, i < l.length → w.cell? ⟨b, o + i, none⟩ = some (.int .u8 (nth l i))) :
    Calls Tryz.prog 19 #[.slice (some ⟨b, o, none⟩) l.length cap] w (LexOut l w) := by
  have HC := Lib.hid hc; clear hc
  obtain ⟨i0, hi, hz0, hz1, hz2⟩ := info_parts tokInfo
  go_enter Tryz.func19, Tryz.ntmps19
  go_wp2
  go_step3
  go_wp2
  go_step3
  go_wp2
  go_loopw [5, 6] (fun v i wr => LexAt l w v i wr) (fun _ i _ => l.length - (intOf i).toNat)
  case atStart => exact ⟨0, [], Nat.zero_le _, rfl, World.ownsRow_nil _ _ _ _, Below.refl _ _, by rw [Res.app_nil]; rfl, Nat.le_refl _⟩
  case round =>
    obtain ⟨k, acc, hk, rfl, hown, hbw, hgo, hacc⟩ := hrel
    have HG := Lib.hid hgo; clear hgo
    have hsz := hbw.size
    by_cases hlt : k < l.length
    · have hcell : wr.cell? ⟨b, o + k, none⟩ = some (.int .u8 (nth l k)) := (hbw.cell hb).trans (HC.out k hlt)
      obtain ⟨r0, r1⟩ := nth_range l k
      have hne : ¬ cap = k := by omega
      have hdl : (l.drop k).length = l.length - k := List.length_drop
      have HCD := Lib.hid (show ∀ i, i < (l.drop k).length → wr.cell? ⟨b, o + k + i, none⟩ = some (.int .u8 (nth (l.drop k) i)) from fun i hi => by rw [nth_drop, Nat.add_assoc]; exact (hbw.cell hb).trans (HC.out (k + i) (by omega)))
      have HDL := Lib.hid hdl; clear hdl
      cases hbl : blkB (nth l k) with
      | true =>
        have HBL := Lib.hid hbl
        go_wp2_with (first
          | (go_at_call 38; ((with_reducible refine (lparts_any _ _).mono ?_); rintro e w1 ⟨rfl, rfl⟩)))
        go_roundw
        case rel => exact ⟨k + 1, acc, by omega, by go_num, hown, hbw, go_blank hlt HBL.out HG.out, by omega⟩
        case measure => simp [intOf]; omega
      | false =>
        have HBL := Lib.hid hbl
        cases hcm : (nth l k == 35) with
        | true =>
          have HCM := Lib.hid hcm
          have hp := comm_pos hlt hcm
          have hq := commL_le (l.drop k)
          rw [HDL.out] at hq
          obtain ⟨m, hm⟩ : ∃ m, commL (l.drop k) = m := ⟨_, rfl⟩
          have hcon : ∀ c, Calls Tryz.prog 39 #[.slice (some ⟨b, o + k, none⟩) (l.length - k) c] wr fun e w' => e = .returned (.int .i64 m) ∧ wr = w' := fun c => by
            rw [← hm]; exact comment_n b (o + k) c _ (l.drop k) wr HDL.out (by rw [HDL.out]; omega) HCD.out
          have HGC := Lib.hid (go_comm hlt hcm HG.out)
          rw [hm] at hp hq HGC
          clear hm
          go_wp2_with (first
            | (go_at_call 38; ((with_reducible refine (lparts_any _ _).mono ?_); rintro e w1 ⟨rfl, rfl⟩))
            | (go_at_call 39; ((with_reducible refine (hcon _).mono ?_); rintro e w1 ⟨rfl, rfl⟩)))
          go_roundw
          case rel => exact ⟨k + m, acc, by omega, by go_num, hown, hbw, HGC.out, by omega⟩
          case measure => simp [intOf]; omega
        | false =>
          have HCM := Lib.hid hcm
          have hK3 := firstK_le (l.drop k)
          have hN0 : firstK (l.drop k) ≠ 0 → 1 ≤ firstN (l.drop k) := by rw [drop_cons hlt]; exact firstN_pos
          have hN1 : firstN (l.drop k) ≤ (l.drop k).length := firstN_le
          rw [HDL.out] at hN1
          have hBad := at_bad hlt hbl hcm
          have hGlu := at_glued hlt hbl hcm
          have hTok := fun h hg => go_tok (acc := acc) hlt hbl hcm h hg HG.out
          have hfir : ∀ c, Calls Tryz.prog 40 #[.slice (some ⟨b, o + k, none⟩) (l.length - k) c] wr fun e w' => e = .returned (.tuple #[.int .i64 (firstK (l.drop k)), .int .i64 (firstN (l.drop k))]) ∧ wr = w' := fun c =>
            first_n b (o + k) c _ (l.drop k) wr HDL.out (by rw [HDL.out]; omega) (by rw [HDL.out]; omega) HCD.out
          obtain ⟨n, hn⟩ : ∃ n, firstN (l.drop k) = n := ⟨_, rfl⟩
          obtain ⟨K, hK⟩ : ∃ K, firstK (l.drop k) = K := ⟨_, rfl⟩
          rw [hn, hK] at hBad hGlu hTok hfir
          rw [hn] at hN0 hN1
          rw [hK] at hK3 hN0
          clear hn hK
          have HBad := Lib.hid hBad; have HGlu := Lib.hid hGlu; have HTok := Lib.hid hTok
          clear hBad hGlu hTok
          have hK4 : K = 0 ∨ K = 1 ∨ K = 2 ∨ K = 3 := by omega
          rcases hK4 with rfl | rfl | rfl | rfl
          · clear hN0 hK3
            have HB := Lib.hid (HBad.out (.inl rfl))
            go_wp2_with (first
                        | (go_at_call 38; ((with_reducible refine (lparts_any _ _).mono ?_); rintro e w1 ⟨rfl, rfl⟩))
                        | (go_at_call 40; ((with_reducible refine (hfir _).mono ?_); rintro e w1 ⟨rfl, rfl⟩)))
            go_ret3
            exact out_bad hbw HG.out HB.out rfl
          · have hn0 : 1 ≤ n := hN0 (by decide)
            clear hN0 hK3
            by_cases hgt : 32 < n
            · have hgt1 : (32 : Int) < n := by omega
              have HB := Lib.hid (HBad.out (.inr ⟨rfl, hgt⟩))
              go_wp2_with (first
                          | (go_at_call 38; ((with_reducible refine (lparts_any _ _).mono ?_); rintro e w1 ⟨rfl, rfl⟩))
                          | (go_at_call 40; ((with_reducible refine (hfir _).mono ?_); rintro e w1 ⟨rfl, rfl⟩)))
              go_ret3
              exact out_bad hbw HG.out HB.out rfl
            · have hgt1 : (n : Int) ≤ 32 := by omega
              have hcv : ∀ c, (convert 29 9 (.slice (some ⟨b, o + k, none⟩) n c)).run Tryz.prog wr = .ok (.string ⟨((l.drop k).take n).toArray⟩) wr := conv_take HDL.out HCD.out hN1
              have HT := Lib.hid (HTok.out (by omega) (by omega))
              go_wp2_with (first
                          | (go_at_call 38; ((with_reducible refine (lparts_any _ _).mono ?_); rintro e w1 ⟨rfl, rfl⟩))
                          | (go_at_call 40; ((with_reducible refine (hfir _).mono ?_); rintro e w1 ⟨rfl, rfl⟩))
                          | (at_builtin; refine wpList_append_own _ rfl (.tmp 77) (.tmp 85) 48 rfl w.heap.size 83 i0 _ 3 32 Tryz.underlying48 hi hz0 hz1 hz2 rfl (by decide) _ acc.length (toks acc) rfl (hown.alloc _) ⟨wr.heap.size, 0, none⟩ 1 1 [.int .i64 1, .string ⟨((l.drop k).take n).toArray⟩, .int .i64 k] rfl rfl three_cells three_one (by unfold maxLen; omega) (by omega) (by simp; omega) ?_; intro v1 w1 hown1 hgrow1 _))
              have R := below_row hown hbw hgrow1
              have R1 := own_snoc (t := ⟨1, (l.drop k).take n, k⟩) hown1
              clear hown1 hgrow1 hown hbw hcv
              go_wp2
              go_roundw
              case rel => exact ⟨k + n, _, by omega, by go_num, R1, R, HT.out, by simp; omega⟩
              case measure => simp [intOf]; omega
          · have hn0 : 1 ≤ n := hN0 (by decide)
            clear hN0 hK3
            by_cases hnl : n < l.length - k
            · have hnl' : (n : Int) < ((l.length - k : Nat) : Int) := by omega
              have hg0 : glued (l.drop k) n = (letB (nth l (k + n)) || nth l (k + n) == 95) := by
                unfold glued; rw [HDL.out, decide_eq_true hnl, nth_drop]; rfl
              have hy : wr.cell? ⟨b, o + k + n, none⟩ = some (.int .u8 (nth l (k + n))) := by rw [Nat.add_assoc]; exact (hbw.cell hb).trans (HC.out (k + n) (by omega))
              obtain ⟨y0, y1⟩ := nth_range l (k + n)
              obtain ⟨y, hyy⟩ : ∃ y, nth l (k + n) = y := ⟨_, rfl⟩
              rw [hyy] at hg0 hy y0 y1
              clear hyy
              cases hq1 : letB y with
              | true =>
                have hgl : glued (l.drop k) n = true := by rw [hg0, hq1]; rfl
                clear hg0
                have HB := Lib.hid (HGlu.out rfl hgl)
                have HGL := Lib.hid hgl; clear hgl
                go_wp2_with (first
                            | (go_at_call 38; ((with_reducible refine (lparts_any _ _).mono ?_); rintro e w1 ⟨rfl, rfl⟩))
                            | (go_at_call 40; ((with_reducible refine (hfir _).mono ?_); rintro e w1 ⟨rfl, rfl⟩))
                            | (go_at_call 41; ((with_reducible refine (lletter_any _ _ y0 y1).mono ?_); rintro e w1 ⟨rfl, rfl⟩)))
                go_ret3
                exact out_bad hbw HG.out HB.out (by omega)
              | false =>
                cases hq2 : (y == 95) with
                | true =>
                  have hgl : glued (l.drop k) n = true := by rw [hg0, hq1, hq2]; rfl
                  clear hg0
                  have HB := Lib.hid (HGlu.out rfl hgl)
                  have HGL := Lib.hid hgl; clear hgl
                  go_wp2_with (first
                              | (go_at_call 38; ((with_reducible refine (lparts_any _ _).mono ?_); rintro e w1 ⟨rfl, rfl⟩))
                              | (go_at_call 40; ((with_reducible refine (hfir _).mono ?_); rintro e w1 ⟨rfl, rfl⟩))
                              | (go_at_call 41; ((with_reducible refine (lletter_any _ _ y0 y1).mono ?_); rintro e w1 ⟨rfl, rfl⟩)))
                  go_ret3
                  exact out_bad hbw HG.out HB.out (by omega)
                | false =>
                  have hgl : glued (l.drop k) n = false := by rw [hg0, hq1, hq2]; rfl
                  clear hg0
                  have hcv : ∀ c, (convert 29 9 (.slice (some ⟨b, o + k, none⟩) n c)).run Tryz.prog wr = .ok (.string ⟨((l.drop k).take n).toArray⟩) wr := conv_take HDL.out HCD.out hN1
                  have HT := Lib.hid (HTok.out (by omega) (fun h => by rw [hgl] at h; exact absurd h.2 (by decide)))
                  have HGL := Lib.hid hgl; clear hgl
                  go_wp2_with (first
                              | (go_at_call 38; ((with_reducible refine (lparts_any _ _).mono ?_); rintro e w1 ⟨rfl, rfl⟩))
                              | (go_at_call 40; ((with_reducible refine (hfir _).mono ?_); rintro e w1 ⟨rfl, rfl⟩))
                              | (go_at_call 41; ((with_reducible refine (lletter_any _ _ y0 y1).mono ?_); rintro e w1 ⟨rfl, rfl⟩))
                              | (at_builtin; refine wpList_append_own _ rfl (.tmp 77) (.tmp 85) 48 rfl w.heap.size 83 i0 _ 3 32 Tryz.underlying48 hi hz0 hz1 hz2 rfl (by decide) _ acc.length (toks acc) rfl (hown.alloc _) ⟨wr.heap.size, 0, none⟩ 1 1 [.int .i64 2, .string ⟨((l.drop k).take n).toArray⟩, .int .i64 k] rfl rfl three_cells three_one (by unfold maxLen; omega) (by omega) (by simp; omega) ?_; intro v1 w1 hown1 hgrow1 _))
                  have R := below_row hown hbw hgrow1
                  have R1 := own_snoc (t := ⟨2, (l.drop k).take n, k⟩) hown1
                  clear hown1 hgrow1 hown hbw hcv
                  go_wp2
                  go_roundw
                  case rel => exact ⟨k + n, _, by omega, by go_num, R1, R, HT.out, by simp; omega⟩
                  case measure => simp [intOf]; omega
            · have hnl' : ¬ (n : Int) < ((l.length - k : Nat) : Int) := by omega
              have hgl : glued (l.drop k) n = false := by unfold glued; rw [HDL.out, decide_eq_false hnl]; rfl
              have hcv : ∀ c, (convert 29 9 (.slice (some ⟨b, o + k, none⟩) n c)).run Tryz.prog wr = .ok (.string ⟨((l.drop k).take n).toArray⟩) wr := conv_take HDL.out HCD.out hN1
              have HT := Lib.hid (HTok.out (by omega) (fun h => by rw [hgl] at h; exact absurd h.2 (by decide)))
              have HGL := Lib.hid hgl; clear hgl
              go_wp2_with (first
                          | (go_at_call 38; ((with_reducible refine (lparts_any _ _).mono ?_); rintro e w1 ⟨rfl, rfl⟩))
                          | (go_at_call 40; ((with_reducible refine (hfir _).mono ?_); rintro e w1 ⟨rfl, rfl⟩))
                          | (at_builtin; refine wpList_append_own _ rfl (.tmp 77) (.tmp 85) 48 rfl w.heap.size 83 i0 _ 3 32 Tryz.underlying48 hi hz0 hz1 hz2 rfl (by decide) _ acc.length (toks acc) rfl (hown.alloc _) ⟨wr.heap.size, 0, none⟩ 1 1 [.int .i64 2, .string ⟨((l.drop k).take n).toArray⟩, .int .i64 k] rfl rfl three_cells three_one (by unfold maxLen; omega) (by omega) (by simp; omega) ?_; intro v1 w1 hown1 hgrow1 _))
              have R := below_row hown hbw hgrow1
              have R1 := own_snoc (t := ⟨2, (l.drop k).take n, k⟩) hown1
              clear hown1 hgrow1 hown hbw hcv
              go_wp2
              go_roundw
              case rel => exact ⟨k + n, _, by omega, by go_num, R1, R, HT.out, by simp; omega⟩
              case measure => simp [intOf]; omega
          · have hn0 : 1 ≤ n := hN0 (by decide)
            clear hN0 hK3
            have hcv : ∀ c, (convert 29 9 (.slice (some ⟨b, o + k, none⟩) n c)).run Tryz.prog wr = .ok (.string ⟨((l.drop k).take n).toArray⟩) wr := conv_take HDL.out HCD.out hN1
            have HT := Lib.hid (HTok.out (by omega) (by omega))
            go_wp2_with (first
                        | (go_at_call 38; ((with_reducible refine (lparts_any _ _).mono ?_); rintro e w1 ⟨rfl, rfl⟩))
                        | (go_at_call 40; ((with_reducible refine (hfir _).mono ?_); rintro e w1 ⟨rfl, rfl⟩))
                        | (at_builtin; refine wpList_append_own _ rfl (.tmp 77) (.tmp 85) 48 rfl w.heap.size 83 i0 _ 3 32 Tryz.underlying48 hi hz0 hz1 hz2 rfl (by decide) _ acc.length (toks acc) rfl (hown.alloc _) ⟨wr.heap.size, 0, none⟩ 1 1 [.int .i64 3, .string ⟨((l.drop k).take n).toArray⟩, .int .i64 k] rfl rfl three_cells three_one (by unfold maxLen; omega) (by omega) (by simp; omega) ?_; intro v1 w1 hown1 hgrow1 _))
            have R := below_row hown hbw hgrow1
            have R1 := own_snoc (t := ⟨3, (l.drop k).take n, k⟩) hown1
            clear hown1 hgrow1 hown hbw hcv
            go_wp2
            go_roundw
            case rel => exact ⟨k + n, _, by omega, by go_num, R1, R, HT.out, by simp; omega⟩
            case measure => simp [intOf]; omega
    · have hkl : k = l.length := by omega
      subst hkl
      by_cases hcp : cap = l.length
      all_goals
        go_wp2_with (first
          | (at_builtin; refine wpList_append_own _ rfl (.tmp 90) (.tmp 93) 48 rfl w.heap.size 83 i0 _ 3 32 Tryz.underlying48 hi hz0 hz1 hz2 rfl (by decide) _ acc.length (toks acc) rfl (hown.alloc _) ⟨wr.heap.size, 0, none⟩ 1 1 [.int .i64 4, .string ⟨#[]⟩, .int .i64 l.length] rfl rfl three_cells three_one (by unfold maxLen; omega) (by omega) (by simp; omega) ?_; intro v1 w1 hown1 hgrow1 _))
        have R := below_row hown hbw hgrow1
        have R1 := out_ok R (Nat.le_refl _) HG.out (by rw [toks_snoc]; exact hown1)
        rw [Exit.noGoto_ret]
        go_ret3
        exact R1

set_option maxHeartbeats 4000000 in
set_option maxRecDepth 100000 in
theorem lex_none (A : Option Addr) (cap : Nat) (w : World) :
    Calls Tryz.prog 19 #[.slice A 0 cap] w (LexOut [] w) := by
  obtain ⟨i0, hi, hz0, hz1, hz2⟩ := info_parts tokInfo
  go_enter Tryz.func19, Tryz.ntmps19
  go_wp2
  go_step3
  go_wp2
  go_step3
  go_wp2
  go_loopw [5, 6] (fun v i wr => v = .slice none 0 0 ∧ i = .int .i64 0 ∧ wr = w) (fun _ i _ => 0)
  case atStart => exact ⟨rfl, rfl, rfl⟩
  case round =>
    obtain ⟨rfl, rfl, rfl⟩ := hrel
    go_wp2_with (first
          | (at_builtin; refine wpList_append_own _ rfl (.tmp 90) (.tmp 93) 48 rfl wr.heap.size 83 i0 _ 3 32 Tryz.underlying48 hi hz0 hz1 hz2 rfl (by decide) _ 0 [] rfl (World.ownsRow_nil _ _ _ _) ⟨wr.heap.size, 0, none⟩ 1 1 [.int .i64 4, .string ⟨#[]⟩, .int .i64 0] rfl rfl three_cells three_one (by unfold maxLen; omega) (by omega) (by simp) ?_; intro v1 w1 hown1 hgrow1 _))
    have R : Below wr.heap.size wr w1 := below_row (World.ownsRow_nil _ _ _ _) (Below.refl _ _) hgrow1
    have R1 : LexOut [] wr (.returned (.tuple #[v1, .int .i64 0, .int .i64 0])) w1 := ⟨R, .inr ⟨[], v1, by rw [lexS_nil], rfl, hown1⟩⟩
    rw [Exit.noGoto_ret]
    go_ret3
    exact R1

/-- Lex, at whatever bytes there are not too many of. -/
theorem lex_any (A : Option Addr) (n cap : Nat) (l : List UInt8) (w : World) (hn : l.length = n) (hl : l.length ≤ 65536) (hcap : n ≤ cap) (hr : Row w A l) :
    Calls Tryz.prog 19 #[.slice A n cap] w (LexOut l w) := by
  subst hn
  by_cases h0 : 0 < l.length
  · obtain ⟨b, o, rfl, hb, hc⟩ := hr h0
    exact lex_row b o cap l w hl h0 hcap hb hc
  · obtain rfl : l = [] := List.eq_nil_of_length_eq_zero (by omega)
    exact lex_none A cap w

set_option maxRecDepth 100000 in
theorem lex_big (A : Option Addr) (n cap : Nat) (w : World) (hn : 65536 < (n : Int)) :
    Calls Tryz.prog 19 #[.slice A n cap] w fun e w' => e = .returned (.tuple #[.slice none 0 0, .int .i64 0, .int .i64 1]) ∧ w = w' := by
  go_enter Tryz.func19, Tryz.ntmps19
  go_wp2
  go_step3
  go_wp2
  try rw [Exit.noGoto_ret]
  go_ret3
  exact ⟨rfl, rfl⟩

end Go.Proofs.YtppagjhmlgkamaaGreatDoor

/-
  Lex's contract in its callers' words: the tokens as a row of cells; a frame that is said from the statement's own entry world; how lexS is reckoned at known bytes.
-/
namespace Go.Proofs.YtppagjhmlgkamaaGreatDoor
open Go Go.RowKit Go.Lib

/- lexS with a count of steps, for known bytes. -/
def lexF : Nat → Nat → List UInt8 → Res
  | 0, _, _ => .ok []
  | _ + 1, _, [] => .ok []
  | f + 1, p, c :: r =>
    if blkB (bv c) then lexF f (p + 1) r
    else if c = 35 then lexF f (p + commL (c :: r)) ((c :: r).drop (commL (c :: r)))
    else if firstK (c :: r) = 0 ∨ (firstK (c :: r) = 1 ∧ 32 < firstN (c :: r)) then .bad p
    else if firstK (c :: r) = 2 ∧ glued (c :: r) (firstN (c :: r)) = true then .bad (p + firstN (c :: r))
    else (lexF f (p + firstN (c :: r)) ((c :: r).drop (firstN (c :: r)))).cons ⟨firstK (c :: r), (c :: r).take (firstN (c :: r)), p⟩
theorem lexS_eq : ∀ (f p : Nat) (l : List UInt8), l.length ≤ f → lexS p l = lexF f p l
  | 0, p, l, h => by
    obtain rfl : l = [] := List.eq_nil_of_length_eq_zero (by omega)
    rw [lexS_nil]; rfl
  | f + 1, p, [], _ => by rw [lexS_nil]; rfl
  | f + 1, p, c :: r, h => by
    simp only [List.length_cons] at h
    rw [lexS, lexF]
    by_cases h1 : blkB (bv c) = true
    · rw [if_pos h1, if_pos h1, lexS_eq f _ _ (by omega)]
    · rw [if_neg h1, if_neg h1]
      by_cases h2 : c = 35
      · have : commL (c :: r) = commL r + 1 := by rw [commL_cons, if_neg (by rw [h2]; decide)]
        rw [if_pos h2, if_pos h2, lexS_eq f _ _ (by simp only [List.length_drop, List.length_cons]; omega)]
      · rw [if_neg h2, if_neg h2]
        by_cases h3 : firstK (c :: r) = 0 ∨ (firstK (c :: r) = 1 ∧ 32 < firstN (c :: r))
        · rw [if_pos h3, if_pos h3]
        · rw [if_neg h3, if_neg h3]
          have := firstN_pos (c := c) (l := r) (fun e => h3 (.inl e))
          split
          · rfl
          · rw [lexS_eq f _ _ (by simp only [List.length_drop, List.length_cons]; omega)]

/-- Nothing of w0 has turned. -/
def Fr (w0 w : World) : Prop := Below w0.heap.size w0 w
theorem Fr.refl (w : World) : Fr w w := Below.refl _ _
theorem Fr.below {w0 w w' : World} (h : Fr w0 w) (hb : Below w.heap.size w w') : Fr w0 w' := Below.trans h (hb.mono h.size)
theorem Fr.alloc {w0 w : World} (h : Fr w0 w) (o : Obj) : Fr w0 (w.alloc o) := Below.alloc h h.size o
theorem Fr.size {w0 w : World} (h : Fr w0 w) : w0.heap.size ≤ w.heap.size := Below.size h

/-- Tokens in a block of memory. -/
def TokRow (w : World) (g : Nat) (ts : List Tok) : Prop :=
  g < w.heap.size ∧ ∀ i t, ts[i]? = some t → w.cell? ⟨g, i * 3, none⟩ = some (.int .i64 t.kind) ∧ w.cell? ⟨g, i * 3 + 1, none⟩ = some (.string ⟨t.text.toArray⟩) ∧ w.cell? ⟨g, i * 3 + 2, none⟩ = some (.int .i64 t.at_)
theorem TokRow.below {w w' : World} {g B : Nat} {ts : List Tok} (h : TokRow w g ts) (hb : Below B w w') (hg : g < B) : TokRow w' g ts := by
  refine ⟨Nat.lt_of_lt_of_le h.1 hb.size, fun i t ht => ?_⟩
  obtain ⟨a, b, c⟩ := h.2 i t ht
  exact ⟨(hb.cell hg).trans a, (hb.cell hg).trans b, (hb.cell hg).trans c⟩
theorem TokRow.alloc {w : World} {g : Nat} {ts : List Tok} (h : TokRow w g ts) (o : Obj) : TokRow (w.alloc o) g ts :=
  h.below (B := w.heap.size) ((Below.refl _ w).alloc (Nat.le_refl _) o) h.1
theorem TokRow.past {w w' : World} {g : Nat} {ts : List Tok} (h : TokRow w g ts) (hb : Below w.heap.size w w') : TokRow w' g ts := h.below hb h.1

theorem toks_at : ∀ (ts : List Tok) (i : Nat) (t : Tok), ts[i]? = some t → (toks ts)[i * 3]? = some (.int .i64 t.kind) ∧ (toks ts)[i * 3 + 1]? = some (.string ⟨t.text.toArray⟩) ∧ (toks ts)[i * 3 + 2]? = some (.int .i64 t.at_)
  | [], i, t, h => by simp at h
  | s :: ts, 0, t, h => by
    have : s = t := by simpa using h
    subst this
    exact ⟨rfl, rfl, rfl⟩
  | s :: ts, i + 1, t, h => by
    have ih := toks_at ts i t (by simpa using h)
    have e : toks (s :: ts) = .int .i64 s.kind :: .string ⟨s.text.toArray⟩ :: .int .i64 s.at_ :: toks ts := by simp [toks]
    rw [e]
    rw [show (i + 1) * 3 = i * 3 + 3 by omega]
    exact ih
theorem row_of_own {w : World} {B n : Nat} {v : Value} {ts : List Tok} (h : w.ownsRow B 83 3 v n (toks ts)) (hn : 0 < n) : ∃ g cap, v = .slice (some ⟨g, 0, none⟩) n cap ∧ B ≤ g ∧ n ≤ cap ∧ TokRow w g ts := by
  rcases h.2 with ⟨rfl, rfl⟩ | ⟨g, cap, cur, rfl, hg, hh, hnc, hrest⟩
  · omega
  · have hlt := h.lt g rfl
    refine ⟨g, cap, rfl, hg, hnc, hlt.2, fun i t ht => ?_⟩
    have hc := h.cells (g := g) rfl
    have e : ∀ j, (⟨g, 0, none⟩ : Addr).add j = ⟨g, j, none⟩ := fun j => by unfold Addr.add; split <;> simp_all
    obtain ⟨a1, a2, a3⟩ := toks_at ts i t ht
    exact ⟨by rw [← e]; exact hc _ _ a1, by rw [← e]; exact hc _ _ a2, by rw [← e]; exact hc _ _ a3⟩

/-- The end behind the tokens. -/
def fin (ts : List Tok) (n : Nat) : List Tok := ts ++ [⟨4, [], n⟩]
theorem fin_length (ts : List Tok) (n : Nat) : (fin ts n).length = ts.length + 1 := by simp [fin]

theorem lex_ok (A : Option Addr) (n cap m : Nat) (l : List UInt8) (ts : List Tok) (w : World) (hn : l.length = n) (hl : n ≤ 65536) (hcap : n ≤ cap) (hr : Row w A l) (hok : lexS 0 l = .ok ts) (hm : ts.length + 1 = m) :
    Calls Tryz.prog 19 #[.slice A n cap] w fun e w' => ∃ g cap', e = .returned (.tuple #[.slice (some ⟨g, 0, none⟩) m cap', .int .i64 0, .int .i64 0]) ∧ w.heap.size ≤ g ∧ m ≤ cap' ∧ TokRow w' g (fin ts n) ∧ Below w.heap.size w w' :=
  (lex_any A n cap l w hn (by omega) hcap hr).mono fun e w' ⟨hb, h⟩ => by
    subst hm
    rcases h with ⟨p, h1, _⟩ | ⟨ts', v, h1, h2, h3⟩
    · rw [hok] at h1; cases h1
    · rw [hok] at h1
      injection h1 with h1
      subst h1
      obtain ⟨g, cap', rfl, h4, h5, h6⟩ := row_of_own h3 (by omega)
      subst hn
      exact ⟨g, cap', h2, h4, h5, h6, hb⟩
theorem lex_no (A : Option Addr) (n cap : Nat) (l : List UInt8) (p : Nat) (w : World) (hn : l.length = n) (hl : n ≤ 65536) (hcap : n ≤ cap) (hr : Row w A l) (hok : lexS 0 l = .bad p) :
    Calls Tryz.prog 19 #[.slice A n cap] w fun e w' => e = .returned (.tuple #[.slice none 0 0, .int .i64 p, .int .i64 2]) ∧ Below w.heap.size w w' :=
  (lex_any A n cap l w hn (by omega) hcap hr).mono fun e w' ⟨hb, h⟩ => by
    rcases h with ⟨q, h1, h2⟩ | ⟨ts', v, h1, _⟩
    · rw [hok] at h1
      injection h1 with h1
      subst h1
      exact ⟨h2, hb⟩
    · rw [hok] at h1; cases h1

/-- A row of known bytes, just made. -/
theorem row_new (w : World) (l : List UInt8) (cs : Array Value) (t : TypeId) {fz : Nat × Nat} (hcs : cs = (l.map fun c => Value.int .u8 (bv c)).toArray) : Row (w.alloc (.cells cs t fz)) (some ⟨w.heap.size, 0, none⟩) l := by
  intro _
  refine ⟨w.heap.size, 0, rfl, by simp, fun i hi => ?_⟩
  subst hcs
  unfold nth
  rw [List.getD_eq_getElem?_getD, List.getElem?_eq_getElem hi, cell_of_row _ _ _ _ _ _ (heap_alloc_new w _)]
  simp [hi]

end Go.Proofs.YtppagjhmlgkamaaGreatDoor

/-
  Plain mathematics of tokens: bytes that are cut ahead of a token have the tokens that are there.
-/
namespace Go.Proofs.YtppagjhmlgkamaaGreatDoor
open Go

theorem reachL_cons (p : Int → Bool) (c : UInt8) (l : List UInt8) : reachL p (c :: l) = if p (bv c) then reachL p l + 1 else 0 := rfl
theorem reachL_take (p : Int → Bool) : ∀ (l : List UInt8) (k : Nat), reachL p (l.take k) = min (reachL p l) k
  | [], k => by simp [reachL]
  | c :: l, 0 => by simp [reachL]
  | c :: l, k + 1 => by
    rw [List.take_succ_cons, reachL_cons, reachL_cons]
    split
    · rw [reachL_take p l k]; omega
    · omega
theorem commL_take : ∀ (l : List UInt8) (k : Nat), commL (l.take k) = min (commL l) k
  | [], k => by simp [commL]
  | c :: l, 0 => by simp [commL]
  | c :: l, k + 1 => by
    rw [List.take_succ_cons, commL_cons, commL_cons]
    split
    · omega
    · rw [commL_take l k]; omega

theorem firstK_take (l : List UInt8) (k : Nat) (h : 1 ≤ k) : firstK (l.take k) = firstK l := by
  cases l with
  | nil => simp
  | cons c l =>
    obtain ⟨k, rfl⟩ : ∃ j, k = j + 1 := ⟨k - 1, by omega⟩
    rw [List.take_succ_cons]; rfl
theorem firstN_take (l : List UInt8) (k : Nat) (h : 1 ≤ k) (h2 : firstN l ≤ k) : firstN (l.take k) = firstN l := by
  cases l with
  | nil => simp
  | cons c l =>
    obtain ⟨k, rfl⟩ : ∃ j, k = j + 1 := ⟨k - 1, by omega⟩
    have e := reachL_take inwB (c :: l) (k + 1)
    have e' := reachL_take digB (c :: l) (k + 1)
    rw [List.take_succ_cons] at e e' ⊢
    rw [firstN_cons] at h2 ⊢
    rw [firstN_cons, e, e']
    by_cases h1 : letB (bv c) = true
    · rw [if_pos h1] at h2 ⊢
      rw [if_pos h1]; omega
    · rw [if_neg h1] at h2 ⊢
      rw [if_neg h1]
      by_cases h3 : digB (bv c) = true
      · rw [if_pos h3] at h2 ⊢
        rw [if_pos h3]; omega
      · rw [if_neg h3] at h2 ⊢
        rw [if_neg h3]
        by_cases h4 : c = 61 ∧ l.head? = some 61
        · rw [if_pos h4] at h2 ⊢
          rw [if_pos]
          refine ⟨h4.1, ?_⟩
          cases l with
          | nil => simp at h4
          | cons d l =>
            obtain ⟨k, rfl⟩ : ∃ j, k = j + 1 := ⟨k - 1, by omega⟩
            simpa using h4.2
        · rw [if_neg h4, if_neg]
          intro h5
          apply h4
          refine ⟨h5.1, ?_⟩
          cases l with
          | nil => simp at h5
          | cons d l =>
            cases k with
            | zero => simp at h5
            | succ k => simpa using h5.2
theorem nth_take {l : List UInt8} {k i : Nat} (h : i < k) : nth (l.take k) i = nth l i := by
  unfold nth
  rw [List.getD_eq_getElem?_getD, List.getD_eq_getElem?_getD, List.getElem?_take_of_lt h]
theorem glued_take {l : List UInt8} {k n : Nat} (h : glued (l.take k) n = true) : glued l n = true := by
  unfold glued at h ⊢
  rw [Bool.and_eq_true] at h ⊢
  obtain ⟨h1, h2⟩ := h
  have h1' := of_decide_eq_true h1
  rw [List.length_take] at h1'
  refine ⟨decide_eq_true (by omega), ?_⟩
  rw [nth_take (by omega)] at h2
  exact h2

theorem cons_ok {t : Tok} {r : Res} {ts : List Tok} (h : r.cons t = .ok ts) : ∃ ts', r = .ok ts' ∧ ts = t :: ts' := by
  cases r with
  | ok a => simp [Res.cons] at h; exact ⟨a, rfl, h.symm⟩
  | bad k => simp [Res.cons] at h

/-- The four ways of bytes that are tokens. -/
theorem ok_ways {p : Nat} {c : UInt8} {r : List UInt8} {ts : List Tok} (h : lexS p (c :: r) = .ok ts) :
    (blkB (bv c) = true ∧ lexS (p + 1) r = .ok ts) ∨
    (c = 35 ∧ lexS (p + commL (c :: r)) ((c :: r).drop (commL (c :: r))) = .ok ts) ∨
    (blkB (bv c) = false ∧ c ≠ 35 ∧ ¬ (firstK (c :: r) = 0 ∨ (firstK (c :: r) = 1 ∧ 32 < firstN (c :: r))) ∧ ¬ (firstK (c :: r) = 2 ∧ glued (c :: r) (firstN (c :: r)) = true) ∧
      ∃ ts', lexS (p + firstN (c :: r)) ((c :: r).drop (firstN (c :: r))) = .ok ts' ∧ ts = ⟨firstK (c :: r), (c :: r).take (firstN (c :: r)), p⟩ :: ts') := by
  by_cases h1 : blkB (bv c) = true
  · exact .inl ⟨h1, by rw [← h, lexS_blank h1]⟩
  · have h1' : blkB (bv c) = false := by simpa using h1
    by_cases h2 : c = 35
    · subst h2
      exact .inr (.inl ⟨rfl, by rw [← h, lexS_comm]⟩)
    · by_cases h3 : firstK (c :: r) = 0 ∨ (firstK (c :: r) = 1 ∧ 32 < firstN (c :: r))
      · rw [lexS_bad h1' h2 h3] at h; cases h
      · by_cases h4 : firstK (c :: r) = 2 ∧ glued (c :: r) (firstN (c :: r)) = true
        · rw [lexS_glued h1' h2 h3 h4] at h; cases h
        · rw [lexS_tok h1' h2 h3 h4] at h
          exact .inr (.inr ⟨h1', h2, h3, h4, cons_ok h⟩)

theorem cut_ok : ∀ (f p : Nat) (l : List UInt8) (ts : List Tok), l.length ≤ f → lexS p l = .ok ts → ∀ i t, (fin ts (p + l.length))[i]? = some t →
    p ≤ t.at_ ∧ t.at_ ≤ p + l.length ∧ lexS p (l.take (t.at_ - p)) = .ok (ts.take i)
  | f, p, [], ts, _, h, i, t, ht => by
    rw [lexS_nil] at h
    injection h with h
    subst h
    have hi : i = 0 := by
      have := (List.getElem?_eq_some_iff.1 ht).1
      simp [fin] at this; omega
    subst hi
    have : (⟨4, [], p + ([] : List UInt8).length⟩ : Tok) = t := by simpa [fin] using ht
    subst this
    simp [lexS_nil]
  | 0, p, c :: r, ts, hf, _, _, _, _ => by simp at hf
  | f + 1, p, c :: r, ts, hf, h, i, t, ht => by
    simp only [List.length_cons] at hf ⊢
    rcases ok_ways h with ⟨h1, h2⟩ | ⟨h1, h2⟩ | ⟨h1, h2, h3, h4, ts', h5, rfl⟩
    · obtain ⟨a, b, d⟩ := cut_ok f (p + 1) r ts (by omega) h2 i t (by rw [show p + 1 + r.length = p + (r.length + 1) by omega]; exact ht)
      refine ⟨by omega, by omega, ?_⟩
      rw [show t.at_ - p = (t.at_ - (p + 1)) + 1 by omega, List.take_succ_cons, lexS_blank h1]
      exact d
    · subst h1
      have hm := commL_le (35 :: r)
      have hm1 : 1 ≤ commL (35 :: r) := by rw [commL_cons, if_neg (by decide)]; omega
      have hd : ((35 :: r).drop (commL (35 :: r))).length = r.length + 1 - commL (35 :: r) := by simp
      simp only [List.length_cons] at hm
      obtain ⟨a, b, d⟩ := cut_ok f (p + commL (35 :: r)) _ ts (by rw [hd]; omega) h2 i t (by rw [hd, show p + commL (35 :: r) + (r.length + 1 - commL (35 :: r)) = p + (r.length + 1) by omega]; exact ht)
      rw [hd] at b
      refine ⟨by omega, by omega, ?_⟩
      have e := commL_take (35 :: r) (t.at_ - p)
      rw [Nat.min_eq_left (by omega)] at e
      have ed : ((35 :: r).take (t.at_ - p)).drop (commL (35 :: r)) = ((35 :: r).drop (commL (35 :: r))).take (t.at_ - (p + commL (35 :: r))) := by
        rw [List.drop_take]; congr 1; omega
      obtain ⟨k, hk⟩ : ∃ k, t.at_ - p = k + 1 := ⟨t.at_ - p - 1, by omega⟩
      rw [hk, List.take_succ_cons] at e ed ⊢
      rw [lexS_comm, e, ed]
      exact d
    · have hn1 := firstN_pos (c := c) (l := r) (fun e => h3 (.inl e))
      have hn2 : firstN (c :: r) ≤ (c :: r).length := firstN_le
      simp only [List.length_cons] at hn2
      cases i with
      | zero =>
        have : (⟨firstK (c :: r), (c :: r).take (firstN (c :: r)), p⟩ : Tok) = t := by simpa [fin] using ht
        subst this
        simp [lexS_nil]
      | succ i =>
        have hd : ((c :: r).drop (firstN (c :: r))).length = r.length + 1 - firstN (c :: r) := by simp
        obtain ⟨a, b, d⟩ := cut_ok f (p + firstN (c :: r)) _ ts' (by rw [hd]; omega) h5 i t (by rw [hd, show p + firstN (c :: r) + (r.length + 1 - firstN (c :: r)) = p + (r.length + 1) by omega]; simpa [fin] using ht)
        rw [hd] at b
        refine ⟨by omega, by omega, ?_⟩
        have e1 := firstK_take (c :: r) (t.at_ - p) (by omega)
        have e2 := firstN_take (c :: r) (t.at_ - p) (by omega) (by omega)
        have ed : ((c :: r).take (t.at_ - p)).drop (firstN (c :: r)) = ((c :: r).drop (firstN (c :: r))).take (t.at_ - (p + firstN (c :: r))) := by
          rw [List.drop_take]; congr 1; omega
        have et : ((c :: r).take (t.at_ - p)).take (firstN (c :: r)) = (c :: r).take (firstN (c :: r)) := by
          rw [List.take_take, Nat.min_eq_left (by omega)]
        have eg : glued ((c :: r).take (t.at_ - p)) (firstN (c :: r)) = true → glued (c :: r) (firstN (c :: r)) = true := glued_take
        obtain ⟨k, hk⟩ : ∃ k, t.at_ - p = k + 1 := ⟨t.at_ - p - 1, by omega⟩
        rw [hk, List.take_succ_cons] at e1 e2 ed et eg ⊢
        rw [lexS_tok h1 h2 (by rw [e1, e2]; exact h3) (by rw [e1, e2]; exact fun h => h4 ⟨h.1, eg h.2⟩), e1, e2, ed, et, d]
        rfl

end Go.Proofs.YtppagjhmlgkamaaGreatDoor

/-
  Plain mathematics of tokens: where they stand, and what stands between them.
-/
namespace Go.Proofs.YtppagjhmlgkamaaGreatDoor
open Go

/-- Whether a comment goes on behind a byte. -/
def stepC (c : Bool) (x : Int) : Bool := if x = 10 then false else if x = 35 then true else c
/-- Whether a comment goes on, so many bytes behind a place. -/
def cmN (b : List UInt8) (s : Nat) : Nat → Bool
  | 0 => false
  | j + 1 => stepC (cmN b s j) (nth b (s + j))
/-- Between two places stands nothing that tells. -/
def Gap (b : List UInt8) (s p : Nat) : Prop := ∀ j, s + j < p → cmN b s (j + 1) = true ∨ blkB (nth b (s + j)) = true
/-- Tokens stand where they say, from a place on. -/
def Placed (b : List UInt8) : Nat → List Tok → Prop
  | _, [] => True
  | p, t :: r => (p ≤ t.at_ ∧ t.at_ + t.text.length ≤ b.length ∧ (t.text = [] ↔ t.kind = 4) ∧ (t.kind = 4 ↔ r = []) ∧ Gap b p t.at_ ∧ (cmN b p (t.at_ - p) = true → t.kind = 4) ∧ (b.drop t.at_).take t.text.length = t.text ∧ (t.kind = 4 → t.at_ = b.length)) ∧ Placed b (t.at_ + t.text.length) r

theorem firstK_ne4 (l : List UInt8) : firstK l ≠ 4 := by
  unfold firstK
  split
  · omega
  · split
    · omega
    · split
      · omega
      · split <;> omega

theorem nth_of_drop {b : List UInt8} {p : Nat} {c : UInt8} {r : List UInt8} (h : b.drop p = c :: r) : nth b p = bv c ∧ p < b.length ∧ b.drop (p + 1) = r := by
  have hlt : p < b.length := by
    rcases Nat.lt_or_ge p b.length with h' | h'
    · exact h'
    · rw [List.drop_eq_nil_of_le h'] at h; cases h
  rw [drop_cons hlt] at h
  injection h with h1 h2
  exact ⟨by unfold nth; rw [h1], hlt, h2⟩
theorem drop_add {b : List UInt8} {p n : Nat} {x : List UInt8} (h : b.drop p = x) : b.drop (p + n) = x.drop n := by
  rw [← h, List.drop_drop]

theorem comm_bytes : ∀ (l : List UInt8) (i : Nat), i < commL l → nth l i ≠ 10
  | [], i, h => by simp [commL] at h
  | c :: l, i, h => by
    rw [commL_cons] at h
    by_cases hc : c = 10
    · rw [if_pos hc] at h; omega
    · rw [if_neg hc] at h
      cases i with
      | zero =>
        intro e
        exact hc (bv_inj (n := 10) e (by decide))
      | succ i => exact comm_bytes l i (by omega)
theorem comm_end : ∀ (l : List UInt8), commL l = l.length ∨ nth l (commL l) = 10
  | [] => .inl rfl
  | c :: l => by
    rw [commL_cons]
    by_cases hc : c = 10
    · rw [if_pos hc]; right; subst hc; rfl
    · rw [if_neg hc]
      rcases comm_end l with h | h
      · left; rw [h]; rfl
      · right; exact h

theorem gap_run {b : List UInt8} {s p n : Nat} (hsp : s ≤ p) (hg : Gap b s p) (h35 : nth b p = 35) (hn : ∀ i, i < n → nth b (p + i) ≠ 10) : ∀ i, i ≤ n → Gap b s (p + i) ∧ (0 < i → cmN b s (p + i - s) = true)
  | 0, _ => ⟨hg, fun h => by omega⟩
  | i + 1, hi => by
    obtain ⟨g, hc⟩ := gap_run hsp hg h35 hn i (by omega)
    have e : p + (i + 1) - s = (p + i - s) + 1 := by omega
    have e2 : s + (p + i - s) = p + i := by omega
    have hst : cmN b s (p + i - s + 1) = true := by
      show stepC _ _ = true
      rw [e2]
      unfold stepC
      rw [if_neg (hn i (by omega))]
      cases i with
      | zero => rw [if_pos (by simpa using h35)]
      | succ i =>
        split
        · rfl
        · exact hc (by omega)
    refine ⟨fun j hj => ?_, fun _ => by rw [e]; exact hst⟩
    by_cases h : s + j < p + i
    · exact g j h
    · left
      have : j = p + i - s := by omega
      subst this
      exact hst
theorem placed_ok : ∀ (f : Nat) (b : List UInt8) (s p : Nat) (ts : List Tok), b.length - p ≤ f → s ≤ p → p ≤ b.length → Gap b s p → (cmN b s (p - s) = false ∨ p = b.length ∨ nth b p = 10) → lexS p (b.drop p) = .ok ts → Placed b s (fin ts b.length) := by
  intro f
  induction f with
  | zero =>
    intro b s p ts hf hsp hp hg hc h
    have e : p = b.length := by omega
    subst e
    rw [List.drop_length, lexS_nil] at h
    injection h with h
    subst h
    refine ⟨⟨hsp, Nat.le_refl _, by simp, by simp, hg, fun _ => rfl, by simp, fun _ => rfl⟩, trivial⟩
  | succ f ih =>
    intro b s p ts hf hsp hp hg hc h
    by_cases e : p = b.length
    · subst e
      rw [List.drop_length, lexS_nil] at h
      injection h with h
      subst h
      exact ⟨⟨hsp, Nat.le_refl _, by simp, by simp, hg, fun _ => rfl, by simp, fun _ => rfl⟩, trivial⟩
    · have hlt : p < b.length := by omega
      cases hd : b.drop p with
      | nil => rw [drop_cons hlt] at hd; cases hd
      | cons c r =>
        obtain ⟨hn, _, hr⟩ := nth_of_drop hd
        have hlen : (c :: r).length = b.length - p := by rw [← hd]; simp
        rw [hd] at h
        rcases ok_ways h with ⟨h1, h2⟩ | ⟨h1, h2⟩ | ⟨h1, h2, h3, h4, ts', h5, rfl⟩
        · refine ih b s (p + 1) ts (by omega) (by omega) (by omega) ?_ ?_ (by rw [hr]; exact h2)
          · intro j hj
            by_cases hj' : s + j < p
            · exact hg j hj'
            · right
              rw [show s + j = p by omega, hn]; exact h1
          · left
            rw [show p + 1 - s = (p - s) + 1 by omega]
            show stepC _ _ = false
            rw [show s + (p - s) = p by omega]
            unfold stepC
            by_cases h10 : nth b p = 10
            · rw [if_pos h10]
            · rw [if_neg h10, if_neg (by
                rw [hn]; intro e; rw [e] at h1; revert h1; decide)]
              rcases hc with hc | hc | hc
              · exact hc
              · omega
              · exact absurd hc h10
        · subst h1
          have hm := commL_le (35 :: r)
          have hb10 : ∀ i, i < commL (35 :: r) → nth b (p + i) ≠ 10 := fun i hi => by
            have := comm_bytes (35 :: r) i hi
            rw [← hd, nth_drop] at this; exact this
          have hm1 : 1 ≤ commL (35 :: r) := by rw [commL_cons, if_neg (by decide)]; omega
          obtain ⟨g, _⟩ := gap_run hsp hg (by rw [hn]; rfl) hb10 _ (Nat.le_refl _)
          refine ih b s (p + commL (35 :: r)) ts (by omega) (by omega) (by omega) g ?_ (by rw [drop_add hd]; exact h2)
          right
          rcases comm_end (35 :: r) with he | he
          · left; omega
          · right
            rw [← hd, nth_drop, hd] at he; exact he
        · have hn1 := firstN_pos (c := c) (l := r) (fun e => h3 (.inl e))
          have hn2 : firstN (c :: r) ≤ (c :: r).length := firstN_le
          have htl : ((c :: r).take (firstN (c :: r))).length = firstN (c :: r) := by rw [List.length_take]; omega
          have hcf : cmN b s (p - s) = false := by
            rcases hc with hc | hc | hc
            · exact hc
            · omega
            · rw [hn] at hc; rw [hc] at h1; exact absurd h1 (by decide)
          refine ⟨⟨hsp, ?_, ?_, ?_, hg, ?_, ?_, ?_⟩, ?_⟩
          · show p + ((c :: r).take (firstN (c :: r))).length ≤ _; rw [htl]; omega
          · constructor
            · intro e; show firstK (c :: r) = 4
              have : ((c :: r).take (firstN (c :: r))).length = 0 := by rw [show (c :: r).take (firstN (c :: r)) = [] from e]; rfl
              omega
            · intro e; exact absurd e (firstK_ne4 (c :: r))
          · constructor
            · intro e; exact absurd e (firstK_ne4 (c :: r))
            · intro e; simp at e
          · intro e; rw [show cmN b s (p - s) = true from e] at hcf; cases hcf
          · show (b.drop p).take ((c :: r).take (firstN (c :: r))).length = (c :: r).take (firstN (c :: r))
            rw [htl, hd]
          · intro e; exact absurd e (firstK_ne4 (c :: r))
          · show Placed b (p + ((c :: r).take (firstN (c :: r))).length) (ts' ++ [⟨4, [], b.length⟩])
            rw [htl]
            exact ih b (p + firstN (c :: r)) (p + firstN (c :: r)) ts' (by omega) (Nat.le_refl _) (by omega) (fun j hj => by omega) (.inl (by rw [Nat.sub_self]; rfl)) (by rw [drop_add hd]; exact h5)
theorem placed_of {b : List UInt8} {ts : List Tok} (h : lexS 0 b = .ok ts) : Placed b 0 (fin ts b.length) :=
  placed_ok b.length b 0 0 ts (by omega) (Nat.le_refl _) (Nat.zero_le _) (fun j hj => by omega) (.inl rfl) h
theorem bad_lt : ∀ (f p : Nat) (l : List UInt8) (k : Nat), l.length ≤ f → lexS p l = .bad k → k < p + l.length
  | f, p, [], k, _, h => by rw [lexS_nil] at h; cases h
  | 0, p, c :: r, k, hf, _ => by simp at hf
  | f + 1, p, c :: r, k, hf, h => by
    simp only [List.length_cons] at hf ⊢
    by_cases h1 : blkB (bv c) = true
    · rw [lexS_blank h1] at h
      have := bad_lt f _ _ k (by omega) h; omega
    · have h1' : blkB (bv c) = false := by simpa using h1
      by_cases h2 : c = 35
      · subst h2
        have hm1 : 1 ≤ commL (35 :: r) := by rw [commL_cons, if_neg (by decide)]; omega
        have hm := commL_le (35 :: r)
        simp only [List.length_cons] at hm
        rw [lexS_comm] at h
        have hd : ((35 :: r).drop (commL (35 :: r))).length = r.length + 1 - commL (35 :: r) := by simp
        have := bad_lt f _ _ k (by rw [hd]; omega) h; rw [hd] at this; omega
      · by_cases h3 : firstK (c :: r) = 0 ∨ (firstK (c :: r) = 1 ∧ 32 < firstN (c :: r))
        · rw [lexS_bad h1' h2 h3] at h
          injection h with h; omega
        · have hn1 := firstN_pos (c := c) (l := r) (fun e => h3 (.inl e))
          have hn2 : firstN (c :: r) ≤ (c :: r).length := firstN_le
          simp only [List.length_cons] at hn2
          by_cases h4 : firstK (c :: r) = 2 ∧ glued (c :: r) (firstN (c :: r)) = true
          · rw [lexS_glued h1' h2 h3 h4] at h
            injection h with h
            have hg := h4.2
            unfold glued at hg
            rw [Bool.and_eq_true] at hg
            have := of_decide_eq_true hg.1
            simp only [List.length_cons] at this
            omega
          · rw [lexS_tok h1' h2 h3 h4] at h
            have hd : ((c :: r).drop (firstN (c :: r))).length = r.length + 1 - firstN (c :: r) := by simp
            cases hr : lexS (p + firstN (c :: r)) ((c :: r).drop (firstN (c :: r))) with
            | ok ts => rw [hr] at h; cases h
            | bad k' =>
              rw [hr] at h
              have e : k' = k := by simpa [Res.cons] using h
              subst e
              have := bad_lt f _ _ k' (by rw [hd]; omega) hr; rw [hd] at this; omega

end Go.Proofs.YtppagjhmlgkamaaGreatDoor

/-
  A region that draws its order, by an invariant: what holds behind any set of its operations that has come up.
-/
namespace Go.Proofs.YtppagjhmlgkamaaGreatDoor
open Go

section
variable {P : Program} {ops : Array Oper} {Q : Exit → Act → World → Prop}

theorem all_listed {listed : Array Bool} (h : listed.toList.count false = 0) (hs : listed.size = ops.size) (md : Region.Mode) : Region.ready md ops listed = [] := by
  unfold Region.ready
  rw [List.filter_eq_nil_iff]
  intro i hi
  have hlt : i < listed.size := by rw [hs]; simpa using hi
  have hm : listed[i] ∈ listed.toList := by simp
  have ht : listed[i] = true := by
    cases hb : listed[i] with
    | true => rfl
    | false =>
      rw [hb] at hm
      exact absurd (List.count_pos_iff.2 hm) (by omega)
  have hg : listed.getD i true = true := by
    rw [Array.getD_eq_getD_getElem?, Array.getElem?_eq_getElem hlt, ht]
    rfl
  simp [hg]
theorem count_set : ∀ (l : List Bool) (i : Nat), l[i]? = some false → (l.set i true).count false + 1 = l.count false
  | [], i, h => by simp at h
  | b :: l, 0, h => by
    simp at h
    subst h
    simp
  | b :: l, i + 1, h => by
    have := count_set l i (by simpa using h)
    simp only [List.set_cons_succ, List.count_cons]
    omega

/-- Each operation that may come up keeps I; when none is left I gives the post. -/
theorem wpAny_inv (md : Region.Mode) (I : Array Bool → Act → World → Prop)
    (hstep : ∀ listed a w, listed.size = ops.size → I listed a w → ∀ i o, ops[i]? = some o → listed.getD i true = false → (o.after.all fun e => !Region.binds md e || listed.getD e.on false) = true →
      ∀ K : Act → World → Prop, Shut (∀ a' w', I (listed.setIfInBounds i true) a' w' → K a' w') → if Region.wanted o (yielded ops a.tmps) = true then Oper.wp P o a w K Q else K (a.put o.dst undef) w)
    (hdone : ∀ listed a w, listed.size = ops.size → I listed a w → Region.ready md ops listed = [] → Q .normal a w) :
    ∀ (fuel : Nat) (listed : Array Bool) (a : Act) (w : World), listed.size = ops.size → listed.toList.count false ≤ fuel → I listed a w → wpAny P md ops Q fuel listed a w
  | 0, listed, a, w, hs, hc, hI => by
    have hr := all_listed (by omega) hs md
    exact ⟨hr, hdone listed a w hs hI hr⟩
  | fuel + 1, listed, a, w, hs, hc, hI => by
    refine ⟨fun hr => hdone listed a w hs hI hr, fun i hi => ?_⟩
    have hr := (List.mem_filter.1 hi).2
    simp only [Bool.and_eq_true, Bool.not_eq_true'] at hr
    obtain ⟨h1, h2⟩ := hr
    cases ho : ops[i]? with
    | none => rw [ho] at h2; simp at h2
    | some o =>
      rw [ho] at h2
      have h3 := hstep listed a w hs hI i o ho h1 (by simpa using h2) (wpAny P md ops Q fuel (listed.setIfInBounds i true)) (fun a' w' hI' => by
        refine wpAny_inv md I hstep hdone fuel _ a' w' (by simpa using hs) ?_ hI'
        have hlt : i < listed.size := by
          rcases Nat.lt_or_ge i listed.size with h | h
          · exact h
          · rw [Array.getD_eq_getD_getElem?, Array.getElem?_eq_none h] at h1
            simp at h1
        have hq : listed.toList[i]? = some false := by
          rw [Array.getD_eq_getD_getElem?] at h1
          rw [Array.getElem?_toList]
          rw [Array.getElem?_eq_getElem hlt] at h1 ⊢
          simp at h1
          simp [h1]
        have := count_set listed.toList i hq
        rw [Array.toList_setIfInBounds]
        omega)
      unfold wpOp
      rw [ho]
      simp only
      split
      · rename_i hw
        rw [if_pos hw] at h3
        exact .inl h3
      · rename_i hw
        rw [if_neg hw] at h3
        exact h3

theorem wp_region_inv {id : Nat} {a0 : Act} {w0 : World} (I : Array Bool → Act → World → Prop) (hm : P.follows .mixedOrders = true) (h0 : I (Array.replicate ops.size false) a0 w0.drew)
    (hstep : ∀ listed a w, listed.size = ops.size → I listed a w → ∀ i o, ops[i]? = some o → listed.getD i true = false → (o.after.all fun e => !Region.binds .any e || listed.getD e.on false) = true →
      ∀ K : Act → World → Prop, Shut (∀ a' w', I (listed.setIfInBounds i true) a' w' → K a' w') → if Region.wanted o (yielded ops a.tmps) = true then Oper.wp P o a w K Q else K (a.put o.dst undef) w)
    (hdone : ∀ listed a w, listed.size = ops.size → I listed a w → Region.ready .any ops listed = [] → Q .normal a w) : (Code.region id ops true).wp P Q a0 w0 :=
  wp_region_any hm (wpAny_inv .any I hstep hdone ops.size _ a0 _ (by simp) (by simp) h0)

/-- None is left: all have come up, one behind the other. -/
theorem ready_none {listed : Array Bool} (hr : Region.ready .any ops listed = []) {i : Nat} {o : Oper} (ho : ops[i]? = some o) (hd : (o.after.all fun e => !Region.binds .any e || listed.getD e.on false) = true) : listed.getD i true = true := by
  unfold Region.ready at hr
  rw [List.filter_eq_nil_iff] at hr
  have hlt := (Array.getElem?_eq_some_iff.1 ho).1
  have := hr i (by simpa using hlt)
  rw [ho] at this
  simp only [Option.map_some, Option.getD_some, hd, Bool.and_true, Bool.not_eq_true', Bool.not_eq_false] at this
  exact this
theorem ready_next {listed : Array Bool} (hs : listed.size = ops.size) (hr : Region.ready .any ops listed = []) (i : Nat) (h : ((ops[i]?).map fun o => o.after.all fun e => !Region.binds .any e || listed.getD e.on false) = some true) : listed.getD i false = true := by
  cases ho : ops[i]? with
  | none => rw [ho] at h; simp at h
  | some o =>
    rw [ho] at h
    have hr := ready_none hr ho (by simpa using h)
    have hl : i < listed.size := by rw [hs]; exact (Array.getElem?_eq_some_iff.1 ho).1
    rw [Array.getD_eq_getD_getElem?, Array.getElem?_eq_getElem hl] at hr ⊢
    simpa using hr
end

end Go.Proofs.YtppagjhmlgkamaaGreatDoor

/-
  Package parse: Parse, whole: what it tells as a function on bytes.
-/
namespace Go.Proofs.YtppagjhmlgkamaaGreatDoor
open Go Go.RowKit Go.Lib

/-- What Parse tells of bytes. -/
def tl (l : List UInt8) : PR Pg :=
  match lexS 0 l with
  | .bad p => .bad p 2
  | .ok ts => progT (ts.length + 2) (fin ts l.length)
theorem tl_ne (l : List UInt8) : tl l ≠ .out := by
  unfold tl
  split
  · exact fun e => by cases e
  · exact prog_fn _ _ (by simp [fin])
theorem lex_few : ∀ (f p : Nat) (l : List UInt8) (ts : List Tok), l.length ≤ f → lexS p l = .ok ts → ts.length ≤ l.length ∧ ∀ t ∈ ts, t.kind < 4
  | f, p, [], ts, _, h => by rw [lexS_nil] at h; injection h with h; subst h; exact ⟨Nat.le_refl _, fun t ht => by cases ht⟩
  | 0, p, c :: r, ts, hf, _ => by simp at hf
  | f + 1, p, c :: r, ts, hf, h => by
    simp only [List.length_cons] at hf ⊢
    rcases ok_ways h with ⟨_, h2⟩ | ⟨h1, h2⟩ | ⟨h1, h2, h3, h4, ts', h5, rfl⟩
    · have := lex_few f _ r ts (by omega) h2
      exact ⟨by omega, this.2⟩
    · have hm1 : 1 ≤ commL (c :: r) := by rw [commL_cons, if_neg (by rw [h1]; decide)]; omega
      have hd : ((c :: r).drop (commL (c :: r))).length = r.length + 1 - commL (c :: r) := by simp
      have := lex_few f _ _ ts (by rw [hd]; omega) h2
      rw [hd] at this
      exact ⟨by omega, this.2⟩
    · have hn1 := firstN_pos (c := c) (l := r) (fun e => h3 (.inl e))
      have hd : ((c :: r).drop (firstN (c :: r))).length = r.length + 1 - firstN (c :: r) := by simp
      have hn2 : firstN (c :: r) ≤ (c :: r).length := firstN_le
      simp only [List.length_cons] at hn2
      have := lex_few f _ _ ts' (by rw [hd]; omega) h5
      rw [hd] at this
      refine ⟨by simp only [List.length_cons]; omega, fun t ht => ?_⟩
      rcases List.mem_cons.1 ht with rfl | ht
      · show firstK (c :: r) < 4
        unfold firstK
        simp only
        repeat' split
        all_goals omega
      · exact this.2 t ht
theorem placed_all {b : List UInt8} : ∀ {p : Nat} {T : List Tok}, Placed b p T → ∀ t ∈ T, t.at_ + t.text.length ≤ b.length
  | _, [], _, t, ht => by cases ht
  | _, s :: r, ⟨h, hr⟩, t, ht => by
    rcases List.mem_cons.1 ht with rfl | ht
    · exact h.2.1
    · exact placed_all hr t ht
theorem tok_ok {l : List UInt8} {ts : List Tok} (h : lexS 0 l = .ok ts) (hl : l.length ≤ 65536) : TokOk (fin ts l.length) := by
  have h1 := lex_few _ 0 l ts (Nat.le_refl _) h
  have h2 := placed_all (placed_of h)
  refine ⟨by rw [fin_length]; omega, fun i t ht => ?_, ⟨ts, l.length, rfl, fun t ht => Nat.ne_of_lt (h1.2 t ht)⟩⟩
  have hm := List.mem_of_getElem? ht
  have := h2 t hm
  refine ⟨by omega, by omega, ?_⟩
  rcases List.mem_append.1 hm with hm | hm
  · exact Nat.le_of_lt (h1.2 t hm)
  · rw [List.mem_singleton.1 hm]; exact Nat.le_refl _

/-- What Parse has done. -/
def ParseOut (l : List UInt8) (W : World) (e : Ending) (W' : World) : Prop :=
  Below W.heap.size W W' ∧ match tl l with
  | .ok q _ => ∃ v, e = .returned (.tuple #[v, .int .i64 0, .int .i64 0]) ∧ GV W.heap.size W' v q
  | .bad p c => e = .returned (.tuple #[.agg #[.slice none 0 0, .slice none 0 0], .int .i64 p, .int .i64 c])
  | .out => False

abbrev P2 : Obj := .cells #[.slice none 0 0, .slice none 0 0] 25
abbrev P1 : Obj := .cells #[.int .i64 0] 3
abbrev P0 : Obj := .cells #[.int .i64 0] 30

theorem Row.al {W : World} {A : Option Addr} {l : List UInt8} (h : Row W A l) (a b c : Obj) : Row (((W.alloc a).alloc b).alloc c) A l := by
  intro h0
  obtain ⟨g, o, e, hl, hc⟩ := h h0
  refine ⟨g, o, e, by simp; omega, fun i hi => ?_⟩
  rw [World.cell?_alloc_lt _ _ _ (by simp; omega), World.cell?_alloc_lt _ _ _ (by simp; omega), World.cell?_alloc_lt _ _ _ hl]
  exact hc i hi
theorem three_size (W : World) : (((W.alloc P2).alloc P1).alloc P0).heap.size = W.heap.size + 3 := by simp
theorem three_below (W : World) : Below W.heap.size W (((W.alloc P2).alloc P1).alloc P0) := (((Below.refl _ _).alloc (Nat.le_refl _) _).alloc (by simp) _).alloc (by simp; omega) _
theorem three0 (W : World) : (((W.alloc P2).alloc P1).alloc P0).heap[W.heap.size]? = some P2 :=
  (Below.heap_alloc _ _ _ (by simp; omega)).trans ((Below.heap_alloc _ _ _ (by simp)).trans (heap_alloc_new W P2))
theorem three1 (W : World) : (((W.alloc P2).alloc P1).alloc P0).heap[W.heap.size + 1]? = some P1 :=
  (Below.heap_alloc _ _ _ (by simp)).trans (by have := heap_alloc_new (W.alloc P2) P1; rw [World.size_alloc] at this; exact this)
theorem three2 (W : World) : (((W.alloc P2).alloc P1).alloc P0).heap[W.heap.size + 1 + 1]? = some P0 := by
  have := heap_alloc_new ((W.alloc P2).alloc P1) P0
  rw [World.size_alloc, World.size_alloc] at this
  exact this

/-- The two cells that are told stay. -/
def Tw (b : Nat) (x y : Int) (w : World) : Prop := w.cell? ⟨b + 1, 0, none⟩ = some (.int .i64 x) ∧ w.cell? ⟨b + 1 + 1, 0, none⟩ = some (.int .i64 y)
theorem tw0 {b : Nat} {x y : Int} {w : World} {u v : Value} (h : Tw b x y w) : Tw b x y ((w.setCell ⟨b, 0, none⟩ u).setCell ⟨b, 1, none⟩ v) :=
  ⟨(World.cell?_setCell_far _ _ _ _ (by simp)).trans ((World.cell?_setCell_far _ _ _ _ (by simp)).trans h.1), (World.cell?_setCell_far _ _ _ _ (by simp; omega)).trans ((World.cell?_setCell_far _ _ _ _ (by simp; omega)).trans h.2)⟩
theorem tw1 {b : Nat} {x y : Int} {w : World} (h : Tw b x y w) : Tw b x y (w.setCell ⟨b + 1, 0, none⟩ (.int .i64 x)) :=
  ⟨World.cell?_setCell_same _ _ _ h.1, (World.cell?_setCell_far _ _ _ _ (by simp)).trans h.2⟩
theorem tw2 {b : Nat} {x y : Int} {w : World} (h : Tw b x y w) : Tw b x y (w.setCell ⟨b + 1 + 1, 0, none⟩ (.int .i64 y)) :=
  ⟨(World.cell?_setCell_far _ _ _ _ (by simp)).trans h.1, World.cell?_setCell_same _ _ _ h.2⟩

/-- Which operations have come up. -/
def lq (a : Array Bool) (j : Nat) : Bool := a.getD j false
theorem lq_false {a : Array Bool} {j : Nat} (h : a.getD j true = false) : j < a.size := by
  rcases Nat.lt_or_ge j a.size with hl | hl
  · exact hl
  · rw [Array.getD_eq_getD_getElem?, Array.getElem?_eq_none hl] at h
    simp at h
theorem lq_set {a : Array Bool} {i j : Nat} (_ : i < a.size) (h : lq (a.setIfInBounds i true) j = true) : j = i ∨ lq a j = true := by
  by_cases e : i = j
  · exact .inl e.symm
  · refine .inr ?_
    unfold lq at h ⊢
    rw [Array.getD_eq_getD_getElem?, Array.getElem?_setIfInBounds_ne e] at h
    rw [Array.getD_eq_getD_getElem?]
    exact h
/-- The three that are told, and what is as it was. -/
structure Tell3 (b : Nat) (x y : Int) (W w : World) : Prop where
  tw : Tw b x y w
  a0 : w.cell? ⟨b, 0, none⟩ = some (.slice none 0 0)
  a1 : w.cell? ⟨b, 1, none⟩ = some (.slice none 0 0)
  f : ∀ k j, b ≤ k → k ≤ b + 2 → w.frozen? ⟨k, j, none⟩ = false
  bel : Below W.heap.size W w
theorem Tell3.s0 {b : Nat} {x y : Int} {W w : World} (h : Tell3 b x y W w) (hW : W.heap.size ≤ b) : Tell3 b x y W ((w.setCell ⟨b, 0, none⟩ (.slice none 0 0)).setCell ⟨b, 1, none⟩ (.slice none 0 0)) :=
  ⟨tw0 h.tw, (World.cell?_setCell_other _ _ _ _ (by simp)).trans (World.cell?_setCell_same _ _ _ h.a0), World.cell?_setCell_same _ _ _ ((World.cell?_setCell_other _ _ _ _ (by simp)).trans h.a1), fun k j h1 h2 => (World.frozen?_setCell _ _ _ _).trans ((World.frozen?_setCell _ _ _ _).trans (h.f k j h1 h2)), (h.bel.setCell (p := ⟨b, 0, none⟩) hW _).setCell (p := ⟨b, 1, none⟩) hW _⟩
theorem Tell3.s1 {b : Nat} {x y : Int} {W w : World} (h : Tell3 b x y W w) (hW : W.heap.size ≤ b) : Tell3 b x y W (w.setCell ⟨b + 1, 0, none⟩ (.int .i64 x)) :=
  ⟨tw1 h.tw, (World.cell?_setCell_far _ _ _ _ (by simp)).trans h.a0, (World.cell?_setCell_far _ _ _ _ (by simp)).trans h.a1, fun k j h1 h2 => (World.frozen?_setCell _ _ _ _).trans (h.f k j h1 h2), h.bel.setCell (p := ⟨b + 1, 0, none⟩) (by simp; omega) _⟩
theorem Tell3.s2 {b : Nat} {x y : Int} {W w : World} (h : Tell3 b x y W w) (hW : W.heap.size ≤ b) : Tell3 b x y W (w.setCell ⟨b + 1 + 1, 0, none⟩ (.int .i64 y)) :=
  ⟨tw2 h.tw, (World.cell?_setCell_far _ _ _ _ (by simp; omega)).trans h.a0, (World.cell?_setCell_far _ _ _ _ (by simp; omega)).trans h.a1, fun k j h1 h2 => (World.frozen?_setCell _ _ _ _).trans (h.f k j h1 h2), h.bel.setCell (p := ⟨b + 1 + 1, 0, none⟩) (by simp; omega) _⟩

set_option maxRecDepth 100000 in
theorem parse_err (A : Option Addr) (n cap p c : Nat) (W : World) (hc : c ≠ 0)
    (HL : Calls Tryz.prog 19 #[.slice A n cap] (((W.alloc P2).alloc P1).alloc P0) fun e w' => e = .returned (.tuple #[.slice none 0 0, .int .i64 p, .int .i64 c]) ∧ Below (((W.alloc P2).alloc P1).alloc P0).heap.size (((W.alloc P2).alloc P1).alloc P0) w') :
    Calls Tryz.prog 14 #[.slice A n cap] W fun e W' => Below W.heap.size W W' ∧ e = .returned (.tuple #[.agg #[.slice none 0 0, .slice none 0 0], .int .i64 p, .int .i64 c]) := by
  have hmf : ∀ (fn : Go.Fn) (first cap : Array Value) (w : World), (Instr.makeFunc fn first cap).run Tryz.prog w = .ok (.func fn first cap) w := fun _ _ _ _ => rfl
  have k1 : ((c : Int) == 0) = false := by rw [beq_eq_false_iff_ne]; omega
  have k2 : ((c : Int) != 0) = true := by rw [bne, k1]; rfl
  go_enter_defers Tryz.func14, Tryz.ntmps14
  go_upto_region 1 with fail
  have B0 := three0 W
  have B1 := three1 W
  have B2 := three2 W
  have g0 := three_below W
  have z0 := three_size W
  have HL := Lib.hid HL
  obtain ⟨w0, hw0⟩ : ∃ w0, ((W.alloc P2).alloc P1).alloc P0 = w0 := ⟨_, rfl⟩
  rw [hw0] at HL B0 B1 B2 g0 z0 ⊢
  clear hw0
  obtain ⟨b0, hb0⟩ : ∃ b0, W.heap.size = b0 := ⟨_, rfl⟩
  rw [hb0] at B0 B1 B2 g0 z0 ⊢
  have HB0 := Lib.hid (fun w1 (e1 : Below w0.heap.size w0 w1) => (e1.block b0 (by omega)).trans B0)
  have HB1 := Lib.hid (fun w1 (e1 : Below w0.heap.size w0 w1) => (e1.block (b0 + 1) (by omega)).trans B1)
  have HB2 := Lib.hid (fun w1 (e1 : Below w0.heap.size w0 w1) => (e1.block (b0 + 1 + 1) (by omega)).trans B2)
  go_upto_region 2 with (go_at_call 19; ((with_reducible refine HL.out.mono ?_); rintro e1 w1 ⟨rfl, e1⟩; have c1 := box_cell (HB1.out w1 e1) 0; have f1 := box_frozen (HB1.out w1 e1) 0; have c2 := box_cell (HB2.out w1 e1) 0; have f2 := box_frozen (HB2.out w1 e1) 0; have c2' := (World.cell?_setCell_far w1 ⟨b0 + 1, 0, none⟩ ⟨b0 + 1 + 1, 0, none⟩ (.int .i64 p) (by simp)).trans c2; simp at c1 c2 c2'))
  have g1 : Below b0 W ((w1.setCell ⟨b0 + 1, 0, none⟩ (.int .i64 p)).setCell ⟨b0 + 1 + 1, 0, none⟩ (.int .i64 c)) := ((g0.trans (e1.mono (by omega))).setCell (p := ⟨b0 + 1, 0, none⟩) (by simp) _).setCell (p := ⟨b0 + 1 + 1, 0, none⟩) (by simp; omega) _
  have t2 : Tw b0 p c ((w1.setCell ⟨b0 + 1, 0, none⟩ (.int .i64 p)).setCell ⟨b0 + 1 + 1, 0, none⟩ (.int .i64 c)) :=
    ⟨(World.cell?_setCell_far _ _ _ _ (by simp)).trans (World.cell?_setCell_same _ _ _ c1), World.cell?_setCell_same _ _ _ c2'⟩
  have B3 : ((w1.setCell ⟨b0 + 1, 0, none⟩ (.int .i64 p)).setCell ⟨b0 + 1 + 1, 0, none⟩ (.int .i64 c)).heap[b0]? = some P2 := (Below.heap_setCell _ _ _ _ (by simp; omega)).trans ((Below.heap_setCell _ _ _ _ (by simp)).trans (HB0.out w1 e1))
  have F1 : ∀ j, ((w1.setCell ⟨b0 + 1, 0, none⟩ (.int .i64 p)).setCell ⟨b0 + 1 + 1, 0, none⟩ (.int .i64 c)).frozen? ⟨b0 + 1, j, none⟩ = false := fun j => (World.frozen?_setCell _ _ _ _).trans ((World.frozen?_setCell _ _ _ _).trans (box_frozen (HB1.out w1 e1) j))
  have F2 : ∀ j, ((w1.setCell ⟨b0 + 1, 0, none⟩ (.int .i64 p)).setCell ⟨b0 + 1 + 1, 0, none⟩ (.int .i64 c)).frozen? ⟨b0 + 1 + 1, j, none⟩ = false := fun j => (World.frozen?_setCell _ _ _ _).trans ((World.frozen?_setCell _ _ _ _).trans (box_frozen (HB2.out w1 e1) j))
  obtain ⟨w2, hw2⟩ : ∃ w2, (w1.setCell ⟨b0 + 1, 0, none⟩ (.int .i64 p)).setCell ⟨b0 + 1 + 1, 0, none⟩ (.int .i64 c) = w2 := ⟨_, rfl⟩
  rw [hw2] at g1 t2 B3 F1 F2 ⊢
  clear hw2 c1 c2 c2' f1 f2 HB0 HB1 HB2 e1 B0 B1 B2 g0
  have q1 := t2.1
  have q2 := t2.2
  go_upto_region 3 with fail
  have a0 := box_cell B3 0
  have a1 := box_cell B3 1
  simp only [List.getElem?_toArray, List.getElem?_cons_succ, List.getElem?_cons_zero] at a0 a1
  have hT : Tell3 b0 p c W w2.drew := ⟨t2, a0, a1, fun k j h1 h2 => by
    rcases (show k = b0 ∨ k = b0 + 1 ∨ k = b0 + 1 + 1 by omega) with rfl | rfl | rfl
    · exact box_frozen B3 j
    · exact F1 j
    · exact F2 j, by rw [hb0]; exact Below.trans g1 ⟨rfl, rfl, rfl, Nat.le_refl _, fun _ _ => rfl⟩⟩
  have hW0 : W.heap.size ≤ b0 := by omega
  clear hmf HL k1 k2 a0 a1 q1 q2 t2 B3 F1 F2 g1
  refine wp_region_inv (fun up a w' => ∃ s15 s16 s17 : Value, a = { tmps := #[.slice A n cap, undef, .pointer (some ⟨b0, 0, none⟩), .pointer (some ⟨b0 + 1, 0, none⟩), .pointer (some ⟨b0 + 1 + 1, 0, none⟩), .slice none 0 0, undef, .tuple #[.slice none 0 0, .int .i64 p, .int .i64 c], .slice A n cap, .tuple #[.slice none 0 0, .int .i64 p, .int .i64 c], .slice none 0 0, .int .i64 p, .int .i64 c, .int .i64 c, .bool true, s15, s16, s17, undef, undef, undef, undef], defers := [] } ∧ (lq up 0 = true → s15 = .agg #[.slice none 0 0, .slice none 0 0]) ∧ (lq up 1 = true → s16 = .int .i64 p) ∧ (lq up 2 = true → s17 = .int .i64 c) ∧ Tell3 b0 p c W w') (by kernel_rfl) ?start ?step ?done
  case start => exact ⟨_, _, _, rfl, fun e => by simp [lq] at e, fun e => by simp [lq] at e, fun e => by simp [lq] at e, hT⟩
  case step =>
    intro up a w' hs hI i o ho hli hd K hK
    obtain ⟨s15, s16, s17, rfl, h15, h16, h17, hT⟩ := hI
    have hl := lq_false hli
    have hi6 : i < 6 := by have := (Array.getElem?_eq_some_iff.1 ho).1; simpa using this
    have hcase : i = 0 ∨ i = 1 ∨ i = 2 ∨ i = 3 ∨ i = 4 ∨ i = 5 := by omega
    have q1 := hT.tw.1
    have q2 := hT.tw.2
    have a0 := hT.a0
    have a1 := hT.a1
    have f0 := hT.f b0 0 (Nat.le_refl _) (by omega)
    have f1 := hT.f b0 1 (Nat.le_refl _) (by omega)
    have f2 := hT.f (b0 + 1) 0 (by omega) (by omega)
    have f3 := hT.f (b0 + 1 + 1) 0 (by omega) (by omega)
    clear hi6 hli
    rcases hcase with rfl | rfl | rfl | rfl | rfl | rfl
    all_goals
      simp only [List.getElem?_toArray, List.getElem?_cons_zero, List.getElem?_cons_succ, Option.some.injEq] at ho
      subst ho
      simp only [Region.binds, Bool.not_true, Bool.false_or, List.all_toArray, List.all_cons, List.all_nil, Bool.and_true, Bool.and_eq_true] at hd
    · go_simp
      exact hK.out _ _ ⟨_, _, _, rfl, fun _ => rfl, fun e => (lq_set hl e).elim (fun e => absurd e (by decide)) h16, fun e => (lq_set hl e).elim (fun e => absurd e (by decide)) h17, hT⟩
    · go_simp
      exact hK.out _ _ ⟨_, _, _, rfl, fun e => (lq_set hl e).elim (fun e => absurd e (by decide)) h15, fun _ => rfl, fun e => (lq_set hl e).elim (fun e => absurd e (by decide)) h17, hT⟩
    · go_simp
      exact hK.out _ _ ⟨_, _, _, rfl, fun e => (lq_set hl e).elim (fun e => absurd e (by decide)) h15, fun e => (lq_set hl e).elim (fun e => absurd e (by decide)) h16, fun _ => rfl, hT⟩
    · obtain rfl := h15 hd.1
      go_simp
      exact hK.out _ _ ⟨_, _, _, rfl, fun e => (lq_set hl e).elim (fun e => absurd e (by decide)) h15, fun e => (lq_set hl e).elim (fun e => absurd e (by decide)) h16, fun e => (lq_set hl e).elim (fun e => absurd e (by decide)) h17, hT.s0 hW0⟩
    · obtain rfl := h16 hd.1
      go_simp
      exact hK.out _ _ ⟨_, _, _, rfl, fun e => (lq_set hl e).elim (fun e => absurd e (by decide)) h15, fun e => (lq_set hl e).elim (fun e => absurd e (by decide)) h16, fun e => (lq_set hl e).elim (fun e => absurd e (by decide)) h17, hT.s1 hW0⟩
    · obtain rfl := h17 hd.1
      go_simp
      exact hK.out _ _ ⟨_, _, _, rfl, fun e => (lq_set hl e).elim (fun e => absurd e (by decide)) h15, fun e => (lq_set hl e).elim (fun e => absurd e (by decide)) h16, fun e => (lq_set hl e).elim (fun e => absurd e (by decide)) h17, hT.s2 hW0⟩
  case done =>
    intro up a w' hs hI hr
    obtain ⟨s15, s16, s17, rfl, h15, h16, h17, hT⟩ := hI
    have q1 := hT.tw.1
    have q2 := hT.tw.2
    have a0 := hT.a0
    have a1 := hT.a1
    go_wp2
    exact ⟨.tuple #[.agg #[.slice none 0 0, .slice none 0 0], .int .i64 p, .int .i64 c], by simp [results, Tryz.results14, go_sem, q1, q2, a0, a1], hT.bel, rfl⟩
end Go.Proofs.YtppagjhmlgkamaaGreatDoor

/-
  Package parse: Parse, where bytes are tokens.
-/
namespace Go.Proofs.YtppagjhmlgkamaaGreatDoor
open Go Go.RowKit Go.Lib

theorem rd_new {w : World} {g m c : Nat} {T : List Tok} (ht : TokRow w g T) (hm : T.length = m) (hT : TokOk T) : Rd (w.alloc (.cells #[.slice (some ⟨g, 0, none⟩) m c, .int .i64 0, .int .i64 0] 70)) w.heap.size g m c T 0 0 := by
  have hb := heap_alloc_new w (.cells #[.slice (some ⟨g, 0, none⟩) m c, .int .i64 0, .int .i64 0] 70)
  have hl := ht.1
  refine ⟨box_cell hb 0, box_cell hb 1, box_cell hb 2, fun j => box_frozen hb j, by simp, ⟨by simp; omega, fun i t hi => ?_⟩, by omega, hm, ?_, by omega, hT⟩
  · obtain ⟨a, b, d⟩ := ht.2 i t hi
    exact ⟨(World.cell?_alloc_lt _ _ _ hl).trans a, (World.cell?_alloc_lt _ _ _ hl).trans b, (World.cell?_alloc_lt _ _ _ hl).trans d⟩
  · obtain ⟨b, p, e, _⟩ := hT.last
    rw [← hm, e]
    simp

theorem TokRow.same {w w' : World} {g : Nat} {T : List Tok} (h : TokRow w g T) (hs : w.heap.size ≤ w'.heap.size) (hb : w'.heap[g]? = w.heap[g]?) : TokRow w' g T :=
  ⟨Nat.lt_of_lt_of_le h.1 hs, fun j t hj => by
    obtain ⟨a, b, c⟩ := h.2 j t hj
    have e : ∀ k, w'.cell? ⟨g, k, none⟩ = w.cell? ⟨g, k, none⟩ := fun k => World.cell?_of_block (a := ⟨g, k, none⟩) hb
    exact ⟨(e _).trans a, (e _).trans b, (e _).trans c⟩⟩
theorem set1_heap {W : World} {n : Nat} {p x : Value} {t : TypeId} (h : W.heap[n]? = some (.cells #[p] t)) : (W.setCell ⟨n, 0, none⟩ x).heap[n]? = some (.cells #[x] t) := by
  simp [World.setCell, Array.getElem?_modify, h]
theorem put2_block {W : World} {n k : Nat} {a b : Value} (h : k ≠ n) : (put2 W n a b).heap[k]? = W.heap[k]? := by
  unfold put2
  rw [Below.heap_setCell _ _ _ _ h, Below.heap_setCell _ _ _ _ h]
theorem Gr.below {rb B : Nat} {W W' : World} (h : Gr rb W W') (h1 : B ≤ rb) (h2 : B ≤ W.heap.size) : Below B W W' := ⟨World.grownBy.os h, World.grownBy.tape h, World.grownBy.output h, h.size, fun k hk => h.block (by omega) (by omega)⟩
theorem below_drw {B : Nat} {w w' : World} (h : Below B w w') : Below B w w'.drew := ⟨h.os, h.tape, h.output, h.size, h.block⟩
abbrev TB (g m c : Nat) : Obj := .cells #[.slice (some ⟨g, 0, none⟩) m c, .int .i64 0, .int .i64 0] 70

set_option maxRecDepth 100000 in
theorem parse_ok (A : Option Addr) (n cap : Nat) (l : List UInt8) (ts : List Tok) (q : Pg) (r : List Tok) (W : World) (hn : l.length = n) (hl : n ≤ 65536) (hcap : n ≤ cap) (hr : Row W A l) (hok : lexS 0 l = .ok ts) (hp : progT (ts.length + 2) (fin ts n) = .ok q r) :
    Calls Tryz.prog 14 #[.slice A n cap] W fun e W' => Below W.heap.size W W' ∧ ∃ v, e = .returned (.tuple #[v, .int .i64 0, .int .i64 0]) ∧ GV W.heap.size W' v q := by
  have hmf : ∀ (fn : Go.Fn) (first cap : Array Value) (w : World), (Instr.makeFunc fn first cap).run Tryz.prog w = .ok (.func fn first cap) w := fun _ _ _ _ => rfl
  obtain ⟨m, hm⟩ : ∃ m, ts.length + 1 = m := ⟨_, rfl⟩
  have hTok : TokOk (fin ts n) := hn ▸ tok_ok hok (by omega)
  have hTl : (fin ts n).length = m := by rw [fin_length, hm]
  have HL := Lib.hid (lex_ok A n cap m l ts _ hn hl hcap (hr.al P2 P1 P0) hok hm)
  have HP := Lib.hid (fun w g cT (b : Nat) (h : Rd w b g m cT (fin ts n) 0 0) => prog_any h (ts.length + 2) (.ok q r) hp (fun e => by cases e))
  clear hn hl hcap hr hok hp
  go_enter_defers Tryz.func14, Tryz.ntmps14
  go_upto_region 1 with fail
  have B0 := three0 W
  have B1 := three1 W
  have B2 := three2 W
  have g0 := three_below W
  have z0 := three_size W
  obtain ⟨w0, hw0⟩ : ∃ w0, ((W.alloc P2).alloc P1).alloc P0 = w0 := ⟨_, rfl⟩
  rw [hw0] at HL B0 B1 B2 g0 z0 ⊢
  clear hw0
  obtain ⟨b0, hb0⟩ : ∃ b0, W.heap.size = b0 := ⟨_, rfl⟩
  rw [hb0] at B0 B1 B2 g0 z0 ⊢
  have HB0 := Lib.hid (fun w1 (e1 : Below w0.heap.size w0 w1) => (e1.block b0 (by omega)).trans B0)
  have HB1 := Lib.hid (fun w1 (e1 : Below w0.heap.size w0 w1) => (e1.block (b0 + 1) (by omega)).trans B1)
  have HB2 := Lib.hid (fun w1 (e1 : Below w0.heap.size w0 w1) => (e1.block (b0 + 1 + 1) (by omega)).trans B2)
  go_upto_region 2 with (go_at_call 19; ((with_reducible refine HL.out.mono ?_); rintro e1 w1 ⟨g, c', rfl, hgs, hmc, htr, e1⟩; have c1 := box_cell (HB1.out w1 e1) 0; have f1 := box_frozen (HB1.out w1 e1) 0; have c2 := box_cell (HB2.out w1 e1) 0; have f2 := box_frozen (HB2.out w1 e1) 0; have c2' := (World.cell?_setCell_far w1 ⟨b0 + 1, 0, none⟩ ⟨b0 + 1 + 1, 0, none⟩ (.int .i64 0) (by simp)).trans c2; simp at c1 c2 c2'))
  have hb2 : ∀ k, k ≠ b0 + 1 → k ≠ b0 + 1 + 1 → ((w1.setCell ⟨b0 + 1, 0, none⟩ (.int .i64 0)).setCell ⟨b0 + 1 + 1, 0, none⟩ (.int .i64 0)).heap[k]? = w1.heap[k]? := fun k h1 h2 => (Below.heap_setCell _ ⟨b0 + 1 + 1, 0, none⟩ _ _ h2).trans (Below.heap_setCell _ ⟨b0 + 1, 0, none⟩ _ _ h1)
  have g2 : Below b0 W ((w1.setCell ⟨b0 + 1, 0, none⟩ (.int .i64 0)).setCell ⟨b0 + 1 + 1, 0, none⟩ (.int .i64 0)) := ((g0.trans (e1.mono (by omega))).setCell (p := ⟨b0 + 1, 0, none⟩) (by simp) _).setCell (p := ⟨b0 + 1 + 1, 0, none⟩) (by simp; omega) _
  have z2 : ((w1.setCell ⟨b0 + 1, 0, none⟩ (.int .i64 0)).setCell ⟨b0 + 1 + 1, 0, none⟩ (.int .i64 0)).heap.size = w1.heap.size := by simp
  have t2 : TokRow ((w1.setCell ⟨b0 + 1, 0, none⟩ (.int .i64 0)).setCell ⟨b0 + 1 + 1, 0, none⟩ (.int .i64 0)) g (fin ts n) := htr.same (by rw [z2]; exact Nat.le_refl _) (hb2 g (by omega) (by omega))
  have Z1 : ((w1.setCell ⟨b0 + 1, 0, none⟩ (.int .i64 0)).setCell ⟨b0 + 1 + 1, 0, none⟩ (.int .i64 0)).heap[b0 + 1]? = some P1 := (Below.heap_setCell _ ⟨b0 + 1 + 1, 0, none⟩ _ _ (by simp)).trans (set1_heap (HB1.out w1 e1))
  have Z2 : ((w1.setCell ⟨b0 + 1, 0, none⟩ (.int .i64 0)).setCell ⟨b0 + 1 + 1, 0, none⟩ (.int .i64 0)).heap[b0 + 1 + 1]? = some P0 := set1_heap ((Below.heap_setCell _ ⟨b0 + 1, 0, none⟩ _ _ (by simp)).trans (HB2.out w1 e1))
  have Z0 := (hb2 b0 (by omega) (by omega)).trans (HB0.out w1 e1)
  have zw1 := e1.size
  obtain ⟨w2, hw2⟩ : ∃ w2, (w1.setCell ⟨b0 + 1, 0, none⟩ (.int .i64 0)).setCell ⟨b0 + 1 + 1, 0, none⟩ (.int .i64 0) = w2 := ⟨_, rfl⟩
  rw [hw2] at g2 z2 t2 Z0 Z1 Z2 ⊢
  clear hw2 c1 c2 c2' f1 f2 HB0 HB1 HB2 B0 B1 B2 g0 hb2
  have q2 := box_cell Z2 0
  simp only [List.getElem?_toArray, List.getElem?_cons_zero] at q2
  go_upto_region 6 with fail
  have h3 := rd_new (c := c') t2 hTl hTok
  have e3 : Below w2.heap.size w2 (w2.alloc (TB g m c')) := (Below.refl _ _).alloc (Nat.le_refl _) _
  have Z0 := (e3.block b0 (by omega)).trans Z0
  have Z1 := (e3.block (b0 + 1) (by omega)).trans Z1
  have Z2 := (e3.block (b0 + 1 + 1) (by omega)).trans Z2
  have g3 := g2.trans (e3.mono (by omega))
  have z3 : (w2.alloc (TB g m c')).heap.size = w2.heap.size + 1 := by simp
  obtain ⟨w3, hw3⟩ : ∃ w3, w2.alloc (TB g m c') = w3 := ⟨_, rfl⟩
  rw [hw3] at h3 Z0 Z1 Z2 g3 z3 ⊢
  clear hw3 e3 q2 t2 g2 htr
  obtain ⟨n5, hn5⟩ : ∃ n5, w1.heap.size = n5 := ⟨_, rfl⟩
  rw [z2, hn5] at h3 z3
  rw [hn5] at zw1 ⊢
  have HBk := Lib.hid (fun w6 (g6 : Gr n5 w3 w6) k (hk : k ≤ b0 + 2) => g6.block (k := k) (by omega) (by omega))
  have HBP := Lib.hid (HP.out w3 g c' n5 h3)
  clear HP HL
  go_wp2_with (go_at_call 30; ((with_reducible refine HBP.out.mono ?_); rintro e2 w6 ⟨⟨vv, rfl, vf, vm, rfl, hf, hvm⟩, ⟨i6, h6, _⟩, g6⟩; obtain ⟨A1, k1, el1, _⟩ := id hf; obtain ⟨A2, k2, el2, _⟩ := id hvm; subst el1; subst el2; have Y0 := (HBk.out w6 g6 b0 (by omega)).trans Z0; have Y1 := (HBk.out w6 g6 (b0 + 1) (by omega)).trans Z1; have Y2 := (HBk.out w6 g6 (b0 + 1 + 1) (by omega)).trans Z2; have c0 := box_cell Y0 0; have c1 := box_cell Y0 1; have f0 := box_frozen Y0 0; have f1 := box_frozen Y0 1; have d1 := (World.cell?_setCell_far (w6.setCell ⟨b0, 0, none⟩ (.slice A1 q.fs.length k1)) ⟨b0, 1, none⟩ ⟨b0 + 1, 0, none⟩ (.slice A2 q.m.len k2) (by simp)).trans ((World.cell?_setCell_far w6 ⟨b0, 0, none⟩ ⟨b0 + 1, 0, none⟩ (.slice A1 q.fs.length k1) (by simp)).trans (box_cell Y1 0)); have x1 := box_frozen Y1 0; have x2 := box_frozen Y2 0; have d2 := (World.cell?_setCell_far ((w6.setCell ⟨b0, 0, none⟩ (.slice A1 q.fs.length k1)).setCell ⟨b0, 1, none⟩ (.slice A2 q.m.len k2)) ⟨b0 + 1, 0, none⟩ ⟨b0 + 1 + 1, 0, none⟩ (.int .i64 0) (by simp)).trans ((World.cell?_setCell_far (w6.setCell ⟨b0, 0, none⟩ (.slice A1 q.fs.length k1)) ⟨b0, 1, none⟩ ⟨b0 + 1 + 1, 0, none⟩ (.slice A2 q.m.len k2) (by simp; omega)).trans ((World.cell?_setCell_far w6 ⟨b0, 0, none⟩ ⟨b0 + 1 + 1, 0, none⟩ (.slice A1 q.fs.length k1) (by simp; omega)).trans (box_cell Y2 0))); simp at c0 c1 d1 d2))
  have z6 := g6.size
  have X0 : (((Proofs.YtppagjhmlgkamaaGreatDoor.put2 w6 b0 (.slice A1 q.fs.length k1) (.slice A2 q.m.len k2)).setCell ⟨b0 + 1, 0, none⟩ (.int .i64 0)).setCell ⟨b0 + 1 + 1, 0, none⟩ (.int .i64 0)).heap[b0]? = some (.cells #[.slice A1 q.fs.length k1, .slice A2 q.m.len k2] 25) := (Below.heap_setCell _ ⟨b0 + 1 + 1, 0, none⟩ _ _ (show b0 ≠ b0 + 1 + 1 by omega)).trans ((Below.heap_setCell _ ⟨b0 + 1, 0, none⟩ _ _ (show b0 ≠ b0 + 1 by omega)).trans (put2_heap Y0))
  have X1 : (((Proofs.YtppagjhmlgkamaaGreatDoor.put2 w6 b0 (.slice A1 q.fs.length k1) (.slice A2 q.m.len k2)).setCell ⟨b0 + 1, 0, none⟩ (.int .i64 0)).setCell ⟨b0 + 1 + 1, 0, none⟩ (.int .i64 0)).heap[b0 + 1]? = some P1 := (Below.heap_setCell _ ⟨b0 + 1 + 1, 0, none⟩ _ _ (show b0 + 1 ≠ b0 + 1 + 1 by omega)).trans (set1_heap ((put2_block (show b0 + 1 ≠ b0 by omega)).trans Y1))
  have X2 : (((Proofs.YtppagjhmlgkamaaGreatDoor.put2 w6 b0 (.slice A1 q.fs.length k1) (.slice A2 q.m.len k2)).setCell ⟨b0 + 1, 0, none⟩ (.int .i64 0)).setCell ⟨b0 + 1 + 1, 0, none⟩ (.int .i64 0)).heap[b0 + 1 + 1]? = some P0 := set1_heap ((Below.heap_setCell _ ⟨b0 + 1, 0, none⟩ _ _ (show b0 + 1 + 1 ≠ b0 + 1 by omega)).trans ((put2_block (show b0 + 1 + 1 ≠ b0 by omega)).trans Y2))
  have G7 : Below b0 W (((Proofs.YtppagjhmlgkamaaGreatDoor.put2 w6 b0 (.slice A1 q.fs.length k1) (.slice A2 q.m.len k2)).setCell ⟨b0 + 1, 0, none⟩ (.int .i64 0)).setCell ⟨b0 + 1 + 1, 0, none⟩ (.int .i64 0)) :=
    ((((g3.trans (g6.below (by omega) (by omega))).setCell (p := ⟨b0, 0, none⟩) (Nat.le_refl _) _).setCell (p := ⟨b0, 1, none⟩) (Nat.le_refl _) _).setCell (p := ⟨b0 + 1, 0, none⟩) (by simp) _).setCell (p := ⟨b0 + 1 + 1, 0, none⟩) (by simp; omega) _
  have hK : Kp w3.heap.size w6 (((Proofs.YtppagjhmlgkamaaGreatDoor.put2 w6 b0 (.slice A1 q.fs.length k1) (.slice A2 q.m.len k2)).setCell ⟨b0 + 1, 0, none⟩ (.int .i64 0)).setCell ⟨b0 + 1 + 1, 0, none⟩ (.int .i64 0)) := ((Kp.put2 (by omega)).trans (Kp.set _ (by omega))).trans (Kp.set _ (by omega))
  obtain ⟨w7, hw7⟩ : ∃ w7, (((Proofs.YtppagjhmlgkamaaGreatDoor.put2 w6 b0 (.slice A1 q.fs.length k1) (.slice A2 q.m.len k2)).setCell ⟨b0 + 1, 0, none⟩ (.int .i64 0)).setCell ⟨b0 + 1 + 1, 0, none⟩ (.int .i64 0)) = w7 := ⟨_, rfl⟩
  show bodyPostD _ _ _ _ _ (((Proofs.YtppagjhmlgkamaaGreatDoor.put2 w6 b0 (.slice A1 q.fs.length k1) (.slice A2 q.m.len k2)).setCell ⟨b0 + 1, 0, none⟩ (.int .i64 0)).setCell ⟨b0 + 1 + 1, 0, none⟩ (.int .i64 0))
  rw [hw7] at X0 X1 X2 G7 hK ⊢
  clear hw7
  have hv : GV W.heap.size (w7.alloc (.cells #[.int .i64 0, .int .i64 0] 67)) (.agg #[.slice A1 q.fs.length k1, .slice A2 q.m.len k2]) q := ⟨_, _, rfl, (hf.kp hK (Nat.le_refl _)).kp (Kp.below ((Below.refl _ _).alloc (Nat.le_refl _) _)) (by omega), (hvm.kp hK (Nat.le_refl _)).kp (Kp.below ((Below.refl _ _).alloc (Nat.le_refl _) _)) (by omega)⟩
  have y0 := box_cell ((Below.heap_alloc w7 (.cells #[.int .i64 0, .int .i64 0] 67) b0 (lt_heap X0)).trans X0) 0
  have y1 := box_cell ((Below.heap_alloc w7 (.cells #[.int .i64 0, .int .i64 0] 67) b0 (lt_heap X0)).trans X0) 1
  have y2 := box_cell ((Below.heap_alloc w7 (.cells #[.int .i64 0, .int .i64 0] 67) (b0 + 1) (lt_heap X1)).trans X1) 0
  have y3 := box_cell ((Below.heap_alloc w7 (.cells #[.int .i64 0, .int .i64 0] 67) (b0 + 1 + 1) (lt_heap X2)).trans X2) 0
  simp only [List.getElem?_toArray, List.getElem?_cons_succ, List.getElem?_cons_zero] at y0 y1 y2 y3
  have G8 := G7.alloc (by rw [← hb0]; exact (by have := G7.size; omega)) (.cells #[.int .i64 0, .int .i64 0] 67)
  rw [hb0] at *
  refine leaves_cons (f := 29) (args := #[.pointer (some ⟨b0 + 1, 0, none⟩), .pointer (some ⟨b0 + 1 + 1, 0, none⟩)]) (by simp) (by simp [go_sem]) ?_
  refine (idle _ _ _).mono ?_
  rintro e u' w'' ⟨rfl, rfl, rfl⟩
  exact ⟨_, by simp [results, Tryz.results14, go_sem, y0, y1, y2, y3], G8, _, rfl, hv⟩

set_option maxRecDepth 100000 in
theorem parse_flt (A : Option Addr) (n cap : Nat) (l : List UInt8) (ts : List Tok) (p c : Nat) (W : World) (hn : l.length = n) (hl : n ≤ 65536) (hcap : n ≤ cap) (hr : Row W A l) (hok : lexS 0 l = .ok ts) (hp : progT (ts.length + 2) (fin ts n) = .bad p c) :
    Calls Tryz.prog 14 #[.slice A n cap] W fun e W' => Below W.heap.size W W' ∧ e = .returned (.tuple #[.agg #[.slice none 0 0, .slice none 0 0], .int .i64 p, .int .i64 c]) := by
  have hmf : ∀ (fn : Go.Fn) (first cap : Array Value) (w : World), (Instr.makeFunc fn first cap).run Tryz.prog w = .ok (.func fn first cap) w := fun _ _ _ _ => rfl
  obtain ⟨m, hm⟩ : ∃ m, ts.length + 1 = m := ⟨_, rfl⟩
  have hTok : TokOk (fin ts n) := hn ▸ tok_ok hok (by omega)
  have hTl : (fin ts n).length = m := by rw [fin_length, hm]
  have HL := Lib.hid (lex_ok A n cap m l ts _ hn hl hcap (hr.al P2 P1 P0) hok hm)
  have HP := Lib.hid (fun w g cT (b : Nat) (h : Rd w b g m cT (fin ts n) 0 0) => prog_any h (ts.length + 2) (.bad p c) hp (fun e => by cases e))
  clear hn hl hcap hr hok hp
  go_enter_defers Tryz.func14, Tryz.ntmps14
  go_upto_region 1 with fail
  have B0 := three0 W
  have B1 := three1 W
  have B2 := three2 W
  have g0 := three_below W
  have z0 := three_size W
  obtain ⟨w0, hw0⟩ : ∃ w0, ((W.alloc P2).alloc P1).alloc P0 = w0 := ⟨_, rfl⟩
  rw [hw0] at HL B0 B1 B2 g0 z0 ⊢
  clear hw0
  obtain ⟨b0, hb0⟩ : ∃ b0, W.heap.size = b0 := ⟨_, rfl⟩
  rw [hb0] at B0 B1 B2 g0 z0 ⊢
  have HB0 := Lib.hid (fun w1 (e1 : Below w0.heap.size w0 w1) => (e1.block b0 (by omega)).trans B0)
  have HB1 := Lib.hid (fun w1 (e1 : Below w0.heap.size w0 w1) => (e1.block (b0 + 1) (by omega)).trans B1)
  have HB2 := Lib.hid (fun w1 (e1 : Below w0.heap.size w0 w1) => (e1.block (b0 + 1 + 1) (by omega)).trans B2)
  go_upto_region 2 with (go_at_call 19; ((with_reducible refine HL.out.mono ?_); rintro e1 w1 ⟨g, c', rfl, hgs, hmc, htr, e1⟩; have c1 := box_cell (HB1.out w1 e1) 0; have f1 := box_frozen (HB1.out w1 e1) 0; have c2 := box_cell (HB2.out w1 e1) 0; have f2 := box_frozen (HB2.out w1 e1) 0; have c2' := (World.cell?_setCell_far w1 ⟨b0 + 1, 0, none⟩ ⟨b0 + 1 + 1, 0, none⟩ (.int .i64 0) (by simp)).trans c2; simp at c1 c2 c2'))
  have hb2 : ∀ k, k ≠ b0 + 1 → k ≠ b0 + 1 + 1 → ((w1.setCell ⟨b0 + 1, 0, none⟩ (.int .i64 0)).setCell ⟨b0 + 1 + 1, 0, none⟩ (.int .i64 0)).heap[k]? = w1.heap[k]? := fun k h1 h2 => (Below.heap_setCell _ ⟨b0 + 1 + 1, 0, none⟩ _ _ h2).trans (Below.heap_setCell _ ⟨b0 + 1, 0, none⟩ _ _ h1)
  have g2 : Below b0 W ((w1.setCell ⟨b0 + 1, 0, none⟩ (.int .i64 0)).setCell ⟨b0 + 1 + 1, 0, none⟩ (.int .i64 0)) := ((g0.trans (e1.mono (by omega))).setCell (p := ⟨b0 + 1, 0, none⟩) (by simp) _).setCell (p := ⟨b0 + 1 + 1, 0, none⟩) (by simp; omega) _
  have z2 : ((w1.setCell ⟨b0 + 1, 0, none⟩ (.int .i64 0)).setCell ⟨b0 + 1 + 1, 0, none⟩ (.int .i64 0)).heap.size = w1.heap.size := by simp
  have t2 : TokRow ((w1.setCell ⟨b0 + 1, 0, none⟩ (.int .i64 0)).setCell ⟨b0 + 1 + 1, 0, none⟩ (.int .i64 0)) g (fin ts n) := htr.same (by rw [z2]; exact Nat.le_refl _) (hb2 g (by omega) (by omega))
  have Z1 : ((w1.setCell ⟨b0 + 1, 0, none⟩ (.int .i64 0)).setCell ⟨b0 + 1 + 1, 0, none⟩ (.int .i64 0)).heap[b0 + 1]? = some P1 := (Below.heap_setCell _ ⟨b0 + 1 + 1, 0, none⟩ _ _ (by simp)).trans (set1_heap (HB1.out w1 e1))
  have Z2 : ((w1.setCell ⟨b0 + 1, 0, none⟩ (.int .i64 0)).setCell ⟨b0 + 1 + 1, 0, none⟩ (.int .i64 0)).heap[b0 + 1 + 1]? = some P0 := set1_heap ((Below.heap_setCell _ ⟨b0 + 1, 0, none⟩ _ _ (by simp)).trans (HB2.out w1 e1))
  have Z0 := (hb2 b0 (by omega) (by omega)).trans (HB0.out w1 e1)
  have zw1 := e1.size
  obtain ⟨w2, hw2⟩ : ∃ w2, (w1.setCell ⟨b0 + 1, 0, none⟩ (.int .i64 0)).setCell ⟨b0 + 1 + 1, 0, none⟩ (.int .i64 0) = w2 := ⟨_, rfl⟩
  rw [hw2] at g2 z2 t2 Z0 Z1 Z2 ⊢
  clear hw2 c1 c2 c2' f1 f2 HB0 HB1 HB2 B0 B1 B2 g0 hb2
  have q2 := box_cell Z2 0
  simp only [List.getElem?_toArray, List.getElem?_cons_zero] at q2
  go_upto_region 6 with fail
  have h3 := rd_new (c := c') t2 hTl hTok
  have e3 : Below w2.heap.size w2 (w2.alloc (TB g m c')) := (Below.refl _ _).alloc (Nat.le_refl _) _
  have Z0 := (e3.block b0 (by omega)).trans Z0
  have Z1 := (e3.block (b0 + 1) (by omega)).trans Z1
  have Z2 := (e3.block (b0 + 1 + 1) (by omega)).trans Z2
  have g3 := g2.trans (e3.mono (by omega))
  have z3 : (w2.alloc (TB g m c')).heap.size = w2.heap.size + 1 := by simp
  obtain ⟨w3, hw3⟩ : ∃ w3, w2.alloc (TB g m c') = w3 := ⟨_, rfl⟩
  rw [hw3] at h3 Z0 Z1 Z2 g3 z3 ⊢
  clear hw3 e3 q2 t2 g2 htr
  obtain ⟨n5, hn5⟩ : ∃ n5, w1.heap.size = n5 := ⟨_, rfl⟩
  rw [z2, hn5] at h3 z3
  rw [hn5] at zw1 ⊢
  have HBk := Lib.hid (fun w6 (g6 : Gr n5 w3 w6) k (hk : k ≤ b0 + 2) => g6.block (k := k) (by omega) (by omega))
  have HBP := Lib.hid (HP.out w3 g c' n5 h3)
  clear HP HL
  go_wp2_with (go_at_call 30; ((with_reducible refine HBP.out.mono ?_); rintro e2 w6 ⟨rfl, g6⟩))
  have Y0 := (HBk.out w6 g6 b0 (by omega)).trans Z0
  have Y1 := (HBk.out w6 g6 (b0 + 1) (by omega)).trans Z1
  have Y2 := (HBk.out w6 g6 (b0 + 1 + 1) (by omega)).trans Z2
  have G7 : Below b0 W w6 := g3.trans (g6.below (by omega) (by omega))
  have e7 : Below b0 w6 (((w6.alloc (.cells #[.int .i64 p, .int .i64 c] 67)).drew.setCell ⟨b0 + 1, 0, none⟩ (.int .i64 p)).setCell ⟨b0 + 1 + 1, 0, none⟩ (.int .i64 c)) :=
    ((below_drw ((Below.refl b0 w6).alloc (by have := G7.size; omega) (.cells #[.int .i64 p, .int .i64 c] 67))).setCell (p := ⟨b0 + 1, 0, none⟩) (by simp) _).setCell (p := ⟨b0 + 1 + 1, 0, none⟩) (by simp; omega) _
  have V0 : ((w6.alloc (.cells #[.int .i64 p, .int .i64 c] 67)).drew).heap[b0]? = some P2 := (Below.heap_alloc w6 (.cells #[.int .i64 p, .int .i64 c] 67) b0 (lt_heap Y0)).trans Y0
  have V1 : ((w6.alloc (.cells #[.int .i64 p, .int .i64 c] 67)).drew).heap[b0 + 1]? = some P1 := (Below.heap_alloc w6 (.cells #[.int .i64 p, .int .i64 c] 67) (b0 + 1) (lt_heap Y1)).trans Y1
  have V2 : ((w6.alloc (.cells #[.int .i64 p, .int .i64 c] 67)).drew).heap[b0 + 1 + 1]? = some P0 := (Below.heap_alloc w6 (.cells #[.int .i64 p, .int .i64 c] 67) (b0 + 1 + 1) (lt_heap Y2)).trans Y2
  have X0 : (((w6.alloc (.cells #[.int .i64 p, .int .i64 c] 67)).drew.setCell ⟨b0 + 1, 0, none⟩ (.int .i64 p)).setCell ⟨b0 + 1 + 1, 0, none⟩ (.int .i64 c)).heap[b0]? = some P2 := (Below.heap_setCell _ ⟨b0 + 1 + 1, 0, none⟩ _ _ (show b0 ≠ b0 + 1 + 1 by omega)).trans ((Below.heap_setCell _ ⟨b0 + 1, 0, none⟩ _ _ (show b0 ≠ b0 + 1 by omega)).trans V0)
  have X1 : (((w6.alloc (.cells #[.int .i64 p, .int .i64 c] 67)).drew.setCell ⟨b0 + 1, 0, none⟩ (.int .i64 p)).setCell ⟨b0 + 1 + 1, 0, none⟩ (.int .i64 c)).heap[b0 + 1]? = some (.cells #[.int .i64 p] 3) := (Below.heap_setCell _ ⟨b0 + 1 + 1, 0, none⟩ _ _ (show b0 + 1 ≠ b0 + 1 + 1 by omega)).trans (set1_heap V1)
  have X2 : (((w6.alloc (.cells #[.int .i64 p, .int .i64 c] 67)).drew.setCell ⟨b0 + 1, 0, none⟩ (.int .i64 p)).setCell ⟨b0 + 1 + 1, 0, none⟩ (.int .i64 c)).heap[b0 + 1 + 1]? = some (.cells #[.int .i64 c] 30) := set1_heap ((Below.heap_setCell _ ⟨b0 + 1, 0, none⟩ _ _ (show b0 + 1 + 1 ≠ b0 + 1 by omega)).trans V2)
  refine leaves_cons (f := 29) (args := #[.pointer (some ⟨b0 + 1, 0, none⟩), .pointer (some ⟨b0 + 1 + 1, 0, none⟩)]) (by simp) (by simp [go_sem]) ?_
  refine (caught (b0 + 1) (b0 + 1 + 1) 0 0 p c [] w6 Y1 Y2 (by omega)).mono ?_
  rintro e u' w'' ⟨rfl, rfl, rfl⟩
  have G8 := G7.trans e7
  obtain ⟨w8, hw8⟩ : ∃ w8, (((w6.alloc (.cells #[.int .i64 p, .int .i64 c] 67)).drew.setCell ⟨b0 + 1, 0, none⟩ (.int .i64 p)).setCell ⟨b0 + 1 + 1, 0, none⟩ (.int .i64 c)) = w8 := ⟨_, rfl⟩
  rw [hw8] at X0 X1 X2 G8 ⊢
  have y0 := box_cell X0 0
  have y1 := box_cell X0 1
  have y2 := box_cell X1 0
  have y3 := box_cell X2 0
  simp only [List.getElem?_toArray, List.getElem?_cons_succ, List.getElem?_cons_zero] at y0 y1 y2 y3
  rw [← hb0] at G8
  exact ⟨_, by simp [results, Tryz.results14, go_sem, y0, y1, y2, y3], G8, rfl⟩

/-- Parse, whole. -/
theorem parse_whole (A : Option Addr) (n cap : Nat) (l : List UInt8) (W : World) (hn : l.length = n) (hl : n ≤ 65536) (hcap : n ≤ cap) (hr : Row W A l) :
    Calls Tryz.prog 14 #[.slice A n cap] W (ParseOut l W) := by
  unfold ParseOut
  cases hx : lexS 0 l with
  | bad p =>
    have e : tl l = .bad p 2 := by unfold tl; rw [hx]
    rw [e]
    exact parse_err A n cap p 2 W (by decide) (lex_no A n cap l p _ hn hl hcap (hr.al P2 P1 P0) hx)
  | ok ts =>
    have e : tl l = progT (ts.length + 2) (fin ts n) := by unfold tl; rw [hx, hn]
    rw [e]
    cases hp : progT (ts.length + 2) (fin ts n) with
    | out => exact absurd (e.trans hp) (tl_ne l)
    | ok q r => exact parse_ok A n cap l ts q r W hn hl hcap hr hx hp
    | bad p c => exact parse_flt A n cap l ts p c W hn hl hcap hr hx hp
/-- Of too many bytes none is a program. -/
theorem parse_big (A : Option Addr) (n cap : Nat) (W : World) (hn : 65536 < (n : Int)) :
    Calls Tryz.prog 14 #[.slice A n cap] W fun e W' => Below W.heap.size W W' ∧ e = .returned (.tuple #[.agg #[.slice none 0 0, .slice none 0 0], .int .i64 (0 : Nat), .int .i64 (1 : Nat)]) :=
  parse_err A n cap 0 1 W (by decide) ((lex_big A n cap _ hn).mono fun e w' ⟨h1, h2⟩ => ⟨h1, h2 ▸ Below.refl _ _⟩)

end Go.Proofs.YtppagjhmlgkamaaGreatDoor

