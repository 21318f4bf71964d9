/-
  Tables that stay; Parse at known bytes; the statements' own 'shown' (layer 5): it tells true, and nothing of what was there has turned.
-/
import Derived.Test.YtppagjhmlgkamaaGreatDoorCz5
import Derived.Test.YtppagjhmlgkamaaGreatDoorCnXr
import Derived.Lib.SlBytesConst
namespace Go.Proofs.YtppagjhmlgkamaaGreatDoor
open Go Go.RowKit Go.Lib

/-- All listed variables that the statements' road reads. -/
structure TT (w : World) : Prop where
  tree : Tab w
  canon : CT w.heap.size w
theorem TT.step {w w' : World} (h : TT w) (hb : Below w.heap.size w w') : TT w' :=
  ⟨h.tree.below hb h.tree.1, ⟨Nat.le_trans h.canon.le hb.size, (h.canon.on hb).bet, fun w2 hb2 => (h.canon.tab.on hb) w2 (hb2.mono hb.size)⟩⟩

/-- What Parse tells, with a count of steps for the bytes too. -/
def tlF (l : List UInt8) : PR Pg :=
  match lexF l.length 0 l with
  | .bad p => .bad p 2
  | .ok ts => progT (ts.length + 2) (fin ts l.length)
theorem tl_eq (l : List UInt8) : tl l = tlF l := by
  unfold tl tlF
  rw [lexS_eq l.length 0 l (Nat.le_refl _)]
  all_goals (cases lexF l.length 0 l <;> rfl)
/-- What Parse tells of bytes of which it is known. -/
theorem p_ok {l : List UInt8} {q : Pg} {r : List Tok} (ht : tl l = .ok q r) (A : Option Addr) (n cap : Nat) (W : World) (hn : l.length = n) (hl : n ≤ 65536) (hcap : n ≤ cap) (hr : Row W A l) :
    Calls Tryz.prog 14 #[.slice A n cap] W fun e W' => (∃ v, e = .returned (.tuple #[v, .int .i64 0, .int .i64 0]) ∧ GV W.heap.size W' v q) ∧ Below W.heap.size W W' :=
  (parse_whole A n cap l W hn hl hcap hr).mono fun e W' h => by
    unfold ParseOut at h
    rw [ht] at h
    exact ⟨h.2, h.1⟩

def sx1 : List UInt8 := [102, 117, 110, 99, 32, 102, 40, 97, 44, 98, 41, 123, 105, 102, 32, 97, 123, 125, 101, 108, 115, 101, 123, 114, 101, 116, 117, 114, 110, 32, 45, 97, 59, 125, 125, 120, 61, 49, 43, 50, 42, 102, 40, 49, 44, 121, 91, 50, 93, 41, 59]
def sq1 : Pg := ⟨[⟨baT [102], [baT [97], baT [98]], .cons 7 (baT []) 0 (.cons 2 0 (baT [97]) .nil .nil) .nil (.cons 9 (baT []) 0 (.cons 6 0 (baT []) (.cons 2 0 (baT [97]) .nil .nil) .nil) .nil .nil .nil) .nil⟩],
    .cons 1 (baT [120]) 0 (.cons 8 0 (baT []) (.cons 1 1 (baT []) .nil (.cons 10 0 (baT []) (.cons 1 2 (baT []) .nil (.cons 5 0 (baT [102]) (.cons 1 1 (baT []) .nil (.cons 4 0 (baT [121]) (.cons 1 2 (baT []) .nil .nil) .nil)) .nil)) .nil)) .nil) .nil .nil .nil⟩
theorem sl1 : tl sx1 = .ok sq1 [⟨4, [], 51⟩] := (tl_eq _).trans (by kernel_rfl)
theorem sr1 (w : World) {fz : Nat × Nat} : Row (w.alloc (.cells #[.int .u8 102, .int .u8 117, .int .u8 110, .int .u8 99, .int .u8 32, .int .u8 102, .int .u8 40, .int .u8 97, .int .u8 44, .int .u8 98, .int .u8 41, .int .u8 123, .int .u8 105, .int .u8 102, .int .u8 32, .int .u8 97, .int .u8 123, .int .u8 125, .int .u8 101, .int .u8 108, .int .u8 115, .int .u8 101, .int .u8 123, .int .u8 114, .int .u8 101, .int .u8 116, .int .u8 117, .int .u8 114, .int .u8 110, .int .u8 32, .int .u8 45, .int .u8 97, .int .u8 59, .int .u8 125, .int .u8 125, .int .u8 120, .int .u8 61, .int .u8 49, .int .u8 43, .int .u8 50, .int .u8 42, .int .u8 102, .int .u8 40, .int .u8 49, .int .u8 44, .int .u8 121, .int .u8 91, .int .u8 50, .int .u8 93, .int .u8 41, .int .u8 59] 5 fz)) (some ⟨w.heap.size, 0, none⟩) sx1 := row_new w _ _ _ rfl
theorem st1 : textP sq1 = [102, 117, 110, 99, 32, 102, 40, 97, 44, 32, 98, 41, 32, 123, 10, 9, 105, 102, 32, 97, 32, 123, 10, 9, 125, 32, 101, 108, 115, 101, 32, 123, 10, 9, 9, 114, 101, 116, 117, 114, 110, 32, 45, 97, 59, 10, 9, 125, 10, 125, 10, 120, 32, 61, 32, 40, 49, 32, 43, 32, 40, 50, 32, 42, 32, 102, 40, 49, 44, 32, 121, 91, 50, 93, 41, 41, 41, 59, 10] := by kernel_rfl
def sqz : Pg := ⟨[], .cons 0 ⟨#[]⟩ 0 .nil .nil .nil .nil⟩
theorem st2 : textP sqz = [] := by kernel_rfl
theorem se1 : exprP 3 0 ⟨#[]⟩ .nil = [99, 108, 111, 99, 107] := by kernel_rfl
theorem se2 : exprP 0 0 ⟨#[]⟩ .nil = [] := by kernel_rfl

theorem text_zero (W : World) (ht : TT W) :
    Calls Tryz.prog 11 #[.agg #[.slice none 0 0, .slice (some ⟨W.heap.size, 0, none⟩) 1 1]] (W.alloc (.cells #[.int .i64 0, .string ⟨#[]⟩, .int .i64 0, .slice none 0 0, .slice none 0 0, .slice none 0 0] 41))
      fun e w' => e = .returned (.string ⟨#[]⟩) ∧ Below W.heap.size W w' := by
  have hg := heap_alloc_new W (.cells #[.int .i64 0, .string ⟨#[]⟩, .int .i64 0, .slice none 0 0, .slice none 0 0, .slice none 0 0] 41)
  have hb : Below W.heap.size W (W.alloc (.cells #[.int .i64 0, .string ⟨#[]⟩, .int .i64 0, .slice none 0 0, .slice none 0 0, .slice none 0 0] 41)) := (Below.refl _ _).alloc (Nat.le_refl _) _
  obtain ⟨w1, hw1⟩ : ∃ w1, W.alloc (.cells #[.int .i64 0, .string ⟨#[]⟩, .int .i64 0, .slice none 0 0, .slice none 0 0, .slice none 0 0] 41) = w1 := ⟨_, rfl⟩
  have hz1 : w1.heap.size = W.heap.size + 1 := by rw [← hw1]; simp
  rw [hw1] at hg hb ⊢
  have T := ht.step hb
  have hS := sv_one' hg w1.heap.size (by omega) (ev_nil' _ _) (sv_nil' _ _) (sv_nil' _ _) ⟨⟨by decide, by decide⟩, ⟨by decide, by decide⟩, by decide⟩ (Nat.le_refl 1) (by decide)
  have q := text_any_p sqz _ w1 w1.heap.size (Nat.le_refl _) ⟨none, 0, _, _, rfl, fv_nil' _ _, hS⟩ T.tree T.canon (by decide +kernel)
  rw [st2] at q
  refine q.mono ?_
  rintro e w' ⟨rfl, h⟩
  exact ⟨rfl, hb.trans (h.mono (by omega))⟩
theorem expr_lit (op : Int) (X : List UInt8) (hX : exprP op 0 ⟨#[]⟩ .nil = X) (hi : I64 op) (W : World) (ht : TT W) :
    Calls Tryz.prog 16 #[.agg #[.int .i64 op, .int .i64 0, .string ⟨#[]⟩, .slice none 0 0]] W fun e w' => e = .returned (.string ⟨X.toArray⟩) ∧ Below W.heap.size W w' := by
  have q := expr_any_p op 0 ⟨#[]⟩ .nil _ W W.heap.size (Nat.le_refl _) (ev_nil' _ _) ⟨hi, ⟨by decide, by decide⟩, by decide⟩ ht.tree ht.canon (by decide)
  rw [hX] at q
  exact q

set_option maxRecDepth 100000 in
set_option maxHeartbeats 4000000 in
theorem shown5_fr (w : World) (ht : TT w) :
    Calls Tryz.prog 10 #[] w fun e w' => e = .returned (.bool true) ∧ Below w.heap.size w w' := by
  have kc := fun (w : World) (C : Array Value) (n c : Nat) => Lib.run_convert_bytes_const (P := Tryz.prog) w 29 5 C n c Tryz.underlying29 Tryz.underlying5
  go_enter Tryz.func10, Tryz.ntmps10
  go_upto_region 2 with (go_at_call 14; ((with_reducible refine (p_ok sl1 _ 51 _ _ rfl (by decide) (by decide) (sr1 _)).mono ?_); rintro e w1 ⟨⟨v1, rfl, hv1⟩, hb1⟩; obtain ⟨A1, c1, A2, c2, rfl, hvf, hvm⟩ := hv1.pgv))
  have P : PgV w1.heap.size w1 _ sq1 := ⟨A1, c1, A2, c2, rfl, hvf, hvm⟩
  have hbw : Below w.heap.size w w1 := ((Below.refl _ _).alloc (Nat.le_refl _) _).trans (hb1.mono (by simp))
  obtain ⟨n1, hn1⟩ : ∃ n1, sq1.fs.length = n1 := ⟨_, rfl⟩
  obtain ⟨n2, hn2⟩ : ∃ n2, sq1.m.len = n2 := ⟨_, rfl⟩
  rw [hn1, hn2] at P ⊢
  obtain ⟨C, hC⟩ : ∃ C : Obj, Obj.cells #[.slice A1 n1 c1, .slice A2 n2 c2] 25 = C := ⟨_, rfl⟩
  have hbC : Below w1.heap.size w1 (w1.alloc C) := (Below.refl _ _).alloc (Nat.le_refl _) _
  have hb2 : Below w.heap.size w (w1.alloc C) := hbw.trans (hbC.mono hbw.size)
  have T1 := ht.step hb2
  have q1 := text_any_p sq1 _ (w1.alloc C) w1.heap.size hbC.size (P.below hbC (Nat.le_refl _)) T1.tree T1.canon (by decide +kernel)
  rw [st1] at q1
  have hg2 : (w1.alloc C).heap[w1.heap.size]? = some (.cells #[.slice A1 n1 c1, .slice A2 n2 c2] 25 (0, 0)) := by rw [hC]; exact heap_alloc_new w1 _
  have d0 := cells_at hg2 0 rfl
  have d1 := cells_at hg2 1 rfl
  have HT := hid (fun W (hb : Below (w1.alloc C).heap.size (w1.alloc C) W) => T1.step hb)
  clear hv1 hvf hvm P hbC hb1 hg2 hn1 hn2
  obtain ⟨u1, hu1⟩ : ∃ u1, w1.alloc C = u1 := ⟨_, rfl⟩
  rw [hC, hu1]
  rw [hu1] at q1 d0 d1 HT hb2
  clear hC hu1
  have HE1 := hid (expr_lit 3 _ se1 ⟨by decide, by decide⟩)
  have HE2 := hid (expr_lit 0 _ se2 ⟨by decide, by decide⟩)
  have HZ := hid text_zero
  go_wp2_with (first
    | (go_at_call 11; ((with_reducible refine q1.mono ?_); clear q1; rintro e w2 ⟨rfl, h2⟩; have q2 := HZ.out w2 (HT.out w2 h2)))
    | (go_at_call 11; ((with_reducible refine q2.mono ?_); clear q2; rintro e w3 ⟨rfl, h3⟩; have h3' := h2.trans (h3.mono h2.size); have q3 := HE1.out w3 (HT.out w3 h3')))
    | (go_at_call 16; ((with_reducible refine q3.mono ?_); clear q3; rintro e w4 ⟨rfl, h4⟩; have h4' := h3'.trans (h4.mono h3'.size); have q4 := HE2.out w4 (HT.out w4 h4')))
    | (go_at_call 16; ((with_reducible refine q4.mono ?_); clear q4; rintro e w5 ⟨rfl, h5⟩; have h5' := h4'.trans (h5.mono h4'.size))))
  go_ret
  exact ⟨rfl, hb2.trans (h5'.mono hb2.size)⟩

end Go.Proofs.YtppagjhmlgkamaaGreatDoor
