/-
  LabelParts, walked.
-/
import Derived.Test.YthfcnnicpmkclaaLbU
namespace Go.Proofs.Ythfcnnicpmkclaa
open Go Go.RowKit Go.Lib

theorem and_16 (n : Int) : ∃ N : Nat, bits BinOp.and IntKind.i64 n 65535 = (N : Int) ∧ N ≤ 65535 := by
  refine ⟨(BitVec.ofInt 64 n &&& BitVec.ofInt 64 65535).toNat, ?_, ?_⟩
  · show IntKind.i64.wrap ((BitVec.ofInt 64 n &&& BitVec.ofInt 64 65535).toNat : Int) = _
    have : (BitVec.ofInt 64 n &&& BitVec.ofInt 64 65535).toNat ≤ 65535 := by
      rw [BitVec.toNat_and]; exact Nat.and_le_right
    exact IntWalk.i64_in _ (by omega)
  · rw [BitVec.toNat_and]; exact Nat.and_le_right
theorem wrap_def (x : Int) : wrap64 x = (x + 9223372036854775808) % 18446744073709551616 - 9223372036854775808 := by unfold wrap64; rfl
theorem op_of (n : Int) : ∃ K : Nat, wrap64 (8 + (bits BinOp.and IntKind.i64 n 65535).tmod 9) = (K : Int) ∧ 8 ≤ K ∧ K ≤ 16 := by
  obtain ⟨N, hN, hN2⟩ := and_16 n
  refine ⟨8 + N % 9, ?_, by omega, by omega⟩
  rw [hN, show ((N : Int).tmod 9) = ((N % 9 : Nat) : Int) from rfl]
  rw [wrap_def]
  omega

theorem ev_two' {W : World} {b : Nat} {op n op' n' : Int} {s s' : ByteArray} {v v' : Value} {l l' : ES} {t : TypeId} (h : W.heap[b]? = some (.cells #[.int .i64 op, .int .i64 n, .string s, v, .int .i64 op', .int .i64 n', .string s', v'] t)) (hv : EV W.heap.size W v l) (ho : okE op n s) (hv' : EV W.heap.size W v' l') (ho' : okE op' n' s') :
    EV W.heap.size W (.slice (some ⟨b, 0, none⟩) 2 2) (.cons op n s l (.cons op' n' s' l' .nil)) ∧ EV W.heap.size W (.slice (some ⟨b, 0, none⟩) 1 2) (.cons op n s l .nil) :=
  ⟨ev_two h hv ho hv' ho', _, _, rfl, by show 1 ≤ 2; decide, by decide, fun _ => ⟨b, 0, rfl, lt_heap h, (box_cell h 0).trans rfl, (box_cell h 1).trans rfl, (box_cell h 2).trans rfl, ⟨v, (box_cell h 3).trans rfl, hv⟩, ho, trivial⟩⟩
theorem sec_two (op n op' n' : Int) (s s' : ByteArray) (l l' : ES) : (ES.cons op n s l (.cons op' n' s' l' .nil)).sec = (secB op s l.sec || secB op' s' l'.sec) := by
  rw [ES.sec_cons, ES.sec_cons]; simp [ES.sec, ES.secs]
theorem sec_one (op n : Int) (s : ByteArray) (l : ES) : (ES.cons op n s l .nil).sec = secB op s l.sec := by
  rw [ES.sec_cons]; simp [ES.sec, ES.secs]

set_option maxRecDepth 100000 in
set_option maxHeartbeats 4000000 in
theorem parts_walk (va vb : Value) (op1 n1 op2 n2 : Int) (s1 s2 : ByteArray) (l1 l2 : ES) (op : Int) (s : ByteArray) (w : World) (ha : EsV w.heap.size w va op1 n1 s1 l1) (hb : EsV w.heap.size w vb op2 n2 s2 l2) (hs : s.size ≤ 9223372036854775807) :
    Calls Try.prog 7 #[va, vb, .int .i64 op, .string s] w fun e w' => e = .returned (.bool true) ∧ Fr w w' := by
  obtain ⟨va', rfl, ha1, ha2⟩ := ha
  obtain ⟨vb', rfl, hb1, hb2⟩ := hb
  obtain ⟨A1, c1, rfl, _⟩ := id ha1
  obtain ⟨A2, c2, rfl, _⟩ := id hb1
  obtain ⟨K, hK, hK1, hK2⟩ := op_of op
  have HK := Lib.hid hK; clear hK
  have HS := Lib.hid shown_fr
  have hA : ∀ o o', Fr w ((w.alloc o).alloc o') := fun o o' => (Fr.alloc (Fr.refl w) o).alloc o'
  have HA := Lib.hid hA; clear hA
  go_enter Try.func7, Try.ntmps7
  go_upto_region 3 with (go_at_call 10; ((with_reducible refine (HS.out _).mono ?_); rintro e w1 ⟨rfl, hf1⟩))
  have q0 := (hf1.block w.heap.size (by simp only [World.size_alloc]; omega)).trans (old_at (heap_alloc_new w _))
  have q1 := (hf1.block (w.heap.size + 1) (by simp only [World.size_alloc]; omega)).trans (by have := heap_alloc_new (w.alloc (.cells #[.int .i64 op1, .int .i64 n1, .string s1, .slice A1 l1.len c1] 28)) (.cells #[.int .i64 op2, .int .i64 n2, .string s2, .slice A2 l2.len c2] 28); simpa only [World.size_alloc] using this)
  have f1 : Fr w w1 := (HA.out _ _).step hf1
  rw [HK.out]
  have e1 := ha1.below f1 f1.size
  have e2 := hb1.below f1 f1.size
  clear hf1 HA HS HK
  obtain ⟨x0, x1, x2, x3⟩ := box4 q0
  obtain ⟨y0, y1, y2, y3⟩ := box4 q1
  have hl0 := lt_heap q0
  have hl1 := lt_heap q1
  go_upto_region 4 with fail
  have hN := heap_alloc_new w1 (.cells #[.int .i64 op1, .int .i64 n1, .string s1, .slice A1 l1.len c1, .int .i64 op2, .int .i64 n2, .string s2, .slice A2 l2.len c2] 28)
  have r0 := old_at (o' := .cells #[.int .i64 op1, .int .i64 n1, .string s1, .slice A1 l1.len c1, .int .i64 op2, .int .i64 n2, .string s2, .slice A2 l2.len c2] 28) q0
  have r1 := old_at (o' := .cells #[.int .i64 op1, .int .i64 n1, .string s1, .slice A1 l1.len c1, .int .i64 op2, .int .i64 n2, .string s2, .slice A2 l2.len c2] 28) q1
  have hbW : Below w1.heap.size w1 (w1.alloc (.cells #[.int .i64 op1, .int .i64 n1, .string s1, .slice A1 l1.len c1, .int .i64 op2, .int .i64 n2, .string s2, .slice A2 l2.len c2] 28)) := (Below.refl _ _).alloc (Nat.le_refl _) _
  obtain ⟨W, hW⟩ : ∃ W, w1.alloc (.cells #[.int .i64 op1, .int .i64 n1, .string s1, .slice A1 l1.len c1, .int .i64 op2, .int .i64 n2, .string s2, .slice A2 l2.len c2] 28) = W := ⟨_, rfl⟩
  rw [hW] at hN r0 r1 hbW ⊢
  clear hW q0 q1 x0 x1 x2 x3 y0 y1 y2 y3 hl0 hl1
  obtain ⟨g, hg⟩ : ∃ g, w1.heap.size = g := ⟨_, rfl⟩
  have e1' := e1.below hbW hbW.size
  have e2' := e2.below hbW hbW.size
  have fW := f1.step hbW
  rw [hg] at hN ⊢
  clear hbW e1 e2 f1 hg
  obtain ⟨ev2, ev1⟩ := ev_two' hN e1' ha2 e2' hb2
  obtain ⟨x, hx⟩ : ∃ x, secB op1 s1 l1.sec = x := ⟨_, rfl⟩
  obtain ⟨y, hy⟩ : ∃ y, secB op2 s2 l2.sec = y := ⟨_, rfl⟩
  have O1 := Lib.hid (fun wx (h : Below W.heap.size W wx) => of_any K 0 no _ _ W.heap.size wx (ev2.below h (Nat.le_refl _)) h.size (by decide))
  have O2 := Lib.hid (fun wx (h : Below W.heap.size W wx) => of_any 6 0 no _ _ W.heap.size wx (ev1.below h (Nat.le_refl _)) h.size (by decide))
  have O3 := Lib.hid (fun wx (h : Below W.heap.size W wx) => of_any 5 0 s _ _ W.heap.size wx (ev2.below h (Nat.le_refl _)) h.size hs)
  have O4 := Lib.hid (fun wx (h : Below W.heap.size W wx) => of_any 4 0 s _ _ W.heap.size wx (ev1.below h (Nat.le_refl _)) h.size hs)
  have O5 := Lib.hid (fun wx (h : Below W.heap.size W wx) => of_any op1 n1 s1 _ _ W.heap.size wx (e1'.below h (Nat.le_refl _)) h.size ha2.2.2)
  have O6 := Lib.hid (fun wx (h : Below W.heap.size W wx) => of_any op2 n2 s2 _ _ W.heap.size wx (e2'.below h (Nat.le_refl _)) h.size hb2.2.2)
  have k2 : ¬ (K : Int) = 5 := by omega
  have k3 : ¬ ((K : Int) = 2 ∨ (K : Int) = 4) := by omega
  rw [sec_two, hx, hy, secB, if_neg k2, if_neg k3] at O1
  rw [sec_one, hx, secB, if_neg (by decide), if_neg (by decide)] at O2
  rw [secB, if_pos rfl] at O3
  rw [sec_one, hx, secB, if_neg (by decide), if_pos (by decide)] at O4
  rw [hx] at O5
  rw [hy] at O6
  clear hx hy ev2 ev1 e1' e2' k2 k3 ha1 hb1
  obtain ⟨x0, x1, x2, x3⟩ := box4 r0
  obtain ⟨y0, y1, y2, y3⟩ := box4 r1
  have R0 := Lib.hid r0
  have R1 := Lib.hid r1
  clear r0 r1
  go_upto_region 10 with (first
    | (go_at_call 13; ((with_reducible refine (O1.out _ (Below.refl _ _)).mono ?_); rintro e w2 ⟨rfl, hb2⟩; have b2 := Lib.hid hb2; clear hb2))
    | (go_at_call 13; ((with_reducible refine (O2.out _ b2.out).mono ?_); rintro e w3 ⟨rfl, hb3⟩; have b3 := Lib.hid (b2.out.trans (hb3.mono b2.out.size)); clear hb3))
    | (go_at_call 13; ((with_reducible refine (O3.out _ b3.out).mono ?_); rintro e w4 ⟨rfl, hb4⟩; have b4 := Lib.hid (b3.out.trans (hb4.mono b3.out.size)); clear hb4))
    | (go_at_call 13; ((with_reducible refine (O4.out _ b4.out).mono ?_); rintro e w5 ⟨rfl, hb5⟩; have b5 := Lib.hid (b4.out.trans (hb5.mono b4.out.size)); clear hb5; obtain ⟨x0, x1, x2, x3⟩ := box4 ((b5.out.block _ (lt_heap R0.out)).trans R0.out)))
    | (go_at_call 13; ((with_reducible refine (O5.out _ b5.out).mono ?_); rintro e w6 ⟨rfl, hb6⟩; have b6 := Lib.hid (b5.out.trans (hb6.mono b5.out.size)); clear hb6; obtain ⟨y0, y1, y2, y3⟩ := box4 ((b6.out.block _ (lt_heap R1.out)).trans R1.out)))
    | (go_at_call 13; ((with_reducible refine (O6.out _ b6.out).mono ?_); rintro e w7 ⟨rfl, hb7⟩; have b7 := Lib.hid (b6.out.trans (hb7.mono b6.out.size)); clear hb7)))
  have f7 := fW.step b7.out
  clear O1 O2 O3 O4 O5 O6 b2 b3 b4 b5 b6 b7 R0 R1 x0 x1 x2 x3 y0 y1 y2 y3 fW hN ha2 hb2 hK1 hK2
  go_cut [17] (fun v wx => v = .bool (greatB s) ∧ wx = w7)
  case first =>
    by_cases h : 0 < s.size
    · have h1 := size_ne h
      have H1 := Lib.hid (show s.toList.isEmpty = false by simpa using h1)
      have h2 := great_at h
      have HG := Lib.hid h2; clear h2
      go_wp2_with fail
      all_goals
        go_meet
        refine ⟨congrArg Value.bool ?_, rfl⟩
        rw [HG.out, Bool.eq_iff_iff]
        simp only [H1.out, Bool.not_false, Bool.true_and, Bool.and_eq_true, decide_eq_true_eq, Bool.false_eq_true, false_iff]
        first | omega | exact absurd ‹s.toList = []› h1
    · obtain rfl := size_nil (by omega : s.size = 0)
      go_wp2_with fail
      go_meet
      exact ⟨rfl, rfl⟩
  case rest =>
    obtain ⟨rfl, rfl⟩ := hcut
    obtain ⟨gr, hgr⟩ : ∃ gr, greatB s = gr := ⟨_, rfl⟩
    rw [hgr]
    clear hgr
    have F7 := Lib.hid f7
    clear f7
    cases x
    all_goals
      cases y
      all_goals
        cases gr
        all_goals
          go_wp2
          go_ret
          exact ⟨rfl, F7.out⟩
/-- As the row hands it. -/
theorem parts_row (va : Value) (op1 n1 : Int) (s1 : ByteArray) (l1 : ES) (w : World) (ha : EsV w.heap.size w va op1 n1 s1 l1) (vb : Value) (op2 n2 : Int) (s2 : ByteArray) (l2 : ES) (hb : EsV w.heap.size w vb op2 n2 s2 l2) (op : Int) (s : ByteArray) (hs : s.size ≤ 9223372036854775807) :
    Calls Try.prog 7 #[va, vb, .int .i64 op, .string s] w fun e w' => e = .returned (.bool true) ∧ Fr w w' := parts_walk va vb op1 n1 op2 n2 s1 s2 l1 l2 op s w ha hb hs
end Go.Proofs.Ythfcnnicpmkclaa
