/-
  LabelReturns, walked.
-/
import Derived.Test.YthfcnnicpmkclaaLbM
import Derived.Test.YthfcnnicpmkclaaLbU
import Derived.Test.YthfcnnicpmkclaaReg
namespace Go.Proofs.Ythfcnnicpmkclaa
open Go Go.RowKit Go.Lib

/-- A statement over one expression that tells nothing by itself. -/
abbrev over (k : Int) (s0 : ByteArray) (op n : Int) (s : ByteArray) (l : ES) : SS := .cons k s0 0 (.cons op n s l .nil) .nil .nil .nil
theorem over_tells (fs : List Fn) (pub : Bool) (k : Int) (s0 : ByteArray) (op n : Int) (s : ByteArray) (l : ES) (d : Nat) : (over k s0 (plOp op) n s (l.pl d)).tells fs pub = ownS pub k s0 [secB (plOp op) s (l.pl d).sec] := by
  simp only [SS.tells, ES.tells, ES.pl_tells, plOp_own, ES.secs, Bool.or_false, Bool.false_or]
  rfl
theorem over_thin {k : Int} {s0 s : ByteArray} {op n : Int} {l : ES} {d : Nat} (h0 : s0.size ≤ 140737488351232) (hs : s.size ≤ 140737488351232) (hl : l.len * 56 ≤ 140737488351232) (ht : l.thin) : (over k s0 op n s (l.pl d)).thin :=
  ⟨⟨h0, by simp [ES.len], by simp [SS.len], by simp [SS.len]⟩, ⟨⟨hs, by have := ES.pl_len l d; omega⟩, ES.pl_thin l d ht, trivial⟩, trivial, trivial, trivial⟩
abbrev fnO (s : ByteArray) (g : Nat) : Obj := .cells #[.string s, .slice none 0 0, .slice (some ⟨g, 0, none⟩) 1 1] 38
theorem ret_fn (W wx : World) (h : Below W.heap.size W wx) (s : ByteArray) (g : Nat) (b : SS) (hb : b.len = 1) (hg : SV W.heap.size W (.slice (some ⟨g, 0, none⟩) 1 1) b) (hs : s.size ≤ 140737488351232) (ht : b.thin) (n : Int) (hn : errOf (Pg.tells ⟨[⟨s, [], b⟩], .nil⟩) = n) :
    Calls Try.prog 11 #[.agg #[.slice (some ⟨wx.heap.size, 0, none⟩) 1 1, .slice none 0 0]] (wx.alloc (fnO s g)) fun e w' => e = .returned (.int .i64 n) ∧ Below wx.heap.size wx w' := by
  have hw : Below wx.heap.size wx (wx.alloc (fnO s g)) := (Below.refl _ _).alloc (Nat.le_refl _) _
  have hW : Below W.heap.size W (wx.alloc (fnO s g)) := h.trans (hw.mono h.size)
  subst hn
  exact (check_in _ ⟨[⟨s, [], b⟩], .nil⟩ _ _ _ (Below.refl _ _) (Nat.le_refl _) (pg_v rfl rfl (fv_one (f := ⟨s, [], b⟩) (heap_alloc_new wx (fnO s g)) ⟨none, 0, rfl, Nat.le_refl _, by decide, fun h => absurd h (Nat.lt_irrefl 0)⟩ (SV.below hg hW hW.size) (by show s.size ≤ _; omega)) (sv_nil _ _))
    (fun f hf => by rw [List.mem_singleton.1 hf]; exact ⟨hs, by simp, by simp, by show b.len * 104 ≤ _; omega, ht⟩) trivial).mono fun e w' hq => ⟨hq.1, hw.trans (hq.2.mono hw.size)⟩
theorem ret_main (W wx : World) (h : Below W.heap.size W wx) (g : Nat) (b : SS) (hb : b.len = 1) (hg : SV W.heap.size W (.slice (some ⟨g, 0, none⟩) 1 1) b) (ht : b.thin) (n : Int) (hn : errOf (b.tells [] true) = n) :
    Calls Try.prog 11 #[.agg #[.slice none 0 0, .slice (some ⟨g, 0, none⟩) 1 1]] wx fun e w' => e = .returned (.int .i64 n) ∧ Below wx.heap.size wx w' := by
  subst hn
  exact (check_in _ ⟨[], b⟩ _ _ _ (Below.refl _ _) (Nat.le_refl _) (pg_v rfl hb (fv_nil _ _) (SV.below hg h h.size)) (fun f hf => by cases hf) ht).mono fun e w' hq => ⟨by rw [hq.1, Pg.tells]; simp [fsTell], hq.2⟩

theorem plain_60 (op n : Int) (s : ByteArray) (v : Value) (l : ES) (w : World) (hv : EV w.heap.size w v l) (hl : l.len * 56 ≤ 140737488351232) (ht : l.thin) (ho : okE op n s) :
    Calls Try.prog 17 #[.agg #[.int .i64 op, .int .i64 n, .string s, v], .int .i64 60] w fun e w' => (∃ v', e = .returned (.agg #[.int .i64 (plOp op), .int .i64 n, .string s, v']) ∧ (∃ A k c, v' = .slice A k c) ∧ Rob w.heap.size none w' v' (l.pl 60)) ∧ Below w.heap.size w w' :=
  plain_all (l.cnt + 1) op n s v l 60 w (Nat.lt_succ_self _) hv hl ht ho (by decide)
/-- What is put into a box that was there before it was made. -/
theorem put_box {w w1 w2 : World} {o2 n2 op n : Int} {s2 s : ByteArray} {v2 v : Value} {l : ES} (b1 : w2.heap[w.heap.size]? = some (exO o2 n2 s2 v2)) (hlt : w.heap.size < w1.heap.size) (hr : Rob w1.heap.size none w2 v l) (hlow : Below w.heap.size w w2) (W : World)
    (hW : (((w2.setCell ⟨w.heap.size, 0, none⟩ (.int .i64 op)).setCell ⟨w.heap.size, 1, none⟩ (.int .i64 n)).setCell ⟨w.heap.size, 2, none⟩ (.string s)).setCell ⟨w.heap.size, 3, none⟩ v = W) :
    W.heap[w.heap.size]? = some (exO op n s v) ∧ EV W.heap.size W v l ∧ Below w.heap.size w W := by
  have hz : W.heap.size = w2.heap.size := by rw [← hW]; simp
  have hb : ∀ b, w1.heap.size ≤ b → W.heap[b]? = w2.heap[b]? := fun b h => by
    rw [← hW]
    exact (Below.heap_setCell _ _ _ _ (by simp only; omega)).trans ((Below.heap_setCell _ _ _ _ (by simp only; omega)).trans ((Below.heap_setCell _ _ _ _ (by simp only; omega)).trans (Below.heap_setCell _ _ _ _ (by simp only; omega))))
  refine ⟨by rw [← hW]; exact (heap_set ((heap_set ((heap_set ((heap_set b1 0 _).trans rfl) 1 _).trans rfl) 2 _).trans rfl) 3 _).trans rfl, hr W (by rw [hz]; exact Nat.le_refl _) (fun b h _ _ => hb b h), ?_⟩
  rw [← hW]
  exact (((hlow.setCell (p := ⟨w.heap.size, 0, none⟩) (Nat.le_refl _) _).setCell (p := ⟨w.heap.size, 1, none⟩) (Nat.le_refl _) _).setCell (p := ⟨w.heap.size, 2, none⟩) (Nat.le_refl _) _).setCell (p := ⟨w.heap.size, 3, none⟩) (Nat.le_refl _) _

set_option maxRecDepth 100000 in
set_option maxHeartbeats 8000000 in
theorem returns_walk (s : ByteArray) (hs : s.size ≤ 140737488351232) (v : Value) (op n : Int) (nm : ByteArray) (l : ES) (w : World) (hv : EsV w.heap.size w v op n nm l) (hz : nm.size ≤ 140737488351232 ∧ l.len * 56 ≤ 140737488351232) (ht : l.thin) :
    Calls Try.prog 9 #[.string s, v] w fun e w' => e = .returned (.bool true) ∧ Fr w w' := by
  have hmx : Try.prog.follows .mixedOrders = true := by kernel_rfl
  obtain ⟨vl, rfl, he, ho⟩ := hv
  have HS := Lib.hid shown_fr
  have HE := Lib.hid he
  have HO := Lib.hid (show okE op n nm from ho)
  obtain ⟨A, cap, rfl, hcap⟩ := id he
  have hop := ho.1
  have hnn := ho.2.1
  clear he hcap ho
  obtain ⟨len, hlen⟩ : ∃ len, l.len = len := ⟨_, rfl⟩
  rw [hlen] at HE ⊢
  clear hlen
  have HT := Lib.hid ht
  have HZ := Lib.hid hz
  have HSS := Lib.hid hs
  have hs2 : s.size ≤ 9223372036854775807 := by omega
  clear ht hz hs
  go_enter Try.func9, Try.ntmps9
  go_upto_region 2 with (go_at_call 10; ((with_reducible refine (HS.out _).mono ?_); rintro e w1 ⟨rfl, hf1⟩))
  have q0 := (hf1.block w.heap.size (by simp only [World.size_alloc]; omega)).trans (heap_alloc_new w _)
  have f1 : Below w.heap.size w w1 := Fr.step ((Below.refl w.heap.size w).alloc (Nat.le_refl _) _) hf1
  have HP := Lib.hid (plain_60 op n nm (.slice A len cap) l w1 (EV.below HE.out f1 f1.size) HZ.out.2 HT.out HO.out)
  have HF1 := Lib.hid f1
  obtain ⟨x0, x1, x2, x3⟩ := box4 q0
  have Q0 := Lib.hid q0
  have hl0 := lt_heap q0
  clear q0 f1 hf1
  go_upto_region 3 with (go_at_call 17; ((refine HP.out.mono ?_); rintro e w2 ⟨⟨v2, rfl, ⟨A2, k2, c2, rfl⟩, hrob⟩, hb2⟩; have q2 := (hb2.block _ hl0).trans Q0.out; obtain ⟨y0, y1, y2, y3⟩ := box4 q2; have g0 := box_frozen q2 0; have g1 := box_frozen q2 1; have g2 := box_frozen q2 2; have g3 := box_frozen q2 3; have hl2 := lt_heap q2))
  obtain ⟨W3, hW3⟩ : ∃ W, (((w2.setCell ⟨w.heap.size, 0, none⟩ (.int .i64 (plOp op))).setCell ⟨w.heap.size, 1, none⟩ (.int .i64 n)).setCell ⟨w.heap.size, 2, none⟩ (.string nm)).setCell ⟨w.heap.size, 3, none⟩ (.slice A2 k2 c2) = W := ⟨_, rfl⟩
  obtain ⟨r0, r1, r2⟩ := put_box q2 hl0 hrob (HF1.out.trans (hb2.mono HF1.out.size)) W3 hW3
  rw [hW3]
  clear hW3 q2 hrob hb2 x0 x1 x2 x3 y0 y1 y2 y3 g0 g1 g2 g3 hl2 hl0
  obtain ⟨z0, z1, z2, z3⟩ := box4 r0
  have hl3 := lt_heap r0
  have R0 := Lib.hid r0
  have R1 := Lib.hid r1
  have R2 := Lib.hid r2
  clear r0 r1 r2
  go_upto_region 4 with fail
  obtain ⟨W4, hW4⟩ : ∃ W, (W3.alloc (exO (plOp op) n nm (.slice A2 k2 c2))).alloc (stmtO 9 no W3.heap.size) = W := ⟨_, rfl⟩
  have m0 : W4.heap[W3.heap.size]? = some (exO (plOp op) n nm (.slice A2 k2 c2)) := by rw [← hW4]; exact old_at (heap_alloc_new W3 _)
  have m1 : W4.heap[W3.heap.size + 1]? = some (stmtO 9 no W3.heap.size) := by rw [← hW4]; exact new2 _ _ _
  have m2 : W4.heap[w.heap.size]? = some (exO (plOp op) n nm (.slice A2 k2 c2)) := by rw [← hW4]; exact old_at (old_at R0.out)
  have mb : Below W3.heap.size W3 W4 := by rw [← hW4]; exact ((Below.refl _ _).alloc (Nat.le_refl _) _).alloc (by simp) _
  rw [hW4]
  clear hW4 z0 z1 z2 z3 hl3
  have e4 : EV W4.heap.size W4 (.slice A2 k2 c2) (l.pl 60) := EV.below R1.out mb mb.size
  have f4 : Below w.heap.size w W4 := R2.out.trans (mb.mono R2.out.size)
  have okp := plOp_ok HO.out
  have sv := main_one m1 m0 e4 (okE_of (by decide) (by decide) (by decide)) okp
  have hth : (over 9 no (plOp op) n nm (l.pl 60)).thin := over_thin (by decide) HZ.out.1 HZ.out.2 HT.out
  obtain ⟨g, hg⟩ : ∃ g, W3.heap.size + 1 = g := ⟨_, rfl⟩
  rw [hg] at sv m1 ⊢
  obtain ⟨x, hx⟩ : ∃ x, secB (plOp op) nm (l.pl 60).sec = x := ⟨_, rfl⟩
  obtain ⟨gr, hgr⟩ : ∃ gr, greatB s = gr := ⟨_, rfl⟩
  have t1 : errOf (Pg.tells ⟨[⟨s, [], over 9 no (plOp op) n nm (l.pl 60)⟩], .nil⟩) = if (!gr && x) then 5 else 0 := by
    rw [Pg.tells, fsTell, fsTell, over_tells, hx, hgr]
    cases gr <;> cases x <;> rfl
  have t2 : errOf ((over 9 no (plOp op) n nm (l.pl 60)).tells [] true) = if x then 5 else 0 := by
    rw [over_tells, hx]
    rfl
  have HOf := Lib.hid (of_any (plOp op) n nm (.slice A2 k2 c2) (l.pl 60) W4.heap.size W4 e4 (Nat.le_refl _) okp.2.2)
  have HC1 := Lib.hid (fun wx (h : Below W4.heap.size W4 wx) => ret_fn W4 wx h s g _ rfl sv HSS.out hth _ t1)
  have HC2 := Lib.hid (fun wx (h : Below W4.heap.size W4 wx) => ret_main W4 wx h g _ rfl sv hth _ t2)
  have HG := Lib.hid (fun wx => secret_any s wx hs2)
  rw [hx] at HOf
  rw [hgr] at HG
  have HF4 := Lib.hid f4
  obtain ⟨z0, z1, z2, z3⟩ := box4 m2
  have hl4 := lt_heap m2
  clear hx hgr t1 t2 sv hth okp f4 e4 mb m0 m1 m2 hg
  cases x
  all_goals
    cases gr
    all_goals
      simp only [Bool.not_false, Bool.not_true, Bool.and_true, Bool.and_false, if_true, if_false, Bool.false_eq_true] at HC1 HC2
      go_wp2_with (first
        | (go_at_call 13; ((with_reducible refine HOf.out.mono ?_); rintro e w5 ⟨rfl, hb5⟩))
        | (go_at_call 11; ((with_reducible refine (HC1.out _ hb5).mono ?_); rintro e w6 ⟨rfl, hb6⟩; have hb56 := Lib.hid (hb5.trans (hb6.mono hb5.size))))
        | (go_at_call 11; ((with_reducible refine (HC2.out _ hb56.out).mono ?_); rintro e w7 ⟨rfl, hb7⟩))
        | (go_at_call 19; ((with_reducible refine (HG.out _).mono ?_); rintro e w8 ⟨rfl, rfl⟩)))
      go_ret
      have h7 : Below W4.heap.size W4 w7 := hb56.out.trans (hb7.mono hb56.out.size)
      exact ⟨rfl, HF4.out.trans (h7.mono HF4.out.size)⟩
end Go.Proofs.Ythfcnnicpmkclaa
