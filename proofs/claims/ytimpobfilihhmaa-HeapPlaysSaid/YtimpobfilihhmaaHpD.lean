/-
  A heap's Make.
-/
import Derived.Test.YtimpobfilihhmaaHpC
namespace Go.Proofs.Ytimpobfilihhmaa
open Go Go.RowKit Go.Lib

theorem wpl_app_zeros {P : Program} {ops : Array Oper} {rest : List Oper} {o : Oper} {a : Act} {w : World} {Q : Exit → Act → World → Prop} (hgd : o.guard = none) (s x : Operand) (t tn : TypeId)
    (ho : o.op = .call { callee := .builtin .append, args := #[s, x], argTypes := #[t, tn] })
    (base : Nat) (e : TypeId) (i : TypeInfo) (z : Value) (bytes : Nat) (kq kn : IntKind) (ht : P.underlying t = some (.slice e)) (htn : P.underlying tn = some (.int kn)) (hi : P.info? e = some i) (hz : i.zero = some z)
    (hsize : i.size = 1) (hby : i.bytes = bytes) (hzc : z.cells = #[z]) (hz1 : z.oneCell' = true)
    (v : Value) (n : Nat) (xs : List Value) (hs : a.eval s = v) (hown : w.ownsRow base e 1 v n xs) (k : Nat) (hx : a.eval x = .int kq k) (h0 : 0 < k)
    (h63 : n + k ≤ maxLen) (hbytes : (n + k) * bytes ≤ 140737488355328) (hbase : base ≤ w.heap.size)
    (h : ∀ v' w', w'.ownsRow base e 1 v' (n + k) (xs ++ List.replicate k z) → w.grownBy w' v.ownBlock → (v'.ownBlock = v.ownBlock ∨ v'.ownBlock = some w.heap.size) → wpList P ops Q rest (a.put o.dst v') w') : wpList P ops Q (o :: rest) a w := by
  obtain ⟨v', w', hr, h2, h3, h4⟩ := run_append_own_zeros (P := P) w base t tn o.type e i z bytes kq kn ht htn hi hz hsize hby hzc hz1 v n xs hown k h0 h63 hbytes hbase
  exact wpList_append_run w hgd s x t tn ho _ _ hs hx v' w' hr (h v' w' h2 h3 h4)

theorem step_append_at {P : Program} {ops : Array Oper} {o : Oper} {a : Act} {w : World} {K : Act → World → Prop} {Q : Exit → Act → World → Prop} {E : Prop} (hgd : o.guard = none) (s x : Operand) (t : TypeId)
    (ho : o.op = .call { callee := .builtin .append, args := #[s, x], argTypes := #[t, t] })
    (base : Nat) (e : TypeId) (i : TypeInfo) (z : Value) (size bytes : Nat) (ht : P.underlying t = some (.slice e)) (hi : P.info? e = some i) (hz : i.zero = some z)
    (hsize : i.size = size) (hby : i.bytes = bytes) (hzs : z.cells.size = size) (hsz : 0 < size)
    (v : Value) (n : Nat) (xs : List Value) (hs : a.eval s = v) (hown : w.ownsRow base e size v n xs)
    (ad : Addr) (m c : Nat) (news : List Value) (hx : a.eval x = .slice (some ad) m c) (hl : news.length = m * size) (hnews : ∀ j u, news[j]? = some u → w.cell? (ad.add j) = some u) (h1 : ∀ u ∈ news, u.oneCell' = true)
    (h63 : n + m ≤ maxLen) (hbytes : (n + m) * bytes ≤ 140737488355328) (hbase : base ≤ w.heap.size)
    (h : ∀ v' w', w'.ownsRow base e size v' (n + m) (xs ++ news) → w.grownBy w' v.ownBlock → (v'.ownBlock = v.ownBlock ∨ v'.ownBlock = some w.heap.size) → K (a.put o.dst v') w') :
    if Region.wanted o (yielded ops a.tmps) = true then Oper.wp P o a w K Q else E := by
  have hw : Region.wanted o (yielded ops a.tmps) = true := by simp [Region.wanted, hgd]
  rw [if_pos hw]
  obtain ⟨v', w', hrun, h2, h3, _, h4⟩ := run_append_own_at (P := P) (w := w) base t o.type e i z size bytes ht hi hz hsize hby hzs hsz v n xs hown ad m c news hl hnews h1 h63 hbytes hbase
  unfold Oper.wp
  simp [execOp, ho, resolve, invoke, builtin, hs, hx, hrun, Result.andThen]
  exact h v' w' h2 h3 h4

theorem mkE_small {q : Nat} {A : List (List Int)} {x : Int} (h : x < 1 ∨ 4096 < x) : mkE q A x = 1 := by unfold mkE; rw [if_pos h]
theorem mkE_full {q : Nat} {A : List (List Int)} {x : Int} (h : ¬ (x < 1 ∨ 4096 < x)) (h' : (q : Int) < (A.flatten.length : Int) + x) : mkE q A x = 9 := by unfold mkE; rw [if_neg h, if_pos h']
theorem mkE_ok {q : Nat} {A : List (List Int)} {x : Int} (h : ¬ (x < 1 ∨ 4096 < x)) (h' : ¬ (q : Int) < (A.flatten.length : Int) + x) : mkE q A x = 0 := by unfold mkE; rw [if_neg h, if_neg h']
theorem mk_bad {q : Nat} {A : List (List Int)} {x c : Int} (h : mkE q A x = c) (hc : c ≠ 0) : mkI q A x = 0 ∧ mkA q A x = A := by
  unfold mkI mkA
  rw [h, if_neg hc, if_neg hc]
  exact ⟨rfl, rfl⟩
theorem mk_good {q : Nat} {A : List (List Int)} {x : Int} (h : mkE q A x = 0) : mkI q A x = (A.length : Int) ∧ mkA q A x = A ++ [List.replicate x.toNat 0] := by
  unfold mkI mkA
  rw [if_pos h, if_pos h]
  exact ⟨rfl, rfl⟩
abbrev MkPost (F : List Nat) (g q : Nat) (A : List (List Int)) (x : Int) (W : World) (e : Ending) (W' : World) : Prop :=
  e = .returned (.tuple #[.int .i64 (mkI q A x), .int .i64 (mkE q A x)]) ∧ ∃ F', HpI F' g q (mkA q A x) W' ∧ Kf F W W' ∧ ∀ k ∈ F', k ∈ F ∨ W.heap.size ≤ k
set_option maxRecDepth 100000 in
set_option maxHeartbeats 2000000 in
/-- Make. -/
theorem make_w {F : List Nat} {g q : Nat} {A : List (List Int)} {W : World} (h : HpI F g q A W) (x : Int) :
    Calls Try.prog 11 #[.pointer (some ⟨g, 0, none⟩), .int .i64 x] W (MkPost F g q A x W) := by
  have HU := Lib.hid (fun n => used_w (h.drewN n))
  have hmx : Try.prog.follows .mixedOrders = true := by kernel_rfl
  by_cases hs : x < 1 ∨ 4096 < x
  · have he := mkE_small (q := q) (A := A) hs
    obtain ⟨e1, e2⟩ := mk_bad he (by decide)
    have HP : Hid (MkPost F g q A x W (.returned (.tuple #[.int .i64 0, .int .i64 1])) W) := Lib.hid ⟨by rw [e1, he], F, by rw [e2]; exact h, Kf.refl F W, fun k hk => .inl hk⟩
    clear h he e1 e2 HU
    by_cases h0 : x < 1
    · have b0 : decide (x < 1) = true := decide_eq_true h0
      go_enter Try.func11, Try.ntmps11
      go_wp2
      go_ret2
      exact HP.out
    · have b0 : decide (x < 1) = false := decide_eq_false h0
      have b1 : decide (4096 < x) = true := decide_eq_true (by omega)
      go_enter Try.func11, Try.ntmps11
      go_wp2
      go_ret2
      exact HP.out
  · have b0 : decide (x < 1) = false := decide_eq_false (by omega)
    have b1 : decide (4096 < x) = false := decide_eq_false (by omega)
    obtain ⟨vc, ve, h1, h2, h3, h4, h5⟩ := h.row
    have hq := h.q1
    have hfit := h.fit
    have hlt := len_tot A h.pos
    obtain ⟨Xc, cc, rfl⟩ := own_form h2
    obtain ⟨Xe, ce, rfl⟩ := own_form h3
    by_cases hf : (q : Int) < (A.flatten.length : Int) + x
    · have he := mkE_full hs hf
      obtain ⟨e1, e2⟩ := mk_bad he (by decide)
      have HP : Hid (∀ n, MkPost F g q A x W (.returned (.tuple #[.int .i64 0, .int .i64 9])) (W.drewN n)) := Lib.hid fun n => ⟨by rw [e1, he], F, by rw [e2]; exact h.drewN n, Kf.drewN F W n, fun k hk => .inl hk⟩
      have c0 : W.cell? ⟨g, 0, none⟩ = some (.int .i64 (q : Int)) := (blk_cell h1 0).trans rfl
      clear h he e1 e2 h1 h2 h3 h4 h5
      generalize A.flatten.length = N at *
      have w1 : IntKind.i64.wrap ((q : Int) - (N : Int)) = (q : Int) - (N : Int) := IntWalk.i64_in _ (by omega)
      have b2 : decide ((q : Int) - (N : Int) < x) = true := decide_eq_true (by omega)
      clear hs
      go_enter Try.func11, Try.ntmps11
      go_wp2
      go_quiet ((go_at_call 17; with_reducible exact Calls.quiet_of_same (HU.out _)))
      go_wp2
      go_ret2
      exact HP.out _
    · have he := mkE_ok hs hf
      obtain ⟨e1, e2⟩ := mk_good he
      obtain ⟨k, rfl⟩ : ∃ k : Nat, x = (k : Int) := ⟨x.toNat, by omega⟩
      rw [Int.toNat_natCast] at e2
      have hk1 : 0 < k := by omega
      have c0 : W.cell? ⟨g, 0, none⟩ = some (.int .i64 (q : Int)) := (blk_cell h1 0).trans rfl
      have c1 : W.cell? ⟨g, 1, none⟩ = some (.slice Xc A.flatten.length cc) := (blk_cell h1 1).trans rfl
      have w1 : IntKind.i64.wrap ((q : Int) - (A.flatten.length : Int)) = (q : Int) - (A.flatten.length : Int) := IntWalk.i64_in _ (by omega)
      have b2 : decide ((q : Int) - (A.flatten.length : Int) < (k : Int)) = false := decide_eq_false (by omega)
      have hp := h.pos
      have hgF := h.gF
      have hF := h.lt
      unfold MkPost
      rw [e1, e2, he]
      have HPOS : Hid (∀ a ∈ A ++ [List.replicate k (0 : Int)], 1 ≤ a.length) := Lib.hid fun a ha => by
        rcases List.mem_append.1 ha with h' | h'
        · exact hp a h'
        · rw [List.mem_singleton.1 h', List.length_replicate]; omega
      have HFL : Hid ((A ++ [List.replicate k (0 : Int)]).flatten = A.flatten ++ List.replicate k 0) := Lib.hid (by simp)
      have HEN : Hid (ens 0 (A ++ [List.replicate k (0 : Int)]) = ens 0 A ++ [((A.flatten.length + k : Nat) : Int)]) := Lib.hid (by rw [ens_app, Nat.zero_add, List.length_replicate])
      obtain ⟨i0, hi, hz0, hz1, hz2⟩ := info_parts i64Info
      obtain ⟨j0, hj, hy0, hy1, hy2⟩ := info_parts intInfo
      have HI := Lib.hid hi
      have HZ0 := Lib.hid hz0
      have HJ := Lib.hid hj
      have HY0 := Lib.hid hy0
      have HB := Lib.hid h1
      have HO := Lib.hid h2
      have HE := Lib.hid h3
      have HG := Lib.hid h4
      have HG2 := Lib.hid h5
      have HF := Lib.hid hF
      clear h he e1 e2 h1 h2 h3 h4 h5 hp hs hi hz0 hj hy0 hF
      have hAA : A.flatten.length ≤ 1048576 := by omega
      generalize hN : A.flatten.length = N at *
      generalize hM : A.length = M at *
      have HN := Lib.hid hN
      have HM := Lib.hid hM
      clear hN hM
      go_enter Try.func11, Try.ntmps11
      go_wp2
      go_quiet ((go_at_call 17; with_reducible exact Calls.quiet_of_same (HU.out _)))
      go_upto_region 6 with (at_builtin; go_loud (refine wpl_app_zeros rfl _ _ _ _ rfl 0 2 i0 (.int .i64 0) 8 .i64 .i64 Try.underlying27 Try.underlying2 HI.out HZ0.out hz1 hz2 rfl rfl (.slice Xc N cc) N (i64V A.flatten) rfl HO.out k rfl hk1 (by unfold maxLen; omega) (by omega) (Nat.zero_le _) ?_; intro v1 W1 hown1 hg0 hat0; have hg1 : W.grownBy W1 (Value.slice Xc N cc).ownBlock := ⟨hg0.os, hg0.tape, hg0.output, hg0.size, hg0.block⟩; clear hg0; obtain ⟨X1, d1, rfl⟩ := own_form hown1; have hb1 : W1.heap[g]? = some (hpO q (.slice Xc N cc) (.slice Xe M ce)) := blk_grown HB.out hg1 (own_ne HO.out HB.out (by decide)); have y1 : W1.cell? ⟨g, 1, none⟩ = some (.slice Xc N cc) := (blk_cell hb1 1).trans rfl; have f1 := blk_frozen hb1 1; have HO1 := Lib.hid hown1; have HG1 := Lib.hid hg1; have HA1 : Hid ((Value.slice X1 (N + k) d1).ownBlock = (Value.slice Xc N cc).ownBlock ∨ (Value.slice X1 (N + k) d1).ownBlock = some W.heap.size) := Lib.hid hat0; have HB1 := Lib.hid hb1; clear hown1 hg1 hb1 hat0))
      have hb2 : (W1.setCell ⟨g, 1, none⟩ (.slice X1 (N + k) d1)).heap[g]? = some (hpO q (.slice X1 (N + k) d1) (.slice Xe M ce)) := (blk_set HB1.out 1 _).trans rfl
      obtain ⟨W2, hW2⟩ : ∃ W2, W1.setCell ⟨g, 1, none⟩ (.slice X1 (N + k) d1) = W2 := ⟨_, rfl⟩
      rw [hW2] at hb2 ⊢
      have ho2 : W2.ownsRow 0 2 1 (.slice X1 (N + k) d1) (N + k) (i64V A.flatten ++ List.replicate k (.int .i64 0)) := by
        rw [← hW2]; exact own_set HO1.out (own_ne HO1.out HB1.out (by decide)) _
      have he1 : W1.ownsRow 0 3 1 (.slice Xe M ce) M (i64V (ens 0 A)) := HE.out.kept HG1.out (own_disj HE.out HO.out (by decide))
      have he2 : W2.ownsRow 0 3 1 (.slice Xe M ce) M (i64V (ens 0 A)) := by
        rw [← hW2]; exact own_set he1 (own_ne he1 HB1.out (by decide)) _
      have hz2 : W.heap.size ≤ W2.heap.size := by rw [← hW2, World.size_setCell]; exact HG1.out.size
      have hk2 : Kf F W W2 := by
        rw [← hW2]
        refine ⟨HG1.out.os, HG1.out.tape, HG1.out.output, by rw [World.size_setCell]; exact HG1.out.size, fun j hj hn => ?_⟩
        exact (Below.heap_setCell _ _ _ _ (fun e => hn (by rw [e]; exact hgF))).trans (HG1.out.block j hj fun e => hn (HG.out j e.symm))
      have HO2 := Lib.hid ho2
      have HE2 := Lib.hid he2
      have HK2 := Lib.hid hk2
      have HFT : Hid (N + k ≤ q) := Lib.hid (by omega)
      have HZ2 := Lib.hid hz2
      clear hW2 ho2 he1 he2 hk2 hz2 c0 c1 w1 b0 b1 b2 hf
      have KC := Lib.hid (fun (W' : World) (hs : W'.heap[g]? = some (hpO q (.slice X1 (N + k) d1) (.slice Xe M ce))) => (show W'.cell? ⟨g, 1, none⟩ = some (.slice X1 (N + k) d1) ∧ W'.cell? ⟨g, 2, none⟩ = some (.slice Xe M ce) from ⟨(blk_cell hs 1).trans rfl, (blk_cell hs 2).trans rfl⟩))
      refine wp_region_late (fun W' => W'.heap[g]? = some (hpO q (.slice X1 (N + k) d1) (.slice Xe M ce))) 14 hmx ?_
      have hS0 : W2.drew.heap[g]? = some (hpO q (.slice X1 (N + k) d1) (.slice Xe M ce)) := hb2
      have HO3 : Hid (W2.drew.ownsRow 0 2 1 (.slice X1 (N + k) d1) (N + k) (i64V A.flatten ++ List.replicate k (.int .i64 0))) := HO2
      have HE3 : Hid (W2.drew.ownsRow 0 3 1 (.slice Xe M ce) M (i64V (ens 0 A))) := HE2
      have HK3 : Hid (Kf F W W2.drew) := Lib.hid ⟨HK2.out.os, HK2.out.tape, HK2.out.output, HK2.out.size, HK2.out.block⟩
      clear HO2 HE2 HK2 hb2
      obtain ⟨W0, hW0⟩ : ∃ x, W2.drew = x := ⟨_, rfl⟩
      rw [hW0] at hS0 HO3 HE3 HK3 ⊢
      clear hW0
      refine AnyL.take 0 (.pointer (some ⟨g, 0, none⟩)) rfl (by kernel_rfl) (by kernel_rfl) (by kernel_rfl) (by kernel_rfl) (fun _ _ _ h => h) (Or.inl ⟨by rfl, ?_⟩) (by assumption) ?_
      · intro W' hSw
        obtain ⟨l1, l2⟩ := KC.out W' hSw
        go_simp
      try simp only [Act.put, List.getElem_toArray, List.getElem_cons_zero, List.setIfInBounds_toArray, List.set_cons_zero, List.set_cons_succ]
      refine AnyL.take 1 (.pointer (some ⟨g, 0, none⟩)) rfl (by kernel_rfl) (by kernel_rfl) (by kernel_rfl) (by kernel_rfl) (fun _ _ _ h => h) (Or.inl ⟨by rfl, ?_⟩) (by assumption) ?_
      · intro W' hSw
        obtain ⟨l1, l2⟩ := KC.out W' hSw
        go_simp
      try simp only [Act.put, List.getElem_toArray, List.getElem_cons_zero, List.getElem_cons_succ, List.setIfInBounds_toArray, List.set_cons_zero, List.set_cons_succ]
      refine AnyL.take 2 (.pointer (some ⟨g, 0, none⟩)) rfl (by kernel_rfl) (by kernel_rfl) (by kernel_rfl) (by kernel_rfl) (fun _ _ _ h => h) (Or.inl ⟨by rfl, ?_⟩) (by assumption) ?_
      · intro W' hSw
        obtain ⟨l1, l2⟩ := KC.out W' hSw
        go_simp
      try simp only [Act.put, List.getElem_toArray, List.getElem_cons_zero, List.getElem_cons_succ, List.setIfInBounds_toArray, List.set_cons_zero, List.set_cons_succ]
      refine AnyL.take 3 (.pointer (some ⟨g, 2, none⟩)) rfl (by kernel_rfl) (by kernel_rfl) (by kernel_rfl) (by kernel_rfl) (fun _ _ _ h => h) (Or.inl ⟨by rfl, ?_⟩) (by assumption) ?_
      · intro W' hSw
        obtain ⟨l1, l2⟩ := KC.out W' hSw
        go_simp
      try simp only [Act.put, List.getElem_toArray, List.getElem_cons_zero, List.getElem_cons_succ, List.setIfInBounds_toArray, List.set_cons_zero, List.set_cons_succ]
      refine AnyL.take 4 (.slice Xe M ce) rfl (by kernel_rfl) (by kernel_rfl) (by kernel_rfl) (by kernel_rfl) (fun _ _ _ h => h) (Or.inl ⟨by rfl, ?_⟩) (by assumption) ?_
      · intro W' hSw
        obtain ⟨l1, l2⟩ := KC.out W' hSw
        go_simp
      try simp only [Act.put, List.getElem_toArray, List.getElem_cons_zero, List.getElem_cons_succ, List.setIfInBounds_toArray, List.set_cons_zero, List.set_cons_succ]
      refine AnyL.take 5 (.pointer (some ⟨g, 0, none⟩)) rfl (by kernel_rfl) (by kernel_rfl) (by kernel_rfl) (by kernel_rfl) (fun _ _ _ h => h) (Or.inl ⟨by rfl, ?_⟩) (by assumption) ?_
      · intro W' hSw
        obtain ⟨l1, l2⟩ := KC.out W' hSw
        go_simp
      try simp only [Act.put, List.getElem_toArray, List.getElem_cons_zero, List.getElem_cons_succ, List.setIfInBounds_toArray, List.set_cons_zero, List.set_cons_succ]
      refine AnyL.take 6 (.pointer (some ⟨g, 0, none⟩)) rfl (by kernel_rfl) (by kernel_rfl) (by kernel_rfl) (by kernel_rfl) (fun _ _ _ h => h) (Or.inl ⟨by rfl, ?_⟩) (by assumption) ?_
      · intro W' hSw
        obtain ⟨l1, l2⟩ := KC.out W' hSw
        go_simp
      try simp only [Act.put, List.getElem_toArray, List.getElem_cons_zero, List.getElem_cons_succ, List.setIfInBounds_toArray, List.set_cons_zero, List.set_cons_succ]
      refine AnyL.take 7 (.pointer (some ⟨g, 1, none⟩)) rfl (by kernel_rfl) (by kernel_rfl) (by kernel_rfl) (by kernel_rfl) (fun _ _ _ h => h) (Or.inl ⟨by rfl, ?_⟩) (by assumption) ?_
      · intro W' hSw
        obtain ⟨l1, l2⟩ := KC.out W' hSw
        go_simp
      try simp only [Act.put, List.getElem_toArray, List.getElem_cons_zero, List.getElem_cons_succ, List.setIfInBounds_toArray, List.set_cons_zero, List.set_cons_succ]
      refine AnyL.take 8 (.slice X1 (N + k) d1) rfl (by kernel_rfl) (by kernel_rfl) (by kernel_rfl) (by kernel_rfl) (fun _ _ _ h => h) (Or.inl ⟨by rfl, ?_⟩) (by assumption) ?_
      · intro W' hSw
        obtain ⟨l1, l2⟩ := KC.out W' hSw
        go_simp
      try simp only [Act.put, List.getElem_toArray, List.getElem_cons_zero, List.getElem_cons_succ, List.setIfInBounds_toArray, List.set_cons_zero, List.set_cons_succ]
      refine AnyL.take 9 (.int .i64 ((N + k : Nat) : Int)) rfl (by kernel_rfl) (by kernel_rfl) (by kernel_rfl) (by kernel_rfl) (fun _ _ _ h => h) (Or.inl ⟨by rfl, ?_⟩) (by assumption) ?_
      · intro W' hSw
        obtain ⟨l1, l2⟩ := KC.out W' hSw
        go_simp
      try simp only [Act.put, List.getElem_toArray, List.getElem_cons_zero, List.getElem_cons_succ, List.setIfInBounds_toArray, List.set_cons_zero, List.set_cons_succ]
      refine AnyL.next 10 (by kernel_rfl) rfl (fun K hK => ?_)
      go_simp
      obtain ⟨W3, hW3⟩ : ∃ x, W0.alloc (.cells #[.int .i64 ((N : Int) + (k : Int))] 3) = x := ⟨_, rfl⟩
      obtain ⟨z0, hz0⟩ : ∃ z, W0.heap.size = z := ⟨_, rfl⟩
      have hn3 : W3.heap[z0]? = some (.cells #[.int .i64 ((N : Int) + (k : Int))] 3) := by rw [← hW3, ← hz0]; exact heap_alloc_new W0 _
      have hS3 : W3.heap[g]? = some (hpO q (.slice X1 (N + k) d1) (.slice Xe M ce)) := by rw [← hW3]; exact blk_alloc hS0 _
      have HO4 : Hid (W3.ownsRow 0 2 1 (.slice X1 (N + k) d1) (N + k) (i64V A.flatten ++ List.replicate k (.int .i64 0))) := Lib.hid (by rw [← hW3]; exact HO3.out.alloc _)
      have HE4 : Hid (W3.ownsRow 0 3 1 (.slice Xe M ce) M (i64V (ens 0 A))) := Lib.hid (by rw [← hW3]; exact HE3.out.alloc _)
      have HK4 : Hid (Kf F W W3) := Lib.hid (by rw [← hW3]; exact HK3.out.trans (Kf.of_below ((Below.refl _ _).alloc (Nat.le_refl _) _) []) (fun _ h => by cases h))
      rw [hW3, hz0]
      clear hW3 hz0 HO3 HE3 HK3 hS0
      refine hK.out _ _ (fun _ => hS3) ?_
      clear hK K
      try simp only [Act.put, List.getElem_toArray, List.getElem_cons_zero, List.getElem_cons_succ, List.setIfInBounds_toArray, List.set_cons_zero, List.set_cons_succ]
      refine AnyL.next 11 (by kernel_rfl) rfl (fun K hK => ?_)
      refine step_append_at (E := _) rfl _ _ 51 rfl 0 3 j0 _ 1 8 Try.underlying51 HJ.out HY0.out hy1 hy2 rfl (by decide) (.slice Xe M ce) M (i64V (ens 0 A)) rfl HE4.out ⟨z0, 0, none⟩ 1 1 [.int .i64 ((N : Int) + (k : Int))] rfl rfl ?_ (fun u hu => by rw [List.mem_singleton.1 hu]; rfl) (by unfold maxLen; omega) (by omega) (Nat.zero_le _) ?_
      · intro j u hu
        match j, hu with
        | 0, hu =>
          simp at hu
          subst hu
          rw [show (⟨z0, 0, none⟩ : Addr).add 0 = ⟨z0, 0, none⟩ by unfold Addr.add; split <;> simp_all]
          exact (blk_cell hn3 0).trans rfl
      intro v5 W5 hown5 hg5 hat5
      have hS5 : W5.heap[g]? = some (hpO q (.slice X1 (N + k) d1) (.slice Xe M ce)) := blk_grown hS3 hg5 (own_ne HE4.out hS3 (by decide))
      obtain ⟨X5, d5, rfl⟩ := own_form hown5
      have HO5 : Hid (W5.ownsRow 0 2 1 (.slice X1 (N + k) d1) (N + k) (i64V A.flatten ++ List.replicate k (.int .i64 0))) := Lib.hid (HO4.out.kept hg5 (own_disj HO4.out HE4.out (by decide)))
      have HK5 : Hid (Kf F W W5) := Lib.hid (HK4.out.trans ⟨hg5.os, hg5.tape, hg5.output, hg5.size, fun j hj hn => hg5.block j hj fun e => hn (HG2.out j e.symm)⟩ (fun k hk => .inl hk))
      have HE5 := Lib.hid hown5
      have HA5 : Hid (∀ j, (Value.slice X5 (M + 1) d5).ownBlock = some j → j ∈ F ∨ W.heap.size ≤ j) := Lib.hid fun j hj => by
        rcases hat5 with e | e
        · exact .inl (HG2.out j (e ▸ hj))
        · rw [e] at hj; injection hj with hj; exact .inr (hj ▸ HK4.out.size)
      clear hown5 hg5 hat5 HO4 HE4 HK4 hS3 hn3
      refine hK.out _ _ (fun _ => hS5) ?_
      clear hK K
      try simp only [Act.put, List.getElem_toArray, List.getElem_cons_zero, List.getElem_cons_succ, List.setIfInBounds_toArray, List.set_cons_zero, List.set_cons_succ]
      refine AnyL.next 12 (by kernel_rfl) rfl (fun K hK => ?_)
      go_simp
      refine hK.out _ _ (fun _ => hS5) ?_
      clear hK K
      try simp only [Act.put, List.getElem_toArray, List.getElem_cons_zero, List.getElem_cons_succ, List.setIfInBounds_toArray, List.set_cons_zero, List.set_cons_succ]
      refine AnyL.next 13 (by kernel_rfl) rfl (fun K hK => ?_)
      go_simp
      refine hK.out _ _ (fun _ => hS5) ?_
      clear hK K
      try simp only [Act.put, List.getElem_toArray, List.getElem_cons_zero, List.getElem_cons_succ, List.setIfInBounds_toArray, List.set_cons_zero, List.set_cons_succ]
      refine AnyL.next 14 (by kernel_rfl) rfl (fun K hK => ?_)
      have y5 : W5.cell? ⟨g, 2, none⟩ = some (.slice Xe M ce) := (blk_cell hS5 2).trans rfl
      have f5 := blk_frozen hS5 2
      go_simp
      refine hK.out _ _ (fun h => absurd rfl h) ?_
      clear hK K
      try simp only [Act.put, List.getElem_toArray, List.getElem_cons_zero, List.getElem_cons_succ, List.setIfInBounds_toArray, List.set_cons_zero, List.set_cons_succ]
      refine AnyL.done (by kernel_rfl) ?_
      obtain ⟨W6, hW6⟩ : ∃ x, W5.setCell ⟨g, 2, none⟩ (.slice X5 (M + 1) d5) = x := ⟨_, rfl⟩
      have hb6 : W6.heap[g]? = some (hpO q (.slice X1 (N + k) d1) (.slice X5 (M + 1) d5)) := by rw [← hW6]; exact (blk_set hS5 2 _).trans rfl
      have y6 : W6.cell? ⟨g, 2, none⟩ = some (.slice X5 (M + 1) d5) := (blk_cell hb6 2).trans rfl
      have e6 : IntKind.i64.wrap (((M + 1 : Nat) : Int) - 1) = (M : Int) := by rw [IntWalk.i64_in _ (by omega)]; omega
      have HO6 : Hid (W6.ownsRow 0 2 1 (.slice X1 (N + k) d1) (N + k) (i64V A.flatten ++ List.replicate k (.int .i64 0))) := Lib.hid (by rw [← hW6]; exact own_set HO5.out (own_ne HO5.out hS5 (by decide)) _)
      have HE6 : Hid (W6.ownsRow 0 3 1 (.slice X5 (M + 1) d5) (M + 1) (i64V (ens 0 A) ++ [.int .i64 ((N : Int) + (k : Int))])) := Lib.hid (by rw [← hW6]; exact own_set HE5.out (own_ne HE5.out hS5 (by decide)) _)
      have HK6 : Hid (Kf F W W6) := Lib.hid (by rw [← hW6]; exact HK5.out.trans ⟨rfl, rfl, rfl, by simp, fun j hj hn => Below.heap_setCell _ _ _ _ fun e => hn (by rw [e]; exact hgF)⟩ (fun k hk => .inl hk))
      rw [hW6]
      clear hW6 HO5 HE5 HK5 hS5 y5 f5
      go_wp2
      go_ret2
      have hmem : ∀ j, j ∈ g :: ((Value.slice X1 (N + k) d1).ownBlock.toList ++ (Value.slice X5 (M + 1) d5).ownBlock.toList) ↔ j = g ∨ (Value.slice X1 (N + k) d1).ownBlock = some j ∨ (Value.slice X5 (M + 1) d5).ownBlock = some j := fun j => by
        rw [List.mem_cons, List.mem_append, Option.mem_toList, Option.mem_toList]
      refine ⟨rfl, g :: ((Value.slice X1 (N + k) d1).ownBlock.toList ++ (Value.slice X5 (M + 1) d5).ownBlock.toList), ⟨hq, HPOS.out, ?_, List.mem_cons_self .., fun j hj => ?_, .slice X1 (N + k) d1, .slice X5 (M + 1) d5, hb6, ?_, ?_, fun j hj => (hmem j).2 (.inr (.inl hj)), fun j hj => (hmem j).2 (.inr (.inr hj))⟩, HK6.out, fun j hj => ?_⟩
      · rw [HFL.out, List.length_append, List.length_replicate, HN.out]; exact HFT.out
      · rcases (hmem j).1 hj with rfl | e | e
        · exact blk_lt hb6
        · exact (HO6.out.lt j e).2
        · exact (HE6.out.lt j e).2
      · rw [HFL.out, List.length_append, List.length_replicate, HN.out, i64V_app]
        rw [show i64V (List.replicate k 0) = List.replicate k (.int .i64 0) by simp [i64V]]
        exact HO6.out
      · rw [HEN.out, i64V_app, List.length_append, List.length_singleton, HM.out]
        exact HE6.out
      · rcases (hmem j).1 hj with rfl | e | e
        · exact .inl hgF
        · rcases HA1.out with e1 | e1
          · exact .inl (HG.out j (e1 ▸ e))
          · rw [e1] at e; injection e with e; exact .inr (by omega)
        · exact HA5.out j e
end Go.Proofs.Ytimpobfilihhmaa
