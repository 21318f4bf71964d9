/-
  smallExpr: an expression with all names small, to a depth.
-/
import Derived.Test.YtacleafbjbhcgaaLbM
import Derived.Test.YtacleafbjbhcgaaReg
namespace Go.Proofs.Ytacleafbjbhcgaa
open Go Go.RowKit Go.Lib

/-- A name with a small letter ahead. -/
def vS (s : ByteArray) : ByteArray := ⟨#[118]⟩ ++ s
theorem vS_size (s : ByteArray) : (vS s).size = s.size + 1 := by rw [vS, ByteArray.size_append]; show 1 + s.size = _; omega
theorem vS_small (s : ByteArray) : greatB (vS s) = false := by
  have : (vS s).data.toList = 118 :: s.data.toList := by rw [vS, ByteArray.data_append, Array.toList_append]; rfl
  rw [greatB, this]; rfl
set_option maxRecDepth 100000 in
theorem small_any (s : ByteArray) (w : World) (hs : s.size ≤ 140737488351232) : Calls Try.prog 6 #[.string s] w fun e w' => e = .returned (.string (vS s)) ∧ w = w' := by
  go_enter Try.func6, Try.ntmps6
  go_wp2
  go_ret
  exact ⟨rfl, rfl⟩
def ES.sm : ES → Nat → ES
  | .nil, _ => .nil
  | .cons _ _ _ _ _, 0 => .nil
  | .cons op n s l r, d + 1 => .cons op n (vS s) (l.sm d) (r.sm (d + 1))
theorem ES.sm_zero : ∀ l : ES, l.sm 0 = .nil
  | .nil => rfl
  | .cons _ _ _ _ _ => rfl
theorem ES.sm_app : ∀ (a b : ES) (d : Nat), (a.app b).sm (d + 1) = (a.sm (d + 1)).app (b.sm (d + 1))
  | .nil, _, _ => rfl
  | .cons op n s l r, b, d => by rw [ES.app, ES.sm, ES.sm, ES.app, ES.sm_app r b d]
theorem ES.sm_len : ∀ (l : ES) (d : Nat), (l.sm d).len ≤ l.len
  | .nil, _ => Nat.le_refl _
  | .cons _ _ _ _ _, 0 => Nat.zero_le _
  | .cons _ _ _ _ r, d + 1 => by have := ES.sm_len r (d + 1); simp only [ES.sm, ES.len]; omega

def SmHas (K : Nat) : Prop := ∀ (op n : Int) (s : ByteArray) (v : Value) (l : ES) (d : Nat) (w : World), l.cnt < K → EV w.heap.size w v l → l.len * 56 ≤ 140737488351232 → l.thin0 → okE op n s → s.size ≤ 140737488351232 → d ≤ 70 →
  Calls Try.prog 11 #[.agg #[.int .i64 op, .int .i64 n, .string s, v], .int .i64 d] w fun e w' => (∃ v', e = .returned (.agg #[.int .i64 op, .int .i64 n, .string (vS s), v']) ∧ (∃ A k c, v' = .slice A k c) ∧ Rob w.heap.size none w' v' (l.sm d)) ∧ Below w.heap.size w w'
def SmRel (w : World) (op n : Int) (s : ByteArray) (A : Option Addr) (cap : Nat) (l : ES) (d len K : Nat) (i : Value) (wr : World) : Prop :=
  ∃ (k : Nat) (pre r : ES) (X : Option Addr) (c : Nat) (cs : List Value), i = .int .i64 k ∧ k + r.len = len ∧ l = pre.app r ∧ (pre.sm d).len = k ∧ r.cnt ≤ K ∧ r.thin0 ∧ (0 < r.len → ∃ b o, A = some ⟨b, o, none⟩ ∧ b < w.heap.size ∧ r.In w.heap.size w b (o + k * 4)) ∧
    wr.heap[w.heap.size]? = some (exO op n s (.slice A len cap)) ∧ wr.heap[w.heap.size + 1]? = some (exO 0 0 no (.slice none 0 0)) ∧ wr.heap[w.heap.size + 2]? = some (exO op n (vS s) (.slice X k c)) ∧
    wr.ownsRow (w.heap.size + 3) 37 4 (.slice X k c) k cs ∧ (pre.sm d).Cells (Rob (w.heap.size + 3) (Value.ownBlock (.slice X k c)) wr) cs ∧ Below w.heap.size w wr

set_option maxRecDepth 100000 in
set_option maxHeartbeats 4000000 in
theorem smallX_step (K : Nat) (ih : SmHas K) : SmHas (K + 1) := by
  intro op n s v l d w hcnt hv hth ht hok hs hd
  obtain ⟨A, cap, rfl, hc1, hc2, hrow⟩ := hv
  obtain ⟨len, hlen⟩ : ∃ len, l.len = len := ⟨_, rfl⟩
  rw [hlen] at hc1 hrow hth ⊢
  have HL := Lib.hid hlen; clear hlen
  have HOK := Lib.hid hok
  have HROW := Lib.hid hrow
  have hop := hok.1
  clear hok hrow
  go_enter Try.func11, Try.ntmps11
  go_upto_region 1 with fail
  obtain ⟨wa, hwa⟩ : ∃ W, (w.alloc (exO op n s (.slice A len cap))).alloc (exO 0 0 no (.slice none 0 0)) = W := ⟨_, rfl⟩
  have m0 : wa.heap[w.heap.size]? = some (exO op n s (.slice A len cap)) := by rw [← hwa]; exact old_at (heap_alloc_new w _)
  have m1 : wa.heap[w.heap.size + 1]? = some (exO 0 0 no (.slice none 0 0)) := by rw [← hwa]; exact new2 _ _ _
  have mb : Below w.heap.size w wa := by rw [← hwa]; exact ((Below.refl _ _).alloc (Nat.le_refl _) _).alloc (by simp) _
  have mz : wa.heap.size = w.heap.size + 2 := by rw [← hwa]; simp only [World.size_alloc]
  rw [hwa]
  clear hwa
  have HBX := Lib.hid (fun W' (h : Below wa.heap.size wa W') => box4 ((h.block _ (lt_heap m0)).trans m0))
  go_cut [5] (fun v wx => v = .pointer (some ⟨w.heap.size + 2, 0, none⟩) ∧ wx.heap[w.heap.size + 2]? = some (exO op n (vS s) (.slice none 0 0)) ∧ Below wa.heap.size wa wx)
  case first =>
    have hS0 : Below wa.heap.size wa wa.drew := belowD (Below.refl _ _)
    have hz0 : wa.drew.heap.size = w.heap.size + 2 := mz
    obtain ⟨W0, hW0⟩ : ∃ x, wa.drew = x := ⟨_, rfl⟩
    refine wp_region_late (fun w' => Below wa.heap.size wa w') 9 (by kernel_rfl) ?_
    rw [hW0] at hS0 hz0 ⊢
    clear hW0
    refine AnyL.take 0 (.pointer (some ⟨w.heap.size, 0, none⟩)) rfl (by kernel_rfl) (by kernel_rfl) (by kernel_rfl) (by kernel_rfl) (fun _ _ _ h => h) (Or.inl ⟨by rfl, ?_⟩) (by assumption) ?_
    · intro W' hSw
      obtain ⟨l0, l1, l2, l3⟩ := HBX.out W' hSw
      go_simp
    try simp only [Act.put, List.getElem_toArray, List.getElem_cons_zero, List.getElem_cons_succ, List.setIfInBounds_toArray, List.set_cons_zero, List.set_cons_succ]
    refine AnyL.take 1 (.int .i64 op) rfl (by kernel_rfl) (by kernel_rfl) (by kernel_rfl) (by kernel_rfl) (fun _ _ _ h => h) (Or.inl ⟨by rfl, ?_⟩) (by assumption) ?_
    · intro W' hSw
      obtain ⟨l0, l1, l2, l3⟩ := HBX.out W' hSw
      go_simp
    try simp only [Act.put, List.getElem_toArray, List.getElem_cons_zero, List.getElem_cons_succ, List.setIfInBounds_toArray, List.set_cons_zero, List.set_cons_succ]
    refine AnyL.take 2 (.pointer (some ⟨w.heap.size, 1, none⟩)) rfl (by kernel_rfl) (by kernel_rfl) (by kernel_rfl) (by kernel_rfl) (fun _ _ _ h => h) (Or.inl ⟨by rfl, ?_⟩) (by assumption) ?_
    · intro W' hSw
      obtain ⟨l0, l1, l2, l3⟩ := HBX.out W' hSw
      go_simp
    try simp only [Act.put, List.getElem_toArray, List.getElem_cons_zero, List.getElem_cons_succ, List.setIfInBounds_toArray, List.set_cons_zero, List.set_cons_succ]
    refine AnyL.take 3 (.int .i64 n) rfl (by kernel_rfl) (by kernel_rfl) (by kernel_rfl) (by kernel_rfl) (fun _ _ _ h => h) (Or.inl ⟨by rfl, ?_⟩) (by assumption) ?_
    · intro W' hSw
      obtain ⟨l0, l1, l2, l3⟩ := HBX.out W' hSw
      go_simp
    try simp only [Act.put, List.getElem_toArray, List.getElem_cons_zero, List.getElem_cons_succ, List.setIfInBounds_toArray, List.set_cons_zero, List.set_cons_succ]
    refine AnyL.take 4 (.pointer (some ⟨w.heap.size, 2, none⟩)) rfl (by kernel_rfl) (by kernel_rfl) (by kernel_rfl) (by kernel_rfl) (fun _ _ _ h => h) (Or.inl ⟨by rfl, ?_⟩) (by assumption) ?_
    · intro W' hSw
      obtain ⟨l0, l1, l2, l3⟩ := HBX.out W' hSw
      go_simp
    try simp only [Act.put, List.getElem_toArray, List.getElem_cons_zero, List.getElem_cons_succ, List.setIfInBounds_toArray, List.set_cons_zero, List.set_cons_succ]
    refine AnyL.take 5 (.string s) rfl (by kernel_rfl) (by kernel_rfl) (by kernel_rfl) (by kernel_rfl) (fun _ _ _ h => h) (Or.inl ⟨by rfl, ?_⟩) (by assumption) ?_
    · intro W' hSw
      obtain ⟨l0, l1, l2, l3⟩ := HBX.out W' hSw
      go_simp
    try simp only [Act.put, List.getElem_toArray, List.getElem_cons_zero, List.getElem_cons_succ, List.setIfInBounds_toArray, List.set_cons_zero, List.set_cons_succ]
    refine AnyL.both 6 8 (by kernel_rfl) rfl rfl (fun K hK => ?_) (fun K hK => ?_)
    · skip
      go_simp
      go_at_call 6
      refine (small_any s _ hs).mono ?_
      rintro e' w6 ⟨rfl, rfl⟩
      go_wp2_with fail
      refine hK.out _ _ (fun _ => hS0) ?_
      clear hK K
      try simp only [Act.put, List.getElem_toArray, List.getElem_cons_zero, List.getElem_cons_succ, List.setIfInBounds_toArray, List.set_cons_zero, List.set_cons_succ]
      refine AnyL.take 7 (.agg #[.int .i64 op, .int .i64 n, .string (vS s), .slice none 0 0]) rfl (by kernel_rfl) (by kernel_rfl) (by kernel_rfl) (by kernel_rfl) (fun _ _ _ h => h) (Or.inl ⟨by rfl, ?_⟩) (by assumption) ?_
      · intro W' hSw
        go_simp
      try simp only [Act.put, List.getElem_toArray, List.getElem_cons_zero, List.getElem_cons_succ, List.setIfInBounds_toArray, List.set_cons_zero, List.set_cons_succ]
      refine AnyL.next 8 (by kernel_rfl) rfl (fun K hK => ?_)
      go_simp
      have e1 := (hS0).alloc (hS0).size (exO 0 0 no (.slice none 0 0))
      have n1 := heap_alloc_new W0 (exO 0 0 no (.slice none 0 0))
      obtain ⟨W1, hw1⟩ : ∃ x, W0.alloc (exO 0 0 no (.slice none 0 0)) = x := ⟨_, rfl⟩
      rw [hw1] at e1 n1 ⊢
      clear hw1
      rw [hz0] at n1
      refine hK.out _ _ (fun _ => e1) ?_
      clear hK K
      try simp only [Act.put, List.getElem_toArray, List.getElem_cons_zero, List.getElem_cons_succ, List.setIfInBounds_toArray, List.set_cons_zero, List.set_cons_succ]
      refine AnyL.next 9 (by kernel_rfl) rfl (fun K hK => ?_)
      obtain ⟨y0, y1, y2, y3⟩ := box4 n1
      have f0 := box_frozen n1 0
      have f1 := box_frozen n1 1
      have f2 := box_frozen n1 2
      have f3 := box_frozen n1 3
      go_simp
      refine hK.out _ _ (fun h => absurd rfl h) ?_
      clear hK K
      try simp only [Act.put, List.getElem_toArray, List.getElem_cons_zero, List.getElem_cons_succ, List.setIfInBounds_toArray, List.set_cons_zero, List.set_cons_succ]
      refine AnyL.done (by kernel_rfl) ?_
      go_wp2_with fail
      go_meet
      refine ⟨rfl, (heap_set ((heap_set ((heap_set ((heap_set n1 0 _).trans rfl) 1 _).trans rfl) 2 _).trans rfl) 3 _).trans rfl, ?_⟩
      exact (((e1.setCell (p := ⟨w.heap.size + 2, 0, none⟩) (Nat.le_of_eq mz) _).setCell (p := ⟨w.heap.size + 2, 1, none⟩) (Nat.le_of_eq mz) _).setCell (p := ⟨w.heap.size + 2, 2, none⟩) (Nat.le_of_eq mz) _).setCell (p := ⟨w.heap.size + 2, 3, none⟩) (Nat.le_of_eq mz) _
    · skip
      go_simp
      have e1 := (hS0).alloc (hS0).size (exO 0 0 no (.slice none 0 0))
      have n1 := heap_alloc_new W0 (exO 0 0 no (.slice none 0 0))
      obtain ⟨W1, hw1⟩ : ∃ x, W0.alloc (exO 0 0 no (.slice none 0 0)) = x := ⟨_, rfl⟩
      rw [hw1] at e1 n1 ⊢
      clear hw1
      rw [hz0] at n1
      refine hK.out _ _ (fun _ => e1) ?_
      clear hK K
      try simp only [Act.put, List.getElem_toArray, List.getElem_cons_zero, List.getElem_cons_succ, List.setIfInBounds_toArray, List.set_cons_zero, List.set_cons_succ]
      refine AnyL.next 6 (by kernel_rfl) rfl (fun K hK => ?_)
      go_simp
      go_at_call 6
      refine (small_any s _ hs).mono ?_
      rintro e' w6 ⟨rfl, rfl⟩
      go_wp2_with fail
      refine hK.out _ _ (fun _ => e1) ?_
      clear hK K
      try simp only [Act.put, List.getElem_toArray, List.getElem_cons_zero, List.getElem_cons_succ, List.setIfInBounds_toArray, List.set_cons_zero, List.set_cons_succ]
      refine AnyL.take 7 (.agg #[.int .i64 op, .int .i64 n, .string (vS s), .slice none 0 0]) rfl (by kernel_rfl) (by kernel_rfl) (by kernel_rfl) (by kernel_rfl) (fun _ _ _ h => h) (Or.inl ⟨by rfl, ?_⟩) (by assumption) ?_
      · intro W' hSw
        go_simp
      try simp only [Act.put, List.getElem_toArray, List.getElem_cons_zero, List.getElem_cons_succ, List.setIfInBounds_toArray, List.set_cons_zero, List.set_cons_succ]
      refine AnyL.next 9 (by kernel_rfl) rfl (fun K hK => ?_)
      obtain ⟨y0, y1, y2, y3⟩ := box4 n1
      have f0 := box_frozen n1 0
      have f1 := box_frozen n1 1
      have f2 := box_frozen n1 2
      have f3 := box_frozen n1 3
      go_simp
      refine hK.out _ _ (fun h => absurd rfl h) ?_
      clear hK K
      try simp only [Act.put, List.getElem_toArray, List.getElem_cons_zero, List.getElem_cons_succ, List.setIfInBounds_toArray, List.set_cons_zero, List.set_cons_succ]
      refine AnyL.done (by kernel_rfl) ?_
      go_wp2_with fail
      go_meet
      refine ⟨rfl, (heap_set ((heap_set ((heap_set ((heap_set n1 0 _).trans rfl) 1 _).trans rfl) 2 _).trans rfl) 3 _).trans rfl, ?_⟩
      exact (((e1.setCell (p := ⟨w.heap.size + 2, 0, none⟩) (Nat.le_of_eq mz) _).setCell (p := ⟨w.heap.size + 2, 1, none⟩) (Nat.le_of_eq mz) _).setCell (p := ⟨w.heap.size + 2, 2, none⟩) (Nat.le_of_eq mz) _).setCell (p := ⟨w.heap.size + 2, 3, none⟩) (Nat.le_of_eq mz) _
  case rest =>
    obtain ⟨rfl, m2, hx⟩ := hcut
    have hlt3 := lt_heap m2
    have HST := Lib.hid (⟨0, .nil, l, none, 0, [], rfl, by have := HL.out; omega, rfl, rfl, by omega, ht, by simpa [HL.out] using HROW.out, (hx.block _ (by omega)).trans m0, (hx.block _ (by omega)).trans m1, m2, World.ownsRow_nil _ _ _ _, rfl, mb.trans (hx.mono mb.size)⟩ : SmRel w op n s A cap l d len K (.int .i64 0) wc)
    clear m0 m1 m2 mb mz hx hlt3 HBX
    go_upto_region 2 with fail
    go_wp2
    go_loopw [6] (fun i wr => SmRel w op n s A cap l d len K i wr) (fun i _ => len - (intOf i).toNat)
    case atStart => exact HST.out
    case round =>
      obtain ⟨k, pre, r, X, c, cs, rfl, hk, hl, hpk, hrK, hrt, hr1, b0, b1, b2, hown, hcell, hlow⟩ := hrel
      obtain ⟨y0, y1, y2, y3⟩ := box4 b0
      by_cases hgo : 0 < r.len ∧ 0 < d
      · obtain ⟨hr0, hd0⟩ := hgo
        cases r with
        | nil => simp [ES.len] at hr0
        | cons op1 n1 s1 l1 r =>
          obtain ⟨d1, hd1⟩ : ∃ d1, d = d1 + 1 := ⟨d - 1, by omega⟩
          have HD := Lib.hid hd1
          obtain ⟨b, o, rfl, hb, c0, c1, c2, ⟨v3, c3, h3⟩, h4, hr⟩ := hr1 hr0
          have d0 := (hlow.cell (p := ⟨b, o + k * 4, none⟩) hb).trans c0
          have d1' := (hlow.cell (p := ⟨b, o + k * 4 + 1, none⟩) hb).trans c1
          have d2 := (hlow.cell (p := ⟨b, o + k * 4 + 2, none⟩) hb).trans c2
          have d3 := (hlow.cell (p := ⟨b, o + k * 4 + 3, none⟩) hb).trans c3
          obtain ⟨⟨hth1, hth2⟩, hth3, hth4⟩ := hrt
          have hcn : l1.cnt < K ∧ r.cnt ≤ K := by simp only [ES.cnt] at hrK; omega
          have hlt : k < len := by simp [ES.len] at hk; omega
          have HE := Lib.hid (fun (z : Int) (hz : z = (d1 : Int)) => (hz ▸ ih op1 n1 s1 v3 l1 d1 wr hcn.1 (EV.below h3 hlow hlow.size) hth2 hth3 h4 hth1 (by omega) : Calls Try.prog 11 #[.agg #[.int .i64 op1, .int .i64 n1, .string s1, v3], .int .i64 z] wr _))
          obtain ⟨A3, cap3, rfl, _⟩ := id h3
          have hbl := lt_heap b2
          have HB2 := Lib.hid b2
          have HO := Lib.hid hown
          have HLO := Lib.hid hlow
          have HCE := Lib.hid hcell
          have HK := Lib.hid hk
          have HR := Lib.hid hr
          have HLL := Lib.hid hl
          have HPK := Lib.hid hpk
          have HB1 := Lib.hid b1
          have HB0 := Lib.hid b0
          clear hd1 c0 c1 c2 c3 h3 hr1 b0 b1 b2 hown hlow hcell hk hr hl hpk hr0
          go_wp2_with (first
            | (go_at_call 11; ((with_reducible refine (HE.out _ (by have := HD.out; omega)).mono ?_); rintro e w6 ⟨⟨v6, rfl, ⟨A6, k6, c6, rfl⟩, hrob⟩, hb6⟩; have q2 := (hb6.block _ hbl).trans HB2.out; have z0 := (box4 q2).2.2.2; have zl := lt_heap q2; have own6 := Lib.hid (HO.out.kept (row := none) ⟨hb6.os, hb6.tape, hb6.output, hb6.size, fun q hq _ => hb6.block q hq⟩ (by simp; exact Classical.em _)); have s6 := hb6.size))
            | (at_builtin; refine wp_app_ex rfl rfl ((own6.out.alloc _).alloc _) (by simp only [World.size_alloc]; omega) rfl rfl (new2 _ _ _) ⟨_, _, _, rfl⟩ (by omega) ?_; intro v7 w7 hown7 hg7 hat7; obtain ⟨X7, c7, rfl⟩ := own_form hown7; have q7 := blk_grown (old_at (old_at q2)) hg7 (fun e => by have := (HO.out.lt _ e.symm).1; omega); have z7 := (box4 q7).2.2.2; have zf := box_frozen q7 3; have zl7 := lt_heap q7))
          go_roundw
          case rel =>
            have t6 : Below wr.heap.size wr ((w6.alloc (exO op1 n1 (vS s1) (.slice A6 k6 c6))).alloc (exO op1 n1 (vS s1) (.slice A6 k6 c6))) := (hb6.alloc s6 _).alloc (Nat.le_trans s6 (by simp)) _
            have hlo3 : w.heap.size + 3 ≤ wr.heap.size := hbl
            have hg7' := hg7
            have ob : ∀ b, (Value.slice X k c).ownBlock = some b → w.heap.size + 3 ≤ b ∧ b < wr.heap.size := fun b e => HO.out.lt b e
            have blk7 : ∀ b, b < wr.heap.size → some b ≠ (Value.slice X k c).ownBlock → w7.heap[b]? = wr.heap[b]? := fun b hb hne => (hg7.block b (Nat.lt_of_lt_of_le hb t6.size) hne).trans (t6.block b hb)
            have lo7 : ∀ b, b < w.heap.size + 3 → w7.heap[b]? = wr.heap[b]? := fun b hb => blk7 b (by omega) (fun e => by have := (ob b e.symm).1; omega)
            have s7 : ((w6.alloc (exO op1 n1 (vS s1) (.slice A6 k6 c6))).alloc (exO op1 n1 (vS s1) (.slice A6 k6 c6))).heap.size ≤ w7.heap.size := hg7.size
            have hz7 : wr.heap.size ≤ w7.heap.size := Nat.le_trans t6.size s7
            have new7 : ∀ b, (Value.slice X7 (k + 1) c7).ownBlock = some b → (Value.slice X k c).ownBlock = some b ∨ w6.heap.size ≤ b := fun b e => by
              rcases hat7 with h | h
              · exact Or.inl (h.symm.trans e)
              · rw [h] at e; injection e with e; refine Or.inr ?_; simp only [World.size_alloc] at e; omega
            have hset : Below (w.heap.size + 2) w7 (w7.setCell ⟨w.heap.size + 2, 3, none⟩ (.slice X7 (k + 1) c7)) := Below.setCell (Below.refl (w.heap.size + 2) w7) (p := ⟨w.heap.size + 2, 3, none⟩) (Nat.le_refl _) _
            have t66 : Below w6.heap.size w6 ((w6.alloc (exO op1 n1 (vS s1) (.slice A6 k6 c6))).alloc (exO op1 n1 (vS s1) (.slice A6 k6 c6))) := ((Below.refl _ _).alloc (Nat.le_refl _) _).alloc (by simp) _
            have blk76 : ∀ b, b < w6.heap.size → some b ≠ (Value.slice X k c).ownBlock → w7.heap[b]? = w6.heap[b]? := fun b hb hne => (hg7.block b (Nat.lt_of_lt_of_le hb t66.size) hne).trans (t66.block b hb)
            have hs8 : (w7.setCell ⟨w.heap.size + 2, 3, none⟩ (.slice X7 (k + 1) c7)).heap.size = w7.heap.size := by simp
            have blk8 : ∀ b, w.heap.size + 3 ≤ b → (w7.setCell ⟨w.heap.size + 2, 3, none⟩ (.slice X7 (k + 1) c7)).heap[b]? = w7.heap[b]? := fun b hb => Below.heap_setCell _ _ _ _ (by simp only; omega)
            have rnew : Rob (w.heap.size + 3) (Value.slice X7 (k + 1) c7).ownBlock (w7.setCell ⟨w.heap.size + 2, 3, none⟩ (.slice X7 (k + 1) c7)) (.slice A6 k6 c6) (l1.sm d1) :=
              (hrob.new hlo3 (g := (Value.slice X k c).ownBlock) (fun b e => (ob b e).2)).step (by rw [hs8]; exact Nat.le_trans t66.size s7) (fun b h1 h2 h3 => (blk8 b h1).trans (blk76 b h2 h3)) new7
            have hce := HCE.out.mono (fun v l (h : Rob _ _ _ v l) => h.step (W1 := w7.setCell ⟨w.heap.size + 2, 3, none⟩ (.slice X7 (k + 1) c7)) (g1 := (Value.slice X7 (k + 1) c7).ownBlock) (by rw [hs8]; exact hz7) (fun b h1 h2 h3 => (blk8 b h1).trans (blk7 b h2 h3)) (fun b e => (new7 b e).imp_right fun h => Nat.le_trans s6 h))
            have hpk := HPK.out
            have hne7 : some (w.heap.size + 2) ≠ (Value.slice X7 (k + 1) c7).ownBlock := fun e => by have := (hown7.lt _ e.symm).1; omega
            have low7 : Below w.heap.size w w7 := (HLO.out.trans (t6.mono HLO.out.size)).grown hg7 (Nat.le_trans HLO.out.size t6.size) (fun q e => by have := (ob q e).1; omega)
            refine ⟨k + 1, pre.app (.cons op1 n1 s1 l1 .nil), r, X7, c7, cs ++ [.int .i64 op1, .int .i64 n1, .string (vS s1), .slice A6 k6 c6], by go_num, by have := HK.out; simp [ES.len] at this; omega, by rw [ES.app_assoc]; exact HLL.out, ?_, hcn.2, hth4, fun _ => ⟨b, o, rfl, hb, by rw [show o + (k + 1) * 4 = o + k * 4 + 4 by omega]; exact HR.out⟩, (hset.block w.heap.size (by omega)).trans ((lo7 w.heap.size (by omega)).trans HB0.out), (hset.block (w.heap.size + 1) (by omega)).trans ((lo7 (w.heap.size + 1) (by omega)).trans HB1.out), (heap_set q7 3 _).trans rfl, own_set hown7 (a := ⟨w.heap.size + 2, 3, none⟩) hne7 _, ?_, Below.setCell low7 (p := ⟨w.heap.size + 2, 3, none⟩) (Nat.le_add_right _ _) _⟩
            · rw [HD.out] at hpk ⊢
              rw [ES.sm_app, ES.app_len, hpk]; rfl
            · rw [HD.out] at hce ⊢
              rw [ES.sm_app]
              exact ES.Cells.app (ES.Cells.one rnew ⟨_, _, _, rfl⟩ ⟨h4.1, h4.2.1, by rw [vS_size]; omega⟩) hce
          case measure => simp [intOf]; omega
      · have hfin : l.sm d = pre.sm d := by
          rcases Nat.eq_zero_or_pos d with h0 | h0
          · rw [h0, ES.sm_zero, ES.sm_zero]
          · cases r with
            | nil => rw [hl, ES.app_nil]
            | cons _ _ _ _ _ => exact absurd ⟨by simp [ES.len], h0⟩ hgo
        have hcase : (k = len) ∨ (k < len ∧ d = 0) := by omega
        have HFIN := Lib.hid hfin
        have HO := Lib.hid hown
        have HLO := Lib.hid hlow
        have HCE := Lib.hid hcell
        have HPK := Lib.hid hpk
        have HB1 := Lib.hid b1
        obtain ⟨f0, f1, f2, f3⟩ := box4 b2
        have g0 := box_frozen b1 0
        have g1 := box_frozen b1 1
        have g2 := box_frozen b1 2
        have g3 := box_frozen b1 3
        obtain ⟨e0, e1, e2, e3⟩ := box4 b1
        have gl := lt_heap b1
        clear hfin hown hlow hcell hpk b0 b1 b2 hl hrt hr1 hgo hrK hk
        rcases hcase with hkl | ⟨hkl, hd00⟩
        · subst hkl
          go_wp2
          obtain ⟨W9, hW9⟩ : ∃ W, (((wr.setCell ⟨w.heap.size + 1, 0, none⟩ (.int .i64 op)).setCell ⟨w.heap.size + 1, 1, none⟩ (.int .i64 n)).setCell ⟨w.heap.size + 1, 2, none⟩ (.string (vS s))).setCell ⟨w.heap.size + 1, 3, none⟩ (.slice X k c) = W := ⟨_, rfl⟩
          obtain ⟨r0, r1, r2⟩ := plain_end HB1.out HO.out HCE.out HLO.out HPK.out W9 hW9
          rw [hW9]
          obtain ⟨z0, z1, z2, z3⟩ := box4 r0
          exact bodyPost_ret (v := .agg #[.int .i64 op, .int .i64 n, .string (vS s), .slice X k c]) (by simp [results, Try.results11, go_sem, z0, z1, z2, z3]) rfl ⟨⟨_, rfl, ⟨_, _, _, rfl⟩, by rw [HFIN.out]; exact r1⟩, r2⟩
        · go_wp2
          obtain ⟨W9, hW9⟩ : ∃ W, (((wr.setCell ⟨w.heap.size + 1, 0, none⟩ (.int .i64 op)).setCell ⟨w.heap.size + 1, 1, none⟩ (.int .i64 n)).setCell ⟨w.heap.size + 1, 2, none⟩ (.string (vS s))).setCell ⟨w.heap.size + 1, 3, none⟩ (.slice X k c) = W := ⟨_, rfl⟩
          obtain ⟨r0, r1, r2⟩ := plain_end HB1.out HO.out HCE.out HLO.out HPK.out W9 hW9
          rw [hW9]
          obtain ⟨z0, z1, z2, z3⟩ := box4 r0
          exact bodyPost_ret (v := .agg #[.int .i64 op, .int .i64 n, .string (vS s), .slice X k c]) (by simp [results, Try.results11, go_sem, z0, z1, z2, z3]) rfl ⟨⟨_, rfl, ⟨_, _, _, rfl⟩, by rw [HFIN.out]; exact r1⟩, r2⟩
theorem smallX_all : ∀ K, SmHas K
  | 0 => fun _ _ _ _ _ _ _ h => absurd h (Nat.not_lt_zero _)
  | K + 1 => smallX_step K (smallX_all K)
end Go.Proofs.Ytacleafbjbhcgaa
