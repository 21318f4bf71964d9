/-
  smallStmts: statements with all names small, to a depth.
-/
import Derived.Test.YtacleafbjbhcgaaLbSn
namespace Go.Proofs.Ytacleafbjbhcgaa
open Go Go.RowKit Go.Lib

def SnHas (K : Nat) : Prop := ∀ (v : Value) (l : SS) (d : Nat) (w : World), l.cnt < K → SV w.heap.size w v l → l.len * 104 ≤ 140737488351232 → l.thin0 → d ≤ 70 →
  Calls Try.prog 5 #[v, .int .i64 d] w fun e w' => (∃ v', e = .returned v' ∧ RobS w.heap.size none w' v' (l.sm d)) ∧ Below w.heap.size w w'
def SnRel (w : World) (A : Option Addr) (l : SS) (d len K : Nat) (v5 i : Value) (wr : World) : Prop :=
  ∃ (k : Nat) (pre r : SS) (X : Option Addr) (c : Nat) (cs : List Value), v5 = .slice X k c ∧ i = .int .i64 k ∧ k + r.len = len ∧ l = pre.app r ∧ (pre.sm d).len = k ∧ r.cnt ≤ K ∧ r.thin0 ∧ (0 < r.len → ∃ b o, A = some ⟨b, o, none⟩ ∧ b < w.heap.size ∧ r.In w.heap.size w b (o + k * 6)) ∧
    wr.ownsRow w.heap.size 40 6 (.slice X k c) k cs ∧ (pre.sm d).CellsG (Rob w.heap.size (Value.ownBlock (.slice X k c)) wr) (RobS w.heap.size (Value.ownBlock (.slice X k c)) wr) cs ∧ Below w.heap.size w wr
/-- The inner loop: the expressions of one statement. -/
def SiRel (w wr : World) (op n : Int) (s : ByteArray) (A : Option Addr) (l : ES) (D len K : Nat) (i : Value) (wi : World) : Prop :=
  ∃ (k : Nat) (pre r : ES) (X : Option Addr) (c : Nat) (cs : List Value), i = .int .i64 k ∧ k + r.len = len ∧ l = pre.app r ∧ (pre.sm (D + 1)).len = k ∧ r.cnt ≤ K ∧ r.thin0 ∧ (0 < r.len → ∃ b o, A = some ⟨b, o, none⟩ ∧ b < w.heap.size ∧ r.In w.heap.size w b (o + k * 4)) ∧
    wi.heap[wr.heap.size]? = some (stO op s n (.slice X k c) (.slice none 0 0) (.slice none 0 0)) ∧ wi.ownsRow (wr.heap.size + 1) 37 4 (.slice X k c) k cs ∧ (pre.sm (D + 1)).Cells (Rob (wr.heap.size + 1) (Value.ownBlock (.slice X k c)) wi) cs ∧ Below wr.heap.size wr wi

set_option maxRecDepth 100000 in
set_option maxHeartbeats 8000000 in
theorem smallS_step (K : Nat) (ih : SnHas K) : SnHas (K + 1) := by
  intro v l d w hcnt hv hth ht hd
  obtain ⟨A, cap, rfl, hc1, hc2, hrow⟩ := hv
  obtain ⟨len, hlen⟩ : ∃ len, l.len = len := ⟨_, rfl⟩
  rw [hlen] at hc1 hrow hth ⊢
  have HL := Lib.hid hlen
  have HROW := Lib.hid hrow
  have HST := Lib.hid (⟨0, .nil, l, none, 0, [], rfl, rfl, by omega, rfl, rfl, by omega, ht, by simpa [hlen] using hrow, World.ownsRow_nil _ _ _ _, rfl, Below.refl _ _⟩ : SnRel w A l d len K (.slice none 0 0) (.int .i64 0) w)
  clear hlen hrow
  go_enter Try.func5, Try.ntmps5
  go_upto_region 2 with fail
  go_wp2
  go_loopw [5, 6] (fun v5 i wr => SnRel w A l d len K v5 i wr) (fun _ i _ => len - (intOf i).toNat)
  case atStart => exact HST.out
  case round =>
    obtain ⟨wo, rfl⟩ : ∃ W, W = wr := ⟨_, rfl⟩
    obtain ⟨k, pre, r, X, c, cs, rfl, rfl, hk, hl, hpk, hrK, hrt, hr1, hown, hcell, hlow⟩ := hrel
    by_cases hgo : 0 < r.len ∧ 0 < d
    · obtain ⟨hr0, hd0⟩ := hgo
      cases r with
      | nil => simp [SS.len] at hr0
      | cons op1 s1 n1 l1 x1 y1 r =>
        obtain ⟨d1, hd1⟩ : ∃ d1, d = d1 + 1 := ⟨d - 1, by omega⟩
        have HD := Lib.hid hd1
        have wd : IntKind.i64.wrap ((d : Int) - 1) = (d1 : Int) := by rw [IntWalk.i64_in _ (by omega)]; omega
        obtain ⟨b, o, rfl, hb, c0, c1, c2, ⟨v3, c3, h3⟩, ⟨v4, c4, h4⟩, ⟨v5, c5, h5⟩, h6, hr⟩ := hr1 hr0
        obtain ⟨⟨hth1, hth2, hth3, hth4⟩, htl, htx, hty, htr⟩ := hrt
        have hcn : l1.cnt < K + 1 ∧ x1.cnt < K ∧ y1.cnt < K ∧ r.cnt ≤ K := by simp only [SS.cnt] at hrK; omega
        have hlt : k < len := by simp [SS.len] at hk; omega
        obtain ⟨A3, cap3, rfl, q31, q32, q33⟩ := id h3
        obtain ⟨A4, cap4, rfl, _⟩ := id h4
        obtain ⟨A5, cap5, rfl, _⟩ := id h5
        obtain ⟨len3, hlen3⟩ : ∃ n, l1.len = n := ⟨_, rfl⟩
        obtain ⟨len4, hlen4⟩ : ∃ n, x1.len = n := ⟨_, rfl⟩
        obtain ⟨len5, hlen5⟩ : ∃ n, y1.len = n := ⟨_, rfl⟩
        have HC := Lib.hid (fun W' (h : Below w.heap.size w W') => (⟨(h.cell (p := ⟨b, o + k * 6, none⟩) hb).trans c0, (h.cell (p := ⟨b, o + k * 6 + 1, none⟩) hb).trans c1, (h.cell (p := ⟨b, o + k * 6 + 2, none⟩) hb).trans c2, hlen3 ▸ (h.cell (p := ⟨b, o + k * 6 + 3, none⟩) hb).trans c3, hlen4 ▸ (h.cell (p := ⟨b, o + k * 6 + 4, none⟩) hb).trans c4, hlen5 ▸ (h.cell (p := ⟨b, o + k * 6 + 5, none⟩) hb).trans c5⟩ : W'.cell? ⟨b, o + k * 6, none⟩ = some (.int .i64 op1) ∧ W'.cell? ⟨b, o + k * 6 + 1, none⟩ = some (.string s1) ∧ W'.cell? ⟨b, o + k * 6 + 2, none⟩ = some (.int .i64 n1) ∧ W'.cell? ⟨b, o + k * 6 + 3, none⟩ = some (.slice A3 len3 cap3) ∧ W'.cell? ⟨b, o + k * 6 + 4, none⟩ = some (.slice A4 len4 cap4) ∧ W'.cell? ⟨b, o + k * 6 + 5, none⟩ = some (.slice A5 len5 cap5)))
        have HX := Lib.hid (fun (wz : World) (hz : Below w.heap.size w wz) => (ih (.slice A4 len4 cap4) x1 d1 wz hcn.2.1 (by rw [← hlen4]; exact SV.below h4 hz hz.size) hth3 htx (by omega)))
        have HY := Lib.hid (fun (wz : World) (hz : Below w.heap.size w wz) => (ih (.slice A5 len5 cap5) y1 d1 wz hcn.2.2.1 (by rw [← hlen5]; exact SV.below h5 hz hz.size) hth4 hty (by omega)))
        have HO := Lib.hid hown
        have HLO := Lib.hid hlow
        have HCE := Lib.hid hcell
        have HK := Lib.hid hk
        have HR := Lib.hid hr
        have HLL := Lib.hid hl
        have HPK := Lib.hid hpk
        have H33 := Lib.hid q33
        have HH6 := Lib.hid h6
        have HTR := Lib.hid htr
        have HCN := Lib.hid hcn
        have HTL := Lib.hid htl
        have HL3 := Lib.hid hlen3
        rw [hlen3] at hth2 q31
        have HT2 := Lib.hid hth2
        have HST3 := Lib.hid (fun (wc : World) (m2 : wc.heap[wo.heap.size]? = some (stO op1 (vS s1) n1 (.slice none 0 0) (.slice none 0 0) (.slice none 0 0))) (hx : Below wo.heap.size wo wc) => (⟨0, .nil, l1, none, 0, [], rfl, by omega, rfl, rfl, by omega, htl, by simpa [hlen3] using q33, m2, World.ownsRow_nil _ _ _ _, rfl, hx⟩ : SiRel w wo op1 n1 (vS s1) A3 l1 d len3 K (.int .i64 0) wc))
        clear hd1 c0 c1 c2 c3 c4 c5 h3 h4 h5 hr1 hown hlow hcell hk hr hl hpk hr0 q33 h6 htr hcn htl htx hty hlen3 hlen4 hlen5 hrK HROW
        go_upto_region 5 with fail
        have HBX := Lib.hid (fun W' (h : Below wo.heap.size wo W') => (show W'.cell? ⟨b, o + k * 6, none⟩ = some (.int .i64 op1) ∧ W'.cell? ⟨b, o + k * 6 + 1, none⟩ = some (.string s1) ∧ W'.cell? ⟨b, o + k * 6 + 2, none⟩ = some (.int .i64 n1) from by
          obtain ⟨t0, t1, t2, -⟩ := HC.out W' (HLO.out.trans (h.mono HLO.out.size))
          exact ⟨t0, t1, t2⟩))
        go_cut [7] (fun v wx => v = .pointer (some ⟨wo.heap.size, 0, none⟩) ∧ wx.heap[wo.heap.size]? = some (stO op1 (vS s1) n1 (.slice none 0 0) (.slice none 0 0) (.slice none 0 0)) ∧ Below wo.heap.size wo wx)
        case first =>
          have hS0 : Below wo.heap.size wo wo.drew := belowD (Below.refl _ _)
          have hz0 : wo.drew.heap.size = wo.heap.size := rfl
          obtain ⟨W0, hW0⟩ : ∃ x, wo.drew = x := ⟨_, rfl⟩
          refine wp_region_late (fun w' => Below wo.heap.size wo w') 18 (by kernel_rfl) ?_
          rw [hW0] at hS0 hz0 ⊢
          clear hW0
          refine AnyL.take 0 (.slice (some ⟨b, o, none⟩) len cap) rfl (by kernel_rfl) (by kernel_rfl) (by kernel_rfl) (by kernel_rfl) (fun _ _ _ h => h) (Or.inl ⟨by rfl, ?_⟩) (by assumption) ?_
          · intro W' hSw
            obtain ⟨l0, l1, l2⟩ := HBX.out W' hSw
            go_simp
          try simp only [Act.put, List.getElem_toArray, List.getElem_cons_zero, List.getElem_cons_succ, List.setIfInBounds_toArray, List.set_cons_zero, List.set_cons_succ]
          refine AnyL.take 1 (.int .i64 (k : Int)) rfl (by kernel_rfl) (by kernel_rfl) (by kernel_rfl) (by kernel_rfl) (fun _ _ _ h => h) (Or.inl ⟨by rfl, ?_⟩) (by assumption) ?_
          · intro W' hSw
            obtain ⟨l0, l1, l2⟩ := HBX.out W' hSw
            go_simp
          try simp only [Act.put, List.getElem_toArray, List.getElem_cons_zero, List.getElem_cons_succ, List.setIfInBounds_toArray, List.set_cons_zero, List.set_cons_succ]
          refine AnyL.take 2 (.pointer (some ⟨b, o + k * 6, none⟩)) rfl (by kernel_rfl) (by kernel_rfl) (by kernel_rfl) (by kernel_rfl) (fun _ _ _ h => h) (Or.inl ⟨by rfl, ?_⟩) (by assumption) ?_
          · intro W' hSw
            obtain ⟨l0, l1, l2⟩ := HBX.out W' hSw
            go_simp
          try simp only [Act.put, List.getElem_toArray, List.getElem_cons_zero, List.getElem_cons_succ, List.setIfInBounds_toArray, List.set_cons_zero, List.set_cons_succ]
          refine AnyL.take 3 (.pointer (some ⟨b, o + k * 6, none⟩)) rfl (by kernel_rfl) (by kernel_rfl) (by kernel_rfl) (by kernel_rfl) (fun _ _ _ h => h) (Or.inl ⟨by rfl, ?_⟩) (by assumption) ?_
          · intro W' hSw
            obtain ⟨l0, l1, l2⟩ := HBX.out W' hSw
            go_simp
          try simp only [Act.put, List.getElem_toArray, List.getElem_cons_zero, List.getElem_cons_succ, List.setIfInBounds_toArray, List.set_cons_zero, List.set_cons_succ]
          refine AnyL.take 4 (.int .i64 op1) rfl (by kernel_rfl) (by kernel_rfl) (by kernel_rfl) (by kernel_rfl) (fun _ _ _ h => h) (Or.inl ⟨by rfl, ?_⟩) (by assumption) ?_
          · intro W' hSw
            obtain ⟨l0, l1, l2⟩ := HBX.out W' hSw
            go_simp
          try simp only [Act.put, List.getElem_toArray, List.getElem_cons_zero, List.getElem_cons_succ, List.setIfInBounds_toArray, List.set_cons_zero, List.set_cons_succ]
          refine AnyL.take 5 (.slice (some ⟨b, o, none⟩) len cap) rfl (by kernel_rfl) (by kernel_rfl) (by kernel_rfl) (by kernel_rfl) (fun _ _ _ h => h) (Or.inl ⟨by rfl, ?_⟩) (by assumption) ?_
          · intro W' hSw
            obtain ⟨l0, l1, l2⟩ := HBX.out W' hSw
            go_simp
          try simp only [Act.put, List.getElem_toArray, List.getElem_cons_zero, List.getElem_cons_succ, List.setIfInBounds_toArray, List.set_cons_zero, List.set_cons_succ]
          refine AnyL.take 6 (.int .i64 (k : Int)) rfl (by kernel_rfl) (by kernel_rfl) (by kernel_rfl) (by kernel_rfl) (fun _ _ _ h => h) (Or.inl ⟨by rfl, ?_⟩) (by assumption) ?_
          · intro W' hSw
            obtain ⟨l0, l1, l2⟩ := HBX.out W' hSw
            go_simp
          try simp only [Act.put, List.getElem_toArray, List.getElem_cons_zero, List.getElem_cons_succ, List.setIfInBounds_toArray, List.set_cons_zero, List.set_cons_succ]
          refine AnyL.take 7 (.pointer (some ⟨b, o + k * 6, none⟩)) rfl (by kernel_rfl) (by kernel_rfl) (by kernel_rfl) (by kernel_rfl) (fun _ _ _ h => h) (Or.inl ⟨by rfl, ?_⟩) (by assumption) ?_
          · intro W' hSw
            obtain ⟨l0, l1, l2⟩ := HBX.out W' hSw
            go_simp
          try simp only [Act.put, List.getElem_toArray, List.getElem_cons_zero, List.getElem_cons_succ, List.setIfInBounds_toArray, List.set_cons_zero, List.set_cons_succ]
          refine AnyL.take 8 (.pointer (some ⟨b, o + k * 6 + 2, none⟩)) rfl (by kernel_rfl) (by kernel_rfl) (by kernel_rfl) (by kernel_rfl) (fun _ _ _ h => h) (Or.inl ⟨by rfl, ?_⟩) (by assumption) ?_
          · intro W' hSw
            obtain ⟨l0, l1, l2⟩ := HBX.out W' hSw
            go_simp
          try simp only [Act.put, List.getElem_toArray, List.getElem_cons_zero, List.getElem_cons_succ, List.setIfInBounds_toArray, List.set_cons_zero, List.set_cons_succ]
          refine AnyL.take 9 (.int .i64 n1) rfl (by kernel_rfl) (by kernel_rfl) (by kernel_rfl) (by kernel_rfl) (fun _ _ _ h => h) (Or.inl ⟨by rfl, ?_⟩) (by assumption) ?_
          · intro W' hSw
            obtain ⟨l0, l1, l2⟩ := HBX.out W' hSw
            go_simp
          try simp only [Act.put, List.getElem_toArray, List.getElem_cons_zero, List.getElem_cons_succ, List.setIfInBounds_toArray, List.set_cons_zero, List.set_cons_succ]
          refine AnyL.take 10 (.slice (some ⟨b, o, none⟩) len cap) rfl (by kernel_rfl) (by kernel_rfl) (by kernel_rfl) (by kernel_rfl) (fun _ _ _ h => h) (Or.inl ⟨by rfl, ?_⟩) (by assumption) ?_
          · intro W' hSw
            obtain ⟨l0, l1, l2⟩ := HBX.out W' hSw
            go_simp
          try simp only [Act.put, List.getElem_toArray, List.getElem_cons_zero, List.getElem_cons_succ, List.setIfInBounds_toArray, List.set_cons_zero, List.set_cons_succ]
          refine AnyL.take 11 (.int .i64 (k : Int)) rfl (by kernel_rfl) (by kernel_rfl) (by kernel_rfl) (by kernel_rfl) (fun _ _ _ h => h) (Or.inl ⟨by rfl, ?_⟩) (by assumption) ?_
          · intro W' hSw
            obtain ⟨l0, l1, l2⟩ := HBX.out W' hSw
            go_simp
          try simp only [Act.put, List.getElem_toArray, List.getElem_cons_zero, List.getElem_cons_succ, List.setIfInBounds_toArray, List.set_cons_zero, List.set_cons_succ]
          refine AnyL.take 12 (.pointer (some ⟨b, o + k * 6, none⟩)) rfl (by kernel_rfl) (by kernel_rfl) (by kernel_rfl) (by kernel_rfl) (fun _ _ _ h => h) (Or.inl ⟨by rfl, ?_⟩) (by assumption) ?_
          · intro W' hSw
            obtain ⟨l0, l1, l2⟩ := HBX.out W' hSw
            go_simp
          try simp only [Act.put, List.getElem_toArray, List.getElem_cons_zero, List.getElem_cons_succ, List.setIfInBounds_toArray, List.set_cons_zero, List.set_cons_succ]
          refine AnyL.take 13 (.pointer (some ⟨b, o + k * 6 + 1, none⟩)) rfl (by kernel_rfl) (by kernel_rfl) (by kernel_rfl) (by kernel_rfl) (fun _ _ _ h => h) (Or.inl ⟨by rfl, ?_⟩) (by assumption) ?_
          · intro W' hSw
            obtain ⟨l0, l1, l2⟩ := HBX.out W' hSw
            go_simp
          try simp only [Act.put, List.getElem_toArray, List.getElem_cons_zero, List.getElem_cons_succ, List.setIfInBounds_toArray, List.set_cons_zero, List.set_cons_succ]
          refine AnyL.take 14 (.string s1) rfl (by kernel_rfl) (by kernel_rfl) (by kernel_rfl) (by kernel_rfl) (fun _ _ _ h => h) (Or.inl ⟨by rfl, ?_⟩) (by assumption) ?_
          · intro W' hSw
            obtain ⟨l0, l1, l2⟩ := HBX.out W' hSw
            go_simp
          try simp only [Act.put, List.getElem_toArray, List.getElem_cons_zero, List.getElem_cons_succ, List.setIfInBounds_toArray, List.set_cons_zero, List.set_cons_succ]
          refine AnyL.both 15 17 (by kernel_rfl) rfl rfl (fun K hK => ?_) (fun K hK => ?_)
          · go_simp
            go_at_call 6
            refine (small_any s1 _ hth1).mono ?_
            rintro e' w6 ⟨rfl, rfl⟩
            go_wp2_with fail
            refine hK.out _ _ (fun _ => hS0) ?_
            clear hK K
            try simp only [Act.put, List.getElem_toArray, List.getElem_cons_zero, List.getElem_cons_succ, List.setIfInBounds_toArray, List.set_cons_zero, List.set_cons_succ]
            refine AnyL.take 16 (.agg #[.int .i64 op1, .string (vS s1), .int .i64 n1, .slice none 0 0, .slice none 0 0, .slice none 0 0]) rfl (by kernel_rfl) (by kernel_rfl) (by kernel_rfl) (by kernel_rfl) (fun _ _ _ h => h) (Or.inl ⟨by rfl, ?_⟩) (by assumption) ?_
            · intro W' hSw
              skip
              go_simp
            try simp only [Act.put, List.getElem_toArray, List.getElem_cons_zero, List.getElem_cons_succ, List.setIfInBounds_toArray, List.set_cons_zero, List.set_cons_succ]
            refine AnyL.next 17 (by kernel_rfl) rfl (fun K hK => ?_)
            go_simp
            have e1 := (hS0).alloc (hS0).size (stO 0 no 0 (.slice none 0 0) (.slice none 0 0) (.slice none 0 0))
            have n1' := heap_alloc_new W0 (stO 0 no 0 (.slice none 0 0) (.slice none 0 0) (.slice none 0 0))
            obtain ⟨W1, hw1⟩ : ∃ x, W0.alloc (stO 0 no 0 (.slice none 0 0) (.slice none 0 0) (.slice none 0 0)) = x := ⟨_, rfl⟩
            rw [hw1] at e1 n1' ⊢
            clear hw1
            rw [hz0] at n1'
            refine hK.out _ _ (fun _ => e1) ?_
            clear hK K
            try simp only [Act.put, List.getElem_toArray, List.getElem_cons_zero, List.getElem_cons_succ, List.setIfInBounds_toArray, List.set_cons_zero, List.set_cons_succ]
            refine AnyL.next 18 (by kernel_rfl) rfl (fun K hK => ?_)
            obtain ⟨y0, y1, y2, y3, y4, y5⟩ := box6 n1'
            have f0 := box_frozen n1' 0
            have f1 := box_frozen n1' 1
            have f2 := box_frozen n1' 2
            have f3 := box_frozen n1' 3
            have f4 := box_frozen n1' 4
            have f5 := box_frozen n1' 5
            have ly := lt_heap n1'
            go_simp
            refine hK.out _ _ (fun h => absurd rfl h) ?_
            clear hK K
            try simp only [Act.put, List.getElem_toArray, List.getElem_cons_zero, List.getElem_cons_succ, List.setIfInBounds_toArray, List.set_cons_zero, List.set_cons_succ]
            refine AnyL.done (by kernel_rfl) ?_
            go_wp2_with fail
            go_meet
            refine ⟨rfl, (heap_set ((heap_set ((heap_set ((heap_set ((heap_set ((heap_set n1' 0 _).trans rfl) 1 _).trans rfl) 2 _).trans rfl) 3 _).trans rfl) 4 _).trans rfl) 5 _).trans rfl, ?_⟩
            exact (((((e1.setCell (p := ⟨wo.heap.size, 0, none⟩) (Nat.le_refl _) _).setCell (p := ⟨wo.heap.size, 1, none⟩) (Nat.le_refl _) _).setCell (p := ⟨wo.heap.size, 2, none⟩) (Nat.le_refl _) _).setCell (p := ⟨wo.heap.size, 3, none⟩) (Nat.le_refl _) _).setCell (p := ⟨wo.heap.size, 4, none⟩) (Nat.le_refl _) _).setCell (p := ⟨wo.heap.size, 5, none⟩) (Nat.le_refl _) _
          · go_simp
            have e1 := (hS0).alloc (hS0).size (stO 0 no 0 (.slice none 0 0) (.slice none 0 0) (.slice none 0 0))
            have n1' := heap_alloc_new W0 (stO 0 no 0 (.slice none 0 0) (.slice none 0 0) (.slice none 0 0))
            obtain ⟨W1, hw1⟩ : ∃ x, W0.alloc (stO 0 no 0 (.slice none 0 0) (.slice none 0 0) (.slice none 0 0)) = x := ⟨_, rfl⟩
            rw [hw1] at e1 n1' ⊢
            clear hw1
            rw [hz0] at n1'
            refine hK.out _ _ (fun _ => e1) ?_
            clear hK K
            try simp only [Act.put, List.getElem_toArray, List.getElem_cons_zero, List.getElem_cons_succ, List.setIfInBounds_toArray, List.set_cons_zero, List.set_cons_succ]
            refine AnyL.next 15 (by kernel_rfl) rfl (fun K hK => ?_)
            go_simp
            go_at_call 6
            refine (small_any s1 _ hth1).mono ?_
            rintro e' w6 ⟨rfl, rfl⟩
            go_wp2_with fail
            refine hK.out _ _ (fun _ => e1) ?_
            clear hK K
            try simp only [Act.put, List.getElem_toArray, List.getElem_cons_zero, List.getElem_cons_succ, List.setIfInBounds_toArray, List.set_cons_zero, List.set_cons_succ]
            refine AnyL.take 16 (.agg #[.int .i64 op1, .string (vS s1), .int .i64 n1, .slice none 0 0, .slice none 0 0, .slice none 0 0]) rfl (by kernel_rfl) (by kernel_rfl) (by kernel_rfl) (by kernel_rfl) (fun _ _ _ h => h) (Or.inl ⟨by rfl, ?_⟩) (by assumption) ?_
            · intro W' hSw
              skip
              go_simp
            try simp only [Act.put, List.getElem_toArray, List.getElem_cons_zero, List.getElem_cons_succ, List.setIfInBounds_toArray, List.set_cons_zero, List.set_cons_succ]
            refine AnyL.next 18 (by kernel_rfl) rfl (fun K hK => ?_)
            obtain ⟨y0, y1, y2, y3, y4, y5⟩ := box6 n1'
            have f0 := box_frozen n1' 0
            have f1 := box_frozen n1' 1
            have f2 := box_frozen n1' 2
            have f3 := box_frozen n1' 3
            have f4 := box_frozen n1' 4
            have f5 := box_frozen n1' 5
            have ly := lt_heap n1'
            go_simp
            refine hK.out _ _ (fun h => absurd rfl h) ?_
            clear hK K
            try simp only [Act.put, List.getElem_toArray, List.getElem_cons_zero, List.getElem_cons_succ, List.setIfInBounds_toArray, List.set_cons_zero, List.set_cons_succ]
            refine AnyL.done (by kernel_rfl) ?_
            go_wp2_with fail
            go_meet
            refine ⟨rfl, (heap_set ((heap_set ((heap_set ((heap_set ((heap_set ((heap_set n1' 0 _).trans rfl) 1 _).trans rfl) 2 _).trans rfl) 3 _).trans rfl) 4 _).trans rfl) 5 _).trans rfl, ?_⟩
            exact (((((e1.setCell (p := ⟨wo.heap.size, 0, none⟩) (Nat.le_refl _) _).setCell (p := ⟨wo.heap.size, 1, none⟩) (Nat.le_refl _) _).setCell (p := ⟨wo.heap.size, 2, none⟩) (Nat.le_refl _) _).setCell (p := ⟨wo.heap.size, 3, none⟩) (Nat.le_refl _) _).setCell (p := ⟨wo.heap.size, 4, none⟩) (Nat.le_refl _) _).setCell (p := ⟨wo.heap.size, 5, none⟩) (Nat.le_refl _) _
        case rest =>
          obtain ⟨rfl, m2, hx⟩ := hcut
          have HS3 := Lib.hid (HST3.out _ m2 hx)
          clear m2 hx HBX HST3
          go_upto_region 6 with fail
          go_wp2
          go_loopw [8] (fun i wi => SiRel w wo op1 n1 (vS s1) A3 l1 d len3 K i wi) (fun i _ => len3 - (intOf i).toNat)
          case atStart => exact HS3.out
          case round =>
            obtain ⟨k3, pre3, r3, X3, c3, cs3, rfl, hk3, hl3, hpk3, hrK3, hrt3, hr3, hbx, hown3, hcell3, hlow3⟩ := hrel
            have hlw : Below w.heap.size w wr := HLO.out.trans (hlow3.mono HLO.out.size)
            obtain ⟨-, -, -, t3, -, -⟩ := HC.out wr hlw
            have hbl := lt_heap hbx
            obtain ⟨yy0, yy1, yy2, yy3, yy4, yy5⟩ := box6 hbx
            by_cases hr0 : 0 < r3.len
            · cases r3 with
              | nil => simp [ES.len] at hr0
              | cons op2 n2 s2 l2 r3 =>
                obtain ⟨b3, o3, rfl, hb3, e0, e1, e2, ⟨v6, e3, h3⟩, h4, hr⟩ := hr3 hr0
                have g0 := (hlw.cell (p := ⟨b3, o3 + k3 * 4, none⟩) hb3).trans e0
                have g1 := (hlw.cell (p := ⟨b3, o3 + k3 * 4 + 1, none⟩) hb3).trans e1
                have g2 := (hlw.cell (p := ⟨b3, o3 + k3 * 4 + 2, none⟩) hb3).trans e2
                have g3 := (hlw.cell (p := ⟨b3, o3 + k3 * 4 + 3, none⟩) hb3).trans e3
                obtain ⟨⟨hq1, hq2⟩, hq3, hq4⟩ := hrt3
                have hcn3 : r3.cnt ≤ K := by simp only [ES.cnt] at hrK3; omega
                have hlt3 : k3 < len3 := by simp [ES.len] at hk3; omega
                have HE := Lib.hid (smallX_all (l2.cnt + 1) op2 n2 s2 v6 l2 d wr (Nat.lt_succ_self _) (EV.below h3 hlw hlw.size) hq2 hq3 h4 hq1 hd)
                obtain ⟨A6, cap6, rfl, _⟩ := id h3
                have HB3 := Lib.hid hbx
                have HO3 := Lib.hid hown3
                have HLO3 := Lib.hid hlow3
                have HCE3 := Lib.hid hcell3
                have HK3 := Lib.hid hk3
                have HR3 := Lib.hid hr
                have HLL3 := Lib.hid hl3
                have HPK3 := Lib.hid hpk3
                have HH4 := Lib.hid h4
                have HT2' := HT2.out
                clear e0 e1 e2 e3 h3 hr3 hbx hown3 hlow3 hcell3 hk3 hr hl3 hpk3 hr0 h4 hrK3
                go_wp2_with (first
                  | (go_at_call 11; ((with_reducible refine HE.out.mono ?_); rintro e w6 ⟨⟨v7, rfl, ⟨A7, k7, c7, rfl⟩, hrob⟩, hb6⟩; have q2 := (hb6.block _ hbl).trans HB3.out; have z0 := (box6 q2).2.2.2.1; have zl := lt_heap q2; have own6 := Lib.hid (HO3.out.kept (row := none) ⟨hb6.os, hb6.tape, hb6.output, hb6.size, fun q hq _ => hb6.block q hq⟩ (by simp; exact Classical.em _)); have s6 := hb6.size))
                  | (at_builtin; refine wp_app_ex rfl rfl ((own6.out.alloc _).alloc _) (by simp only [World.size_alloc]; omega) rfl rfl (new2 _ _ _) ⟨_, _, _, rfl⟩ (by omega) ?_; intro v7 w7 hown7 hg7 hat7; obtain ⟨X7, c7', rfl⟩ := own_form hown7; have q7 := blk_grown (old_at (old_at q2)) hg7 (fun e => by have := (HO3.out.lt _ e.symm).1; omega); have z7 := (box6 q7).2.2.2.1; have zf := box_frozen q7 3; have zl7 := lt_heap q7))
                go_roundw
                case rel =>
                  have t6 : Below wr.heap.size wr ((w6.alloc (exO op2 n2 (vS s2) (.slice A7 k7 c7))).alloc (exO op2 n2 (vS s2) (.slice A7 k7 c7))) := (hb6.alloc s6 _).alloc (Nat.le_trans s6 (by simp)) _
                  have hlo3 : wo.heap.size + 1 ≤ wr.heap.size := hbl
                  have ob : ∀ b, (Value.slice X3 k3 c3).ownBlock = some b → wo.heap.size + 1 ≤ b ∧ b < wr.heap.size := fun b e => HO3.out.lt b e
                  have blk7 : ∀ b, b < wr.heap.size → some b ≠ (Value.slice X3 k3 c3).ownBlock → w7.heap[b]? = wr.heap[b]? := fun b hb hne => (hg7.block b (Nat.lt_of_lt_of_le hb t6.size) hne).trans (t6.block b hb)
                  have s7 : ((w6.alloc (exO op2 n2 (vS s2) (.slice A7 k7 c7))).alloc (exO op2 n2 (vS s2) (.slice A7 k7 c7))).heap.size ≤ w7.heap.size := hg7.size
                  have hz7 : wr.heap.size ≤ w7.heap.size := Nat.le_trans t6.size s7
                  have new7 : ∀ b, (Value.slice X7 (k3 + 1) c7').ownBlock = some b → (Value.slice X3 k3 c3).ownBlock = some b ∨ w6.heap.size ≤ b := fun b e => by
                    rcases hat7 with h | h
                    · exact Or.inl (h.symm.trans e)
                    · rw [h] at e; injection e with e; refine Or.inr ?_; simp only [World.size_alloc] at e; omega
                  have hset : Below wo.heap.size w7 (w7.setCell ⟨wo.heap.size, 3, none⟩ (.slice X7 (k3 + 1) c7')) := Below.setCell (Below.refl wo.heap.size w7) (p := ⟨wo.heap.size, 3, none⟩) (Nat.le_refl _) _
                  have t66 : Below w6.heap.size w6 ((w6.alloc (exO op2 n2 (vS s2) (.slice A7 k7 c7))).alloc (exO op2 n2 (vS s2) (.slice A7 k7 c7))) := ((Below.refl _ _).alloc (Nat.le_refl _) _).alloc (by simp) _
                  have blk76 : ∀ b, b < w6.heap.size → some b ≠ (Value.slice X3 k3 c3).ownBlock → w7.heap[b]? = w6.heap[b]? := fun b hb hne => (hg7.block b (Nat.lt_of_lt_of_le hb t66.size) hne).trans (t66.block b hb)
                  have hs8 : (w7.setCell ⟨wo.heap.size, 3, none⟩ (.slice X7 (k3 + 1) c7')).heap.size = w7.heap.size := by simp
                  have blk8 : ∀ b, wo.heap.size + 1 ≤ b → (w7.setCell ⟨wo.heap.size, 3, none⟩ (.slice X7 (k3 + 1) c7')).heap[b]? = w7.heap[b]? := fun b hb => Below.heap_setCell _ _ _ _ (by simp only; omega)
                  have rnew : Rob (wo.heap.size + 1) (Value.slice X7 (k3 + 1) c7').ownBlock (w7.setCell ⟨wo.heap.size, 3, none⟩ (.slice X7 (k3 + 1) c7')) (.slice A7 k7 c7) (l2.sm d) :=
                    (hrob.new hlo3 (g := (Value.slice X3 k3 c3).ownBlock) (fun b e => (ob b e).2)).step (by rw [hs8]; exact Nat.le_trans t66.size s7) (fun b h1 h2 h3 => (blk8 b h1).trans (blk76 b h2 h3)) new7
                  have hce := HCE3.out.mono (fun v l (h : Rob _ _ _ v l) => h.step (W1 := w7.setCell ⟨wo.heap.size, 3, none⟩ (.slice X7 (k3 + 1) c7')) (g1 := (Value.slice X7 (k3 + 1) c7').ownBlock) (by rw [hs8]; exact hz7) (fun b h1 h2 h3 => (blk8 b h1).trans (blk7 b h2 h3)) (fun b e => (new7 b e).imp_right fun h => Nat.le_trans s6 h))
                  have hpk := HPK3.out
                  have hne7 : some wo.heap.size ≠ (Value.slice X7 (k3 + 1) c7').ownBlock := fun e => by have := (hown7.lt _ e.symm).1; omega
                  have low7 : Below wo.heap.size wo w7 := (HLO3.out.trans (t6.mono HLO3.out.size)).grown hg7 (Nat.le_trans HLO3.out.size t6.size) (fun q e => by have := (ob q e).1; omega)
                  refine ⟨k3 + 1, pre3.app (.cons op2 n2 s2 l2 .nil), r3, X7, c7', cs3 ++ [.int .i64 op2, .int .i64 n2, .string (vS s2), .slice A7 k7 c7], by go_num, by have := HK3.out; simp [ES.len] at this; omega, by rw [ES.app_assoc]; exact HLL3.out, ?_, hcn3, hq4, fun _ => ⟨b3, o3, rfl, hb3, by rw [show o3 + (k3 + 1) * 4 = o3 + k3 * 4 + 4 by omega]; exact HR3.out⟩, (heap_set q7 3 _).trans rfl, own_set hown7 hne7 _, ?_, low7.trans hset⟩
                  · rw [ES.sm_app, ES.app_len, hpk]; rfl
                  · rw [ES.sm_app]
                    exact ES.Cells.app (ES.Cells.one rnew ⟨_, _, _, rfl⟩ ⟨HH4.out.1, HH4.out.2.1, by rw [vS_size]; omega⟩) hce
                case measure => simp [intOf]; omega
            · cases r3 with
              | cons _ _ _ _ _ => simp [ES.len] at hr0
              | nil =>
                rw [ES.app_nil] at hl3
                subst hl3
                obtain rfl : k3 = len3 := by simpa [ES.len] using hk3
                have i0 : decide ((k3 : Int) < (k3 : Int)) = false := decide_eq_false (by omega)
                have hlt3 : ¬ k3 < k3 := by omega
                have RE : Rob (wo.heap.size + 1) none wr (.slice X3 k3 c3) (l1.sm (d + 1)) := rob_own hown3 (Nat.le_refl _) hcell3 hpk3.symm
                have HRE := Lib.hid RE
                have HXX := Lib.hid (HX.out wr hlw)
                have HB3 := Lib.hid hbx
                have HLO3 := Lib.hid hlow3
                have HHW := Lib.hid hlw
                obtain ⟨-, -, -, -, t4, -⟩ := HC.out wr hlw
                clear hr0 hk3 hpk3 hrK3 hrt3 hr3 hbx hown3 hcell3 hlow3 RE hlw
                go_upto_region 12 with (go_at_call 5; ((with_reducible refine HXX.out.mono ?_); rintro e w6 ⟨⟨v6, rfl, hrx⟩, hb6⟩; obtain ⟨A6, k6, c6, rfl⟩ := hrx.sl; have q6 := (hb6.block _ hbl).trans HB3.out; have z6 := (box6 q6).2.2.2.2.1; have zf6 := box_frozen q6 4; have zl6 := lt_heap q6))
                obtain ⟨W7, hW7⟩ : ∃ W, w6.setCell ⟨wo.heap.size, 4, none⟩ (.slice A6 k6 c6) = W := ⟨_, rfl⟩
                have b7 : W7.heap[wo.heap.size]? = some (stO op1 (vS s1) n1 (.slice X3 k3 c3) (.slice A6 k6 c6) (.slice none 0 0)) := by rw [← hW7]; exact (heap_set q6 4 _).trans rfl
                have low7 : Below wo.heap.size wo W7 := by rw [← hW7]; exact (HLO3.out.trans (hb6.mono HLO3.out.size)).setCell (p := ⟨wo.heap.size, 4, none⟩) (Nat.le_refl _) _
                have far7 : ∀ b, b ≠ wo.heap.size → W7.heap[b]? = w6.heap[b]? := fun b hb => by rw [← hW7]; exact Below.heap_setCell _ _ _ _ (by simpa using hb)
                have sz7 : W7.heap.size = w6.heap.size := by rw [← hW7]; simp
                have hlw7 : Below w.heap.size w W7 := HLO.out.trans (low7.mono HLO.out.size)
                have HYY := Lib.hid (HY.out W7 hlw7)
                obtain ⟨-, -, -, -, -, t5⟩ := HC.out W7 hlw7
                have ly7 := lt_heap b7
                have HB7 := Lib.hid b7
                have HRX := Lib.hid hrx
                have HB6 := Lib.hid hb6
                have LOW7 := Lib.hid low7
                have FAR7 := Lib.hid far7
                have SZ7 := Lib.hid sz7
                rw [hW7]
                clear b7 hrx hb6 low7 far7 sz7 hW7 hlw7 q6 z6 zf6 zl6 yy0 yy1 yy2 yy3 yy4 yy5 t3 t4
                go_upto_region 13 with (go_at_call 5; ((with_reducible refine HYY.out.mono ?_); rintro e w8 ⟨⟨v8, rfl, hry⟩, hb8⟩; obtain ⟨A8, k8, c8, rfl⟩ := hry.sl; have q8 := (hb8.block _ ly7).trans HB7.out; have z8 := (box6 q8).2.2.2.2.2; have zf8 := box_frozen q8 5; have zl8 := lt_heap q8))
                obtain ⟨W9, hW9⟩ : ∃ W, w8.setCell ⟨wo.heap.size, 5, none⟩ (.slice A8 k8 c8) = W := ⟨_, rfl⟩
                have b9 : W9.heap[wo.heap.size]? = some (stO op1 (vS s1) n1 (.slice X3 k3 c3) (.slice A6 k6 c6) (.slice A8 k8 c8)) := by rw [← hW9]; exact (heap_set q8 5 _).trans rfl
                have low9 : Below wo.heap.size wo W9 := by rw [← hW9]; exact (LOW7.out.trans (hb8.mono LOW7.out.size)).setCell (p := ⟨wo.heap.size, 5, none⟩) (Nat.le_refl _) _
                have far9 : ∀ b, b ≠ wo.heap.size → W9.heap[b]? = w8.heap[b]? := fun b hb => by rw [← hW9]; exact Below.heap_setCell _ _ _ _ (by simpa using hb)
                have sz9 : W9.heap.size = w8.heap.size := by rw [← hW9]; simp
                have OWN9 := Lib.hid (HO.out.kept (row := none) ⟨low9.os, low9.tape, low9.output, low9.size, fun q hq _ => low9.block q hq⟩ (by simp; exact Classical.em _))
                obtain ⟨f0, f1, f2, f3, f4, f5⟩ := box6 b9
                have lf := lt_heap b9
                have hw9 : w.heap.size ≤ W9.heap.size := Nat.le_trans HLO.out.size low9.size
                have HRY := Lib.hid hry
                have HB8 := Lib.hid hb8
                have LOW9 := Lib.hid low9
                have FAR9 := Lib.hid far9
                have SZ9 := Lib.hid sz9
                rw [hW9]
                clear hry hb8 low9 far9 sz9 hW9 q8 z8 zf8 zl8 t5 b9
                go_wp2_with (at_builtin; refine wp_app_st rfl rfl (OWN9.out.alloc _) (by simp only [World.size_alloc]; omega) rfl rfl (heap_alloc_new _ _) ⟨⟨_, _, _, rfl⟩, ⟨_, _, _, rfl⟩, ⟨_, _, _, rfl⟩⟩ (by omega) ?_; intro v11 w11 hown11 hg11 hat11; obtain ⟨X11, c11, rfl⟩ := own_form hown11)
                go_roundw
                case rel =>
                  have low9 := LOW9.out
                  have far9 := FAR9.out
                  have far7 := FAR7.out
                  have sz9 := SZ9.out
                  have sz7 := SZ7.out
                  have hb8 := HB8.out
                  have hb6 := HB6.out
                  have zz8 := hb8.size
                  have zz6 := hb6.size
                  have ob : ∀ b, (Value.slice X k c).ownBlock = some b → w.heap.size ≤ b ∧ b < wo.heap.size := fun b e => HO.out.lt b e
                  have blk11 : ∀ b, b < W9.heap.size → some b ≠ (Value.slice X k c).ownBlock → w11.heap[b]? = W9.heap[b]? := fun b hb hne => (hg11.block b (by simp only [World.size_alloc]; omega) hne).trans (Below.heap_alloc _ _ _ hb)
                  have s11 : W9.heap.size ≤ w11.heap.size := Nat.le_trans (by simp) hg11.size
                  have new11 : ∀ b, (Value.slice X11 (k + 1) c11).ownBlock = some b → (Value.slice X k c).ownBlock = some b ∨ W9.heap.size ≤ b := fun b e => by
                    rcases hat11 with h | h
                    · exact Or.inl (h.symm.trans e)
                    · rw [h] at e; injection e with e; refine Or.inr ?_; (try simp only [World.size_alloc] at e); omega
                  have s9 : wo.heap.size ≤ W9.heap.size := low9.size
                  have hzw : w.heap.size ≤ wo.heap.size := HLO.out.size
                  have hce := HCE.out.mono (fun v l (h : Rob _ _ _ v l) => h.step (W1 := w11) (g1 := (Value.slice X11 (k + 1) c11).ownBlock) (Nat.le_trans s9 s11) (fun b h1 h2 h3 => (blk11 b (Nat.lt_of_lt_of_le h2 s9) h3).trans (low9.block b h2)) (fun b e => (new11 b e).imp_right fun h => Nat.le_trans s9 h)) (fun v l (h : RobS _ _ _ v l) => h.step (W1 := w11) (g1 := (Value.slice X11 (k + 1) c11).ownBlock) (Nat.le_trans s9 s11) (fun b h1 h2 h3 => (blk11 b (Nat.lt_of_lt_of_le h2 s9) h3).trans (low9.block b h2)) (fun b e => (new11 b e).imp_right fun h => Nat.le_trans s9 h))
                  have e9 : Rob (wo.heap.size + 1) none W9 (.slice X3 k3 c3) (l1.sm (d + 1)) := HRE.out.step (by omega) (fun b h1 h2 _ => (far9 b (by omega)).trans ((hb8.block b (by omega)).trans ((far7 b (by omega)).trans (hb6.block b h2)))) (fun b e => by cases e)
                  have x9 : RobS wr.heap.size none W9 (.slice A6 k6 c6) (x1.sm d1) := HRX.out.step (by omega) (fun b h1 h2 _ => (far9 b (by omega)).trans ((hb8.block b (by omega)).trans (far7 b (by omega)))) (fun b e => by cases e)
                  have y9 : RobS W7.heap.size none W9 (.slice A8 k8 c8) (y1.sm d1) := HRY.out.step (by omega) (fun b h1 h2 _ => far9 b (by omega)) (fun b e => by cases e)
                  have e11 := (e9.new (lo := w.heap.size) (g := (Value.slice X k c).ownBlock) (by omega) (fun b e => by have := (ob b e).2; omega)).step (W1 := w11) (g1 := (Value.slice X11 (k + 1) c11).ownBlock) s11 (fun b _ h2 h3 => blk11 b h2 h3) new11
                  have x11 := (x9.new (lo := w.heap.size) (g := (Value.slice X k c).ownBlock) (by omega) (fun b e => by have := (ob b e).2; omega)).step (W1 := w11) (g1 := (Value.slice X11 (k + 1) c11).ownBlock) s11 (fun b _ h2 h3 => blk11 b h2 h3) new11
                  have y11 := (y9.new (lo := w.heap.size) (g := (Value.slice X k c).ownBlock) (by omega) (fun b e => by have := (ob b e).2; omega)).step (W1 := w11) (g1 := (Value.slice X11 (k + 1) c11).ownBlock) s11 (fun b _ h2 h3 => blk11 b h2 h3) new11
                  have hpk := HPK.out
                  have low11 : Below w.heap.size w w11 := ((HLO.out.trans (low9.mono hzw)).alloc hw9 _).grown hg11 (by simp only [World.size_alloc]; omega) (fun q e => (ob q e).1)
                  refine ⟨k + 1, pre.app (.cons op1 s1 n1 l1 x1 y1 .nil), r, X11, c11, cs ++ [.int .i64 op1, .string (vS s1), .int .i64 n1, .slice X3 k3 c3, .slice A6 k6 c6, .slice A8 k8 c8], rfl, by go_num, by have := HK.out; simp [SS.len] at this; omega, by rw [SS.app_assoc]; exact HLL.out, ?_, HCN.out.2.2.2, HTR.out, fun _ => ⟨b, o, rfl, hb, by rw [show o + (k + 1) * 6 = o + k * 6 + 6 by omega]; exact HR.out⟩, hown11, ?_, low11⟩
                  · rw [HD.out] at hpk ⊢
                    rw [SS.sm_app, SS.app_len, hpk]; rfl
                  · rw [HD.out] at hce e11 ⊢
                    rw [SS.sm_app]
                    exact SS.CellsG.app (SS.CellsG.one e11 x11 y11 ⟨⟨_, _, _, rfl⟩, ⟨_, _, _, rfl⟩, ⟨_, _, _, rfl⟩⟩ ⟨HH6.out.1, HH6.out.2.1, by rw [vS_size]; omega⟩) hce
                case measure => simp [intOf]; omega
    · have hfin : l.sm d = pre.sm d := by
        rcases Nat.eq_zero_or_pos d with h0 | h0
        · rw [h0, SS.sm_zero, SS.sm_zero]
        · cases r with
          | nil => rw [hl, SS.app_nil]
          | cons _ _ _ _ _ _ _ => exact absurd ⟨by simp [SS.len], h0⟩ hgo
      have hcase : (k = len) ∨ (k < len ∧ d = 0) := by omega
      have HFIN := Lib.hid hfin
      have HLO := Lib.hid hlow
      have HRO := Lib.hid (rob_ownS hown (Nat.le_refl _) hcell hpk.symm)
      clear hfin hown hlow hcell hpk hl hrt hr1 hgo hrK hk
      rcases hcase with hkl | ⟨hkl, hd00⟩
      · subst hkl
        go_wp2
        go_ret
        exact ⟨⟨_, rfl, by rw [HFIN.out]; exact HRO.out⟩, HLO.out⟩
      · go_wp2
        go_ret
        exact ⟨⟨_, rfl, by rw [HFIN.out]; exact HRO.out⟩, HLO.out⟩
theorem smallS_all : ∀ K, SnHas K
  | 0 => fun _ _ _ _ h => absurd h (Nat.not_lt_zero _)
  | K + 1 => smallS_step K (smallS_all K)
end Go.Proofs.Ytacleafbjbhcgaa
