/-
  HeapPlays' walk: a heap does what the document says.
-/
import Derived.Test.YtimpobfilihhmaaHqW
namespace Go.Proofs.Ytimpobfilihhmaa
open Go Go.RowKit Go.Lib

def YRel (W : World) (q : Nat) (x : Int) (g g' n : Nat) (i : Value) (wr : World) : Prop := ∃ (k : Nat) (A : List (List Int)), i = .int .i64 k ∧ k ≤ n ∧ k ≤ 200 ∧ P0 W q x g g' k A wr
set_option maxRecDepth 100000 in
set_option maxHeartbeats 16000000 in
theorem plays_walk (x : Int) (X : Option Addr) (n cap : Nat) (l : List Stp) (W : World) (hl : l.length = n) (_hnc : n ≤ cap) (_hcm : cap ≤ 9223372036854775807) (hrow : SRow W X l) :
    Calls Try.prog 3 #[.int .i64 x, .slice X n cap] W fun e W' => e = .returned (.bool true) ∧ Below W.heap.size W W' := by
  have HS := Lib.hid (shown_w W)
  have HR := Lib.hid hrow
  have HL := Lib.hid hl
  have hmx : Try.prog.follows .mixedOrders = true := by kernel_rfl
  obtain ⟨q, hq⟩ : ∃ q : Nat, (min (max x 0) 1048576).toNat = q := ⟨_, rfl⟩
  have HQ := Lib.hid hq
  have HN := Lib.hid (fun (w : World) (hb : Below W.heap.size W w) => hs_new' W x w hb)
  rw [hq] at HN
  clear hrow hl hq
  go_enter Try.func3, Try.ntmps3
  go_upto_region 3 with (first
    | (go_at_call 9; ((with_reducible refine HS.out.mono ?_); rintro e w1 ⟨rfl, b1⟩))
    | (go_at_call 10; ((with_reducible refine (HN.out _ b1).mono ?_); rintro e w2 ⟨rfl, h2⟩; obtain ⟨g, hg⟩ : ∃ g, w1.heap.size = g := ⟨_, rfl⟩; rw [hg] at h2 ⊢; clear hg b1)))
  have hP := p0_new (x := x) h2
  obtain ⟨g', hg'⟩ : ∃ g', w2.heap.size = g' := ⟨_, rfl⟩
  obtain ⟨w3, hw3⟩ : ∃ w3, w2.alloc (rfO x (.slice none 0 0) (.slice none 0 0)) = w3 := ⟨_, rfl⟩
  rw [hg', hw3] at hP
  clear h2
  go_upto_region 7 with fail
  clear HS HN hg' hw3
  go_loopw [8] (fun i wr => YRel W q x g g' n i wr) (fun i _ => n - (RowKit.intOf i).toNat)
  case atStart => exact ⟨0, [], rfl, Nat.zero_le _, by decide, hP⟩
  case round =>
    obtain ⟨k, A, rfl, hk, hk1, hh⟩ := hrel
    clear hP
    by_cases hlt : k < n ∧ k < 200
    · obtain ⟨⟨kd, d, p, v⟩, hs⟩ : ∃ s, l[k]? = some s := ⟨l[k]'(by have := HL.out; omega), List.getElem?_eq_getElem _⟩
      obtain ⟨b, o, rfl, c0, c1, c2, c3⟩ := HR.out.at_ hh.below hs
      have i0 : decide ((k : Int) < (n : Int)) = true := decide_eq_true (by omega)
      have i1 : decide ((k : Int) < 200) = true := decide_eq_true (by omega)
      have HLT := Lib.hid hlt
      have HH := Lib.hid hh
      have hk2 : k ≤ 1000 := by omega
      clear hs hh
      go_upto_region 10 with fail
      obtain ⟨W1, hW1⟩ : ∃ w, wr.alloc (stO kd d p v) = w := ⟨_, rfl⟩
      have hW := HH.out.box (stO kd d p v) ((Below.refl _ _).alloc (Nat.le_refl _) (stO kd d p v)) (heap_alloc_new wr _)
      obtain ⟨c, hc⟩ : ∃ c, wr.heap.size = c := ⟨_, rfl⟩
      rw [hW1, hc] at hW ⊢
      clear hW1 hc HH i0 i1 c0 c1 c2 c3 hlt
      obtain ⟨z0, z1, z2, z3⟩ := st_cells hW.box
      by_cases h1 : kd = 1
      · subst h1
        have HS1 := Lib.hid (hW.make p)
        have HS3 := Lib.hid (fun (w' : World) (h : Pw W q x g g' k (mkA q A p) A c (stO 1 d p v) w') => h.rmake HQ.out p)
        clear hW
        go_upto_region 24 with (first
          | (go_at_call 11; ((with_reducible refine HS1.out.mono ?_); rintro e w5 ⟨rfl, t5⟩; obtain ⟨z0, z1, z2, z3⟩ := st_cells t5.box))
          | (go_at_call 12; ((with_reducible refine (HS3.out _ t5).mono ?_); rintro e w6 ⟨rfl, t6⟩)))
        clear z0 z1 z2 z3 t5 HS1 HS3
        have HT2 := Lib.hid (fun m => t6.drewN m)
        obtain ⟨z0, z1, z2, z3⟩ := st_cells t6.box
        clear t6
        go_quiet ((first
          | (go_at_call 17; with_reducible exact Calls.quiet_of_same (HT2.out _).used)
          | (go_at_call 18; with_reducible exact Calls.quiet_of_same (HT2.out _).rused)
          | (go_at_call 19; with_reducible exact Calls.quiet_of ((HT2.out _).len d))
          | (go_at_call 20; with_reducible exact Calls.quiet_of_same ((HT2.out _).rlen d))))
        go_wp2
        go_roundw
        case rel => exact ⟨k + 1, mkA q A p, by go_num, HLT.out.1, HLT.out.2, ((HT2.out _).more (Nat.le_succ _)).p0⟩
        case measure => have := HLT.out; simp [RowKit.intOf]; omega
      · by_cases h2 : kd = 2
        · subst h2
          have HS1 := Lib.hid (fun (w' : World) (h : Pw W q x g g' k A A c (stO 2 d p v) w') => h.set d p v)
          have HS3 := Lib.hid (fun (w' : World) (h : Pw W q x g g' k (stA A d p v) A c (stO 2 d p v) w') => h.rset hk2 d p v)
          have hWd := hW.drewN 1
          clear hW
          go_upto_region 18 with fail
          have hS0 : W1.drew.heap[c]? = some (stO 2 d p v) := hWd.box
          have hWD : Pw W q x g g' k A A c (stO 2 d p v) W1.drew := hWd
          refine wp_region_held_drew (S := fun W' => W'.heap[c]? = some (stO 2 d p v)) hmx hS0 (fun hHeld => ?_)
          clear z0 z1 z2 z3 hWd
          refine wpAnyH_take (i := 0) (v := .pointer (some ⟨g, 0, none⟩)) rfl (by kernel_rfl) (by kernel_rfl) (by kernel_rfl) (fun _ _ _ h => h) (Or.inl ⟨by rfl, ?_⟩) (by assumption) ?_
          · intro W' hSw
            obtain ⟨l0, l1, l2, l3⟩ := st_cells hSw
            go_simp
          try simp only [Act.put, List.getElem_toArray, List.getElem_cons_zero, List.setIfInBounds_toArray, List.set_cons_zero, List.set_cons_succ]
          refine wpAnyH_take (i := 1) (v := .pointer (some ⟨c, 1, none⟩)) rfl (by kernel_rfl) (by kernel_rfl) (by kernel_rfl) (fun _ _ _ h => h) (Or.inl ⟨by rfl, ?_⟩) (by assumption) ?_
          · intro W' hSw
            obtain ⟨l0, l1, l2, l3⟩ := st_cells hSw
            go_simp
          try simp only [Act.put, List.getElem_toArray, List.getElem_cons_zero, List.getElem_cons_succ, List.setIfInBounds_toArray, List.set_cons_zero, List.set_cons_succ]
          refine wpAnyH_take (i := 2) (v := .int .i64 d) rfl (by kernel_rfl) (by kernel_rfl) (by kernel_rfl) (fun _ _ _ h => h) (Or.inl ⟨by rfl, ?_⟩) (by assumption) ?_
          · intro W' hSw
            obtain ⟨l0, l1, l2, l3⟩ := st_cells hSw
            go_simp
          try simp only [Act.put, List.getElem_toArray, List.getElem_cons_zero, List.getElem_cons_succ, List.setIfInBounds_toArray, List.set_cons_zero, List.set_cons_succ]
          refine wpAnyH_take (i := 3) (v := .pointer (some ⟨c, 2, none⟩)) rfl (by kernel_rfl) (by kernel_rfl) (by kernel_rfl) (fun _ _ _ h => h) (Or.inl ⟨by rfl, ?_⟩) (by assumption) ?_
          · intro W' hSw
            obtain ⟨l0, l1, l2, l3⟩ := st_cells hSw
            go_simp
          try simp only [Act.put, List.getElem_toArray, List.getElem_cons_zero, List.getElem_cons_succ, List.setIfInBounds_toArray, List.set_cons_zero, List.set_cons_succ]
          refine wpAnyH_take (i := 4) (v := .int .i64 p) rfl (by kernel_rfl) (by kernel_rfl) (by kernel_rfl) (fun _ _ _ h => h) (Or.inl ⟨by rfl, ?_⟩) (by assumption) ?_
          · intro W' hSw
            obtain ⟨l0, l1, l2, l3⟩ := st_cells hSw
            go_simp
          try simp only [Act.put, List.getElem_toArray, List.getElem_cons_zero, List.getElem_cons_succ, List.setIfInBounds_toArray, List.set_cons_zero, List.set_cons_succ]
          refine wpAnyH_take (i := 5) (v := .pointer (some ⟨c, 3, none⟩)) rfl (by kernel_rfl) (by kernel_rfl) (by kernel_rfl) (fun _ _ _ h => h) (Or.inl ⟨by rfl, ?_⟩) (by assumption) ?_
          · intro W' hSw
            obtain ⟨l0, l1, l2, l3⟩ := st_cells hSw
            go_simp
          try simp only [Act.put, List.getElem_toArray, List.getElem_cons_zero, List.getElem_cons_succ, List.setIfInBounds_toArray, List.set_cons_zero, List.set_cons_succ]
          refine wpAnyH_take (i := 6) (v := .int .i64 v) rfl (by kernel_rfl) (by kernel_rfl) (by kernel_rfl) (fun _ _ _ h => h) (Or.inl ⟨by rfl, ?_⟩) (by assumption) ?_
          · intro W' hSw
            obtain ⟨l0, l1, l2, l3⟩ := st_cells hSw
            go_simp
          try simp only [Act.put, List.getElem_toArray, List.getElem_cons_zero, List.getElem_cons_succ, List.setIfInBounds_toArray, List.set_cons_zero, List.set_cons_succ]
          refine wpAnyH_take (i := 8) (v := .pointer (some ⟨g', 0, none⟩)) rfl (by kernel_rfl) (by kernel_rfl) (by kernel_rfl) (fun _ _ _ h => h) (Or.inl ⟨by rfl, ?_⟩) (by assumption) ?_
          · intro W' hSw
            obtain ⟨l0, l1, l2, l3⟩ := st_cells hSw
            go_simp
          try simp only [Act.put, List.getElem_toArray, List.getElem_cons_zero, List.getElem_cons_succ, List.setIfInBounds_toArray, List.set_cons_zero, List.set_cons_succ]
          refine wpAnyH_take (i := 9) (v := .pointer (some ⟨c, 1, none⟩)) rfl (by kernel_rfl) (by kernel_rfl) (by kernel_rfl) (fun _ _ _ h => h) (Or.inl ⟨by rfl, ?_⟩) (by assumption) ?_
          · intro W' hSw
            obtain ⟨l0, l1, l2, l3⟩ := st_cells hSw
            go_simp
          try simp only [Act.put, List.getElem_toArray, List.getElem_cons_zero, List.getElem_cons_succ, List.setIfInBounds_toArray, List.set_cons_zero, List.set_cons_succ]
          refine wpAnyH_take (i := 10) (v := .int .i64 d) rfl (by kernel_rfl) (by kernel_rfl) (by kernel_rfl) (fun _ _ _ h => h) (Or.inl ⟨by rfl, ?_⟩) (by assumption) ?_
          · intro W' hSw
            obtain ⟨l0, l1, l2, l3⟩ := st_cells hSw
            go_simp
          try simp only [Act.put, List.getElem_toArray, List.getElem_cons_zero, List.getElem_cons_succ, List.setIfInBounds_toArray, List.set_cons_zero, List.set_cons_succ]
          refine wpAnyH_take (i := 11) (v := .pointer (some ⟨c, 2, none⟩)) rfl (by kernel_rfl) (by kernel_rfl) (by kernel_rfl) (fun _ _ _ h => h) (Or.inl ⟨by rfl, ?_⟩) (by assumption) ?_
          · intro W' hSw
            obtain ⟨l0, l1, l2, l3⟩ := st_cells hSw
            go_simp
          try simp only [Act.put, List.getElem_toArray, List.getElem_cons_zero, List.getElem_cons_succ, List.setIfInBounds_toArray, List.set_cons_zero, List.set_cons_succ]
          refine wpAnyH_take (i := 12) (v := .int .i64 p) rfl (by kernel_rfl) (by kernel_rfl) (by kernel_rfl) (fun _ _ _ h => h) (Or.inl ⟨by rfl, ?_⟩) (by assumption) ?_
          · intro W' hSw
            obtain ⟨l0, l1, l2, l3⟩ := st_cells hSw
            go_simp
          try simp only [Act.put, List.getElem_toArray, List.getElem_cons_zero, List.getElem_cons_succ, List.setIfInBounds_toArray, List.set_cons_zero, List.set_cons_succ]
          refine wpAnyH_take (i := 13) (v := .pointer (some ⟨c, 3, none⟩)) rfl (by kernel_rfl) (by kernel_rfl) (by kernel_rfl) (fun _ _ _ h => h) (Or.inl ⟨by rfl, ?_⟩) (by assumption) ?_
          · intro W' hSw
            obtain ⟨l0, l1, l2, l3⟩ := st_cells hSw
            go_simp
          try simp only [Act.put, List.getElem_toArray, List.getElem_cons_zero, List.getElem_cons_succ, List.setIfInBounds_toArray, List.set_cons_zero, List.set_cons_succ]
          refine wpAnyH_take (i := 14) (v := .int .i64 v) rfl (by kernel_rfl) (by kernel_rfl) (by kernel_rfl) (fun _ _ _ h => h) (Or.inl ⟨by rfl, ?_⟩) (by assumption) ?_
          · intro W' hSw
            obtain ⟨l0, l1, l2, l3⟩ := st_cells hSw
            go_simp
          try simp only [Act.put, List.getElem_toArray, List.getElem_cons_zero, List.getElem_cons_succ, List.setIfInBounds_toArray, List.set_cons_zero, List.set_cons_succ]
          refine wpAnyH_ready (rs := [7]) (by kernel_rfl) (by simp) ?_
          refine AllReadyH.cons rfl (fun K hK => ?_) AllReadyH.nil
          go_simp
          go_at_call 13
          refine (HS1.out _ hWD).mono ?_
          rintro e w5 ⟨rfl, t5⟩
          go_wp2_with fail
          refine hK.out _ _ t5.box (fun _ => ?_)
          clear hK K
          try simp only [Act.put, List.getElem_toArray, List.getElem_cons_zero, List.getElem_cons_succ, List.setIfInBounds_toArray, List.set_cons_zero, List.set_cons_succ]
          refine wpAnyH_ready (rs := [15]) (by kernel_rfl) (by simp) ?_
          refine AllReadyH.cons rfl (fun K hK => ?_) AllReadyH.nil
          go_simp
          go_at_call 14
          refine (HS3.out _ t5).mono ?_
          rintro e w6 ⟨rfl, t6⟩
          go_wp2_with fail
          refine hK.out _ _ t6.box (fun _ => ?_)
          clear hK K
          try simp only [Act.put, List.getElem_toArray, List.getElem_cons_zero, List.getElem_cons_succ, List.setIfInBounds_toArray, List.set_cons_zero, List.set_cons_succ]
          have hS6 := t6.box
          refine wpAnyH_take (i := 16) (v := .bool true) rfl (by kernel_rfl) (by kernel_rfl) (by kernel_rfl) (fun _ _ _ h => h) (Or.inl ⟨by rfl, ?_⟩) (by assumption) ?_
          · intro W' hSw
            go_simp
          try simp only [Act.put, List.getElem_toArray, List.getElem_cons_zero, List.getElem_cons_succ, List.setIfInBounds_toArray, List.set_cons_zero, List.set_cons_succ]
          refine wpAnyH_ready (rs := [17]) (by kernel_rfl) (by simp) ?_
          refine AllReadyH.cons rfl (fun K hK => ?_) AllReadyH.nil
          go_simp
          refine hK.out _ _ t6.box (fun _ => ?_)
          clear hK K
          try simp only [Act.put, List.getElem_toArray, List.getElem_cons_zero, List.getElem_cons_succ, List.setIfInBounds_toArray, List.set_cons_zero, List.set_cons_succ]
          refine wpAnyH_done (by kernel_rfl) ?_ _
          clear hS0 hWD t5 hS6 hHeld HS1 HS3
          obtain ⟨z0, z1, z2, z3⟩ := st_cells t6.box
          go_upto_region 24 with fail
          clear z0 z1 z2 z3
          have HT2 := Lib.hid (fun m => t6.drewN m)
          obtain ⟨z0, z1, z2, z3⟩ := st_cells t6.box
          clear t6
          go_quiet ((first
            | (go_at_call 17; with_reducible exact Calls.quiet_of_same (HT2.out _).used)
            | (go_at_call 18; with_reducible exact Calls.quiet_of_same (HT2.out _).rused)
            | (go_at_call 19; with_reducible exact Calls.quiet_of ((HT2.out _).len d))
            | (go_at_call 20; with_reducible exact Calls.quiet_of_same ((HT2.out _).rlen d))))
          go_wp2
          go_roundw
          case rel => exact ⟨k + 1, stA A d p v, by go_num, HLT.out.1, HLT.out.2, ((HT2.out _)).p0⟩
          case measure => have := HLT.out; simp [RowKit.intOf]; omega
        · by_cases h3 : kd = 3
          · subst h3
            have HS1 := Lib.hid (fun (w' : World) (h : Pw W q x g g' k A A c (stO 3 d p v) w') => h.set d p v)
            have HS3 := Lib.hid (fun (w' : World) (h : Pw W q x g g' k (stA A d p v) A c (stO 3 d p v) w') => h.rset hk2 d p v)
            have hWd := hW.drewN 1
            clear hW
            go_upto_region 18 with fail
            have hS0 : W1.drew.heap[c]? = some (stO 3 d p v) := hWd.box
            have hWD : Pw W q x g g' k A A c (stO 3 d p v) W1.drew := hWd
            refine wp_region_held_drew (S := fun W' => W'.heap[c]? = some (stO 3 d p v)) hmx hS0 (fun hHeld => ?_)
            clear z0 z1 z2 z3 hWd
            refine wpAnyH_take (i := 0) (v := .pointer (some ⟨g, 0, none⟩)) rfl (by kernel_rfl) (by kernel_rfl) (by kernel_rfl) (fun _ _ _ h => h) (Or.inl ⟨by rfl, ?_⟩) (by assumption) ?_
            · intro W' hSw
              obtain ⟨l0, l1, l2, l3⟩ := st_cells hSw
              go_simp
            try simp only [Act.put, List.getElem_toArray, List.getElem_cons_zero, List.setIfInBounds_toArray, List.set_cons_zero, List.set_cons_succ]
            refine wpAnyH_take (i := 1) (v := .pointer (some ⟨c, 1, none⟩)) rfl (by kernel_rfl) (by kernel_rfl) (by kernel_rfl) (fun _ _ _ h => h) (Or.inl ⟨by rfl, ?_⟩) (by assumption) ?_
            · intro W' hSw
              obtain ⟨l0, l1, l2, l3⟩ := st_cells hSw
              go_simp
            try simp only [Act.put, List.getElem_toArray, List.getElem_cons_zero, List.getElem_cons_succ, List.setIfInBounds_toArray, List.set_cons_zero, List.set_cons_succ]
            refine wpAnyH_take (i := 2) (v := .int .i64 d) rfl (by kernel_rfl) (by kernel_rfl) (by kernel_rfl) (fun _ _ _ h => h) (Or.inl ⟨by rfl, ?_⟩) (by assumption) ?_
            · intro W' hSw
              obtain ⟨l0, l1, l2, l3⟩ := st_cells hSw
              go_simp
            try simp only [Act.put, List.getElem_toArray, List.getElem_cons_zero, List.getElem_cons_succ, List.setIfInBounds_toArray, List.set_cons_zero, List.set_cons_succ]
            refine wpAnyH_take (i := 3) (v := .pointer (some ⟨c, 2, none⟩)) rfl (by kernel_rfl) (by kernel_rfl) (by kernel_rfl) (fun _ _ _ h => h) (Or.inl ⟨by rfl, ?_⟩) (by assumption) ?_
            · intro W' hSw
              obtain ⟨l0, l1, l2, l3⟩ := st_cells hSw
              go_simp
            try simp only [Act.put, List.getElem_toArray, List.getElem_cons_zero, List.getElem_cons_succ, List.setIfInBounds_toArray, List.set_cons_zero, List.set_cons_succ]
            refine wpAnyH_take (i := 4) (v := .int .i64 p) rfl (by kernel_rfl) (by kernel_rfl) (by kernel_rfl) (fun _ _ _ h => h) (Or.inl ⟨by rfl, ?_⟩) (by assumption) ?_
            · intro W' hSw
              obtain ⟨l0, l1, l2, l3⟩ := st_cells hSw
              go_simp
            try simp only [Act.put, List.getElem_toArray, List.getElem_cons_zero, List.getElem_cons_succ, List.setIfInBounds_toArray, List.set_cons_zero, List.set_cons_succ]
            refine wpAnyH_take (i := 5) (v := .pointer (some ⟨c, 3, none⟩)) rfl (by kernel_rfl) (by kernel_rfl) (by kernel_rfl) (fun _ _ _ h => h) (Or.inl ⟨by rfl, ?_⟩) (by assumption) ?_
            · intro W' hSw
              obtain ⟨l0, l1, l2, l3⟩ := st_cells hSw
              go_simp
            try simp only [Act.put, List.getElem_toArray, List.getElem_cons_zero, List.getElem_cons_succ, List.setIfInBounds_toArray, List.set_cons_zero, List.set_cons_succ]
            refine wpAnyH_take (i := 6) (v := .int .i64 v) rfl (by kernel_rfl) (by kernel_rfl) (by kernel_rfl) (fun _ _ _ h => h) (Or.inl ⟨by rfl, ?_⟩) (by assumption) ?_
            · intro W' hSw
              obtain ⟨l0, l1, l2, l3⟩ := st_cells hSw
              go_simp
            try simp only [Act.put, List.getElem_toArray, List.getElem_cons_zero, List.getElem_cons_succ, List.setIfInBounds_toArray, List.set_cons_zero, List.set_cons_succ]
            refine wpAnyH_take (i := 8) (v := .pointer (some ⟨g', 0, none⟩)) rfl (by kernel_rfl) (by kernel_rfl) (by kernel_rfl) (fun _ _ _ h => h) (Or.inl ⟨by rfl, ?_⟩) (by assumption) ?_
            · intro W' hSw
              obtain ⟨l0, l1, l2, l3⟩ := st_cells hSw
              go_simp
            try simp only [Act.put, List.getElem_toArray, List.getElem_cons_zero, List.getElem_cons_succ, List.setIfInBounds_toArray, List.set_cons_zero, List.set_cons_succ]
            refine wpAnyH_take (i := 9) (v := .pointer (some ⟨c, 1, none⟩)) rfl (by kernel_rfl) (by kernel_rfl) (by kernel_rfl) (fun _ _ _ h => h) (Or.inl ⟨by rfl, ?_⟩) (by assumption) ?_
            · intro W' hSw
              obtain ⟨l0, l1, l2, l3⟩ := st_cells hSw
              go_simp
            try simp only [Act.put, List.getElem_toArray, List.getElem_cons_zero, List.getElem_cons_succ, List.setIfInBounds_toArray, List.set_cons_zero, List.set_cons_succ]
            refine wpAnyH_take (i := 10) (v := .int .i64 d) rfl (by kernel_rfl) (by kernel_rfl) (by kernel_rfl) (fun _ _ _ h => h) (Or.inl ⟨by rfl, ?_⟩) (by assumption) ?_
            · intro W' hSw
              obtain ⟨l0, l1, l2, l3⟩ := st_cells hSw
              go_simp
            try simp only [Act.put, List.getElem_toArray, List.getElem_cons_zero, List.getElem_cons_succ, List.setIfInBounds_toArray, List.set_cons_zero, List.set_cons_succ]
            refine wpAnyH_take (i := 11) (v := .pointer (some ⟨c, 2, none⟩)) rfl (by kernel_rfl) (by kernel_rfl) (by kernel_rfl) (fun _ _ _ h => h) (Or.inl ⟨by rfl, ?_⟩) (by assumption) ?_
            · intro W' hSw
              obtain ⟨l0, l1, l2, l3⟩ := st_cells hSw
              go_simp
            try simp only [Act.put, List.getElem_toArray, List.getElem_cons_zero, List.getElem_cons_succ, List.setIfInBounds_toArray, List.set_cons_zero, List.set_cons_succ]
            refine wpAnyH_take (i := 12) (v := .int .i64 p) rfl (by kernel_rfl) (by kernel_rfl) (by kernel_rfl) (fun _ _ _ h => h) (Or.inl ⟨by rfl, ?_⟩) (by assumption) ?_
            · intro W' hSw
              obtain ⟨l0, l1, l2, l3⟩ := st_cells hSw
              go_simp
            try simp only [Act.put, List.getElem_toArray, List.getElem_cons_zero, List.getElem_cons_succ, List.setIfInBounds_toArray, List.set_cons_zero, List.set_cons_succ]
            refine wpAnyH_take (i := 13) (v := .pointer (some ⟨c, 3, none⟩)) rfl (by kernel_rfl) (by kernel_rfl) (by kernel_rfl) (fun _ _ _ h => h) (Or.inl ⟨by rfl, ?_⟩) (by assumption) ?_
            · intro W' hSw
              obtain ⟨l0, l1, l2, l3⟩ := st_cells hSw
              go_simp
            try simp only [Act.put, List.getElem_toArray, List.getElem_cons_zero, List.getElem_cons_succ, List.setIfInBounds_toArray, List.set_cons_zero, List.set_cons_succ]
            refine wpAnyH_take (i := 14) (v := .int .i64 v) rfl (by kernel_rfl) (by kernel_rfl) (by kernel_rfl) (fun _ _ _ h => h) (Or.inl ⟨by rfl, ?_⟩) (by assumption) ?_
            · intro W' hSw
              obtain ⟨l0, l1, l2, l3⟩ := st_cells hSw
              go_simp
            try simp only [Act.put, List.getElem_toArray, List.getElem_cons_zero, List.getElem_cons_succ, List.setIfInBounds_toArray, List.set_cons_zero, List.set_cons_succ]
            refine wpAnyH_ready (rs := [7]) (by kernel_rfl) (by simp) ?_
            refine AllReadyH.cons rfl (fun K hK => ?_) AllReadyH.nil
            go_simp
            go_at_call 13
            refine (HS1.out _ hWD).mono ?_
            rintro e w5 ⟨rfl, t5⟩
            go_wp2_with fail
            refine hK.out _ _ t5.box (fun _ => ?_)
            clear hK K
            try simp only [Act.put, List.getElem_toArray, List.getElem_cons_zero, List.getElem_cons_succ, List.setIfInBounds_toArray, List.set_cons_zero, List.set_cons_succ]
            refine wpAnyH_ready (rs := [15]) (by kernel_rfl) (by simp) ?_
            refine AllReadyH.cons rfl (fun K hK => ?_) AllReadyH.nil
            go_simp
            go_at_call 14
            refine (HS3.out _ t5).mono ?_
            rintro e w6 ⟨rfl, t6⟩
            go_wp2_with fail
            refine hK.out _ _ t6.box (fun _ => ?_)
            clear hK K
            try simp only [Act.put, List.getElem_toArray, List.getElem_cons_zero, List.getElem_cons_succ, List.setIfInBounds_toArray, List.set_cons_zero, List.set_cons_succ]
            have hS6 := t6.box
            refine wpAnyH_take (i := 16) (v := .bool true) rfl (by kernel_rfl) (by kernel_rfl) (by kernel_rfl) (fun _ _ _ h => h) (Or.inl ⟨by rfl, ?_⟩) (by assumption) ?_
            · intro W' hSw
              go_simp
            try simp only [Act.put, List.getElem_toArray, List.getElem_cons_zero, List.getElem_cons_succ, List.setIfInBounds_toArray, List.set_cons_zero, List.set_cons_succ]
            refine wpAnyH_ready (rs := [17]) (by kernel_rfl) (by simp) ?_
            refine AllReadyH.cons rfl (fun K hK => ?_) AllReadyH.nil
            go_simp
            refine hK.out _ _ t6.box (fun _ => ?_)
            clear hK K
            try simp only [Act.put, List.getElem_toArray, List.getElem_cons_zero, List.getElem_cons_succ, List.setIfInBounds_toArray, List.set_cons_zero, List.set_cons_succ]
            refine wpAnyH_done (by kernel_rfl) ?_ _
            clear hS0 hWD t5 hS6 hHeld HS1 HS3
            obtain ⟨z0, z1, z2, z3⟩ := st_cells t6.box
            go_upto_region 24 with fail
            clear z0 z1 z2 z3
            have HT2 := Lib.hid (fun m => t6.drewN m)
            obtain ⟨z0, z1, z2, z3⟩ := st_cells t6.box
            clear t6
            go_quiet ((first
              | (go_at_call 17; with_reducible exact Calls.quiet_of_same (HT2.out _).used)
              | (go_at_call 18; with_reducible exact Calls.quiet_of_same (HT2.out _).rused)
              | (go_at_call 19; with_reducible exact Calls.quiet_of ((HT2.out _).len d))
              | (go_at_call 20; with_reducible exact Calls.quiet_of_same ((HT2.out _).rlen d))))
            go_wp2
            go_roundw
            case rel => exact ⟨k + 1, stA A d p v, by go_num, HLT.out.1, HLT.out.2, ((HT2.out _)).p0⟩
            case measure => have := HLT.out; simp [RowKit.intOf]; omega
          · by_cases h4 : kd = 4
            · subst h4
              have HS1 := Lib.hid (hW.get d p)
              have HS3 := Lib.hid (fun (w' : World) (h : Pw W q x g g' k A A c (stO 4 d p v) w') => h.rget hk2 d p)
              clear hW
              go_upto_region 24 with (first
                | (go_at_call 15; ((with_reducible refine HS1.out.mono ?_); rintro e w5 ⟨rfl, t5⟩; obtain ⟨z0, z1, z2, z3⟩ := st_cells t5.box))
                | (go_at_call 16; ((with_reducible refine (HS3.out _ t5).mono ?_); rintro e w6 ⟨rfl, t6⟩)))
              clear z0 z1 z2 z3 t5 HS1 HS3
              have HT2 := Lib.hid (fun m => t6.drewN m)
              obtain ⟨z0, z1, z2, z3⟩ := st_cells t6.box
              clear t6
              go_quiet ((first
                | (go_at_call 17; with_reducible exact Calls.quiet_of_same (HT2.out _).used)
                | (go_at_call 18; with_reducible exact Calls.quiet_of_same (HT2.out _).rused)
                | (go_at_call 19; with_reducible exact Calls.quiet_of ((HT2.out _).len d))
                | (go_at_call 20; with_reducible exact Calls.quiet_of_same ((HT2.out _).rlen d))))
              go_wp2
              go_roundw
              case rel => exact ⟨k + 1, A, by go_num, HLT.out.1, HLT.out.2, ((HT2.out _).more (Nat.le_succ _)).p0⟩
              case measure => have := HLT.out; simp [RowKit.intOf]; omega
            · by_cases h5 : kd = 5
              · subst h5
                have HS1 := Lib.hid (hW.get d p)
                have HS3 := Lib.hid (fun (w' : World) (h : Pw W q x g g' k A A c (stO 5 d p v) w') => h.rget hk2 d p)
                clear hW
                go_upto_region 24 with (first
                  | (go_at_call 15; ((with_reducible refine HS1.out.mono ?_); rintro e w5 ⟨rfl, t5⟩; obtain ⟨z0, z1, z2, z3⟩ := st_cells t5.box))
                  | (go_at_call 16; ((with_reducible refine (HS3.out _ t5).mono ?_); rintro e w6 ⟨rfl, t6⟩)))
                clear z0 z1 z2 z3 t5 HS1 HS3
                have HT2 := Lib.hid (fun m => t6.drewN m)
                obtain ⟨z0, z1, z2, z3⟩ := st_cells t6.box
                clear t6
                go_quiet ((first
                  | (go_at_call 17; with_reducible exact Calls.quiet_of_same (HT2.out _).used)
                  | (go_at_call 18; with_reducible exact Calls.quiet_of_same (HT2.out _).rused)
                  | (go_at_call 19; with_reducible exact Calls.quiet_of ((HT2.out _).len d))
                  | (go_at_call 20; with_reducible exact Calls.quiet_of_same ((HT2.out _).rlen d))))
                go_wp2
                go_roundw
                case rel => exact ⟨k + 1, A, by go_num, HLT.out.1, HLT.out.2, ((HT2.out _).more (Nat.le_succ _)).p0⟩
                case measure => have := HLT.out; simp [RowKit.intOf]; omega
              · have e1 : (kd == 1) = false := by simpa using h1
                have e2 : (kd == 2) = false := by simpa using h2
                have e3 : (kd == 3) = false := by simpa using h3
                have e4 : (kd == 4) = false := by simpa using h4
                have e5 : (kd == 5) = false := by simpa using h5
                clear h1 h2 h3 h4 h5
                go_upto_region 24 with fail
                clear z0 z1 z2 z3
                have HT2 := Lib.hid (fun m => hW.drewN m)
                obtain ⟨z0, z1, z2, z3⟩ := st_cells hW.box
                clear hW
                go_quiet ((first
                  | (go_at_call 17; with_reducible exact Calls.quiet_of_same (HT2.out _).used)
                  | (go_at_call 18; with_reducible exact Calls.quiet_of_same (HT2.out _).rused)
                  | (go_at_call 19; with_reducible exact Calls.quiet_of ((HT2.out _).len d))
                  | (go_at_call 20; with_reducible exact Calls.quiet_of_same ((HT2.out _).rlen d))))
                go_wp2
                go_roundw
                case rel => exact ⟨k + 1, A, by go_num, HLT.out.1, HLT.out.2, ((HT2.out _).more (Nat.le_succ _)).p0⟩
                case measure => have := HLT.out; simp [RowKit.intOf]; omega
    · have HB := Lib.hid hh.below
      clear hh
      by_cases h1 : k < n
      · have i0 : decide ((k : Int) < (n : Int)) = true := decide_eq_true (by omega)
        have i1 : decide ((k : Int) < 200) = false := decide_eq_false (by omega)
        clear hlt
        go_wp2
        go_ret
        exact ⟨rfl, HB.out⟩
      · have i0 : decide ((k : Int) < (n : Int)) = false := decide_eq_false (by omega)
        clear hlt
        go_wp2
        go_ret
        exact ⟨rfl, HB.out⟩
end Go.Proofs.Ytimpobfilihhmaa
