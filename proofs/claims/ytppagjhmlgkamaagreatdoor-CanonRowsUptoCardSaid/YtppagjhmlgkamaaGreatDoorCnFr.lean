/-
  What the writer asks is enough; strings.Join; function.
-/
import Derived.Test.YtppagjhmlgkamaaGreatDoorCz5
import Derived.Test.YtppagjhmlgkamaaGreatDoorCnMr
namespace Go.Proofs.YtppagjhmlgkamaaGreatDoor
open Go Go.RowKit Go.Lib

/-- What the writer asks is enough. -/
theorem SS.stok_of : ∀ l : SS, l.wr → l.stok
  | .nil, _ => trivial
  | .cons op s n l x y r, ⟨⟨⟨h1, h2⟩, h3, h4⟩, hl, hx, hy, hr⟩ => by
    have il := ES.exok_of l hl
    have ix := SS.stok_of x hx
    have iy := SS.stok_of y hy
    refine ⟨?_, SS.stok_of r hr⟩
    obtain ⟨m, rfl⟩ := Int.eq_ofNat_of_zero_le (show 0 ≤ op by omega)
    have h1' : 1 ≤ m := by omega
    have h2' : m ≤ 9 := by omega
    have h3' : m ≠ 3 → m ≠ 4 → 1 ≤ l.len := fun a b => h3 (by omega) (by omega)
    have h4' : m = 2 → 2 ≤ l.len := fun a => h4 (by omega)
    clear h1 h2 h3 h4
    match m, h1', h2', h3', h4' with
    | 1, _, _, h3, h4 => exact stmt_1 s n l x y il ix iy (h3 (by decide) (by decide))
    | 2, _, _, h3, h4 => exact stmt_2 s n l x y il ix iy (h4 rfl)
    | 3, _, _, h3, h4 => exact stmt_3 s n l x y il ix iy
    | 4, _, _, h3, h4 => exact stmt_4 s n l x y il ix iy
    | 5, _, _, h3, h4 => exact stmt_5 s n l x y il ix iy (h3 (by decide) (by decide))
    | 6, _, _, h3, h4 => exact stmt_6 s n l x y il ix iy (h3 (by decide) (by decide))
    | 7, _, _, h3, h4 => exact stmt_7 s n l x y il ix iy (h3 (by decide) (by decide))
    | 8, _, _, h3, h4 => exact stmt_8 s n l x y il ix iy (h3 (by decide) (by decide))
    | 9, _, _, h3, h4 => exact stmt_9 s n l x y il ix iy (h3 (by decide) (by decide))
    | m + 10, _, h, _, _ => exact absurd h (by omega)

theorem rest_tail (sep : List UInt8) : ∀ l : List (List UInt8), Lib.joinTail sep l = restT sep l
  | [] => rfl
  | a :: r => by
    have := rest_tail sep r
    unfold Lib.joinTail at this ⊢
    rw [List.map_cons, List.flatten_cons, this, restT]
theorem join_gap (sep : List UInt8) : ∀ l : List (List UInt8), Lib.join l sep = gapT sep l
  | [] => rfl
  | a :: r => by rw [Lib.join_cons, rest_tail, gapT_cons]
theorem join_any (l : List ByteArray) (B : Nat) (A : Option Addr) (cap : Nat) (W : World) (hB : B ≤ W.heap.size) (hv : RowV (PsIn W l) B l.length (.slice A l.length cap)) (hlen : (gapT [44, 32] (l.map fun s => s.data.toList)).length ≤ 140737488355328) (hl : l.length ≤ 140737488355328) :
    Calls Tryz.prog 43 #[.slice A l.length cap, .string ⟨#[44, 32]⟩] W fun e w' => e = .returned (.string ⟨(gapT [44, 32] (l.map fun s => s.data.toList)).toArray⟩) ∧ Below W.heap.size W w' := by
  obtain ⟨A1, cap1, e1, hc1, hc2, hrow⟩ := hv
  injection e1 with e2 e3 e4
  subst e2 e4
  clear e3
  cases l with
  | nil =>
    refine (Tryz.strings_Join_none A cap _ W).mono ?_
    rintro e w' ⟨rfl, rfl⟩
    exact ⟨rfl, Below.refl _ _⟩
  | cons s r =>
    obtain ⟨b, o, rfl, hb, hi⟩ := hrow (by simp)
    have hcell : ∀ (l : List ByteArray) (o : Nat), PsIn W l b o → ∀ (j : Nat) x, l[j]? = some x → W.cell? ⟨b, o + j, none⟩ = some (.string x) := by
      intro l
      induction l with
      | nil => intro o _ j x hx; simp at hx
      | cons s r ih =>
        intro o hi j x hx
        cases j with
        | zero =>
          obtain rfl : s = x := by simpa using hx
          exact hi.1
        | succ j =>
          have := ih (o + 1) hi.2.2 j x (by simpa using hx)
          rwa [show o + 1 + j = o + (j + 1) by omega] at this
    have e := join_gap [44, 32] ((s :: r).map fun s => s.data.toList)
    have := Tryz.strings_Join b o cap (s :: r) ⟨#[44, 32]⟩ W (hcell _ o hi) (by omega) hl hc1 (by rw [show (⟨#[44, 32]⟩ : ByteArray).data.toList = [44, 32] from rfl, e]; exact hlen)
    rw [show (⟨#[44, 32]⟩ : ByteArray).data.toList = [44, 32] from rfl, e] at this
    exact this

theorem kept3 {w w' : World} {e T : TypeId} {b g : Nat} {x0 x1 x2 : Value} {fr : Nat × Nat} (h : OthersKept e (some b) w w') (hg : w.heap[g]? = some (.cells #[x0, x1, x2] T fr)) (hb : g ≠ b) (hT : T ≠ e := by decide) :
    w'.cell? ⟨g, 0, none⟩ = some x0 ∧ w'.cell? ⟨g, 1, none⟩ = some x1 ∧ w'.cell? ⟨g, 2, none⟩ = some x2 :=
  have hb' : some g ≠ some b := fun e => hb (by injection e)
  ⟨kept_cell (o := 0) h hg hb' hT, kept_cell (o := 1) h hg hb' hT, kept_cell (o := 2) h hg hb' hT⟩

set_option maxHeartbeats 4000000 in
set_option maxRecDepth 100000 in
theorem function_any (f : Fn) (hf : f.b.stok) (lo b : Nat) (t : List UInt8) (W : World) (vp vb : Value) (ht : CT lo W) (h : WS lo W b t (0 : Nat)) (hlo : lo ≤ W.heap.size) (hp : RowV (PsIn W f.ps) lo f.ps.length vp) (hb : SV lo W vb f.b) (hps : f.ps.length ≤ 140737488355328)
    (hlen : t.length + (fnX f).length ≤ 70368744177664) :
    Calls Tryz.prog 20 #[used b, .agg #[.string f.s, vp, vb]] W fun e w' => e = .returned (.tuple #[]) ∧ Wrote lo b W (t ++ fnX f) (0 : Nat) w' := by
  obtain ⟨Ap, capp, rfl, hp1, hp2, hrow⟩ := id hp
  obtain ⟨Ab, capb, rfl, _⟩ := id hb
  obtain ⟨X, hX⟩ : ∃ X, f.b.txt (0 + 1) = X := ⟨_, rfl⟩
  have hbk := cn_block_any f.b hf
  unfold fnX at hlen ⊢
  rw [show f.b.txt 1 = X from hX] at hlen ⊢
  obtain ⟨J, hJ⟩ : ∃ J, gapT [44, 32] (f.ps.map fun s => s.data.toList) = J := ⟨_, rfl⟩
  have hjo := join_any f.ps lo Ap capp
  rw [hJ] at hlen hjo ⊢
  simp only [List.length_append, List.length_cons, List.length_nil] at hlen
  obtain ⟨w2, hw2e⟩ : ∃ w2, W.alloc (.cells #[.string f.s, .slice Ap f.ps.length capp, .slice Ab f.b.len capb] 47) = w2 := ⟨_, rfl⟩
  have hb2 : Below W.heap.size W w2 := by rw [← hw2e]; exact (Below.refl _ _).alloc (Nat.le_refl _) _
  have hg2 : w2.heap[W.heap.size]? = some (.cells #[.string f.s, .slice Ap f.ps.length capp, .slice Ab f.b.len capb] 47 (0, 0)) := by rw [← hw2e]; exact heap_alloc_new W _
  have hbg : W.heap.size ≠ b := by have := h.lt; omega
  have hw2 : Wrote lo b W t (0 : Nat) w2 := (Wrote.refl h).below hb2 hlo
  have hlow2 := hw2.lo hlo
  have ht2 := ht.on hw2.bl
  have hR := Wrote.refl hw2.ws
  have hS0 : Below w2.heap.size w2 w2.drew := Below.drew (Below.refl _ _)
  have hT0 := hjo w2.drew (Nat.le_trans hlow2 hS0.size) (hp.imp (Nat.le_refl _) fun _ _ hb' hq => PsIn.below (hw2.bl.trans (hS0.mono hlow2)) hb' hq) (by omega) hps
  have HB : Hid (∀ w2', Wrote lo b w2 (t ++ ([102, 117, 110, 99, 32] ++ f.s.data.toList ++ [40] ++ J ++ [41])) (0 : Nat) w2' → Calls Tryz.prog 44 #[used b, .slice Ab f.b.len capb] w2' fun e w' => e = .returned (.tuple #[]) ∧ Wrote lo b w2' (t ++ ([102, 117, 110, 99, 32] ++ f.s.data.toList ++ [40] ++ J ++ [41]) ++ blkT 0 X) (0 : Nat) w') :=
    hid fun w2' hw => by
      have := hbk lo b (t ++ ([102, 117, 110, 99, 32] ++ f.s.data.toList ++ [40] ++ J ++ [41])) 0 w2' Ab capb (ht2.on hw.bl) hw.ws (hw.lo hlow2) (SV.below hb (hw2.bl.trans hw.bl) (Nat.le_refl _)) (by decide)
      rw [hX] at this
      exact this (by simp only [List.length_append, List.length_cons, List.length_nil] at hlen ⊢; omega)
  have HZ : Hid (∀ w2', Wrote lo b w2 (t ++ ([102, 117, 110, 99, 32] ++ f.s.data.toList ++ [40] ++ J ++ [41]) ++ blkT 0 X) (0 : Nat) w2' → Calls Tryz.prog 42 #[used b, .slice (some ⟨w2'.heap.size, 0, none⟩) 1 1] (w2'.alloc (.cells #[.string ⟨#[10]⟩] 9)) fun e w' => e = .returned (.tuple #[]) ∧ Wrote lo b w2' (t ++ ([102, 117, 110, 99, 32] ++ f.s.data.toList ++ [40] ++ J ++ [41]) ++ blkT 0 X ++ [10]) (0 : Nat) w') :=
    hid fun w2' hw => add_one lo b _ _ ⟨#[10]⟩ w2' hw.ws (hw.lo hlow2) (by simp only [List.length_append, List.length_cons, List.length_nil] at hlen ⊢; omega)
  clear hjo hbk hJ hX
  go_enter Tryz.func20, Tryz.ntmps20
  go_upto_region 1 with fail
  refine wp_region_held_drew (S := fun w' => OthersKept 5 (some b) w2 w') (by kernel_rfl) hR.ok (fun hHeld => ?_)
  refine wpAnyH_take (i := 0) (v := used b) rfl (by kernel_rfl) (by kernel_rfl) (by kernel_rfl) (fun _ _ _ h => h) (Or.inl ⟨by rfl, ?_⟩) (by assumption) ?_
  · intro W' hSw
    obtain ⟨l0, l1, l2⟩ := kept3 hSw hg2 hbg
    go_simp
  try simp only [Act.put, List.getElem_toArray, List.getElem_cons_zero, List.setIfInBounds_toArray, List.set_cons_zero, List.set_cons_succ]
  refine wpAnyH_take (i := 1) (v := .pointer (some ⟨W.heap.size, 0, none⟩)) rfl (by kernel_rfl) (by kernel_rfl) (by kernel_rfl) (fun _ _ _ h => h) (Or.inl ⟨by rfl, ?_⟩) (by assumption) ?_
  · intro W' hSw
    obtain ⟨l0, l1, l2⟩ := kept3 hSw hg2 hbg
    go_simp
  try simp only [Act.put, List.getElem_toArray, List.getElem_cons_zero, List.getElem_cons_succ, List.setIfInBounds_toArray, List.set_cons_zero, List.set_cons_succ]
  refine wpAnyH_take (i := 2) (v := .string f.s) rfl (by kernel_rfl) (by kernel_rfl) (by kernel_rfl) (fun _ _ _ h => h) (Or.inl ⟨by rfl, ?_⟩) (by assumption) ?_
  · intro W' hSw
    obtain ⟨l0, l1, l2⟩ := kept3 hSw hg2 hbg
    go_simp
  try simp only [Act.put, List.getElem_toArray, List.getElem_cons_zero, List.getElem_cons_succ, List.setIfInBounds_toArray, List.set_cons_zero, List.set_cons_succ]
  refine wpAnyH_take (i := 3) (v := .pointer (some ⟨W.heap.size, 1, none⟩)) rfl (by kernel_rfl) (by kernel_rfl) (by kernel_rfl) (fun _ _ _ h => h) (Or.inl ⟨by rfl, ?_⟩) (by assumption) ?_
  · intro W' hSw
    obtain ⟨l0, l1, l2⟩ := kept3 hSw hg2 hbg
    go_simp
  try simp only [Act.put, List.getElem_toArray, List.getElem_cons_zero, List.getElem_cons_succ, List.setIfInBounds_toArray, List.set_cons_zero, List.set_cons_succ]
  refine wpAnyH_take (i := 4) (v := .slice Ap f.ps.length capp) rfl (by kernel_rfl) (by kernel_rfl) (by kernel_rfl) (fun _ _ _ h => h) (Or.inl ⟨by rfl, ?_⟩) (by assumption) ?_
  · intro W' hSw
    obtain ⟨l0, l1, l2⟩ := kept3 hSw hg2 hbg
    go_simp
  try simp only [Act.put, List.getElem_toArray, List.getElem_cons_zero, List.getElem_cons_succ, List.setIfInBounds_toArray, List.set_cons_zero, List.set_cons_succ]
  refine wpAnyH_ready (rs := [5]) (by kernel_rfl) (by simp) ?_
  refine AllReadyH.cons rfl (fun K hK => ?_) AllReadyH.nil
  go_simp
  go_at_call 43
  refine hT0.mono ?_
  rintro e5 w5 ⟨rfl, e5b⟩
  go_wp2_with fail
  have e5 := hS0.trans (e5b.mono hS0.size)
  have hw5 := hR.below e5 hlow2
  refine hK.out _ _ hw5.ok (fun _ => ?_)
  clear hK K
  try simp only [Act.put, List.getElem_toArray, List.getElem_cons_zero, List.getElem_cons_succ, List.setIfInBounds_toArray, List.set_cons_zero, List.set_cons_succ]
  refine wpAnyH_ready (rs := [6]) (by kernel_rfl) (by simp) ?_
  refine AllReadyH.cons rfl (fun K hK => ?_) AllReadyH.nil
  go_simp
  refine hK.out _ _ (hw5.ok.alloc _) (fun _ => ?_)
  clear hK K
  try simp only [Act.put, List.getElem_toArray, List.getElem_cons_zero, List.getElem_cons_succ, List.setIfInBounds_toArray, List.set_cons_zero, List.set_cons_succ]
  have ha := add_any lo b t _ [⟨#[102, 117, 110, 99, 32]⟩, f.s, ⟨#[40]⟩, ⟨J.toArray⟩, ⟨#[41]⟩] 5 rfl (by decide) w5 hw5.ws (hw5.lo hlow2) (by simp only [catB, List.length_append, List.length_cons, List.length_nil] at hlen ⊢; omega) #[.string ⟨#[102, 117, 110, 99, 32]⟩, .string f.s, .string ⟨#[40]⟩, .string ⟨J.toArray⟩, .string ⟨#[41]⟩] rfl
  refine wpAnyH_ready (rs := [7]) (by kernel_rfl) (by simp) ?_
  refine AllReadyH.cons rfl (fun K hK => ?_) AllReadyH.nil
  go_simp
  go_at_call 42
  refine ha.mono ?_
  rintro e6 w6 ⟨rfl, h6q⟩
  go_wp2_with fail
  have h6 := hw5.trans h6q
  refine hK.out _ _ h6.ok (fun _ => ?_)
  clear hK K
  try simp only [Act.put, List.getElem_toArray, List.getElem_cons_zero, List.getElem_cons_succ, List.setIfInBounds_toArray, List.set_cons_zero, List.set_cons_succ]
  refine wpAnyH_done (by kernel_rfl) ?_ _
  rw [show catB [⟨#[102, 117, 110, 99, 32]⟩, f.s, ⟨#[40]⟩, ⟨J.toArray⟩, ⟨#[41]⟩] = [102, 117, 110, 99, 32] ++ f.s.data.toList ++ [40] ++ J ++ [41] by simp only [catB, List.append_nil, List.append_assoc]] at h6
  obtain ⟨d0, d1, d2⟩ := kept3 h6.ok hg2 hbg
  have hq := HB.out _ h6
  go_upto_region 3 with (go_at_call 44; ((with_reducible refine hq.mono ?_); clear hq; rintro e w7 ⟨rfl, h7q⟩))
  have h7 := h6.trans h7q
  have hz := HZ.out _ h7
  clear d0 d1 d2
  go_wp2_with (go_at_call 42; ((with_reducible refine hz.mono ?_); rintro e w8 ⟨rfl, h8q⟩))
  go_end0
  refine ⟨rfl, ?_⟩
  have := hw2.trans (h7.trans h8q)
  simp only [List.append_assoc] at this ⊢
  exact this

end Go.Proofs.YtppagjhmlgkamaaGreatDoor
