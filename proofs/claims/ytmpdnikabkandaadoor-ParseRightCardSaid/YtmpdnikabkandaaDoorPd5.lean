/-
  Texts PbM PbN LexPl Inv PbO PbP PcS TreeF TreeF1 TreeF2 TreeF3 TreeF4 TreeF5 TreeF6 TreeR TreeG TreeE TreeQ TreeU LexCu: put together.
-/
import Derived.Test.YtmpdnikabkandaaDoorPd4
import Derived.Recover
import Derived.Deep.RegionHeld3
import Derived.Deep.RegionHeldLaw
import Derived.Lib.SlBytesConst
import Derived.Deep.QuietTactic
import Derived.BigQuiet
/-
  Package parse: a program.
-/
namespace Go.Proofs.YtmpdnikabkandaaDoor
open Go Go.RowKit Go.Lib
attribute [local go_sem high] run_tok0 run_tok1 run_tok2

/-- At the head of each round: the functions so far; the statements so far. -/
def FRel (n rb g N cT : Nat) (T : List Tok) (W : World) (n3 : Nat) (y : PR (List Fn)) (wr : World) : Prop :=
  ∃ m l cs i A c, funcsT n m l (T.drop i) = y ∧ Rd wr rb g N cT T i 0 ∧ Gr rb W wr ∧ wr.heap[W.heap.size]? = some (.cells #[.slice none 0 0, .slice none 0 0] 27) ∧ wr.heap[n3]? = some (.cells #[.slice A l.length c, .slice none 0 0] 27) ∧
    wr.ownsRow (n3 + 1) 41 3 (.slice A l.length c) l.length cs ∧ fCs (rowp (n3 + 1) (.slice A l.length c)) wr l cs ∧ l.length ≤ 32
def MRel (n rb g N cT : Nat) (T : List Tok) (W : World) (n3 : Nat) (wE : World) (Af : Option Addr) (nf cf : Nat) (y : PR (List Sm)) (wr : World) : Prop :=
  ∃ m l cs i A c, mainT n m l (T.drop i) = y ∧ Rd wr rb g N cT T i 0 ∧ Gr rb W wr ∧ Kp (n3 + 1) wE wr ∧ wr.heap[W.heap.size]? = some (.cells #[.slice none 0 0, .slice none 0 0] 27) ∧ wr.heap[n3]? = some (.cells #[.slice Af nf cf, .slice A l.length c] 27) ∧
    wr.ownsRow wE.heap.size 38 6 (.slice A l.length c) l.length cs ∧ tCs (rowp wE.heap.size (.slice A l.length c)) wr l cs ∧ l.length ≤ i
theorem drop_lt {T : List Tok} {i j : Nat} (h : (T.drop j).length < (T.drop i).length) : i < j := by
  rw [List.length_drop, List.length_drop] at h
  omega
theorem outer_ne {n o : Nat} {ts : List Tok} {m : Nat} {l : List Sm} {y : PR (List Sm)} (h : (outerT n o ts).bind (fun t r => mainT n m (l ++ [t]) r) = y) (hy : y ≠ .out) : outerT n o ts ≠ .out := fun e => by rw [e] at h; exact hy h.symm
theorem func_ne {n : Nat} {ts : List Tok} {m : Nat} {l : List Fn} {y : PR (List Fn)} (h : (funcT n ts).bind (fun t r => funcsT n m (l ++ [t]) r) = y) (hy : y ≠ .out) : funcT n ts ≠ .out := fun e => by rw [e] at h; exact hy h.symm

set_option maxRecDepth 100000 in
set_option maxHeartbeats 2000000 in
theorem prog_any {W : World} {rb g N cT i0 : Nat} {T : List Tok} (h : Rd W rb g N cT T i0 0) (n : Nat) (Y : PR Pg) (hYY : progT n (T.drop i0) = Y) (hYo : Y ≠ .out) :
    Calls Tryd.prog 10 #[.pointer (some ⟨rb, 0, none⟩)] W (QP rb g N cT T W Y) := by
  obtain ⟨y, hy⟩ : ∃ y, funcsT n n [] (T.drop i0) = y := ⟨_, rfl⟩
  have hY : (y.bind fun fs r => (mainT n n [] r).bind fun m r => .ok (⟨fs, smSS m⟩ : Pg) r) = Y := by rw [← hYY, progT, hy]
  have hyo : y ≠ .out := fun e => by rw [e] at hY; exact hYo hY.symm
  clear hYY
  obtain ⟨i0', hi, hz0, hz1, hz2⟩ := info_parts stInfo
  obtain ⟨i1', fi, fz0, fz1, fz2⟩ := info_parts fnInfo
  have hrl := h.rlt
  have hgl := h.tok.1
  have hN : N ≤ 65537 := by have := h.good.len; have := h.len; omega
  have h0 := (h.alloc (.cells #[.slice none 0 0, .slice none 0 0] 27)).alloc (.cells #[.slice none 0 0, .slice none 0 0] 27)
  have B8 := (Below.heap_alloc (W.alloc (.cells #[.slice none 0 0, .slice none 0 0] 27)) (.cells #[.slice none 0 0, .slice none 0 0] 27) W.heap.size (by simp)).trans (heap_alloc_new W (.cells #[.slice none 0 0, .slice none 0 0] 27))
  have B7 := heap_alloc_new (W.alloc (.cells #[.slice none 0 0, .slice none 0 0] 27)) (.cells #[.slice none 0 0, .slice none 0 0] 27)
  rw [World.size_alloc] at B7
  have g0 := ((Gr.refl rb W).alloc (.cells #[.slice none 0 0, .slice none 0 0] 27)).alloc (.cells #[.slice none 0 0, .slice none 0 0] 27)
  have z0 : ((W.alloc (.cells #[.slice none 0 0, .slice none 0 0] 27)).alloc (.cells #[.slice none 0 0, .slice none 0 0] 27)).heap.size = W.heap.size + 2 := by simp
  clear h
  go_enter Tryd.func10, Tryd.ntmps10
  go_wp2
  obtain ⟨w0, hw0⟩ : ∃ W1, (W.alloc (.cells #[.slice none 0 0, .slice none 0 0] 27)).alloc (.cells #[.slice none 0 0, .slice none 0 0] 27) = W1 := ⟨_, rfl⟩
  rw [hw0] at h0 B8 B7 g0 z0 ⊢
  clear hw0
  obtain ⟨n3, hn3⟩ : ∃ n3, W.heap.size + 1 = n3 := ⟨_, rfl⟩
  rw [hn3] at B7 ⊢
  have hrb3 : rb < n3 := by omega
  have hstart : FRel n rb g N cT T W n3 y w0 := ⟨n, [], [], i0, none, 0, hy, h0, g0, B8, B7, World.ownsRow_nil _ _ _ _, rfl, Nat.zero_le _⟩
  clear h0 g0 B8 B7 z0 hy
  go_loopw [] (fun wr => FRel n rb g N cT T W n3 y wr) (fun wr => posR rb N wr)
  case atStart => exact hstart
  case round =>
    clear hstart
    obtain ⟨m, l, cs, i, A, c, hy, hR, hG, B8, B7, hown, hx, hl32⟩ := hrel
    have hl7 := lt_heap B7
    have hl8 := lt_heap B8
    cases m with
    | zero => exact absurd hy.symm hyo
    | succ m =>
    rw [funcsT] at hy
    obtain ⟨nf, hnf⟩ : ∃ nf, l.length = nf := ⟨_, rfl⟩
    rw [hnf] at hown hl32 hy B7 hx
    have hne0 : (Value.slice A nf c).ownBlock ≠ some rb := fun e => by have := (hown.lt rb e).1; omega
    have hiN := hR.lt
    cases b : isT (T.drop i) [102, 117, 110, 99] with
    | true =>
      have HI := Lib.hid (show Calls Tryd.prog 23 #[.pointer (some ⟨rb, 0, none⟩), .string ⟨#[102, 117, 110, 99]⟩] wr (fun e w' => e = .returned (.bool true) ∧ Below wr.heap.size wr w') from is_any hR [102, 117, 110, 99] true b)
      rw [b, if_pos rfl] at hy
      have HB7 := Lib.hid (fun w5 (e5 : Below wr.heap.size wr w5) => (e5.block _ (lt_heap B7)).trans B7)
      have HC7 := Lib.hid (fun w5 (e5 : Below wr.heap.size wr w5) (j : Nat) => box_cell (HB7.out w5 e5) j)
      by_cases h32 : nf = 32
      · subst h32
        rw [if_pos rfl] at hy
        have HF := Lib.hid (fun w1 (h1 : Rd w1 rb g N cT T i 0) => fail_any h1 10 _ 10 rfl rfl)
        go_wp2_with (first
          | (go_at_call 23; ((with_reducible refine HI.out.mono ?_); rintro e' w5 ⟨rfl, e5⟩; have h5 := hR.below e5; have c0 := HC7.out w5 e5 0; simp only [List.getElem?_toArray, List.getElem?_cons_zero] at c0))
          | (go_at_call 24; ((with_reducible refine (HF.out _ h5).mono ?_); rintro e' w6 ⟨rfl, e6⟩)))
        rw [← hY, ← hy]
        exact ⟨rfl, rfl, hG.trans ((Gr.of e5).trans (Gr.of e6))⟩
      · rw [if_neg h32] at hy
        have h33 : nf + 1 ≤ 32 := Nat.lt_of_le_of_ne hl32 h32
        have d32 : decide ((nf : Int) = 32) = false := decide_eq_false (by omega)
        have hfne := func_ne hy hyo
        have HFN := fun w1 (h1 : Rd w1 rb g N cT T i 0) => func_any h1 n hfne
        go_upto_region 5 with (go_at_call 23; ((with_reducible refine HI.out.mono ?_); rintro e' w5 ⟨rfl, e5⟩; have h5 := hR.below e5; have c0 := HC7.out w5 e5 0; simp only [List.getElem?_toArray, List.getElem?_cons_zero] at c0))
        have g5 := Gr.of (rb := rb) e5
        have z5 := e5.size
        have B7 := HB7.out w5 e5
        have B8 := (e5.block _ (lt_heap B8)).trans B8
        have cS : w5.cell? ⟨n3, 0, none⟩ = some (.slice A nf c) := box_cell B7 0
        have hown5 := hown.kept g5 (.inr hne0)
        have hx5 : fCs (rowp (n3 + 1) (.slice A nf c)) w5.drew l cs := hx.kp (W' := w5.drew) (q := rowp (n3 + 1) (.slice A nf c)) z5 (fun k hk hl => e5.block k hl) (fun k hk _ => hk)
        have hl5 := lt_heap B7
        clear HI HB7 HC7 c0 hown hx
        cases hq : funcT n (T.drop i) with
        | out => exact absurd hq hfne
        | bad p cc =>
          rw [hq] at HFN hy
          have HF := Lib.hid HFN
          clear HFN
          subst hy
          have hS : w5.drew.cell? ⟨n3, 0, none⟩ = some (.slice A nf c) := cS
          refine wp_region_late (fun w' => w'.cell? ⟨n3, 0, none⟩ = some (.slice A nf c)) 7 (by kernel_rfl) ?_
          refine AnyL.take 0 (.pointer (some ⟨n3, 0, none⟩)) rfl (by kernel_rfl) (by kernel_rfl) (by kernel_rfl) (by kernel_rfl) (fun _ _ _ h => h) (Or.inl ⟨by rfl, ?_⟩) (by assumption) ?_
          · intro W' hSw
            go_simp
          try simp only [Act.put, List.getElem_toArray, List.getElem_cons_zero, List.setIfInBounds_toArray, List.set_cons_zero, List.set_cons_succ]
          refine AnyL.take 1 (.slice A nf c) rfl (by kernel_rfl) (by kernel_rfl) (by kernel_rfl) (by kernel_rfl) (fun _ _ _ h => h) (Or.inl ⟨by rfl, ?_⟩) (by assumption) ?_
          · intro W' hSw
            go_simp
          try simp only [Act.put, List.getElem_toArray, List.getElem_cons_zero, List.getElem_cons_succ, List.setIfInBounds_toArray, List.set_cons_zero, List.set_cons_succ]
          refine AnyL.take 2 (.pointer (some ⟨rb, 0, none⟩)) rfl (by kernel_rfl) (by kernel_rfl) (by kernel_rfl) (by kernel_rfl) (fun _ _ _ h => h) (Or.inl ⟨by rfl, ?_⟩) (by assumption) ?_
          · intro W' hSw
            go_simp
          try simp only [Act.put, List.getElem_toArray, List.getElem_cons_zero, List.getElem_cons_succ, List.setIfInBounds_toArray, List.set_cons_zero, List.set_cons_succ]
          refine AnyL.next 3 (by kernel_rfl) rfl (fun K hK => ?_)
          go_simp
          go_at_call 25
          refine (HF.out _ h5.drew).mono ?_
          rintro e2 w6 ⟨rfl, g6⟩
          go_wp2_with fail
          rw [← hY]
          exact ⟨rfl, rfl, hG.trans (g5.trans ((Gr.drew (Gr.refl rb w5)).trans g6))⟩
        | ok q r =>
          have hlen2 := func_left hq
          rw [hq] at HFN hy
          have HF := Lib.hid HFN
          clear HFN
          have hS : w5.drew.cell? ⟨n3, 0, none⟩ = some (.slice A nf c) := cS
          refine wp_region_late (fun w' => w'.cell? ⟨n3, 0, none⟩ = some (.slice A nf c)) 7 (by kernel_rfl) ?_
          refine AnyL.take 0 (.pointer (some ⟨n3, 0, none⟩)) rfl (by kernel_rfl) (by kernel_rfl) (by kernel_rfl) (by kernel_rfl) (fun _ _ _ h => h) (Or.inl ⟨by rfl, ?_⟩) (by assumption) ?_
          · intro W' hSw
            go_simp
          try simp only [Act.put, List.getElem_toArray, List.getElem_cons_zero, List.setIfInBounds_toArray, List.set_cons_zero, List.set_cons_succ]
          refine AnyL.take 1 (.slice A nf c) rfl (by kernel_rfl) (by kernel_rfl) (by kernel_rfl) (by kernel_rfl) (fun _ _ _ h => h) (Or.inl ⟨by rfl, ?_⟩) (by assumption) ?_
          · intro W' hSw
            go_simp
          try simp only [Act.put, List.getElem_toArray, List.getElem_cons_zero, List.getElem_cons_succ, List.setIfInBounds_toArray, List.set_cons_zero, List.set_cons_succ]
          refine AnyL.take 2 (.pointer (some ⟨rb, 0, none⟩)) rfl (by kernel_rfl) (by kernel_rfl) (by kernel_rfl) (by kernel_rfl) (fun _ _ _ h => h) (Or.inl ⟨by rfl, ?_⟩) (by assumption) ?_
          · intro W' hSw
            go_simp
          try simp only [Act.put, List.getElem_toArray, List.getElem_cons_zero, List.getElem_cons_succ, List.setIfInBounds_toArray, List.set_cons_zero, List.set_cons_succ]
          refine AnyL.next 3 (by kernel_rfl) rfl (fun K hK => ?_)
          go_simp
          go_at_call 25
          refine (HF.out _ h5.drew).mono ?_
          rintro e2 w6 ⟨⟨vv, rfl, vp, vb, rfl, hvp, hvb, hsz⟩, ⟨i6, h6, hd6⟩, g6⟩
          obtain ⟨A1, k1, el1, _⟩ := id hvp
          obtain ⟨A2, k2, el2, _⟩ := id hvb
          subst el1
          subst el2
          go_wp2_with fail
          have B76 := (g6.block (k := n3) (lt_heap B7) (by omega)).trans B7
          have s6 : w6.cell? ⟨n3, 0, none⟩ = some (.slice A nf c) := box_cell B76 0
          refine hK.out _ _ (fun _ => s6) ?_
          clear hK K
          try simp only [Act.put, List.getElem_toArray, List.getElem_cons_zero, List.getElem_cons_succ, List.setIfInBounds_toArray, List.set_cons_zero, List.set_cons_succ]
          refine AnyL.next 4 (by kernel_rfl) rfl (fun K hK => ?_)
          go_simp
          have s6a : (w6.alloc (.cells #[.string q.s, .slice A1 q.ps.length k1, .slice A2 q.b.len k2] 41)).cell? ⟨n3, 0, none⟩ = some (.slice A nf c) := box_cell ((Below.heap_alloc w6 (.cells #[.string q.s, .slice A1 q.ps.length k1, .slice A2 q.b.len k2] 41) n3 (lt_heap B76)).trans B76) 0
          refine hK.out _ _ (fun _ => s6a) ?_
          clear hK K
          try simp only [Act.put, List.getElem_toArray, List.getElem_cons_zero, List.getElem_cons_succ, List.setIfInBounds_toArray, List.set_cons_zero, List.set_cons_succ]
          refine AnyL.next 5 (by kernel_rfl) rfl (fun K hK => ?_)
          have zw6 := g6.size
          have zw6' : w5.drew.heap.size = w5.heap.size := rfl
          refine oper_append_at (by rfl) (.tmp 13) (.tmp 16) 24 rfl (n3 + 1) 41 i1' _ 3 64 Tryd.underlying24 fi fz0 fz1 fz2 rfl (by decide) (.slice A nf c) nf (cs) rfl ((hown5.kept ((Gr.drew (Gr.refl rb w5)).trans g6) (.inr hne0)).alloc _) ⟨w6.heap.size, 0, none⟩ 1 1 (newf q (.slice A1 q.ps.length k1) (.slice A2 q.b.len k2)) rfl rfl (newf_cells w6 q _ _) (newf_one q A1 A2 _ _ _ _) (by unfold maxLen; omega) (by omega) (by simp; omega) ?_
          intro v7 w7 hown7 hgrow7 _ hat7
          obtain ⟨h7, G7, K7, z7, hx7⟩ := fn_low (l := l) (wr := w5.drew) (L := n3 + 1) (by omega) (hown5.kept (Gr.drew (Gr.refl rb w5)) (.inr hne0)) hx5 g6 hvp hvb hsz h6 hgrow7 hat7 (by omega) (by omega)
          obtain ⟨A7, c7, e7⟩ := own_slice hown7
          subst e7
          have B77 := (K7 n3 (by omega) (by omega)).trans (show w5.drew.heap[n3]? = _ from B7)
          have s7 : w7.cell? ⟨n3, 0, none⟩ = some (.slice A nf c) := box_cell B77 0
          have f7 := box_frozen B77 0
          refine hK.out _ _ (fun _ => s7) ?_
          clear hK K s6 s6a
          try simp only [Act.put, List.getElem_toArray, List.getElem_cons_zero, List.getElem_cons_succ, List.setIfInBounds_toArray, List.set_cons_zero, List.set_cons_succ]
          refine AnyL.take 6 (.pointer (some ⟨n3, 0, none⟩)) rfl (by kernel_rfl) (by kernel_rfl) (by kernel_rfl) (by kernel_rfl) (fun _ _ _ h => h) (Or.inl ⟨by rfl, ?_⟩) (by assumption) ?_
          · intro W' hSw
            go_simp
          try simp only [Act.put, List.getElem_toArray, List.getElem_cons_zero, List.getElem_cons_succ, List.setIfInBounds_toArray, List.set_cons_zero, List.set_cons_succ]
          refine AnyL.next 7 (by kernel_rfl) rfl (fun K hK => ?_)
          go_simp
          refine hK.out _ _ (fun e => absurd rfl e) ?_
          clear hK K
          try simp only [Act.put, List.getElem_toArray, List.getElem_cons_zero, List.getElem_cons_succ, List.setIfInBounds_toArray, List.set_cons_zero, List.set_cons_succ]
          refine AnyL.done (by kernel_rfl) ?_
          have hne7 : (Value.slice A7 (nf + 1) c7).ownBlock ≠ some n3 := fun e => by have := (hown7.lt n3 e).1; omega
          have hown8 := hown7.kept (Gr.set (rb := n3) (W := w7) 0 (.slice A7 (nf + 1) c7)) (.inr hne7)
          have hx8 := hx7.kp (W' := w7.setCell ⟨n3, 0, none⟩ (.slice A7 (nf + 1) c7)) (q := rowp (n3 + 1) (.slice A7 (nf + 1) c7)) (by simp) (fun k hk hl => Below.heap_setCell w7 ⟨n3, 0, none⟩ _ k (show k ≠ n3 by have := hk.1; omega)) (fun k hk _ => hk)
          have h8 := h7.set (b := n3) (j := 0) (.slice A7 (nf + 1) c7) (by omega) (by omega)
          have G8 := (G7 W (hG.trans g5).drew (by omega)).setNew (j := 0) (.slice A7 (nf + 1) c7) (show W.heap.size ≤ n3 by omega)
          have B7n := (set2_at (x := .slice A7 (nf + 1) c7) B77).1
          have K8 : ∀ k, k < n3 + 1 → k ≠ rb → k ≠ n3 → (w7.setCell ⟨n3, 0, none⟩ (.slice A7 (nf + 1) c7)).heap[k]? = w5.heap[k]? := fun k hk hr hn => (Below.heap_setCell w7 ⟨n3, 0, none⟩ (.slice A7 (nf + 1) c7) k hn).trans (K7 k hk hr)
          have z8 : (w7.setCell ⟨n3, 0, none⟩ (.slice A7 (nf + 1) c7)).heap.size = w7.heap.size := by simp
          obtain ⟨w8, hw8⟩ : ∃ W1, w7.setCell ⟨n3, 0, none⟩ (.slice A7 (nf + 1) c7) = W1 := ⟨_, rfl⟩
          rw [hw8] at hown8 hx8 h8 G8 B7n K8 z8 ⊢
          clear hw8 f7 s7 hgrow7 hat7 hown7 hx7 B77 B76 G7 K7
          have B8n := (K8 W.heap.size (by omega) (by omega) (by omega)).trans B8
          have hl2 := h8.lt
          rw [← hd6] at hlen2
          have hl3 : i < i6 := drop_lt hlen2
          go_wp2_with fail
          refine ⟨⟨m, l ++ [q], _, i6, A7, c7, by rw [hd6]; exact hy, h8, G8, B8n, by rw [List.length_append, hnf]; exact B7n, by rw [List.length_append, hnf]; exact hown8, by rw [List.length_append, hnf]; exact hx8, by rw [List.length_append, hnf]; exact h33⟩, ?_⟩
          rw [posR_eq h8, posR_eq hR]
          exact Nat.sub_lt_sub_left (Nat.lt_trans hl3 hl2) hl3
    | false =>
      have HI := Lib.hid (show Calls Tryd.prog 23 #[.pointer (some ⟨rb, 0, none⟩), .string ⟨#[102, 117, 110, 99]⟩] wr (fun e w' => e = .returned (.bool false) ∧ Below wr.heap.size wr w') from is_any hR [102, 117, 110, 99] false b)
      rw [b, if_neg (by decide)] at hy
      subst hy
      simp only [PR.bind] at hY
      go_wp2_with (go_at_call 23; ((with_reducible refine HI.out.mono ?_); rintro e' w5 ⟨rfl, e5⟩; have h5 := hR.below e5))
      have g5 := Gr.of (rb := rb) e5
      have hF5 : FX (n3 + 1) w5 (.slice A nf c) l := row_fx (p := rowp (n3 + 1) (.slice A nf c)) (hown.kept g5 (.inr hne0)) (Nat.le_refl _) (hx.kp e5.size (fun k hk hl => e5.block k hl) (fun k hk _ => hk)) (fun k hk => hk.1) hnf.symm
      have G5 := hG.trans g5
      have B7 := (e5.block _ (lt_heap B7)).trans B7
      have B8 := (e5.block _ (lt_heap B8)).trans B8
      obtain ⟨y2, hy2⟩ : ∃ y2, mainT n n [] (T.drop i) = y2 := ⟨_, rfl⟩
      rw [hy2] at hY
      have hy2o : y2 ≠ .out := fun e => by rw [e] at hY; exact hYo hY.symm
      have hE3 := lt_heap B7
      have hE8 := lt_heap B8
      have hzE := G5.size
      have hstart : MRel n rb g N cT T W n3 w5 A nf c y2 w5 := ⟨n, [], [], i, none, 0, hy2, h5, G5, Kp.refl _ _, B8, B7, World.ownsRow_nil _ _ _ _, rfl, Nat.zero_le _⟩
      clear HI hown hx hR hG B7 B8 hl7 hl8 G5 h5 hyo hy2 e5 g5 hne0 hiN
      obtain ⟨wE, hwE⟩ : ∃ wE, w5 = wE := ⟨_, rfl⟩
      rw [hwE] at hF5 hstart hE3 hE8 hzE ⊢
      clear hwE
      go_loopw [] (fun wr => MRel n rb g N cT T W n3 wE A nf c y2 wr) (fun wr => posR rb N wr)
      case atStart => exact hstart
      case round =>
        clear hstart
        obtain ⟨m, lm, cs, i, Am, cm, hy, hR, hG, hKE, B8, B7, hown, hx, hli⟩ := hrel
        have hl7 := lt_heap B7
        have hl8 := lt_heap B8
        have hzK := hKE.size
        cases m with
        | zero => exact absurd hy.symm hy2o
        | succ m =>
        rw [mainT] at hy
        obtain ⟨nm, hnm⟩ : ∃ nm, lm.length = nm := ⟨_, rfl⟩
        rw [hnm] at hown hli B7 hx
        have hne0 : (Value.slice Am nm cm).ownBlock ≠ some rb := fun e => by have := (hown.lt rb e).1; omega
        have hiN := hR.lt
        obtain ⟨tk, htk⟩ : ∃ tk, hdT (T.drop i) = tk := ⟨_, rfl⟩
        have HNW := Lib.hid (now_any hR tk htk)
        rw [htk] at hy
        by_cases hk : tk.kind = 4
        · rw [if_pos hk] at hy
          have k1 : ((tk.kind : Int) == 4) = true := by rw [hk]; rfl
          have k2 : ((tk.kind : Int) != 4) = false := by rw [bne, k1]; rfl
          subst hy
          simp only at hY
          have HB7 := Lib.hid (fun w5 (e5 : Below wr.heap.size wr w5) => (e5.block _ (lt_heap B7)).trans B7)
          have HB8 := Lib.hid (fun w5 (e5 : Below wr.heap.size wr w5) => (e5.block _ (lt_heap B8)).trans B8)
          go_wp2_with (go_at_call 26; ((with_reducible refine HNW.out.mono ?_); rintro e' w5 ⟨rfl, e5⟩; have B7 := HB7.out w5 e5; have B8 := HB8.out w5 e5; have c0 := box_cell B8 0; have c1 := box_cell B8 1; have f0 := box_frozen B8 0; have f1 := box_frozen B8 1; have d0 := box_cell B7 0; have d1 := box_cell B7 1; simp only [List.getElem?_toArray, List.getElem?_cons_succ, List.getElem?_cons_zero] at c0 c1 d0 d1))
          have g5 := Gr.of (rb := rb) e5
          have z5 := e5.size
          have hX : SX wE.heap.size w5 (.slice Am nm cm) (smSS lm) := row_sx (p := rowp wE.heap.size (.slice Am nm cm)) (hown.kept g5 (.inr hne0)) (Nat.le_refl _) (hx.kp e5.size (fun k hk hl => e5.block k hl) (fun k hk _ => hk)) (fun k hk => hk.1) hnm.symm
          have hF := (hF5.kp hKE (Nat.le_refl _)).kp (Kp.below e5) (Nat.le_refl _)
          have hP := put2_heap (a := .slice A nf c) (b := .slice Am nm cm) B8
          have hfin : QP rb g N cT T W Y (.returned (.agg #[.slice A nf c, .slice Am nm cm])) (Proofs.YtmpdnikabkandaaDoor.put2 w5 W.heap.size (.slice A nf c) (.slice Am nm cm)) := by
            rw [← hY]
            exact ⟨⟨_, rfl, _, _, rfl, hF.kp (Kp.put2 (by omega)) (by omega), hX.kp (Kp.put2 (by omega)) (by omega)⟩, ⟨i, (hR.below e5).put2 (by omega) (by omega), rfl⟩, (hG.trans g5).put2 (Nat.le_refl _)⟩
          obtain ⟨wz, hwz⟩ : ∃ W5, Proofs.YtmpdnikabkandaaDoor.put2 w5 W.heap.size (.slice A nf c) (.slice Am nm cm) = W5 := ⟨_, rfl⟩
          show bodyPost _ _ _ _ _ (Proofs.YtmpdnikabkandaaDoor.put2 w5 W.heap.size (.slice A nf c) (.slice Am nm cm))
          rw [hwz] at hP hfin ⊢
          have p0 := box_cell hP 0
          have p1 := box_cell hP 1
          simp only [List.getElem?_toArray, List.getElem?_cons_succ, List.getElem?_cons_zero] at p0 p1
          exact bodyPost_ret (v := .agg #[.slice A nf c, .slice Am nm cm]) (by simp [results, Tryd.results10, go_sem, p0, p1]) rfl hfin
        · rw [if_neg hk] at hy
          have k1 : ((tk.kind : Int) == 4) = false := by rw [beq_eq_false_iff_ne]; omega
          have k2 : ((tk.kind : Int) != 4) = true := by rw [bne, k1]; rfl
          have hone := outer_ne hy hy2o
          have HON := fun w1 (h1 : Rd w1 rb g N cT T i 0) => outerS_any h1 n hone
          go_upto_region 7 with (go_at_call 26; ((with_reducible refine HNW.out.mono ?_); rintro e' w5 ⟨rfl, e5⟩; have h5 := hR.below e5))
          have g5 := Gr.of (rb := rb) e5
          have z5 := e5.size
          have B7 := (e5.block _ (lt_heap B7)).trans B7
          have B8 := (e5.block _ (lt_heap B8)).trans B8
          have cS : w5.cell? ⟨n3, 1, none⟩ = some (.slice Am nm cm) := box_cell B7 1
          have hown5 := hown.kept g5 (.inr hne0)
          have hx5 : tCs (rowp wE.heap.size (.slice Am nm cm)) w5.drew lm cs := hx.kp (W' := w5.drew) (q := rowp wE.heap.size (.slice Am nm cm)) z5 (fun k hk hl => e5.block k hl) (fun k hk _ => hk)
          have hl5 := lt_heap B7
          clear HNW hown hx
          cases hq : outerT n 0 (T.drop i) with
          | out => exact absurd hq hone
          | bad p cc =>
            rw [hq] at HON hy
            have HF := Lib.hid HON
            clear HON
            subst hy
            have hS : w5.drew.cell? ⟨n3, 1, none⟩ = some (.slice Am nm cm) := cS
            refine wp_region_late (fun w' => w'.cell? ⟨n3, 1, none⟩ = some (.slice Am nm cm)) 7 (by kernel_rfl) ?_
            refine AnyL.take 0 (.pointer (some ⟨n3, 1, none⟩)) rfl (by kernel_rfl) (by kernel_rfl) (by kernel_rfl) (by kernel_rfl) (fun _ _ _ h => h) (Or.inl ⟨by rfl, ?_⟩) (by assumption) ?_
            · intro W' hSw
              go_simp
            try simp only [Act.put, List.getElem_toArray, List.getElem_cons_zero, List.setIfInBounds_toArray, List.set_cons_zero, List.set_cons_succ]
            refine AnyL.take 1 (.slice Am nm cm) rfl (by kernel_rfl) (by kernel_rfl) (by kernel_rfl) (by kernel_rfl) (fun _ _ _ h => h) (Or.inl ⟨by rfl, ?_⟩) (by assumption) ?_
            · intro W' hSw
              go_simp
            try simp only [Act.put, List.getElem_toArray, List.getElem_cons_zero, List.getElem_cons_succ, List.setIfInBounds_toArray, List.set_cons_zero, List.set_cons_succ]
            refine AnyL.take 2 (.pointer (some ⟨rb, 0, none⟩)) rfl (by kernel_rfl) (by kernel_rfl) (by kernel_rfl) (by kernel_rfl) (fun _ _ _ h => h) (Or.inl ⟨by rfl, ?_⟩) (by assumption) ?_
            · intro W' hSw
              go_simp
            try simp only [Act.put, List.getElem_toArray, List.getElem_cons_zero, List.getElem_cons_succ, List.setIfInBounds_toArray, List.set_cons_zero, List.set_cons_succ]
            refine AnyL.next 3 (by kernel_rfl) rfl (fun K hK => ?_)
            go_simp
            go_at_call 27
            refine (HF.out _ h5.drew).mono ?_
            rintro e2 w6 ⟨rfl, g6⟩
            go_wp2_with fail
            rw [← hY]
            exact ⟨rfl, rfl, hG.trans (g5.trans ((Gr.drew (Gr.refl rb w5)).trans g6))⟩
          | ok t r =>
            have hlen2 := outer_left hq
            rw [hq] at HON hy
            have HF := Lib.hid HON
            clear HON
            have hS : w5.drew.cell? ⟨n3, 1, none⟩ = some (.slice Am nm cm) := cS
            refine wp_region_late (fun w' => w'.cell? ⟨n3, 1, none⟩ = some (.slice Am nm cm)) 7 (by kernel_rfl) ?_
            refine AnyL.take 0 (.pointer (some ⟨n3, 1, none⟩)) rfl (by kernel_rfl) (by kernel_rfl) (by kernel_rfl) (by kernel_rfl) (fun _ _ _ h => h) (Or.inl ⟨by rfl, ?_⟩) (by assumption) ?_
            · intro W' hSw
              go_simp
            try simp only [Act.put, List.getElem_toArray, List.getElem_cons_zero, List.setIfInBounds_toArray, List.set_cons_zero, List.set_cons_succ]
            refine AnyL.take 1 (.slice Am nm cm) rfl (by kernel_rfl) (by kernel_rfl) (by kernel_rfl) (by kernel_rfl) (fun _ _ _ h => h) (Or.inl ⟨by rfl, ?_⟩) (by assumption) ?_
            · intro W' hSw
              go_simp
            try simp only [Act.put, List.getElem_toArray, List.getElem_cons_zero, List.getElem_cons_succ, List.setIfInBounds_toArray, List.set_cons_zero, List.set_cons_succ]
            refine AnyL.take 2 (.pointer (some ⟨rb, 0, none⟩)) rfl (by kernel_rfl) (by kernel_rfl) (by kernel_rfl) (by kernel_rfl) (fun _ _ _ h => h) (Or.inl ⟨by rfl, ?_⟩) (by assumption) ?_
            · intro W' hSw
              go_simp
            try simp only [Act.put, List.getElem_toArray, List.getElem_cons_zero, List.getElem_cons_succ, List.setIfInBounds_toArray, List.set_cons_zero, List.set_cons_succ]
            refine AnyL.next 3 (by kernel_rfl) rfl (fun K hK => ?_)
            go_simp
            go_at_call 27
            refine (HF.out _ h5.drew).mono ?_
            rintro e2 w6 ⟨⟨vv, rfl, vl, vx, vy, rfl, hvl, hvx, hvy, hok⟩, ⟨i6, h6, hd6⟩, g6⟩
            obtain ⟨A1, k1, el1, _⟩ := id hvl
            obtain ⟨A2, k2, el2, _⟩ := id hvx
            obtain ⟨A3, k3, el3, _⟩ := id hvy
            subst el1
            subst el2
            subst el3
            go_wp2_with fail
            have B76 := (g6.block (k := n3) (lt_heap B7) (by omega)).trans B7
            have s6 : w6.cell? ⟨n3, 1, none⟩ = some (.slice Am nm cm) := box_cell B76 1
            refine hK.out _ _ (fun _ => s6) ?_
            clear hK K
            try simp only [Act.put, List.getElem_toArray, List.getElem_cons_zero, List.getElem_cons_succ, List.setIfInBounds_toArray, List.set_cons_zero, List.set_cons_succ]
            refine AnyL.next 4 (by kernel_rfl) rfl (fun K hK => ?_)
            go_simp
            have s6a : (w6.alloc (.cells #[.int .i64 t.op, .string t.s, .int .i64 t.n, .slice A1 t.l.len k1, .slice A2 t.x.len k2, .slice A3 t.y.len k3] 38)).cell? ⟨n3, 1, none⟩ = some (.slice Am nm cm) := box_cell ((Below.heap_alloc w6 (.cells #[.int .i64 t.op, .string t.s, .int .i64 t.n, .slice A1 t.l.len k1, .slice A2 t.x.len k2, .slice A3 t.y.len k3] 38) n3 (lt_heap B76)).trans B76) 1
            refine hK.out _ _ (fun _ => s6a) ?_
            clear hK K
            try simp only [Act.put, List.getElem_toArray, List.getElem_cons_zero, List.getElem_cons_succ, List.setIfInBounds_toArray, List.set_cons_zero, List.set_cons_succ]
            refine AnyL.next 5 (by kernel_rfl) rfl (fun K hK => ?_)
            have zw6 := g6.size
            have zw6' : w5.drew.heap.size = w5.heap.size := rfl
            refine oper_append_at (by rfl) (.tmp 24) (.tmp 27) 25 rfl (wE.heap.size) 38 i0' _ 6 104 Tryd.underlying25 hi hz0 hz1 hz2 rfl (by decide) (.slice Am nm cm) nm (cs) rfl ((hown5.kept ((Gr.drew (Gr.refl rb w5)).trans g6) (.inr hne0)).alloc _) ⟨w6.heap.size, 0, none⟩ 1 1 (newt t (.slice A1 t.l.len k1) (.slice A2 t.x.len k2) (.slice A3 t.y.len k3)) rfl rfl (newt_cells w6 t _ _ _) (newt_one t A1 A2 A3 _ _ _ _ _ _) (by unfold maxLen; omega) (by omega) (by simp; omega) ?_
            intro v7 w7 hown7 hgrow7 _ hat7
            obtain ⟨h7, G7, K7, z7, hx7⟩ := st_low (l := lm) (wr := w5.drew) (L := wE.heap.size) (by omega) (hown5.kept (Gr.drew (Gr.refl rb w5)) (.inr hne0)) hx5 g6 hvl hvx hvy hok h6 hgrow7 hat7 (by omega) (by omega)
            obtain ⟨A7, c7, e7⟩ := own_slice hown7
            subst e7
            have B77 := (K7 n3 (by omega) (by omega)).trans (show w5.drew.heap[n3]? = _ from B7)
            have s7 : w7.cell? ⟨n3, 1, none⟩ = some (.slice Am nm cm) := box_cell B77 1
            have f7 := box_frozen B77 1
            refine hK.out _ _ (fun _ => s7) ?_
            clear hK K s6 s6a
            try simp only [Act.put, List.getElem_toArray, List.getElem_cons_zero, List.getElem_cons_succ, List.setIfInBounds_toArray, List.set_cons_zero, List.set_cons_succ]
            refine AnyL.take 6 (.pointer (some ⟨n3, 1, none⟩)) rfl (by kernel_rfl) (by kernel_rfl) (by kernel_rfl) (by kernel_rfl) (fun _ _ _ h => h) (Or.inl ⟨by rfl, ?_⟩) (by assumption) ?_
            · intro W' hSw
              go_simp
            try simp only [Act.put, List.getElem_toArray, List.getElem_cons_zero, List.getElem_cons_succ, List.setIfInBounds_toArray, List.set_cons_zero, List.set_cons_succ]
            refine AnyL.next 7 (by kernel_rfl) rfl (fun K hK => ?_)
            go_simp
            refine hK.out _ _ (fun e => absurd rfl e) ?_
            clear hK K
            try simp only [Act.put, List.getElem_toArray, List.getElem_cons_zero, List.getElem_cons_succ, List.setIfInBounds_toArray, List.set_cons_zero, List.set_cons_succ]
            refine AnyL.done (by kernel_rfl) ?_
            have hne7 : (Value.slice A7 (nm + 1) c7).ownBlock ≠ some n3 := fun e => by have := (hown7.lt n3 e).1; omega
            have hown8 := hown7.kept (Gr.set (rb := n3) (W := w7) 1 (.slice A7 (nm + 1) c7)) (.inr hne7)
            have hx8 := hx7.kp (W' := w7.setCell ⟨n3, 1, none⟩ (.slice A7 (nm + 1) c7)) (q := rowp (wE.heap.size) (.slice A7 (nm + 1) c7)) (by simp) (fun k hk hl => Below.heap_setCell w7 ⟨n3, 1, none⟩ _ k (show k ≠ n3 by have := hk.1; omega)) (fun k hk _ => hk)
            have h8 := h7.set (b := n3) (j := 1) (.slice A7 (nm + 1) c7) (by omega) (by omega)
            have G8 := (G7 W (hG.trans g5).drew (by omega)).setNew (j := 1) (.slice A7 (nm + 1) c7) (show W.heap.size ≤ n3 by omega)
            have B7n := (set2_at (x := .slice A7 (nm + 1) c7) B77).2
            have K8 : ∀ k, k < wE.heap.size → k ≠ rb → k ≠ n3 → (w7.setCell ⟨n3, 1, none⟩ (.slice A7 (nm + 1) c7)).heap[k]? = w5.heap[k]? := fun k hk hr hn => (Below.heap_setCell w7 ⟨n3, 1, none⟩ (.slice A7 (nm + 1) c7) k hn).trans (K7 k hk hr)
            have z8 : (w7.setCell ⟨n3, 1, none⟩ (.slice A7 (nm + 1) c7)).heap.size = w7.heap.size := by simp
            obtain ⟨w8, hw8⟩ : ∃ W1, w7.setCell ⟨n3, 1, none⟩ (.slice A7 (nm + 1) c7) = W1 := ⟨_, rfl⟩
            rw [hw8] at hown8 hx8 h8 G8 B7n K8 z8 ⊢
            clear hw8 f7 s7 hgrow7 hat7 hown7 hx7 B77 B76 G7 K7
            have B8n := (K8 W.heap.size (by omega) (by omega) (by omega)).trans B8
            have hl2 := h8.lt
            rw [← hd6] at hlen2
            have hl3 : i < i6 := drop_lt hlen2
            have hKE8 : Kp (n3 + 1) wE w8 := ⟨Nat.le_trans (Nat.le_trans hzK z5) (by rw [z8]; exact z7), fun k hk hl => (K8 k hl (Nat.ne_of_gt (Nat.lt_of_lt_of_le hrb3 (Nat.le_of_succ_le hk))) (Nat.ne_of_gt hk)).trans ((e5.block k (Nat.lt_of_lt_of_le hl hzK)).trans (hKE.block k hk hl))⟩
            go_wp2_with fail
            refine ⟨⟨m, lm ++ [t], _, i6, A7, c7, by rw [hd6]; exact hy, h8, G8, hKE8, B8n, by rw [List.length_append, hnm]; exact B7n, by rw [List.length_append, hnm]; exact hown8, by rw [List.length_append, hnm]; exact hx8, by rw [List.length_append, hnm]; exact Nat.lt_of_le_of_lt hli hl3⟩, ?_⟩
            rw [posR_eq h8, posR_eq hR]
            exact Nat.sub_lt_sub_left (Nat.lt_trans hl3 hl2) hl3

end Go.Proofs.YtmpdnikabkandaaDoor

/-
  Package parse: what Parse defers: a fault that is panicked with is told.
-/
namespace Go.Proofs.YtmpdnikabkandaaDoor
open Go Go.RowKit Go.Lib

theorem run_asked (w : World) (a c : Int) : (Instr.typeAssert (.iface 46 (.agg #[.int .i64 a, .int .i64 c])) 20 46 true).run Tryd.prog w = .ok (.tuple #[.agg #[.int .i64 a, .int .i64 c], .bool true]) w := by kernel_rfl
theorem run_asked0 (w : World) : (Instr.typeAssert .nilIface 20 46 true).run Tryd.prog w = .ok (.tuple #[.agg #[.int .i64 0, .int .i64 0], .bool false]) w := by kernel_rfl
attribute [local go_sem high] run_asked run_asked0

set_option maxRecDepth 100000 in
theorem caught (b1 b2 : Nat) (x y : Int) (a c : Nat) (older : List PanicEntry) (w : World) (h1 : w.heap[b1]? = some (.cells #[.int .i64 x] 3)) (h2 : w.heap[b2]? = some (.cells #[.int .i64 y] 28)) (hne : b1 ≠ b2) :
    CallsD Tryd.prog 9 #[.pointer (some ⟨b1, 0, none⟩), .pointer (some ⟨b2, 0, none⟩)] (.panicking ({ v := .iface 46 (.agg #[.int .i64 a, .int .i64 c]), recovered := false } :: older)) w fun e u' w' =>
      e = .returned (.tuple #[]) ∧ u' = .panicking ({ v := .iface 46 (.agg #[.int .i64 a, .int .i64 c]), recovered := true } :: older) ∧
        w' = ((w.alloc (.cells #[.int .i64 a, .int .i64 c] 46)).drew.setCell ⟨b1, 0, none⟩ (.int .i64 a)).setCell ⟨b2, 0, none⟩ (.int .i64 c) := by
  refine callsD_of_wpS Tryd.func9 rfl fun c₀ cs hu => ?_
  apply wpS_seq
  apply wpS_region
  simp [wpOpsS, go_sem, recoverD, hu, Tryd.ntmps9, Exit.thenS]
  refine wpS_of_wp ?_
  simp only [Array.replicate_succ, Array.replicate_zero, List.push_toArray, List.append_toArray, List.nil_append, List.cons_append, List.setIfInBounds_toArray, List.set_cons_zero, List.set_cons_succ]
  go_wp2
  have hl1 := lt_heap h1
  have hl2 := lt_heap h2
  have B3 := heap_alloc_new w (.cells #[.int .i64 a, .int .i64 c] 46)
  have B1 := (Below.heap_alloc w (.cells #[.int .i64 a, .int .i64 c] 46) b1 hl1).trans h1
  have B2 := (Below.heap_alloc w (.cells #[.int .i64 a, .int .i64 c] 46) b2 hl2).trans h2
  obtain ⟨w1, hw1⟩ : ∃ w1, w.alloc (.cells #[.int .i64 a, .int .i64 c] 46) = w1 := ⟨_, rfl⟩
  rw [hw1] at B1 B2 B3 ⊢
  obtain ⟨n, hn⟩ : ∃ n, w.heap.size = n := ⟨_, rfl⟩
  rw [hn] at B3 hl1 hl2 ⊢
  have hb1 : b1 ≠ n := by omega
  have hb2 : b2 ≠ n := by omega
  have hne' : b2 ≠ b1 := hne.symm
  have d0 : w1.drew.cell? ⟨n, 0, none⟩ = some (.int .i64 a) := box_cell B3 0
  have d1 : w1.drew.cell? ⟨n, 1, none⟩ = some (.int .i64 c) := box_cell B3 1
  have e0 : w1.drew.cell? ⟨b1, 0, none⟩ = some (.int .i64 x) := box_cell B1 0
  have e1 : w1.drew.cell? ⟨b2, 0, none⟩ = some (.int .i64 y) := box_cell B2 0
  have f0 : w1.drew.frozen? ⟨b1, 0, none⟩ = false := box_frozen B1 0
  have f1 : w1.drew.frozen? ⟨b2, 0, none⟩ = false := box_frozen B2 0
  have e1' : (w1.drew.setCell ⟨b1, 0, none⟩ (.int .i64 a)).cell? ⟨b2, 0, none⟩ = some (.int .i64 y) := (World.cell?_setCell_far _ _ _ _ hne).trans e1
  have f1' : (w1.drew.setCell ⟨b1, 0, none⟩ (.int .i64 a)).frozen? ⟨b2, 0, none⟩ = false := (World.frozen?_setCell _ _ _ _).trans f1
  have e2' : (w1.setCell ⟨b1, 0, none⟩ (.int .i64 a)).cell? ⟨b2, 0, none⟩ = some (.int .i64 y) := (World.cell?_setCell_far _ _ _ _ hne).trans e1
  have f2' : (w1.setCell ⟨b1, 0, none⟩ (.int .i64 a)).frozen? ⟨b2, 0, none⟩ = false := (World.frozen?_setCell _ _ _ _).trans f1
  go_region_held (fun w' => w'.cell? ⟨n, 0, none⟩ = some (.int .i64 a) ∧ w'.cell? ⟨n, 1, none⟩ = some (.int .i64 c)) (first | exact ⟨d0, d1⟩ | exact ⟨(World.cell?_setCell_far _ _ _ _ hb1).trans d0, (World.cell?_setCell_far _ _ _ _ hb1).trans d1⟩ | exact ⟨(World.cell?_setCell_far _ _ _ _ hb2).trans ((World.cell?_setCell_far _ _ _ _ hb1).trans d0), (World.cell?_setCell_far _ _ _ _ hb2).trans ((World.cell?_setCell_far _ _ _ _ hb1).trans d1)⟩) (fail)
  refine (show bodyPostS _ _ _ _ _ _ _ _ _ from ?_)
  subst hw1
  exact ⟨rfl, _, rfl, _, results_none rfl _ _ _, rfl, rfl, rfl⟩

set_option maxRecDepth 100000 in
theorem idle (p q : Addr) (w : World) :
    CallsD Tryd.prog 9 #[.pointer (some p), .pointer (some q)] .returning w fun e u' w' =>
      e = .returned (.tuple #[]) ∧ u' = .returning ∧ w' = w.alloc (.cells #[.int .i64 0, .int .i64 0] 46) := by
  refine callsD_of_wpS Tryd.func9 rfl fun c₀ cs hu => ?_
  apply wpS_seq
  apply wpS_region
  simp [wpOpsS, go_sem, recoverD, hu, Tryd.ntmps9, Exit.thenS]
  refine wpS_of_wp ?_
  simp only [Array.replicate_succ, Array.replicate_zero, List.push_toArray, List.append_toArray, List.nil_append, List.cons_append, List.setIfInBounds_toArray, List.set_cons_zero, List.set_cons_succ]
  go_wp2
  exact ⟨rfl, .returning, by cases c₀; simp_all, _, results_none rfl _ _ _, rfl, rfl, rfl⟩

end Go.Proofs.YtmpdnikabkandaaDoor

/-
  Plain mathematics of tokens: where they stand, and what stands between them.
-/
namespace Go.Proofs.YtmpdnikabkandaaDoor
open Go

/-- Whether a comment goes on behind a byte. -/
def stepC (c : Bool) (x : Int) : Bool := if x = 10 then false else if x = 35 then true else c
/-- Whether a comment goes on, so many bytes behind a place. -/
def cmN (b : List UInt8) (s : Nat) : Nat → Bool
  | 0 => false
  | j + 1 => stepC (cmN b s j) (nth b (s + j))
/-- Between two places stands nothing that tells. -/
def Gap (b : List UInt8) (s p : Nat) : Prop := ∀ j, s + j < p → cmN b s (j + 1) = true ∨ blkB (nth b (s + j)) = true
/-- Tokens stand where they say, from a place on. -/
def Placed (b : List UInt8) : Nat → List Tok → Prop
  | _, [] => True
  | p, t :: r => (p ≤ t.at_ ∧ t.at_ + t.text.length ≤ b.length ∧ (t.text = [] ↔ t.kind = 4) ∧ (t.kind = 4 ↔ r = []) ∧ Gap b p t.at_ ∧ (cmN b p (t.at_ - p) = true → t.kind = 4) ∧ (b.drop t.at_).take t.text.length = t.text ∧ (t.kind = 4 → t.at_ = b.length)) ∧ Placed b (t.at_ + t.text.length) r

theorem firstK_ne4 (l : List UInt8) : firstK l ≠ 4 := by
  unfold firstK
  split
  · omega
  · split
    · omega
    · split
      · omega
      · split <;> omega

theorem nth_of_drop {b : List UInt8} {p : Nat} {c : UInt8} {r : List UInt8} (h : b.drop p = c :: r) : nth b p = bv c ∧ p < b.length ∧ b.drop (p + 1) = r := by
  have hlt : p < b.length := by
    rcases Nat.lt_or_ge p b.length with h' | h'
    · exact h'
    · rw [List.drop_eq_nil_of_le h'] at h; cases h
  rw [drop_cons hlt] at h
  injection h with h1 h2
  exact ⟨by unfold nth; rw [h1], hlt, h2⟩
theorem drop_add {b : List UInt8} {p n : Nat} {x : List UInt8} (h : b.drop p = x) : b.drop (p + n) = x.drop n := by
  rw [← h, List.drop_drop]

theorem comm_bytes : ∀ (l : List UInt8) (i : Nat), i < commL l → nth l i ≠ 10
  | [], i, h => by simp [commL] at h
  | c :: l, i, h => by
    rw [commL_cons] at h
    by_cases hc : c = 10
    · rw [if_pos hc] at h; omega
    · rw [if_neg hc] at h
      cases i with
      | zero =>
        intro e
        exact hc (bv_inj (n := 10) e (by decide))
      | succ i => exact comm_bytes l i (by omega)
theorem comm_end : ∀ (l : List UInt8), commL l = l.length ∨ nth l (commL l) = 10
  | [] => .inl rfl
  | c :: l => by
    rw [commL_cons]
    by_cases hc : c = 10
    · rw [if_pos hc]; right; subst hc; rfl
    · rw [if_neg hc]
      rcases comm_end l with h | h
      · left; rw [h]; rfl
      · right; exact h

theorem gap_run {b : List UInt8} {s p n : Nat} (hsp : s ≤ p) (hg : Gap b s p) (h35 : nth b p = 35) (hn : ∀ i, i < n → nth b (p + i) ≠ 10) : ∀ i, i ≤ n → Gap b s (p + i) ∧ (0 < i → cmN b s (p + i - s) = true)
  | 0, _ => ⟨hg, fun h => by omega⟩
  | i + 1, hi => by
    obtain ⟨g, hc⟩ := gap_run hsp hg h35 hn i (by omega)
    have e : p + (i + 1) - s = (p + i - s) + 1 := by omega
    have e2 : s + (p + i - s) = p + i := by omega
    have hst : cmN b s (p + i - s + 1) = true := by
      show stepC _ _ = true
      rw [e2]
      unfold stepC
      rw [if_neg (hn i (by omega))]
      cases i with
      | zero => rw [if_pos (by simpa using h35)]
      | succ i =>
        split
        · rfl
        · exact hc (by omega)
    refine ⟨fun j hj => ?_, fun _ => by rw [e]; exact hst⟩
    by_cases h : s + j < p + i
    · exact g j h
    · left
      have : j = p + i - s := by omega
      subst this
      exact hst
theorem placed_ok : ∀ (f : Nat) (b : List UInt8) (s p : Nat) (ts : List Tok), b.length - p ≤ f → s ≤ p → p ≤ b.length → Gap b s p → (cmN b s (p - s) = false ∨ p = b.length ∨ nth b p = 10) → lexS p (b.drop p) = .ok ts → Placed b s (fin ts b.length) := by
  intro f
  induction f with
  | zero =>
    intro b s p ts hf hsp hp hg hc h
    have e : p = b.length := by omega
    subst e
    rw [List.drop_length, lexS_nil] at h
    injection h with h
    subst h
    refine ⟨⟨hsp, Nat.le_refl _, by simp, by simp, hg, fun _ => rfl, by simp, fun _ => rfl⟩, trivial⟩
  | succ f ih =>
    intro b s p ts hf hsp hp hg hc h
    by_cases e : p = b.length
    · subst e
      rw [List.drop_length, lexS_nil] at h
      injection h with h
      subst h
      exact ⟨⟨hsp, Nat.le_refl _, by simp, by simp, hg, fun _ => rfl, by simp, fun _ => rfl⟩, trivial⟩
    · have hlt : p < b.length := by omega
      cases hd : b.drop p with
      | nil => rw [drop_cons hlt] at hd; cases hd
      | cons c r =>
        obtain ⟨hn, _, hr⟩ := nth_of_drop hd
        have hlen : (c :: r).length = b.length - p := by rw [← hd]; simp
        rw [hd] at h
        rcases ok_ways h with ⟨h1, h2⟩ | ⟨h1, h2⟩ | ⟨h1, h2, h3, h4, ts', h5, rfl⟩
        · refine ih b s (p + 1) ts (by omega) (by omega) (by omega) ?_ ?_ (by rw [hr]; exact h2)
          · intro j hj
            by_cases hj' : s + j < p
            · exact hg j hj'
            · right
              rw [show s + j = p by omega, hn]; exact h1
          · left
            rw [show p + 1 - s = (p - s) + 1 by omega]
            show stepC _ _ = false
            rw [show s + (p - s) = p by omega]
            unfold stepC
            by_cases h10 : nth b p = 10
            · rw [if_pos h10]
            · rw [if_neg h10, if_neg (by
                rw [hn]; intro e; rw [e] at h1; revert h1; decide)]
              rcases hc with hc | hc | hc
              · exact hc
              · omega
              · exact absurd hc h10
        · subst h1
          have hm := commL_le (35 :: r)
          have hb10 : ∀ i, i < commL (35 :: r) → nth b (p + i) ≠ 10 := fun i hi => by
            have := comm_bytes (35 :: r) i hi
            rw [← hd, nth_drop] at this; exact this
          have hm1 : 1 ≤ commL (35 :: r) := by rw [commL_cons, if_neg (by decide)]; omega
          obtain ⟨g, _⟩ := gap_run hsp hg (by rw [hn]; rfl) hb10 _ (Nat.le_refl _)
          refine ih b s (p + commL (35 :: r)) ts (by omega) (by omega) (by omega) g ?_ (by rw [drop_add hd]; exact h2)
          right
          rcases comm_end (35 :: r) with he | he
          · left; omega
          · right
            rw [← hd, nth_drop, hd] at he; exact he
        · have hn1 := firstN_pos (c := c) (l := r) (fun e => h3 (.inl e))
          have hn2 : firstN (c :: r) ≤ (c :: r).length := firstN_le
          have htl : ((c :: r).take (firstN (c :: r))).length = firstN (c :: r) := by rw [List.length_take]; omega
          have hcf : cmN b s (p - s) = false := by
            rcases hc with hc | hc | hc
            · exact hc
            · omega
            · rw [hn] at hc; rw [hc] at h1; exact absurd h1 (by decide)
          refine ⟨⟨hsp, ?_, ?_, ?_, hg, ?_, ?_, ?_⟩, ?_⟩
          · show p + ((c :: r).take (firstN (c :: r))).length ≤ _; rw [htl]; omega
          · constructor
            · intro e; show firstK (c :: r) = 4
              have : ((c :: r).take (firstN (c :: r))).length = 0 := by rw [show (c :: r).take (firstN (c :: r)) = [] from e]; rfl
              omega
            · intro e; exact absurd e (firstK_ne4 (c :: r))
          · constructor
            · intro e; exact absurd e (firstK_ne4 (c :: r))
            · intro e; simp at e
          · intro e; rw [show cmN b s (p - s) = true from e] at hcf; cases hcf
          · show (b.drop p).take ((c :: r).take (firstN (c :: r))).length = (c :: r).take (firstN (c :: r))
            rw [htl, hd]
          · intro e; exact absurd e (firstK_ne4 (c :: r))
          · show Placed b (p + ((c :: r).take (firstN (c :: r))).length) (ts' ++ [⟨4, [], b.length⟩])
            rw [htl]
            exact ih b (p + firstN (c :: r)) (p + firstN (c :: r)) ts' (by omega) (Nat.le_refl _) (by omega) (fun j hj => by omega) (.inl (by rw [Nat.sub_self]; rfl)) (by rw [drop_add hd]; exact h5)
theorem placed_of {b : List UInt8} {ts : List Tok} (h : lexS 0 b = .ok ts) : Placed b 0 (fin ts b.length) :=
  placed_ok b.length b 0 0 ts (by omega) (Nat.le_refl _) (Nat.zero_le _) (fun j hj => by omega) (.inl rfl) h
theorem bad_lt : ∀ (f p : Nat) (l : List UInt8) (k : Nat), l.length ≤ f → lexS p l = .bad k → k < p + l.length
  | f, p, [], k, _, h => by rw [lexS_nil] at h; cases h
  | 0, p, c :: r, k, hf, _ => by simp at hf
  | f + 1, p, c :: r, k, hf, h => by
    simp only [List.length_cons] at hf ⊢
    by_cases h1 : blkB (bv c) = true
    · rw [lexS_blank h1] at h
      have := bad_lt f _ _ k (by omega) h; omega
    · have h1' : blkB (bv c) = false := by simpa using h1
      by_cases h2 : c = 35
      · subst h2
        have hm1 : 1 ≤ commL (35 :: r) := by rw [commL_cons, if_neg (by decide)]; omega
        have hm := commL_le (35 :: r)
        simp only [List.length_cons] at hm
        rw [lexS_comm] at h
        have hd : ((35 :: r).drop (commL (35 :: r))).length = r.length + 1 - commL (35 :: r) := by simp
        have := bad_lt f _ _ k (by rw [hd]; omega) h; rw [hd] at this; omega
      · by_cases h3 : firstK (c :: r) = 0 ∨ (firstK (c :: r) = 1 ∧ 32 < firstN (c :: r))
        · rw [lexS_bad h1' h2 h3] at h
          injection h with h; omega
        · have hn1 := firstN_pos (c := c) (l := r) (fun e => h3 (.inl e))
          have hn2 : firstN (c :: r) ≤ (c :: r).length := firstN_le
          simp only [List.length_cons] at hn2
          by_cases h4 : firstK (c :: r) = 2 ∧ glued (c :: r) (firstN (c :: r)) = true
          · rw [lexS_glued h1' h2 h3 h4] at h
            injection h with h
            have hg := h4.2
            unfold glued at hg
            rw [Bool.and_eq_true] at hg
            have := of_decide_eq_true hg.1
            simp only [List.length_cons] at this
            omega
          · rw [lexS_tok h1' h2 h3 h4] at h
            have hd : ((c :: r).drop (firstN (c :: r))).length = r.length + 1 - firstN (c :: r) := by simp
            cases hr : lexS (p + firstN (c :: r)) ((c :: r).drop (firstN (c :: r))) with
            | ok ts => rw [hr] at h; cases h
            | bad k' =>
              rw [hr] at h
              have e : k' = k := by simpa [Res.cons] using h
              subst e
              have := bad_lt f _ _ k' (by rw [hd]; omega) hr; rw [hd] at this; omega

end Go.Proofs.YtmpdnikabkandaaDoor

/-
  A region that draws its order, by an invariant: what holds behind any set of its operations that has come up.
-/
namespace Go.Proofs.YtmpdnikabkandaaDoor
open Go

section
variable {P : Program} {ops : Array Oper} {Q : Exit → Act → World → Prop}

theorem all_listed {listed : Array Bool} (h : listed.toList.count false = 0) (hs : listed.size = ops.size) (md : Region.Mode) : Region.ready md ops listed = [] := by
  unfold Region.ready
  rw [List.filter_eq_nil_iff]
  intro i hi
  have hlt : i < listed.size := by rw [hs]; simpa using hi
  have hm : listed[i] ∈ listed.toList := by simp
  have ht : listed[i] = true := by
    cases hb : listed[i] with
    | true => rfl
    | false =>
      rw [hb] at hm
      exact absurd (List.count_pos_iff.2 hm) (by omega)
  have hg : listed.getD i true = true := by
    rw [Array.getD_eq_getD_getElem?, Array.getElem?_eq_getElem hlt, ht]
    rfl
  simp [hg]
theorem count_set : ∀ (l : List Bool) (i : Nat), l[i]? = some false → (l.set i true).count false + 1 = l.count false
  | [], i, h => by simp at h
  | b :: l, 0, h => by
    simp at h
    subst h
    simp
  | b :: l, i + 1, h => by
    have := count_set l i (by simpa using h)
    simp only [List.set_cons_succ, List.count_cons]
    omega

/-- Each operation that may come up keeps I; when none is left I gives the post. -/
theorem wpAny_inv (md : Region.Mode) (I : Array Bool → Act → World → Prop)
    (hstep : ∀ listed a w, listed.size = ops.size → I listed a w → ∀ i o, ops[i]? = some o → listed.getD i true = false → (o.after.all fun e => !Region.binds md e || listed.getD e.on false) = true →
      ∀ K : Act → World → Prop, Shut (∀ a' w', I (listed.setIfInBounds i true) a' w' → K a' w') → if Region.wanted o (yielded ops a.tmps) = true then Oper.wp P o a w K Q else K (a.put o.dst undef) w)
    (hdone : ∀ listed a w, listed.size = ops.size → I listed a w → Region.ready md ops listed = [] → Q .normal a w) :
    ∀ (fuel : Nat) (listed : Array Bool) (a : Act) (w : World), listed.size = ops.size → listed.toList.count false ≤ fuel → I listed a w → wpAny P md ops Q fuel listed a w
  | 0, listed, a, w, hs, hc, hI => by
    have hr := all_listed (by omega) hs md
    exact ⟨hr, hdone listed a w hs hI hr⟩
  | fuel + 1, listed, a, w, hs, hc, hI => by
    refine ⟨fun hr => hdone listed a w hs hI hr, fun i hi => ?_⟩
    have hr := (List.mem_filter.1 hi).2
    simp only [Bool.and_eq_true, Bool.not_eq_true'] at hr
    obtain ⟨h1, h2⟩ := hr
    cases ho : ops[i]? with
    | none => rw [ho] at h2; simp at h2
    | some o =>
      rw [ho] at h2
      have h3 := hstep listed a w hs hI i o ho h1 (by simpa using h2) (wpAny P md ops Q fuel (listed.setIfInBounds i true)) (fun a' w' hI' => by
        refine wpAny_inv md I hstep hdone fuel _ a' w' (by simpa using hs) ?_ hI'
        have hlt : i < listed.size := by
          rcases Nat.lt_or_ge i listed.size with h | h
          · exact h
          · rw [Array.getD_eq_getD_getElem?, Array.getElem?_eq_none h] at h1
            simp at h1
        have hq : listed.toList[i]? = some false := by
          rw [Array.getD_eq_getD_getElem?] at h1
          rw [Array.getElem?_toList]
          rw [Array.getElem?_eq_getElem hlt] at h1 ⊢
          simp at h1
          simp [h1]
        have := count_set listed.toList i hq
        rw [Array.toList_setIfInBounds]
        omega)
      unfold wpOp
      rw [ho]
      simp only
      split
      · rename_i hw
        rw [if_pos hw] at h3
        exact .inl h3
      · rename_i hw
        rw [if_neg hw] at h3
        exact h3

theorem wp_region_inv {id : Nat} {a0 : Act} {w0 : World} (I : Array Bool → Act → World → Prop) (hm : P.follows .mixedOrders = true) (h0 : I (Array.replicate ops.size false) a0 w0.drew)
    (hstep : ∀ listed a w, listed.size = ops.size → I listed a w → ∀ i o, ops[i]? = some o → listed.getD i true = false → (o.after.all fun e => !Region.binds .any e || listed.getD e.on false) = true →
      ∀ K : Act → World → Prop, Shut (∀ a' w', I (listed.setIfInBounds i true) a' w' → K a' w') → if Region.wanted o (yielded ops a.tmps) = true then Oper.wp P o a w K Q else K (a.put o.dst undef) w)
    (hdone : ∀ listed a w, listed.size = ops.size → I listed a w → Region.ready .any ops listed = [] → Q .normal a w) : (Code.region id ops true).wp P Q a0 w0 :=
  wp_region_any hm (wpAny_inv .any I hstep hdone ops.size _ a0 _ (by simp) (by simp) h0)

/-- None is left: all have come up, one behind the other. -/
theorem ready_none {listed : Array Bool} (hr : Region.ready .any ops listed = []) {i : Nat} {o : Oper} (ho : ops[i]? = some o) (hd : (o.after.all fun e => !Region.binds .any e || listed.getD e.on false) = true) : listed.getD i true = true := by
  unfold Region.ready at hr
  rw [List.filter_eq_nil_iff] at hr
  have hlt := (Array.getElem?_eq_some_iff.1 ho).1
  have := hr i (by simpa using hlt)
  rw [ho] at this
  simp only [Option.map_some, Option.getD_some, hd, Bool.and_true, Bool.not_eq_true', Bool.not_eq_false] at this
  exact this
theorem ready_next {listed : Array Bool} (hs : listed.size = ops.size) (hr : Region.ready .any ops listed = []) (i : Nat) (h : ((ops[i]?).map fun o => o.after.all fun e => !Region.binds .any e || listed.getD e.on false) = some true) : listed.getD i false = true := by
  cases ho : ops[i]? with
  | none => rw [ho] at h; simp at h
  | some o =>
    rw [ho] at h
    have hr := ready_none hr ho (by simpa using h)
    have hl : i < listed.size := by rw [hs]; exact (Array.getElem?_eq_some_iff.1 ho).1
    rw [Array.getD_eq_getD_getElem?, Array.getElem?_eq_getElem hl] at hr ⊢
    simpa using hr
end

end Go.Proofs.YtmpdnikabkandaaDoor

/-
  Package parse: Parse, whole: what it tells as a function on bytes.
-/
namespace Go.Proofs.YtmpdnikabkandaaDoor
open Go Go.RowKit Go.Lib

/-- What Parse tells of bytes. -/
def tl (l : List UInt8) : PR Pg :=
  match lexS 0 l with
  | .bad p => .bad p 2
  | .ok ts => progT (ts.length + 2) (fin ts l.length)
theorem tl_ne (l : List UInt8) : tl l ≠ .out := by
  unfold tl
  split
  · exact fun e => by cases e
  · exact prog_fn _ _ (by simp [fin])
theorem lex_few : ∀ (f p : Nat) (l : List UInt8) (ts : List Tok), l.length ≤ f → lexS p l = .ok ts → ts.length ≤ l.length ∧ ∀ t ∈ ts, t.kind < 4
  | f, p, [], ts, _, h => by rw [lexS_nil] at h; injection h with h; subst h; exact ⟨Nat.le_refl _, fun t ht => by cases ht⟩
  | 0, p, c :: r, ts, hf, _ => by simp at hf
  | f + 1, p, c :: r, ts, hf, h => by
    simp only [List.length_cons] at hf ⊢
    rcases ok_ways h with ⟨_, h2⟩ | ⟨h1, h2⟩ | ⟨h1, h2, h3, h4, ts', h5, rfl⟩
    · have := lex_few f _ r ts (by omega) h2
      exact ⟨by omega, this.2⟩
    · have hm1 : 1 ≤ commL (c :: r) := by rw [commL_cons, if_neg (by rw [h1]; decide)]; omega
      have hd : ((c :: r).drop (commL (c :: r))).length = r.length + 1 - commL (c :: r) := by simp
      have := lex_few f _ _ ts (by rw [hd]; omega) h2
      rw [hd] at this
      exact ⟨by omega, this.2⟩
    · have hn1 := firstN_pos (c := c) (l := r) (fun e => h3 (.inl e))
      have hd : ((c :: r).drop (firstN (c :: r))).length = r.length + 1 - firstN (c :: r) := by simp
      have hn2 : firstN (c :: r) ≤ (c :: r).length := firstN_le
      simp only [List.length_cons] at hn2
      have := lex_few f _ _ ts' (by rw [hd]; omega) h5
      rw [hd] at this
      refine ⟨by simp only [List.length_cons]; omega, fun t ht => ?_⟩
      rcases List.mem_cons.1 ht with rfl | ht
      · show firstK (c :: r) < 4
        unfold firstK
        simp only
        repeat' split
        all_goals omega
      · exact this.2 t ht
theorem placed_all {b : List UInt8} : ∀ {p : Nat} {T : List Tok}, Placed b p T → ∀ t ∈ T, t.at_ + t.text.length ≤ b.length
  | _, [], _, t, ht => by cases ht
  | _, s :: r, ⟨h, hr⟩, t, ht => by
    rcases List.mem_cons.1 ht with rfl | ht
    · exact h.2.1
    · exact placed_all hr t ht
theorem tok_ok {l : List UInt8} {ts : List Tok} (h : lexS 0 l = .ok ts) (hl : l.length ≤ 65536) : TokOk (fin ts l.length) := by
  have h1 := lex_few _ 0 l ts (Nat.le_refl _) h
  have h2 := placed_all (placed_of h)
  refine ⟨by rw [fin_length]; omega, fun i t ht => ?_, ⟨ts, l.length, rfl, fun t ht => Nat.ne_of_lt (h1.2 t ht)⟩⟩
  have hm := List.mem_of_getElem? ht
  have := h2 t hm
  refine ⟨by omega, by omega, ?_⟩
  rcases List.mem_append.1 hm with hm | hm
  · exact Nat.le_of_lt (h1.2 t hm)
  · rw [List.mem_singleton.1 hm]; exact Nat.le_refl _

/-- What Parse has done. -/
def ParseOut (l : List UInt8) (W : World) (e : Ending) (W' : World) : Prop :=
  Below W.heap.size W W' ∧ match tl l with
  | .ok q _ => ∃ v, e = .returned (.tuple #[v, .int .i64 0, .int .i64 0]) ∧ GV W.heap.size W' v q
  | .bad p c => e = .returned (.tuple #[.agg #[.slice none 0 0, .slice none 0 0], .int .i64 p, .int .i64 c])
  | .out => False

abbrev P2 : Obj := .cells #[.slice none 0 0, .slice none 0 0] 27
abbrev P1 : Obj := .cells #[.int .i64 0] 3
abbrev P0 : Obj := .cells #[.int .i64 0] 28

theorem Row.al {W : World} {A : Option Addr} {l : List UInt8} (h : Row W A l) (a b c : Obj) : Row (((W.alloc a).alloc b).alloc c) A l := by
  intro h0
  obtain ⟨g, o, e, hl, hc⟩ := h h0
  refine ⟨g, o, e, by simp; omega, fun i hi => ?_⟩
  rw [World.cell?_alloc_lt _ _ _ (by simp; omega), World.cell?_alloc_lt _ _ _ (by simp; omega), World.cell?_alloc_lt _ _ _ hl]
  exact hc i hi
theorem three_size (W : World) : (((W.alloc P2).alloc P1).alloc P0).heap.size = W.heap.size + 3 := by simp
theorem three_below (W : World) : Below W.heap.size W (((W.alloc P2).alloc P1).alloc P0) := (((Below.refl _ _).alloc (Nat.le_refl _) _).alloc (by simp) _).alloc (by simp; omega) _
theorem three0 (W : World) : (((W.alloc P2).alloc P1).alloc P0).heap[W.heap.size]? = some P2 :=
  (Below.heap_alloc _ _ _ (by simp; omega)).trans ((Below.heap_alloc _ _ _ (by simp)).trans (heap_alloc_new W P2))
theorem three1 (W : World) : (((W.alloc P2).alloc P1).alloc P0).heap[W.heap.size + 1]? = some P1 :=
  (Below.heap_alloc _ _ _ (by simp)).trans (by have := heap_alloc_new (W.alloc P2) P1; rw [World.size_alloc] at this; exact this)
theorem three2 (W : World) : (((W.alloc P2).alloc P1).alloc P0).heap[W.heap.size + 1 + 1]? = some P0 := by
  have := heap_alloc_new ((W.alloc P2).alloc P1) P0
  rw [World.size_alloc, World.size_alloc] at this
  exact this

/-- The two cells that are told stay. -/
def Tw (b : Nat) (x y : Int) (w : World) : Prop := w.cell? ⟨b + 1, 0, none⟩ = some (.int .i64 x) ∧ w.cell? ⟨b + 1 + 1, 0, none⟩ = some (.int .i64 y)
theorem tw0 {b : Nat} {x y : Int} {w : World} {u v : Value} (h : Tw b x y w) : Tw b x y ((w.setCell ⟨b, 0, none⟩ u).setCell ⟨b, 1, none⟩ v) :=
  ⟨(World.cell?_setCell_far _ _ _ _ (by simp)).trans ((World.cell?_setCell_far _ _ _ _ (by simp)).trans h.1), (World.cell?_setCell_far _ _ _ _ (by simp; omega)).trans ((World.cell?_setCell_far _ _ _ _ (by simp; omega)).trans h.2)⟩
theorem tw1 {b : Nat} {x y : Int} {w : World} (h : Tw b x y w) : Tw b x y (w.setCell ⟨b + 1, 0, none⟩ (.int .i64 x)) :=
  ⟨World.cell?_setCell_same _ _ _ h.1, (World.cell?_setCell_far _ _ _ _ (by simp)).trans h.2⟩
theorem tw2 {b : Nat} {x y : Int} {w : World} (h : Tw b x y w) : Tw b x y (w.setCell ⟨b + 1 + 1, 0, none⟩ (.int .i64 y)) :=
  ⟨(World.cell?_setCell_far _ _ _ _ (by simp)).trans h.1, World.cell?_setCell_same _ _ _ h.2⟩

/-- Which operations have come up. -/
def lq (a : Array Bool) (j : Nat) : Bool := a.getD j false
theorem lq_false {a : Array Bool} {j : Nat} (h : a.getD j true = false) : j < a.size := by
  rcases Nat.lt_or_ge j a.size with hl | hl
  · exact hl
  · rw [Array.getD_eq_getD_getElem?, Array.getElem?_eq_none hl] at h
    simp at h
theorem lq_set {a : Array Bool} {i j : Nat} (_ : i < a.size) (h : lq (a.setIfInBounds i true) j = true) : j = i ∨ lq a j = true := by
  by_cases e : i = j
  · exact .inl e.symm
  · refine .inr ?_
    unfold lq at h ⊢
    rw [Array.getD_eq_getD_getElem?, Array.getElem?_setIfInBounds_ne e] at h
    rw [Array.getD_eq_getD_getElem?]
    exact h
/-- The three that are told, and what is as it was. -/
structure Tell3 (b : Nat) (x y : Int) (W w : World) : Prop where
  tw : Tw b x y w
  a0 : w.cell? ⟨b, 0, none⟩ = some (.slice none 0 0)
  a1 : w.cell? ⟨b, 1, none⟩ = some (.slice none 0 0)
  f : ∀ k j, b ≤ k → k ≤ b + 2 → w.frozen? ⟨k, j, none⟩ = false
  bel : Below W.heap.size W w
theorem Tell3.s0 {b : Nat} {x y : Int} {W w : World} (h : Tell3 b x y W w) (hW : W.heap.size ≤ b) : Tell3 b x y W ((w.setCell ⟨b, 0, none⟩ (.slice none 0 0)).setCell ⟨b, 1, none⟩ (.slice none 0 0)) :=
  ⟨tw0 h.tw, (World.cell?_setCell_other _ _ _ _ (by simp)).trans (World.cell?_setCell_same _ _ _ h.a0), World.cell?_setCell_same _ _ _ ((World.cell?_setCell_other _ _ _ _ (by simp)).trans h.a1), fun k j h1 h2 => (World.frozen?_setCell _ _ _ _).trans ((World.frozen?_setCell _ _ _ _).trans (h.f k j h1 h2)), (h.bel.setCell (p := ⟨b, 0, none⟩) hW _).setCell (p := ⟨b, 1, none⟩) hW _⟩
theorem Tell3.s1 {b : Nat} {x y : Int} {W w : World} (h : Tell3 b x y W w) (hW : W.heap.size ≤ b) : Tell3 b x y W (w.setCell ⟨b + 1, 0, none⟩ (.int .i64 x)) :=
  ⟨tw1 h.tw, (World.cell?_setCell_far _ _ _ _ (by simp)).trans h.a0, (World.cell?_setCell_far _ _ _ _ (by simp)).trans h.a1, fun k j h1 h2 => (World.frozen?_setCell _ _ _ _).trans (h.f k j h1 h2), h.bel.setCell (p := ⟨b + 1, 0, none⟩) (by simp; omega) _⟩
theorem Tell3.s2 {b : Nat} {x y : Int} {W w : World} (h : Tell3 b x y W w) (hW : W.heap.size ≤ b) : Tell3 b x y W (w.setCell ⟨b + 1 + 1, 0, none⟩ (.int .i64 y)) :=
  ⟨tw2 h.tw, (World.cell?_setCell_far _ _ _ _ (by simp; omega)).trans h.a0, (World.cell?_setCell_far _ _ _ _ (by simp; omega)).trans h.a1, fun k j h1 h2 => (World.frozen?_setCell _ _ _ _).trans (h.f k j h1 h2), h.bel.setCell (p := ⟨b + 1 + 1, 0, none⟩) (by simp; omega) _⟩

set_option maxRecDepth 100000 in
theorem parse_err (A : Option Addr) (n cap p c : Nat) (W : World) (hc : c ≠ 0)
    (HL : Calls Tryd.prog 8 #[.slice A n cap] (((W.alloc P2).alloc P1).alloc P0) fun e w' => e = .returned (.tuple #[.slice none 0 0, .int .i64 p, .int .i64 c]) ∧ Below (((W.alloc P2).alloc P1).alloc P0).heap.size (((W.alloc P2).alloc P1).alloc P0) w') :
    Calls Tryd.prog 5 #[.slice A n cap] W fun e W' => Below W.heap.size W W' ∧ e = .returned (.tuple #[.agg #[.slice none 0 0, .slice none 0 0], .int .i64 p, .int .i64 c]) := by
  have hmf : ∀ (fn : Go.Fn) (first cap : Array Value) (w : World), (Instr.makeFunc fn first cap).run Tryd.prog w = .ok (.func fn first cap) w := fun _ _ _ _ => rfl
  have k1 : ((c : Int) == 0) = false := by rw [beq_eq_false_iff_ne]; omega
  have k2 : ((c : Int) != 0) = true := by rw [bne, k1]; rfl
  go_enter_defers Tryd.func5, Tryd.ntmps5
  go_upto_region 1 with fail
  have B0 := three0 W
  have B1 := three1 W
  have B2 := three2 W
  have g0 := three_below W
  have z0 := three_size W
  have HL := Lib.hid HL
  obtain ⟨w0, hw0⟩ : ∃ w0, ((W.alloc P2).alloc P1).alloc P0 = w0 := ⟨_, rfl⟩
  rw [hw0] at HL B0 B1 B2 g0 z0 ⊢
  clear hw0
  obtain ⟨b0, hb0⟩ : ∃ b0, W.heap.size = b0 := ⟨_, rfl⟩
  rw [hb0] at B0 B1 B2 g0 z0 ⊢
  have HB0 := Lib.hid (fun w1 (e1 : Below w0.heap.size w0 w1) => (e1.block b0 (by omega)).trans B0)
  have HB1 := Lib.hid (fun w1 (e1 : Below w0.heap.size w0 w1) => (e1.block (b0 + 1) (by omega)).trans B1)
  have HB2 := Lib.hid (fun w1 (e1 : Below w0.heap.size w0 w1) => (e1.block (b0 + 1 + 1) (by omega)).trans B2)
  go_upto_region 2 with (go_at_call 8; ((with_reducible refine HL.out.mono ?_); rintro e1 w1 ⟨rfl, e1⟩; have c1 := box_cell (HB1.out w1 e1) 0; have f1 := box_frozen (HB1.out w1 e1) 0; have c2 := box_cell (HB2.out w1 e1) 0; have f2 := box_frozen (HB2.out w1 e1) 0; have c2' := (World.cell?_setCell_far w1 ⟨b0 + 1, 0, none⟩ ⟨b0 + 1 + 1, 0, none⟩ (.int .i64 p) (by simp)).trans c2; simp at c1 c2 c2'))
  have g1 : Below b0 W ((w1.setCell ⟨b0 + 1, 0, none⟩ (.int .i64 p)).setCell ⟨b0 + 1 + 1, 0, none⟩ (.int .i64 c)) := ((g0.trans (e1.mono (by omega))).setCell (p := ⟨b0 + 1, 0, none⟩) (by simp) _).setCell (p := ⟨b0 + 1 + 1, 0, none⟩) (by simp; omega) _
  have t2 : Tw b0 p c ((w1.setCell ⟨b0 + 1, 0, none⟩ (.int .i64 p)).setCell ⟨b0 + 1 + 1, 0, none⟩ (.int .i64 c)) :=
    ⟨(World.cell?_setCell_far _ _ _ _ (by simp)).trans (World.cell?_setCell_same _ _ _ c1), World.cell?_setCell_same _ _ _ c2'⟩
  have B3 : ((w1.setCell ⟨b0 + 1, 0, none⟩ (.int .i64 p)).setCell ⟨b0 + 1 + 1, 0, none⟩ (.int .i64 c)).heap[b0]? = some P2 := (Below.heap_setCell _ _ _ _ (by simp; omega)).trans ((Below.heap_setCell _ _ _ _ (by simp)).trans (HB0.out w1 e1))
  have F1 : ∀ j, ((w1.setCell ⟨b0 + 1, 0, none⟩ (.int .i64 p)).setCell ⟨b0 + 1 + 1, 0, none⟩ (.int .i64 c)).frozen? ⟨b0 + 1, j, none⟩ = false := fun j => (World.frozen?_setCell _ _ _ _).trans ((World.frozen?_setCell _ _ _ _).trans (box_frozen (HB1.out w1 e1) j))
  have F2 : ∀ j, ((w1.setCell ⟨b0 + 1, 0, none⟩ (.int .i64 p)).setCell ⟨b0 + 1 + 1, 0, none⟩ (.int .i64 c)).frozen? ⟨b0 + 1 + 1, j, none⟩ = false := fun j => (World.frozen?_setCell _ _ _ _).trans ((World.frozen?_setCell _ _ _ _).trans (box_frozen (HB2.out w1 e1) j))
  obtain ⟨w2, hw2⟩ : ∃ w2, (w1.setCell ⟨b0 + 1, 0, none⟩ (.int .i64 p)).setCell ⟨b0 + 1 + 1, 0, none⟩ (.int .i64 c) = w2 := ⟨_, rfl⟩
  rw [hw2] at g1 t2 B3 F1 F2 ⊢
  clear hw2 c1 c2 c2' f1 f2 HB0 HB1 HB2 e1 B0 B1 B2 g0
  have q1 := t2.1
  have q2 := t2.2
  go_upto_region 3 with fail
  have a0 := box_cell B3 0
  have a1 := box_cell B3 1
  simp only [List.getElem?_toArray, List.getElem?_cons_succ, List.getElem?_cons_zero] at a0 a1
  have hT : Tell3 b0 p c W w2.drew := ⟨t2, a0, a1, fun k j h1 h2 => by
    rcases (show k = b0 ∨ k = b0 + 1 ∨ k = b0 + 1 + 1 by omega) with rfl | rfl | rfl
    · exact box_frozen B3 j
    · exact F1 j
    · exact F2 j, by rw [hb0]; exact Below.trans g1 ⟨rfl, rfl, rfl, Nat.le_refl _, fun _ _ => rfl⟩⟩
  have hW0 : W.heap.size ≤ b0 := by omega
  clear hmf HL k1 k2 a0 a1 q1 q2 t2 B3 F1 F2 g1
  refine wp_region_inv (fun up a w' => ∃ s15 s16 s17 : Value, a = { tmps := #[.slice A n cap, undef, .pointer (some ⟨b0, 0, none⟩), .pointer (some ⟨b0 + 1, 0, none⟩), .pointer (some ⟨b0 + 1 + 1, 0, none⟩), .slice none 0 0, undef, .tuple #[.slice none 0 0, .int .i64 p, .int .i64 c], .slice A n cap, .tuple #[.slice none 0 0, .int .i64 p, .int .i64 c], .slice none 0 0, .int .i64 p, .int .i64 c, .int .i64 c, .bool true, s15, s16, s17, undef, undef, undef, undef], defers := [] } ∧ (lq up 0 = true → s15 = .agg #[.slice none 0 0, .slice none 0 0]) ∧ (lq up 1 = true → s16 = .int .i64 p) ∧ (lq up 2 = true → s17 = .int .i64 c) ∧ Tell3 b0 p c W w') (by kernel_rfl) ?start ?step ?done
  case start => exact ⟨_, _, _, rfl, fun e => by simp [lq] at e, fun e => by simp [lq] at e, fun e => by simp [lq] at e, hT⟩
  case step =>
    intro up a w' hs hI i o ho hli hd K hK
    obtain ⟨s15, s16, s17, rfl, h15, h16, h17, hT⟩ := hI
    have hl := lq_false hli
    have hi6 : i < 6 := by have := (Array.getElem?_eq_some_iff.1 ho).1; simpa using this
    have hcase : i = 0 ∨ i = 1 ∨ i = 2 ∨ i = 3 ∨ i = 4 ∨ i = 5 := by omega
    have q1 := hT.tw.1
    have q2 := hT.tw.2
    have a0 := hT.a0
    have a1 := hT.a1
    have f0 := hT.f b0 0 (Nat.le_refl _) (by omega)
    have f1 := hT.f b0 1 (Nat.le_refl _) (by omega)
    have f2 := hT.f (b0 + 1) 0 (by omega) (by omega)
    have f3 := hT.f (b0 + 1 + 1) 0 (by omega) (by omega)
    clear hi6 hli
    rcases hcase with rfl | rfl | rfl | rfl | rfl | rfl
    all_goals
      simp only [List.getElem?_toArray, List.getElem?_cons_zero, List.getElem?_cons_succ, Option.some.injEq] at ho
      subst ho
      simp only [Region.binds, Bool.not_true, Bool.false_or, List.all_toArray, List.all_cons, List.all_nil, Bool.and_true, Bool.and_eq_true] at hd
    · go_simp
      exact hK.out _ _ ⟨_, _, _, rfl, fun _ => rfl, fun e => (lq_set hl e).elim (fun e => absurd e (by decide)) h16, fun e => (lq_set hl e).elim (fun e => absurd e (by decide)) h17, hT⟩
    · go_simp
      exact hK.out _ _ ⟨_, _, _, rfl, fun e => (lq_set hl e).elim (fun e => absurd e (by decide)) h15, fun _ => rfl, fun e => (lq_set hl e).elim (fun e => absurd e (by decide)) h17, hT⟩
    · go_simp
      exact hK.out _ _ ⟨_, _, _, rfl, fun e => (lq_set hl e).elim (fun e => absurd e (by decide)) h15, fun e => (lq_set hl e).elim (fun e => absurd e (by decide)) h16, fun _ => rfl, hT⟩
    · obtain rfl := h15 hd.1
      go_simp
      exact hK.out _ _ ⟨_, _, _, rfl, fun e => (lq_set hl e).elim (fun e => absurd e (by decide)) h15, fun e => (lq_set hl e).elim (fun e => absurd e (by decide)) h16, fun e => (lq_set hl e).elim (fun e => absurd e (by decide)) h17, hT.s0 hW0⟩
    · obtain rfl := h16 hd.1
      go_simp
      exact hK.out _ _ ⟨_, _, _, rfl, fun e => (lq_set hl e).elim (fun e => absurd e (by decide)) h15, fun e => (lq_set hl e).elim (fun e => absurd e (by decide)) h16, fun e => (lq_set hl e).elim (fun e => absurd e (by decide)) h17, hT.s1 hW0⟩
    · obtain rfl := h17 hd.1
      go_simp
      exact hK.out _ _ ⟨_, _, _, rfl, fun e => (lq_set hl e).elim (fun e => absurd e (by decide)) h15, fun e => (lq_set hl e).elim (fun e => absurd e (by decide)) h16, fun e => (lq_set hl e).elim (fun e => absurd e (by decide)) h17, hT.s2 hW0⟩
  case done =>
    intro up a w' hs hI hr
    obtain ⟨s15, s16, s17, rfl, h15, h16, h17, hT⟩ := hI
    have q1 := hT.tw.1
    have q2 := hT.tw.2
    have a0 := hT.a0
    have a1 := hT.a1
    go_wp2
    exact ⟨.tuple #[.agg #[.slice none 0 0, .slice none 0 0], .int .i64 p, .int .i64 c], by simp [results, Tryd.results5, go_sem, q1, q2, a0, a1], hT.bel, rfl⟩
end Go.Proofs.YtmpdnikabkandaaDoor

/-
  Package parse: Parse, where bytes are tokens.
-/
namespace Go.Proofs.YtmpdnikabkandaaDoor
open Go Go.RowKit Go.Lib

theorem rd_new {w : World} {g m c : Nat} {T : List Tok} (ht : TokRow w g T) (hm : T.length = m) (hT : TokOk T) : Rd (w.alloc (.cells #[.slice (some ⟨g, 0, none⟩) m c, .int .i64 0, .int .i64 0] 49)) w.heap.size g m c T 0 0 := by
  have hb := heap_alloc_new w (.cells #[.slice (some ⟨g, 0, none⟩) m c, .int .i64 0, .int .i64 0] 49)
  have hl := ht.1
  refine ⟨box_cell hb 0, box_cell hb 1, box_cell hb 2, fun j => box_frozen hb j, by simp, ⟨by simp; omega, fun i t hi => ?_⟩, by omega, hm, ?_, by omega, hT⟩
  · obtain ⟨a, b, d⟩ := ht.2 i t hi
    exact ⟨(World.cell?_alloc_lt _ _ _ hl).trans a, (World.cell?_alloc_lt _ _ _ hl).trans b, (World.cell?_alloc_lt _ _ _ hl).trans d⟩
  · obtain ⟨b, p, e, _⟩ := hT.last
    rw [← hm, e]
    simp

theorem TokRow.same {w w' : World} {g : Nat} {T : List Tok} (h : TokRow w g T) (hs : w.heap.size ≤ w'.heap.size) (hb : w'.heap[g]? = w.heap[g]?) : TokRow w' g T :=
  ⟨Nat.lt_of_lt_of_le h.1 hs, fun j t hj => by
    obtain ⟨a, b, c⟩ := h.2 j t hj
    have e : ∀ k, w'.cell? ⟨g, k, none⟩ = w.cell? ⟨g, k, none⟩ := fun k => World.cell?_of_block (a := ⟨g, k, none⟩) hb
    exact ⟨(e _).trans a, (e _).trans b, (e _).trans c⟩⟩
theorem set1_heap {W : World} {n : Nat} {p x : Value} {t : TypeId} (h : W.heap[n]? = some (.cells #[p] t)) : (W.setCell ⟨n, 0, none⟩ x).heap[n]? = some (.cells #[x] t) := by
  simp [World.setCell, Array.getElem?_modify, h]
theorem put2_block {W : World} {n k : Nat} {a b : Value} (h : k ≠ n) : (put2 W n a b).heap[k]? = W.heap[k]? := by
  unfold put2
  rw [Below.heap_setCell _ _ _ _ h, Below.heap_setCell _ _ _ _ h]
theorem Gr.below {rb B : Nat} {W W' : World} (h : Gr rb W W') (h1 : B ≤ rb) (h2 : B ≤ W.heap.size) : Below B W W' := ⟨World.grownBy.os h, World.grownBy.tape h, World.grownBy.output h, h.size, fun k hk => h.block (by omega) (by omega)⟩
theorem below_drw {B : Nat} {w w' : World} (h : Below B w w') : Below B w w'.drew := ⟨h.os, h.tape, h.output, h.size, h.block⟩
abbrev TB (g m c : Nat) : Obj := .cells #[.slice (some ⟨g, 0, none⟩) m c, .int .i64 0, .int .i64 0] 49

set_option maxRecDepth 100000 in
theorem parse_ok (A : Option Addr) (n cap : Nat) (l : List UInt8) (ts : List Tok) (q : Pg) (r : List Tok) (W : World) (hn : l.length = n) (hl : n ≤ 65536) (hcap : n ≤ cap) (hr : Row W A l) (hok : lexS 0 l = .ok ts) (hp : progT (ts.length + 2) (fin ts n) = .ok q r) :
    Calls Tryd.prog 5 #[.slice A n cap] W fun e W' => Below W.heap.size W W' ∧ ∃ v, e = .returned (.tuple #[v, .int .i64 0, .int .i64 0]) ∧ GV W.heap.size W' v q := by
  have hmf : ∀ (fn : Go.Fn) (first cap : Array Value) (w : World), (Instr.makeFunc fn first cap).run Tryd.prog w = .ok (.func fn first cap) w := fun _ _ _ _ => rfl
  obtain ⟨m, hm⟩ : ∃ m, ts.length + 1 = m := ⟨_, rfl⟩
  have hTok : TokOk (fin ts n) := hn ▸ tok_ok hok (by omega)
  have hTl : (fin ts n).length = m := by rw [fin_length, hm]
  have HL := Lib.hid (lex_ok A n cap m l ts _ hn hl hcap (hr.al P2 P1 P0) hok hm)
  have HP := Lib.hid (fun w g cT (b : Nat) (h : Rd w b g m cT (fin ts n) 0 0) => prog_any h (ts.length + 2) (.ok q r) hp (fun e => by cases e))
  clear hn hl hcap hr hok hp
  go_enter_defers Tryd.func5, Tryd.ntmps5
  go_upto_region 1 with fail
  have B0 := three0 W
  have B1 := three1 W
  have B2 := three2 W
  have g0 := three_below W
  have z0 := three_size W
  obtain ⟨w0, hw0⟩ : ∃ w0, ((W.alloc P2).alloc P1).alloc P0 = w0 := ⟨_, rfl⟩
  rw [hw0] at HL B0 B1 B2 g0 z0 ⊢
  clear hw0
  obtain ⟨b0, hb0⟩ : ∃ b0, W.heap.size = b0 := ⟨_, rfl⟩
  rw [hb0] at B0 B1 B2 g0 z0 ⊢
  have HB0 := Lib.hid (fun w1 (e1 : Below w0.heap.size w0 w1) => (e1.block b0 (by omega)).trans B0)
  have HB1 := Lib.hid (fun w1 (e1 : Below w0.heap.size w0 w1) => (e1.block (b0 + 1) (by omega)).trans B1)
  have HB2 := Lib.hid (fun w1 (e1 : Below w0.heap.size w0 w1) => (e1.block (b0 + 1 + 1) (by omega)).trans B2)
  go_upto_region 2 with (go_at_call 8; ((with_reducible refine HL.out.mono ?_); rintro e1 w1 ⟨g, c', rfl, hgs, hmc, htr, e1⟩; have c1 := box_cell (HB1.out w1 e1) 0; have f1 := box_frozen (HB1.out w1 e1) 0; have c2 := box_cell (HB2.out w1 e1) 0; have f2 := box_frozen (HB2.out w1 e1) 0; have c2' := (World.cell?_setCell_far w1 ⟨b0 + 1, 0, none⟩ ⟨b0 + 1 + 1, 0, none⟩ (.int .i64 0) (by simp)).trans c2; simp at c1 c2 c2'))
  have hb2 : ∀ k, k ≠ b0 + 1 → k ≠ b0 + 1 + 1 → ((w1.setCell ⟨b0 + 1, 0, none⟩ (.int .i64 0)).setCell ⟨b0 + 1 + 1, 0, none⟩ (.int .i64 0)).heap[k]? = w1.heap[k]? := fun k h1 h2 => (Below.heap_setCell _ ⟨b0 + 1 + 1, 0, none⟩ _ _ h2).trans (Below.heap_setCell _ ⟨b0 + 1, 0, none⟩ _ _ h1)
  have g2 : Below b0 W ((w1.setCell ⟨b0 + 1, 0, none⟩ (.int .i64 0)).setCell ⟨b0 + 1 + 1, 0, none⟩ (.int .i64 0)) := ((g0.trans (e1.mono (by omega))).setCell (p := ⟨b0 + 1, 0, none⟩) (by simp) _).setCell (p := ⟨b0 + 1 + 1, 0, none⟩) (by simp; omega) _
  have z2 : ((w1.setCell ⟨b0 + 1, 0, none⟩ (.int .i64 0)).setCell ⟨b0 + 1 + 1, 0, none⟩ (.int .i64 0)).heap.size = w1.heap.size := by simp
  have t2 : TokRow ((w1.setCell ⟨b0 + 1, 0, none⟩ (.int .i64 0)).setCell ⟨b0 + 1 + 1, 0, none⟩ (.int .i64 0)) g (fin ts n) := htr.same (by rw [z2]; exact Nat.le_refl _) (hb2 g (by omega) (by omega))
  have Z1 : ((w1.setCell ⟨b0 + 1, 0, none⟩ (.int .i64 0)).setCell ⟨b0 + 1 + 1, 0, none⟩ (.int .i64 0)).heap[b0 + 1]? = some P1 := (Below.heap_setCell _ ⟨b0 + 1 + 1, 0, none⟩ _ _ (by simp)).trans (set1_heap (HB1.out w1 e1))
  have Z2 : ((w1.setCell ⟨b0 + 1, 0, none⟩ (.int .i64 0)).setCell ⟨b0 + 1 + 1, 0, none⟩ (.int .i64 0)).heap[b0 + 1 + 1]? = some P0 := set1_heap ((Below.heap_setCell _ ⟨b0 + 1, 0, none⟩ _ _ (by simp)).trans (HB2.out w1 e1))
  have Z0 := (hb2 b0 (by omega) (by omega)).trans (HB0.out w1 e1)
  have zw1 := e1.size
  obtain ⟨w2, hw2⟩ : ∃ w2, (w1.setCell ⟨b0 + 1, 0, none⟩ (.int .i64 0)).setCell ⟨b0 + 1 + 1, 0, none⟩ (.int .i64 0) = w2 := ⟨_, rfl⟩
  rw [hw2] at g2 z2 t2 Z0 Z1 Z2 ⊢
  clear hw2 c1 c2 c2' f1 f2 HB0 HB1 HB2 B0 B1 B2 g0 hb2
  have q2 := box_cell Z2 0
  simp only [List.getElem?_toArray, List.getElem?_cons_zero] at q2
  go_upto_region 6 with fail
  have h3 := rd_new (c := c') t2 hTl hTok
  have e3 : Below w2.heap.size w2 (w2.alloc (TB g m c')) := (Below.refl _ _).alloc (Nat.le_refl _) _
  have Z0 := (e3.block b0 (by omega)).trans Z0
  have Z1 := (e3.block (b0 + 1) (by omega)).trans Z1
  have Z2 := (e3.block (b0 + 1 + 1) (by omega)).trans Z2
  have g3 := g2.trans (e3.mono (by omega))
  have z3 : (w2.alloc (TB g m c')).heap.size = w2.heap.size + 1 := by simp
  obtain ⟨w3, hw3⟩ : ∃ w3, w2.alloc (TB g m c') = w3 := ⟨_, rfl⟩
  rw [hw3] at h3 Z0 Z1 Z2 g3 z3 ⊢
  clear hw3 e3 q2 t2 g2 htr
  obtain ⟨n5, hn5⟩ : ∃ n5, w1.heap.size = n5 := ⟨_, rfl⟩
  rw [z2, hn5] at h3 z3
  rw [hn5] at zw1 ⊢
  have HBk := Lib.hid (fun w6 (g6 : Gr n5 w3 w6) k (hk : k ≤ b0 + 2) => g6.block (k := k) (by omega) (by omega))
  have HBP := Lib.hid (HP.out w3 g c' n5 h3)
  clear HP HL
  go_wp2_with (go_at_call 10; ((with_reducible refine HBP.out.mono ?_); rintro e2 w6 ⟨⟨vv, rfl, vf, vm, rfl, hf, hvm⟩, ⟨i6, h6, _⟩, g6⟩; obtain ⟨A1, k1, el1, _⟩ := id hf; obtain ⟨A2, k2, el2, _⟩ := id hvm; subst el1; subst el2; have Y0 := (HBk.out w6 g6 b0 (by omega)).trans Z0; have Y1 := (HBk.out w6 g6 (b0 + 1) (by omega)).trans Z1; have Y2 := (HBk.out w6 g6 (b0 + 1 + 1) (by omega)).trans Z2; have c0 := box_cell Y0 0; have c1 := box_cell Y0 1; have f0 := box_frozen Y0 0; have f1 := box_frozen Y0 1; have d1 := (World.cell?_setCell_far (w6.setCell ⟨b0, 0, none⟩ (.slice A1 q.fs.length k1)) ⟨b0, 1, none⟩ ⟨b0 + 1, 0, none⟩ (.slice A2 q.m.len k2) (by simp)).trans ((World.cell?_setCell_far w6 ⟨b0, 0, none⟩ ⟨b0 + 1, 0, none⟩ (.slice A1 q.fs.length k1) (by simp)).trans (box_cell Y1 0)); have x1 := box_frozen Y1 0; have x2 := box_frozen Y2 0; have d2 := (World.cell?_setCell_far ((w6.setCell ⟨b0, 0, none⟩ (.slice A1 q.fs.length k1)).setCell ⟨b0, 1, none⟩ (.slice A2 q.m.len k2)) ⟨b0 + 1, 0, none⟩ ⟨b0 + 1 + 1, 0, none⟩ (.int .i64 0) (by simp)).trans ((World.cell?_setCell_far (w6.setCell ⟨b0, 0, none⟩ (.slice A1 q.fs.length k1)) ⟨b0, 1, none⟩ ⟨b0 + 1 + 1, 0, none⟩ (.slice A2 q.m.len k2) (by simp; omega)).trans ((World.cell?_setCell_far w6 ⟨b0, 0, none⟩ ⟨b0 + 1 + 1, 0, none⟩ (.slice A1 q.fs.length k1) (by simp; omega)).trans (box_cell Y2 0))); simp at c0 c1 d1 d2))
  have z6 := g6.size
  have X0 : (((Proofs.YtmpdnikabkandaaDoor.put2 w6 b0 (.slice A1 q.fs.length k1) (.slice A2 q.m.len k2)).setCell ⟨b0 + 1, 0, none⟩ (.int .i64 0)).setCell ⟨b0 + 1 + 1, 0, none⟩ (.int .i64 0)).heap[b0]? = some (.cells #[.slice A1 q.fs.length k1, .slice A2 q.m.len k2] 27) := (Below.heap_setCell _ ⟨b0 + 1 + 1, 0, none⟩ _ _ (show b0 ≠ b0 + 1 + 1 by omega)).trans ((Below.heap_setCell _ ⟨b0 + 1, 0, none⟩ _ _ (show b0 ≠ b0 + 1 by omega)).trans (put2_heap Y0))
  have X1 : (((Proofs.YtmpdnikabkandaaDoor.put2 w6 b0 (.slice A1 q.fs.length k1) (.slice A2 q.m.len k2)).setCell ⟨b0 + 1, 0, none⟩ (.int .i64 0)).setCell ⟨b0 + 1 + 1, 0, none⟩ (.int .i64 0)).heap[b0 + 1]? = some P1 := (Below.heap_setCell _ ⟨b0 + 1 + 1, 0, none⟩ _ _ (show b0 + 1 ≠ b0 + 1 + 1 by omega)).trans (set1_heap ((put2_block (show b0 + 1 ≠ b0 by omega)).trans Y1))
  have X2 : (((Proofs.YtmpdnikabkandaaDoor.put2 w6 b0 (.slice A1 q.fs.length k1) (.slice A2 q.m.len k2)).setCell ⟨b0 + 1, 0, none⟩ (.int .i64 0)).setCell ⟨b0 + 1 + 1, 0, none⟩ (.int .i64 0)).heap[b0 + 1 + 1]? = some P0 := set1_heap ((Below.heap_setCell _ ⟨b0 + 1, 0, none⟩ _ _ (show b0 + 1 + 1 ≠ b0 + 1 by omega)).trans ((put2_block (show b0 + 1 + 1 ≠ b0 by omega)).trans Y2))
  have G7 : Below b0 W (((Proofs.YtmpdnikabkandaaDoor.put2 w6 b0 (.slice A1 q.fs.length k1) (.slice A2 q.m.len k2)).setCell ⟨b0 + 1, 0, none⟩ (.int .i64 0)).setCell ⟨b0 + 1 + 1, 0, none⟩ (.int .i64 0)) :=
    ((((g3.trans (g6.below (by omega) (by omega))).setCell (p := ⟨b0, 0, none⟩) (Nat.le_refl _) _).setCell (p := ⟨b0, 1, none⟩) (Nat.le_refl _) _).setCell (p := ⟨b0 + 1, 0, none⟩) (by simp) _).setCell (p := ⟨b0 + 1 + 1, 0, none⟩) (by simp; omega) _
  have hK : Kp w3.heap.size w6 (((Proofs.YtmpdnikabkandaaDoor.put2 w6 b0 (.slice A1 q.fs.length k1) (.slice A2 q.m.len k2)).setCell ⟨b0 + 1, 0, none⟩ (.int .i64 0)).setCell ⟨b0 + 1 + 1, 0, none⟩ (.int .i64 0)) := ((Kp.put2 (by omega)).trans (Kp.set _ (by omega))).trans (Kp.set _ (by omega))
  obtain ⟨w7, hw7⟩ : ∃ w7, (((Proofs.YtmpdnikabkandaaDoor.put2 w6 b0 (.slice A1 q.fs.length k1) (.slice A2 q.m.len k2)).setCell ⟨b0 + 1, 0, none⟩ (.int .i64 0)).setCell ⟨b0 + 1 + 1, 0, none⟩ (.int .i64 0)) = w7 := ⟨_, rfl⟩
  show bodyPostD _ _ _ _ _ (((Proofs.YtmpdnikabkandaaDoor.put2 w6 b0 (.slice A1 q.fs.length k1) (.slice A2 q.m.len k2)).setCell ⟨b0 + 1, 0, none⟩ (.int .i64 0)).setCell ⟨b0 + 1 + 1, 0, none⟩ (.int .i64 0))
  rw [hw7] at X0 X1 X2 G7 hK ⊢
  clear hw7
  have hv : GV W.heap.size (w7.alloc (.cells #[.int .i64 0, .int .i64 0] 46)) (.agg #[.slice A1 q.fs.length k1, .slice A2 q.m.len k2]) q := ⟨_, _, rfl, (hf.kp hK (Nat.le_refl _)).kp (Kp.below ((Below.refl _ _).alloc (Nat.le_refl _) _)) (by omega), (hvm.kp hK (Nat.le_refl _)).kp (Kp.below ((Below.refl _ _).alloc (Nat.le_refl _) _)) (by omega)⟩
  have y0 := box_cell ((Below.heap_alloc w7 (.cells #[.int .i64 0, .int .i64 0] 46) b0 (lt_heap X0)).trans X0) 0
  have y1 := box_cell ((Below.heap_alloc w7 (.cells #[.int .i64 0, .int .i64 0] 46) b0 (lt_heap X0)).trans X0) 1
  have y2 := box_cell ((Below.heap_alloc w7 (.cells #[.int .i64 0, .int .i64 0] 46) (b0 + 1) (lt_heap X1)).trans X1) 0
  have y3 := box_cell ((Below.heap_alloc w7 (.cells #[.int .i64 0, .int .i64 0] 46) (b0 + 1 + 1) (lt_heap X2)).trans X2) 0
  simp only [List.getElem?_toArray, List.getElem?_cons_succ, List.getElem?_cons_zero] at y0 y1 y2 y3
  have G8 := G7.alloc (by rw [← hb0]; exact (by have := G7.size; omega)) (.cells #[.int .i64 0, .int .i64 0] 46)
  rw [hb0] at *
  refine leaves_cons (f := 9) (args := #[.pointer (some ⟨b0 + 1, 0, none⟩), .pointer (some ⟨b0 + 1 + 1, 0, none⟩)]) (by simp) (by simp [go_sem]) ?_
  refine (idle _ _ _).mono ?_
  rintro e u' w'' ⟨rfl, rfl, rfl⟩
  exact ⟨_, by simp [results, Tryd.results5, go_sem, y0, y1, y2, y3], G8, _, rfl, hv⟩

set_option maxRecDepth 100000 in
theorem parse_flt (A : Option Addr) (n cap : Nat) (l : List UInt8) (ts : List Tok) (p c : Nat) (W : World) (hn : l.length = n) (hl : n ≤ 65536) (hcap : n ≤ cap) (hr : Row W A l) (hok : lexS 0 l = .ok ts) (hp : progT (ts.length + 2) (fin ts n) = .bad p c) :
    Calls Tryd.prog 5 #[.slice A n cap] W fun e W' => Below W.heap.size W W' ∧ e = .returned (.tuple #[.agg #[.slice none 0 0, .slice none 0 0], .int .i64 p, .int .i64 c]) := by
  have hmf : ∀ (fn : Go.Fn) (first cap : Array Value) (w : World), (Instr.makeFunc fn first cap).run Tryd.prog w = .ok (.func fn first cap) w := fun _ _ _ _ => rfl
  obtain ⟨m, hm⟩ : ∃ m, ts.length + 1 = m := ⟨_, rfl⟩
  have hTok : TokOk (fin ts n) := hn ▸ tok_ok hok (by omega)
  have hTl : (fin ts n).length = m := by rw [fin_length, hm]
  have HL := Lib.hid (lex_ok A n cap m l ts _ hn hl hcap (hr.al P2 P1 P0) hok hm)
  have HP := Lib.hid (fun w g cT (b : Nat) (h : Rd w b g m cT (fin ts n) 0 0) => prog_any h (ts.length + 2) (.bad p c) hp (fun e => by cases e))
  clear hn hl hcap hr hok hp
  go_enter_defers Tryd.func5, Tryd.ntmps5
  go_upto_region 1 with fail
  have B0 := three0 W
  have B1 := three1 W
  have B2 := three2 W
  have g0 := three_below W
  have z0 := three_size W
  obtain ⟨w0, hw0⟩ : ∃ w0, ((W.alloc P2).alloc P1).alloc P0 = w0 := ⟨_, rfl⟩
  rw [hw0] at HL B0 B1 B2 g0 z0 ⊢
  clear hw0
  obtain ⟨b0, hb0⟩ : ∃ b0, W.heap.size = b0 := ⟨_, rfl⟩
  rw [hb0] at B0 B1 B2 g0 z0 ⊢
  have HB0 := Lib.hid (fun w1 (e1 : Below w0.heap.size w0 w1) => (e1.block b0 (by omega)).trans B0)
  have HB1 := Lib.hid (fun w1 (e1 : Below w0.heap.size w0 w1) => (e1.block (b0 + 1) (by omega)).trans B1)
  have HB2 := Lib.hid (fun w1 (e1 : Below w0.heap.size w0 w1) => (e1.block (b0 + 1 + 1) (by omega)).trans B2)
  go_upto_region 2 with (go_at_call 8; ((with_reducible refine HL.out.mono ?_); rintro e1 w1 ⟨g, c', rfl, hgs, hmc, htr, e1⟩; have c1 := box_cell (HB1.out w1 e1) 0; have f1 := box_frozen (HB1.out w1 e1) 0; have c2 := box_cell (HB2.out w1 e1) 0; have f2 := box_frozen (HB2.out w1 e1) 0; have c2' := (World.cell?_setCell_far w1 ⟨b0 + 1, 0, none⟩ ⟨b0 + 1 + 1, 0, none⟩ (.int .i64 0) (by simp)).trans c2; simp at c1 c2 c2'))
  have hb2 : ∀ k, k ≠ b0 + 1 → k ≠ b0 + 1 + 1 → ((w1.setCell ⟨b0 + 1, 0, none⟩ (.int .i64 0)).setCell ⟨b0 + 1 + 1, 0, none⟩ (.int .i64 0)).heap[k]? = w1.heap[k]? := fun k h1 h2 => (Below.heap_setCell _ ⟨b0 + 1 + 1, 0, none⟩ _ _ h2).trans (Below.heap_setCell _ ⟨b0 + 1, 0, none⟩ _ _ h1)
  have g2 : Below b0 W ((w1.setCell ⟨b0 + 1, 0, none⟩ (.int .i64 0)).setCell ⟨b0 + 1 + 1, 0, none⟩ (.int .i64 0)) := ((g0.trans (e1.mono (by omega))).setCell (p := ⟨b0 + 1, 0, none⟩) (by simp) _).setCell (p := ⟨b0 + 1 + 1, 0, none⟩) (by simp; omega) _
  have z2 : ((w1.setCell ⟨b0 + 1, 0, none⟩ (.int .i64 0)).setCell ⟨b0 + 1 + 1, 0, none⟩ (.int .i64 0)).heap.size = w1.heap.size := by simp
  have t2 : TokRow ((w1.setCell ⟨b0 + 1, 0, none⟩ (.int .i64 0)).setCell ⟨b0 + 1 + 1, 0, none⟩ (.int .i64 0)) g (fin ts n) := htr.same (by rw [z2]; exact Nat.le_refl _) (hb2 g (by omega) (by omega))
  have Z1 : ((w1.setCell ⟨b0 + 1, 0, none⟩ (.int .i64 0)).setCell ⟨b0 + 1 + 1, 0, none⟩ (.int .i64 0)).heap[b0 + 1]? = some P1 := (Below.heap_setCell _ ⟨b0 + 1 + 1, 0, none⟩ _ _ (by simp)).trans (set1_heap (HB1.out w1 e1))
  have Z2 : ((w1.setCell ⟨b0 + 1, 0, none⟩ (.int .i64 0)).setCell ⟨b0 + 1 + 1, 0, none⟩ (.int .i64 0)).heap[b0 + 1 + 1]? = some P0 := set1_heap ((Below.heap_setCell _ ⟨b0 + 1, 0, none⟩ _ _ (by simp)).trans (HB2.out w1 e1))
  have Z0 := (hb2 b0 (by omega) (by omega)).trans (HB0.out w1 e1)
  have zw1 := e1.size
  obtain ⟨w2, hw2⟩ : ∃ w2, (w1.setCell ⟨b0 + 1, 0, none⟩ (.int .i64 0)).setCell ⟨b0 + 1 + 1, 0, none⟩ (.int .i64 0) = w2 := ⟨_, rfl⟩
  rw [hw2] at g2 z2 t2 Z0 Z1 Z2 ⊢
  clear hw2 c1 c2 c2' f1 f2 HB0 HB1 HB2 B0 B1 B2 g0 hb2
  have q2 := box_cell Z2 0
  simp only [List.getElem?_toArray, List.getElem?_cons_zero] at q2
  go_upto_region 6 with fail
  have h3 := rd_new (c := c') t2 hTl hTok
  have e3 : Below w2.heap.size w2 (w2.alloc (TB g m c')) := (Below.refl _ _).alloc (Nat.le_refl _) _
  have Z0 := (e3.block b0 (by omega)).trans Z0
  have Z1 := (e3.block (b0 + 1) (by omega)).trans Z1
  have Z2 := (e3.block (b0 + 1 + 1) (by omega)).trans Z2
  have g3 := g2.trans (e3.mono (by omega))
  have z3 : (w2.alloc (TB g m c')).heap.size = w2.heap.size + 1 := by simp
  obtain ⟨w3, hw3⟩ : ∃ w3, w2.alloc (TB g m c') = w3 := ⟨_, rfl⟩
  rw [hw3] at h3 Z0 Z1 Z2 g3 z3 ⊢
  clear hw3 e3 q2 t2 g2 htr
  obtain ⟨n5, hn5⟩ : ∃ n5, w1.heap.size = n5 := ⟨_, rfl⟩
  rw [z2, hn5] at h3 z3
  rw [hn5] at zw1 ⊢
  have HBk := Lib.hid (fun w6 (g6 : Gr n5 w3 w6) k (hk : k ≤ b0 + 2) => g6.block (k := k) (by omega) (by omega))
  have HBP := Lib.hid (HP.out w3 g c' n5 h3)
  clear HP HL
  go_wp2_with (go_at_call 10; ((with_reducible refine HBP.out.mono ?_); rintro e2 w6 ⟨rfl, g6⟩))
  have Y0 := (HBk.out w6 g6 b0 (by omega)).trans Z0
  have Y1 := (HBk.out w6 g6 (b0 + 1) (by omega)).trans Z1
  have Y2 := (HBk.out w6 g6 (b0 + 1 + 1) (by omega)).trans Z2
  have G7 : Below b0 W w6 := g3.trans (g6.below (by omega) (by omega))
  have e7 : Below b0 w6 (((w6.alloc (.cells #[.int .i64 p, .int .i64 c] 46)).drew.setCell ⟨b0 + 1, 0, none⟩ (.int .i64 p)).setCell ⟨b0 + 1 + 1, 0, none⟩ (.int .i64 c)) :=
    ((below_drw ((Below.refl b0 w6).alloc (by have := G7.size; omega) (.cells #[.int .i64 p, .int .i64 c] 46))).setCell (p := ⟨b0 + 1, 0, none⟩) (by simp) _).setCell (p := ⟨b0 + 1 + 1, 0, none⟩) (by simp; omega) _
  have V0 : ((w6.alloc (.cells #[.int .i64 p, .int .i64 c] 46)).drew).heap[b0]? = some P2 := (Below.heap_alloc w6 (.cells #[.int .i64 p, .int .i64 c] 46) b0 (lt_heap Y0)).trans Y0
  have V1 : ((w6.alloc (.cells #[.int .i64 p, .int .i64 c] 46)).drew).heap[b0 + 1]? = some P1 := (Below.heap_alloc w6 (.cells #[.int .i64 p, .int .i64 c] 46) (b0 + 1) (lt_heap Y1)).trans Y1
  have V2 : ((w6.alloc (.cells #[.int .i64 p, .int .i64 c] 46)).drew).heap[b0 + 1 + 1]? = some P0 := (Below.heap_alloc w6 (.cells #[.int .i64 p, .int .i64 c] 46) (b0 + 1 + 1) (lt_heap Y2)).trans Y2
  have X0 : (((w6.alloc (.cells #[.int .i64 p, .int .i64 c] 46)).drew.setCell ⟨b0 + 1, 0, none⟩ (.int .i64 p)).setCell ⟨b0 + 1 + 1, 0, none⟩ (.int .i64 c)).heap[b0]? = some P2 := (Below.heap_setCell _ ⟨b0 + 1 + 1, 0, none⟩ _ _ (show b0 ≠ b0 + 1 + 1 by omega)).trans ((Below.heap_setCell _ ⟨b0 + 1, 0, none⟩ _ _ (show b0 ≠ b0 + 1 by omega)).trans V0)
  have X1 : (((w6.alloc (.cells #[.int .i64 p, .int .i64 c] 46)).drew.setCell ⟨b0 + 1, 0, none⟩ (.int .i64 p)).setCell ⟨b0 + 1 + 1, 0, none⟩ (.int .i64 c)).heap[b0 + 1]? = some (.cells #[.int .i64 p] 3) := (Below.heap_setCell _ ⟨b0 + 1 + 1, 0, none⟩ _ _ (show b0 + 1 ≠ b0 + 1 + 1 by omega)).trans (set1_heap V1)
  have X2 : (((w6.alloc (.cells #[.int .i64 p, .int .i64 c] 46)).drew.setCell ⟨b0 + 1, 0, none⟩ (.int .i64 p)).setCell ⟨b0 + 1 + 1, 0, none⟩ (.int .i64 c)).heap[b0 + 1 + 1]? = some (.cells #[.int .i64 c] 28) := set1_heap ((Below.heap_setCell _ ⟨b0 + 1, 0, none⟩ _ _ (show b0 + 1 + 1 ≠ b0 + 1 by omega)).trans V2)
  refine leaves_cons (f := 9) (args := #[.pointer (some ⟨b0 + 1, 0, none⟩), .pointer (some ⟨b0 + 1 + 1, 0, none⟩)]) (by simp) (by simp [go_sem]) ?_
  refine (caught (b0 + 1) (b0 + 1 + 1) 0 0 p c [] w6 Y1 Y2 (by omega)).mono ?_
  rintro e u' w'' ⟨rfl, rfl, rfl⟩
  have G8 := G7.trans e7
  obtain ⟨w8, hw8⟩ : ∃ w8, (((w6.alloc (.cells #[.int .i64 p, .int .i64 c] 46)).drew.setCell ⟨b0 + 1, 0, none⟩ (.int .i64 p)).setCell ⟨b0 + 1 + 1, 0, none⟩ (.int .i64 c)) = w8 := ⟨_, rfl⟩
  rw [hw8] at X0 X1 X2 G8 ⊢
  have y0 := box_cell X0 0
  have y1 := box_cell X0 1
  have y2 := box_cell X1 0
  have y3 := box_cell X2 0
  simp only [List.getElem?_toArray, List.getElem?_cons_succ, List.getElem?_cons_zero] at y0 y1 y2 y3
  rw [← hb0] at G8
  exact ⟨_, by simp [results, Tryd.results5, go_sem, y0, y1, y2, y3], G8, rfl⟩

/-- Parse, whole. -/
theorem parse_whole (A : Option Addr) (n cap : Nat) (l : List UInt8) (W : World) (hn : l.length = n) (hl : n ≤ 65536) (hcap : n ≤ cap) (hr : Row W A l) :
    Calls Tryd.prog 5 #[.slice A n cap] W (ParseOut l W) := by
  unfold ParseOut
  cases hx : lexS 0 l with
  | bad p =>
    have e : tl l = .bad p 2 := by unfold tl; rw [hx]
    rw [e]
    exact parse_err A n cap p 2 W (by decide) (lex_no A n cap l p _ hn hl hcap (hr.al P2 P1 P0) hx)
  | ok ts =>
    have e : tl l = progT (ts.length + 2) (fin ts n) := by unfold tl; rw [hx, hn]
    rw [e]
    cases hp : progT (ts.length + 2) (fin ts n) with
    | out => exact absurd (e.trans hp) (tl_ne l)
    | ok q r => exact parse_ok A n cap l ts q r W hn hl hcap hr hx hp
    | bad p c => exact parse_flt A n cap l ts p c W hn hl hcap hr hx hp
/-- Of too many bytes none is a program. -/
theorem parse_big (A : Option Addr) (n cap : Nat) (W : World) (hn : 65536 < (n : Int)) :
    Calls Tryd.prog 5 #[.slice A n cap] W fun e W' => Below W.heap.size W W' ∧ e = .returned (.tuple #[.agg #[.slice none 0 0, .slice none 0 0], .int .i64 (0 : Nat), .int .i64 (1 : Nat)]) :=
  parse_err A n cap 0 1 W (by decide) ((lex_big A n cap _ hn).mono fun e w' ⟨h1, h2⟩ => ⟨h1, h2 ▸ Below.refl _ _⟩)

end Go.Proofs.YtmpdnikabkandaaDoor

/-
  The statements' own 'shown' (layer 4): it tells true, and nothing of what was there has turned.
-/
namespace Go.Proofs.YtmpdnikabkandaaDoor
open Go Go.RowKit Go.Lib

/-- What Parse tells, with a count of steps for the bytes too. -/
def tlF (l : List UInt8) : PR Pg :=
  match lexF l.length 0 l with
  | .bad p => .bad p 2
  | .ok ts => progT (ts.length + 2) (fin ts l.length)
theorem tl_eq (l : List UInt8) : tl l = tlF l := by
  unfold tl tlF
  rw [lexS_eq l.length 0 l (Nat.le_refl _)]
  all_goals (cases lexF l.length 0 l <;> rfl)
/-- What Parse tells of bytes of which it is known. -/
theorem p_ok {l : List UInt8} {q : Pg} {r : List Tok} (ht : tl l = .ok q r) (A : Option Addr) (n cap : Nat) (W : World) (hn : l.length = n) (hl : n ≤ 65536) (hcap : n ≤ cap) (hr : Row W A l) :
    Calls Tryd.prog 5 #[.slice A n cap] W fun e W' => (∃ v, e = .returned (.tuple #[v, .int .i64 0, .int .i64 0]) ∧ GV W.heap.size W' v q) ∧ Below W.heap.size W W' :=
  (parse_whole A n cap l W hn hl hcap hr).mono fun e W' h => by
    unfold ParseOut at h
    rw [ht] at h
    exact ⟨h.2, h.1⟩
theorem p_bad {l : List UInt8} {p c : Nat} (ht : tl l = .bad p c) (A : Option Addr) (n cap : Nat) (W : World) (hn : l.length = n) (hl : n ≤ 65536) (hcap : n ≤ cap) (hr : Row W A l) :
    Calls Tryd.prog 5 #[.slice A n cap] W fun e W' => e = .returned (.tuple #[.agg #[.slice none 0 0, .slice none 0 0], .int .i64 p, .int .i64 c]) ∧ Below W.heap.size W W' :=
  (parse_whole A n cap l W hn hl hcap hr).mono fun e W' h => by
    unfold ParseOut at h
    rw [ht] at h
    exact ⟨h.2, h.1⟩

def sx1 : List UInt8 := [102, 117, 110, 99, 32, 102, 40, 97, 44, 32, 66, 41, 32, 123, 32, 114, 101, 116, 117, 114, 110, 32, 97, 32, 45, 32, 49, 32, 45, 32, 50, 32, 42, 32, 66, 59, 32, 125, 32, 105, 102, 32, 33, 120, 32, 61, 61, 32, 48, 32, 123, 32, 112, 114, 105, 110, 116, 32, 102, 40, 49, 44, 32, 121, 91, 50, 93, 41, 59, 32, 125, 32, 101, 108, 115, 101, 32, 123, 32, 125, 32, 122, 91, 48, 93, 32, 61, 32, 45, 40, 51, 41, 59]
def sx2 : List UInt8 := [120, 32, 61, 32, 49, 32, 43, 59]
def sx3 : List UInt8 := [97, 114, 114, 97, 121, 32, 120, 32, 52, 48, 57, 55, 59]
def sx4 : List UInt8 := [120, 32, 61, 32, 49, 59, 32, 121, 32, 61, 32, 46]
def sx5 : List UInt8 := [120, 32, 61, 32, 49]
def sq1 : Pg := ⟨[⟨baT [102], [baT [97], baT [66]], .cons 9 (baT []) 0 (.cons 9 0 (baT []) (.cons 9 0 (baT []) (.cons 2 0 (baT [97]) .nil (.cons 1 1 (baT []) .nil .nil)) (.cons 10 0 (baT []) (.cons 1 2 (baT []) .nil (.cons 2 0 (baT [66]) .nil .nil)) .nil)) .nil) .nil .nil .nil⟩],
    .cons 7 (baT []) 0 (.cons 14 0 (baT []) (.cons 7 0 (baT []) (.cons 2 0 (baT [120]) .nil .nil) (.cons 1 0 (baT []) .nil .nil)) .nil) (.cons 5 (baT []) 0 (.cons 5 0 (baT [102]) (.cons 1 1 (baT []) .nil (.cons 4 0 (baT [121]) (.cons 1 2 (baT []) .nil .nil) .nil)) .nil) .nil .nil .nil) .nil (.cons 2 (baT [122]) 0 (.cons 1 0 (baT []) .nil (.cons 6 0 (baT []) (.cons 1 3 (baT []) .nil .nil) .nil)) .nil .nil .nil)⟩
theorem sl1 : tl sx1 = .ok sq1 [⟨4, [], 93⟩] := (tl_eq _).trans (by kernel_rfl)
theorem sl2 : tl sx2 = .bad 7 2 := (tl_eq _).trans (by kernel_rfl)
theorem sl3 : tl sx3 = .bad 8 1 := (tl_eq _).trans (by kernel_rfl)
theorem sl4 : tl sx4 = .bad 11 2 := (tl_eq _).trans (by kernel_rfl)
theorem sl5 : tl sx5 = .bad 5 2 := (tl_eq _).trans (by kernel_rfl)
theorem sr1 (w : World) {fz : Nat × Nat} : Row (w.alloc (.cells #[.int .u8 102, .int .u8 117, .int .u8 110, .int .u8 99, .int .u8 32, .int .u8 102, .int .u8 40, .int .u8 97, .int .u8 44, .int .u8 32, .int .u8 66, .int .u8 41, .int .u8 32, .int .u8 123, .int .u8 32, .int .u8 114, .int .u8 101, .int .u8 116, .int .u8 117, .int .u8 114, .int .u8 110, .int .u8 32, .int .u8 97, .int .u8 32, .int .u8 45, .int .u8 32, .int .u8 49, .int .u8 32, .int .u8 45, .int .u8 32, .int .u8 50, .int .u8 32, .int .u8 42, .int .u8 32, .int .u8 66, .int .u8 59, .int .u8 32, .int .u8 125, .int .u8 32, .int .u8 105, .int .u8 102, .int .u8 32, .int .u8 33, .int .u8 120, .int .u8 32, .int .u8 61, .int .u8 61, .int .u8 32, .int .u8 48, .int .u8 32, .int .u8 123, .int .u8 32, .int .u8 112, .int .u8 114, .int .u8 105, .int .u8 110, .int .u8 116, .int .u8 32, .int .u8 102, .int .u8 40, .int .u8 49, .int .u8 44, .int .u8 32, .int .u8 121, .int .u8 91, .int .u8 50, .int .u8 93, .int .u8 41, .int .u8 59, .int .u8 32, .int .u8 125, .int .u8 32, .int .u8 101, .int .u8 108, .int .u8 115, .int .u8 101, .int .u8 32, .int .u8 123, .int .u8 32, .int .u8 125, .int .u8 32, .int .u8 122, .int .u8 91, .int .u8 48, .int .u8 93, .int .u8 32, .int .u8 61, .int .u8 32, .int .u8 45, .int .u8 40, .int .u8 51, .int .u8 41, .int .u8 59] 5 fz)) (some ⟨w.heap.size, 0, none⟩) sx1 := row_new w _ _ _ rfl
theorem sr2 (w : World) {fz : Nat × Nat} : Row (w.alloc (.cells #[.int .u8 120, .int .u8 32, .int .u8 61, .int .u8 32, .int .u8 49, .int .u8 32, .int .u8 43, .int .u8 59] 5 fz)) (some ⟨w.heap.size, 0, none⟩) sx2 := row_new w _ _ _ rfl
theorem sr3 (w : World) {fz : Nat × Nat} : Row (w.alloc (.cells #[.int .u8 97, .int .u8 114, .int .u8 114, .int .u8 97, .int .u8 121, .int .u8 32, .int .u8 120, .int .u8 32, .int .u8 52, .int .u8 48, .int .u8 57, .int .u8 55, .int .u8 59] 5 fz)) (some ⟨w.heap.size, 0, none⟩) sx3 := row_new w _ _ _ rfl
theorem sr4 (w : World) {fz : Nat × Nat} : Row (w.alloc (.cells #[.int .u8 120, .int .u8 32, .int .u8 61, .int .u8 32, .int .u8 49, .int .u8 59, .int .u8 32, .int .u8 121, .int .u8 32, .int .u8 61, .int .u8 32, .int .u8 46] 5 fz)) (some ⟨w.heap.size, 0, none⟩) sx4 := row_new w _ _ _ rfl
theorem sr5 (w : World) {fz : Nat × Nat} : Row (w.alloc (.cells #[.int .u8 120, .int .u8 32, .int .u8 61, .int .u8 32, .int .u8 49] 5 fz)) (some ⟨w.heap.size, 0, none⟩) sx5 := row_new w _ _ _ rfl

/-- What shown reads of its program. -/
structure Sn (w : World) (bf f bb b kb bl l kl be e ke bm m bc c kc bd d kd bx x kx bs s ks : Nat) (Ay : Option Addr) (ky : Nat) (A7 A8 : Option Addr) (k7 k8 : Nat) : Prop where
  lt : bf < w.heap.size ∧ bb < w.heap.size ∧ bl < w.heap.size ∧ be < w.heap.size ∧ bm < w.heap.size ∧ bc < w.heap.size ∧ bd < w.heap.size ∧ bx < w.heap.size
  f2 : w.cell? ⟨bf, f + 2, none⟩ = some (.slice (some ⟨bb, b, none⟩) 1 kb)
  b3 : w.cell? ⟨bb, b + 3, none⟩ = some (.slice (some ⟨bl, l, none⟩) 1 kl)
  l0 : w.cell? ⟨bl, l, none⟩ = some (.int .i64 9)
  l1 : w.cell? ⟨bl, l + 1, none⟩ = some (.int .i64 0)
  l2 : w.cell? ⟨bl, l + 2, none⟩ = some (.string (baT []))
  l3 : w.cell? ⟨bl, l + 3, none⟩ = some (.slice (some ⟨be, e, none⟩) 2 ke)
  e0 : w.cell? ⟨be, e, none⟩ = some (.int .i64 9)
  e4 : w.cell? ⟨be, e + 4, none⟩ = some (.int .i64 10)
  m0 : w.cell? ⟨bm, m, none⟩ = some (.int .i64 7)
  m1 : w.cell? ⟨bm, m + 1, none⟩ = some (.string (baT []))
  m2 : w.cell? ⟨bm, m + 2, none⟩ = some (.int .i64 0)
  m3 : w.cell? ⟨bm, m + 3, none⟩ = some (.slice (some ⟨bc, c, none⟩) 1 kc)
  m4 : w.cell? ⟨bm, m + 4, none⟩ = some (.slice (some ⟨bs, s, none⟩) 1 ks)
  m5 : w.cell? ⟨bm, m + 5, none⟩ = some (.slice Ay 0 ky)
  m6 : w.cell? ⟨bm, m + 6, none⟩ = some (.int .i64 2)
  m7 : w.cell? ⟨bm, m + 7, none⟩ = some (.string (baT [122]))
  m8 : w.cell? ⟨bm, m + 8, none⟩ = some (.int .i64 0)
  m9 : w.cell? ⟨bm, m + 9, none⟩ = some (.slice (some ⟨bd, d, none⟩) 2 kd)
  m10 : w.cell? ⟨bm, m + 10, none⟩ = some (.slice A7 0 k7)
  m11 : w.cell? ⟨bm, m + 11, none⟩ = some (.slice A8 0 k8)
  c0 : w.cell? ⟨bc, c, none⟩ = some (.int .i64 14)
  c3 : w.cell? ⟨bc, c + 3, none⟩ = some (.slice (some ⟨bx, x, none⟩) 2 kx)
  x0 : w.cell? ⟨bx, x, none⟩ = some (.int .i64 7)
  d4 : w.cell? ⟨bd, d + 4, none⟩ = some (.int .i64 6)
theorem Sn.below {w w' : World} {bf f bb b kb bl l kl be e ke bm m bc c kc bd d kd bx x kx bs s ks : Nat} {Ay : Option Addr} {ky : Nat} {A7 A8 : Option Addr} {k7 k8 : Nat} (h : Sn w bf f bb b kb bl l kl be e ke bm m bc c kc bd d kd bx x kx bs s ks Ay ky A7 A8 k7 k8) (hb : Below w.heap.size w w') :
    Sn w' bf f bb b kb bl l kl be e ke bm m bc c kc bd d kd bx x kx bs s ks Ay ky A7 A8 k7 k8 := by
  obtain ⟨⟨q1, q2, q3, q4, q5, q6, q7, q8⟩, f2, b3, l0, l1, l2, l3, e0, e4, m0, m1, m2, m3, m4, m5, m6, m7, m8, m9, m10, m11, c0, c3, x0, d4⟩ := h
  have hs := hb.size
  exact ⟨by omega, (hb.cell q1).trans f2, (hb.cell q2).trans b3, (hb.cell q3).trans l0, (hb.cell q3).trans l1, (hb.cell q3).trans l2, (hb.cell q3).trans l3, (hb.cell q4).trans e0, (hb.cell q4).trans e4,
    (hb.cell q5).trans m0, (hb.cell q5).trans m1, (hb.cell q5).trans m2, (hb.cell q5).trans m3, (hb.cell q5).trans m4, (hb.cell q5).trans m5, (hb.cell q5).trans m6, (hb.cell q5).trans m7, (hb.cell q5).trans m8, (hb.cell q5).trans m9, (hb.cell q5).trans m10, (hb.cell q5).trans m11,
    (hb.cell q6).trans c0, (hb.cell q6).trans c3, (hb.cell q8).trans x0, (hb.cell q7).trans d4⟩
theorem RowV.get {P : Nat → Nat → Prop} {B n : Nat} {v : Value} (h : RowV P B (n + 1) v) : ∃ b o k, v = .slice (some ⟨b, o, none⟩) (n + 1) k ∧ b < B ∧ P b o := by
  obtain ⟨A, k, e, _, _, hp⟩ := h
  obtain ⟨b, o, ea, hb, hp⟩ := hp (Nat.succ_pos _)
  exact ⟨b, o, k, by rw [e, ea], hb, hp⟩
theorem sn_of {lo : Nat} {w : World} {v : Value} (h : GV lo w v sq1) : ∃ bf f k1 bm m k2 bb b kb bl l kl be e ke bc c kc bd d kd bx x kx bs s ks Ay ky A7 A8 k7 k8,
    v = .agg #[.slice (some ⟨bf, f, none⟩) 1 k1, .slice (some ⟨bm, m, none⟩) 2 k2] ∧ Sn w bf f bb b kb bl l kl be e ke bm m bc c kc bd d kd bx x kx bs s ks Ay ky A7 A8 k7 k8 := by
  obtain ⟨A, c, A', c', rfl, hf, hm⟩ := h.pgv
  obtain ⟨bf, f, k1, e1, hbf, _, _, ⟨vb, f2, hvb⟩, _, _⟩ := RowV.get (n := 0) hf
  obtain ⟨bm, m, k2, e2, hbm, m0, m1, m2, ⟨vc, m3, hvc⟩, ⟨vs, m4, hvs⟩, ⟨vy, m5, hvy⟩, _, m6, m7, m8, ⟨vd, m9, hvd⟩, ⟨v7, m10, hv7⟩, ⟨v8, m11, hv8⟩, _, _⟩ := RowV.get (n := 1) hm
  rw [e1, e2]
  obtain ⟨bb, b, kb, rfl, hbb, _, _, _, ⟨vl, b3, hvl⟩, _⟩ := RowV.get (n := 0) hvb
  obtain ⟨bl, l, kl, rfl, hbl, l0, l1, l2, ⟨ve, l3, hve⟩, _⟩ := RowV.get (n := 0) hvl
  obtain ⟨be, e, ke, rfl, hbe, e0, _, _, _, _, e4, _⟩ := RowV.get (n := 1) hve
  obtain ⟨bc, c, kc, rfl, hbc, c0, _, _, ⟨vx, c3, hvx⟩, _⟩ := RowV.get (n := 0) hvc
  obtain ⟨bx, x, kx, rfl, hbx, x0, _⟩ := RowV.get (n := 1) hvx
  obtain ⟨bs, s, ks, rfl, hbs, _⟩ := RowV.get (n := 0) hvs
  obtain ⟨bd, d, kd, rfl, hbd, _, _, _, _, _, d4, _⟩ := RowV.get (n := 1) hvd
  obtain ⟨Ay, ky, rfl, _⟩ := hvy
  obtain ⟨A7, k7, rfl, _⟩ := hv7
  obtain ⟨A8, k8, rfl, _⟩ := hv8
  exact ⟨bf, f, k1, bm, m, k2, bb, b, kb, bl, l, kl, be, e, ke, bc, c, kc, bd, d, kd, bx, x, kx, bs, s, ks, Ay, ky, A7, A8, k7, k8, rfl, ⟨hbf, hbb, hbl, hbe, hbm, hbc, hbd, hbx⟩, f2, b3, l0, l1, l2, l3, e0, e4, m0, m1, m2, m3, m4, m5, m6, m7, m8, m9, m10, m11, c0, c3, x0, d4⟩

theorem below_two {w w' : World} {C : Obj} (h : Below (w.alloc C).heap.size (w.alloc C) w') (D : Obj) : Below w.heap.size w (w'.alloc D) :=
  (((Below.refl _ _).alloc (Nat.le_refl _) C).trans (h.mono (by simp))).alloc (by have := h.size; simp at this; omega) D

set_option maxHeartbeats 4000000 in
set_option maxRecDepth 100000 in
theorem shown4_fr (w0 w : World) (h : Fr w0 w) :
    Calls Tryd.prog 4 #[] w fun e w' => e = .returned (.bool true) ∧ Fr w0 w' := by
  have kc := fun (w : World) (C : Array Value) (n c : Nat) => Lib.run_convert_bytes_const (P := Tryd.prog) w 22 5 C n c Tryd.underlying22 Tryd.underlying5
  go_enter Tryd.func4, Tryd.ntmps4
  go_upto_region 2 with (go_at_call 5; ((with_reducible refine (p_ok sl1 _ 93 _ _ rfl (by decide) (by decide) (sr1 _)).mono ?_); rintro e w1 ⟨⟨v1, rfl, hv1⟩, hb1⟩; obtain ⟨bf, f, k1, bm, m, k2, bb, b, kb, bl, l, kl, be, e, ke, bc, c, kc, bd, d, kd, bx, x, kx, bs, s, ks, Ay, ky, A7, A8, k7, k8, rfl, hS⟩ := sn_of hv1))
  have F1 := ((h.alloc _).below hb1).alloc (.cells #[.slice (some ⟨bf, f, none⟩) 1 k1, .slice (some ⟨bm, m, none⟩) 2 k2] 27)
  have hS := hS.below ((Below.refl _ _).alloc (Nat.le_refl _) (.cells #[.slice (some ⟨bf, f, none⟩) 1 k1, .slice (some ⟨bm, m, none⟩) 2 k2] 27))
  have P1 := heap_alloc_new w1 (.cells #[.slice (some ⟨bf, f, none⟩) 1 k1, .slice (some ⟨bm, m, none⟩) 2 k2] 27)
  obtain ⟨n1, hn1⟩ : ∃ n1, w1.heap.size = n1 := ⟨_, rfl⟩
  rw [hn1] at P1
  obtain ⟨u1, hu1⟩ : ∃ u1, w1.alloc (.cells #[.slice (some ⟨bf, f, none⟩) 1 k1, .slice (some ⟨bm, m, none⟩) 2 k2] 27) = u1 := ⟨_, rfl⟩
  rw [hu1] at F1 hS P1 ⊢
  try rw [hn1]
  clear hu1 hb1 hv1
  go_upto_region 3 with (go_at_call 5; ((with_reducible refine (p_bad sl2 _ 8 _ _ rfl (by decide) (by decide) (sr2 _)).mono ?_); rintro e w2 ⟨rfl, hb2⟩))
  have e2 := below_two (C := .cells #[.int .u8 120, .int .u8 32, .int .u8 61, .int .u8 32, .int .u8 49, .int .u8 32, .int .u8 43, .int .u8 59] 5 (8, 9)) hb2 (.cells #[.slice none 0 0, .slice none 0 0] 27)
  have F2 := F1.below e2
  have hS := hS.below e2
  have P1 := (e2.block n1 (lt_heap P1)).trans P1
  obtain ⟨u2, hu2⟩ : ∃ u, w2.alloc (.cells #[.slice none 0 0, .slice none 0 0] 27) = u := ⟨_, rfl⟩
  rw [hu2] at F2 hS P1 ⊢
  clear hu2 hb2 e2
  go_upto_region 4 with (go_at_call 5; ((with_reducible refine (p_bad sl3 _ 13 _ _ rfl (by decide) (by decide) (sr3 _)).mono ?_); rintro e w3 ⟨rfl, hb3⟩))
  have e3 := below_two (C := .cells #[.int .u8 97, .int .u8 114, .int .u8 114, .int .u8 97, .int .u8 121, .int .u8 32, .int .u8 120, .int .u8 32, .int .u8 52, .int .u8 48, .int .u8 57, .int .u8 55, .int .u8 59] 5 (13, 14)) hb3 (.cells #[.slice none 0 0, .slice none 0 0] 27)
  have F3 := F2.below e3
  have hS := hS.below e3
  have P1 := (e3.block n1 (lt_heap P1)).trans P1
  obtain ⟨u3, hu3⟩ : ∃ u, w3.alloc (.cells #[.slice none 0 0, .slice none 0 0] 27) = u := ⟨_, rfl⟩
  rw [hu3] at F3 hS P1 ⊢
  clear hu3 hb3 e3
  go_upto_region 5 with (go_at_call 5; ((with_reducible refine (p_bad sl4 _ 12 _ _ rfl (by decide) (by decide) (sr4 _)).mono ?_); rintro e w4 ⟨rfl, hb4⟩))
  have e4 := below_two (C := .cells #[.int .u8 120, .int .u8 32, .int .u8 61, .int .u8 32, .int .u8 49, .int .u8 59, .int .u8 32, .int .u8 121, .int .u8 32, .int .u8 61, .int .u8 32, .int .u8 46] 5 (12, 13)) hb4 (.cells #[.slice none 0 0, .slice none 0 0] 27)
  have F4 := F3.below e4
  have hS := hS.below e4
  have P1 := (e4.block n1 (lt_heap P1)).trans P1
  obtain ⟨u4, hu4⟩ : ∃ u, w4.alloc (.cells #[.slice none 0 0, .slice none 0 0] 27) = u := ⟨_, rfl⟩
  rw [hu4] at F4 hS P1 ⊢
  clear hu4 hb4 e4
  go_upto_region 6 with (go_at_call 5; ((with_reducible refine (p_bad sl5 _ 5 _ _ rfl (by decide) (by decide) (sr5 _)).mono ?_); rintro e w5 ⟨rfl, hb5⟩))
  have e5 := below_two (C := .cells #[.int .u8 120, .int .u8 32, .int .u8 61, .int .u8 32, .int .u8 49] 5 (5, 6)) hb5 (.cells #[.slice none 0 0, .slice none 0 0] 27)
  have F5 := F4.below e5
  have hS := hS.below e5
  have P1 := (e5.block n1 (lt_heap P1)).trans P1
  obtain ⟨u5, hu5⟩ : ∃ u, w5.alloc (.cells #[.slice none 0 0, .slice none 0 0] 27) = u := ⟨_, rfl⟩
  rw [hu5] at F5 hS P1 ⊢
  clear hu5 hb5 e5
  have F5 := F5
  obtain ⟨_, f2, b3, l0, l1, l2, l3, e0, e4, m0, m1, m2, m3, m4, m5, m6, m7, m8, m9, m10, m11, c0, c3, x0, d4⟩ := id hS
  have p0 := box_cell P1 0
  have p1 := box_cell P1 1
  simp only [List.getElem?_toArray, List.getElem?_cons_succ, List.getElem?_cons_zero] at p0 p1
  go_upto_region 9 with fail
  have e6 : Below u5.heap.size u5 (u5.alloc (.cells #[.int .i64 9, .int .i64 0, .string (baT []), .slice (some ⟨be, e, none⟩) 2 ke] 36)) := (Below.refl _ _).alloc (Nat.le_refl _) _
  have F5 := F5.below e6
  have hS := hS.below e6
  have P1 := (e6.block n1 (lt_heap P1)).trans P1
  have Bn6 := heap_alloc_new u5 (.cells #[.int .i64 9, .int .i64 0, .string (baT []), .slice (some ⟨be, e, none⟩) 2 ke] 36)
  obtain ⟨n6, hn6⟩ : ∃ n, u5.heap.size = n := ⟨_, rfl⟩
  rw [hn6] at Bn6 ⊢
  obtain ⟨u6, hu⟩ : ∃ u, u5.alloc (.cells #[.int .i64 9, .int .i64 0, .string (baT []), .slice (some ⟨be, e, none⟩) 2 ke] 36) = u := ⟨_, rfl⟩
  rw [hu] at F5 hS P1 Bn6  ⊢
  clear hu e6 f2 b3 l0 l1 l2 l3 e0 e4 m0 m1 m2 m3 m4 m5 m6 m7 m8 m9 m10 m11 c0 c3 x0 d4 p0 p1
  obtain ⟨_, f2, b3, l0, l1, l2, l3, e0, e4, m0, m1, m2, m3, m4, m5, m6, m7, m8, m9, m10, m11, c0, c3, x0, d4⟩ := id hS
  have p0 := box_cell P1 0
  have p1 := box_cell P1 1
  simp only [List.getElem?_toArray, List.getElem?_cons_succ, List.getElem?_cons_zero] at p0 p1
  go_upto_region 10 with fail
  have e6 : Below u6.heap.size u6 (u6.alloc (.cells #[.int .i64 7, .string (baT []), .int .i64 0, .slice (some ⟨bc, c, none⟩) 1 kc, .slice (some ⟨bs, s, none⟩) 1 ks, .slice Ay 0 ky] 38)) := (Below.refl _ _).alloc (Nat.le_refl _) _
  have F5 := F5.below e6
  have hS := hS.below e6
  have P1 := (e6.block n1 (lt_heap P1)).trans P1
  have Bn6 := (e6.block _ (lt_heap Bn6)).trans Bn6
  have Bn7 := heap_alloc_new u6 (.cells #[.int .i64 7, .string (baT []), .int .i64 0, .slice (some ⟨bc, c, none⟩) 1 kc, .slice (some ⟨bs, s, none⟩) 1 ks, .slice Ay 0 ky] 38)
  obtain ⟨n7, hn7⟩ : ∃ n, u6.heap.size = n := ⟨_, rfl⟩
  rw [hn7] at Bn7 ⊢
  obtain ⟨u7, hu⟩ : ∃ u, u6.alloc (.cells #[.int .i64 7, .string (baT []), .int .i64 0, .slice (some ⟨bc, c, none⟩) 1 kc, .slice (some ⟨bs, s, none⟩) 1 ks, .slice Ay 0 ky] 38) = u := ⟨_, rfl⟩
  rw [hu] at F5 hS P1 Bn7 Bn6 ⊢
  clear hu e6 f2 b3 l0 l1 l2 l3 e0 e4 m0 m1 m2 m3 m4 m5 m6 m7 m8 m9 m10 m11 c0 c3 x0 d4 p0 p1
  obtain ⟨_, f2, b3, l0, l1, l2, l3, e0, e4, m0, m1, m2, m3, m4, m5, m6, m7, m8, m9, m10, m11, c0, c3, x0, d4⟩ := id hS
  have p0 := box_cell P1 0
  have p1 := box_cell P1 1
  simp only [List.getElem?_toArray, List.getElem?_cons_succ, List.getElem?_cons_zero] at p0 p1
  go_upto_region 11 with fail
  have e6 : Below u7.heap.size u7 (u7.alloc (.cells #[.int .i64 2, .string (baT [122]), .int .i64 0, .slice (some ⟨bd, d, none⟩) 2 kd, .slice A7 0 k7, .slice A8 0 k8] 38)) := (Below.refl _ _).alloc (Nat.le_refl _) _
  have F5 := F5.below e6
  have hS := hS.below e6
  have P1 := (e6.block n1 (lt_heap P1)).trans P1
  have Bn6 := (e6.block _ (lt_heap Bn6)).trans Bn6
  have Bn7 := (e6.block _ (lt_heap Bn7)).trans Bn7
  have Bn8 := heap_alloc_new u7 (.cells #[.int .i64 2, .string (baT [122]), .int .i64 0, .slice (some ⟨bd, d, none⟩) 2 kd, .slice A7 0 k7, .slice A8 0 k8] 38)
  obtain ⟨n8, hn8⟩ : ∃ n, u7.heap.size = n := ⟨_, rfl⟩
  rw [hn8] at Bn8 ⊢
  obtain ⟨u8, hu⟩ : ∃ u, u7.alloc (.cells #[.int .i64 2, .string (baT [122]), .int .i64 0, .slice (some ⟨bd, d, none⟩) 2 kd, .slice A7 0 k7, .slice A8 0 k8] 38) = u := ⟨_, rfl⟩
  rw [hu] at F5 hS P1 Bn8 Bn6 Bn7 ⊢
  clear hu e6 f2 b3 l0 l1 l2 l3 e0 e4 m0 m1 m2 m3 m4 m5 m6 m7 m8 m9 m10 m11 c0 c3 x0 d4 p0 p1
  obtain ⟨_, f2, b3, l0, l1, l2, l3, e0, e4, m0, m1, m2, m3, m4, m5, m6, m7, m8, m9, m10, m11, c0, c3, x0, d4⟩ := id hS
  have p0 := box_cell P1 0
  have p1 := box_cell P1 1
  simp only [List.getElem?_toArray, List.getElem?_cons_succ, List.getElem?_cons_zero] at p0 p1
  have Bn60 := box_cell Bn6 0
  have Bn61 := box_cell Bn6 1
  have Bn62 := box_cell Bn6 2
  have Bn63 := box_cell Bn6 3
  simp only [List.getElem?_toArray, List.getElem?_cons_succ, List.getElem?_cons_zero] at Bn60 Bn61 Bn62 Bn63
  have Bn70 := box_cell Bn7 0
  have Bn71 := box_cell Bn7 1
  have Bn72 := box_cell Bn7 2
  have Bn73 := box_cell Bn7 3
  have Bn74 := box_cell Bn7 4
  have Bn75 := box_cell Bn7 5
  simp only [List.getElem?_toArray, List.getElem?_cons_succ, List.getElem?_cons_zero] at Bn70 Bn71 Bn72 Bn73 Bn74 Bn75
  have Bn80 := box_cell Bn8 0
  have Bn81 := box_cell Bn8 1
  have Bn82 := box_cell Bn8 2
  have Bn83 := box_cell Bn8 3
  have Bn84 := box_cell Bn8 4
  have Bn85 := box_cell Bn8 5
  simp only [List.getElem?_toArray, List.getElem?_cons_succ, List.getElem?_cons_zero] at Bn80 Bn81 Bn82 Bn83 Bn84 Bn85
  go_wp2
  go_ret
  exact ⟨rfl, F5⟩

end Go.Proofs.YtmpdnikabkandaaDoor

/-
  What an op has: the tables; has, named, fits.
-/
namespace Go.Proofs.YtmpdnikabkandaaDoor
open Go Go.RowKit Go.Lib

/-- What an op has. -/
structure Sh where
  name : Bool
  low : Int
  high : Int
  least : Int
  most : Int
  body : Bool
  other : Bool
def Sh.cells (s : Sh) : List Value := [.bool s.name, .int .i64 s.low, .int .i64 s.high, .int .i64 s.least, .int .i64 s.most, .bool s.body, .bool s.other]

def exprT : List Sh :=
  [⟨false, 0, 0, 0, 0, false, false⟩, ⟨false, 0, 9223372036854775807, 0, 0, false, false⟩, ⟨true, 0, 0, 0, 0, false, false⟩, ⟨false, 0, 0, 0, 0, false, false⟩, ⟨true, 0, 0, 1, 1, false, false⟩, ⟨true, 0, 0, 0, 8, false, false⟩,
   ⟨false, 0, 0, 1, 1, false, false⟩, ⟨false, 0, 0, 1, 1, false, false⟩, ⟨false, 0, 0, 2, 2, false, false⟩, ⟨false, 0, 0, 2, 2, false, false⟩, ⟨false, 0, 0, 2, 2, false, false⟩, ⟨false, 0, 0, 2, 2, false, false⟩,
   ⟨false, 0, 0, 2, 2, false, false⟩, ⟨false, 0, 0, 2, 2, false, false⟩, ⟨false, 0, 0, 2, 2, false, false⟩, ⟨false, 0, 0, 2, 2, false, false⟩, ⟨false, 0, 0, 2, 2, false, false⟩]
def stmtT : List Sh :=
  [⟨false, 0, 0, 0, 0, false, false⟩, ⟨true, 0, 0, 1, 1, false, false⟩, ⟨true, 0, 0, 2, 2, false, false⟩, ⟨true, 1, 4096, 0, 0, false, false⟩, ⟨true, 0, 0, 0, 0, false, false⟩, ⟨false, 0, 0, 1, 1, false, false⟩,
   ⟨false, 0, 0, 1, 1, false, false⟩, ⟨false, 0, 0, 1, 1, true, true⟩, ⟨false, 0, 0, 1, 1, true, false⟩, ⟨false, 0, 0, 1, 1, false, false⟩]
def sh0 : Sh := ⟨false, 0, 0, 0, 0, false, false⟩

/-- A table lies at a block: seven cells a row. -/
def TabAt (w : World) (g : Nat) (t : List Sh) : Prop :=
  ∀ k, k < t.length → w.cell? ⟨g, k * 7, none⟩ = some (.bool (t.getD k sh0).name) ∧ w.cell? ⟨g, k * 7 + 1, none⟩ = some (.int .i64 (t.getD k sh0).low) ∧ w.cell? ⟨g, k * 7 + 2, none⟩ = some (.int .i64 (t.getD k sh0).high) ∧
    w.cell? ⟨g, k * 7 + 3, none⟩ = some (.int .i64 (t.getD k sh0).least) ∧ w.cell? ⟨g, k * 7 + 4, none⟩ = some (.int .i64 (t.getD k sh0).most) ∧ w.cell? ⟨g, k * 7 + 5, none⟩ = some (.bool (t.getD k sh0).body) ∧ w.cell? ⟨g, k * 7 + 6, none⟩ = some (.bool (t.getD k sh0).other)
/-- The two tables, and where they lie. -/
def Tab (w : World) : Prop := 2 ≤ w.heap.size ∧ TabAt w 0 stmtT ∧ TabAt w 1 exprT
theorem TabAt.below {B : Nat} {w w' : World} {g : Nat} {t : List Sh} (h : TabAt w g t) (hb : Below B w w') (hg : g < B) : TabAt w' g t := fun k hk => by
  obtain ⟨h0, h1, h2, h3, h4, h5, h6⟩ := h k hk
  exact ⟨(hb.cell (p := ⟨g, k * 7, none⟩) hg).trans h0, (hb.cell (p := ⟨g, k * 7 + 1, none⟩) hg).trans h1, (hb.cell (p := ⟨g, k * 7 + 2, none⟩) hg).trans h2, (hb.cell (p := ⟨g, k * 7 + 3, none⟩) hg).trans h3,
    (hb.cell (p := ⟨g, k * 7 + 4, none⟩) hg).trans h4, (hb.cell (p := ⟨g, k * 7 + 5, none⟩) hg).trans h5, (hb.cell (p := ⟨g, k * 7 + 6, none⟩) hg).trans h6⟩
theorem Tab.below {B : Nat} {w w' : World} (h : Tab w) (hb : Below B w w') (hB : 2 ≤ B) : Tab w' := ⟨Nat.le_trans h.1 hb.size, h.2.1.below hb (by omega), h.2.2.below hb (by omega)⟩

/-- What a part's op has. -/
def shOf (st : Bool) (op : Int) : Option Sh :=
  if st = true then (if 1 ≤ op ∧ op ≤ 9 then some (stmtT.getD op.toNat sh0) else none) else (if 1 ≤ op ∧ op ≤ 16 then some (exprT.getD op.toNat sh0) else none)

def Sh.val (s : Sh) : Value := .agg #[.bool s.name, .int .i64 s.low, .int .i64 s.high, .int .i64 s.least, .int .i64 s.most, .bool s.body, .bool s.other]

set_option maxHeartbeats 2000000 in
theorem has_stmt (k : Nat) (s : ByteArray) (n : Int) (A3 A4 A5 : Option Addr) (k3 k4 k5 cap3 cap4 cap5 : Nat) (w : World) (ht : Tab w) (h1 : 1 ≤ k) (h9 : k ≤ 9) (sh : Sh) (hsh : stmtT.getD k sh0 = sh) :
    Calls Tryd.prog 51 #[.agg #[.bool true, .int .i64 k, .string s, .int .i64 n, .slice A3 k3 cap3, .slice A4 k4 cap4, .slice A5 k5 cap5]] w fun e w' =>
      e = .returned (.tuple #[sh.val, .bool true]) ∧ Below w.heap.size w w' := by
  obtain ⟨c0, c1, c2, c3, c4, c5, c6⟩ := ht.2.1 k (by simp [stmtT]; omega)
  rw [hsh] at c0 c1 c2 c3 c4 c5 c6
  clear hsh
  have hw0 : 0 < w.heap.size := by have := ht.1; omega
  have hw1 : 1 < w.heap.size := by have := ht.1; omega
  clear ht
  have hi1 : decide ((1 : Int) ≤ (k : Int)) = true := by simp; omega
  have hi2 : decide ((k : Int) ≤ 9) = true := by simp; omega
  go_enter Tryd.func51, Tryd.ntmps51
  go_wp2
  refine bodyPost_ret (v := .tuple #[sh.val, .bool true]) (by simp [results, Tryd.results51, go_sem, Sh.val]) rfl ⟨rfl, ?_⟩
  exact ((Below.refl _ _).alloc (Nat.le_refl _) _).alloc (by simp) _

set_option maxHeartbeats 2000000 in
theorem has_expr (k : Nat) (s : ByteArray) (n : Int) (A3 A4 A5 : Option Addr) (k3 k4 k5 cap3 cap4 cap5 : Nat) (w : World) (ht : Tab w) (h1 : 1 ≤ k) (h9 : k ≤ 16) (sh : Sh) (hsh : exprT.getD k sh0 = sh) :
    Calls Tryd.prog 51 #[.agg #[.bool false, .int .i64 k, .string s, .int .i64 n, .slice A3 k3 cap3, .slice A4 k4 cap4, .slice A5 k5 cap5]] w fun e w' =>
      e = .returned (.tuple #[sh.val, .bool true]) ∧ Below w.heap.size w w' := by
  obtain ⟨c0, c1, c2, c3, c4, c5, c6⟩ := ht.2.2 k (by simp [exprT]; omega)
  rw [hsh] at c0 c1 c2 c3 c4 c5 c6
  clear hsh
  have hw0 : 0 < w.heap.size := by have := ht.1; omega
  have hw1 : 1 < w.heap.size := by have := ht.1; omega
  clear ht
  have hi1 : decide ((1 : Int) ≤ (k : Int)) = true := by simp; omega
  have hi2 : decide ((k : Int) ≤ 16) = true := by simp; omega
  go_enter Tryd.func51, Tryd.ntmps51
  go_wp2
  refine bodyPost_ret (v := .tuple #[sh.val, .bool true]) (by simp [results, Tryd.results51, go_sem, Sh.val]) rfl ⟨rfl, ?_⟩
  exact ((Below.refl _ _).alloc (Nat.le_refl _) _).alloc (by simp) _

set_option maxHeartbeats 2000000 in
theorem has_none (st : Bool) (op : Int) (s : ByteArray) (n : Int) (A3 A4 A5 : Option Addr) (k3 k4 k5 cap3 cap4 cap5 : Nat) (w : World) (hn : shOf st op = none) :
    Calls Tryd.prog 51 #[.agg #[.bool st, .int .i64 op, .string s, .int .i64 n, .slice A3 k3 cap3, .slice A4 k4 cap4, .slice A5 k5 cap5]] w fun e w' =>
      e = .returned (.tuple #[sh0.val, .bool false]) ∧ Below w.heap.size w w' := by
  unfold shOf at hn
  cases st with
  | true =>
    simp at hn
    by_cases h1 : 1 ≤ op
    · have h9 : ¬ op ≤ 9 := by have := hn h1; omega
      clear hn
      go_enter Tryd.func51, Tryd.ntmps51
      go_wp2
      refine bodyPost_ret (v := .tuple #[sh0.val, .bool false]) (by simp [results, Tryd.results51, go_sem, Sh.val, sh0]) rfl ⟨rfl, ?_⟩
      exact ((Below.refl _ _).alloc (Nat.le_refl _) _).alloc (by simp) _
    · clear hn
      go_enter Tryd.func51, Tryd.ntmps51
      go_wp2
      refine bodyPost_ret (v := .tuple #[sh0.val, .bool false]) (by simp [results, Tryd.results51, go_sem, Sh.val, sh0]) rfl ⟨rfl, ?_⟩
      exact ((Below.refl _ _).alloc (Nat.le_refl _) _).alloc (by simp) _
  | false =>
    simp at hn
    by_cases h1 : 1 ≤ op
    · have h9 : ¬ op ≤ 16 := by have := hn h1; omega
      clear hn
      go_enter Tryd.func51, Tryd.ntmps51
      go_wp2
      refine bodyPost_ret (v := .tuple #[sh0.val, .bool false]) (by simp [results, Tryd.results51, go_sem, Sh.val, sh0]) rfl ⟨rfl, ?_⟩
      exact ((Below.refl _ _).alloc (Nat.le_refl _) _).alloc (by simp) _
    · clear hn
      go_enter Tryd.func51, Tryd.ntmps51
      go_wp2
      refine bodyPost_ret (v := .tuple #[sh0.val, .bool false]) (by simp [results, Tryd.results51, go_sem, Sh.val, sh0]) rfl ⟨rfl, ?_⟩
      exact ((Below.refl _ _).alloc (Nat.le_refl _) _).alloc (by simp) _

/-- The one contract of has. -/
theorem has_any (st : Bool) (op : Int) (s : ByteArray) (n : Int) (A3 A4 A5 : Option Addr) (k3 k4 k5 cap3 cap4 cap5 : Nat) (w : World) (ht : Tab w) :
    Calls Tryd.prog 51 #[.agg #[.bool st, .int .i64 op, .string s, .int .i64 n, .slice A3 k3 cap3, .slice A4 k4 cap4, .slice A5 k5 cap5]] w fun e w' =>
      e = .returned (.tuple #[((shOf st op).getD sh0).val, .bool (shOf st op).isSome]) ∧ Below w.heap.size w w' := by
  cases hs : shOf st op with
  | none => exact has_none st op s n A3 A4 A5 k3 k4 k5 cap3 cap4 cap5 w hs
  | some sh =>
    unfold shOf at hs
    cases st with
    | true =>
      simp at hs
      obtain ⟨⟨h1, h9⟩, h⟩ := hs
      obtain ⟨k, rfl⟩ := Int.eq_ofNat_of_zero_le (show 0 ≤ op by omega)
      exact has_stmt k s n A3 A4 A5 k3 k4 k5 cap3 cap4 cap5 w ht (by omega) (by omega) sh (by simpa using h)
    | false =>
      simp at hs
      obtain ⟨⟨h1, h9⟩, h⟩ := hs
      obtain ⟨k, rfl⟩ := Int.eq_ofNat_of_zero_le (show 0 ≤ op by omega)
      exact has_expr k s n A3 A4 A5 k3 k4 k5 cap3 cap4 cap5 w ht (by omega) (by omega) sh (by simpa using h)

/-- Has it a name just if it must? -/
def namedB (b : Bool) (s : ByteArray) : Bool := if b then nameB s else s.toList.isEmpty

set_option maxHeartbeats 1000000 in
theorem named_any (sh : Sh) (s : ByteArray) (w : World) (hs : s.size ≤ 9223372036854775807) :
    Calls Tryd.prog 52 #[.agg #[.bool sh.name, .int .i64 sh.low, .int .i64 sh.high, .int .i64 sh.least, .int .i64 sh.most, .bool sh.body, .bool sh.other], .string s] w fun e w' =>
      e = .returned (.bool (namedB sh.name s)) ∧ Below w.heap.size w w' := by
  unfold namedB
  cases hb : sh.name with
  | true =>
    go_enter Tryd.func52, Tryd.ntmps52
    go_wp2_with (go_at_call 28; ((with_reducible refine (name_any _ _ hs).mono ?_); rintro e w1 ⟨rfl, rfl⟩))
    go_ret
    exact ⟨rfl, (Below.refl _ _).alloc (Nat.le_refl _) _⟩
  | false =>
    go_enter Tryd.func52, Tryd.ntmps52
    go_wp2
    all_goals
      go_ret
      exact ⟨rfl, (Below.refl _ _).alloc (Nat.le_refl _) _⟩

/-- Has a part what its op has, and nothing else? -/
def fitB (ok : Bool) (sh : Sh) (s : ByteArray) (n : Int) (k3 k4 k5 : Nat) : Bool :=
  ok && namedB sh.name s && decide (sh.low ≤ n) && decide (n ≤ sh.high) && decide (sh.least ≤ (k3 : Int)) && decide ((k3 : Int) ≤ sh.most) && (sh.body || decide (k4 = 0)) && (sh.other || decide (k5 = 0))

theorem int_zero (k : Nat) : ((k : Int) == 0) = decide (k = 0) := by rw [Bool.eq_iff_iff]; simp

end Go.Proofs.YtmpdnikabkandaaDoor

/-
  (part).fits, way by way (part 1 of 6).
-/
namespace Go.Proofs.YtmpdnikabkandaaDoor
open Go Go.RowKit Go.Lib

set_option maxRecDepth 100000 in
set_option maxHeartbeats 4000000 in
theorem fits_w5 (st : Bool) (op : Int) (s : ByteArray) (n : Int) (A3 A4 A5 : Option Addr) (k3 k4 k5 cap3 cap4 cap5 : Nat) (w : World) (ht : Tab w) (hs : s.size ≤ 9223372036854775807) (_h3 : k3 ≤ 9223372036854775807) (_h4 : k4 ≤ 9223372036854775807) (_h5 : k5 ≤ 9223372036854775807)
    (ok : Bool) (sh : Sh) (hok : (shOf st op).isSome = ok) (hsh : (shOf st op).getD sh0 = sh) (g0 : ok = true) (g1 : namedB sh.name s = true) (g2 : decide (sh.low ≤ n) = true) (g3 : decide (n ≤ sh.high) = true) (g4 : decide (sh.least ≤ (k3 : Int)) = true) (g5 : decide ((k3 : Int) ≤ sh.most) = false) :
    Calls Tryd.prog 30 #[.agg #[.bool st, .int .i64 op, .string s, .int .i64 n, .slice A3 k3 cap3, .slice A4 k4 cap4, .slice A5 k5 cap5]] w fun e w' =>
      e = .returned (.bool (false)) ∧ Below w.heap.size w w' := by
  obtain ⟨nm, lo, hg, le, mo, bo, ot⟩ := sh
  try simp only at *
  subst g0
  have H := fun W (h : Tab W) => has_any st op s n A3 A4 A5 k3 k4 k5 cap3 cap4 cap5 W h
  rw [hok, hsh] at H
  simp only [Sh.val] at H
  clear hok hsh
  have ht2 : ∀ o, Tab (w.alloc o) := fun o => ht.below ((Below.refl _ w).alloc (Nat.le_refl _) o) ht.1
  have HN := fun W => named_any ⟨nm, lo, hg, le, mo, bo, ot⟩ s W hs
  simp only at HN
  clear ht hs
  have HT := Lib.hid ht2
  clear ht2
  go_enter Tryd.func30, Tryd.ntmps30
  go_wp2_with (first
    | (go_at_call 51; ((with_reducible refine (H _ (HT.out _)).mono ?_); rintro e w1 ⟨rfl, hb1⟩; obtain ⟨hc1, hf1⟩ := bcell hb1; simp only [World.size_alloc] at hc1 hf1; have hz1 : w.heap.size < w1.heap.size := (by have := hb1.size; simp at this; omega); have hz2 : w.heap.size < w1.heap.size + 1 := (by omega)))
    | (go_at_call 52; ((with_reducible refine (HN _).mono ?_); rintro e w2 ⟨rfl, hb2⟩; obtain ⟨hc2, hf2⟩ := bcell hb2; simp only [World.size_alloc] at hc2 hf2)))
  all_goals
    go_ret
    refine ⟨ret_bool (by first | rfl | exact int_zero _), ?_⟩
    have hq := ((Below.refl w.heap.size w).alloc (Nat.le_refl _) _).trans (hb1.mono (by simp))
    first | exact hq.alloc (Nat.le_of_lt hz1) _ | exact (hq.alloc (Nat.le_of_lt hz1) _).trans (hb2.mono (by simp; omega))

set_option maxRecDepth 100000 in
set_option maxHeartbeats 4000000 in
theorem fits_w6 (st : Bool) (op : Int) (s : ByteArray) (n : Int) (A3 A4 A5 : Option Addr) (k3 k4 k5 cap3 cap4 cap5 : Nat) (w : World) (ht : Tab w) (hs : s.size ≤ 9223372036854775807) (_h3 : k3 ≤ 9223372036854775807) (_h4 : k4 ≤ 9223372036854775807) (_h5 : k5 ≤ 9223372036854775807)
    (ok : Bool) (sh : Sh) (hok : (shOf st op).isSome = ok) (hsh : (shOf st op).getD sh0 = sh) (g0 : ok = true) (g1 : namedB sh.name s = true) (g2 : decide (sh.low ≤ n) = true) (g3 : decide (n ≤ sh.high) = true) (g4 : decide (sh.least ≤ (k3 : Int)) = true) (g5 : decide ((k3 : Int) ≤ sh.most) = true) (g6 : sh.body = false) (g7 : ¬ k4 = 0) :
    Calls Tryd.prog 30 #[.agg #[.bool st, .int .i64 op, .string s, .int .i64 n, .slice A3 k3 cap3, .slice A4 k4 cap4, .slice A5 k5 cap5]] w fun e w' =>
      e = .returned (.bool (false)) ∧ Below w.heap.size w w' := by
  obtain ⟨nm, lo, hg, le, mo, bo, ot⟩ := sh
  try simp only at *
  subst g0
  subst g6
  have H := fun W (h : Tab W) => has_any st op s n A3 A4 A5 k3 k4 k5 cap3 cap4 cap5 W h
  rw [hok, hsh] at H
  simp only [Sh.val] at H
  clear hok hsh
  have ht2 : ∀ o, Tab (w.alloc o) := fun o => ht.below ((Below.refl _ w).alloc (Nat.le_refl _) o) ht.1
  have HN := fun W => named_any ⟨nm, lo, hg, le, mo, false, ot⟩ s W hs
  simp only at HN
  clear ht hs
  have HT := Lib.hid ht2
  clear ht2
  go_enter Tryd.func30, Tryd.ntmps30
  go_wp2_with (first
    | (go_at_call 51; ((with_reducible refine (H _ (HT.out _)).mono ?_); rintro e w1 ⟨rfl, hb1⟩; obtain ⟨hc1, hf1⟩ := bcell hb1; simp only [World.size_alloc] at hc1 hf1; have hz1 : w.heap.size < w1.heap.size := (by have := hb1.size; simp at this; omega); have hz2 : w.heap.size < w1.heap.size + 1 := (by omega)))
    | (go_at_call 52; ((with_reducible refine (HN _).mono ?_); rintro e w2 ⟨rfl, hb2⟩; obtain ⟨hc2, hf2⟩ := bcell hb2; simp only [World.size_alloc] at hc2 hf2)))
  all_goals
    go_ret
    refine ⟨ret_bool (by first | rfl | exact int_zero _), ?_⟩
    have hq := ((Below.refl w.heap.size w).alloc (Nat.le_refl _) _).trans (hb1.mono (by simp))
    first | exact hq.alloc (Nat.le_of_lt hz1) _ | exact (hq.alloc (Nat.le_of_lt hz1) _).trans (hb2.mono (by simp; omega))

end Go.Proofs.YtmpdnikabkandaaDoor

/-
  (part).fits, way by way (part 2 of 6).
-/
namespace Go.Proofs.YtmpdnikabkandaaDoor
open Go Go.RowKit Go.Lib

set_option maxRecDepth 100000 in
set_option maxHeartbeats 4000000 in
theorem fits_w7 (st : Bool) (op : Int) (s : ByteArray) (n : Int) (A3 A4 A5 : Option Addr) (k3 k4 k5 cap3 cap4 cap5 : Nat) (w : World) (ht : Tab w) (hs : s.size ≤ 9223372036854775807) (_h3 : k3 ≤ 9223372036854775807) (_h4 : k4 ≤ 9223372036854775807) (_h5 : k5 ≤ 9223372036854775807)
    (ok : Bool) (sh : Sh) (hok : (shOf st op).isSome = ok) (hsh : (shOf st op).getD sh0 = sh) (g0 : ok = true) (g1 : namedB sh.name s = true) (g2 : decide (sh.low ≤ n) = true) (g3 : decide (n ≤ sh.high) = true) (g4 : decide (sh.least ≤ (k3 : Int)) = true) (g5 : decide ((k3 : Int) ≤ sh.most) = true) (g6 : sh.body = true) (g7 : sh.other = true) :
    Calls Tryd.prog 30 #[.agg #[.bool st, .int .i64 op, .string s, .int .i64 n, .slice A3 k3 cap3, .slice A4 k4 cap4, .slice A5 k5 cap5]] w fun e w' =>
      e = .returned (.bool (true)) ∧ Below w.heap.size w w' := by
  obtain ⟨nm, lo, hg, le, mo, bo, ot⟩ := sh
  try simp only at *
  subst g0
  subst g6
  subst g7
  have H := fun W (h : Tab W) => has_any st op s n A3 A4 A5 k3 k4 k5 cap3 cap4 cap5 W h
  rw [hok, hsh] at H
  simp only [Sh.val] at H
  clear hok hsh
  have ht2 : ∀ o, Tab (w.alloc o) := fun o => ht.below ((Below.refl _ w).alloc (Nat.le_refl _) o) ht.1
  have HN := fun W => named_any ⟨nm, lo, hg, le, mo, true, true⟩ s W hs
  simp only at HN
  clear ht hs
  have HT := Lib.hid ht2
  clear ht2
  go_enter Tryd.func30, Tryd.ntmps30
  go_wp2_with (first
    | (go_at_call 51; ((with_reducible refine (H _ (HT.out _)).mono ?_); rintro e w1 ⟨rfl, hb1⟩; obtain ⟨hc1, hf1⟩ := bcell hb1; simp only [World.size_alloc] at hc1 hf1; have hz1 : w.heap.size < w1.heap.size := (by have := hb1.size; simp at this; omega); have hz2 : w.heap.size < w1.heap.size + 1 := (by omega)))
    | (go_at_call 52; ((with_reducible refine (HN _).mono ?_); rintro e w2 ⟨rfl, hb2⟩; obtain ⟨hc2, hf2⟩ := bcell hb2; simp only [World.size_alloc] at hc2 hf2)))
  all_goals
    go_ret
    refine ⟨ret_bool (by first | rfl | exact int_zero _), ?_⟩
    have hq := ((Below.refl w.heap.size w).alloc (Nat.le_refl _) _).trans (hb1.mono (by simp))
    first | exact hq.alloc (Nat.le_of_lt hz1) _ | exact (hq.alloc (Nat.le_of_lt hz1) _).trans (hb2.mono (by simp; omega))

set_option maxRecDepth 100000 in
set_option maxHeartbeats 4000000 in
theorem fits_w8 (st : Bool) (op : Int) (s : ByteArray) (n : Int) (A3 A4 A5 : Option Addr) (k3 k4 k5 cap3 cap4 cap5 : Nat) (w : World) (ht : Tab w) (hs : s.size ≤ 9223372036854775807) (_h3 : k3 ≤ 9223372036854775807) (_h4 : k4 ≤ 9223372036854775807) (_h5 : k5 ≤ 9223372036854775807)
    (ok : Bool) (sh : Sh) (hok : (shOf st op).isSome = ok) (hsh : (shOf st op).getD sh0 = sh) (g0 : ok = true) (g1 : namedB sh.name s = true) (g2 : decide (sh.low ≤ n) = true) (g3 : decide (n ≤ sh.high) = true) (g4 : decide (sh.least ≤ (k3 : Int)) = true) (g5 : decide ((k3 : Int) ≤ sh.most) = true) (g6 : sh.body = true) (g7 : sh.other = false) :
    Calls Tryd.prog 30 #[.agg #[.bool st, .int .i64 op, .string s, .int .i64 n, .slice A3 k3 cap3, .slice A4 k4 cap4, .slice A5 k5 cap5]] w fun e w' =>
      e = .returned (.bool (decide (k5 = 0))) ∧ Below w.heap.size w w' := by
  obtain ⟨nm, lo, hg, le, mo, bo, ot⟩ := sh
  try simp only at *
  subst g0
  subst g6
  subst g7
  have H := fun W (h : Tab W) => has_any st op s n A3 A4 A5 k3 k4 k5 cap3 cap4 cap5 W h
  rw [hok, hsh] at H
  simp only [Sh.val] at H
  clear hok hsh
  have ht2 : ∀ o, Tab (w.alloc o) := fun o => ht.below ((Below.refl _ w).alloc (Nat.le_refl _) o) ht.1
  have HN := fun W => named_any ⟨nm, lo, hg, le, mo, true, false⟩ s W hs
  simp only at HN
  clear ht hs
  have HT := Lib.hid ht2
  clear ht2
  go_enter Tryd.func30, Tryd.ntmps30
  go_wp2_with (first
    | (go_at_call 51; ((with_reducible refine (H _ (HT.out _)).mono ?_); rintro e w1 ⟨rfl, hb1⟩; obtain ⟨hc1, hf1⟩ := bcell hb1; simp only [World.size_alloc] at hc1 hf1; have hz1 : w.heap.size < w1.heap.size := (by have := hb1.size; simp at this; omega); have hz2 : w.heap.size < w1.heap.size + 1 := (by omega)))
    | (go_at_call 52; ((with_reducible refine (HN _).mono ?_); rintro e w2 ⟨rfl, hb2⟩; obtain ⟨hc2, hf2⟩ := bcell hb2; simp only [World.size_alloc] at hc2 hf2)))
  all_goals
    go_ret
    refine ⟨ret_bool (by first | rfl | exact int_zero _), ?_⟩
    have hq := ((Below.refl w.heap.size w).alloc (Nat.le_refl _) _).trans (hb1.mono (by simp))
    first | exact hq.alloc (Nat.le_of_lt hz1) _ | exact (hq.alloc (Nat.le_of_lt hz1) _).trans (hb2.mono (by simp; omega))

end Go.Proofs.YtmpdnikabkandaaDoor

/-
  (part).fits, way by way (part 3 of 6).
-/
namespace Go.Proofs.YtmpdnikabkandaaDoor
open Go Go.RowKit Go.Lib

set_option maxRecDepth 100000 in
set_option maxHeartbeats 4000000 in
theorem fits_w9 (st : Bool) (op : Int) (s : ByteArray) (n : Int) (A3 A4 A5 : Option Addr) (k3 k4 k5 cap3 cap4 cap5 : Nat) (w : World) (ht : Tab w) (hs : s.size ≤ 9223372036854775807) (_h3 : k3 ≤ 9223372036854775807) (_h4 : k4 ≤ 9223372036854775807) (_h5 : k5 ≤ 9223372036854775807)
    (ok : Bool) (sh : Sh) (hok : (shOf st op).isSome = ok) (hsh : (shOf st op).getD sh0 = sh) (g0 : ok = true) (g1 : namedB sh.name s = true) (g2 : decide (sh.low ≤ n) = true) (g3 : decide (n ≤ sh.high) = true) (g4 : decide (sh.least ≤ (k3 : Int)) = true) (g5 : decide ((k3 : Int) ≤ sh.most) = true) (g6 : sh.body = false) (g7 : k4 = 0) (g8 : sh.other = true) :
    Calls Tryd.prog 30 #[.agg #[.bool st, .int .i64 op, .string s, .int .i64 n, .slice A3 k3 cap3, .slice A4 k4 cap4, .slice A5 k5 cap5]] w fun e w' =>
      e = .returned (.bool (true)) ∧ Below w.heap.size w w' := by
  obtain ⟨nm, lo, hg, le, mo, bo, ot⟩ := sh
  try simp only at *
  subst g0
  subst g6
  subst g7
  subst g8
  have H := fun W (h : Tab W) => has_any st op s n A3 A4 A5 k3 0 k5 cap3 cap4 cap5 W h
  rw [hok, hsh] at H
  simp only [Sh.val] at H
  clear hok hsh
  have ht2 : ∀ o, Tab (w.alloc o) := fun o => ht.below ((Below.refl _ w).alloc (Nat.le_refl _) o) ht.1
  have HN := fun W => named_any ⟨nm, lo, hg, le, mo, false, true⟩ s W hs
  simp only at HN
  clear ht hs
  have HT := Lib.hid ht2
  clear ht2
  go_enter Tryd.func30, Tryd.ntmps30
  go_wp2_with (first
    | (go_at_call 51; ((with_reducible refine (H _ (HT.out _)).mono ?_); rintro e w1 ⟨rfl, hb1⟩; obtain ⟨hc1, hf1⟩ := bcell hb1; simp only [World.size_alloc] at hc1 hf1; have hz1 : w.heap.size < w1.heap.size := (by have := hb1.size; simp at this; omega); have hz2 : w.heap.size < w1.heap.size + 1 := (by omega)))
    | (go_at_call 52; ((with_reducible refine (HN _).mono ?_); rintro e w2 ⟨rfl, hb2⟩; obtain ⟨hc2, hf2⟩ := bcell hb2; simp only [World.size_alloc] at hc2 hf2)))
  all_goals
    go_ret
    refine ⟨ret_bool (by first | rfl | exact int_zero _), ?_⟩
    have hq := ((Below.refl w.heap.size w).alloc (Nat.le_refl _) _).trans (hb1.mono (by simp))
    first | exact hq.alloc (Nat.le_of_lt hz1) _ | exact (hq.alloc (Nat.le_of_lt hz1) _).trans (hb2.mono (by simp; omega))

set_option maxRecDepth 100000 in
set_option maxHeartbeats 4000000 in
theorem fits_wx (st : Bool) (op : Int) (s : ByteArray) (n : Int) (A3 A4 A5 : Option Addr) (k3 k4 k5 cap3 cap4 cap5 : Nat) (w : World) (ht : Tab w) (hs : s.size ≤ 9223372036854775807) (_h3 : k3 ≤ 9223372036854775807) (_h4 : k4 ≤ 9223372036854775807) (_h5 : k5 ≤ 9223372036854775807)
    (ok : Bool) (sh : Sh) (hok : (shOf st op).isSome = ok) (hsh : (shOf st op).getD sh0 = sh) (g0 : ok = true) (g1 : namedB sh.name s = true) (g2 : decide (sh.low ≤ n) = true) (g3 : decide (n ≤ sh.high) = true) (g4 : decide (sh.least ≤ (k3 : Int)) = true) (g5 : decide ((k3 : Int) ≤ sh.most) = true) (g6 : sh.body = false) (g7 : k4 = 0) (g8 : sh.other = false) :
    Calls Tryd.prog 30 #[.agg #[.bool st, .int .i64 op, .string s, .int .i64 n, .slice A3 k3 cap3, .slice A4 k4 cap4, .slice A5 k5 cap5]] w fun e w' =>
      e = .returned (.bool (decide (k5 = 0))) ∧ Below w.heap.size w w' := by
  obtain ⟨nm, lo, hg, le, mo, bo, ot⟩ := sh
  try simp only at *
  subst g0
  subst g6
  subst g7
  subst g8
  have H := fun W (h : Tab W) => has_any st op s n A3 A4 A5 k3 0 k5 cap3 cap4 cap5 W h
  rw [hok, hsh] at H
  simp only [Sh.val] at H
  clear hok hsh
  have ht2 : ∀ o, Tab (w.alloc o) := fun o => ht.below ((Below.refl _ w).alloc (Nat.le_refl _) o) ht.1
  have HN := fun W => named_any ⟨nm, lo, hg, le, mo, false, false⟩ s W hs
  simp only at HN
  clear ht hs
  have HT := Lib.hid ht2
  clear ht2
  go_enter Tryd.func30, Tryd.ntmps30
  go_wp2_with (first
    | (go_at_call 51; ((with_reducible refine (H _ (HT.out _)).mono ?_); rintro e w1 ⟨rfl, hb1⟩; obtain ⟨hc1, hf1⟩ := bcell hb1; simp only [World.size_alloc] at hc1 hf1; have hz1 : w.heap.size < w1.heap.size := (by have := hb1.size; simp at this; omega); have hz2 : w.heap.size < w1.heap.size + 1 := (by omega)))
    | (go_at_call 52; ((with_reducible refine (HN _).mono ?_); rintro e w2 ⟨rfl, hb2⟩; obtain ⟨hc2, hf2⟩ := bcell hb2; simp only [World.size_alloc] at hc2 hf2)))
  all_goals
    go_ret
    refine ⟨ret_bool (by first | rfl | exact int_zero _), ?_⟩
    have hq := ((Below.refl w.heap.size w).alloc (Nat.le_refl _) _).trans (hb1.mono (by simp))
    first | exact hq.alloc (Nat.le_of_lt hz1) _ | exact (hq.alloc (Nat.le_of_lt hz1) _).trans (hb2.mono (by simp; omega))

end Go.Proofs.YtmpdnikabkandaaDoor

/-
  (part).fits, way by way (part 4 of 6).
-/
namespace Go.Proofs.YtmpdnikabkandaaDoor
open Go Go.RowKit Go.Lib

set_option maxRecDepth 100000 in
set_option maxHeartbeats 4000000 in
theorem fits_w0 (st : Bool) (op : Int) (s : ByteArray) (n : Int) (A3 A4 A5 : Option Addr) (k3 k4 k5 cap3 cap4 cap5 : Nat) (w : World) (ht : Tab w) (hs : s.size ≤ 9223372036854775807) (_h3 : k3 ≤ 9223372036854775807) (_h4 : k4 ≤ 9223372036854775807) (_h5 : k5 ≤ 9223372036854775807)
    (ok : Bool) (sh : Sh) (hok : (shOf st op).isSome = ok) (hsh : (shOf st op).getD sh0 = sh) (g0 : ok = false) :
    Calls Tryd.prog 30 #[.agg #[.bool st, .int .i64 op, .string s, .int .i64 n, .slice A3 k3 cap3, .slice A4 k4 cap4, .slice A5 k5 cap5]] w fun e w' =>
      e = .returned (.bool (false)) ∧ Below w.heap.size w w' := by
  obtain ⟨nm, lo, hg, le, mo, bo, ot⟩ := sh
  try simp only at *
  subst g0
  have H := fun W (h : Tab W) => has_any st op s n A3 A4 A5 k3 k4 k5 cap3 cap4 cap5 W h
  rw [hok, hsh] at H
  simp only [Sh.val] at H
  clear hok hsh
  have ht2 : ∀ o, Tab (w.alloc o) := fun o => ht.below ((Below.refl _ w).alloc (Nat.le_refl _) o) ht.1
  have HN := fun W => named_any ⟨nm, lo, hg, le, mo, bo, ot⟩ s W hs
  simp only at HN
  clear ht hs
  have HT := Lib.hid ht2
  clear ht2
  go_enter Tryd.func30, Tryd.ntmps30
  go_wp2_with (first
    | (go_at_call 51; ((with_reducible refine (H _ (HT.out _)).mono ?_); rintro e w1 ⟨rfl, hb1⟩; obtain ⟨hc1, hf1⟩ := bcell hb1; simp only [World.size_alloc] at hc1 hf1; have hz1 : w.heap.size < w1.heap.size := (by have := hb1.size; simp at this; omega); have hz2 : w.heap.size < w1.heap.size + 1 := (by omega)))
    | (go_at_call 52; ((with_reducible refine (HN _).mono ?_); rintro e w2 ⟨rfl, hb2⟩; obtain ⟨hc2, hf2⟩ := bcell hb2; simp only [World.size_alloc] at hc2 hf2)))
  all_goals
    go_ret
    refine ⟨ret_bool (by first | rfl | exact int_zero _), ?_⟩
    have hq := ((Below.refl w.heap.size w).alloc (Nat.le_refl _) _).trans (hb1.mono (by simp))
    first | exact hq.alloc (Nat.le_of_lt hz1) _ | exact (hq.alloc (Nat.le_of_lt hz1) _).trans (hb2.mono (by simp; omega))

end Go.Proofs.YtmpdnikabkandaaDoor

/-
  (part).fits, way by way (part 5 of 6).
-/
namespace Go.Proofs.YtmpdnikabkandaaDoor
open Go Go.RowKit Go.Lib

set_option maxRecDepth 100000 in
set_option maxHeartbeats 4000000 in
theorem fits_w1 (st : Bool) (op : Int) (s : ByteArray) (n : Int) (A3 A4 A5 : Option Addr) (k3 k4 k5 cap3 cap4 cap5 : Nat) (w : World) (ht : Tab w) (hs : s.size ≤ 9223372036854775807) (_h3 : k3 ≤ 9223372036854775807) (_h4 : k4 ≤ 9223372036854775807) (_h5 : k5 ≤ 9223372036854775807)
    (ok : Bool) (sh : Sh) (hok : (shOf st op).isSome = ok) (hsh : (shOf st op).getD sh0 = sh) (g0 : ok = true) (g1 : namedB sh.name s = false) :
    Calls Tryd.prog 30 #[.agg #[.bool st, .int .i64 op, .string s, .int .i64 n, .slice A3 k3 cap3, .slice A4 k4 cap4, .slice A5 k5 cap5]] w fun e w' =>
      e = .returned (.bool (false)) ∧ Below w.heap.size w w' := by
  obtain ⟨nm, lo, hg, le, mo, bo, ot⟩ := sh
  try simp only at *
  subst g0
  have H := fun W (h : Tab W) => has_any st op s n A3 A4 A5 k3 k4 k5 cap3 cap4 cap5 W h
  rw [hok, hsh] at H
  simp only [Sh.val] at H
  clear hok hsh
  have ht2 : ∀ o, Tab (w.alloc o) := fun o => ht.below ((Below.refl _ w).alloc (Nat.le_refl _) o) ht.1
  have HN := fun W => named_any ⟨nm, lo, hg, le, mo, bo, ot⟩ s W hs
  simp only at HN
  clear ht hs
  have HT := Lib.hid ht2
  clear ht2
  go_enter Tryd.func30, Tryd.ntmps30
  go_wp2_with (first
    | (go_at_call 51; ((with_reducible refine (H _ (HT.out _)).mono ?_); rintro e w1 ⟨rfl, hb1⟩; obtain ⟨hc1, hf1⟩ := bcell hb1; simp only [World.size_alloc] at hc1 hf1; have hz1 : w.heap.size < w1.heap.size := (by have := hb1.size; simp at this; omega); have hz2 : w.heap.size < w1.heap.size + 1 := (by omega)))
    | (go_at_call 52; ((with_reducible refine (HN _).mono ?_); rintro e w2 ⟨rfl, hb2⟩; obtain ⟨hc2, hf2⟩ := bcell hb2; simp only [World.size_alloc] at hc2 hf2)))
  all_goals
    go_ret
    refine ⟨ret_bool (by first | rfl | exact int_zero _), ?_⟩
    have hq := ((Below.refl w.heap.size w).alloc (Nat.le_refl _) _).trans (hb1.mono (by simp))
    first | exact hq.alloc (Nat.le_of_lt hz1) _ | exact (hq.alloc (Nat.le_of_lt hz1) _).trans (hb2.mono (by simp; omega))

set_option maxRecDepth 100000 in
set_option maxHeartbeats 4000000 in
theorem fits_w2 (st : Bool) (op : Int) (s : ByteArray) (n : Int) (A3 A4 A5 : Option Addr) (k3 k4 k5 cap3 cap4 cap5 : Nat) (w : World) (ht : Tab w) (hs : s.size ≤ 9223372036854775807) (_h3 : k3 ≤ 9223372036854775807) (_h4 : k4 ≤ 9223372036854775807) (_h5 : k5 ≤ 9223372036854775807)
    (ok : Bool) (sh : Sh) (hok : (shOf st op).isSome = ok) (hsh : (shOf st op).getD sh0 = sh) (g0 : ok = true) (g1 : namedB sh.name s = true) (g2 : decide (sh.low ≤ n) = false) :
    Calls Tryd.prog 30 #[.agg #[.bool st, .int .i64 op, .string s, .int .i64 n, .slice A3 k3 cap3, .slice A4 k4 cap4, .slice A5 k5 cap5]] w fun e w' =>
      e = .returned (.bool (false)) ∧ Below w.heap.size w w' := by
  obtain ⟨nm, lo, hg, le, mo, bo, ot⟩ := sh
  try simp only at *
  subst g0
  have H := fun W (h : Tab W) => has_any st op s n A3 A4 A5 k3 k4 k5 cap3 cap4 cap5 W h
  rw [hok, hsh] at H
  simp only [Sh.val] at H
  clear hok hsh
  have ht2 : ∀ o, Tab (w.alloc o) := fun o => ht.below ((Below.refl _ w).alloc (Nat.le_refl _) o) ht.1
  have HN := fun W => named_any ⟨nm, lo, hg, le, mo, bo, ot⟩ s W hs
  simp only at HN
  clear ht hs
  have HT := Lib.hid ht2
  clear ht2
  go_enter Tryd.func30, Tryd.ntmps30
  go_wp2_with (first
    | (go_at_call 51; ((with_reducible refine (H _ (HT.out _)).mono ?_); rintro e w1 ⟨rfl, hb1⟩; obtain ⟨hc1, hf1⟩ := bcell hb1; simp only [World.size_alloc] at hc1 hf1; have hz1 : w.heap.size < w1.heap.size := (by have := hb1.size; simp at this; omega); have hz2 : w.heap.size < w1.heap.size + 1 := (by omega)))
    | (go_at_call 52; ((with_reducible refine (HN _).mono ?_); rintro e w2 ⟨rfl, hb2⟩; obtain ⟨hc2, hf2⟩ := bcell hb2; simp only [World.size_alloc] at hc2 hf2)))
  all_goals
    go_ret
    refine ⟨ret_bool (by first | rfl | exact int_zero _), ?_⟩
    have hq := ((Below.refl w.heap.size w).alloc (Nat.le_refl _) _).trans (hb1.mono (by simp))
    first | exact hq.alloc (Nat.le_of_lt hz1) _ | exact (hq.alloc (Nat.le_of_lt hz1) _).trans (hb2.mono (by simp; omega))

end Go.Proofs.YtmpdnikabkandaaDoor

/-
  (part).fits, way by way (part 6 of 6).
-/
namespace Go.Proofs.YtmpdnikabkandaaDoor
open Go Go.RowKit Go.Lib

set_option maxRecDepth 100000 in
set_option maxHeartbeats 4000000 in
theorem fits_w3 (st : Bool) (op : Int) (s : ByteArray) (n : Int) (A3 A4 A5 : Option Addr) (k3 k4 k5 cap3 cap4 cap5 : Nat) (w : World) (ht : Tab w) (hs : s.size ≤ 9223372036854775807) (_h3 : k3 ≤ 9223372036854775807) (_h4 : k4 ≤ 9223372036854775807) (_h5 : k5 ≤ 9223372036854775807)
    (ok : Bool) (sh : Sh) (hok : (shOf st op).isSome = ok) (hsh : (shOf st op).getD sh0 = sh) (g0 : ok = true) (g1 : namedB sh.name s = true) (g2 : decide (sh.low ≤ n) = true) (g3 : decide (n ≤ sh.high) = false) :
    Calls Tryd.prog 30 #[.agg #[.bool st, .int .i64 op, .string s, .int .i64 n, .slice A3 k3 cap3, .slice A4 k4 cap4, .slice A5 k5 cap5]] w fun e w' =>
      e = .returned (.bool (false)) ∧ Below w.heap.size w w' := by
  obtain ⟨nm, lo, hg, le, mo, bo, ot⟩ := sh
  try simp only at *
  subst g0
  have H := fun W (h : Tab W) => has_any st op s n A3 A4 A5 k3 k4 k5 cap3 cap4 cap5 W h
  rw [hok, hsh] at H
  simp only [Sh.val] at H
  clear hok hsh
  have ht2 : ∀ o, Tab (w.alloc o) := fun o => ht.below ((Below.refl _ w).alloc (Nat.le_refl _) o) ht.1
  have HN := fun W => named_any ⟨nm, lo, hg, le, mo, bo, ot⟩ s W hs
  simp only at HN
  clear ht hs
  have HT := Lib.hid ht2
  clear ht2
  go_enter Tryd.func30, Tryd.ntmps30
  go_wp2_with (first
    | (go_at_call 51; ((with_reducible refine (H _ (HT.out _)).mono ?_); rintro e w1 ⟨rfl, hb1⟩; obtain ⟨hc1, hf1⟩ := bcell hb1; simp only [World.size_alloc] at hc1 hf1; have hz1 : w.heap.size < w1.heap.size := (by have := hb1.size; simp at this; omega); have hz2 : w.heap.size < w1.heap.size + 1 := (by omega)))
    | (go_at_call 52; ((with_reducible refine (HN _).mono ?_); rintro e w2 ⟨rfl, hb2⟩; obtain ⟨hc2, hf2⟩ := bcell hb2; simp only [World.size_alloc] at hc2 hf2)))
  all_goals
    go_ret
    refine ⟨ret_bool (by first | rfl | exact int_zero _), ?_⟩
    have hq := ((Below.refl w.heap.size w).alloc (Nat.le_refl _) _).trans (hb1.mono (by simp))
    first | exact hq.alloc (Nat.le_of_lt hz1) _ | exact (hq.alloc (Nat.le_of_lt hz1) _).trans (hb2.mono (by simp; omega))

set_option maxRecDepth 100000 in
set_option maxHeartbeats 4000000 in
theorem fits_w4 (st : Bool) (op : Int) (s : ByteArray) (n : Int) (A3 A4 A5 : Option Addr) (k3 k4 k5 cap3 cap4 cap5 : Nat) (w : World) (ht : Tab w) (hs : s.size ≤ 9223372036854775807) (_h3 : k3 ≤ 9223372036854775807) (_h4 : k4 ≤ 9223372036854775807) (_h5 : k5 ≤ 9223372036854775807)
    (ok : Bool) (sh : Sh) (hok : (shOf st op).isSome = ok) (hsh : (shOf st op).getD sh0 = sh) (g0 : ok = true) (g1 : namedB sh.name s = true) (g2 : decide (sh.low ≤ n) = true) (g3 : decide (n ≤ sh.high) = true) (g4 : decide (sh.least ≤ (k3 : Int)) = false) :
    Calls Tryd.prog 30 #[.agg #[.bool st, .int .i64 op, .string s, .int .i64 n, .slice A3 k3 cap3, .slice A4 k4 cap4, .slice A5 k5 cap5]] w fun e w' =>
      e = .returned (.bool (false)) ∧ Below w.heap.size w w' := by
  obtain ⟨nm, lo, hg, le, mo, bo, ot⟩ := sh
  try simp only at *
  subst g0
  have H := fun W (h : Tab W) => has_any st op s n A3 A4 A5 k3 k4 k5 cap3 cap4 cap5 W h
  rw [hok, hsh] at H
  simp only [Sh.val] at H
  clear hok hsh
  have ht2 : ∀ o, Tab (w.alloc o) := fun o => ht.below ((Below.refl _ w).alloc (Nat.le_refl _) o) ht.1
  have HN := fun W => named_any ⟨nm, lo, hg, le, mo, bo, ot⟩ s W hs
  simp only at HN
  clear ht hs
  have HT := Lib.hid ht2
  clear ht2
  go_enter Tryd.func30, Tryd.ntmps30
  go_wp2_with (first
    | (go_at_call 51; ((with_reducible refine (H _ (HT.out _)).mono ?_); rintro e w1 ⟨rfl, hb1⟩; obtain ⟨hc1, hf1⟩ := bcell hb1; simp only [World.size_alloc] at hc1 hf1; have hz1 : w.heap.size < w1.heap.size := (by have := hb1.size; simp at this; omega); have hz2 : w.heap.size < w1.heap.size + 1 := (by omega)))
    | (go_at_call 52; ((with_reducible refine (HN _).mono ?_); rintro e w2 ⟨rfl, hb2⟩; obtain ⟨hc2, hf2⟩ := bcell hb2; simp only [World.size_alloc] at hc2 hf2)))
  all_goals
    go_ret
    refine ⟨ret_bool (by first | rfl | exact int_zero _), ?_⟩
    have hq := ((Below.refl w.heap.size w).alloc (Nat.le_refl _) _).trans (hb1.mono (by simp))
    first | exact hq.alloc (Nat.le_of_lt hz1) _ | exact (hq.alloc (Nat.le_of_lt hz1) _).trans (hb2.mono (by simp; omega))

end Go.Proofs.YtmpdnikabkandaaDoor

/-
  (part).fits, whole; allRight over whatever iterator hands on the parts of l.
-/
namespace Go.Proofs.YtmpdnikabkandaaDoor
open Go Go.RowKit Go.Shelf

attribute [local go_sem] Oper.semAt_some wide_fn wide_depth round_fn round_depth

/-- Has a part what its op has, and nothing else? -/
def fitQ (ok : Bool) (sh : Sh) (s : ByteArray) (n : Int) (k3 k4 k5 : Nat) : Bool :=
  ok && (namedB sh.name s && (decide (sh.low ≤ n) && (decide (n ≤ sh.high) && (decide (sh.least ≤ (k3 : Int)) && (decide ((k3 : Int) ≤ sh.most) && ((sh.body || decide (k4 = 0)) && (sh.other || decide (k5 = 0))))))))

theorem fits_any (st : Bool) (op : Int) (s : ByteArray) (n : Int) (A3 A4 A5 : Option Addr) (k3 k4 k5 cap3 cap4 cap5 : Nat) (w : World) (ht : Tab w) (hs : s.size ≤ 9223372036854775807) (h3 : k3 ≤ 9223372036854775807) (h4 : k4 ≤ 9223372036854775807) (h5 : k5 ≤ 9223372036854775807) :
    Calls Tryd.prog 30 #[.agg #[.bool st, .int .i64 op, .string s, .int .i64 n, .slice A3 k3 cap3, .slice A4 k4 cap4, .slice A5 k5 cap5]] w fun e w' =>
      e = .returned (.bool (fitQ (shOf st op).isSome ((shOf st op).getD sh0) s n k3 k4 k5)) ∧ Below w.heap.size w w' := by
  obtain ⟨ok, hok⟩ : ∃ ok, (shOf st op).isSome = ok := ⟨_, rfl⟩
  obtain ⟨sh, hsh⟩ : ∃ sh, (shOf st op).getD sh0 = sh := ⟨_, rfl⟩
  rw [hok, hsh]
  unfold fitQ
  cases g0 : ok with
  | false => exact fits_w0 st op s n A3 A4 A5 k3 k4 k5 cap3 cap4 cap5 w ht hs h3 h4 h5 ok sh hok hsh g0
  | true =>
  cases g1 : namedB sh.name s with
  | false => exact fits_w1 st op s n A3 A4 A5 k3 k4 k5 cap3 cap4 cap5 w ht hs h3 h4 h5 ok sh hok hsh g0 g1
  | true =>
  cases g2 : decide (sh.low ≤ n) with
  | false => exact fits_w2 st op s n A3 A4 A5 k3 k4 k5 cap3 cap4 cap5 w ht hs h3 h4 h5 ok sh hok hsh g0 g1 g2
  | true =>
  cases g3 : decide (n ≤ sh.high) with
  | false => exact fits_w3 st op s n A3 A4 A5 k3 k4 k5 cap3 cap4 cap5 w ht hs h3 h4 h5 ok sh hok hsh g0 g1 g2 g3
  | true =>
  cases g4 : decide (sh.least ≤ (k3 : Int)) with
  | false => exact fits_w4 st op s n A3 A4 A5 k3 k4 k5 cap3 cap4 cap5 w ht hs h3 h4 h5 ok sh hok hsh g0 g1 g2 g3 g4
  | true =>
  cases g5 : decide ((k3 : Int) ≤ sh.most) with
  | false => exact fits_w5 st op s n A3 A4 A5 k3 k4 k5 cap3 cap4 cap5 w ht hs h3 h4 h5 ok sh hok hsh g0 g1 g2 g3 g4 g5
  | true =>
  cases g6 : sh.body with
  | true =>
    cases g7 : sh.other with
    | true => exact fits_w7 st op s n A3 A4 A5 k3 k4 k5 cap3 cap4 cap5 w ht hs h3 h4 h5 ok sh hok hsh g0 g1 g2 g3 g4 g5 g6 g7
    | false => exact fits_w8 st op s n A3 A4 A5 k3 k4 k5 cap3 cap4 cap5 w ht hs h3 h4 h5 ok sh hok hsh g0 g1 g2 g3 g4 g5 g6 g7
  | false =>
    by_cases g7 : k4 = 0
    · cases g8 : sh.other with
      | true =>
        rw [decide_eq_true g7]
        exact fits_w9 st op s n A3 A4 A5 k3 k4 k5 cap3 cap4 cap5 w ht hs h3 h4 h5 ok sh hok hsh g0 g1 g2 g3 g4 g5 g6 g7 g8
      | false =>
        rw [decide_eq_true g7]
        exact fits_wx st op s n A3 A4 A5 k3 k4 k5 cap3 cap4 cap5 w ht hs h3 h4 h5 ok sh hok hsh g0 g1 g2 g3 g4 g5 g6 g7 g8
    · rw [decide_eq_false g7]
      exact fits_w6 st op s n A3 A4 A5 k3 k4 k5 cap3 cap4 cap5 w ht hs h3 h4 h5 ok sh hok hsh g0 g1 g2 g3 g4 g5 g6 g7

def fitP (p : Pt) : Bool := fitQ (shOf p.st p.op).isSome ((shOf p.st p.op).getD sh0) p.s p.n p.l.len p.b.len p.e.len
def ES.ok : ES → Bool
  | .nil => true
  | .cons op n s l r => fitP ⟨false, op, s, n, l, .nil, .nil⟩ && l.ok && r.ok
def SS.ok : SS → Bool
  | .nil => true
  | .cons op s n l b e r => fitP ⟨true, op, s, n, l, b, e⟩ && (l.ok && (b.ok && e.ok)) && r.ok
def Pt.ok (p : Pt) : Bool := p.l.ok && (p.b.ok && p.e.ok)
def okL : List Pt → Bool
  | [] => true
  | p :: r => fitP p && p.ok && okL r
theorem okL_append : ∀ a b, okL (a ++ b) = (okL a && okL b)
  | [], b => rfl
  | p :: r, b => by simp only [List.cons_append, okL, okL_append r b, Bool.and_assoc]
theorem ES.okL : ∀ l : ES, okL l.pts = l.ok
  | .nil => rfl
  | .cons _ _ _ l r => by simp [ES.pts, Go.Proofs.YtmpdnikabkandaaDoor.okL, ES.ok, Pt.ok, ES.okL r, SS.ok]
theorem SS.okL : ∀ l : SS, okL l.pts = l.ok
  | .nil => rfl
  | .cons _ _ _ l b e r => by simp only [SS.pts, Go.Proofs.YtmpdnikabkandaaDoor.okL, SS.ok, Pt.ok, SS.okL r]
theorem Pt.okL (p : Pt) : okL p.sub = p.ok := by simp only [Pt.sub, okL_append, ES.okL, SS.okL, Pt.ok]
theorem okL_snoc (l : List Pt) (p : Pt) : okL (l ++ [p]) = (okL l && (fitP p && p.ok)) := by
  rw [okL_append]; simp [okL]
theorem okL_cut {l : List Pt} {a : List Pt} (h : a <+: l) (ha : okL a = false) : okL l = false := by
  obtain ⟨t, rfl⟩ := h
  rw [okL_append, ha]; rfl

theorem px_bounds {B : Nat} {w : World} {K : Nat} (x : PX B w K) : x.p.s.size ≤ 9223372036854775807 ∧ x.p.l.len ≤ 9223372036854775807 ∧ x.p.b.len ≤ 9223372036854775807 ∧ x.p.e.len ≤ 9223372036854775807 := by
  obtain ⟨vl, vb, ve, _, ⟨_, _, _, a1, a2, _⟩, ⟨_, _, _, b1, b2, _⟩, ⟨_, _, _, c1, c2, _⟩, _, _, h⟩ := x.h
  exact ⟨h, by omega, by omega, by omega⟩

set_option maxRecDepth 100000 in
set_option maxHeartbeats 8000000 in
theorem allRight_any (K : Nat) : ∀ (g : Nat) (lb : Array Value) (l : List Pt) (w : World), Tab w → (∀ args w, (callFunc g args).run Tryd.prog w = .ok (.enter g args) w) → SeqP w.heap.size w g lb K l →
    Calls Tryd.prog 12 #[.func (.func g) #[] lb] w fun e w' => e = .returned (.bool (okL l)) ∧ Below w.heap.size w w' := by
  induction K using Nat.strongRecOn with
  | ind K ih =>
    intro g lb l w ht eg hseq
    refine (callsIn_wide (n := 9)).1 ?_
    refine callsIn_of_wp_marks Tryd.func12 rfl trivial ?_ rfl
    simp only [Tryd.ntmps12, List.size_toArray, List.length_cons, List.length_nil, Nat.reduceAdd, Nat.reduceSub, Array.replicate_succ, Array.replicate_zero, List.push_toArray, List.append_toArray, List.nil_append, List.cons_append]
    gi_wp2
    have bS := Boxed.new w 4 (.bool false)
    have hB0 : Below w.heap.size w (w.alloc (.cells #[.bool false] 4)) := (Below.refl _ w).alloc (Nat.le_refl _) _
    have hsz : (w.alloc (.cells #[.bool false] 4)).heap.size = w.heap.size + 1 := by simp
    obtain ⟨W0, hW0⟩ : ∃ W0, w.alloc (.cells #[.bool false] 4) = W0 := ⟨_, rfl⟩
    rw [hW0] at bS hB0 hsz ⊢
    clear hW0
    refine wpIn_rangeFunc_ownH rfl (by decide) (gf := g) (lb := lb) rfl trivial eg (hseq _) belowK_t (belowK_b (by omega)) hB0 (fun _ => rfl)
      (fun pre W => (Boxed W w.heap.size 4 (.bool false) ∧ okL (pre.map (·.p)) = true) ∧ Below w.heap.size w W)
      (fun c pre W => (Boxed W w.heap.size 4 (.bool false) ∧ (c = .ret ∧ okL (pre.map (·.p)) = false)) ∧ Below w.heap.size w W)
      (OwnFrom.and (OwnFrom.and (Own.from (boxed_own _ _ _) _) (ownFrom_pure _ _)) (ownFrom_below (Nat.le_refl _) (by omega)))
      (fun c => OwnFrom.and (OwnFrom.and (Own.from (boxed_own _ _ _) _) (ownFrom_pure _ _)) (ownFrom_below (Nat.le_refl _) (by omega)))
      ⟨⟨bS, rfl⟩, hB0⟩
      (fun x a' W => ∃ Bx A3 cap3 A4 cap4 A5 cap5, w.heap.size < Bx ∧ PBox W Bx x A3 cap3 A4 cap4 A5 cap5 ∧ a' = { tmps := #[.func (.func g) #[] lb, undef, .pointer (some ⟨w.heap.size, 0, none⟩), .pointer (some ⟨Bx, 0, none⟩), .func (.func g) #[] lb, x.v, undef, undef, undef, undef, undef, undef, undef, undef, undef], defers := [] })
      (fun x a' _ X Y row hs hg hr => by
        obtain ⟨Bx, A3, cap3, A4, cap4, A5, cap5, h1, ⟨h2, h3, h4, h5, h6⟩, h7⟩ := hs
        exact ⟨Bx, A3, cap3, A4, cap4, A5, cap5, h1, ⟨h2, h3, h4, h5, cells_own Bx _ _ () X Y row h6 hg (fun r e => (hr r e).2)⟩, h7⟩)
      ?assign ?body ?done ?stop
    case assign =>
      rintro l pre x W K ⟨⟨bS1, ok1⟩, hB1⟩ hK
      obtain ⟨A3, cap3, A4, cap4, A5, cap5, hv, h3, h4, h5⟩ := px_slices x
      have HB : PBox (W.alloc (.cells #[.bool x.p.st, .int .i64 x.p.op, .string x.p.s, .int .i64 x.p.n, .slice A3 x.p.l.len cap3, .slice A4 x.p.b.len cap4, .slice A5 x.p.e.len cap5] 75)) W.heap.size x A3 cap3 A4 cap4 A5 cap5 := ⟨hv, h3, h4, h5, World.alloc_heap_new W _⟩
      have hK' := hK _ _ ((KeepsOthers.alloc _ _).from _) ((Below.refl _ W).alloc hB1.size _) ⟨⟨bS1.alloc _, ok1⟩, hB1.alloc hB1.size _⟩ ⟨W.heap.size, A3, cap3, A4, cap4, A5, cap5, bS1.lt, HB, rfl⟩
      clear hK HB h3 h4 h5
      rw [hv] at hK' ⊢
      clear hv ok1
      gi_wp2
      exact hK'
    case body =>
      rintro l pre x a' W hl ⟨r, hr⟩ ⟨⟨bS1, ok1⟩, hB1⟩ ⟨Bx, A3, cap3, A4, cap4, A5, cap5, hBx, ⟨hv, h3, h4, h5, hbx⟩, rfl⟩ hlt
      have hsub : cntL x.p.sub < K := by have := x.hk; rw [Pt.cnt_sub] at this; omega
      have HS := fun (W1 : World) (hb : Below w.heap.size w W1) => parts_new W1 w.heap.size (cntL x.p.sub) x.p A3 A4 A5 cap3 cap4 cap5 hb.size (h3.below hb (Nat.le_refl _)) (h4.below hb (Nat.le_refl _)) (h5.below hb (Nat.le_refl _)) (Nat.le_refl _) _ rfl
      have IH := fun (W1 : World) (hb : Below w.heap.size w W1) => ih _ hsub 53 #[.pointer (some ⟨W1.heap.size, 0, none⟩)] x.p.sub (W1.alloc _) (ht.below (hb.alloc hb.size _) ht.1) (enters_of Tryd.func53 (by kernel_rfl) rfl) (by rw [World.size_alloc]; exact HS W1 hb)
      obtain ⟨q0, q3, q4, q5⟩ := px_bounds x
      have FT : Calls Tryd.prog 30 #[.agg #[.bool x.p.st, .int .i64 x.p.op, .string x.p.s, .int .i64 x.p.n, .slice A3 x.p.l.len cap3, .slice A4 x.p.b.len cap4, .slice A5 x.p.e.len cap5]] W fun e w' =>
        e = .returned (.bool (fitP x.p)) ∧ Below W.heap.size W w' := fits_any x.p.st x.p.op x.p.s x.p.n A3 A4 A5 x.p.l.len x.p.b.len x.p.e.len cap3 cap4 cap5 W (ht.below hB1 ht.1) q0 q3 q4 q5
      have snoc := okL_snoc (pre.map (·.p)) x.p
      rw [ok1, Bool.true_and] at snoc
      clear HS ih h3 h4 h5 q0 q3 q4 q5 ok1 ht
      have x0 : W.cell? ⟨Bx, 0, none⟩ = some (.bool x.p.st) := by simp [World.cell?, hbx]
      have x1 : W.cell? ⟨Bx, 1, none⟩ = some (.int .i64 x.p.op) := by simp [World.cell?, hbx]
      have x2 : W.cell? ⟨Bx, 2, none⟩ = some (.string x.p.s) := by simp [World.cell?, hbx]
      have x3 : W.cell? ⟨Bx, 3, none⟩ = some (.int .i64 x.p.n) := by simp [World.cell?, hbx]
      have x4 : W.cell? ⟨Bx, 4, none⟩ = some (.slice A3 x.p.l.len cap3) := by simp [World.cell?, hbx]
      have x5 : W.cell? ⟨Bx, 5, none⟩ = some (.slice A4 x.p.b.len cap4) := by simp [World.cell?, hbx]
      have x6 : W.cell? ⟨Bx, 6, none⟩ = some (.slice A5 x.p.e.len cap5) := by simp [World.cell?, hbx]
      have hBxl : Bx < W.heap.size := (Array.getElem?_eq_some_iff.1 hbx).1
      have HV := Lib.hid hv
      have SN := Lib.hid snoc
      have HL := Lib.hid hl
      clear hbx hv snoc hr hl hlt
      have cS := bS1.cell
      have fS := bS1.frozen
      have hsS := bS1.lt
      have hB1' := hB1
      cases hf : fitP x.p with
      | false =>
        gi_wp2_with (gi_at_call 30; ((with_reducible refine (CallsIn.inRound l (callsIn_wide.2 FT)).mono ?_); rintro e w1 ⟨rfl, hb1⟩; obtain ⟨hc1, hf1⟩ := bcell hb1))
        obtain ⟨k1, k2, k3, k4⟩ := round_done (B := W0.heap.size) (v' := .bool false) hb1 bS1 hB1
        exact ⟨k1, ⟨k3, rfl, by rw [List.map_append, List.map_cons, List.map_nil, SN.out, hf]; rfl⟩, k4⟩
      | true =>
        cases ho : okL x.p.sub with
        | false =>
          gi_wp2_with (first
            | (gi_at_call 30; ((with_reducible refine (CallsIn.inRound l (callsIn_wide.2 FT)).mono ?_); rintro e w1 ⟨rfl, hb1⟩; obtain ⟨hc1, hf1⟩ := bcell hb1; have hz1 : w.heap.size < w1.heap.size := Nat.lt_of_lt_of_le hsS hb1.size; have hz2 : w.heap.size < w1.heap.size + 1 := Nat.lt_succ_of_lt hz1; have hzB : Bx < w1.heap.size := Nat.lt_of_lt_of_le hBxl hb1.size; have IH1 := IH w1 (hB1.trans (hb1.mono hB1.size))))
            | (gi_at_call 31; ((with_reducible refine (CallsIn.inRound l (callsIn_wide.2 (parts_any _ _ _ _ _ _ _ _ _ _ _ _ _ _))).mono ?_); rintro e w2 ⟨rfl, rfl⟩))
            | (gi_at_call 12; ((with_reducible refine (CallsIn.inRound l (callsIn_wide.2 IH1)).mono ?_); rintro e w3 ⟨rfl, hb3⟩; obtain ⟨hc3, hf3⟩ := bcell hb3; simp only [World.size_alloc] at hc3 hf3)))
          have hb5 : Below W.heap.size W w3 := hb1.trans (((Below.refl _ w1).alloc hb1.size _).trans (hb3.mono (by have := hb1.size; simp; omega)))
          obtain ⟨k1, k2, k3, k4⟩ := round_done (B := W0.heap.size) (v' := .bool false) hb5 bS1 hB1
          exact ⟨k1, ⟨k3, rfl, by rw [List.map_append, List.map_cons, List.map_nil, SN.out, hf, ← Pt.okL, ho]; rfl⟩, k4⟩
        | true =>
          gi_wp2_with (first
            | (gi_at_call 30; ((with_reducible refine (CallsIn.inRound l (callsIn_wide.2 FT)).mono ?_); rintro e w1 ⟨rfl, hb1⟩; obtain ⟨hc1, hf1⟩ := bcell hb1; have hz1 : w.heap.size < w1.heap.size := Nat.lt_of_lt_of_le hsS hb1.size; have hz2 : w.heap.size < w1.heap.size + 1 := Nat.lt_succ_of_lt hz1; have hzB : Bx < w1.heap.size := Nat.lt_of_lt_of_le hBxl hb1.size; have IH1 := IH w1 (hB1.trans (hb1.mono hB1.size))))
            | (gi_at_call 31; ((with_reducible refine (CallsIn.inRound l (callsIn_wide.2 (parts_any _ _ _ _ _ _ _ _ _ _ _ _ _ _))).mono ?_); rintro e w2 ⟨rfl, rfl⟩))
            | (gi_at_call 12; ((with_reducible refine (CallsIn.inRound l (callsIn_wide.2 IH1)).mono ?_); rintro e w3 ⟨rfl, hb3⟩; obtain ⟨hc3, hf3⟩ := bcell hb3; simp only [World.size_alloc] at hc3 hf3)))
          have hb5 : Below W.heap.size W w3 := hb1.trans (((Below.refl _ w1).alloc hb1.size _).trans (hb3.mono (by have := hb1.size; simp; omega)))
          have hb6 := hb5.mono hB1.size
          exact ⟨keeps_below hb5, hb6, ⟨bS1.kept (row := none) ⟨hb5.os, hb5.tape, hb5.output, hb5.size, fun k hk _ => hb5.block k hk⟩ (by simp), by rw [List.map_append, List.map_cons, List.map_nil, SN.out, hf, ← Pt.okL, ho]; rfl⟩, hB1.trans hb6⟩
    case done =>
      rintro D xs W hD hxs ⟨⟨bS1, ok1⟩, hB1⟩ hK
      have cS := bS1.cell
      have fS := bS1.frozen
      gi_wp2
      have hK' := (KeepsOthers.setCell W ⟨w.heap.size, 0, none⟩ (.bool true)).same D _ hK rfl
      have bS2 := bS1.set (.bool true)
      refine ⟨by simp, .inl ⟨_, _, rfl, run_takeDeferred hK', ?_⟩⟩
      have hc5 := cell_kept bS2.cell (grownBy_putObj' _ D (.deferred none)) (fun r e => by cases e; exact ⟨_, hK', rfl⟩)
      refine ⟨.bool true, ?_, by rw [← hxs, ok1], (hB1.setCell (Nat.le_refl _) _).trans (belowK_b (w := w) (Nat.le_refl _) _ D _ _ (by omega) hK' rfl rfl)⟩
      simp [results, Tryd.f12, go_sem, hc5]
    case stop =>
      rintro D c pre W hD hpre ⟨⟨bS1, rfl, ok1⟩, hB1⟩ hK
      have cS := bS1.cell
      gi_wp2
      refine ⟨by simp, .inl ⟨_, _, rfl, run_takeDeferred hK, ?_⟩⟩
      have hc5 := cell_kept cS (grownBy_putObj' _ D (.deferred none)) (fun r e => by cases e; exact ⟨_, hK, rfl⟩)
      refine ⟨.bool false, ?_, by rw [okL_cut hpre ok1], hB1.trans (belowK_b (w := w) (Nat.le_refl _) W D _ _ (by omega) hK rfl rfl)⟩
      simp [results, Tryd.f12, go_sem, hc5]

end Go.Proofs.YtmpdnikabkandaaDoor

/-
  rightParams, rightFuncs, Right.
-/
namespace Go.Proofs.YtmpdnikabkandaaDoor
open Go Go.RowKit Go.Shelf

def psOk : List ByteArray → Bool
  | [] => true
  | s :: r => nameB s && psOk r
def paramsB (l : List ByteArray) : Bool := decide (l.length ≤ 8) && psOk l
def fsOk : List Fn → Bool
  | [] => true
  | f :: r => nameB f.s && paramsB f.ps && fsOk r
def funcsB (l : List Fn) : Bool := decide (l.length ≤ 32) && fsOk l

set_option maxHeartbeats 2000000 in
theorem rightParams_any (A : Option Addr) (cap : Nat) (l : List ByteArray) (B : Nat) (w : World) (hv : RowV (PsIn w l) B l.length (.slice A l.length cap)) :
    Calls Tryd.prog 29 #[.slice A l.length cap] w fun e w' => e = .returned (.bool (paramsB l)) ∧ w = w' := by
  obtain ⟨A1, cap1, e1, hc1, hc2, hrow⟩ := hv
  injection e1 with e2 e3 e4
  subst e2 e4
  clear e3
  obtain ⟨len, hlen⟩ : ∃ len, l.length = len := ⟨_, rfl⟩
  have HP : Hid (paramsB l = (decide (len ≤ 8) && psOk l)) := by rw [← hlen]; exact rfl
  rw [hlen] at hc1 hrow ⊢
  have HL := Lib.hid hlen; clear hlen
  by_cases h8 : len ≤ 8
  · go_enter Tryd.func29, Tryd.ntmps29
    go_wp2
    go_loop [10] (fun i => ∃ (k : Nat) (r : List ByteArray), i = .int .i64 k ∧ k + r.length = len ∧ psOk l = psOk r ∧ (0 < r.length → ∃ b o, A = some ⟨b, o, none⟩ ∧ b < B ∧ PsIn w r b (o + k))) (fun i => len - (intOf i).toNat)
    case atStart => exact ⟨0, l, rfl, by have := HL.out; omega, rfl, by simpa [HL.out] using hrow⟩
    case round =>
      obtain ⟨k, r, rfl, hk, ho, hrow'⟩ := hrel
      have HO := Lib.hid ho; clear ho
      cases r with
      | nil =>
        have hk0 : k = len := by simpa using hk
        subst hk0
        clear hk hrow hrow'
        go_wp2
        go_ret
        exact ⟨ret_bool (by rw [HP.out, HO.out, decide_eq_true h8]; rfl), rfl⟩
      | cons s r =>
        obtain ⟨b, o, rfl, hb, c0, hs, hr⟩ := hrow' (by simp)
        clear hrow hrow'
        have hlt : k < len := by simp at hk; omega
        have HK := Lib.hid hk; clear hk
        cases hn : nameB s with
        | true =>
          go_wp2_with (go_at_call 28; ((with_reducible refine (name_any _ _ hs).mono ?_); rintro e w1 ⟨rfl, rfl⟩))
          go_round
          case rel => exact ⟨k + 1, r, by go_num, by have := HK.out; simp at this; omega, by rw [HO.out, psOk, hn]; rfl, fun _ => ⟨b, o, rfl, hb, by rw [show o + (k + 1) = o + k + 1 by omega]; exact hr⟩⟩
          case measure => simp [intOf]; omega
        | false =>
          go_wp2_with (go_at_call 28; ((with_reducible refine (name_any _ _ hs).mono ?_); rintro e w1 ⟨rfl, rfl⟩))
          go_ret
          exact ⟨ret_bool (by rw [HP.out, HO.out, psOk, hn]; simp), rfl⟩
  · have h8' : 8 < len := by omega
    go_enter Tryd.func29, Tryd.ntmps29
    go_wp2
    go_ret
    exact ⟨ret_bool (by rw [HP.out, decide_eq_false h8]; rfl), rfl⟩

set_option maxHeartbeats 4000000 in
theorem rightFuncs_any (A : Option Addr) (cap : Nat) (l : List Fn) (B : Nat) (w : World) (hB : B ≤ w.heap.size) (hv : FV B w (.slice A l.length cap) l) :
    Calls Tryd.prog 11 #[.slice A l.length cap] w fun e w' => e = .returned (.bool (funcsB l)) ∧ Below w.heap.size w w' := by
  obtain ⟨A1, cap1, e1, hc1, hc2, hrow⟩ := hv
  injection e1 with e2 e3 e4
  subst e2 e4
  clear e3
  obtain ⟨len, hlen⟩ : ∃ len, l.length = len := ⟨_, rfl⟩
  have HP : Hid (funcsB l = (decide (len ≤ 32) && fsOk l)) := by rw [← hlen]; exact rfl
  rw [hlen] at hc1 hrow ⊢
  have HL := Lib.hid hlen; clear hlen
  by_cases h8 : len ≤ 32
  · go_enter Tryd.func11, Tryd.ntmps11
    go_wp2
    go_loopw [10] (fun i wr => ∃ (k : Nat) (r : List Fn), i = .int .i64 k ∧ k + r.length = len ∧ fsOk l = fsOk r ∧ (0 < r.length → ∃ b o, A = some ⟨b, o, none⟩ ∧ b < B ∧ FsIn B w r b (o + k * 3)) ∧ Below w.heap.size w wr) (fun i _ => len - (intOf i).toNat)
    case atStart => exact ⟨0, l, rfl, by have := HL.out; omega, rfl, by simpa [HL.out] using hrow, Below.refl _ _⟩
    case round =>
      obtain ⟨k, r, rfl, hk, ho, hrow', hW⟩ := hrel
      have HO := Lib.hid ho; clear ho
      cases r with
      | nil =>
        have hk0 : k = len := by simpa using hk
        subst hk0
        clear hk hrow hrow'
        go_wp2
        go_ret
        exact ⟨ret_bool (by rw [HP.out, HO.out, decide_eq_true h8]; rfl), hW⟩
      | cons f r =>
        obtain ⟨b, o, rfl, hb, c0, ⟨v1, c1, h1⟩, ⟨v2, c2, h2⟩, hs, hr⟩ := hrow' (by simp)
        clear hrow hrow'
        obtain ⟨A6, cap6, rfl, _⟩ := id h1
        obtain ⟨A7, cap7, rfl, _⟩ := id h2
        have hlt : k < len := by simp at hk; omega
        have HK := Lib.hid hk; clear hk
        have hbw : b < w.heap.size := by omega
        have d0 := (hW.cell (p := ⟨b, o + k * 3, none⟩) hbw).trans c0
        have d1 := (hW.cell (p := ⟨b, o + k * 3 + 1, none⟩) hbw).trans c1
        have d2 := (hW.cell (p := ⟨b, o + k * 3 + 2, none⟩) hbw).trans c2
        clear c0 c1 c2 h2
        have HR := fun (W : World) (hb : Below w.heap.size w W) => rightParams_any A6 cap6 f.ps B W (h1.imp (Nat.le_refl _) fun b o hb' hp => PsIn.below (hb.mono hB) hb' hp)
        have hW2 : ∀ o, Below w.heap.size w (wr.alloc o) := fun o => hW.alloc hW.size o
        have HW := Lib.hid hW2
        clear hW2
        cases hn : nameB f.s with
        | true =>
          cases hp : paramsB f.ps with
          | true =>
            go_wp2_with (first
              | (go_at_call 28; ((with_reducible refine (name_any _ _ hs).mono ?_); rintro e w1 ⟨rfl, rfl⟩))
              | (go_at_call 29; ((with_reducible refine (HR _ (HW.out _)).mono ?_); rintro e w1 ⟨rfl, rfl⟩)))
            go_roundw
            case rel => exact ⟨k + 1, r, by go_num, by have := HK.out; simp at this; omega, by rw [HO.out, fsOk, hn, hp]; rfl, fun _ => ⟨b, o, rfl, hb, by rw [show o + (k + 1) * 3 = o + k * 3 + 3 by omega]; exact hr⟩, HW.out _⟩
            case measure => simp [intOf]; omega
          | false =>
            go_wp2_with (first
              | (go_at_call 28; ((with_reducible refine (name_any _ _ hs).mono ?_); rintro e w1 ⟨rfl, rfl⟩))
              | (go_at_call 29; ((with_reducible refine (HR _ (HW.out _)).mono ?_); rintro e w1 ⟨rfl, rfl⟩)))
            go_ret
            exact ⟨ret_bool (by rw [HP.out, HO.out, fsOk, hn, hp]; simp), HW.out _⟩
        | false =>
          go_wp2_with (go_at_call 28; ((with_reducible refine (name_any _ _ hs).mono ?_); rintro e w1 ⟨rfl, rfl⟩))
          go_ret
          exact ⟨ret_bool (by rw [HP.out, HO.out, fsOk, hn]; simp), HW.out _⟩
  · have h8' : 32 < len := by omega
    go_enter Tryd.func11, Tryd.ntmps11
    go_wp2
    go_ret
    exact ⟨ret_bool (by rw [HP.out, decide_eq_false h8]; rfl), Below.refl _ _⟩

/-- What Right tells. -/
def rightN (p : Pg) : Int := if (funcsB p.fs && okL p.pts) = true then (if 64 < deepL p.pts then 3 else 0) else 1

set_option maxHeartbeats 4000000 in
theorem right_any (v : Value) (p : Pg) (w : World) (B : Nat) (hB : B ≤ w.heap.size) (hv : PgV B w v p) (ht : Tab w) :
    Calls Tryd.prog 6 #[v] w fun e w' => e = .returned (.int .i64 (rightN p)) ∧ Below w.heap.size w w' := by
  unfold rightN
  obtain ⟨A, cap, A', cap', rfl, h0, h1⟩ := id hv
  obtain ⟨C, hC⟩ : ∃ C, C = Obj.cells #[.slice A p.fs.length cap, .slice A' p.m.len cap'] 27 := ⟨_, rfl⟩
  have HF := rightFuncs_any A cap p.fs B (w.alloc C) (by simp; omega) (h0.below ((Below.refl _ _).alloc hB _) (Nat.le_refl _))
  have HR := fun (W : World) (hb : Below w.heap.size w W) => allRight_any _ _ _ _ (W.alloc C) (ht.below (hb.alloc hb.size _) ht.1) enters_outer (outer_new W B p A A' cap cap' (Nat.le_trans hB hb.size) (h0.below (hb.mono hB) (Nat.le_refl _)) (h1.below (hb.mono hB) (Nat.le_refl _)) C hC)
  have HD := fun (W : World) (hb : Below w.heap.size w W) => depth_any _ p W B (Nat.le_trans hB hb.size) (hv.below (hb.mono hB) (Nat.le_refl _))
  have hW : Below w.heap.size w (w.alloc C) := (Below.refl _ _).alloc (Nat.le_refl _) _
  subst hC
  simp only [World.size_alloc] at HF
  clear h0 h1 hv
  have g1 : ∀ w1 : World, Below (w.heap.size + 1) (w.alloc (Obj.cells #[.slice A p.fs.length cap, .slice A' p.m.len cap'] 27)) w1 → Below w.heap.size w w1 := fun _ h => hW.trans (h.mono (by omega))
  have G1 := Lib.hid g1
  clear hW g1 ht
  cases hf : funcsB p.fs with
  | false =>
    go_enter Tryd.func6, Tryd.ntmps6
    go_wp2_with (go_at_call 11; ((with_reducible refine HF.mono ?_); rintro e w1 ⟨rfl, hb1⟩))
    go_ret
    exact ⟨rfl, G1.out _ hb1⟩
  | true =>
    cases ho : okL p.pts with
    | false =>
      go_enter Tryd.func6, Tryd.ntmps6
      go_wp2_with (first
        | (go_at_call 11; ((with_reducible refine HF.mono ?_); rintro e w1 ⟨rfl, hb1⟩; obtain ⟨hc1, hf1⟩ := bcell hb1; have hb1' := G1.out _ hb1; have HR1 := HR w1 hb1'))
        | (go_at_call 13; ((with_reducible refine (outer_any _ _ _ _ _ _ _).mono ?_); rintro e w2 ⟨rfl, rfl⟩))
        | (go_at_call 12; ((with_reducible refine HR1.mono ?_); rintro e w3 ⟨rfl, hb3⟩)))
      go_ret
      exact ⟨rfl, (hb1'.alloc hb1'.size _).trans (hb3.mono (by have := hb1'.size; simp; omega))⟩
    | true =>
      obtain ⟨d, hd⟩ : ∃ d, deepL p.pts = d := ⟨_, rfl⟩
      rw [hd] at HD ⊢
      by_cases h64 : 64 < d
      all_goals
        go_enter Tryd.func6, Tryd.ntmps6
        go_wp2_with (first
          | (go_at_call 11; ((with_reducible refine HF.mono ?_); rintro e w1 ⟨rfl, hb1⟩; obtain ⟨hc1, hf1⟩ := bcell hb1; have hb1' := G1.out _ hb1; have HR1 := HR w1 hb1'; have hz1 : w.heap.size < w1.heap.size := (by have := hb1.size; simp at this; omega); have hz2 : w.heap.size < w1.heap.size + 1 := (by omega)))
          | (go_at_call 13; ((with_reducible refine (outer_any _ _ _ _ _ _ _).mono ?_); rintro e w2 ⟨rfl, rfl⟩))
          | (go_at_call 12; ((with_reducible refine HR1.mono ?_); rintro e w3 ⟨rfl, hb3⟩; obtain ⟨hc3, hf3⟩ := bcell hb3; simp only [World.size_alloc] at hc3 hf3; have hb3' : Below w.heap.size w w3 := (hb1'.alloc hb1'.size _).trans (hb3.mono (by have := hb1'.size; simp; omega)); have HD1 := HD w3 hb3'))
          | (go_at_call 14; ((with_reducible refine HD1.mono ?_); rintro e w4 ⟨rfl, hb4⟩)))
        go_ret
        exact ⟨by first | (simp; done) | simp [h64], hb3'.trans (hb4.mono hb3'.size)⟩

end Go.Proofs.YtmpdnikabkandaaDoor

/-
  Equal, of expressions: slices.EqualFunc with sameExpr.
-/
namespace Go.Proofs.YtmpdnikabkandaaDoor
open Go Go.RowKit Go.Shelf

noncomputable def eqE (a b : ES) : Bool := @decide (a = b) (Classical.propDecidable _)
theorem eqE_iff (a b : ES) : eqE a b = true ↔ a = b := by unfold eqE; exact @decide_eq_true_iff _ (Classical.propDecidable _)
/-- Two texts, as a walk compares them. -/
def eqT (s t : ByteArray) : Bool := s.toList == t.toList
theorem eqT_iff (s t : ByteArray) : eqT s t = true ↔ s = t := by
  unfold eqT
  rw [ByteArray.toList_eq, ByteArray.toList_eq, beq_iff_eq]
  constructor
  · intro h
    cases s; cases t
    simp only [ByteArray.mk.injEq]
    exact Array.ext' h
  · intro h; rw [h]
theorem bool_ext {a b : Bool} (h : a = true ↔ b = true) : a = b := by cases a <;> cases b <;> simp_all
theorem eqE_cons (op n : Int) (s : ByteArray) (l r : ES) (op' n' : Int) (s' : ByteArray) (l' r' : ES) :
    eqE (.cons op n s l r) (.cons op' n' s' l' r') = (((op == op') && (eqT s s' && ((n == n') && eqE l l'))) && eqE r r') := by
  apply bool_ext
  simp only [Bool.and_eq_true, eqE_iff, eqT_iff, beq_iff_eq, ES.cons.injEq]
  constructor
  · rintro ⟨h1, h2, h3, h4, h5⟩; exact ⟨⟨h1, h3, h2, h4⟩, h5⟩
  · rintro ⟨⟨h1, h3, h2, h4⟩, h5⟩; exact ⟨h1, h2, h3, h4, h5⟩
theorem eqE_len {a b : ES} (h : a.len ≠ b.len) : eqE a b = false := by
  cases hh : eqE a b with
  | false => rfl
  | true => exact absurd (by rw [(eqE_iff a b).1 hh]) h

/-- A contract for the lists of parts, in every later world. -/
def SameL (f g : FuncId) (v v' : Value) (b : Bool) (w : World) : Prop :=
  ∀ W, Below w.heap.size w W → Calls Tryd.prog f #[v, v', .func (.func g) #[] #[]] W fun e w' => e = .returned (.bool b) ∧ Below W.heap.size W w'

set_option maxHeartbeats 4000000 in
theorem sameExpr_any (op n : Int) (s : ByteArray) (A : Option Addr) (k cap : Nat) (op' n' : Int) (s' : ByteArray) (A' : Option Addr) (k' cap' : Nat) (b : Bool) (w : World)
    (H : SameL 36 37 (.slice A k cap) (.slice A' k' cap') b w) :
    Calls Tryd.prog 37 #[.agg #[.int .i64 op, .int .i64 n, .string s, .slice A k cap], .agg #[.int .i64 op', .int .i64 n', .string s', .slice A' k' cap']] w fun e w' =>
      e = .returned (.bool ((op == op') && (eqT s s' && ((n == n') && b)))) ∧ Below w.heap.size w w' := by
  have hW : ∀ o o', Below w.heap.size w ((w.alloc o).alloc o') := fun o o' => ((Below.refl _ _).alloc (Nat.le_refl _) o).alloc (by simp) o'
  have H2 := fun o o' => H _ (hW o o')
  simp only [World.size_alloc] at H2
  have HW := Lib.hid hW
  clear hW H
  unfold eqT
  cases h1 : (op == op') with
  | false =>
    clear H2
    go_enter Tryd.func37, Tryd.ntmps37
    go_wp2
    go_ret
    exact ⟨rfl, HW.out _ _⟩
  | true =>
    cases h2 : (s.toList == s'.toList) with
    | false =>
      clear H2
      go_enter Tryd.func37, Tryd.ntmps37
      go_wp2
      go_ret
      exact ⟨rfl, HW.out _ _⟩
    | true =>
      cases h3 : (n == n') with
      | false =>
        clear H2
        go_enter Tryd.func37, Tryd.ntmps37
        go_wp2
        go_ret
        exact ⟨rfl, HW.out _ _⟩
      | true =>
        go_enter Tryd.func37, Tryd.ntmps37
        go_wp2_with (go_at_call 36; ((with_reducible refine (H2 _ _).mono ?_); rintro e w1 ⟨rfl, hb1⟩))
        go_ret
        exact ⟨rfl, (HW.out _ _).trans (hb1.mono (by omega))⟩

set_option maxRecDepth 100000 in
set_option maxHeartbeats 8000000 in
theorem equalE_any (K : Nat) : ∀ (a a' : ES) (A A' : Option Addr) (cap cap' : Nat) (B : Nat) (w : World), a.cnt ≤ K → B ≤ w.heap.size → EV B w (.slice A a.len cap) a → EV B w (.slice A' a'.len cap') a' →
    Calls Tryd.prog 36 #[.slice A a.len cap, .slice A' a'.len cap', .func (.func 37) #[] #[]] w fun e w' => e = .returned (.bool (eqE a a')) ∧ Below w.heap.size w w' := by
  induction K using Nat.strongRecOn with
  | ind K ih =>
    intro a a' A A' cap cap' B w hK hB hv hv'
    obtain ⟨A1, cap1, e1, hc1, hc2, hrow⟩ := hv
    injection e1 with e2 e3 e4
    subst e2 e4
    clear e3
    obtain ⟨A1, cap1, e1, hc1', hc2', hrow'⟩ := hv'
    injection e1 with e2 e3 e4
    subst e2 e4
    clear e3
    obtain ⟨len, hlen⟩ : ∃ len, a.len = len := ⟨_, rfl⟩
    obtain ⟨len', hlen'⟩ : ∃ len, a'.len = len := ⟨_, rfl⟩
    by_cases hne : len = len'
    · subst hne
      rw [hlen] at hc1 hrow ⊢
      rw [hlen'] at hc1' hrow' ⊢
      have HL := Lib.hid hlen; clear hlen
      have HL' := Lib.hid hlen'; clear hlen'
      have IH := fun (l l' : ES) (A A' : Option Addr) (cap cap' : Nat) (hl : l.cnt < K) (h3 : EV B w (.slice A l.len cap) l) (h3' : EV B w (.slice A' l'.len cap') l') (W : World) (hb : Below w.heap.size w W) =>
        ih _ hl l l' A A' cap cap' B W (Nat.le_refl _) (Nat.le_trans hB hb.size) (h3.below (hb.mono hB) (Nat.le_refl _)) (h3'.below (hb.mono hB) (Nat.le_refl _))
      clear ih
      go_enter Tryd.func36, Tryd.ntmps36
      go_wp2
      go_loopw [17] (fun i wr => ∃ (k : Nat) (r r' : ES), i = .int .i64 k ∧ k + r.len = len ∧ k + r'.len = len ∧ eqE a a' = eqE r r' ∧ r.cnt ≤ K ∧ (0 < r.len → ∃ b o, A = some ⟨b, o, none⟩ ∧ b < B ∧ r.In B w b (o + k * 4)) ∧ (0 < r'.len → ∃ b o, A' = some ⟨b, o, none⟩ ∧ b < B ∧ r'.In B w b (o + k * 4)) ∧ Below w.heap.size w wr) (fun i _ => len - (intOf i).toNat)
      case atStart => exact ⟨0, a, a', rfl, by have := HL.out; omega, by have := HL'.out; omega, rfl, hK, by simpa [HL.out] using hrow, by simpa [HL'.out] using hrow', Below.refl _ _⟩
      case round =>
        obtain ⟨k, r, r', rfl, hk, hk', ho, hrK, hr1, hr2, hW⟩ := hrel
        have HO := Lib.hid ho; clear ho
        cases r with
        | nil =>
          have hk0 : k = len := by simpa [ES.len] using hk
          subst hk0
          cases r' with
          | cons op n s l r => simp [ES.len] at hk'
          | nil =>
            clear hk hk' hrow hrow' hr1 hr2
            go_wp2
            go_ret
            exact ⟨ret_bool (by rw [HO.out]; exact ((eqE_iff _ _).2 rfl).symm), hW⟩
        | cons op n s l r =>
          cases r' with
          | nil => simp [ES.len] at hk hk'; omega
          | cons op' n' s' l' r' =>
            obtain ⟨b, o, rfl, hb, c0, c1, c2, ⟨v3, c3, h3⟩, h6, hr⟩ := hr1 (by simp [ES.len])
            obtain ⟨b', o', rfl, hb', c0', c1', c2', ⟨v3', c3', h3'⟩, h6', hr'⟩ := hr2 (by simp [ES.len])
            clear hrow hrow' hr1 hr2
            obtain ⟨A6, cap6, rfl, _⟩ := id h3
            obtain ⟨A7, cap7, rfl, _⟩ := id h3'
            have hlt : k < len := by simp [ES.len] at hk; omega
            have HK := Lib.hid hk; clear hk
            have HK' := Lib.hid hk'; clear hk'
            have hbw : b < w.heap.size := by omega
            have hbw' : b' < w.heap.size := by omega
            have hz : b < wr.heap.size := by have := hW.size; omega
            have hz' : b' < wr.heap.size := by have := hW.size; omega
            have d0 := (hW.cell (p := ⟨b, o + k * 4, none⟩) hbw).trans c0
            have d1 := (hW.cell (p := ⟨b, o + k * 4 + 1, none⟩) hbw).trans c1
            have d2 := (hW.cell (p := ⟨b, o + k * 4 + 2, none⟩) hbw).trans c2
            have d3 := (hW.cell (p := ⟨b, o + k * 4 + 3, none⟩) hbw).trans c3
            have d0' := (hW.cell (p := ⟨b', o' + k * 4, none⟩) hbw').trans c0'
            have d1' := (hW.cell (p := ⟨b', o' + k * 4 + 1, none⟩) hbw').trans c1'
            have d2' := (hW.cell (p := ⟨b', o' + k * 4 + 2, none⟩) hbw').trans c2'
            have d3' := (hW.cell (p := ⟨b', o' + k * 4 + 3, none⟩) hbw').trans c3'
            clear c0 c1 c2 c3 c0' c1' c2' c3'
            have hcnt : l.cnt < K ∧ r.cnt ≤ K := by simp only [ES.cnt] at hrK; omega
            have hW2 : ∀ o o', Below w.heap.size w ((wr.alloc o).alloc o') := fun o o' => (hW.alloc hW.size o).alloc (by have := hW.size; simp; omega) o'
            have HS := fun C C' => sameExpr_any op n s A6 l.len cap6 op' n' s' A7 l'.len cap7 (eqE l l') ((wr.alloc C).alloc C') (fun W hb => IH l l' A6 A7 cap6 cap7 hcnt.1 h3 h3' W ((hW2 C C').trans (hb.mono (hW2 C C').size)))
            have HC := Lib.hid (eqE_cons op n s l r op' n' s' l' r')
            clear IH h3 h3'
            have HW2 := Lib.hid hW2
            clear hW2
            obtain ⟨bb, hbb⟩ : ∃ bb, ((op == op') && (eqT s s' && ((n == n') && eqE l l'))) = bb := ⟨_, rfl⟩
            rw [hbb] at HS HC
            clear hbb
            cases bb with
            | false =>
              go_wp2_with (go_at_call 37; ((with_reducible refine (HS _ _).mono ?_); rintro e w1 ⟨rfl, hb1⟩))
              go_ret
              exact ⟨ret_bool (by rw [HO.out, HC.out]; rfl), (HW2.out _ _).trans (hb1.mono (HW2.out _ _).size)⟩
            | true =>
              go_wp2_with (go_at_call 37; ((with_reducible refine (HS _ _).mono ?_); rintro e w1 ⟨rfl, hb1⟩))
              go_roundw
              case rel => exact ⟨k + 1, r, r', by go_num, by have := HK.out; simp [ES.len] at this; omega, by have := HK'.out; simp [ES.len] at this; omega, by rw [HO.out, HC.out]; rfl, hcnt.2, fun _ => ⟨b, o, rfl, hb, by rw [show o + (k + 1) * 4 = o + k * 4 + 4 by omega]; exact hr⟩, fun _ => ⟨b', o', rfl, hb', by rw [show o' + (k + 1) * 4 = o' + k * 4 + 4 by omega]; exact hr'⟩, (HW2.out _ _).trans (hb1.mono (HW2.out _ _).size)⟩
              case measure => simp [intOf]; omega
    · have hE : eqE a a' = false := eqE_len (by omega)
      rw [hE, hlen, hlen']
      have hz : len ≤ 9223372036854775807 := by omega
      have hz' : len' ≤ 9223372036854775807 := by omega
      clear hrow hrow' ih hE
      go_enter Tryd.func36, Tryd.ntmps36
      go_wp2
      go_ret
      exact ⟨rfl, Below.refl _ _⟩

end Go.Proofs.YtmpdnikabkandaaDoor

/-
  Equal, of statements: slices.EqualFunc with sameStmt.
-/
namespace Go.Proofs.YtmpdnikabkandaaDoor
open Go Go.RowKit Go.Shelf

noncomputable def eqS (a b : SS) : Bool := @decide (a = b) (Classical.propDecidable _)
theorem eqS_iff (a b : SS) : eqS a b = true ↔ a = b := by unfold eqS; exact @decide_eq_true_iff _ (Classical.propDecidable _)
theorem eqS_cons (op : Int) (s : ByteArray) (n : Int) (l : ES) (x y r : SS) (op' : Int) (s' : ByteArray) (n' : Int) (l' : ES) (x' y' r' : SS) :
    eqS (.cons op s n l x y r) (.cons op' s' n' l' x' y' r') = (((op == op') && (eqT s s' && ((n == n') && (eqE l l' && (eqS x x' && eqS y y'))))) && eqS r r') := by
  apply bool_ext
  simp only [Bool.and_eq_true, eqS_iff, eqE_iff, eqT_iff, beq_iff_eq, SS.cons.injEq]
  constructor
  · rintro ⟨h1, h2, h3, h4, h5, h6, h7⟩; exact ⟨⟨h1, h2, h3, h4, h5, h6⟩, h7⟩
  · rintro ⟨⟨h1, h2, h3, h4, h5, h6⟩, h7⟩; exact ⟨h1, h2, h3, h4, h5, h6, h7⟩
theorem eqS_len {a b : SS} (h : a.len ≠ b.len) : eqS a b = false := by
  cases hh : eqS a b with
  | false => rfl
  | true => exact absurd (by rw [(eqS_iff a b).1 hh]) h

set_option maxRecDepth 100000 in
set_option maxHeartbeats 8000000 in
theorem sameStmt_any (op n : Int) (s : ByteArray) (A : Option Addr) (k cap : Nat) (X : Option Addr) (kx capx : Nat) (Y : Option Addr) (ky capy : Nat) (op' n' : Int) (s' : ByteArray) (A' : Option Addr) (k' cap' : Nat) (X' : Option Addr) (kx' capx' : Nat) (Y' : Option Addr) (ky' capy' : Nat) (bl bx by' : Bool) (w : World)
    (H : SameL 36 37 (.slice A k cap) (.slice A' k' cap') bl w)
    (HX : SameL 17 18 (.slice X kx capx) (.slice X' kx' capx') bx w)
    (HY : SameL 17 18 (.slice Y ky capy) (.slice Y' ky' capy') by' w) :
    Calls Tryd.prog 18 #[.agg #[.int .i64 op, .string s, .int .i64 n, .slice A k cap, .slice X kx capx, .slice Y ky capy], .agg #[.int .i64 op', .string s', .int .i64 n', .slice A' k' cap', .slice X' kx' capx', .slice Y' ky' capy']] w fun e w' =>
      e = .returned (.bool ((op == op') && (eqT s s' && ((n == n') && (bl && (bx && by')))))) ∧ Below w.heap.size w w' := by
  have hW : ∀ o o', Below w.heap.size w ((w.alloc o).alloc o') := fun o o' => ((Below.refl _ _).alloc (Nat.le_refl _) o).alloc (by simp) o'
  have H2 := fun o o' => H _ (hW o o')
  simp only [World.size_alloc] at H2
  have HW := Lib.hid hW
  clear hW H
  have HX2 := fun W h => HX W h
  have HY2 := fun W h => HY W h
  clear HX HY
  unfold eqT
  cases h1 : (op == op') with
  | false =>
    clear H2 HX2 HY2
    go_enter Tryd.func18, Tryd.ntmps18
    go_wp2
    go_ret
    exact ⟨rfl, HW.out _ _⟩
  | true =>
    cases h2 : (s.toList == s'.toList) with
    | false =>
      clear H2 HX2 HY2
      go_enter Tryd.func18, Tryd.ntmps18
      go_wp2
      go_ret
      exact ⟨rfl, HW.out _ _⟩
    | true =>
      cases h3 : (n == n') with
      | false =>
        clear H2 HX2 HY2
        go_enter Tryd.func18, Tryd.ntmps18
        go_wp2
        go_ret
        exact ⟨rfl, HW.out _ _⟩
      | true =>
        cases bl with
        | false =>
          clear HX2 HY2
          go_enter Tryd.func18, Tryd.ntmps18
          go_wp2_with (go_at_call 36; ((with_reducible refine (H2 _ _).mono ?_); rintro e w1 ⟨rfl, hb1⟩; obtain ⟨hc1, hf1⟩ := bcell hb1))
          go_ret
          exact ⟨rfl, (HW.out _ _).trans (hb1.mono (by omega))⟩
        | true =>
          cases bx with
          | false =>
            clear HY2
            go_enter Tryd.func18, Tryd.ntmps18
            go_wp2_with (first
              | (go_at_call 36; ((with_reducible refine (H2 _ _).mono ?_); rintro e w1 ⟨rfl, hb1⟩; obtain ⟨hc1, hf1⟩ := bcell hb1; have hq1 := (HW.out _ _).trans (hb1.mono (by omega)); have HX3 := HX2 w1 hq1))
              | (go_at_call 17; ((with_reducible refine HX3.mono ?_); rintro e w2 ⟨rfl, hb2⟩)))
            go_ret
            exact ⟨rfl, hq1.trans (hb2.mono hq1.size)⟩
          | true =>
            go_enter Tryd.func18, Tryd.ntmps18
            go_wp2_with (first
              | (go_at_call 36; ((with_reducible refine (H2 _ _).mono ?_); rintro e w1 ⟨rfl, hb1⟩; obtain ⟨hc1, hf1⟩ := bcell hb1; have hz1 : w.heap.size < w1.heap.size := (by have := hb1.size; simp at this; omega); have hz2 : w.heap.size + 1 < w1.heap.size := (by have := hb1.size; simp at this; omega); have hq1 := (HW.out _ _).trans (hb1.mono (by omega)); have HX3 := HX2 w1 hq1; clear HX2))
              | (go_at_call 17; ((with_reducible refine HX3.mono ?_); clear HX3; rintro e w2 ⟨rfl, hb2⟩; obtain ⟨hc2, hf2⟩ := bcell hb2; have hq2 := hq1.trans (hb2.mono hq1.size); have HY3 := HY2 w2 hq2; clear HY2))
              | (go_at_call 17; ((with_reducible refine HY3.mono ?_); rintro e w3 ⟨rfl, hb3⟩)))
            go_ret
            exact ⟨rfl, hq2.trans (hb3.mono hq2.size)⟩

set_option maxRecDepth 100000 in
set_option maxHeartbeats 8000000 in
theorem equalS_any (K : Nat) : ∀ (a a' : SS) (A A' : Option Addr) (cap cap' : Nat) (B : Nat) (w : World), a.cnt ≤ K → B ≤ w.heap.size → SV B w (.slice A a.len cap) a → SV B w (.slice A' a'.len cap') a' →
    Calls Tryd.prog 17 #[.slice A a.len cap, .slice A' a'.len cap', .func (.func 18) #[] #[]] w fun e w' => e = .returned (.bool (eqS a a')) ∧ Below w.heap.size w w' := by
  induction K using Nat.strongRecOn with
  | ind K ih =>
    intro a a' A A' cap cap' B w hK hB hv hv'
    obtain ⟨A1, cap1, e1, hc1, hc2, hrow⟩ := hv
    injection e1 with e2 e3 e4
    subst e2 e4
    clear e3
    obtain ⟨A1, cap1, e1, hc1', hc2', hrow'⟩ := hv'
    injection e1 with e2 e3 e4
    subst e2 e4
    clear e3
    obtain ⟨len, hlen⟩ : ∃ len, a.len = len := ⟨_, rfl⟩
    obtain ⟨len', hlen'⟩ : ∃ len, a'.len = len := ⟨_, rfl⟩
    by_cases hne : len = len'
    · subst hne
      rw [hlen] at hc1 hrow ⊢
      rw [hlen'] at hc1' hrow' ⊢
      have HL := Lib.hid hlen; clear hlen
      have HL' := Lib.hid hlen'; clear hlen'
      have IH := fun (l l' : SS) (A A' : Option Addr) (cap cap' : Nat) (hl : l.cnt < K) (h3 : SV B w (.slice A l.len cap) l) (h3' : SV B w (.slice A' l'.len cap') l') (W : World) (hb : Below w.heap.size w W) =>
        ih _ hl l l' A A' cap cap' B W (Nat.le_refl _) (Nat.le_trans hB hb.size) (h3.below (hb.mono hB) (Nat.le_refl _)) (h3'.below (hb.mono hB) (Nat.le_refl _))
      clear ih
      go_enter Tryd.func17, Tryd.ntmps17
      go_wp2
      go_loopw [17] (fun i wr => ∃ (k : Nat) (r r' : SS), i = .int .i64 k ∧ k + r.len = len ∧ k + r'.len = len ∧ eqS a a' = eqS r r' ∧ r.cnt ≤ K ∧ (0 < r.len → ∃ b o, A = some ⟨b, o, none⟩ ∧ b < B ∧ r.In B w b (o + k * 6)) ∧ (0 < r'.len → ∃ b o, A' = some ⟨b, o, none⟩ ∧ b < B ∧ r'.In B w b (o + k * 6)) ∧ Below w.heap.size w wr) (fun i _ => len - (intOf i).toNat)
      case atStart => exact ⟨0, a, a', rfl, by have := HL.out; omega, by have := HL'.out; omega, rfl, hK, by simpa [HL.out] using hrow, by simpa [HL'.out] using hrow', Below.refl _ _⟩
      case round =>
        obtain ⟨k, r, r', rfl, hk, hk', ho, hrK, hr1, hr2, hW⟩ := hrel
        have HO := Lib.hid ho; clear ho
        cases r with
        | nil =>
          have hk0 : k = len := by simpa [SS.len] using hk
          subst hk0
          cases r' with
          | cons op s n l x y r => simp [SS.len] at hk'
          | nil =>
            clear hk hk' hrow hrow' hr1 hr2
            go_wp2
            go_ret
            exact ⟨ret_bool (by rw [HO.out]; exact ((eqS_iff _ _).2 rfl).symm), hW⟩
        | cons op s n l x y r =>
          cases r' with
          | nil => simp [SS.len] at hk hk'; omega
          | cons op' s' n' l' x' y' r' =>
            obtain ⟨b, o, rfl, hb, c0, c1, c2, ⟨v3, c3, h3⟩, ⟨v4, c4, h4⟩, ⟨v5, c5, h5⟩, h6, hr⟩ := hr1 (by simp [SS.len])
            obtain ⟨b', o', rfl, hb', c0', c1', c2', ⟨v3', c3', h3'⟩, ⟨v4', c4', h4'⟩, ⟨v5', c5', h5'⟩, h6', hr'⟩ := hr2 (by simp [SS.len])
            clear hrow hrow' hr1 hr2
            obtain ⟨A6, cap6, rfl, _⟩ := id h3
            obtain ⟨A7, cap7, rfl, _⟩ := id h3'
            obtain ⟨A8, cap8, rfl, _⟩ := id h4
            obtain ⟨A9, cap9, rfl, _⟩ := id h4'
            obtain ⟨A10, cap10, rfl, _⟩ := id h5
            obtain ⟨A11, cap11, rfl, _⟩ := id h5'
            have hlt : k < len := by simp [SS.len] at hk; omega
            have HK := Lib.hid hk; clear hk
            have HK' := Lib.hid hk'; clear hk'
            have hbw : b < w.heap.size := by omega
            have hbw' : b' < w.heap.size := by omega
            have hz : b < wr.heap.size := by have := hW.size; omega
            have hz' : b' < wr.heap.size := by have := hW.size; omega
            have d0 := (hW.cell (p := ⟨b, o + k * 6, none⟩) hbw).trans c0
            have d1 := (hW.cell (p := ⟨b, o + k * 6 + 1, none⟩) hbw).trans c1
            have d2 := (hW.cell (p := ⟨b, o + k * 6 + 2, none⟩) hbw).trans c2
            have d3 := (hW.cell (p := ⟨b, o + k * 6 + 3, none⟩) hbw).trans c3
            have d0' := (hW.cell (p := ⟨b', o' + k * 6, none⟩) hbw').trans c0'
            have d1' := (hW.cell (p := ⟨b', o' + k * 6 + 1, none⟩) hbw').trans c1'
            have d2' := (hW.cell (p := ⟨b', o' + k * 6 + 2, none⟩) hbw').trans c2'
            have d3' := (hW.cell (p := ⟨b', o' + k * 6 + 3, none⟩) hbw').trans c3'
            have d4 := (hW.cell (p := ⟨b, o + k * 6 + 4, none⟩) hbw).trans c4
            have d5 := (hW.cell (p := ⟨b, o + k * 6 + 5, none⟩) hbw).trans c5
            have d4' := (hW.cell (p := ⟨b', o' + k * 6 + 4, none⟩) hbw').trans c4'
            have d5' := (hW.cell (p := ⟨b', o' + k * 6 + 5, none⟩) hbw').trans c5'
            clear c0 c1 c2 c3 c4 c5 c0' c1' c2' c3' c4' c5'
            have hcnt : (x.cnt < K ∧ y.cnt < K) ∧ r.cnt ≤ K := by simp only [SS.cnt] at hrK; omega
            have hW2 : ∀ o o', Below w.heap.size w ((wr.alloc o).alloc o') := fun o o' => (hW.alloc hW.size o).alloc (by have := hW.size; simp; omega) o'
            have HS := fun C C' => sameStmt_any op n s A6 l.len cap6 A8 x.len cap8 A10 y.len cap10 op' n' s' A7 l'.len cap7 A9 x'.len cap9 A11 y'.len cap11 (eqE l l') (eqS x x') (eqS y y') ((wr.alloc C).alloc C')
              (fun W hb => equalE_any _ l l' A6 A7 cap6 cap7 B W (Nat.le_refl _) (Nat.le_trans hB ((hW2 C C').trans (hb.mono (hW2 C C').size)).size) (EV.below h3 (((hW2 C C').trans (hb.mono (hW2 C C').size)).mono hB) (Nat.le_refl _)) (EV.below h3' (((hW2 C C').trans (hb.mono (hW2 C C').size)).mono hB) (Nat.le_refl _)))
              (fun W hb => IH x x' A8 A9 cap8 cap9 hcnt.1.1 h4 h4' W ((hW2 C C').trans (hb.mono (hW2 C C').size)))
              (fun W hb => IH y y' A10 A11 cap10 cap11 hcnt.1.2 h5 h5' W ((hW2 C C').trans (hb.mono (hW2 C C').size)))
            have HC := Lib.hid (eqS_cons op s n l x y r op' s' n' l' x' y' r')
            clear IH h3 h3' h4 h4' h5 h5'
            have HW2 := Lib.hid hW2
            clear hW2
            obtain ⟨bb, hbb⟩ : ∃ bb, ((op == op') && (eqT s s' && ((n == n') && (eqE l l' && (eqS x x' && eqS y y'))))) = bb := ⟨_, rfl⟩
            rw [hbb] at HS HC
            clear hbb
            cases bb with
            | false =>
              go_wp2_with (go_at_call 18; ((with_reducible refine (HS _ _).mono ?_); rintro e w1 ⟨rfl, hb1⟩))
              go_ret
              exact ⟨ret_bool (by rw [HO.out, HC.out]; rfl), (HW2.out _ _).trans (hb1.mono (HW2.out _ _).size)⟩
            | true =>
              go_wp2_with (go_at_call 18; ((with_reducible refine (HS _ _).mono ?_); rintro e w1 ⟨rfl, hb1⟩))
              go_roundw
              case rel => exact ⟨k + 1, r, r', by go_num, by have := HK.out; simp [SS.len] at this; omega, by have := HK'.out; simp [SS.len] at this; omega, by rw [HO.out, HC.out]; rfl, hcnt.2, fun _ => ⟨b, o, rfl, hb, by rw [show o + (k + 1) * 6 = o + k * 6 + 6 by omega]; exact hr⟩, fun _ => ⟨b', o', rfl, hb', by rw [show o' + (k + 1) * 6 = o' + k * 6 + 6 by omega]; exact hr'⟩, (HW2.out _ _).trans (hb1.mono (HW2.out _ _).size)⟩
              case measure => simp [intOf]; omega
    · have hE : eqS a a' = false := eqS_len (by omega)
      rw [hE, hlen, hlen']
      have hz : len ≤ 9223372036854775807 := by omega
      have hz' : len' ≤ 9223372036854775807 := by omega
      clear hrow hrow' ih hE
      go_enter Tryd.func17, Tryd.ntmps17
      go_wp2
      go_ret
      exact ⟨rfl, Below.refl _ _⟩

end Go.Proofs.YtmpdnikabkandaaDoor

/-
  Equal: names of parameters, functions, programs.
-/
namespace Go.Proofs.YtmpdnikabkandaaDoor
open Go Go.RowKit Go.Shelf

theorem drewN_below (w : World) (n : Nat) : Below w.heap.size w (w.drewN n) := ⟨rfl, rfl, rfl, Nat.le_refl _, fun _ _ => rfl⟩

noncomputable def eqP (a b : List ByteArray) : Bool := @decide (a = b) (Classical.propDecidable _)
theorem eqP_iff (a b : List ByteArray) : eqP a b = true ↔ a = b := by unfold eqP; exact @decide_eq_true_iff _ (Classical.propDecidable _)
theorem eqP_cons (s : ByteArray) (r : List ByteArray) (s' : ByteArray) (r' : List ByteArray) : eqP (s :: r) (s' :: r') = (eqT s s' && eqP r r') := by
  apply bool_ext
  simp only [Bool.and_eq_true, eqP_iff, eqT_iff, List.cons.injEq]
theorem eqP_len {a b : List ByteArray} (h : a.length ≠ b.length) : eqP a b = false := by
  cases hh : eqP a b with
  | false => rfl
  | true => exact absurd (by rw [(eqP_iff a b).1 hh]) h
noncomputable def eqF (a b : List Fn) : Bool := @decide (a = b) (Classical.propDecidable _)
theorem eqF_iff (a b : List Fn) : eqF a b = true ↔ a = b := by unfold eqF; exact @decide_eq_true_iff _ (Classical.propDecidable _)
theorem eqF_cons (f : Fn) (r : List Fn) (f' : Fn) (r' : List Fn) : eqF (f :: r) (f' :: r') = ((eqT f.s f'.s && (eqP f.ps f'.ps && eqS f.b f'.b)) && eqF r r') := by
  apply bool_ext
  cases f; cases f'
  simp only [Bool.and_eq_true, eqF_iff, eqP_iff, eqS_iff, eqT_iff, List.cons.injEq, Fn.mk.injEq]
theorem eqF_len {a b : List Fn} (h : a.length ≠ b.length) : eqF a b = false := by
  cases hh : eqF a b with
  | false => rfl
  | true => exact absurd (by rw [(eqF_iff a b).1 hh]) h

set_option maxRecDepth 100000 in
set_option maxHeartbeats 4000000 in
theorem equalP_any (a a' : List ByteArray) (A A' : Option Addr) (cap cap' : Nat) (B : Nat) (w : World) (hv : RowV (PsIn w a) B a.length (.slice A a.length cap)) (hv' : RowV (PsIn w a') B a'.length (.slice A' a'.length cap')) :
    Calls Tryd.prog 35 #[.slice A a.length cap, .slice A' a'.length cap'] w fun e w' => e = .returned (.bool (eqP a a')) ∧ Below w.heap.size w w' := by
  obtain ⟨A1, cap1, e1, hc1, hc2, hrow⟩ := hv
  injection e1 with e2 e3 e4
  subst e2 e4
  clear e3
  obtain ⟨A1, cap1, e1, hc1', hc2', hrow'⟩ := hv'
  injection e1 with e2 e3 e4
  subst e2 e4
  clear e3
  obtain ⟨len, hlen⟩ : ∃ len, a.length = len := ⟨_, rfl⟩
  obtain ⟨len', hlen'⟩ : ∃ len, a'.length = len := ⟨_, rfl⟩
  by_cases hne : len = len'
  · subst hne
    rw [hlen] at hc1 hrow ⊢
    rw [hlen'] at hc1' hrow' ⊢
    have HL := Lib.hid hlen; clear hlen
    have HL' := Lib.hid hlen'; clear hlen'
    go_enter Tryd.func35, Tryd.ntmps35
    go_wp2
    go_loopw [13] (fun i wr => ∃ (k : Nat) (r r' : List ByteArray), i = .int .i64 k ∧ k + r.length = len ∧ k + r'.length = len ∧ eqP a a' = eqP r r' ∧ (0 < r.length → ∃ b o, A = some ⟨b, o, none⟩ ∧ b < B ∧ PsIn w r b (o + k)) ∧ (0 < r'.length → ∃ b o, A' = some ⟨b, o, none⟩ ∧ b < B ∧ PsIn w r' b (o + k)) ∧ ∃ n, wr = w.drewN n) (fun i _ => len - (intOf i).toNat)
    case atStart => exact ⟨0, a, a', rfl, by have := HL.out; omega, by have := HL'.out; omega, rfl, by simpa [HL.out] using hrow, by simpa [HL'.out] using hrow', 0, rfl⟩
    case round =>
      obtain ⟨k, r, r', rfl, hk, hk', ho, hr1, hr2, n, rfl⟩ := hrel
      have HO := Lib.hid ho; clear ho
      cases r with
      | nil =>
        have hk0 : k = len := by simpa using hk
        subst hk0
        cases r' with
        | cons s r => simp at hk'
        | nil =>
          clear hk hk' hrow hrow' hr1 hr2
          go_wp2
          go_ret
          exact ⟨ret_bool (by rw [HO.out]; exact ((eqP_iff _ _).2 rfl).symm), drewN_below _ _⟩
      | cons s r =>
        cases r' with
        | nil => simp at hk hk'; omega
        | cons s' r' =>
          obtain ⟨b, o, rfl, hb, c0, hs, hr⟩ := hr1 (by simp)
          obtain ⟨b', o', rfl, hb', c0', hs', hr'⟩ := hr2 (by simp)
          clear hrow hrow' hr1 hr2
          have hlt : k < len := by simp at hk; omega
          have hltc : k < cap := by omega
          have HK := Lib.hid hk; clear hk
          have HK' := Lib.hid hk'; clear hk'
          have HC := Lib.hid (eqP_cons s r s' r')
          have i0 : (0 : Int) ≤ (k : Int) := by omega
          have i1 : (k : Int) < (len : Int) := by omega
          cases ht : eqT s s' with
          | true =>
            have ht2 : (s.toList == s'.toList) = true := ht
            have ht3 : (s.toList != s'.toList) = false := by rw [bne, ht2]; rfl
            have HT := Lib.hid ht; clear ht
            go_wp2
            go_quiet (fail)
            go_wp2
            go_roundw
            case rel => exact ⟨k + 1, r, r', by go_num, by have := HK.out; simp at this; omega, by have := HK'.out; simp at this; omega, by rw [HO.out, HC.out, HT.out]; rfl, fun _ => ⟨b, o, rfl, hb, by rw [show o + (k + 1) = o + k + 1 by omega]; exact hr⟩, fun _ => ⟨b', o', rfl, hb', by rw [show o' + (k + 1) = o' + k + 1 by omega]; exact hr'⟩, _, rfl⟩
            case measure => simp [intOf]; omega
          | false =>
            have ht2 : (s.toList == s'.toList) = false := ht
            have ht3 : (s.toList != s'.toList) = true := by rw [bne, ht2]; rfl
            have HT := Lib.hid ht; clear ht
            go_wp2
            go_quiet (fail)
            go_wp2
            go_ret
            exact ⟨ret_bool (by rw [HO.out, HC.out, HT.out]; rfl), by rw [World.drewN_drewN]; exact drewN_below _ _⟩
  · have hE : eqP a a' = false := eqP_len (by omega)
    rw [hE, hlen, hlen']
    have hz : len ≤ 9223372036854775807 := by omega
    have hz' : len' ≤ 9223372036854775807 := by omega
    clear hrow hrow' hE
    go_enter Tryd.func35, Tryd.ntmps35
    go_wp2
    go_ret
    exact ⟨rfl, Below.refl _ _⟩

set_option maxHeartbeats 4000000 in
theorem sameFunc_any (s : ByteArray) (A : Option Addr) (k cap : Nat) (X : Option Addr) (kx capx : Nat) (s' : ByteArray) (A' : Option Addr) (k' cap' : Nat) (X' : Option Addr) (kx' capx' : Nat) (bl bx : Bool) (w : World)
    (H : ∀ W, Below w.heap.size w W → Calls Tryd.prog 35 #[.slice A k cap, .slice A' k' cap'] W fun e w' => e = .returned (.bool bl) ∧ Below W.heap.size W w')
    (HX : SameL 17 18 (.slice X kx capx) (.slice X' kx' capx') bx w) :
    Calls Tryd.prog 16 #[.agg #[.string s, .slice A k cap, .slice X kx capx], .agg #[.string s', .slice A' k' cap', .slice X' kx' capx']] w fun e w' =>
      e = .returned (.bool (eqT s s' && (bl && bx))) ∧ Below w.heap.size w w' := by
  have hW : ∀ o o', Below w.heap.size w ((w.alloc o).alloc o') := fun o o' => ((Below.refl _ _).alloc (Nat.le_refl _) o).alloc (by simp) o'
  have H2 := fun o o' => H _ (hW o o')
  simp only [World.size_alloc] at H2
  have HW := Lib.hid hW
  clear hW H
  have HX2 := fun W h => HX W h
  clear HX
  unfold eqT
  cases h2 : (s.toList == s'.toList) with
  | false =>
    clear H2 HX2
    go_enter Tryd.func16, Tryd.ntmps16
    go_wp2
    go_ret
    exact ⟨rfl, HW.out _ _⟩
  | true =>
    cases bl with
    | false =>
      clear HX2
      go_enter Tryd.func16, Tryd.ntmps16
      go_wp2_with (go_at_call 35; ((with_reducible refine (H2 _ _).mono ?_); rintro e w1 ⟨rfl, hb1⟩; obtain ⟨hc1, hf1⟩ := bcell hb1))
      go_ret
      exact ⟨rfl, (HW.out _ _).trans (hb1.mono (by omega))⟩
    | true =>
      go_enter Tryd.func16, Tryd.ntmps16
      go_wp2_with (first
        | (go_at_call 35; ((with_reducible refine (H2 _ _).mono ?_); rintro e w1 ⟨rfl, hb1⟩; obtain ⟨hc1, hf1⟩ := bcell hb1; have hq1 := (HW.out _ _).trans (hb1.mono (by omega)); have HX3 := HX2 w1 hq1))
        | (go_at_call 17; ((with_reducible refine HX3.mono ?_); rintro e w2 ⟨rfl, hb2⟩)))
      go_ret
      exact ⟨rfl, hq1.trans (hb2.mono hq1.size)⟩

set_option maxRecDepth 100000 in
set_option maxHeartbeats 8000000 in
theorem equalF_any (a a' : List Fn) (A A' : Option Addr) (cap cap' : Nat) (B : Nat) (w : World) (hB : B ≤ w.heap.size) (hv : FV B w (.slice A a.length cap) a) (hv' : FV B w (.slice A' a'.length cap') a') :
    Calls Tryd.prog 15 #[.slice A a.length cap, .slice A' a'.length cap', .func (.func 16) #[] #[]] w fun e w' => e = .returned (.bool (eqF a a')) ∧ Below w.heap.size w w' := by
  obtain ⟨A1, cap1, e1, hc1, hc2, hrow⟩ := hv
  injection e1 with e2 e3 e4
  subst e2 e4
  clear e3
  obtain ⟨A1, cap1, e1, hc1', hc2', hrow'⟩ := hv'
  injection e1 with e2 e3 e4
  subst e2 e4
  clear e3
  obtain ⟨len, hlen⟩ : ∃ len, a.length = len := ⟨_, rfl⟩
  obtain ⟨len', hlen'⟩ : ∃ len, a'.length = len := ⟨_, rfl⟩
  by_cases hne : len = len'
  · subst hne
    rw [hlen] at hc1 hrow ⊢
    rw [hlen'] at hc1' hrow' ⊢
    have HL := Lib.hid hlen; clear hlen
    have HL' := Lib.hid hlen'; clear hlen'
    go_enter Tryd.func15, Tryd.ntmps15
    go_wp2
    go_loopw [17] (fun i wr => ∃ (k : Nat) (r r' : List Fn), i = .int .i64 k ∧ k + r.length = len ∧ k + r'.length = len ∧ eqF a a' = eqF r r' ∧ (0 < r.length → ∃ b o, A = some ⟨b, o, none⟩ ∧ b < B ∧ FsIn B w r b (o + k * 3)) ∧ (0 < r'.length → ∃ b o, A' = some ⟨b, o, none⟩ ∧ b < B ∧ FsIn B w r' b (o + k * 3)) ∧ Below w.heap.size w wr) (fun i _ => len - (intOf i).toNat)
    case atStart => exact ⟨0, a, a', rfl, by have := HL.out; omega, by have := HL'.out; omega, rfl, by simpa [HL.out] using hrow, by simpa [HL'.out] using hrow', Below.refl _ _⟩
    case round =>
      obtain ⟨k, r, r', rfl, hk, hk', ho, hr1, hr2, hW⟩ := hrel
      have HO := Lib.hid ho; clear ho
      cases r with
      | nil =>
        have hk0 : k = len := by simpa  using hk
        subst hk0
        cases r' with
        | cons f r => simp at hk'
        | nil =>
          clear hk hk' hrow hrow' hr1 hr2
          go_wp2
          go_ret
          exact ⟨ret_bool (by rw [HO.out]; exact ((eqF_iff _ _).2 rfl).symm), hW⟩
      | cons f r =>
        cases r' with
        | nil => simp  at hk hk'; omega
        | cons f' r' =>
          obtain ⟨b, o, rfl, hb, c0, ⟨v1, c1, h3⟩, ⟨v2, c2, h4⟩, h6, hr⟩ := hr1 (by simp)
          obtain ⟨b', o', rfl, hb', c0', ⟨v1', c1', h3'⟩, ⟨v2', c2', h4'⟩, h6', hr'⟩ := hr2 (by simp)
          clear hrow hrow' hr1 hr2
          obtain ⟨A6, cap6, rfl, _⟩ := id h3
          obtain ⟨A7, cap7, rfl, _⟩ := id h3'
          obtain ⟨A8, cap8, rfl, _⟩ := id h4
          obtain ⟨A9, cap9, rfl, _⟩ := id h4'
          have hlt : k < len := by simp  at hk; omega
          have HK := Lib.hid hk; clear hk
          have HK' := Lib.hid hk'; clear hk'
          have hbw : b < w.heap.size := by omega
          have hbw' : b' < w.heap.size := by omega
          have hz : b < wr.heap.size := by have := hW.size; omega
          have hz' : b' < wr.heap.size := by have := hW.size; omega
          have d0 := (hW.cell (p := ⟨b, o + k * 3, none⟩) hbw).trans c0
          have d1 := (hW.cell (p := ⟨b, o + k * 3 + 1, none⟩) hbw).trans c1
          have d2 := (hW.cell (p := ⟨b, o + k * 3 + 2, none⟩) hbw).trans c2
          have d0' := (hW.cell (p := ⟨b', o' + k * 3, none⟩) hbw').trans c0'
          have d1' := (hW.cell (p := ⟨b', o' + k * 3 + 1, none⟩) hbw').trans c1'
          have d2' := (hW.cell (p := ⟨b', o' + k * 3 + 2, none⟩) hbw').trans c2'
          clear c0 c1 c2 c0' c1' c2'
          have hW2 : ∀ o o', Below w.heap.size w ((wr.alloc o).alloc o') := fun o o' => (hW.alloc hW.size o).alloc (by have := hW.size; simp; omega) o'
          have HS := fun C C' => sameFunc_any f.s A6 f.ps.length cap6 A8 f.b.len cap8 f'.s A7 f'.ps.length cap7 A9 f'.b.len cap9 (eqP f.ps f'.ps) (eqS f.b f'.b) ((wr.alloc C).alloc C')
            (fun W hb => equalP_any f.ps f'.ps A6 A7 cap6 cap7 B W (h3.imp (Nat.le_refl _) fun b o hb' hp => PsIn.below (((hW2 C C').trans (hb.mono (hW2 C C').size)).mono hB) hb' hp) (h3'.imp (Nat.le_refl _) fun b o hb' hp => PsIn.below (((hW2 C C').trans (hb.mono (hW2 C C').size)).mono hB) hb' hp))
            (fun W hb => equalS_any _ f.b f'.b A8 A9 cap8 cap9 B W (Nat.le_refl _) (Nat.le_trans hB ((hW2 C C').trans (hb.mono (hW2 C C').size)).size) (SV.below h4 (((hW2 C C').trans (hb.mono (hW2 C C').size)).mono hB) (Nat.le_refl _)) (SV.below h4' (((hW2 C C').trans (hb.mono (hW2 C C').size)).mono hB) (Nat.le_refl _)))
          have HC := Lib.hid (eqF_cons f r f' r')
          clear h3 h3' h4 h4'
          have HW2 := Lib.hid hW2
          clear hW2
          obtain ⟨bb, hbb⟩ : ∃ bb, (eqT f.s f'.s && (eqP f.ps f'.ps && eqS f.b f'.b)) = bb := ⟨_, rfl⟩
          rw [hbb] at HC
          have HS := fun C C' => (HS C C')
          simp only [hbb] at HS
          clear hbb
          cases bb with
          | false =>
            go_wp2_with (go_at_call 16; ((with_reducible refine (HS _ _).mono ?_); rintro e w1 ⟨rfl, hb1⟩))
            go_ret
            exact ⟨ret_bool (by rw [HO.out, HC.out]; rfl), (HW2.out _ _).trans (hb1.mono (HW2.out _ _).size)⟩
          | true =>
            go_wp2_with (go_at_call 16; ((with_reducible refine (HS _ _).mono ?_); rintro e w1 ⟨rfl, hb1⟩))
            go_roundw
            case rel => exact ⟨k + 1, r, r', by go_num, by have := HK.out; simp  at this; omega, by have := HK'.out; simp  at this; omega, by rw [HO.out, HC.out]; rfl, fun _ => ⟨b, o, rfl, hb, by rw [show o + (k + 1) * 3 = o + k * 3 + 3 by omega]; exact hr⟩, fun _ => ⟨b', o', rfl, hb', by rw [show o' + (k + 1) * 3 = o' + k * 3 + 3 by omega]; exact hr'⟩, (HW2.out _ _).trans (hb1.mono (HW2.out _ _).size)⟩
            case measure => simp [intOf]; omega
  · have hE : eqF a a' = false := eqF_len (by omega)
    rw [hE, hlen, hlen']
    have hz : len ≤ 9223372036854775807 := by omega
    have hz' : len' ≤ 9223372036854775807 := by omega
    clear hrow hrow' hE
    go_enter Tryd.func15, Tryd.ntmps15
    go_wp2
    go_ret
    exact ⟨rfl, Below.refl _ _⟩


noncomputable def eqG (a b : Pg) : Bool := eqF a.fs b.fs && eqS a.m b.m
theorem eqG_iff (a b : Pg) : eqG a b = true ↔ a = b := by
  unfold eqG
  cases a; cases b
  simp only [Bool.and_eq_true, eqF_iff, eqS_iff, Pg.mk.injEq]

set_option maxHeartbeats 4000000 in
theorem equal_any (v v' : Value) (p p' : Pg) (w : World) (B : Nat) (hB : B ≤ w.heap.size) (hv : PgV B w v p) (hv' : PgV B w v' p') :
    Calls Tryd.prog 7 #[v, v'] w fun e w' => e = .returned (.bool (eqG p p')) ∧ Below w.heap.size w w' := by
  unfold eqG
  obtain ⟨A, cap, X, capx, rfl, h0, h1⟩ := hv
  obtain ⟨A', cap', X', capx', rfl, h0', h1'⟩ := hv'
  have hW : ∀ o o', Below w.heap.size w ((w.alloc o).alloc o') := fun o o' => ((Below.refl _ _).alloc (Nat.le_refl _) o).alloc (by simp) o'
  have H2 := fun o o' => equalF_any p.fs p'.fs A A' cap cap' B ((w.alloc o).alloc o') (Nat.le_trans hB (hW o o').size) (h0.below ((hW o o').mono hB) (Nat.le_refl _)) (h0'.below ((hW o o').mono hB) (Nat.le_refl _))
  have HX2 := fun W (hb : Below w.heap.size w W) => equalS_any _ p.m p'.m X X' capx capx' B W (Nat.le_refl _) (Nat.le_trans hB hb.size) (SV.below h1 (hb.mono hB) (Nat.le_refl _)) (SV.below h1' (hb.mono hB) (Nat.le_refl _))
  simp only [World.size_alloc] at H2
  have HW := Lib.hid hW
  clear hW h0 h0' h1 h1'
  cases hf : eqF p.fs p'.fs with
  | false =>
    clear HX2
    go_enter Tryd.func7, Tryd.ntmps7
    go_wp2_with (go_at_call 15; ((with_reducible refine (H2 _ _).mono ?_); rintro e w1 ⟨rfl, hb1⟩; obtain ⟨hc1, hf1⟩ := bcell hb1))
    go_ret
    exact ⟨rfl, (HW.out _ _).trans (hb1.mono (by omega))⟩
  | true =>
    go_enter Tryd.func7, Tryd.ntmps7
    go_wp2_with (first
      | (go_at_call 15; ((with_reducible refine (H2 _ _).mono ?_); rintro e w1 ⟨rfl, hb1⟩; obtain ⟨hc1, hf1⟩ := bcell hb1; have hq1 := (HW.out _ _).trans (hb1.mono (by omega)); have HX3 := HX2 w1 hq1))
      | (go_at_call 17; ((with_reducible refine HX3.mono ?_); rintro e w2 ⟨rfl, hb2⟩)))
    go_ret
    exact ⟨rfl, hq1.trans (hb2.mono hq1.size)⟩

end Go.Proofs.YtmpdnikabkandaaDoor

/-
  Small words that the walks of several layers use: the low sixteen bits, rows of bytes that stay, how many tokens there are.
-/
namespace Go.Proofs.YtmpdnikabkandaaDoor
open Go Go.RowKit Go.Lib

def pat (a : Int) : Nat := (a % 18446744073709551616).toNat
theorem pat_toNat (a : Int) : (BitVec.ofInt 64 a).toNat = pat a := by rw [BitVec.toNat_ofInt]; rfl
theorem low16 (a : Int) : 0 ≤ bits BinOp.and IntKind.i64 a 65535 ∧ bits BinOp.and IntKind.i64 a 65535 ≤ 65535 := by
  have e : bits BinOp.and IntKind.i64 a 65535 = wrap64 ((pat a &&& pat 65535 : Nat) : Int) := by
    show IntKind.i64.wrap ((BitVec.ofInt 64 a &&& BitVec.ofInt 64 65535).toNat : Int) = _
    rw [BitVec.toNat_and, pat_toNat, pat_toNat, IntWalk.i64_left]
  have h : pat a &&& pat 65535 ≤ 65535 := Nat.and_le_right
  rw [e]
  unfold wrap64
  omega

theorem Row.take {w : World} {A : Option Addr} {l : List UInt8} (h : Row w A l) (k : Nat) : Row w A (l.take k) := by
  intro h0
  rw [List.length_take] at h0
  obtain ⟨b, o, e, hb, hc⟩ := h (by omega)
  refine ⟨b, o, e, hb, fun i hi => ?_⟩
  rw [List.length_take] at hi
  rw [nth_take (by omega)]
  exact hc i (by omega)
theorem Row.below {w w' : World} {B : Nat} {A : Option Addr} {l : List UInt8} (h : Row w A l) (hb : Below B w w') (hB : w.heap.size ≤ B) : Row w' A l := by
  intro h0
  obtain ⟨b, o, e, hb', hc⟩ := h h0
  exact ⟨b, o, e, Nat.lt_of_lt_of_le hb' hb.size, fun i hi => (hb.cell (by simp only; omega)).trans (hc i hi)⟩
theorem Row.fr {w w' : World} {A : Option Addr} {l : List UInt8} (h : Row w A l) (hb : Fr w w') : Row w' A l := h.below hb (Nat.le_refl _)


theorem below_drew {B : Nat} {a w : World} (h : Below B a w) (n : Nat) : Below B a (w.drewN n) := h.trans ⟨rfl, rfl, rfl, Nat.le_refl _, fun _ _ => rfl⟩
theorem toks_le : ∀ (f p : Nat) (l : List UInt8) (ts : List Tok), l.length ≤ f → lexS p l = .ok ts → ts.length ≤ l.length
  | f, p, [], ts, _, h => by rw [lexS_nil] at h; injection h with h; subst h; exact Nat.le_refl _
  | 0, p, c :: r, ts, hf, _ => by simp at hf
  | f + 1, p, c :: r, ts, hf, h => by
    simp only [List.length_cons] at hf ⊢
    rcases ok_ways h with ⟨_, h2⟩ | ⟨h1, h2⟩ | ⟨h1, h2, h3, h4, ts', h5, rfl⟩
    · have := toks_le f _ r ts (by omega) h2; omega
    · have hm1 : 1 ≤ commL (c :: r) := by rw [commL_cons, if_neg (by rw [h1]; decide)]; omega
      have hd : ((c :: r).drop (commL (c :: r))).length = r.length + 1 - commL (c :: r) := by simp
      have := toks_le f _ _ ts (by rw [hd]; omega) h2; rw [hd] at this; omega
    · have hn1 := firstN_pos (c := c) (l := r) (fun e => h3 (.inl e))
      have hd : ((c :: r).drop (firstN (c :: r))).length = r.length + 1 - firstN (c :: r) := by simp
      have hn2 : firstN (c :: r) ≤ (c :: r).length := firstN_le
      simp only [List.length_cons] at hn2
      have := toks_le f _ _ ts' (by rw [hd]; omega) h5; rw [hd] at this
      simp only [List.length_cons]; omega
theorem fin_last {ts : List Tok} {j n : Nat} (h : ts.length + 1 = j + 1) : (fin ts n)[j]? = some ⟨4, [], n⟩ := by
  obtain rfl : ts.length = j := by omega
  simp [fin]
theorem fin_take {ts : List Tok} {i j n k : Nat} (hi : i < j) (hj : (ts.take j).length + 1 = j + 1) : ∃ t, ts[i]? = some t ∧ (fin (ts.take j) n)[i]? = some t ∧ (fin ts k)[i]? = some t := by
  rw [List.length_take] at hj
  have hl : i < ts.length := by omega
  refine ⟨ts[i], by simp [hl], ?_, ?_⟩
  · unfold fin; rw [List.getElem?_append_left (by rw [List.length_take]; omega)]; simp [hl, hi]
  · unfold fin; rw [List.getElem?_append_left hl]; simp [hl]

end Go.Proofs.YtmpdnikabkandaaDoor

