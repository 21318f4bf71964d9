/-
  step: the walk.
-/
import Derived.Test.YtbgjlmcagdgpkaaDoorVyZ
import Derived.Deep.RegionHeld3
namespace Go.Proofs.YtbgjlmcagdgpkaaDoor
open Go Go.RowKit Go.Lib

theorem InsIn.get {W : World} : ∀ {l : List (Int × Int × Int)} {b o i : Nat} {op a n : Int}, InsIn W l b o → l[i]? = some (op, a, n) → (W.cell? ⟨b, o + i * 3, none⟩ = some (.int .i64 op) ∧ W.cell? ⟨b, o + i * 3 + 1, none⟩ = some (.int .i64 a) ∧ W.cell? ⟨b, o + i * 3 + 2, none⟩ = some (.int .i64 n)) ∧ (I64 op ∧ I64 a ∧ I64 n)
  | (op', a', n') :: r, b, o, 0, op, a, n, h, e => by
    simp at e
    obtain ⟨rfl, rfl, rfl⟩ := e
    obtain ⟨h0, h1, h2, h3, _⟩ := h
    simp only [Nat.zero_mul, Nat.add_zero]
    exact ⟨⟨h0, h1, h2⟩, h3⟩
  | (op', a', n') :: r, b, o, i + 1, op, a, n, h, e => by
    obtain ⟨_, _, _, _, hr⟩ := h
    have := InsIn.get hr (i := i) (by simpa using e)
    rw [show o + (i + 1) * 3 = o + 3 + i * 3 by omega]
    exact this
theorem blk_set {w : World} {b : Nat} {cs : Array Value} {T : TypeId} {fr : Nat × Nat} (hb : w.heap[b]? = some (.cells cs T fr)) (o : Nat) (x : Value) : (w.setCell ⟨b, o, none⟩ x).heap[b]? = some (.cells (cs.setIfInBounds o x) T fr) := by
  simp [World.setCell, Array.getElem?_modify, hb]
/-- What the instruction at a place asks, once it may be there. -/
structure At1 (all : List Fv) (f : Fv) (st : Vs) (i : Nat) (op a m d t b : Int) : Prop where
  ins : f.L[i]? = some (op, a, m)
  dep : look st.D i = some d
  tk : takesB all op a = t
  bh : d - t + (kdOf op).leaves = b
theorem At1.eq {all : List Fv} {f : Fv} {st : Vs} {i : Nat} {op a m d t b : Int} (h : At1 all f st i op a m d t b) : Vs.step all f st i =
    if mayB f.v f.x all.length op a m = true ∧ t ≤ d then (if op = 18 then some st else if op = 15 then st.reach f.L.length a b else if op = 16 then (st.reach f.L.length a b).bind fun st => st.reach f.L.length ((i : Int) + 1) b else st.reach f.L.length ((i : Int) + 1) b) else none := by
  unfold Vs.step
  rw [h.ins, h.dep]
  simp only [h.tk, h.bh]

section
variable {B O M C : Nat} {w0 W : World} {Aa : Option Addr} {cl na ca k lo : Nat} {st : Vs} {all : List Fv} {f : Fv}
set_option maxRecDepth 100000 in
set_option maxHeartbeats 8000000 in
theorem step_any (Al : Option Addr) (len : Nat) (i : Nat) (h : Wk B O M C w0 f.s f.n f.v f.x (.slice Al len cl) (.slice Aa na ca) len k st W) (hlen : f.L.length = len) (hi : i < len) (hd : ∃ d, look st.D i = some d ∧ 0 ≤ d ∧ d < st.D.length)
    (hl : len ≤ 4611686018427387904) (hL : InV B w0 (.slice Al len cl) f.L) (hall : FvV B w0 (.slice Aa na ca) all) (hn : all.length = na) (hA : AllOk all) (hv : 0 ≤ f.v ∧ f.v ≤ 64) (hx : 0 ≤ f.x ∧ f.x ≤ 64) (ht : CT lo w0) (hloB : lo ≤ B) (hB : B ≤ w0.heap.size) :
    Calls Tryd.prog 25 #[.pointer (some ⟨O, 0, none⟩), .int .i64 (i : Int)] W fun e W' => e = .returned (.bool (Vs.step all f st i).isSome) ∧ Below B w0 W' ∧ ∀ st', Vs.step all f st i = some st' → Wk B O M C w0 f.s f.n f.v f.x (.slice Al len cl) (.slice Aa na ca) len k st' W' := by
  obtain ⟨d, hd, h0, hdl⟩ := hd
  have hins : f.L[i]? = some f.L[i] := List.getElem?_eq_getElem (by omega)
  obtain ⟨op, a, m, hopm⟩ : ∃ op a m, f.L[i] = (op, a, m) := ⟨_, _, _, rfl⟩
  rw [hopm] at hins
  obtain ⟨t, htk⟩ : ∃ t, takesB all op a = t := ⟨_, rfl⟩
  obtain ⟨b, hbh⟩ : ∃ b, d - t + (kdOf op).leaves = b := ⟨_, rfl⟩
  have H1 : At1 all f st i op a m d t b := ⟨hins, hd, htk, hbh⟩
  have hstep := H1.eq
  rw [hn, hlen] at hstep
  obtain ⟨A1, c1, e1, _, _, h3⟩ := hL
  rw [hlen] at e1 h3
  injection e1 with e1 e2 e3
  subst e1 e3
  obtain ⟨lb, lq, rfl, hlb, hin⟩ := h3 (by omega)
  obtain ⟨⟨p0, p1, p2⟩, q0, q1, q2⟩ := hin.get hins
  have hDlen : st.D.length ≤ len := by have := h.ok.sum; omega
  have lO := blk_lt h.box
  have hBW : B ≤ W.heap.size := by have := h.bO; omega
  have KC := Lib.hid (fun (W' : World) (hb : Below W.heap.size W W') => (⟨(hb.cell (p := ⟨O, 4, none⟩) lO).trans ((blk_cell h.box 4).trans rfl), (hb.cell (p := ⟨O, 6, none⟩) lO).trans ((blk_cell h.box 6).trans rfl),
    ((h.bel.trans (hb.mono hBW)).cell (p := ⟨lb, lq + i * 3, none⟩) hlb).trans p0, ((h.bel.trans (hb.mono hBW)).cell (p := ⟨lb, lq + i * 3 + 1, none⟩) hlb).trans p1, ((h.bel.trans (hb.mono hBW)).cell (p := ⟨lb, lq + i * 3 + 2, none⟩) hlb).trans p2,
    by have := (h.map.kept (grown_blw hb) (by simp)).look_plain i (by omega); rw [hd] at this; exact this⟩ :
    W'.cell? ⟨O, 4, none⟩ = some (.slice (some ⟨lb, lq, none⟩) len cl) ∧ W'.cell? ⟨O, 6, none⟩ = some (.map (some M)) ∧ W'.cell? ⟨lb, lq + i * 3, none⟩ = some (.int .i64 op) ∧ W'.cell? ⟨lb, lq + i * 3 + 1, none⟩ = some (.int .i64 a) ∧ W'.cell? ⟨lb, lq + i * 3 + 2, none⟩ = some (.int .i64 m) ∧
      (Instr.lookup 69 (.map (some M)) (.int .i64 (i : Int)) false).run Tryd.prog W' = .ok (.int .i64 d) W'))
  have HW := Lib.hid h
  have HALL := Lib.hid hall
  have HST := Lib.hid hstep
  have HTK := Lib.hid htk
  have HBH := Lib.hid hbh
  have HC := Lib.hid (fun W' (hb : Below W.heap.size W W') => (ht.on ((h.bel.trans (hb.mono hBW)).mono hloB) : CT lo W'))
  have i0 : (0 : Int) ≤ (i : Int) := by omega
  have i1 : (i : Int) < (len : Int) := by omega
  have hmx : Tryd.prog.follows .mixedOrders = true := by kernel_rfl
  clear hins hopm hstep htk hbh H1 hin h3 e2 p0 p1 p2 h hall ht hd
  go_enter Tryd.func25, Tryd.ntmps25
  go_upto_region 1 with fail
  refine wp_region_held_drew (S := fun W' => Below W.heap.size W W') (by kernel_rfl) (belowD (Below.refl _ _)) (fun hHeld => ?_)
  obtain ⟨W0, hW0⟩ : ∃ x, W.drew = x := ⟨_, rfl⟩
  rw [hW0] at hHeld ⊢
  refine wpAnyH_take (i := 0) (v := .pointer (some ⟨O, 0, none⟩)) rfl (by kernel_rfl) (by kernel_rfl) (by kernel_rfl) (fun _ _ _ h => h) (Or.inl ⟨by rfl, ?_⟩) (by assumption) ?_
  · intro W' hSw
    obtain ⟨l0, l1, l2, l3, l4, l5⟩ := KC.out W' hSw
    go_simp
  try simp only [Act.put, List.getElem_toArray, List.getElem_cons_zero, List.setIfInBounds_toArray, List.set_cons_zero, List.set_cons_succ]
  refine wpAnyH_take (i := 1) (v := .pointer (some ⟨O, 0, none⟩)) rfl (by kernel_rfl) (by kernel_rfl) (by kernel_rfl) (fun _ _ _ h => h) (Or.inl ⟨by rfl, ?_⟩) (by assumption) ?_
  · intro W' hSw
    obtain ⟨l0, l1, l2, l3, l4, l5⟩ := KC.out W' hSw
    go_simp
  try simp only [Act.put, List.getElem_toArray, List.getElem_cons_zero, List.getElem_cons_succ, List.setIfInBounds_toArray, List.set_cons_zero, List.set_cons_succ]
  refine wpAnyH_take (i := 2) (v := .pointer (some ⟨O, 0, none⟩)) rfl (by kernel_rfl) (by kernel_rfl) (by kernel_rfl) (fun _ _ _ h => h) (Or.inl ⟨by rfl, ?_⟩) (by assumption) ?_
  · intro W' hSw
    obtain ⟨l0, l1, l2, l3, l4, l5⟩ := KC.out W' hSw
    go_simp
  try simp only [Act.put, List.getElem_toArray, List.getElem_cons_zero, List.getElem_cons_succ, List.setIfInBounds_toArray, List.set_cons_zero, List.set_cons_succ]
  refine wpAnyH_take (i := 3) (v := .pointer (some ⟨O, 4, none⟩)) rfl (by kernel_rfl) (by kernel_rfl) (by kernel_rfl) (fun _ _ _ h => h) (Or.inl ⟨by rfl, ?_⟩) (by assumption) ?_
  · intro W' hSw
    obtain ⟨l0, l1, l2, l3, l4, l5⟩ := KC.out W' hSw
    go_simp
  try simp only [Act.put, List.getElem_toArray, List.getElem_cons_zero, List.getElem_cons_succ, List.setIfInBounds_toArray, List.set_cons_zero, List.set_cons_succ]
  refine wpAnyH_take (i := 4) (v := .slice (some ⟨lb, lq, none⟩) len cl) rfl (by kernel_rfl) (by kernel_rfl) (by kernel_rfl) (fun _ _ _ h => h) (Or.inl ⟨by rfl, ?_⟩) (by assumption) ?_
  · intro W' hSw
    obtain ⟨l0, l1, l2, l3, l4, l5⟩ := KC.out W' hSw
    go_simp
  try simp only [Act.put, List.getElem_toArray, List.getElem_cons_zero, List.getElem_cons_succ, List.setIfInBounds_toArray, List.set_cons_zero, List.set_cons_succ]
  refine wpAnyH_take (i := 5) (v := .int .i64 (i : Int)) rfl (by kernel_rfl) (by kernel_rfl) (by kernel_rfl) (fun _ _ _ h => h) (Or.inl ⟨by rfl, ?_⟩) (by assumption) ?_
  · intro W' hSw
    obtain ⟨l0, l1, l2, l3, l4, l5⟩ := KC.out W' hSw
    go_simp
  try simp only [Act.put, List.getElem_toArray, List.getElem_cons_zero, List.getElem_cons_succ, List.setIfInBounds_toArray, List.set_cons_zero, List.set_cons_succ]
  refine wpAnyH_take (i := 6) (v := .pointer (some ⟨lb, lq + i * 3, none⟩)) rfl (by kernel_rfl) (by kernel_rfl) (by kernel_rfl) (fun _ _ _ h => h) (Or.inl ⟨by rfl, ?_⟩) (by assumption) ?_
  · intro W' hSw
    obtain ⟨l0, l1, l2, l3, l4, l5⟩ := KC.out W' hSw
    go_simp
  try simp only [Act.put, List.getElem_toArray, List.getElem_cons_zero, List.getElem_cons_succ, List.setIfInBounds_toArray, List.set_cons_zero, List.set_cons_succ]
  refine wpAnyH_take (i := 7) (v := .agg #[.int .i64 op, .int .i64 a, .int .i64 m]) rfl (by kernel_rfl) (by kernel_rfl) (by kernel_rfl) (fun _ _ _ h => h) (Or.inl ⟨by rfl, ?_⟩) (by assumption) ?_
  · intro W' hSw
    obtain ⟨l0, l1, l2, l3, l4, l5⟩ := KC.out W' hSw
    go_simp
  try simp only [Act.put, List.getElem_toArray, List.getElem_cons_zero, List.getElem_cons_succ, List.setIfInBounds_toArray, List.set_cons_zero, List.set_cons_succ]
  refine wpAnyH_take (i := 8) (v := .pointer (some ⟨O, 0, none⟩)) rfl (by kernel_rfl) (by kernel_rfl) (by kernel_rfl) (fun _ _ _ h => h) (Or.inl ⟨by rfl, ?_⟩) (by assumption) ?_
  · intro W' hSw
    obtain ⟨l0, l1, l2, l3, l4, l5⟩ := KC.out W' hSw
    go_simp
  try simp only [Act.put, List.getElem_toArray, List.getElem_cons_zero, List.getElem_cons_succ, List.setIfInBounds_toArray, List.set_cons_zero, List.set_cons_succ]
  refine wpAnyH_take (i := 9) (v := .pointer (some ⟨O, 0, none⟩)) rfl (by kernel_rfl) (by kernel_rfl) (by kernel_rfl) (fun _ _ _ h => h) (Or.inl ⟨by rfl, ?_⟩) (by assumption) ?_
  · intro W' hSw
    obtain ⟨l0, l1, l2, l3, l4, l5⟩ := KC.out W' hSw
    go_simp
  try simp only [Act.put, List.getElem_toArray, List.getElem_cons_zero, List.getElem_cons_succ, List.setIfInBounds_toArray, List.set_cons_zero, List.set_cons_succ]
  refine wpAnyH_take (i := 10) (v := .pointer (some ⟨O, 6, none⟩)) rfl (by kernel_rfl) (by kernel_rfl) (by kernel_rfl) (fun _ _ _ h => h) (Or.inl ⟨by rfl, ?_⟩) (by assumption) ?_
  · intro W' hSw
    obtain ⟨l0, l1, l2, l3, l4, l5⟩ := KC.out W' hSw
    go_simp
  try simp only [Act.put, List.getElem_toArray, List.getElem_cons_zero, List.getElem_cons_succ, List.setIfInBounds_toArray, List.set_cons_zero, List.set_cons_succ]
  refine wpAnyH_take (i := 11) (v := .map (some M)) rfl (by kernel_rfl) (by kernel_rfl) (by kernel_rfl) (fun _ _ _ h => h) (Or.inl ⟨by rfl, ?_⟩) (by assumption) ?_
  · intro W' hSw
    obtain ⟨l0, l1, l2, l3, l4, l5⟩ := KC.out W' hSw
    go_simp
  try simp only [Act.put, List.getElem_toArray, List.getElem_cons_zero, List.getElem_cons_succ, List.setIfInBounds_toArray, List.set_cons_zero, List.set_cons_succ]
  refine wpAnyH_take (i := 12) (v := .int .i64 (i : Int)) rfl (by kernel_rfl) (by kernel_rfl) (by kernel_rfl) (fun _ _ _ h => h) (Or.inl ⟨by rfl, ?_⟩) (by assumption) ?_
  · intro W' hSw
    obtain ⟨l0, l1, l2, l3, l4, l5⟩ := KC.out W' hSw
    go_simp
  try simp only [Act.put, List.getElem_toArray, List.getElem_cons_zero, List.getElem_cons_succ, List.setIfInBounds_toArray, List.set_cons_zero, List.set_cons_succ]
  refine wpAnyH_take (i := 13) (v := .int .i64 d) rfl (by kernel_rfl) (by kernel_rfl) (by kernel_rfl) (fun _ _ _ h => h) (Or.inl ⟨by rfl, ?_⟩) (by assumption) ?_
  · intro W' hSw
    obtain ⟨l0, l1, l2, l3, l4, l5⟩ := KC.out W' hSw
    go_simp
  try simp only [Act.put, List.getElem_toArray, List.getElem_cons_zero, List.getElem_cons_succ, List.setIfInBounds_toArray, List.set_cons_zero, List.set_cons_succ]
  refine wpAnyH_ready (rs := [14]) (by kernel_rfl) (by simp) ?_
  refine AllReadyH.cons rfl (fun K hK => ?_) AllReadyH.nil
  go_simp
  obtain ⟨W1, hW1⟩ : ∃ x, W0.alloc (.cells #[.int .i64 0, .int .i64 0, .int .i64 0] 36) = x := ⟨_, rfl⟩
  have n1 : W1.heap[W0.heap.size]? = some (.cells #[.int .i64 0, .int .i64 0, .int .i64 0] 36) := by rw [← hW1]; exact heap_alloc_new _ _
  have hS1 : Below W.heap.size W W1 := by rw [← hW1]; exact hHeld.alloc hHeld.size _
  have hz0 : W.heap.size ≤ W0.heap.size := hHeld.size
  rw [hW1]
  refine hK.out _ _ hS1 (fun _ => ?_)
  clear hK K hW1
  try simp only [Act.put, List.getElem_toArray, List.getElem_cons_zero, List.getElem_cons_succ, List.setIfInBounds_toArray, List.set_cons_zero, List.set_cons_succ]
  refine wpAnyH_ready (rs := [15]) (by kernel_rfl) (by simp) ?_
  refine AllReadyH.cons rfl (fun K hK => ?_) AllReadyH.nil
  have y0 : W1.cell? ⟨W0.heap.size, 0, none⟩ = some (.int .i64 0) := (blk_cell n1 0).trans rfl
  have y1 : W1.cell? ⟨W0.heap.size, 1, none⟩ = some (.int .i64 0) := (blk_cell n1 1).trans rfl
  have y2 : W1.cell? ⟨W0.heap.size, 2, none⟩ = some (.int .i64 0) := (blk_cell n1 2).trans rfl
  have f0 := blk_frozen n1 0
  have f1 := blk_frozen n1 1
  have f2 := blk_frozen n1 2
  have lt1 := blk_lt n1
  go_simp
  obtain ⟨W2, hW2⟩ : ∃ x, ((W1.setCell ⟨W0.heap.size, 0, none⟩ (.int .i64 op)).setCell ⟨W0.heap.size, 1, none⟩ (.int .i64 a)).setCell ⟨W0.heap.size, 2, none⟩ (.int .i64 m) = x := ⟨_, rfl⟩
  have n2 : W2.heap[W0.heap.size]? = some (.cells #[.int .i64 op, .int .i64 a, .int .i64 m] 36) := by rw [← hW2]; exact (blk_set ((blk_set ((blk_set n1 0 _).trans rfl) 1 _).trans rfl) 2 _).trans rfl
  have hS2 : Below W.heap.size W W2 := by rw [← hW2]; exact ((hS1.setCell hz0 _).setCell hz0 _).setCell hz0 _
  rw [hW2]
  refine hK.out _ _ hS2 (fun _ => ?_)
  clear hK K hW2 y0 y1 y2 f0 f1 f2 lt1 n1 hS1
  try simp only [Act.put, List.getElem_toArray, List.getElem_cons_zero, List.getElem_cons_succ, List.setIfInBounds_toArray, List.set_cons_zero, List.set_cons_succ]
  refine wpAnyH_ready (rs := [16]) (by kernel_rfl) (by simp) ?_
  refine AllReadyH.cons rfl (fun K hK => ?_) AllReadyH.nil
  go_simp
  refine hK.out _ _ hS2 (fun _ => ?_)
  clear hK K
  try simp only [Act.put, List.getElem_toArray, List.getElem_cons_zero, List.getElem_cons_succ, List.setIfInBounds_toArray, List.set_cons_zero, List.set_cons_succ]
  refine wpAnyH_done (by kernel_rfl) ?_ _
  obtain ⟨nb, hnb⟩ : ∃ nb, W0.heap.size = nb := ⟨_, rfl⟩
  rw [hnb] at n2 hz0 ⊢
  have hw2 := HW.out.below hS2
  have hlt2 := blk_lt n2
  have CE := Lib.hid (fun (W' : World) (hb : Below W2.heap.size W2 W') => (⟨(hb.cell (p := ⟨nb, 0, none⟩) hlt2).trans ((blk_cell n2 0).trans rfl), (hb.cell (p := ⟨nb, 1, none⟩) hlt2).trans ((blk_cell n2 1).trans rfl), (hb.cell (p := ⟨nb, 2, none⟩) hlt2).trans ((blk_cell n2 2).trans rfl)⟩ : W'.cell? ⟨nb, 0, none⟩ = some (.int .i64 op) ∧ W'.cell? ⟨nb, 1, none⟩ = some (.int .i64 a) ∧ W'.cell? ⟨nb, 2, none⟩ = some (.int .i64 m)))
  have HM := Lib.hid (may_any op a m hv hx (show na ≤ 1000 by have := hA.1; omega) hw2.box)
  unfold MayS at HM
  have CT2 := Lib.hid (HC.out W2 hS2)
  have H2 := Lib.hid hw2
  have hB2 : B ≤ W2.heap.size := by have := hw2.bO; have := blk_lt hw2.box; omega
  obtain ⟨e0, e1, e2⟩ := CE.out W2 (Below.refl _ _)
  clear hw2 hS2 n2 hnb hHeld hz0 lO
  cases hy : mayB f.v f.x na op a m with
  | false =>
    rw [hy] at HM
    have hs : Vs.step all f st i = none := by rw [HST.out, if_neg (by rw [hy]; simp)]
    have HS := Lib.hid hs
    clear hs hy
    go_wp2_with (go_at_call 41; ((with_reducible refine HM.out.mono ?_); rintro e w3 ⟨rfl, b3⟩))
    go_ret
    exact ⟨by rw [HS.out]; rfl, H2.out.bel.trans (b3.mono hB2), fun st' hs => by rw [HS.out] at hs; cases hs⟩
  | true =>
    rw [hy] at HM
    have HTT := Lib.hid (fun W3 (b3 : Below W2.heap.size W2 W3) => by have := (takes_t op a m lo hA hn hy (H2.out.below b3) HALL.out (CT2.out.step b3) hB).2; rw [HTK.out] at this; exact this)
    have ht8 := (takes_t op a m lo hA hn hy H2.out HALL.out CT2.out hB).1
    rw [HTK.out] at ht8
    by_cases htd : t ≤ d
    · have g1 : decide (d < t) = false := by simp; omega
      obtain ⟨l, hll⟩ : ∃ l : Nat, (kdOf op).leaves = l := ⟨_, rfl⟩
      have hl1 : l ≤ 1 := by rw [← hll]; exact (kd_ok op).2.1
      have hbl : d - t + (l : Int) = b := by have := HBH.out; rwa [hll] at this
      have HLL := Lib.hid (fun W4 (b4 : Below W2.heap.size W2 W4) => by have := leaves_any op lo W4 (CT2.out.step b4); rw [hll] at this; exact this)
      have w1 : IntKind.i64.wrap (d - t) = d - t := IntWalk.i64_in _ (by omega)
      have w2 : IntKind.i64.wrap (d - t + (l : Int)) = b := by rw [hbl]; exact IntWalk.i64_in _ (by omega)
      have hb0 : 0 ≤ b := by omega
      have hbD : b ≤ st.D.length := by omega
      have hs := HST.out
      rw [if_pos ⟨hy, htd⟩] at hs
      clear hy hbl hll
      by_cases h18 : op = 18
      · subst h18
        rw [if_pos rfl] at hs
        have HS := Lib.hid hs
        clear hs
        go_wp2_with (first
          | (go_at_call 41; ((with_reducible refine HM.out.mono ?_); rintro e w3 ⟨rfl, b3⟩; obtain ⟨e0, e1, e2⟩ := CE.out w3 b3; have HT3 := Lib.hid (HTT.out w3 b3)))
          | (go_at_call 42; ((with_reducible refine HT3.out.mono ?_); rintro e w4 ⟨rfl, b4⟩; have b24 := b3.trans (b4.mono b3.size); obtain ⟨e0, e1, e2⟩ := CE.out w4 b24; have HL4 := Lib.hid (HLL.out w4 b24)))
          | (go_at_call 43; ((with_reducible refine HL4.out.mono ?_); rintro e w5 ⟨rfl, b5⟩; have b25 := b24.trans (b5.mono b24.size); obtain ⟨e0, e1, e2⟩ := CE.out w5 b25; have H5 := Lib.hid (H2.out.below b25))))
        go_ret
        exact ⟨by rw [HS.out]; rfl, H5.out.bel, fun st' hs => by rw [HS.out] at hs; injection hs with hs; subst hs; exact H5.out⟩
      · rw [if_neg h18] at hs
        have g18 : (op == 18) = false := by simpa using h18
        clear h18
        by_cases h15 : op = 15
        · subst h15
          rw [if_pos rfl] at hs
          have HS := Lib.hid hs
          clear hs g18
          go_wp2_with (first
            | (go_at_call 41; ((with_reducible refine HM.out.mono ?_); rintro e w3 ⟨rfl, b3⟩; obtain ⟨e0, e1, e2⟩ := CE.out w3 b3; have HT3 := Lib.hid (HTT.out w3 b3)))
            | (go_at_call 42; ((with_reducible refine HT3.out.mono ?_); rintro e w4 ⟨rfl, b4⟩; have b24 := b3.trans (b4.mono b3.size); obtain ⟨e0, e1, e2⟩ := CE.out w4 b24; have HL4 := Lib.hid (HLL.out w4 b24)))
            | (go_at_call 43; ((with_reducible refine HL4.out.mono ?_); rintro e w5 ⟨rfl, b5⟩; have b25 := b24.trans (b5.mono b24.size); obtain ⟨e0, e1, e2⟩ := CE.out w5 b25; have H5 := Lib.hid (H2.out.below b25)))
            | (go_at_call 24; ((with_reducible refine (reach_any a b H5.out hl hb0 hbD).mono ?_); rintro e w6 ⟨rfl, r1, r2⟩)))
          go_ret
          exact ⟨by rw [HS.out]; rfl, r1, fun st' hs => r2 st' (by rw [← HS.out]; exact hs)⟩
        · rw [if_neg h15] at hs
          have g15 : (op == 15) = false := by simpa using h15
          clear h15
          have wi : IntKind.i64.wrap ((i : Int) + 1) = (i : Int) + 1 := IntWalk.i64_in _ (by omega)
          by_cases h16 : op = 16
          · subst h16
            rw [if_pos rfl] at hs
            clear g15 g18
            cases hr : st.reach len a b with
            | none =>
              rw [hr] at hs
              have HS := Lib.hid hs
              have HR := Lib.hid hr
              clear hs hr
              go_wp2_with (first
                | (go_at_call 41; ((with_reducible refine HM.out.mono ?_); rintro e w3 ⟨rfl, b3⟩; obtain ⟨e0, e1, e2⟩ := CE.out w3 b3; have HT3 := Lib.hid (HTT.out w3 b3)))
                | (go_at_call 42; ((with_reducible refine HT3.out.mono ?_); rintro e w4 ⟨rfl, b4⟩; have b24 := b3.trans (b4.mono b3.size); obtain ⟨e0, e1, e2⟩ := CE.out w4 b24; have HL4 := Lib.hid (HLL.out w4 b24)))
                | (go_at_call 43; ((with_reducible refine HL4.out.mono ?_); rintro e w5 ⟨rfl, b5⟩; have b25 := b24.trans (b5.mono b24.size); obtain ⟨e0, e1, e2⟩ := CE.out w5 b25; have H5 := Lib.hid (H2.out.below b25)))
                | (go_at_call 24; ((with_reducible refine (reach_any a b H5.out hl hb0 hbD).mono ?_); rintro e w6 ⟨rfl, r1, r2⟩; rw [HR.out])))
              go_ret
              exact ⟨by rw [HS.out]; rfl, r1, fun st' hs => by rw [HS.out] at hs; cases hs⟩
            | some st1 =>
              rw [hr] at hs
              have hs : Vs.step all f st i = st1.reach len ((i : Int) + 1) b := hs
              have HS := Lib.hid hs
              have HR := Lib.hid hr
              clear hs hr
              go_wp2_with (first
                | (go_at_call 41; ((with_reducible refine HM.out.mono ?_); rintro e w3 ⟨rfl, b3⟩; obtain ⟨e0, e1, e2⟩ := CE.out w3 b3; have HT3 := Lib.hid (HTT.out w3 b3)))
                | (go_at_call 42; ((with_reducible refine HT3.out.mono ?_); rintro e w4 ⟨rfl, b4⟩; have b24 := b3.trans (b4.mono b3.size); obtain ⟨e0, e1, e2⟩ := CE.out w4 b24; have HL4 := Lib.hid (HLL.out w4 b24)))
                | (go_at_call 43; ((with_reducible refine HL4.out.mono ?_); rintro e w5 ⟨rfl, b5⟩; have b25 := b24.trans (b5.mono b24.size); obtain ⟨e0, e1, e2⟩ := CE.out w5 b25; have H5 := Lib.hid (H2.out.below b25)))
                | (go_at_call 24; ((with_reducible refine (reach_any a b H5.out hl hb0 hbD).mono ?_); rintro e w6 ⟨rfl, r1, r2⟩; rw [HR.out]; have H6 := Lib.hid (r2 st1 HR.out)))
                | (go_at_call 24; ((with_reducible refine (reach_any ((i : Int) + 1) b H6.out hl hb0 (by have := (H5.out.ok.reach hb0 hbD HR.out).2; omega)).mono ?_); rintro e w7 ⟨rfl, s1, s2⟩)))
              go_ret
              exact ⟨by rw [HS.out]; rfl, s1, fun st' hs => s2 st' (by rw [← HS.out]; exact hs)⟩
          · rw [if_neg h16] at hs
            have g16 : (op == 16) = false := by simpa using h16
            have HS := Lib.hid hs
            clear h16 hs
            go_wp2_with (first
              | (go_at_call 41; ((with_reducible refine HM.out.mono ?_); rintro e w3 ⟨rfl, b3⟩; obtain ⟨e0, e1, e2⟩ := CE.out w3 b3; have HT3 := Lib.hid (HTT.out w3 b3)))
              | (go_at_call 42; ((with_reducible refine HT3.out.mono ?_); rintro e w4 ⟨rfl, b4⟩; have b24 := b3.trans (b4.mono b3.size); obtain ⟨e0, e1, e2⟩ := CE.out w4 b24; have HL4 := Lib.hid (HLL.out w4 b24)))
              | (go_at_call 43; ((with_reducible refine HL4.out.mono ?_); rintro e w5 ⟨rfl, b5⟩; have b25 := b24.trans (b5.mono b24.size); obtain ⟨e0, e1, e2⟩ := CE.out w5 b25; have H5 := Lib.hid (H2.out.below b25)))
              | (go_at_call 24; ((with_reducible refine (reach_any ((i : Int) + 1) b H5.out hl hb0 hbD).mono ?_); rintro e w6 ⟨rfl, r1, r2⟩)))
            go_ret
            exact ⟨by rw [HS.out]; rfl, r1, fun st' hs => r2 st' (by rw [← HS.out]; exact hs)⟩
    · have g1 : decide (d < t) = true := by simp; omega
      have hs : Vs.step all f st i = none := by rw [HST.out, if_neg (by simp; omega)]
      have HS := Lib.hid hs
      clear hs hy htd
      go_wp2_with (first
        | (go_at_call 41; ((with_reducible refine HM.out.mono ?_); rintro e w3 ⟨rfl, b3⟩; obtain ⟨e0, e1, e2⟩ := CE.out w3 b3; have HT3 := Lib.hid (HTT.out w3 b3)))
        | (go_at_call 42; ((with_reducible refine HT3.out.mono ?_); rintro e w4 ⟨rfl, b4⟩; have b24 := b3.trans (b4.mono b3.size))))
      go_ret
      exact ⟨by rw [HS.out]; rfl, H2.out.bel.trans (b24.mono hB2), fun st' hs => by rw [HS.out] at hs; cases hs⟩
end
end Go.Proofs.YtbgjlmcagdgpkaaDoor
