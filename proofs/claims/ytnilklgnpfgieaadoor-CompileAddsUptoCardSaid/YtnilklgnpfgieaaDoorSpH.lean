/-
  resolve: the scope of one function.
-/
import Derived.Test.YtnilklgnpfgieaaDoorSpG
import Derived.Laws.ResultCell
namespace Go.Proofs.YtnilklgnpfgieaaDoor
open Go Go.RowKit Go.Lib

theorem gFn_def (ar : ByteArray → Option Nat) (f : Fn) : gFn ar f = Gt.run ar { gParF f.ps g0 with ok := decide ((gParF f.ps g0).vs.length = f.ps.length) } f.b.us := rfl
theorem ps_sz {B : Nat} {W : World} {l : List ByteArray} {v : Value} (h : RowV (PsIn W l) B l.length v) : ∀ s, s ∈ l → s.size ≤ 9223372036854775807 := by
  have hin : ∀ {l : List ByteArray} {b o : Nat}, PsIn W l b o → ∀ s, s ∈ l → s.size ≤ 9223372036854775807 := by
    intro l
    induction l with
    | nil => intro b o _ s hs; cases hs
    | cons x l ih =>
      intro b o h s hs
      rcases List.mem_cons.1 hs with rfl | hs
      · exact h.2.1
      · exact ih h.2.2 s hs
  obtain ⟨A, cap, _, _, _, h3⟩ := h
  cases l with
  | nil => intro s hs; cases hs
  | cons x l =>
    obtain ⟨b', o', _, _, h5⟩ := h3 (by simp)
    exact hin h5
/-- What lies there at the end. -/
theorem re_end {n : Nat} {w0 w2 : World} {nm : ByteArray} {np : Int} {g : Gt} {c : Nat} {vv va : Value} {r0 r1 r2 r3 : Value} (hb : w2.heap[n + 2]? = some (.cells #[r0, r1, r2, r3] 54)) (h : RIat n w0 nm np g c vv va w2) (a b d e : Value) (W : World)
    (hW : ((((w2.setCell ⟨n + 2, 0, none⟩ a).setCell ⟨n + 2, 1, none⟩ b).setCell ⟨n + 2, 2, none⟩ d).setCell ⟨n + 2, 3, none⟩ e).drew = W) : Below n w0 W ∧ StO n W vv g.vs ∧ StO n W va g.xs ∧ W.heap[n + 2]? = some (.cells #[a, b, d, e] 54) := by
  have hne : ∀ {v : Value} {l : List ByteArray}, StO (n + 8) w2 v l → some (n + 2) ≠ v.ownBlock := fun hv e => by have := (hv.lt _ e.symm).1; omega
  have row : ∀ {v : Value} {l : List ByteArray}, StO (n + 8) w2 v l → StO n W v l := fun {v l} hv => by
    rw [← hW]
    have h1 : StO (n + 8) w2 v l := hv
    have h2 := own_drew (own_set (a := ⟨n + 2, 3, none⟩) (own_set (a := ⟨n + 2, 2, none⟩) (own_set (a := ⟨n + 2, 1, none⟩) (own_set (a := ⟨n + 2, 0, none⟩) h1 (hne hv) a) (hne hv) b) (hne hv) d) (hne hv) e)
    obtain ⟨e1, h3⟩ := h2
    refine ⟨e1, h3.imp id ?_⟩
    rintro ⟨q, cap, cur, q1, q2, q3⟩
    exact ⟨q, cap, cur, q1, by omega, q3⟩
  refine ⟨?_, row h.rv, row h.rx, by rw [← hW]; exact (blk_set ((blk_set ((blk_set ((blk_set (w := w2) hb 0 a).trans rfl) 1 b).trans rfl) 2 d).trans rfl) 3 e).trans rfl⟩
  rw [← hW]
  exact belowD ((((h.base.setCell (p := ⟨n + 2, 0, none⟩) (by simp only; omega) a).setCell (p := ⟨n + 2, 1, none⟩) (by simp only; omega) b).setCell (p := ⟨n + 2, 2, none⟩) (by simp only; omega) d).setCell (p := ⟨n + 2, 3, none⟩) (by simp only; omega) e)
def ReRel (n : Nat) (w W8 : World) (nm : ByteArray) (len : Nat) (A : Option Addr) (ps : List ByteArray) (i : Value) (wr : World) : Prop :=
  ∃ (k : Nat) (r : List ByteArray) (g1 : Gt) (c1 : Nat), i = .int .i64 k ∧ k + r.length = len ∧ gParF ps g0 = gParF r g1 ∧ c1 + r.length ≤ len ∧ (0 < r.length → ∃ b o, A = some ⟨b, o, none⟩ ∧ b < n ∧ PsIn w r b (o + k)) ∧ RI n w nm len g1 c1 wr ∧ Kx (n + 3) (n + 3) W8 wr

set_option maxRecDepth 100000 in
set_option maxHeartbeats 8000000 in
theorem resolve_any (nm : ByteArray) (ps : List ByteArray) (b : SS) (Ap Ab : Option Addr) (cp cb M : Nat) (ar : ByteArray → Option Nat) (w : World) (hps : RowV (PsIn w ps) w.heap.size ps.length (.slice Ap ps.length cp)) (hb : SV w.heap.size w (.slice Ab b.len cb) b) (hM : M < w.heap.size) (har : AMap M ar w) (hcnt : ps.length + 2 * b.cnt ≤ 40000000) :
    Calls Tryd.prog 19 #[.agg #[.string nm, .slice Ap ps.length cp, .slice Ab b.len cb], .map (some M)] w fun e w' => ∃ vv va, e = .returned (.tuple #[.agg #[.string nm, .int .i64 ps.length, vv, va], .bool (okFn ar ⟨nm, ps, b⟩)]) ∧ Below w.heap.size w w' ∧ StO w.heap.size w' vv (gFn ar ⟨nm, ps, b⟩).vs ∧ StO w.heap.size w' va (gFn ar ⟨nm, ps, b⟩).xs := by
  unfold okFn
  obtain ⟨G, hG⟩ : ∃ G, gFn ar ⟨nm, ps, b⟩ = G := ⟨_, rfl⟩
  rw [hG]
  rw [gFn_def] at hG
  have HG := Lib.hid (show Gt.run ar { gParF ps g0 with ok := decide ((gParF ps g0).vs.length = ps.length) } b.us = G from hG)
  clear hG
  have HPS := Lib.hid (ps_sz hps)
  obtain ⟨A1, cap1, e1, hc1, hc2, hrow⟩ := hps
  injection e1 with e2 e3 e4
  subst e2 e4
  clear e3
  obtain ⟨len, hlen⟩ : ∃ len, ps.length = len := ⟨_, rfl⟩
  rw [hlen] at hc1 hrow hcnt ⊢
  obtain ⟨n, hn⟩ : ∃ n, w.heap.size = n := ⟨_, rfl⟩
  obtain ⟨h8, hf, ha, hre, hsz8⟩ := w8_ri hn nm len (.slice Ap len cp) (.slice Ab b.len cb) M
  have hmm := @run_makeMap Tryd.prog
  go_enter Tryd.func19, Tryd.ntmps19
  go_wp2
  simp only [Nat.add_assoc, Nat.reduceAdd]
  obtain ⟨W8, hW8⟩ : ∃ W8, w8 w n nm len (.slice Ap len cp) (.slice Ab b.len cb) M = W8 := ⟨_, rfl⟩
  rw [hW8] at h8 hf ha hre hsz8
  unfold w8 at hW8
  rw [hW8]
  rw [hn] at hb hM hrow
  have HB := Lib.hid hb
  have HL := Lib.hid hlen
  have H8 := Lib.hid h8
  have HF := Lib.hid hf
  have HA := Lib.hid ha
  have HRE := Lib.hid hre
  have HN := Lib.hid hn
  have HAR := Lib.hid har
  have fre8 := blk_frozen hre 0
  clear hW8 hb hlen h8 hf ha hre hn har hmm fre8
  go_loopw [25] (fun i wr => ReRel n w W8 nm len Ap ps i wr) (fun i _ => len - (intOf i).toNat)
  case atStart => exact ⟨0, ps, g0, 0, rfl, by have := HL.out; omega, rfl, by have := HL.out; omega, fun h => by have := hrow (by have := HL.out; omega); simpa using this, H8.out, Kx.refl _ _ _⟩
  case round =>
    obtain ⟨k, r, g1, c1, rfl, hkk, hrun, hcc, hr1, hri, hkx⟩ := hrel
    have HRU := Lib.hid hrun; clear hrun
    obtain ⟨vv, va, hri⟩ := hri
    have hV := (blk_cell hri.fv 0).trans rfl
    have hsz := hri.sz
    have HRI := Lib.hid hri
    cases r with
    | nil =>
      have hk0 : k = len := by simpa using hkk
      subst hk0
      clear hkk hrow hr1 hV hri
      have hbox := HRI.out.box
      obtain ⟨Av, capv, hvv⟩ := own_form HRI.out.rv
      obtain ⟨Aa, capa, hva⟩ := own_form HRI.out.rx
      subst hvv hva
      have f1 := hkx.2 _ _ _ (by decide) (by omega) (by omega) HF.out
      have e2 : wr.cell? ⟨n + 3, 2, none⟩ = some (.slice Av g1.vs.length capv) := (blk_cell hbox 2).trans rfl
      have f2 : wr.cell? ⟨n, 1, none⟩ = some (.slice Ap k cp) := (blk_cell f1 1).trans rfl
      obtain ⟨q, hq⟩ : ∃ q, g1.vs.length = q := ⟨_, rfl⟩
      rw [hq] at e2 hbox
      obtain ⟨okk, hokk⟩ : ∃ okk, ((q : Int) == (k : Int)) = okk := ⟨_, rfl⟩
      have hokd : okk = decide ((gParF ps g0).vs.length = ps.length) := by
        rw [HRU.out, HL.out]
        show okk = decide (g1.vs.length = k)
        rw [hq, ← hokk, Bool.eq_iff_iff]
        simp [Int.ofNat_inj]
      have hg9 : ({ gParF ps g0 with ok := decide ((gParF ps g0).vs.length = ps.length) } : Gt) = { g1 with ok := okk } := by
        rw [← hokd, HRU.out]; rfl
      have HQ := Lib.hid hq
      obtain ⟨W9, hW9⟩ : ∃ W9, wr.alloc (.cells #[.bool okk] 4) = W9 := ⟨_, rfl⟩
      have hj9 : RJ n w nm k { g1 with ok := okk } c1 wr.heap.size M W9 := by
        rw [← hW9]
        have h1 : RI n w nm k g1 c1 wr := ⟨_, _, HRI.out⟩
        obtain ⟨vv, va, h2⟩ := h1.alloc (.cells #[.bool okk] 4)
        exact ⟨⟨vv, va, { h2 with map := h2.map }⟩, hsz, heap_alloc_new _ _, blk_alloc (hkx.2 _ _ _ (by decide) (by omega) (by omega) HA.out) _⟩
      have hk9 : Kx (n + 3) (n + 3) wr W9 := by rw [← hW9]; exact Kx.below ((Below.refl _ _).alloc (Nat.le_refl _) _)
      have hf9 : W9.cell? ⟨n, 2, none⟩ = some (.slice Ab b.len cb) := (blk_cell (hk9.2 _ _ _ (by decide) (by omega) (by omega) f1) 2).trans rfl
      have hre9 := hk9.2 _ _ _ (by decide) (by omega) (by omega) (hkx.2 _ _ _ (by decide) (by omega) (by omega) HRE.out)
      obtain ⟨R, hR⟩ : ∃ R, wr.heap.size = R := ⟨_, rfl⟩
      rw [hR] at hj9 hsz
      have hWK := Lib.hid (wk_all _ Ab cb b n w nm k _ c1 R M ar W9 (Nat.lt_succ_self _) HB.out hj9 hM HAR.out (by simp at hcc; omega))
      have HR := Lib.hid hR
      have HG2 := Lib.hid (show Gt.run ar { g1 with ok := okk } b.us = G by rw [← hg9]; exact HG.out)
      rw [HG2.out] at hWK
      have HX9 := Lib.hid (hkx.trans hk9)
      have HRE9 := Lib.hid hre9
      clear hq hbox hj9 hk9 f1 hokd hg9 hre9 hkx
      go_wp2_with (go_at_call 36; ((with_reducible refine hWK.out.mono ?_); rintro e w2 ⟨rfl, h9, h10⟩))
      clear e2 f2 hf9
      obtain ⟨vv2, va2, hri2⟩ := h9.ri
      obtain ⟨Av2, capv2, hvv⟩ := own_form hri2.rv
      obtain ⟨Aa2, capa2, hva⟩ := own_form hri2.rx
      subst hvv hva
      have hxs : ∀ s, s ∈ G.xs → s.size ≤ 9223372036854775807 := fun s hs => by
        rw [← HG2.out] at hs
        rcases Gt.run_mem _ (.inr (.inl hs)) with h | ⟨u, hu, rfl⟩
        · have h3 : gParF ps g0 = g1 := HRU.out
          have h1 := gParF_xs ps g0
          rw [h3] at h1
          rcases h with h | h | h
          · have h4 : s ∈ (gParF ps g0).vs := by rw [h3]; exact h
            rcases gParF_mem ps h4 with h | h
            · cases h
            · exact HPS.out s h
          · have h4 : s ∈ g1.xs := h
            rw [h1.1] at h4
            cases h4
          · have h4 : s ∈ g1.ms := h
            rw [h1.2.1] at h4
            cases h4
        · exact sv_us HB.out u hu
      have hAg := Lib.hid (agree_any (n + 4) _ (n + 8) G _ w2.drew hri2.map hri2.rx (Nat.le_trans hri2.lx (by simp at hcc; omega)) hxs)
      have KC := Lib.hid (fun (W' : World) (h : ∀ k, k ≠ n + 2 → W'.heap[k]? = w2.heap[k]?) => (show W'.cell? ⟨n + 3, 0, none⟩ = some (.string nm) ∧ W'.cell? ⟨n + 3, 1, none⟩ = some (.int .i64 k) ∧ W'.cell? ⟨n + 3, 2, none⟩ = some (.slice Av2 G.vs.length capv2) ∧ W'.cell? ⟨n + 3, 3, none⟩ = some (.slice Aa2 G.xs.length capa2) ∧ W'.cell? ⟨R, 0, none⟩ = some (.bool G.ok) ∧ W'.cell? ⟨n + 5, 0, none⟩ = some (.map (some (n + 4))) from
        have hb := (h (n + 3) (by omega)).trans hri2.box
        ⟨(blk_cell hb 0).trans rfl, (blk_cell hb 1).trans rfl, (blk_cell hb 2).trans rfl, (blk_cell hb 3).trans rfl, (blk_cell ((h R (by omega)).trans h9.ok) 0).trans rfl, (blk_cell ((h (n + 5) (by omega)).trans hri2.seen) 0).trans rfl⟩))
      have hbR := h10.2 _ _ _ (by decide) (by omega) (by omega) HRE9.out
      have y0 : w2.drew.cell? ⟨n + 2, 0, none⟩ = some (.string ⟨#[]⟩) := (blk_cell hbR 0).trans rfl
      have y1 : w2.drew.cell? ⟨n + 2, 1, none⟩ = some (.int .i64 0) := (blk_cell hbR 1).trans rfl
      have y2 : w2.drew.cell? ⟨n + 2, 2, none⟩ = some (.slice none 0 0) := (blk_cell hbR 2).trans rfl
      have y3 : w2.drew.cell? ⟨n + 2, 3, none⟩ = some (.slice none 0 0) := (blk_cell hbR 3).trans rfl
      have fz := fun i => blk_frozen hbR i
      have fz0 : w2.drew.frozen? ⟨n + 2, 0, none⟩ = false := fz 0
      have fz1 : w2.drew.frozen? ⟨n + 2, 1, none⟩ = false := fz 1
      have fz2 : w2.drew.frozen? ⟨n + 2, 2, none⟩ = false := fz 2
      have fz3 : w2.drew.frozen? ⟨n + 2, 3, none⟩ = false := fz 3
      have lt2 : n + 2 < w2.drew.heap.size := blk_lt hbR
      obtain ⟨v0, v1, v2, v3⟩ : w2.cell? ⟨n + 2, 0, none⟩ = some (.string ⟨#[]⟩) ∧ w2.cell? ⟨n + 2, 1, none⟩ = some (.int .i64 0) ∧ w2.cell? ⟨n + 2, 2, none⟩ = some (.slice none 0 0) ∧ w2.cell? ⟨n + 2, 3, none⟩ = some (.slice none 0 0) := ⟨y0, y1, y2, y3⟩
      obtain ⟨e0, e1, e2, e3⟩ : w2.frozen? ⟨n + 2, 0, none⟩ = false ∧ w2.frozen? ⟨n + 2, 1, none⟩ = false ∧ w2.frozen? ⟨n + 2, 2, none⟩ = false ∧ w2.frozen? ⟨n + 2, 3, none⟩ = false := ⟨fz0, fz1, fz2, fz3⟩
      have lt3 : n + 2 < w2.heap.size := blk_lt hbR
      have HBR := Lib.hid hbR
      obtain ⟨okF, hokF⟩ : ∃ x, G.ok = x := ⟨_, rfl⟩
      rw [hokF] at KC
      have HOK := Lib.hid hokF
      have hmx : Tryd.prog.follows .mixedOrders = true := by kernel_rfl
      have HRI2 := Lib.hid hri2
      have H9 := Lib.hid h9
      have hS0 : ∀ k, k ≠ n + 2 → w2.drew.heap[k]? = w2.heap[k]? := fun _ _ => rfl
      clear hri2 hokF h9 hxs fz hbR
      have H10 := Lib.hid h10
      clear h10
      cases okF with
      | true =>
        refine wp_region_held_drew (S := fun W' => ∀ k, k ≠ n + 2 → W'.heap[k]? = w2.heap[k]?) hmx hS0 (fun hHeld => ?_)
        refine wpAnyH_take (i := 0) (v := .agg #[.string nm, .int .i64 k, .slice Av2 G.vs.length capv2, .slice Aa2 G.xs.length capa2]) rfl (by kernel_rfl) (by kernel_rfl) (by kernel_rfl) (fun _ _ _ h => h) (Or.inl ⟨by rfl, ?_⟩) (by assumption) ?_
        · intro W' hSw
          obtain ⟨l0, l1, l2, l3, l4, l5⟩ := KC.out W' hSw
          go_simp
        try simp only [Act.put, List.getElem_toArray, List.getElem_cons_zero, List.setIfInBounds_toArray, List.set_cons_zero, List.set_cons_succ]
        refine wpAnyH_take (i := 1) (v := .bool true) rfl (by kernel_rfl) (by kernel_rfl) (by kernel_rfl) (fun _ _ _ h => h) (Or.inl ⟨by rfl, ?_⟩) (by assumption) ?_
        · intro W' hSw
          obtain ⟨l0, l1, l2, l3, l4, l5⟩ := KC.out W' hSw
          go_simp
        try simp only [Act.put, List.getElem_toArray, List.getElem_cons_zero, List.getElem_cons_succ, List.setIfInBounds_toArray, List.set_cons_zero, List.set_cons_succ]
        refine wpAnyH_take (i := 2) (v := .bool true) rfl (by kernel_rfl) (by kernel_rfl) (by kernel_rfl) (fun _ _ _ h => h) (Or.inl ⟨by rfl, ?_⟩) (by assumption) ?_
        · intro W' hSw
          obtain ⟨l0, l1, l2, l3, l4, l5⟩ := KC.out W' hSw
          go_simp
        try simp only [Act.put, List.getElem_toArray, List.getElem_cons_zero, List.getElem_cons_succ, List.setIfInBounds_toArray, List.set_cons_zero, List.set_cons_succ]
        refine wpAnyH_take (i := 3) (v := .map (some (n + 4))) rfl (by kernel_rfl) (by kernel_rfl) (by kernel_rfl) (fun _ _ _ h => h) (Or.inl ⟨by rfl, ?_⟩) (by assumption) ?_
        · intro W' hSw
          obtain ⟨l0, l1, l2, l3, l4, l5⟩ := KC.out W' hSw
          go_simp
        try simp only [Act.put, List.getElem_toArray, List.getElem_cons_zero, List.getElem_cons_succ, List.setIfInBounds_toArray, List.set_cons_zero, List.set_cons_succ]
        refine wpAnyH_take (i := 4) (v := .pointer (some ⟨n + 3, 3, none⟩)) rfl (by kernel_rfl) (by kernel_rfl) (by kernel_rfl) (fun _ _ _ h => h) (Or.inl ⟨by rfl, ?_⟩) (by assumption) ?_
        · intro W' hSw
          obtain ⟨l0, l1, l2, l3, l4, l5⟩ := KC.out W' hSw
          go_simp
        try simp only [Act.put, List.getElem_toArray, List.getElem_cons_zero, List.getElem_cons_succ, List.setIfInBounds_toArray, List.set_cons_zero, List.set_cons_succ]
        refine wpAnyH_take (i := 5) (v := .slice Aa2 G.xs.length capa2) rfl (by kernel_rfl) (by kernel_rfl) (by kernel_rfl) (fun _ _ _ h => h) (Or.inl ⟨by rfl, ?_⟩) (by assumption) ?_
        · intro W' hSw
          obtain ⟨l0, l1, l2, l3, l4, l5⟩ := KC.out W' hSw
          go_simp
        try simp only [Act.put, List.getElem_toArray, List.getElem_cons_zero, List.getElem_cons_succ, List.setIfInBounds_toArray, List.set_cons_zero, List.set_cons_succ]
        refine wpAnyH_ready (rs := [6]) (by kernel_rfl) (by simp) ?_
        refine AllReadyH.cons rfl (fun K hK => ?_) AllReadyH.nil
        go_simp
        go_at_call 39
        refine hAg.out.mono ?_
        rintro e5 w5 ⟨rfl, rfl⟩
        go_wp2_with fail
        refine hK.out _ _ hS0 (fun _ => ?_)
        clear hK K
        try simp only [Act.put, List.getElem_toArray, List.getElem_cons_zero, List.getElem_cons_succ, List.setIfInBounds_toArray, List.set_cons_zero, List.set_cons_succ]
        refine wpAnyH_take (i := 7) (v := .bool G.agree) rfl (by kernel_rfl) (by kernel_rfl) (by kernel_rfl) (fun _ _ _ h => h) (Or.inl ⟨by rfl, ?_⟩) (by assumption) ?_
        · intro W' hSw
          obtain ⟨l0, l1, l2, l3, l4, l5⟩ := KC.out W' hSw
          go_simp
        try simp only [Act.put, List.getElem_toArray, List.getElem_cons_zero, List.getElem_cons_succ, List.setIfInBounds_toArray, List.set_cons_zero, List.set_cons_succ]
        refine wpAnyH_ready (rs := [8]) (by kernel_rfl) (by simp) ?_
        refine AllReadyH.cons rfl (fun K hK => ?_) AllReadyH.nil
        go_simp
        refine hK.out _ _ (fun q hq => ?_) (fun _ => ?_)
        · exact (Below.heap_setCell _ _ _ _ (by simpa using hq)).trans ((Below.heap_setCell _ _ _ _ (by simpa using hq)).trans ((Below.heap_setCell _ _ _ _ (by simpa using hq)).trans ((Below.heap_setCell _ _ _ _ (by simpa using hq)).trans rfl)))
        clear hK K
        try simp only [Act.put, List.getElem_toArray, List.getElem_cons_zero, List.getElem_cons_succ, List.setIfInBounds_toArray, List.set_cons_zero, List.set_cons_succ]
        refine wpAnyH_ready (rs := [9]) (by kernel_rfl) (by simp) ?_
        refine AllReadyH.cons rfl (fun K hK => ?_) AllReadyH.nil
        go_simp
        refine hK.out _ _ (by assumption) (fun _ => ?_)
        clear hK K
        try simp only [Act.put, List.getElem_toArray, List.getElem_cons_zero, List.getElem_cons_succ, List.setIfInBounds_toArray, List.set_cons_zero, List.set_cons_succ]
        refine wpAnyH_done (by kernel_rfl) ?_ _
        have hend := re_end HBR.out HRI2.out (.string nm) (.int .i64 k) (.slice Av2 G.vs.length capv2) (.slice Aa2 G.xs.length capa2) _ rfl
        go_wp2
        obtain ⟨W, hW⟩ : ∃ W, ((((w2.setCell ⟨n + 2, 0, none⟩ (.string nm)).setCell ⟨n + 2, 1, none⟩ (.int .i64 k)).setCell ⟨n + 2, 2, none⟩ (.slice Av2 G.vs.length capv2)).setCell ⟨n + 2, 3, none⟩ (.slice Aa2 G.xs.length capa2)).drew = W := ⟨_, rfl⟩
        rw [hW] at hend ⊢
        obtain ⟨g1', g2', g3', g4'⟩ := hend
        obtain ⟨p0, p1, p2, p3⟩ : W.cell? ⟨n + 2, 0, none⟩ = some (.string nm) ∧ W.cell? ⟨n + 2, 1, none⟩ = some (.int .i64 k) ∧ W.cell? ⟨n + 2, 2, none⟩ = some (.slice Av2 G.vs.length capv2) ∧ W.cell? ⟨n + 2, 3, none⟩ = some (.slice Aa2 G.xs.length capa2) := ⟨(blk_cell g4' 0).trans rfl, (blk_cell g4' 1).trans rfl, (blk_cell g4' 2).trans rfl, (blk_cell g4' 3).trans rfl⟩
        clear hW
        refine bodyPost_ret (v := .tuple #[.agg #[.string nm, .int .i64 k, .slice Av2 G.vs.length capv2, .slice Aa2 G.xs.length capa2], .bool G.agree]) ?_ rfl ⟨_, _, by rw [HOK.out]; rfl, by rw [HN.out]; exact g1', by rw [HN.out]; exact g2', by rw [HN.out]; exact g3'⟩
        rw [results_cell_tmp rfl]
        go_simp
      | false =>
        refine wp_region_held_drew (S := fun W' => ∀ k, k ≠ n + 2 → W'.heap[k]? = w2.heap[k]?) hmx hS0 (fun hHeld => ?_)
        refine wpAnyH_take (i := 0) (v := .agg #[.string nm, .int .i64 k, .slice Av2 G.vs.length capv2, .slice Aa2 G.xs.length capa2]) rfl (by kernel_rfl) (by kernel_rfl) (by kernel_rfl) (fun _ _ _ h => h) (Or.inl ⟨by rfl, ?_⟩) (by assumption) ?_
        · intro W' hSw
          obtain ⟨l0, l1, l2, l3, l4, l5⟩ := KC.out W' hSw
          go_simp
        try simp only [Act.put, List.getElem_toArray, List.getElem_cons_zero, List.setIfInBounds_toArray, List.set_cons_zero, List.set_cons_succ]
        refine wpAnyH_take (i := 1) (v := .bool false) rfl (by kernel_rfl) (by kernel_rfl) (by kernel_rfl) (fun _ _ _ h => h) (Or.inl ⟨by rfl, ?_⟩) (by assumption) ?_
        · intro W' hSw
          obtain ⟨l0, l1, l2, l3, l4, l5⟩ := KC.out W' hSw
          go_simp
        try simp only [Act.put, List.getElem_toArray, List.getElem_cons_zero, List.getElem_cons_succ, List.setIfInBounds_toArray, List.set_cons_zero, List.set_cons_succ]
        refine wpAnyH_take (i := 2) (v := .bool false) rfl (by kernel_rfl) (by kernel_rfl) (by kernel_rfl) (fun _ _ _ h => h) (Or.inl ⟨by rfl, ?_⟩) (by assumption) ?_
        · intro W' hSw
          obtain ⟨l0, l1, l2, l3, l4, l5⟩ := KC.out W' hSw
          go_simp
        try simp only [Act.put, List.getElem_toArray, List.getElem_cons_zero, List.getElem_cons_succ, List.setIfInBounds_toArray, List.set_cons_zero, List.set_cons_succ]
        refine wpAnyH_take (i := 3) (v := undef) rfl (by kernel_rfl) (by kernel_rfl) (by kernel_rfl) (fun _ _ _ h => h) (Or.inr ⟨by (simp [Region.wanted, yielded, undef]; done), rfl⟩) (by assumption) ?_
        try simp only [Act.put, List.getElem_toArray, List.getElem_cons_zero, List.getElem_cons_succ, List.setIfInBounds_toArray, List.set_cons_zero, List.set_cons_succ]
        refine wpAnyH_take (i := 4) (v := undef) rfl (by kernel_rfl) (by kernel_rfl) (by kernel_rfl) (fun _ _ _ h => h) (Or.inr ⟨by (simp [Region.wanted, yielded, undef]; done), rfl⟩) (by assumption) ?_
        try simp only [Act.put, List.getElem_toArray, List.getElem_cons_zero, List.getElem_cons_succ, List.setIfInBounds_toArray, List.set_cons_zero, List.set_cons_succ]
        refine wpAnyH_take (i := 5) (v := undef) rfl (by kernel_rfl) (by kernel_rfl) (by kernel_rfl) (fun _ _ _ h => h) (Or.inr ⟨by (simp [Region.wanted, yielded, undef]; done), rfl⟩) (by assumption) ?_
        try simp only [Act.put, List.getElem_toArray, List.getElem_cons_zero, List.getElem_cons_succ, List.setIfInBounds_toArray, List.set_cons_zero, List.set_cons_succ]
        refine wpAnyH_take (i := 6) (v := undef) rfl (by kernel_rfl) (by kernel_rfl) (by kernel_rfl) (fun _ _ _ h => h) (Or.inr ⟨by (simp [Region.wanted, yielded, undef]; done), rfl⟩) (by assumption) ?_
        try simp only [Act.put, List.getElem_toArray, List.getElem_cons_zero, List.getElem_cons_succ, List.setIfInBounds_toArray, List.set_cons_zero, List.set_cons_succ]
        refine wpAnyH_take (i := 7) (v := .bool false) rfl (by kernel_rfl) (by kernel_rfl) (by kernel_rfl) (fun _ _ _ h => h) (Or.inl ⟨by rfl, ?_⟩) (by assumption) ?_
        · intro W' hSw
          obtain ⟨l0, l1, l2, l3, l4, l5⟩ := KC.out W' hSw
          go_simp
        try simp only [Act.put, List.getElem_toArray, List.getElem_cons_zero, List.getElem_cons_succ, List.setIfInBounds_toArray, List.set_cons_zero, List.set_cons_succ]
        refine wpAnyH_ready (rs := [8]) (by kernel_rfl) (by simp) ?_
        refine AllReadyH.cons rfl (fun K hK => ?_) AllReadyH.nil
        go_simp
        refine hK.out _ _ (fun q hq => ?_) (fun _ => ?_)
        · exact (Below.heap_setCell _ _ _ _ (by simpa using hq)).trans ((Below.heap_setCell _ _ _ _ (by simpa using hq)).trans ((Below.heap_setCell _ _ _ _ (by simpa using hq)).trans ((Below.heap_setCell _ _ _ _ (by simpa using hq)).trans rfl)))
        clear hK K
        try simp only [Act.put, List.getElem_toArray, List.getElem_cons_zero, List.getElem_cons_succ, List.setIfInBounds_toArray, List.set_cons_zero, List.set_cons_succ]
        refine wpAnyH_ready (rs := [9]) (by kernel_rfl) (by simp) ?_
        refine AllReadyH.cons rfl (fun K hK => ?_) AllReadyH.nil
        go_simp
        refine hK.out _ _ (by assumption) (fun _ => ?_)
        clear hK K
        try simp only [Act.put, List.getElem_toArray, List.getElem_cons_zero, List.getElem_cons_succ, List.setIfInBounds_toArray, List.set_cons_zero, List.set_cons_succ]
        refine wpAnyH_done (by kernel_rfl) ?_ _
        have hend := re_end HBR.out HRI2.out (.string nm) (.int .i64 k) (.slice Av2 G.vs.length capv2) (.slice Aa2 G.xs.length capa2) _ rfl
        go_wp2
        obtain ⟨W, hW⟩ : ∃ W, ((((w2.setCell ⟨n + 2, 0, none⟩ (.string nm)).setCell ⟨n + 2, 1, none⟩ (.int .i64 k)).setCell ⟨n + 2, 2, none⟩ (.slice Av2 G.vs.length capv2)).setCell ⟨n + 2, 3, none⟩ (.slice Aa2 G.xs.length capa2)).drew = W := ⟨_, rfl⟩
        rw [hW] at hend ⊢
        obtain ⟨g1', g2', g3', g4'⟩ := hend
        obtain ⟨p0, p1, p2, p3⟩ : W.cell? ⟨n + 2, 0, none⟩ = some (.string nm) ∧ W.cell? ⟨n + 2, 1, none⟩ = some (.int .i64 k) ∧ W.cell? ⟨n + 2, 2, none⟩ = some (.slice Av2 G.vs.length capv2) ∧ W.cell? ⟨n + 2, 3, none⟩ = some (.slice Aa2 G.xs.length capa2) := ⟨(blk_cell g4' 0).trans rfl, (blk_cell g4' 1).trans rfl, (blk_cell g4' 2).trans rfl, (blk_cell g4' 3).trans rfl⟩
        clear hW
        refine bodyPost_ret (v := .tuple #[.agg #[.string nm, .int .i64 k, .slice Av2 G.vs.length capv2, .slice Aa2 G.xs.length capa2], .bool false]) ?_ rfl ⟨_, _, by rw [HOK.out]; rfl, by rw [HN.out]; exact g1', by rw [HN.out]; exact g2', by rw [HN.out]; exact g3'⟩
        rw [results_cell_tmp rfl]
        go_simp
    | cons s r =>
      obtain ⟨b1, o, rfl, hb1, c0, hs, hr⟩ := hr1 (by simp)
      clear hr1
      have hlt : k < len := by simp at hkk; omega
      have HKK := Lib.hid hkk; clear hkk
      have d0 := (hri.base.cell (p := ⟨b1, o + k, none⟩) hb1).trans c0
      have hcl := Lib.hid (variable_any n w nm len g1 c1 s wr ⟨vv, va, hri⟩ hs (by simp at hcc; omega))
      have hV : wr.cell? ⟨n + 6, 0, none⟩ = some (varF n) := (blk_cell hri.fv 0).trans rfl
      clear hri c0 hrow
      go_wp2_with (go_at_call 33; ((with_reducible refine hcl.out.mono ?_); rintro e w1 ⟨rfl, h1, h2⟩))
      go_roundw
      case rel =>
        exact ⟨k + 1, r, _, _, by go_num, by have := HKK.out; simp at this; omega, HRU.out, by simp at hcc; omega, fun _ => ⟨b1, o, rfl, hb1, by rw [show o + (k + 1) = o + k + 1 by omega]; exact hr⟩, h1, hkx.trans h2⟩
      case measure => simp [intOf]; omega
end Go.Proofs.YtnilklgnpfgieaaDoor
