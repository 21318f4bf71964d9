/-
  Scopes in memory; full; slices.ContainsFunc over scopes.
-/
import Derived.Test.YtnilklgnpfgieaaDoorSpJ
namespace Go.Proofs.YtnilklgnpfgieaaDoor
open Go Go.RowKit Go.Lib

theorem gFn_sz {B : Nat} {W : World} {ar : ByteArray → Option Nat} {nm : ByteArray} {ps : List ByteArray} {b : SS} {v v' : Value} (hps : RowV (PsIn W ps) B ps.length v) (hb : SV B W v' b) :
    ∀ s, s ∈ (gFn ar ⟨nm, ps, b⟩).vs ∨ s ∈ (gFn ar ⟨nm, ps, b⟩).xs → s.size ≤ 9223372036854775807 := by
  intro s hs
  rw [gFn_def] at hs
  rcases Gt.run_mem _ (hs.imp id .inl) with h | ⟨u, hu, rfl⟩
  · have h1 := gParF_xs ps g0
    rcases h with h | h | h
    · rcases gParF_mem ps h with h | h
      · cases h
      · exact ps_sz hps s h
    · have h4 : s ∈ (gParF ps g0).xs := h
      rw [h1.1] at h4
      cases h4
    · have h4 : s ∈ (gParF ps g0).ms := h
      rw [h1.2.1] at h4
      cases h4
  · exact sv_us hb u hu

/-- Scopes lie one behind the other. -/
def SpsIn (B : Nat) (W : World) : List Sp → Nat → Nat → Prop
  | [] => fun _ _ => True
  | s :: r => fun b o => W.cell? ⟨b, o, none⟩ = some (.string s.s) ∧ W.cell? ⟨b, o + 1, none⟩ = some (.int .i64 s.n) ∧ (∃ v, W.cell? ⟨b, o + 2, none⟩ = some v ∧ RowV (PsIn W s.vs) B s.vs.length v) ∧ (∃ v, W.cell? ⟨b, o + 3, none⟩ = some v ∧ RowV (PsIn W s.xs) B s.xs.length v) ∧ s.s.size ≤ 9223372036854775807 ∧ SpsIn B W r b (o + 4)
abbrev SpV (B : Nat) (W : World) (v : Value) (l : List Sp) : Prop := RowV (SpsIn B W l) B l.length v
theorem SpsIn.below {B B' : Nat} {W W' : World} (h : Below B W W') (hB : B ≤ B') : ∀ {l : List Sp} {b o : Nat}, b < B → SpsIn B W l b o → SpsIn B' W' l b o
  | [], _, _, _, _ => trivial
  | _ :: _, b, o, hb, ⟨h0, h1, ⟨v, h2, hv⟩, ⟨v', h3, hx⟩, h4, hr⟩ =>
    ⟨(h.cell (p := ⟨b, o, none⟩) hb).trans h0, (h.cell (p := ⟨b, o + 1, none⟩) hb).trans h1, ⟨v, (h.cell (p := ⟨b, o + 2, none⟩) hb).trans h2, hv.imp hB fun _ _ hb' hq => PsIn.below h hb' hq⟩,
      ⟨v', (h.cell (p := ⟨b, o + 3, none⟩) hb).trans h3, hx.imp hB fun _ _ hb' hq => PsIn.below h hb' hq⟩, h4, SpsIn.below h hB hb hr⟩
theorem SpV.below {B B' : Nat} {W W' : World} {v : Value} {l : List Sp} (hv : SpV B W v l) (h : Below B W W') (hB : B ≤ B') : SpV B' W' v l := RowV.imp hv hB fun _ _ hb hp => SpsIn.below h hB hb hp
/-- A row of texts of the call's own is one. -/
theorem st_row {base : Nat} {W : World} {v : Value} {l : List ByteArray} (h : StO base W v l) (hs : ∀ s, s ∈ l → s.size ≤ 9223372036854775807) : RowV (PsIn W l) W.heap.size l.length v := by
  have hin : ∀ (l : List ByteArray) (b o : Nat), (∀ s, s ∈ l → s.size ≤ 9223372036854775807) → (∀ i x, l[i]? = some x → W.cell? ⟨b, o + i, none⟩ = some (.string x)) → PsIn W l b o := by
    intro l
    induction l with
    | nil => intro b o _ _; trivial
    | cons x l ih =>
      intro b o h1 h2
      refine ⟨h2 0 x rfl, h1 x List.mem_cons_self, ih b (o + 1) (fun s hs => h1 s (List.mem_cons_of_mem _ hs)) fun i y hi => ?_⟩
      rw [show o + 1 + i = o + (i + 1) by omega]
      exact h2 (i + 1) y (by simpa using hi)
  by_cases h0 : 0 < l.length
  · obtain ⟨g, cap, rfl, h1, h2, h3, h4⟩ := own_cells h h0
    exact ⟨_, cap, rfl, h1, h2, fun _ => ⟨g, 0, rfl, h3, hin l g 0 hs fun i x hi => by rw [Nat.zero_add]; exact h4 i _ (by rw [List.getElem?_map, hi]; rfl)⟩⟩
  · rcases h.2 with ⟨rfl, e⟩ | ⟨g, cap, cur, rfl, _, _, hnc, hcm, _⟩
    · exact ⟨none, 0, by rw [e], by omega, by omega, fun h => absurd h h0⟩
    · exact ⟨_, cap, rfl, hnc, by unfold maxLen at hcm; omega, fun h => absurd h h0⟩
/-- The cells of scopes whose lists the call has made. -/
def SpC (base : Nat) (W : World) : List Sp → List Value → Prop
  | [] => fun cs => cs = []
  | s :: r => fun cs => ∃ vv va rest, cs = .string s.s :: .int .i64 s.n :: vv :: va :: rest ∧ StO base W vv s.vs ∧ StO base W va s.xs ∧ s.s.size ≤ 9223372036854775807 ∧ (∀ x, x ∈ s.vs ∨ x ∈ s.xs → x.size ≤ 9223372036854775807) ∧ SpC base W r rest
theorem SpC.mono {base base' : Nat} {W W' : World} (h : ∀ v l, StO base W v l → StO base' W' v l) : ∀ {l : List Sp} {cs : List Value}, SpC base W l cs → SpC base' W' l cs
  | [], _, hc => hc
  | _ :: _, _, ⟨vv, va, rest, e, h1, h2, h3, h4, hr⟩ => ⟨vv, va, rest, e, h _ _ h1, h _ _ h2, h3, h4, SpC.mono h hr⟩
theorem SpC.app {base : Nat} {W : World} {s : List Sp} {ds : List Value} (hs : SpC base W s ds) : ∀ {l : List Sp} {cs : List Value}, SpC base W l cs → SpC base W (l ++ s) (cs ++ ds)
  | [], _, h => by rw [show _ = [] from h]; exact hs
  | _ :: _, _, ⟨vv, va, rest, e, h1, h2, h3, h4, hr⟩ => by subst e; exact ⟨vv, va, _, rfl, h1, h2, h3, h4, SpC.app hs hr⟩
theorem SpC.in_ {base : Nat} {W : World} : ∀ {l : List Sp} {cs : List Value} {b o : Nat}, SpC base W l cs → (∀ j u, cs[j]? = some u → W.cell? ⟨b, o + j, none⟩ = some u) → SpsIn W.heap.size W l b o
  | [], _, _, _, _, _ => trivial
  | _ :: _, _, b, o, ⟨vv, va, rest, e, h1, h2, h3, h4, hr⟩, hq => by
    subst e
    exact ⟨hq 0 _ rfl, hq 1 _ rfl, ⟨vv, hq 2 _ rfl, st_row h1 fun x hx => h4 x (.inl hx)⟩, ⟨va, hq 3 _ rfl, st_row h2 fun x hx => h4 x (.inr hx)⟩, h3, SpC.in_ hr fun j u hu => by
      rw [show o + 4 + j = o + (j + 4) by omega]
      exact hq (j + 4) u (by simpa using hu)⟩
theorem own_sp {W : World} {base base' e n : Nat} {v : Value} {l : List Sp} {cs : List Value} (h : W.ownsRow base e 4 v n cs) (hc : SpC base' W l cs) (hn : n = l.length) : SpV W.heap.size W v l := by
  subst hn
  by_cases h0 : 0 < l.length
  · obtain ⟨g, cap, rfl, h1, h2, h3, h4⟩ := own_cells h h0
    exact ⟨_, cap, rfl, h1, h2, fun _ => ⟨g, 0, rfl, h3, hc.in_ fun j u hu => by rw [Nat.zero_add]; exact h4 j u hu⟩⟩
  · obtain ⟨A, cap, rfl⟩ := own_form h
    refine ⟨A, cap, rfl, ?_, ?_, fun h => absurd h h0⟩
    · rcases h.2 with ⟨e, _⟩ | ⟨g, cap, cur, e, _, _, hnc, hcm, _⟩
      · injection e with e1 e2 e3; omega
      · injection e with e1 e2 e3; omega
    · rcases h.2 with ⟨e, _⟩ | ⟨g, cap, cur, e, _, _, hnc, hcm, _⟩
      · injection e with e1 e2 e3; omega
      · injection e with e1 e2 e3; unfold maxLen at hcm; omega

set_option maxHeartbeats 1000000 in
theorem full_any (nm : ByteArray) (np : Int) (A1 A2 : Option Addr) (k1 c1 k2 c2 : Nat) (w : World) :
    Calls Tryd.prog 21 #[.agg #[.string nm, .int .i64 np, .slice A1 k1 c1, .slice A2 k2 c2]] w fun e w' => e = .returned (.bool (decide (64 < k1) || decide (64 < k2))) ∧ Below w.heap.size w w' := by
  by_cases h1 : 64 < k1
  · have h2 : decide ((64 : Int) < (k1 : Int)) = true := by simp; omega
    have h3 : decide (64 < k1) = true := by simp; omega
    rw [h3]
    go_enter Tryd.func21, Tryd.ntmps21
    go_wp2
    go_ret
    exact ⟨rfl, (Below.refl _ _).alloc (Nat.le_refl _) _⟩
  · have h2 : decide ((64 : Int) < (k1 : Int)) = false := by simp; omega
    have h3 : decide (64 < k1) = false := by simp; omega
    rw [h3]
    go_enter Tryd.func21, Tryd.ntmps21
    go_wp2
    go_ret
    exact ⟨by simp; omega, (Below.refl _ _).alloc (Nat.le_refl _) _⟩

abbrev fullF : Value := .func (.func 21) #[] #[]
set_option maxRecDepth 100000 in
set_option maxHeartbeats 4000000 in
theorem idxf_any (B : Nat) (v : Value) (l : List Sp) (w : World) (hB : B ≤ w.heap.size) (hv : SpV B w v l) :
    Calls Tryd.prog 40 #[v, fullF] w fun e w' => (∃ r : Int, e = .returned (.int .i64 r) ∧ decide (0 ≤ r) = l.any Sp.full) ∧ Below w.heap.size w w' := by
  obtain ⟨A, cap, rfl, hc1, hc2, hrow⟩ := hv
  obtain ⟨len, hlen⟩ : ∃ len, l.length = len := ⟨_, rfl⟩
  rw [hlen] at hc1 hrow ⊢
  have HL := Lib.hid hlen; clear hlen
  go_enter Tryd.func40, Tryd.ntmps40
  go_wp2
  go_loopw [8] (fun i wr => ∃ (k : Nat) (r : List Sp), i = .int .i64 k ∧ k + r.length = len ∧ l.any Sp.full = r.any Sp.full ∧ (0 < r.length → ∃ b o, A = some ⟨b, o, none⟩ ∧ b < B ∧ SpsIn B w r b (o + k * 4)) ∧ Below w.heap.size w wr) (fun i _ => len - (intOf i).toNat)
  case atStart => exact ⟨0, l, rfl, by have := HL.out; omega, rfl, by simpa [HL.out] using hrow, Below.refl _ _⟩
  case round =>
    obtain ⟨k, r, rfl, hk, ho, hr1, hbel⟩ := hrel
    have HO := Lib.hid ho; clear ho
    have HB := Lib.hid hbel
    cases r with
    | nil =>
      have hk0 : k = len := by simpa using hk
      subst hk0
      clear hk hr1 hrow hbel
      go_wp2
      go_ret
      exact ⟨⟨_, rfl, by rw [HO.out]; rfl⟩, HB.out⟩
    | cons s r =>
      have hlt : k < len := by simp at hk; omega
      obtain ⟨b, o, rfl, hb, c0, c1, ⟨v2, c2, h2⟩, ⟨v3, c3, h3⟩, h4, hr⟩ := hr1 (by simp)
      clear hr1 hrow
      obtain ⟨A2, cap2, rfl, _⟩ := h2
      obtain ⟨A3, cap3, rfl, _⟩ := h3
      have hbw : b < w.heap.size := by omega
      have d0 := (hbel.cell (p := ⟨b, o + k * 4, none⟩) hbw).trans c0
      have d1 := (hbel.cell (p := ⟨b, o + k * 4 + 1, none⟩) hbw).trans c1
      have d2 := (hbel.cell (p := ⟨b, o + k * 4 + 2, none⟩) hbw).trans c2
      have d3 := (hbel.cell (p := ⟨b, o + k * 4 + 3, none⟩) hbw).trans c3
      clear c0 c1 c2 c3 hbel
      have hF := full_any s.s s.n A2 A3 s.vs.length cap2 s.xs.length cap3 wr
      obtain ⟨y, hy⟩ : ∃ y, (decide (64 < s.vs.length) || decide (64 < s.xs.length)) = y := ⟨_, rfl⟩
      rw [hy] at hF
      have hfull : s.full = y := hy
      have HY := Lib.hid hfull
      have HF := Lib.hid hF
      have HK := Lib.hid hk
      clear hk hF hy hfull
      cases y with
      | true =>
        go_wp2_with (go_at_call 21; ((with_reducible refine HF.out.mono ?_); rintro e w1 ⟨rfl, h1⟩))
        go_ret
        exact ⟨⟨_, rfl, by rw [HO.out]; simp [HY.out]⟩, HB.out.trans (h1.mono HB.out.size)⟩
      | false =>
        go_wp2_with (go_at_call 21; ((with_reducible refine HF.out.mono ?_); rintro e w1 ⟨rfl, h1⟩))
        go_roundw
        case rel => exact ⟨k + 1, r, by go_num, by have := HK.out; simp at this; omega, by rw [HO.out]; simp [HY.out], fun _ => ⟨b, o, rfl, hb, by rw [show o + (k + 1) * 4 = o + k * 4 + 4 by omega]; exact hr⟩, HB.out.trans (h1.mono HB.out.size)⟩
        case measure => simp [intOf]; omega
set_option maxHeartbeats 1000000 in
theorem contf_any (B : Nat) (v : Value) (l : List Sp) (w : World) (hB : B ≤ w.heap.size) (hv : SpV B w v l) :
    Calls Tryd.prog 20 #[v, fullF] w fun e w' => e = .returned (.bool (l.any Sp.full)) ∧ Below w.heap.size w w' := by
  have HI := Lib.hid (idxf_any B v l w hB hv)
  obtain ⟨A, cap, rfl, _⟩ := hv
  obtain ⟨len, hlen⟩ : ∃ len, l.length = len := ⟨_, rfl⟩
  rw [hlen] at HI ⊢
  clear hlen
  go_enter Tryd.func20, Tryd.ntmps20
  go_wp2_with (go_at_call 40; ((with_reducible refine HI.out.mono ?_); rintro e w1 ⟨⟨r, rfl, hr⟩, hb⟩))
  go_ret
  exact ⟨rfl, hb⟩
end Go.Proofs.YtnilklgnpfgieaaDoor
