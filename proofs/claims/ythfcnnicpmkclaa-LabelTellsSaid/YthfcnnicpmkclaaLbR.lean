/-
  The document's own answer for layer 7: Of, part, find.
-/
import Derived.Test.YthfcnnicpmkclaaLbB
namespace Go.Proofs.Ythfcnnicpmkclaa
open Go Go.RowKit Go.Lib

/-- What the document's Of does, at expressions whose parts hold fewer than K. -/
def ROfHas (K : Nat) : Prop := ∀ (op n : Int) (s : ByteArray) (v : Value) (l : ES) (B : Nat) (w : World), l.cnt < K → EV B w v l → B ≤ w.heap.size → s.size ≤ 9223372036854775807 →
  Calls Try.prog 14 #[.agg #[.int .i64 op, .int .i64 n, .string s, v]] w fun e w' => e = .returned (.bool (secB op s l.sec)) ∧ Below w.heap.size w w'

theorem box_at {w wr : World} {cs : Array Value} {t : TypeId} (h : Below (w.heap.size + 1) (w.alloc (.cells cs t)) wr) (i : Nat) : wr.cell? ⟨w.heap.size, i, none⟩ = cs[i]? := by
  have e : (w.alloc (.cells cs t)).heap[w.heap.size]? = some (.cells cs t) := heap_alloc_new w _
  have h2 := (h.block w.heap.size (Nat.lt_succ_self _)).trans e
  simp [World.cell?, h2]

set_option maxRecDepth 100000 in
set_option maxHeartbeats 4000000 in
theorem rof_two (K : Nat) (hof : ROfHas K) (op n : Int) (s : ByteArray) (v : Value) (l : ES) (B : Nat) (w : World) (hK : l.cnt < K + 1) (hv : EV B w v l) (hB : B ≤ w.heap.size) (hs : s.size ≤ 9223372036854775807) (hg : greatB s = false) (h2 : op = 2) :
    Calls Try.prog 14 #[.agg #[.int .i64 op, .int .i64 n, .string s, v]] w fun e w' => e = .returned (.bool l.sec) ∧ Below w.heap.size w w' := by
  obtain ⟨A, cap, rfl, hc1, hc2, hrow⟩ := hv
  obtain ⟨len, hlen⟩ : ∃ len, l.len = len := ⟨_, rfl⟩
  rw [hlen] at hc1 hrow ⊢
  have HL := Lib.hid hlen; clear hlen
  have HG := Lib.hid (fun w1 => rgreat_any s w1 hs)
  rw [hg] at HG
  subst h2
  have HB := Lib.hid (fun o => (Below.refl w.heap.size w).alloc (Nat.le_refl _) o)
  go_enter Try.func14, Try.ntmps14
  go_wp2_with (go_at_call 25; ((with_reducible refine (HG.out _).mono ?_); rintro e w1 ⟨rfl, rfl⟩))
  go_loopw [3] (fun i wr => ∃ (k : Nat) (r : ES), i = .int .i64 k ∧ k + r.len = len ∧ r.cnt ≤ K ∧ l.sec = r.sec ∧ (0 < r.len → ∃ b o, A = some ⟨b, o, none⟩ ∧ b < B ∧ r.In B w b (o + k * 4)) ∧ Below (w.heap.size + 1) (w.alloc (.cells #[.int .i64 2, .int .i64 n, .string s, .slice A len cap] 28)) wr) (fun i _ => len - (intOf i).toNat)
  case atStart => exact ⟨0, l, rfl, by have := HL.out; omega, by omega, rfl, by simpa [HL.out] using hrow, Below.refl _ _⟩
  case round =>
    obtain ⟨k, r, rfl, hk, hrK, ho, hr1, hW0⟩ := hrel
    have HO := Lib.hid ho; clear ho
    have g3 : wr.cell? ⟨w.heap.size, 3, none⟩ = some (.slice A len cap) := (box_at hW0 3).trans rfl
    have hW := (HB.out _).trans (hW0.mono (Nat.le_succ _))
    cases r with
    | nil =>
      have hk0 : k = len := by simpa [ES.len] using hk
      subst hk0
      clear hk hrow hr1
      go_wp2
      go_ret
      exact ⟨ret_bool (by rw [HO.out]; rfl), hW⟩
    | cons op1 n1 s1 l1 r =>
      obtain ⟨b, o, rfl, hb, c0, c1, c2, ⟨v3, c3, h3⟩, h4, hr⟩ := hr1 (by simp [ES.len])
      clear hrow hr1
      have hlt : k < len := by simp [ES.len] at hk; omega
      have HK := Lib.hid hk; clear hk
      have hbw : b < w.heap.size := by omega
      have d0 := (hW.cell (p := ⟨b, o + k * 4, none⟩) hbw).trans c0
      have d1 := (hW.cell (p := ⟨b, o + k * 4 + 1, none⟩) hbw).trans c1
      have d2 := (hW.cell (p := ⟨b, o + k * 4 + 2, none⟩) hbw).trans c2
      have d3 := (hW.cell (p := ⟨b, o + k * 4 + 3, none⟩) hbw).trans c3
      clear c0 c1 c2 c3
      have hcnt : l1.cnt < K ∧ r.cnt ≤ K := by simp only [ES.cnt] at hrK; omega
      have HF := Lib.hid (hof op1 n1 s1 v3 l1 B wr hcnt.1 (EV.below h3 (hW.mono hB) (Nat.le_refl _)) (Nat.le_trans hB hW.size) h4.2.2)
      obtain ⟨A3, cap3, rfl, _⟩ := id h3
      have HW0 := Lib.hid hW0
      have HW := Lib.hid hW
      clear h3 hW0 hW
      obtain ⟨q, hq⟩ : ∃ q, secB op1 s1 l1.sec = q := ⟨_, rfl⟩
      have HQ := Lib.hid hq
      rw [hq] at HF
      clear hq
      cases q with
      | true =>
        go_wp2_with (go_at_call 14; ((with_reducible refine HF.out.mono ?_); rintro e w1 ⟨rfl, hb1⟩))
        go_ret
        exact ⟨ret_bool (by rw [HO.out, ES.sec_cons, HQ.out]; simp), HW.out.trans (hb1.mono HW.out.size)⟩
      | false =>
        go_wp2_with (go_at_call 14; ((with_reducible refine HF.out.mono ?_); rintro e w1 ⟨rfl, hb1⟩))
        go_roundw
        case rel => exact ⟨k + 1, r, by go_num, by have := HK.out; simp [ES.len] at this; omega, hcnt.2, by rw [HO.out, ES.sec_cons, HQ.out]; rfl, fun _ => ⟨b, o, rfl, hb, by rw [show o + (k + 1) * 4 = o + k * 4 + 4 by omega]; exact hr⟩, HW0.out.trans (hb1.mono (by have := HW0.out.size; simp at this; omega))⟩
        case measure => simp [intOf]; omega

set_option maxRecDepth 100000 in
set_option maxHeartbeats 4000000 in
theorem rof_four (K : Nat) (hof : ROfHas K) (op n : Int) (s : ByteArray) (v : Value) (l : ES) (B : Nat) (w : World) (hK : l.cnt < K + 1) (hv : EV B w v l) (hB : B ≤ w.heap.size) (hs : s.size ≤ 9223372036854775807) (hg : greatB s = false) (h2 : op = 4) :
    Calls Try.prog 14 #[.agg #[.int .i64 op, .int .i64 n, .string s, v]] w fun e w' => e = .returned (.bool l.sec) ∧ Below w.heap.size w w' := by
  obtain ⟨A, cap, rfl, hc1, hc2, hrow⟩ := hv
  obtain ⟨len, hlen⟩ : ∃ len, l.len = len := ⟨_, rfl⟩
  rw [hlen] at hc1 hrow ⊢
  have HL := Lib.hid hlen; clear hlen
  have HG := Lib.hid (fun w1 => rgreat_any s w1 hs)
  rw [hg] at HG
  subst h2
  have HB := Lib.hid (fun o => (Below.refl w.heap.size w).alloc (Nat.le_refl _) o)
  go_enter Try.func14, Try.ntmps14
  go_wp2_with (go_at_call 25; ((with_reducible refine (HG.out _).mono ?_); rintro e w1 ⟨rfl, rfl⟩))
  go_loopw [3] (fun i wr => ∃ (k : Nat) (r : ES), i = .int .i64 k ∧ k + r.len = len ∧ r.cnt ≤ K ∧ l.sec = r.sec ∧ (0 < r.len → ∃ b o, A = some ⟨b, o, none⟩ ∧ b < B ∧ r.In B w b (o + k * 4)) ∧ Below (w.heap.size + 1) (w.alloc (.cells #[.int .i64 4, .int .i64 n, .string s, .slice A len cap] 28)) wr) (fun i _ => len - (intOf i).toNat)
  case atStart => exact ⟨0, l, rfl, by have := HL.out; omega, by omega, rfl, by simpa [HL.out] using hrow, Below.refl _ _⟩
  case round =>
    obtain ⟨k, r, rfl, hk, hrK, ho, hr1, hW0⟩ := hrel
    have HO := Lib.hid ho; clear ho
    have g3 : wr.cell? ⟨w.heap.size, 3, none⟩ = some (.slice A len cap) := (box_at hW0 3).trans rfl
    have hW := (HB.out _).trans (hW0.mono (Nat.le_succ _))
    cases r with
    | nil =>
      have hk0 : k = len := by simpa [ES.len] using hk
      subst hk0
      clear hk hrow hr1
      go_wp2
      go_ret
      exact ⟨ret_bool (by rw [HO.out]; rfl), hW⟩
    | cons op1 n1 s1 l1 r =>
      obtain ⟨b, o, rfl, hb, c0, c1, c2, ⟨v3, c3, h3⟩, h4, hr⟩ := hr1 (by simp [ES.len])
      clear hrow hr1
      have hlt : k < len := by simp [ES.len] at hk; omega
      have HK := Lib.hid hk; clear hk
      have hbw : b < w.heap.size := by omega
      have d0 := (hW.cell (p := ⟨b, o + k * 4, none⟩) hbw).trans c0
      have d1 := (hW.cell (p := ⟨b, o + k * 4 + 1, none⟩) hbw).trans c1
      have d2 := (hW.cell (p := ⟨b, o + k * 4 + 2, none⟩) hbw).trans c2
      have d3 := (hW.cell (p := ⟨b, o + k * 4 + 3, none⟩) hbw).trans c3
      clear c0 c1 c2 c3
      have hcnt : l1.cnt < K ∧ r.cnt ≤ K := by simp only [ES.cnt] at hrK; omega
      have HF := Lib.hid (hof op1 n1 s1 v3 l1 B wr hcnt.1 (EV.below h3 (hW.mono hB) (Nat.le_refl _)) (Nat.le_trans hB hW.size) h4.2.2)
      obtain ⟨A3, cap3, rfl, _⟩ := id h3
      have HW0 := Lib.hid hW0
      have HW := Lib.hid hW
      clear h3 hW0 hW
      obtain ⟨q, hq⟩ : ∃ q, secB op1 s1 l1.sec = q := ⟨_, rfl⟩
      have HQ := Lib.hid hq
      rw [hq] at HF
      clear hq
      cases q with
      | true =>
        go_wp2_with (go_at_call 14; ((with_reducible refine HF.out.mono ?_); rintro e w1 ⟨rfl, hb1⟩))
        go_ret
        exact ⟨ret_bool (by rw [HO.out, ES.sec_cons, HQ.out]; simp), HW.out.trans (hb1.mono HW.out.size)⟩
      | false =>
        go_wp2_with (go_at_call 14; ((with_reducible refine HF.out.mono ?_); rintro e w1 ⟨rfl, hb1⟩))
        go_roundw
        case rel => exact ⟨k + 1, r, by go_num, by have := HK.out; simp [ES.len] at this; omega, hcnt.2, by rw [HO.out, ES.sec_cons, HQ.out]; rfl, fun _ => ⟨b, o, rfl, hb, by rw [show o + (k + 1) * 4 = o + k * 4 + 4 by omega]; exact hr⟩, HW0.out.trans (hb1.mono (by have := HW0.out.size; simp at this; omega))⟩
        case measure => simp [intOf]; omega

set_option maxRecDepth 100000 in
set_option maxHeartbeats 4000000 in
theorem rof_else (K : Nat) (hof : ROfHas K) (op n : Int) (s : ByteArray) (v : Value) (l : ES) (B : Nat) (w : World) (hK : l.cnt < K + 1) (hv : EV B w v l) (hB : B ≤ w.heap.size) (hs : s.size ≤ 9223372036854775807) (h2 : op ≠ 2) (h4 : op ≠ 4) (h5 : op ≠ 5) :
    Calls Try.prog 14 #[.agg #[.int .i64 op, .int .i64 n, .string s, v]] w fun e w' => e = .returned (.bool l.sec) ∧ Below w.heap.size w w' := by
  obtain ⟨A, cap, rfl, hc1, hc2, hrow⟩ := hv
  obtain ⟨len, hlen⟩ : ∃ len, l.len = len := ⟨_, rfl⟩
  rw [hlen] at hc1 hrow ⊢
  have HL := Lib.hid hlen; clear hlen
  have HG := Lib.hid (fun w1 => rgreat_any s w1 hs)
  have b2 : (op == 2) = false := by simpa using h2
  have b4 : (op == 4) = false := by simpa using h4
  have b5 : (op == 5) = false := by simpa using h5
  have HB := Lib.hid (fun o => (Below.refl w.heap.size w).alloc (Nat.le_refl _) o)
  go_enter Try.func14, Try.ntmps14
  go_wp2_with (go_at_call 25; ((with_reducible refine (HG.out _).mono ?_); rintro e w1 ⟨rfl, rfl⟩))
  go_loopw [3] (fun i wr => ∃ (k : Nat) (r : ES), i = .int .i64 k ∧ k + r.len = len ∧ r.cnt ≤ K ∧ l.sec = r.sec ∧ (0 < r.len → ∃ b o, A = some ⟨b, o, none⟩ ∧ b < B ∧ r.In B w b (o + k * 4)) ∧ Below (w.heap.size + 1) (w.alloc (.cells #[.int .i64 op, .int .i64 n, .string s, .slice A len cap] 28)) wr) (fun i _ => len - (intOf i).toNat)
  case atStart => exact ⟨0, l, rfl, by have := HL.out; omega, by omega, rfl, by simpa [HL.out] using hrow, Below.refl _ _⟩
  case round =>
    obtain ⟨k, r, rfl, hk, hrK, ho, hr1, hW0⟩ := hrel
    have HO := Lib.hid ho; clear ho
    have g3 : wr.cell? ⟨w.heap.size, 3, none⟩ = some (.slice A len cap) := (box_at hW0 3).trans rfl
    have hW := (HB.out _).trans (hW0.mono (Nat.le_succ _))
    cases r with
    | nil =>
      have hk0 : k = len := by simpa [ES.len] using hk
      subst hk0
      clear hk hrow hr1
      go_wp2
      go_ret
      exact ⟨ret_bool (by rw [HO.out]; rfl), hW⟩
    | cons op1 n1 s1 l1 r =>
      obtain ⟨b, o, rfl, hb, c0, c1, c2, ⟨v3, c3, h3⟩, h4, hr⟩ := hr1 (by simp [ES.len])
      clear hrow hr1
      have hlt : k < len := by simp [ES.len] at hk; omega
      have HK := Lib.hid hk; clear hk
      have hbw : b < w.heap.size := by omega
      have d0 := (hW.cell (p := ⟨b, o + k * 4, none⟩) hbw).trans c0
      have d1 := (hW.cell (p := ⟨b, o + k * 4 + 1, none⟩) hbw).trans c1
      have d2 := (hW.cell (p := ⟨b, o + k * 4 + 2, none⟩) hbw).trans c2
      have d3 := (hW.cell (p := ⟨b, o + k * 4 + 3, none⟩) hbw).trans c3
      clear c0 c1 c2 c3
      have hcnt : l1.cnt < K ∧ r.cnt ≤ K := by simp only [ES.cnt] at hrK; omega
      have HF := Lib.hid (hof op1 n1 s1 v3 l1 B wr hcnt.1 (EV.below h3 (hW.mono hB) (Nat.le_refl _)) (Nat.le_trans hB hW.size) h4.2.2)
      obtain ⟨A3, cap3, rfl, _⟩ := id h3
      have HW0 := Lib.hid hW0
      have HW := Lib.hid hW
      clear h3 hW0 hW
      obtain ⟨q, hq⟩ : ∃ q, secB op1 s1 l1.sec = q := ⟨_, rfl⟩
      have HQ := Lib.hid hq
      rw [hq] at HF
      clear hq
      cases q with
      | true =>
        go_wp2_with (go_at_call 14; ((with_reducible refine HF.out.mono ?_); rintro e w1 ⟨rfl, hb1⟩))
        go_ret
        exact ⟨ret_bool (by rw [HO.out, ES.sec_cons, HQ.out]; simp), HW.out.trans (hb1.mono HW.out.size)⟩
      | false =>
        go_wp2_with (go_at_call 14; ((with_reducible refine HF.out.mono ?_); rintro e w1 ⟨rfl, hb1⟩))
        go_roundw
        case rel => exact ⟨k + 1, r, by go_num, by have := HK.out; simp [ES.len] at this; omega, hcnt.2, by rw [HO.out, ES.sec_cons, HQ.out]; rfl, fun _ => ⟨b, o, rfl, hb, by rw [show o + (k + 1) * 4 = o + k * 4 + 4 by omega]; exact hr⟩, HW0.out.trans (hb1.mono (by have := HW0.out.size; simp at this; omega))⟩
        case measure => simp [intOf]; omega

set_option maxHeartbeats 2000000 in
theorem rof_great (op n : Int) (s : ByteArray) (A : Option Addr) (len cap : Nat) (w : World) (hs : s.size ≤ 9223372036854775807) (hg : greatB s = true) (h : op = 2 ∨ op = 4 ∨ op = 5) :
    Calls Try.prog 14 #[.agg #[.int .i64 op, .int .i64 n, .string s, .slice A len cap]] w fun e w' => e = .returned (.bool true) ∧ Below w.heap.size w w' := by
  have HG := Lib.hid (fun w1 => rgreat_any s w1 hs)
  rw [hg] at HG
  have HB := Lib.hid (fun o => (Below.refl w.heap.size w).alloc (Nat.le_refl _) o)
  rcases h with rfl | rfl | rfl
  all_goals
    go_enter Try.func14, Try.ntmps14
    go_wp2_with (go_at_call 25; ((with_reducible refine (HG.out _).mono ?_); rintro e w1 ⟨rfl, rfl⟩))
    go_ret
    exact ⟨rfl, HB.out _⟩
set_option maxHeartbeats 2000000 in
theorem rof_call (n : Int) (s : ByteArray) (A : Option Addr) (len cap : Nat) (w : World) (hs : s.size ≤ 9223372036854775807) (hg : greatB s = false) :
    Calls Try.prog 14 #[.agg #[.int .i64 5, .int .i64 n, .string s, .slice A len cap]] w fun e w' => e = .returned (.bool false) ∧ Below w.heap.size w w' := by
  have HG := Lib.hid (fun w1 => rgreat_any s w1 hs)
  rw [hg] at HG
  have HB := Lib.hid (fun o => (Below.refl w.heap.size w).alloc (Nat.le_refl _) o)
  go_enter Try.func14, Try.ntmps14
  go_wp2_with (go_at_call 25; ((with_reducible refine (HG.out _).mono ?_); rintro e w1 ⟨rfl, rfl⟩))
  go_ret
  exact ⟨rfl, HB.out _⟩

theorem rof_step (K : Nat) (hof : ROfHas K) : ROfHas (K + 1) := by
  intro op n s v l B w hK hv hB hs
  obtain ⟨A, cap, rfl, _⟩ := id hv
  cases hg : greatB s with
  | true =>
    by_cases h : op = 2 ∨ op = 4 ∨ op = 5
    · have e : secB op s l.sec = true := by
        rcases h with rfl | rfl | rfl <;> simp [secB, hg]
      rw [e]
      exact rof_great op n s A l.len cap w hs hg h
    · simp only [not_or] at h
      rw [show secB op s l.sec = l.sec by simp [secB, h]]
      exact rof_else K hof op n s _ l B w hK hv hB hs h.1 h.2.1 h.2.2
  | false =>
    by_cases h5 : op = 5
    · subst h5
      rw [show secB 5 s l.sec = false by simp [secB, hg]]
      exact rof_call n s A l.len cap w hs hg
    · rw [show secB op s l.sec = l.sec by simp [secB, h5, hg]]
      by_cases h2 : op = 2
      · exact rof_two K hof op n s _ l B w hK hv hB hs hg h2
      · by_cases h4 : op = 4
        · exact rof_four K hof op n s _ l B w hK hv hB hs hg h4
        · exact rof_else K hof op n s _ l B w hK hv hB hs h2 h4 h5
theorem rof_all : ∀ K, ROfHas K
  | 0 => fun _ _ _ _ _ _ _ h => absurd h (Nat.not_lt_zero _)
  | K + 1 => rof_step K (rof_all K)
/-- The document's Of. -/
theorem rof_any (op n : Int) (s : ByteArray) (v : Value) (l : ES) (B : Nat) (w : World) (hv : EV B w v l) (hB : B ≤ w.heap.size) (hs : s.size ≤ 9223372036854775807) :
    Calls Try.prog 14 #[.agg #[.int .i64 op, .int .i64 n, .string s, v]] w fun e w' => e = .returned (.bool (secB op s l.sec)) ∧ Below w.heap.size w w' :=
  rof_all (l.cnt + 1) op n s v l B w (Nat.lt_succ_self _) hv hB hs

/-- The k-th expression of a list that lies there. -/
theorem ES.In.get {B : Nat} {W : World} : ∀ {l : ES} {b o k : Nat}, l.In B W b o → k < l.len → ∃ op n s v l1, W.cell? ⟨b, o + k * 4, none⟩ = some (.int .i64 op) ∧ W.cell? ⟨b, o + k * 4 + 1, none⟩ = some (.int .i64 n) ∧ W.cell? ⟨b, o + k * 4 + 2, none⟩ = some (.string s) ∧ W.cell? ⟨b, o + k * 4 + 3, none⟩ = some v ∧
    EV B W v l1 ∧ s.size ≤ 9223372036854775807 ∧ l.secs.getD k false = secB op s l1.sec
  | .nil, _, _, _, _, h => absurd h (Nat.not_lt_zero _)
  | .cons op n s l r, b, o, 0, ⟨h0, h1, h2, ⟨v, h3, hl⟩, h4, _⟩, _ => ⟨op, n, s, v, l, h0, h1, h2, h3, hl, h4.2.2, rfl⟩
  | .cons op n s l r, b, o, k + 1, ⟨_, _, _, _, _, hr⟩, h => by
    obtain ⟨op', n', s', v', l', a0, a1, a2, a3, a4, a5, a6⟩ := ES.In.get (k := k) hr (by simp [ES.len] at h; omega)
    rw [show o + (k + 1) * 4 = o + 4 + k * 4 by omega]
    exact ⟨op', n', s', v', l', a0, a1, a2, a3, a4, a5, by rw [← a6]; rfl⟩

set_option maxHeartbeats 2000000 in
theorem rpart_any (A : Option Addr) (cap : Nat) (l : ES) (B : Nat) (w : World) (hv : EV B w (.slice A l.len cap) l) (hB : B ≤ w.heap.size) (k : Nat) (z : Int) (hz : (k : Int) = z) :
    Calls Try.prog 32 #[.slice A l.len cap, .int .i64 z] w fun e w' => e = .returned (.bool (l.secs.getD k false)) ∧ Below w.heap.size w w' := by
  subst hz
  obtain ⟨A1, cap1, e1, hc1, hc2, hrow⟩ := hv
  injection e1 with e2 e3 e4
  subst e2 e4
  clear e3
  by_cases h : k < l.len
  · obtain ⟨b, o, rfl, hb, hin⟩ := hrow (by omega)
    obtain ⟨op, n, s, v, l1, c0, c1, c2, c3, h3, hs, hq⟩ := hin.get h
    rw [hq]
    have HF := Lib.hid (rof_any op n s v l1 B w h3 hB hs)
    obtain ⟨A3, cap3, rfl, _⟩ := id h3
    obtain ⟨len, hlen⟩ : ∃ len, l.len = len := ⟨_, rfl⟩
    rw [hlen] at h hc1 ⊢
    clear hlen hrow hin h3 hq
    go_enter Try.func32, Try.ntmps32
    go_wp2_with (go_at_call 14; ((with_reducible refine HF.out.mono ?_); rintro e w1 ⟨rfl, hb1⟩))
    go_ret
    exact ⟨rfl, hb1⟩
  · have e : l.secs.getD k false = false := by rw [List.getD_eq_getElem?_getD, List.getElem?_eq_none (by rw [ES.secs_len]; omega)]; rfl
    rw [e]
    obtain ⟨len, hlen⟩ : ∃ len, l.len = len := ⟨_, rfl⟩
    rw [hlen] at h hc1 ⊢
    clear hlen hrow e
    go_enter Try.func32, Try.ntmps32
    go_wp2
    go_ret
    exact ⟨rfl, Below.refl _ _⟩

theorem findP_cons (f : Fn) (r : List Fn) (s : ByteArray) : findP (f :: r) s = if f.s = s then f.ps else findP r s := rfl
theorem ba_beq (s t : ByteArray) : (s.toList == t.toList) = decide (s = t) := by
  rw [ByteArray.toList_eq, ByteArray.toList_eq, Bool.eq_iff_iff]
  simp only [beq_iff_eq, decide_eq_true_eq]
  constructor
  · intro h
    obtain ⟨⟨l⟩⟩ := s
    obtain ⟨⟨m⟩⟩ := t
    simp at h
    rw [h]
  · rintro rfl; rfl

set_option maxRecDepth 100000 in
set_option maxHeartbeats 4000000 in
theorem rfind_any (v : Value) (p : Pg) (s : ByteArray) (w : World) (B : Nat) (hB : B ≤ w.heap.size) (hv : PgV B w v p) :
    Calls Try.prog 40 #[v, .string s] w fun e w' => (∃ A cap, e = .returned (.slice A (findP p.fs s).length cap) ∧ RowV (PsIn w (findP p.fs s)) B (findP p.fs s).length (.slice A (findP p.fs s).length cap)) ∧ Below w.heap.size w w' := by
  obtain ⟨A, cap, A', cap', rfl, h0, h1⟩ := hv
  clear h1
  obtain ⟨A1, cap1, e1, hc1, hc2, hrow⟩ := h0
  injection e1 with e2 e3 e4
  subst e2 e4
  clear e3
  obtain ⟨len, hlen⟩ : ∃ len, p.fs.length = len := ⟨_, rfl⟩
  rw [hlen] at hc1 hrow ⊢
  have HL := Lib.hid hlen; clear hlen
  have HB := Lib.hid (fun o => (Below.refl w.heap.size w).alloc (Nat.le_refl _) o)
  go_enter Try.func40, Try.ntmps40
  go_wp2
  go_loopw [5] (fun i wr => ∃ (k : Nat) (r : List Fn), i = .int .i64 k ∧ k + r.length = len ∧ findP p.fs s = findP r s ∧ (0 < r.length → ∃ b o, A = some ⟨b, o, none⟩ ∧ b < B ∧ FsIn B w r b (o + k * 3)) ∧ Below (w.heap.size + 1) (w.alloc (.cells #[.slice A len cap, .slice A' p.m.len cap'] 25)) wr) (fun i _ => len - (intOf i).toNat)
  case atStart => exact ⟨0, p.fs, rfl, by have := HL.out; omega, rfl, by simpa [HL.out] using hrow, Below.refl _ _⟩
  case round =>
    obtain ⟨k, r, rfl, hk, ho, hr1, hW0⟩ := hrel
    have HO := Lib.hid ho; clear ho
    have g0 : wr.cell? ⟨w.heap.size, 0, none⟩ = some (.slice A len cap) := (box_at hW0 0).trans rfl
    have hW := (HB.out _).trans (hW0.mono (Nat.le_succ _))
    cases r with
    | nil =>
      have hk0 : k = len := by simpa using hk
      subst hk0
      clear hk hrow hr1
      go_wp2
      go_ret
      exact ⟨⟨none, 0, by rw [HO.out]; rfl, by rw [HO.out]; exact ⟨none, 0, rfl, Nat.le_refl _, by decide, fun h => by simp [findP] at h⟩⟩, hW⟩
    | cons f r =>
      obtain ⟨b, o, rfl, hb, c0, ⟨v1, c1, h1⟩, ⟨v2, c2, h2⟩, h3, hr⟩ := hr1 (by simp)
      clear hrow hr1
      have hlt : k < len := by simp at hk; omega
      have HK := Lib.hid hk; clear hk
      have hbw : b < w.heap.size := by omega
      have d0 := (hW.cell (p := ⟨b, o + k * 3, none⟩) hbw).trans c0
      have d1 := (hW.cell (p := ⟨b, o + k * 3 + 1, none⟩) hbw).trans c1
      clear c0 c1 c2 h2
      obtain ⟨A6, cap6, rfl, _⟩ := id h1
      have H1 := Lib.hid h1
      have HW0 := Lib.hid hW0
      have HW := Lib.hid hW
      clear h1 hW0 hW
      by_cases hfs : f.s = s
      · have hb1 : (f.s.toList == s.toList) = true := by rw [ba_beq]; exact decide_eq_true hfs
        go_wp2
        go_ret
        exact ⟨⟨A6, cap6, by rw [HO.out, findP_cons, if_pos hfs]; rfl, by rw [HO.out, findP_cons, if_pos hfs]; exact H1.out⟩, HW.out⟩
      · have hb1 : (f.s.toList == s.toList) = false := by rw [ba_beq]; exact decide_eq_false hfs
        go_wp2
        go_roundw
        case rel => exact ⟨k + 1, r, by go_num, by have := HK.out; simp at this; omega, by rw [HO.out, findP_cons, if_neg hfs], fun _ => ⟨b, o, rfl, hb, by rw [show o + (k + 1) * 3 = o + k * 3 + 3 by omega]; exact hr⟩, HW0.out⟩
        case measure => simp [intOf]; omega
end Go.Proofs.Ythfcnnicpmkclaa
