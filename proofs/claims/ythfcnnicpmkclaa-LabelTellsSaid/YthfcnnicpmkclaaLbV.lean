/-
  The document's own answer for layer 7: exprs.
-/
import Derived.Test.YthfcnnicpmkclaaLbR
namespace Go.Proofs.Ythfcnnicpmkclaa
open Go Go.RowKit Go.Lib

/-- What the document's exprs does, at lists that hold fewer than K. -/
def RExHas (K : Nat) : Prop := ∀ (v : Value) (p : Pg) (A : Option Addr) (cap : Nat) (l : ES) (B : Nat) (w : World), l.cnt < K → PgV B w v p → EV B w (.slice A l.len cap) l → B ≤ w.heap.size →
  Calls Try.prog 33 #[v, .slice A l.len cap] w fun e w' => e = .returned (.bool (l.tells p.fs)) ∧ Below w.heap.size w w'

theorem tells_cons (fs : List Fn) (op n : Int) (s : ByteArray) (l r : ES) : (ES.cons op n s l r).tells fs = ((l.tells fs || ownE fs op s l.secs) || r.tells fs) := rfl
/-- The boxes of a round. -/
theorem rb_cells {w wr w2 : World} {a b c d x y : Value} {t t' : TypeId} (hW0 : Below (w.heap.size + 1) (w.alloc (.cells #[x, y] t')) wr) (h : Below (wr.heap.size + 1) (wr.alloc (.cells #[a, b, c, d] t)) w2) :
    (w2.cell? ⟨wr.heap.size, 0, none⟩ = some a ∧ w2.cell? ⟨wr.heap.size, 1, none⟩ = some b ∧ w2.cell? ⟨wr.heap.size, 2, none⟩ = some c ∧ w2.cell? ⟨wr.heap.size, 3, none⟩ = some d) ∧ w2.cell? ⟨w.heap.size, 0, none⟩ = some x ∧ w2.cell? ⟨w.heap.size, 1, none⟩ = some y := by
  have hs := hW0.size
  simp only [World.size_alloc] at hs
  have h1 : ∀ i, w2.cell? ⟨w.heap.size, i, none⟩ = wr.cell? ⟨w.heap.size, i, none⟩ := fun i => (h.cell (p := ⟨w.heap.size, i, none⟩) (by show w.heap.size < _; omega)).trans (((Below.refl wr.heap.size wr).alloc (Nat.le_refl _) _).cell (p := ⟨w.heap.size, i, none⟩) (by show w.heap.size < _; omega))
  exact ⟨⟨(box_at h 0).trans rfl, (box_at h 1).trans rfl, (box_at h 2).trans rfl, (box_at h 3).trans rfl⟩, (h1 0).trans ((box_at hW0 0).trans rfl), (h1 1).trans ((box_at hW0 1).trans rfl)⟩

set_option maxRecDepth 100000 in
set_option maxHeartbeats 8000000 in
theorem rex_step (K : Nat) (hex : RExHas K) : RExHas (K + 1) := by
  intro v p A cap l B w hK hv hl hB
  have hv0 := hv
  obtain ⟨Af, cf, Am, cm, rfl, _, _⟩ := id hv
  obtain ⟨A1, cap1, e1, hc1, hc2, hrow⟩ := hl
  injection e1 with e2 e3 e4
  subst e2 e4
  clear e3 hv
  obtain ⟨nf, hnf⟩ : ∃ nf, p.fs.length = nf := ⟨_, rfl⟩
  obtain ⟨nm, hnm⟩ : ∃ nm, p.m.len = nm := ⟨_, rfl⟩
  rw [hnf, hnm] at hv0 ⊢
  clear hnf hnm
  obtain ⟨len, hlen⟩ : ∃ len, l.len = len := ⟨_, rfl⟩
  rw [hlen] at hc1 hrow ⊢
  have HL := Lib.hid hlen; clear hlen
  have HV := Lib.hid hv0; clear hv0
  have HB := Lib.hid (fun o => (Below.refl w.heap.size w).alloc (Nat.le_refl _) o)
  go_enter Try.func33, Try.ntmps33
  go_wp2
  go_loopw [5] (fun i wr => ∃ (k : Nat) (r : ES), i = .int .i64 k ∧ k + r.len = len ∧ r.cnt ≤ K ∧ l.tells p.fs = r.tells p.fs ∧ (0 < r.len → ∃ b o, A = some ⟨b, o, none⟩ ∧ b < B ∧ r.In B w b (o + k * 4)) ∧ Below (w.heap.size + 1) (w.alloc (.cells #[.slice Af nf cf, .slice Am nm cm] 25)) wr) (fun i _ => len - (intOf i).toNat)
  case atStart => exact ⟨0, l, rfl, by have := HL.out; omega, by omega, rfl, by simpa [HL.out] using hrow, Below.refl _ _⟩
  case round =>
    obtain ⟨k, r, rfl, hk, hrK, ho, hr1, hW0⟩ := hrel
    have HO := Lib.hid ho; clear ho
    have g0 : wr.cell? ⟨w.heap.size, 0, none⟩ = some (.slice Af nf cf) := (box_at hW0 0).trans rfl
    have g1 : wr.cell? ⟨w.heap.size, 1, none⟩ = some (.slice Am nm cm) := (box_at hW0 1).trans rfl
    have hW := (HB.out _).trans (hW0.mono (Nat.le_succ _))
    have hsw : w.heap.size < wr.heap.size := by have := hW0.size; simp only [World.size_alloc] at this; omega
    cases r with
    | nil =>
      have hk0 : k = len := by simpa [ES.len] using hk
      subst hk0
      clear hk hrow hr1
      go_wp2
      go_ret
      exact ⟨ret_bool (by rw [HO.out]; rfl), hW⟩
    | cons op n s l1 r =>
      obtain ⟨b, o, rfl, hb, c0, c1, c2, ⟨v3, c3, h3⟩, h4, hr⟩ := hr1 (by simp [ES.len])
      clear hrow hr1
      have hlt : k < len := by simp [ES.len] at hk; omega
      have HK := Lib.hid hk; clear hk
      have hbw : b < w.heap.size := by omega
      have d0 := (hW.cell (p := ⟨b, o + k * 4, none⟩) hbw).trans c0
      have d1 := (hW.cell (p := ⟨b, o + k * 4 + 1, none⟩) hbw).trans c1
      have d2 := (hW.cell (p := ⟨b, o + k * 4 + 2, none⟩) hbw).trans c2
      have d3 := (hW.cell (p := ⟨b, o + k * 4 + 3, none⟩) hbw).trans c3
      clear c0 c1 c2 c3
      have hcnt : l1.cnt < K ∧ r.cnt ≤ K := by simp only [ES.cnt] at hrK; omega
      obtain ⟨A3, cap3, rfl, _⟩ := id h3
      have hbB : ∀ wx, Below wr.heap.size wr wx → Below B w wx := fun wx h => (hW.mono hB).trans (h.mono (Nat.le_trans hB hW.size))
      have hB2 : ∀ wx, Below wr.heap.size wr wx → B ≤ wx.heap.size := fun wx h => Nat.le_trans (Nat.le_trans hB hW.size) h.size
      have HI := Lib.hid (fun wx (h : Below wr.heap.size wr wx) => hex _ p A3 cap3 l1 B wx hcnt.1 (HV.out.below (hbB wx h) (Nat.le_refl _)) (EV.below h3 (hbB wx h) (Nat.le_refl _)) (hB2 wx h))
      have HP := Lib.hid (fun wx (h : Below wr.heap.size wr wx) k z hz => rpart_any A3 cap3 l1 B wx (EV.below h3 (hbB wx h) (Nat.le_refl _)) (hB2 wx h) k z hz)
      have HF := Lib.hid (fun wx (h : Below wr.heap.size wr wx) => rfind_any _ p s wx B (hB2 wx h) (HV.out.below (hbB wx h) (Nat.le_refl _)))
      have HRB := Lib.hid (fun w2 h => rb_cells (w2 := w2) (a := .int .i64 op) (b := .int .i64 n) (c := .string s) (d := .slice A3 l1.len cap3) (t := 28) hW0 h)
      have HA := Lib.hid (fun w2 (h : Below (wr.heap.size + 1) (wr.alloc (.cells #[.int .i64 op, .int .i64 n, .string s, .slice A3 l1.len cap3] 28)) w2) => (((Below.refl wr.heap.size wr).alloc (Nat.le_refl _) _).trans (h.mono (Nat.le_succ _)) : Below wr.heap.size wr w2))
      have HW := Lib.hid hW
      have HEND := Lib.hid (fun w2 (h : Below (wr.heap.size + 1) (wr.alloc (.cells #[.int .i64 op, .int .i64 n, .string s, .slice A3 l1.len cap3] 28)) w2) => hW0.trans ((HA.out w2 h).mono hsw))
      have HBB := Lib.hid hbB
      have HB2 := Lib.hid hB2
      have HR0 := Lib.hid (Below.refl (wr.heap.size + 1) (wr.alloc (.cells #[.int .i64 op, .int .i64 n, .string s, .slice A3 l1.len cap3] 28)))
      have HSZ := Lib.hid hsw
      have hs := h4.2.2
      clear h3 hW hW0 hbB hB2 h4
      obtain ⟨ln, hln⟩ : ∃ ln, l1.len = ln := ⟨_, rfl⟩
      rw [hln] at HI HP HRB HA HEND HR0 d3
      clear hln
      obtain ⟨q, hq⟩ : ∃ q, l1.tells p.fs = q := ⟨_, rfl⟩
      have HQ := Lib.hid hq
      rw [hq] at HI
      obtain ⟨at_, hat⟩ : ∃ x, l1.secs.getD 0 false = x := ⟨_, rfl⟩
      obtain ⟨by_, hby⟩ : ∃ x, l1.secs.getD 1 false = x := ⟨_, rfl⟩
      have HAT := Lib.hid hat
      have HBY := Lib.hid hby
      have HP0 := Lib.hid (fun wx h => HP.out wx h 0 0 rfl)
      have HP1 := Lib.hid (fun wx h => HP.out wx h 1 1 rfl)
      rw [hat] at HP0
      rw [hby] at HP1
      clear hq hat hby
      cases q with
      | true =>
        go_wp2_with (first
          | (go_at_call 33; ((with_reducible refine (HI.out _ (HA.out _ HR0.out)).mono ?_); rintro e w2 ⟨rfl, hb2⟩; have h2 := (HR0.out).trans (hb2.mono (by simp)); have H2 := Lib.hid h2; obtain ⟨⟨x0, x1, x2, x3⟩, y0, y1⟩ := HRB.out w2 h2; clear h2 hb2)))
        go_ret
        exact ⟨ret_bool (by rw [HO.out, tells_cons, HQ.out]; simp), HW.out.trans ((HA.out _ H2.out).mono HW.out.size)⟩
      | false =>
        by_cases o4 : op = 4
        · subst o4
          have HOW : Hid (ownE p.fs 4 s l1.secs = at_) := Lib.hid (by rw [← HAT.out]; simp [ownE])
          cases at_ with
          | true =>
            go_wp2_with (first
              | (go_at_call 33; ((with_reducible refine (HI.out _ (HA.out _ HR0.out)).mono ?_); rintro e w2 ⟨rfl, hb2⟩; have h2 := (HR0.out).trans (hb2.mono (by simp)); have H2 := Lib.hid h2; obtain ⟨⟨x0, x1, x2, x3⟩, y0, y1⟩ := HRB.out w2 h2; clear h2 hb2))
              | (go_at_call 32; ((with_reducible refine (HP0.out _ (HA.out _ H2.out)).mono ?_); rintro e w3 ⟨rfl, hb3⟩; have h3 := H2.out.trans (hb3.mono (by have := H2.out.size; simpa using this)); have H3 := Lib.hid h3; obtain ⟨⟨x0, x1, x2, x3⟩, y0, y1⟩ := HRB.out w3 h3; clear h3 hb3))
              | (go_at_call 32; ((with_reducible refine (HP1.out _ (HA.out _ H3.out)).mono ?_); rintro e w4 ⟨rfl, hb4⟩; have h4 := H3.out.trans (hb4.mono (by have := H3.out.size; simpa using this)); have H4 := Lib.hid h4; obtain ⟨⟨x0, x1, x2, x3⟩, y0, y1⟩ := HRB.out w4 h4; clear h4 hb4)))
            go_ret
            exact ⟨ret_bool (by rw [HO.out, tells_cons, HQ.out, HOW.out]; simp), HW.out.trans ((HA.out _ H4.out).mono HW.out.size)⟩
          | false =>
            go_wp2_with (first
              | (go_at_call 33; ((with_reducible refine (HI.out _ (HA.out _ HR0.out)).mono ?_); rintro e w2 ⟨rfl, hb2⟩; have h2 := (HR0.out).trans (hb2.mono (by simp)); have H2 := Lib.hid h2; obtain ⟨⟨x0, x1, x2, x3⟩, y0, y1⟩ := HRB.out w2 h2; clear h2 hb2))
              | (go_at_call 32; ((with_reducible refine (HP0.out _ (HA.out _ H2.out)).mono ?_); rintro e w3 ⟨rfl, hb3⟩; have h3 := H2.out.trans (hb3.mono (by have := H2.out.size; simpa using this)); have H3 := Lib.hid h3; obtain ⟨⟨x0, x1, x2, x3⟩, y0, y1⟩ := HRB.out w3 h3; clear h3 hb3))
              | (go_at_call 32; ((with_reducible refine (HP1.out _ (HA.out _ H3.out)).mono ?_); rintro e w4 ⟨rfl, hb4⟩; have h4 := H3.out.trans (hb4.mono (by have := H3.out.size; simpa using this)); have H4 := Lib.hid h4; obtain ⟨⟨x0, x1, x2, x3⟩, y0, y1⟩ := HRB.out w4 h4; clear h4 hb4)))
            go_roundw
            case rel => exact ⟨k + 1, r, by go_num, by have := HK.out; simp [ES.len] at this; omega, hcnt.2, by rw [HO.out, tells_cons, HQ.out, HOW.out]; simp, fun _ => ⟨b, o, rfl, hb, by rw [show o + (k + 1) * 4 = o + k * 4 + 4 by omega]; exact hr⟩, HEND.out _ H4.out⟩
            case measure => simp [intOf]; omega
        have b4 : (op == 4) = false := by simpa using o4
        by_cases o11 : op = 11
        · subst o11
          have HOW : Hid (ownE p.fs 11 s l1.secs = by_) := Lib.hid (by rw [← HBY.out]; simp [ownE])
          cases by_ with
          | true =>
            go_wp2_with (first
              | (go_at_call 33; ((with_reducible refine (HI.out _ (HA.out _ HR0.out)).mono ?_); rintro e w2 ⟨rfl, hb2⟩; have h2 := (HR0.out).trans (hb2.mono (by simp)); have H2 := Lib.hid h2; obtain ⟨⟨x0, x1, x2, x3⟩, y0, y1⟩ := HRB.out w2 h2; clear h2 hb2))
              | (go_at_call 32; ((with_reducible refine (HP0.out _ (HA.out _ H2.out)).mono ?_); rintro e w3 ⟨rfl, hb3⟩; have h3 := H2.out.trans (hb3.mono (by have := H2.out.size; simpa using this)); have H3 := Lib.hid h3; obtain ⟨⟨x0, x1, x2, x3⟩, y0, y1⟩ := HRB.out w3 h3; clear h3 hb3))
              | (go_at_call 32; ((with_reducible refine (HP1.out _ (HA.out _ H3.out)).mono ?_); rintro e w4 ⟨rfl, hb4⟩; have h4 := H3.out.trans (hb4.mono (by have := H3.out.size; simpa using this)); have H4 := Lib.hid h4; obtain ⟨⟨x0, x1, x2, x3⟩, y0, y1⟩ := HRB.out w4 h4; clear h4 hb4)))
            go_ret
            exact ⟨ret_bool (by rw [HO.out, tells_cons, HQ.out, HOW.out]; simp), HW.out.trans ((HA.out _ H4.out).mono HW.out.size)⟩
          | false =>
            go_wp2_with (first
              | (go_at_call 33; ((with_reducible refine (HI.out _ (HA.out _ HR0.out)).mono ?_); rintro e w2 ⟨rfl, hb2⟩; have h2 := (HR0.out).trans (hb2.mono (by simp)); have H2 := Lib.hid h2; obtain ⟨⟨x0, x1, x2, x3⟩, y0, y1⟩ := HRB.out w2 h2; clear h2 hb2))
              | (go_at_call 32; ((with_reducible refine (HP0.out _ (HA.out _ H2.out)).mono ?_); rintro e w3 ⟨rfl, hb3⟩; have h3 := H2.out.trans (hb3.mono (by have := H2.out.size; simpa using this)); have H3 := Lib.hid h3; obtain ⟨⟨x0, x1, x2, x3⟩, y0, y1⟩ := HRB.out w3 h3; clear h3 hb3))
              | (go_at_call 32; ((with_reducible refine (HP1.out _ (HA.out _ H3.out)).mono ?_); rintro e w4 ⟨rfl, hb4⟩; have h4 := H3.out.trans (hb4.mono (by have := H3.out.size; simpa using this)); have H4 := Lib.hid h4; obtain ⟨⟨x0, x1, x2, x3⟩, y0, y1⟩ := HRB.out w4 h4; clear h4 hb4)))
            go_roundw
            case rel => exact ⟨k + 1, r, by go_num, by have := HK.out; simp [ES.len] at this; omega, hcnt.2, by rw [HO.out, tells_cons, HQ.out, HOW.out]; simp, fun _ => ⟨b, o, rfl, hb, by rw [show o + (k + 1) * 4 = o + k * 4 + 4 by omega]; exact hr⟩, HEND.out _ H4.out⟩
            case measure => simp [intOf]; omega
        have b11 : (op == 11) = false := by simpa using o11
        by_cases o12 : op = 12
        · subst o12
          have HOW : Hid (ownE p.fs 12 s l1.secs = by_) := Lib.hid (by rw [← HBY.out]; simp [ownE])
          cases by_ with
          | true =>
            go_wp2_with (first
              | (go_at_call 33; ((with_reducible refine (HI.out _ (HA.out _ HR0.out)).mono ?_); rintro e w2 ⟨rfl, hb2⟩; have h2 := (HR0.out).trans (hb2.mono (by simp)); have H2 := Lib.hid h2; obtain ⟨⟨x0, x1, x2, x3⟩, y0, y1⟩ := HRB.out w2 h2; clear h2 hb2))
              | (go_at_call 32; ((with_reducible refine (HP0.out _ (HA.out _ H2.out)).mono ?_); rintro e w3 ⟨rfl, hb3⟩; have h3 := H2.out.trans (hb3.mono (by have := H2.out.size; simpa using this)); have H3 := Lib.hid h3; obtain ⟨⟨x0, x1, x2, x3⟩, y0, y1⟩ := HRB.out w3 h3; clear h3 hb3))
              | (go_at_call 32; ((with_reducible refine (HP1.out _ (HA.out _ H3.out)).mono ?_); rintro e w4 ⟨rfl, hb4⟩; have h4 := H3.out.trans (hb4.mono (by have := H3.out.size; simpa using this)); have H4 := Lib.hid h4; obtain ⟨⟨x0, x1, x2, x3⟩, y0, y1⟩ := HRB.out w4 h4; clear h4 hb4)))
            go_ret
            exact ⟨ret_bool (by rw [HO.out, tells_cons, HQ.out, HOW.out]; simp), HW.out.trans ((HA.out _ H4.out).mono HW.out.size)⟩
          | false =>
            go_wp2_with (first
              | (go_at_call 33; ((with_reducible refine (HI.out _ (HA.out _ HR0.out)).mono ?_); rintro e w2 ⟨rfl, hb2⟩; have h2 := (HR0.out).trans (hb2.mono (by simp)); have H2 := Lib.hid h2; obtain ⟨⟨x0, x1, x2, x3⟩, y0, y1⟩ := HRB.out w2 h2; clear h2 hb2))
              | (go_at_call 32; ((with_reducible refine (HP0.out _ (HA.out _ H2.out)).mono ?_); rintro e w3 ⟨rfl, hb3⟩; have h3 := H2.out.trans (hb3.mono (by have := H2.out.size; simpa using this)); have H3 := Lib.hid h3; obtain ⟨⟨x0, x1, x2, x3⟩, y0, y1⟩ := HRB.out w3 h3; clear h3 hb3))
              | (go_at_call 32; ((with_reducible refine (HP1.out _ (HA.out _ H3.out)).mono ?_); rintro e w4 ⟨rfl, hb4⟩; have h4 := H3.out.trans (hb4.mono (by have := H3.out.size; simpa using this)); have H4 := Lib.hid h4; obtain ⟨⟨x0, x1, x2, x3⟩, y0, y1⟩ := HRB.out w4 h4; clear h4 hb4)))
            go_roundw
            case rel => exact ⟨k + 1, r, by go_num, by have := HK.out; simp [ES.len] at this; omega, hcnt.2, by rw [HO.out, tells_cons, HQ.out, HOW.out]; simp, fun _ => ⟨b, o, rfl, hb, by rw [show o + (k + 1) * 4 = o + k * 4 + 4 by omega]; exact hr⟩, HEND.out _ H4.out⟩
            case measure => simp [intOf]; omega
        have b12 : (op == 12) = false := by simpa using o12
        by_cases o5 : op = 5
        · subst o5
          have HOW : Hid (ownE p.fs 5 s l1.secs = intoP l1.secs (findP p.fs s) 0) := Lib.hid (by simp [ownE])
          clear b4 b11 b12 o4 o11 o12
          go_wp2_with (first
            | (go_at_call 33; ((with_reducible refine (HI.out _ (HA.out _ HR0.out)).mono ?_); rintro e w2 ⟨rfl, hb2⟩; have h2 := (HR0.out).trans (hb2.mono (by simp)); have H2 := Lib.hid h2; obtain ⟨⟨x0, x1, x2, x3⟩, y0, y1⟩ := HRB.out w2 h2; clear h2 hb2))
            | (go_at_call 32; ((with_reducible refine (HP0.out _ (HA.out _ H2.out)).mono ?_); rintro e w3 ⟨rfl, hb3⟩; have h3 := H2.out.trans (hb3.mono (by have := H2.out.size; simpa using this)); have H3 := Lib.hid h3; obtain ⟨⟨x0, x1, x2, x3⟩, y0, y1⟩ := HRB.out w3 h3; clear h3 hb3))
            | (go_at_call 32; ((with_reducible refine (HP1.out _ (HA.out _ H3.out)).mono ?_); rintro e w4 ⟨rfl, hb4⟩; have h4 := H3.out.trans (hb4.mono (by have := H3.out.size; simpa using this)); have H4 := Lib.hid h4; obtain ⟨⟨x0, x1, x2, x3⟩, y0, y1⟩ := HRB.out w4 h4; clear h4 hb4))
            | (go_at_call 40; ((with_reducible refine (HF.out _ (HA.out _ H4.out)).mono ?_); rintro e w5 ⟨⟨Ap, cp, rfl, hps⟩, hb5⟩; have h5 := H4.out.trans (hb5.mono (by have := H4.out.size; simpa using this)); have H5 := Lib.hid h5; obtain ⟨⟨x0, x1, x2, x3⟩, y0, y1⟩ := HRB.out w5 h5; have HPS := Lib.hid (RowV.imp hps (Nat.le_refl _) (fun b' o' hb' hp' => PsIn.below (B := B) (hb5.mono (HB2.out _ (HA.out _ H4.out))) hb' hp')); clear h5 hb5 hps)))
          have hps := HPS.out
          obtain ⟨Ap', cp', e1, hp1, hp2, hprow⟩ := hps
          injection e1 with e2 e3 e4
          subst e2 e4
          clear e3 HPS
          obtain ⟨ps, hpsn⟩ : ∃ ps, findP p.fs s = ps := ⟨_, rfl⟩
          rw [hpsn] at HOW hp1 hprow ⊢
          clear hpsn
          obtain ⟨pl, hpl⟩ : ∃ pl, ps.length = pl := ⟨_, rfl⟩
          rw [hpl] at hp1 hprow ⊢
          have HPL := Lib.hid hpl; clear hpl
          have HROW := Lib.hid hprow; clear hprow
          go_loopw [11] (fun i wx => ∃ (j : Nat) (rs : List ByteArray), i = .int .i64 j ∧ j + rs.length = pl ∧ intoP l1.secs ps 0 = intoP l1.secs rs j ∧ (0 < rs.length → ∃ b' o', Ap = some ⟨b', o', none⟩ ∧ b' < B ∧ PsIn w5 rs b' (o' + j)) ∧ Below w5.heap.size w5 wx) (fun i _ => pl - (intOf i).toNat)
          case atStart => exact ⟨0, ps, rfl, by have := HPL.out; omega, rfl, by simpa [HPL.out] using HROW.out, Below.refl _ _⟩
          case round =>
            obtain ⟨j, rs, rfl, hj, hin, hrs1, hWx⟩ := hrel
            have HIN := Lib.hid hin; clear hin
            have h6 := H5.out.trans (hWx.mono (by have := H5.out.size; simpa using this))
            obtain ⟨⟨x0, x1, x2, x3⟩, y0, y1⟩ := HRB.out _ h6
            have H6 := Lib.hid h6
            cases rs with
            | nil =>
              have hj0 : j = pl := by simpa using hj
              subst hj0
              clear hj hrs1 h6
              go_wp2
              go_roundw
              case rel => exact ⟨k + 1, r, by go_num, by have := HK.out; simp [ES.len] at this; omega, hcnt.2, by rw [HO.out, tells_cons, HQ.out, HOW.out, HIN.out]; simp [intoP], fun _ => ⟨b, o, rfl, hb, by rw [show o + (k + 1) * 4 = o + k * 4 + 4 by omega]; exact hr⟩, HEND.out _ H6.out⟩
              case measure => simp [intOf]; omega
            | cons t rs =>
              obtain ⟨b', o', rfl, hb', p0, hts, hrs⟩ := hrs1 (by simp)
              have hjl : j < pl := by simp at hj; omega
              have HJ := Lib.hid hj
              have hb5 : b' < w5.heap.size := Nat.lt_of_lt_of_le hb' (HB2.out _ (HA.out _ H5.out))
              have e0 := (hWx.cell (p := ⟨b', o' + j, none⟩) hb5).trans p0
              have HPJ := Lib.hid (HP.out _ (HA.out _ H6.out) j j rfl)
              have HGT := Lib.hid (fun w1 => rgreat_any t w1 hts)
              have HWX := Lib.hid hWx
              clear p0 hj h6 hWx hrs1
              obtain ⟨is_, his⟩ : ∃ x, l1.secs.getD j false = x := ⟨_, rfl⟩
              obtain ⟨gr, hgr⟩ : ∃ x, greatB t = x := ⟨_, rfl⟩
              rw [his] at HPJ
              rw [hgr] at HGT
              have HIS := Lib.hid his
              have HGR := Lib.hid hgr
              clear his hgr
              cases is_
              all_goals
                cases gr
              case true.false =>
                go_wp2_with (first
                  | (go_at_call 32; ((with_reducible refine HPJ.out.mono ?_); rintro e w7 ⟨rfl, hb7⟩; have h7 := H6.out.trans (hb7.mono (by have := H6.out.size; simpa using this)); have H7 := Lib.hid h7; obtain ⟨⟨x0, x1, x2, x3⟩, y0, y1⟩ := HRB.out w7 h7; have e1 := (hb7.cell (p := ⟨b', o' + j, none⟩) (Nat.lt_of_lt_of_le hb5 HWX.out.size)).trans e0; have HB7 := Lib.hid hb7; clear h7 hb7))
                  | (go_at_call 25; ((with_reducible refine (HGT.out _).mono ?_); rintro e w8 ⟨rfl, rfl⟩)))
                go_ret
                exact ⟨ret_bool (by rw [HO.out, tells_cons, HQ.out, HOW.out, HIN.out, intoP, HIS.out, HGR.out]; simp), HW.out.trans ((HA.out _ H7.out).mono HW.out.size)⟩
              all_goals
                go_wp2_with (first
                  | (go_at_call 32; ((with_reducible refine HPJ.out.mono ?_); rintro e w7 ⟨rfl, hb7⟩; have h7 := H6.out.trans (hb7.mono (by have := H6.out.size; simpa using this)); have H7 := Lib.hid h7; obtain ⟨⟨x0, x1, x2, x3⟩, y0, y1⟩ := HRB.out w7 h7; have e1 := (hb7.cell (p := ⟨b', o' + j, none⟩) (Nat.lt_of_lt_of_le hb5 HWX.out.size)).trans e0; have HB7 := Lib.hid hb7; clear h7 hb7))
                  | (go_at_call 25; ((with_reducible refine (HGT.out _).mono ?_); rintro e w8 ⟨rfl, rfl⟩)))
                go_roundw
                case rel => exact ⟨j + 1, rs, by go_num, by have := HJ.out; simp at this; omega, by rw [HIN.out, intoP, HIS.out, HGR.out]; simp, fun _ => ⟨b', o', rfl, hb', by rw [show o' + (j + 1) = o' + j + 1 by omega]; exact hrs⟩, HWX.out.trans (HB7.out.mono HWX.out.size)⟩
                case measure => simp [intOf]; omega
        have b5 : (op == 5) = false := by simpa using o5
        have HOW : Hid (ownE p.fs op s l1.secs = false) := Lib.hid (by simp [ownE, o4, o11, o12, o5])
        go_wp2_with (first
          | (go_at_call 33; ((with_reducible refine (HI.out _ (HA.out _ HR0.out)).mono ?_); rintro e w2 ⟨rfl, hb2⟩; have h2 := (HR0.out).trans (hb2.mono (by simp)); have H2 := Lib.hid h2; obtain ⟨⟨x0, x1, x2, x3⟩, y0, y1⟩ := HRB.out w2 h2; clear h2 hb2))
          | (go_at_call 32; ((with_reducible refine (HP0.out _ (HA.out _ H2.out)).mono ?_); rintro e w3 ⟨rfl, hb3⟩; have h3 := H2.out.trans (hb3.mono (by have := H2.out.size; simpa using this)); have H3 := Lib.hid h3; obtain ⟨⟨x0, x1, x2, x3⟩, y0, y1⟩ := HRB.out w3 h3; clear h3 hb3))
          | (go_at_call 32; ((with_reducible refine (HP1.out _ (HA.out _ H3.out)).mono ?_); rintro e w4 ⟨rfl, hb4⟩; have h4 := H3.out.trans (hb4.mono (by have := H3.out.size; simpa using this)); have H4 := Lib.hid h4; obtain ⟨⟨x0, x1, x2, x3⟩, y0, y1⟩ := HRB.out w4 h4; clear h4 hb4)))
        go_roundw
        case rel => exact ⟨k + 1, r, by go_num, by have := HK.out; simp [ES.len] at this; omega, hcnt.2, by rw [HO.out, tells_cons, HQ.out, HOW.out]; simp, fun _ => ⟨b, o, rfl, hb, by rw [show o + (k + 1) * 4 = o + k * 4 + 4 by omega]; exact hr⟩, HEND.out _ H4.out⟩
        case measure => simp [intOf]; omega

theorem rex_all : ∀ K, RExHas K
  | 0 => fun _ _ _ _ _ _ _ h => absurd h (Nat.not_lt_zero _)
  | K + 1 => rex_step K (rex_all K)
/-- The document's exprs. -/
theorem rex_any (v : Value) (p : Pg) (A : Option Addr) (cap : Nat) (l : ES) (B : Nat) (w : World) (hv : PgV B w v p) (hl : EV B w (.slice A l.len cap) l) (hB : B ≤ w.heap.size) :
    Calls Try.prog 33 #[v, .slice A l.len cap] w fun e w' => e = .returned (.bool (l.tells p.fs)) ∧ Below w.heap.size w w' :=
  rex_all (l.cnt + 1) v p A cap l B w (Nat.lt_succ_self _) hv hl hB
end Go.Proofs.Ythfcnnicpmkclaa
