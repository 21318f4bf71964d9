/-
  The document's own answer for layer 7: stmts, Check.
-/
import Derived.Test.YthfcnnicpmkclaaLbV
import Derived.Test.YthfcnnicpmkclaaLbJ
import Derived.Deep.DeepCutAuto
import Derived.Deep.CutBlock
namespace Go.Proofs.Ythfcnnicpmkclaa
open Go Go.RowKit Go.Lib

/-- What the document's stmts does, at lists that hold fewer than K. -/
def RStHas (K : Nat) : Prop := ∀ (v : Value) (p : Pg) (A : Option Addr) (cap : Nat) (l : SS) (pub : Bool) (B : Nat) (w : World), l.cnt < K → PgV B w v p → SV B w (.slice A l.len cap) l → B ≤ w.heap.size →
  Calls Try.prog 24 #[v, .slice A l.len cap, .bool pub] w fun e w' => e = .returned (.bool (l.tells p.fs pub)) ∧ Below w.heap.size w w'

theorem stells_cons (fs : List Fn) (pub : Bool) (op n : Int) (s : ByteArray) (l : ES) (x y r : SS) : (SS.cons op s n l x y r).tells fs pub = ((((l.tells fs || ownS pub op s l.secs) || x.tells fs pub) || y.tells fs pub) || r.tells fs pub) := rfl
theorem rb_cells6 {w wr w2 : World} {a b c d e f x y : Value} {t t' : TypeId} (hW0 : Below (w.heap.size + 1) (w.alloc (.cells #[x, y] t')) wr) (h : Below (wr.heap.size + 1) (wr.alloc (.cells #[a, b, c, d, e, f] t)) w2) :
    (w2.cell? ⟨wr.heap.size, 0, none⟩ = some a ∧ w2.cell? ⟨wr.heap.size, 1, none⟩ = some b ∧ w2.cell? ⟨wr.heap.size, 3, none⟩ = some d ∧ w2.cell? ⟨wr.heap.size, 4, none⟩ = some e ∧ w2.cell? ⟨wr.heap.size, 5, none⟩ = some f) ∧ w2.cell? ⟨w.heap.size, 0, none⟩ = some x ∧ w2.cell? ⟨w.heap.size, 1, none⟩ = some y := by
  have hs := hW0.size
  simp only [World.size_alloc] at hs
  have h1 : ∀ i, w2.cell? ⟨w.heap.size, i, none⟩ = wr.cell? ⟨w.heap.size, i, none⟩ := fun i => (h.cell (p := ⟨w.heap.size, i, none⟩) (by show w.heap.size < _; omega)).trans (((Below.refl wr.heap.size wr).alloc (Nat.le_refl _) _).cell (p := ⟨w.heap.size, i, none⟩) (by show w.heap.size < _; omega))
  exact ⟨⟨(box_at h 0).trans rfl, (box_at h 1).trans rfl, (box_at h 3).trans rfl, (box_at h 4).trans rfl, (box_at h 5).trans rfl⟩, (h1 0).trans ((box_at hW0 0).trans rfl), (h1 1).trans ((box_at hW0 1).trans rfl)⟩

set_option maxRecDepth 100000 in
set_option maxHeartbeats 8000000 in
theorem rst_step (K : Nat) (hst : RStHas K) : RStHas (K + 1) := by
  intro v p A cap l pub B w hK hv hl hB
  have hv0 := hv
  obtain ⟨Af, cf, Am, cm, rfl, _, _⟩ := id hv
  obtain ⟨A1, cap1, e1, hc1, hc2, hrow⟩ := hl
  injection e1 with e2 e3 e4
  subst e2 e4
  clear e3 hv
  obtain ⟨nf, hnf⟩ : ∃ nf, p.fs.length = nf := ⟨_, rfl⟩
  obtain ⟨nm, hnm⟩ : ∃ nm, p.m.len = nm := ⟨_, rfl⟩
  rw [hnf, hnm] at hv0 ⊢
  clear hnf hnm
  obtain ⟨len, hlen⟩ : ∃ len, l.len = len := ⟨_, rfl⟩
  rw [hlen] at hc1 hrow ⊢
  have HL := Lib.hid hlen; clear hlen
  have HV := Lib.hid hv0; clear hv0
  have HB := Lib.hid (fun o => (Below.refl w.heap.size w).alloc (Nat.le_refl _) o)
  go_enter Try.func24, Try.ntmps24
  go_wp2
  go_loopw [7] (fun i wr => ∃ (k : Nat) (r : SS), i = .int .i64 k ∧ k + r.len = len ∧ r.cnt ≤ K ∧ l.tells p.fs pub = r.tells p.fs pub ∧ (0 < r.len → ∃ b o, A = some ⟨b, o, none⟩ ∧ b < B ∧ r.In B w b (o + k * 6)) ∧ Below (w.heap.size + 1) (w.alloc (.cells #[.slice Af nf cf, .slice Am nm cm] 25)) wr) (fun i _ => len - (intOf i).toNat)
  case atStart => exact ⟨0, l, rfl, by have := HL.out; omega, by omega, rfl, by simpa [HL.out] using hrow, Below.refl _ _⟩
  case round =>
    obtain ⟨k, r, rfl, hk, hrK, ho, hr1, hW0⟩ := hrel
    have HO := Lib.hid ho; clear ho
    have g0 : wr.cell? ⟨w.heap.size, 0, none⟩ = some (.slice Af nf cf) := (box_at hW0 0).trans rfl
    have g1 : wr.cell? ⟨w.heap.size, 1, none⟩ = some (.slice Am nm cm) := (box_at hW0 1).trans rfl
    have hW := (HB.out _).trans (hW0.mono (Nat.le_succ _))
    have hsw : w.heap.size < wr.heap.size := by have := hW0.size; simp only [World.size_alloc] at this; omega
    cases r with
    | nil =>
      have hk0 : k = len := by simpa [SS.len] using hk
      subst hk0
      clear hk hrow hr1
      go_wp2
      go_ret
      exact ⟨ret_bool (by rw [HO.out]; rfl), hW⟩
    | cons op s n l1 x y r =>
      obtain ⟨b, o, rfl, hb, c0, c1, c2, ⟨v3, c3, h3⟩, ⟨v4, c4, h4⟩, ⟨v5, c5, h5⟩, h6, hr⟩ := hr1 (by simp [SS.len])
      clear hrow hr1
      have hlt : k < len := by simp [SS.len] at hk; omega
      have HK := Lib.hid hk; clear hk
      have hbw : b < w.heap.size := by omega
      have d0 := (hW.cell (p := ⟨b, o + k * 6, none⟩) hbw).trans c0
      have d1 := (hW.cell (p := ⟨b, o + k * 6 + 1, none⟩) hbw).trans c1
      have d2 := (hW.cell (p := ⟨b, o + k * 6 + 2, none⟩) hbw).trans c2
      have d3 := (hW.cell (p := ⟨b, o + k * 6 + 3, none⟩) hbw).trans c3
      have d4 := (hW.cell (p := ⟨b, o + k * 6 + 4, none⟩) hbw).trans c4
      have d5 := (hW.cell (p := ⟨b, o + k * 6 + 5, none⟩) hbw).trans c5
      clear c0 c1 c2 c3 c4 c5
      have hcnt : x.cnt < K ∧ y.cnt < K ∧ r.cnt ≤ K := by simp only [SS.cnt] at hrK; omega
      obtain ⟨A3, cap3, rfl, _⟩ := id h3
      obtain ⟨A4, cap4, rfl, _⟩ := id h4
      obtain ⟨A5, cap5, rfl, _⟩ := id h5
      have hbB : ∀ wx, Below wr.heap.size wr wx → Below B w wx := fun wx h => (hW.mono hB).trans (h.mono (Nat.le_trans hB hW.size))
      have hB2 : ∀ wx, Below wr.heap.size wr wx → B ≤ wx.heap.size := fun wx h => Nat.le_trans (Nat.le_trans hB hW.size) h.size
      have HI := Lib.hid (fun wx (h : Below wr.heap.size wr wx) => rex_any _ p A3 cap3 l1 B wx (HV.out.below (hbB wx h) (Nat.le_refl _)) (EV.below h3 (hbB wx h) (Nat.le_refl _)) (hB2 wx h))
      have HX := Lib.hid (fun wx (h : Below wr.heap.size wr wx) => hst _ p A4 cap4 x pub B wx hcnt.1 (HV.out.below (hbB wx h) (Nat.le_refl _)) (SV.below h4 (hbB wx h) (Nat.le_refl _)) (hB2 wx h))
      have HY := Lib.hid (fun wx (h : Below wr.heap.size wr wx) => hst _ p A5 cap5 y pub B wx hcnt.2.1 (HV.out.below (hbB wx h) (Nat.le_refl _)) (SV.below h5 (hbB wx h) (Nat.le_refl _)) (hB2 wx h))
      have HP0 := Lib.hid (fun wx (h : Below wr.heap.size wr wx) => rpart_any A3 cap3 l1 B wx (EV.below h3 (hbB wx h) (Nat.le_refl _)) (hB2 wx h) 0 0 rfl)
      have HP1 := Lib.hid (fun wx (h : Below wr.heap.size wr wx) => rpart_any A3 cap3 l1 B wx (EV.below h3 (hbB wx h) (Nat.le_refl _)) (hB2 wx h) 1 1 rfl)
      have HG := Lib.hid (fun w1 => rgreat_any s w1 h6.2.2)
      have HRB := Lib.hid (fun w2 h => rb_cells6 (w2 := w2) (a := .int .i64 op) (b := .string s) (c := .int .i64 n) (d := .slice A3 l1.len cap3) (e := .slice A4 x.len cap4) (f := .slice A5 y.len cap5) (t := 42) hW0 h)
      have HA := Lib.hid (fun w2 (h : Below (wr.heap.size + 1) (wr.alloc (.cells #[.int .i64 op, .string s, .int .i64 n, .slice A3 l1.len cap3, .slice A4 x.len cap4, .slice A5 y.len cap5] 42)) w2) => (((Below.refl wr.heap.size wr).alloc (Nat.le_refl _) _).trans (h.mono (Nat.le_succ _)) : Below wr.heap.size wr w2))
      have HW := Lib.hid hW
      have HEND := Lib.hid (fun w2 (h : Below wr.heap.size wr w2) => hW0.trans (h.mono hsw))
      have HR0 := Lib.hid (Below.refl (wr.heap.size + 1) (wr.alloc (.cells #[.int .i64 op, .string s, .int .i64 n, .slice A3 l1.len cap3, .slice A4 x.len cap4, .slice A5 y.len cap5] 42)))
      clear h3 h4 h5 h6 hW hW0 hbB hB2
      obtain ⟨ln, hln⟩ : ∃ ln, l1.len = ln := ⟨_, rfl⟩
      obtain ⟨lx, hlx⟩ : ∃ ln, x.len = ln := ⟨_, rfl⟩
      obtain ⟨ly, hly⟩ : ∃ ln, y.len = ln := ⟨_, rfl⟩
      rw [hln] at HI HP0 HP1 d3
      rw [hln, hlx, hly] at HRB HA HR0
      rw [hlx] at HX d4
      rw [hly] at HY d5
      clear hln hlx hly
      obtain ⟨a, ha⟩ : ∃ q, l1.tells p.fs = q := ⟨_, rfl⟩
      obtain ⟨tb, htb⟩ : ∃ q, x.tells p.fs pub = q := ⟨_, rfl⟩
      obtain ⟨tc, htc⟩ : ∃ q, y.tells p.fs pub = q := ⟨_, rfl⟩
      obtain ⟨one, hone⟩ : ∃ x, l1.secs.getD 0 false = x := ⟨_, rfl⟩
      obtain ⟨two, htwo⟩ : ∃ x, l1.secs.getD 1 false = x := ⟨_, rfl⟩
      obtain ⟨gr, hgr⟩ : ∃ x, greatB s = x := ⟨_, rfl⟩
      rw [ha] at HI
      rw [htb] at HX
      rw [htc] at HY
      rw [hone] at HP0
      rw [htwo] at HP1
      rw [hgr] at HG
      have HTE := Lib.hid (show (SS.cons op s n l1 x y r).tells p.fs pub = ((((a || ownS pub op s l1.secs) || tb) || tc) || r.tells p.fs pub) by rw [stells_cons, ha, htb, htc])
      have H1 := Lib.hid hone
      have H2' := Lib.hid htwo
      have HGR := Lib.hid hgr
      clear ha htb htc hone htwo hgr
      go_upto_block 2 with (first
        | (go_at_call 32; ((with_reducible refine (HP0.out _ (HA.out _ HR0.out)).mono ?_); rintro e w3 ⟨rfl, hb3⟩; have h3 := HR0.out.trans (hb3.mono (by simp)); have H3 := Lib.hid h3; obtain ⟨⟨x0, x1, x3, x4, x5⟩, y0, y1⟩ := HRB.out w3 h3; clear h3 hb3))
        | (go_at_call 32; ((with_reducible refine (HP1.out _ (HA.out _ H3.out)).mono ?_); rintro e w4 ⟨rfl, hb4⟩; have h4 := H3.out.trans (hb4.mono (by have := H3.out.size; simpa using this)); have H4 := Lib.hid h4; obtain ⟨⟨x0, x1, x3, x4, x5⟩, y0, y1⟩ := HRB.out w4 h4; clear h4 hb4))
        | (go_at_call 25; ((with_reducible refine (HG.out _).mono ?_); rintro e w8 ⟨rfl, rfl⟩)))
      go_cut [12] (fun v wx => v = .bool (ownS pub op s l1.secs) ∧ wx = w4)
      case first =>
        have e1 := H1.out
        have e2 := H2'.out
        have e3 := HGR.out
        by_cases o1 : op = 1
        · subst o1
          have HOW : Hid (ownS pub 1 s l1.secs = (one && !gr)) := Lib.hid (by rw [← e1, ← e3]; simp [ownS, Bool.and_comm])
          clear e1 e2 e3
          cases one
          all_goals
            go_wp2_with fail
            go_meet
            exact ⟨by rw [HOW.out] <;> first | rfl | simp, rfl⟩
        by_cases o2 : op = 2
        · subst o2
          have HOW : Hid (ownS pub 2 s l1.secs = (one || (two && !gr))) := Lib.hid (by rw [← e1, ← e2, ← e3]; simp [ownS, Bool.and_comm])
          clear e1 e2 e3
          cases one
          all_goals
            cases two
            all_goals
              go_wp2_with fail
              go_meet
              exact ⟨by rw [HOW.out] <;> first | rfl | simp, rfl⟩
        have b1 : (op == 1) = false := by simpa using o1
        have b2 : (op == 2) = false := by simpa using o2
        by_cases o5 : op = 5 ∨ op = 7 ∨ op = 8
        · have HOW : Hid (ownS pub op s l1.secs = one) := Lib.hid (by rw [← e1]; simp [ownS, o1, o2, o5])
          clear e1 e2 e3 o1 o2
          rcases o5 with rfl | rfl | rfl
          all_goals
            go_wp2_with fail
            go_meet
            exact ⟨by rw [HOW.out] <;> first | rfl | simp, rfl⟩
        by_cases o9 : op = 9
        · subst o9
          have HOW : Hid (ownS pub 9 s l1.secs = (one && pub)) := Lib.hid (by rw [← e1]; simp [ownS, Bool.and_comm])
          clear e1 e2 e3
          cases one
          all_goals
            go_wp2_with fail
            go_meet
            exact ⟨by rw [HOW.out] <;> first | rfl | simp, rfl⟩
        have HOW : Hid (ownS pub op s l1.secs = false) := Lib.hid (by simp [ownS, o1, o2, o5, o9])
        simp only [not_or] at o5
        have b5 : (op == 5) = false := by simpa using o5.1
        have b7 : (op == 7) = false := by simpa using o5.2.1
        have b8 : (op == 8) = false := by simpa using o5.2.2
        have b9 : (op == 9) = false := by simpa using o9
        clear e1 e2 e3
        go_wp2_with fail
        go_meet
        exact ⟨by rw [HOW.out] <;> first | rfl | simp, rfl⟩
      case rest =>
        obtain ⟨rfl, rfl⟩ := hcut
        obtain ⟨ow, how⟩ : ∃ q, ownS pub op s l1.secs = q := ⟨_, rfl⟩
        rw [how] at HTE ⊢
        clear how
        go_upto_region 23 with (first
          | (go_at_call 33; ((with_reducible refine (HI.out _ (HA.out _ H4.out)).mono ?_); rintro e w5 ⟨rfl, hb5⟩; have h5 := H4.out.trans (hb5.mono (by have := H4.out.size; simpa using this)); have H5 := Lib.hid h5; obtain ⟨⟨x0, x1, x3, x4, x5⟩, y0, y1⟩ := HRB.out w5 h5; clear h5 hb5))
          | (go_at_call 24; ((with_reducible refine (HX.out _ (HA.out _ H5.out)).mono ?_); rintro e w6 ⟨rfl, hb6⟩; have h6 := H5.out.trans (hb6.mono (by have := H5.out.size; simpa using this)); have H6 := Lib.hid h6; obtain ⟨⟨x0, x1, x3, x4, x5⟩, y0, y1⟩ := HRB.out w6 h6; clear h6 hb6))
          | (go_at_call 24; ((with_reducible refine (HY.out _ (HA.out _ H6.out)).mono ?_); rintro e w7 ⟨rfl, hb7⟩; have h7 := H6.out.trans (hb7.mono (by have := H6.out.size; simpa using this)); have H7 := Lib.hid h7; clear h7 hb7)))
        have H7' := Lib.hid (HA.out _ H7.out)
        clear x0 x1 x3 x4 x5 y0 y1 HI HX HY HP0 HP1 HG HRB HA HR0 d0 d1 d2 d3 d4 d5 g0 g1 H3 H4 H5 H6 H7
        cases ow
        case true =>
          go_wp2
          go_ret
          exact ⟨ret_bool (by rw [HO.out, HTE.out]; simp), HW.out.trans (H7'.out.mono HW.out.size)⟩
        cases a
        case true =>
          go_wp2
          go_ret
          exact ⟨ret_bool (by rw [HO.out, HTE.out]; simp), HW.out.trans (H7'.out.mono HW.out.size)⟩
        cases tb
        case true =>
          go_wp2
          go_ret
          exact ⟨ret_bool (by rw [HO.out, HTE.out]; simp), HW.out.trans (H7'.out.mono HW.out.size)⟩
        cases tc
        case true =>
          go_wp2
          go_ret
          exact ⟨ret_bool (by rw [HO.out, HTE.out]; simp), HW.out.trans (H7'.out.mono HW.out.size)⟩
        go_wp2
        go_roundw
        case rel => exact ⟨k + 1, r, by go_num, by have := HK.out; simp [SS.len] at this; omega, hcnt.2.2, by rw [HO.out, HTE.out]; simp, fun _ => ⟨b, o, rfl, hb, by rw [show o + (k + 1) * 6 = o + k * 6 + 6 by omega]; exact hr⟩, HEND.out _ H7'.out⟩
        case measure => simp [intOf]; omega

theorem rst_all : ∀ K, RStHas K
  | 0 => fun _ _ _ _ _ _ _ _ h => absurd h (Nat.not_lt_zero _)
  | K + 1 => rst_step K (rst_all K)
theorem rst_any (v : Value) (p : Pg) (A : Option Addr) (cap : Nat) (l : SS) (pub : Bool) (B : Nat) (w : World) (hv : PgV B w v p) (hl : SV B w (.slice A l.len cap) l) (hB : B ≤ w.heap.size) :
    Calls Try.prog 24 #[v, .slice A l.len cap, .bool pub] w fun e w' => e = .returned (.bool (l.tells p.fs pub)) ∧ Below w.heap.size w w' :=
  rst_all (l.cnt + 1) v p A cap l pub B w (Nat.lt_succ_self _) hv hl hB

set_option maxRecDepth 100000 in
set_option maxHeartbeats 4000000 in
/-- The document's Check. -/
theorem rcheck_any (v : Value) (p : Pg) (w : World) (B : Nat) (hB : B ≤ w.heap.size) (hv : PgV B w v p) :
    Calls Try.prog 12 #[v] w fun e w' => e = .returned (.int .i64 (errOf p.tells)) ∧ Below w.heap.size w w' := by
  have hmx : Try.prog.follows .mixedOrders = true := by kernel_rfl
  have hv0 := hv
  obtain ⟨A, cap, Am, cm, rfl, hf, hm⟩ := hv
  obtain ⟨A1, cap1, e1, hc1, hc2, hrow⟩ := hf
  injection e1 with e2 e3 e4
  subst e2 e4
  clear e3
  have HMAIN := Lib.hid (fun o => rst_any _ p Am cm p.m true B (w.alloc o) (hv0.below ((Below.refl B w).alloc hB o) (Nat.le_refl _)) (hm.below ((Below.refl B w).alloc hB o) (Nat.le_refl _)) (by simp; omega))
  have HV := Lib.hid hv0
  clear hv0 hm
  obtain ⟨nm, hnm⟩ : ∃ nm, p.m.len = nm := ⟨_, rfl⟩
  rw [hnm] at HV HMAIN ⊢
  clear hnm
  obtain ⟨len, hlen⟩ : ∃ len, p.fs.length = len := ⟨_, rfl⟩
  rw [hlen] at hc1 hrow HV HMAIN ⊢
  have HL := Lib.hid hlen; clear hlen
  have HB := Lib.hid (fun o => (Below.refl w.heap.size w).alloc (Nat.le_refl _) o)
  have HB0 := Lib.hid (fun o => (Below.refl (w.heap.size + 1) (w.alloc o)))
  go_enter Try.func12, Try.ntmps12
  go_wp2_with (go_at_call 24; ((with_reducible refine (HMAIN.out _).mono ?_); rintro e w1 ⟨rfl, hb1⟩))
  go_loopw [3, 4] (fun t i wr => ∃ (k : Nat) (r : List Fn) (t1 : Bool), i = .int .i64 k ∧ t = .bool t1 ∧ k + r.length = len ∧ p.tells = (t1 || fsTell p.fs r) ∧ (0 < r.length → ∃ b o, A = some ⟨b, o, none⟩ ∧ b < B ∧ FsIn B w r b (o + k * 3)) ∧ Below (w.heap.size + 1) (w.alloc (.cells #[.slice A len cap, .slice Am nm cm] 25)) wr) (fun _ i _ => len - (intOf i).toNat)
  case atStart => exact ⟨0, p.fs, _, rfl, rfl, by have := HL.out; omega, rfl, by simpa [HL.out] using hrow, hb1.mono (by simp)⟩
  case round =>
    obtain ⟨k, r, t1, rfl, rfl, hk, ho, hr1, hW0⟩ := hrel
    have HO := Lib.hid ho; clear ho
    have g0 : wr.cell? ⟨w.heap.size, 0, none⟩ = some (.slice A len cap) := (box_at hW0 0).trans rfl
    have g1 : wr.cell? ⟨w.heap.size, 1, none⟩ = some (.slice Am nm cm) := (box_at hW0 1).trans rfl
    have hW := (HB.out _).trans (hW0.mono (Nat.le_succ _))
    have hsw : w.heap.size < wr.heap.size := by have := hW0.size; simp only [World.size_alloc] at this; omega
    cases r with
    | nil =>
      have hk0 : k = len := by simpa using hk
      subst hk0
      clear hk hrow hr1
      cases t1
      all_goals
        go_wp2
        go_ret
        exact ⟨ret_int (by rw [HO.out]; rfl), hW⟩
    | cons f r =>
      obtain ⟨b, o, rfl, hb, c0, ⟨v1, c1, h1⟩, ⟨v2, c2, h2⟩, h3, hr⟩ := hr1 (by simp)
      clear hrow hr1
      have hlt : k < len := by simp at hk; omega
      have HK := Lib.hid hk; clear hk
      have hbw : b < w.heap.size := by omega
      have d0 := (hW.cell (p := ⟨b, o + k * 3, none⟩) hbw).trans c0
      have d1 := (hW.cell (p := ⟨b, o + k * 3 + 1, none⟩) hbw).trans c1
      have d2 := (hW.cell (p := ⟨b, o + k * 3 + 2, none⟩) hbw).trans c2
      clear c0 c1 c2
      obtain ⟨A6, cap6, rfl, _⟩ := id h1
      obtain ⟨A7, cap7, rfl, _⟩ := id h2
      have HG := Lib.hid (fun w1 => rgreat_any f.s w1 h3)
      obtain ⟨gr, hgr⟩ : ∃ x, greatB f.s = x := ⟨_, rfl⟩
      rw [hgr] at HG
      have HGR := Lib.hid hgr
      clear hgr
      have hdw : ∀ q, Below B w (wr.drewN q) := fun q => (hW.mono hB).trans ⟨rfl, rfl, rfl, Nat.le_refl _, fun _ _ => rfl⟩
      have HX := Lib.hid (fun pub => rst_any _ p A7 cap7 f.b pub B wr.drew (HV.out.below (hdw 1) (Nat.le_refl _)) (SV.below h2 (hdw 1) (Nat.le_refl _)) (Nat.le_trans hB hW.size))
      have HW0 := Lib.hid hW0
      clear h1 h2 hW hW0 hdw
      have HTE := Lib.hid (show p.tells = ((t1 || f.b.tells p.fs (!gr)) || fsTell p.fs r) by rw [HO.out, fsTell, HGR.out, Bool.or_assoc])
      obtain ⟨q, hq⟩ : ∃ q, f.b.tells p.fs (!gr) = q := ⟨_, rfl⟩
      have HX2 := Lib.hid (HX.out (!gr))
      rw [hq] at HX2 HTE
      clear hq
      go_upto_region 6 with (go_at_call 25; ((with_reducible refine (HG.out _).mono ?_); rintro e w8 ⟨rfl, rfl⟩))
      go_region_with (go_at_call 24; ((with_reducible refine HX2.out.mono ?_); rintro e w5 ⟨rfl, hb5⟩))
      all_goals
        cases t1
        all_goals
          have HTE2 := Lib.hid HTE.out
          go_wp2
          go_roundw
          case rel =>
            have e1 := HTE2.out
            simp only [Bool.false_or, Bool.true_or] at e1
            exact ⟨k + 1, r, _, by go_num, rfl, by have := HK.out; simp at this; omega, by rw [e1] <;> first | rfl | simp, fun _ => ⟨b, o, rfl, hb, by rw [show o + (k + 1) * 3 = o + k * 3 + 3 by omega]; exact hr⟩, HW0.out.trans ((Below.refl _ wr).drew.trans (hb5.mono (by have := HW0.out.size; simpa using this)))⟩
          case measure => simp [intOf]; omega
end Go.Proofs.Ythfcnnicpmkclaa
