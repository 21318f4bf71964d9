/-
  The document's own stmts: are all statements right, all the way down?
-/
import Derived.Test.YtaedlhjjfmmpdaaDoorTreeRz
import Derived.Deep.CutBlock
namespace Go.Proofs.YtaedlhjjfmmpdaaDoor
open Go Go.RowKit Go.Lib

def nmS (op : Int) : Bool := decide (1 ≤ op) && decide (op ≤ 4)
def ptS (op : Int) : Int := if (op == 3 || op == 4) = true then 0 else if (op == 2) = true then 2 else 1
def bad1 (op : Int) (s : ByteArray) (k : Nat) : Bool := decide (op < 1) || decide (9 < op) || (nmS op && !nameB s) || (!nmS op && !s.toList.isEmpty) || ((k : Int) != ptS op)
def bad2 (op n : Int) : Bool := (op == 3 && (decide (n < 1) || decide (4096 < n))) || (op != 3 && n != 0)
def bad3 (op : Int) (x y : Nat) : Bool := (decide (0 < (x : Int)) && op != 7 && op != 8) || (decide (0 < (y : Int)) && op != 7)
def fitS (op : Int) (s : ByteArray) (n : Int) (k x y : Nat) : Bool := fitQ (shOf true op).isSome ((shOf true op).getD sh0) s n k x y
theorem fitS_bad (op : Int) (s : ByteArray) (n : Int) (k x y : Nat) : fitS op s n k x y = (!bad1 op s k && !bad2 op n && !bad3 op x y) := by
  by_cases h : 1 ≤ op ∧ op ≤ 9
  · obtain ⟨m, rfl⟩ := Int.eq_ofNat_of_zero_le (show 0 ≤ op by omega)
    have hm : m = 1 ∨ m = 2 ∨ m = 3 ∨ m = 4 ∨ m = 5 ∨ m = 6 ∨ m = 7 ∨ m = 8 ∨ m = 9 := by omega
    unfold fitS shOf
    rw [if_pos rfl, if_pos h]
    clear h
    obtain ⟨nb, hnb⟩ : ∃ nb, nameB s = nb := ⟨_, rfl⟩
    obtain ⟨em, hem⟩ : ∃ em, s.toList.isEmpty = em := ⟨_, rfl⟩
    unfold fitQ namedB bad1 bad2 bad3 nmS ptS
    rw [hnb, hem]
    clear hnb hem
    rcases hm with rfl | rfl | rfl | rfl | rfl | rfl | rfl | rfl | rfl <;> cases nb <;> cases em <;> (rw [Bool.eq_iff_iff]; simp [stmtT]; try omega)
  · unfold fitS shOf
    rw [if_pos rfl, if_neg h]
    have : bad1 op s k = true := by
      unfold bad1
      by_cases h1 : op < 1
      · rw [decide_eq_true h1]; simp
      · rw [decide_eq_true (show 9 < op by omega)]; simp
    rw [this]
    rfl
theorem sok_cons (op : Int) (s : ByteArray) (n : Int) (l : ES) (x y r : SS) : (SS.cons op s n l x y r).ok = ((fitS op s n l.len x.len y.len && (l.ok && (x.ok && y.ok))) && r.ok) := rfl

/-- A statement's box. -/
def Box6 (W : World) (g : Nat) (a b c d e f : Value) : Prop := W.cell? ⟨g, 0, none⟩ = some a ∧ W.cell? ⟨g, 1, none⟩ = some b ∧ W.cell? ⟨g, 2, none⟩ = some c ∧ W.cell? ⟨g, 3, none⟩ = some d ∧ W.cell? ⟨g, 4, none⟩ = some e ∧ W.cell? ⟨g, 5, none⟩ = some f

set_option maxRecDepth 100000 in
set_option maxHeartbeats 4000000 in
theorem rstmts_any (K : Nat) : ∀ (l : SS) (A : Option Addr) (cap B : Nat) (w : World), l.cnt ≤ K → B ≤ w.heap.size → SV B w (.slice A l.len cap) l →
    Calls Tryd.prog 26 #[.slice A l.len cap] w fun e w' => e = .returned (.bool l.ok) ∧ Below w.heap.size w w' := by
  induction K using Nat.strongRecOn with
  | ind K ih =>
    intro l A cap B w hK hB hv
    obtain ⟨A1, cap1, e1, hc1, hc2, hrow⟩ := hv
    injection e1 with e2 e3 e4
    subst e2 e4
    clear e3
    obtain ⟨len, hlen⟩ : ∃ len, l.len = len := ⟨_, rfl⟩
    rw [hlen] at hc1 hrow ⊢
    have HL := Lib.hid hlen; clear hlen
    have IH := fun (l' : SS) (A : Option Addr) (cap : Nat) (hl : l'.cnt < K) (h3 : SV B w (.slice A l'.len cap) l') (W : World) (hb : Below w.heap.size w W) => ih _ hl l' A cap B W (Nat.le_refl _) (Nat.le_trans hB hb.size) (SV.below h3 (hb.mono hB) (Nat.le_refl _))
    clear ih
    go_enter Tryd.func26, Tryd.ntmps26
    go_wp2
    go_loopw [3] (fun i wr => ∃ (k : Nat) (r : SS), i = .int .i64 k ∧ k + r.len = len ∧ l.ok = r.ok ∧ r.cnt ≤ K ∧ (0 < r.len → ∃ b o, A = some ⟨b, o, none⟩ ∧ b < B ∧ r.In B w b (o + k * 6)) ∧ Below w.heap.size w wr) (fun i _ => len - (intOf i).toNat)
    case atStart => exact ⟨0, l, rfl, by have := HL.out; omega, rfl, hK, by simpa [HL.out] using hrow, Below.refl _ _⟩
    case round =>
      obtain ⟨k, r, rfl, hk, ho, hrK, hr1, hW⟩ := hrel
      have HO := Lib.hid ho; clear ho
      cases r with
      | nil =>
        have hk0 : k = len := by simpa [SS.len] using hk
        subst hk0
        clear hk hrow hr1
        go_wp2
        go_ret
        exact ⟨ret_bool (by rw [HO.out]; rfl), hW⟩
      | cons op s n l1 x y r =>
        obtain ⟨b, o, rfl, hb, c0, c1, c2, ⟨v3, c3, h3⟩, ⟨v4, c4, h4⟩, ⟨v5, c5, h5⟩, h6, hr⟩ := hr1 (by simp [SS.len])
        clear hrow hr1
        obtain ⟨A6, cap6, rfl, hn1, hn2, _⟩ := id h3
        obtain ⟨A7, cap7, rfl, hx1, hx2, _⟩ := id h4
        obtain ⟨A8, cap8, rfl, hy1, hy2, _⟩ := id h5
        have hlt : k < len := by simp [SS.len] at hk; omega
        have HK := Lib.hid hk; clear hk
        have hbw : b < w.heap.size := by omega
        have hbz : b < wr.heap.size := by have := hW.size; omega
        have hcnt : (x.cnt < K ∧ y.cnt < K) ∧ r.cnt ≤ K := by simp only [SS.cnt] at hrK; omega
        have d0 := (hW.cell (p := ⟨b, o + k * 6, none⟩) hbw).trans c0
        have d1 := (hW.cell (p := ⟨b, o + k * 6 + 1, none⟩) hbw).trans c1
        have d2 := (hW.cell (p := ⟨b, o + k * 6 + 2, none⟩) hbw).trans c2
        have d3 := (hW.cell (p := ⟨b, o + k * 6 + 3, none⟩) hbw).trans c3
        have d4 := (hW.cell (p := ⟨b, o + k * 6 + 4, none⟩) hbw).trans c4
        have d5 := (hW.cell (p := ⟨b, o + k * 6 + 5, none⟩) hbw).trans c5
        clear c0 c1 c2 c3 c4 c5
        have HX := fun W (hb : Below w.heap.size w W) => rexprs_any _ l1 A6 cap6 B W (Nat.le_refl _) (Nat.le_trans hB hb.size) (EV.below h3 (hb.mono hB) (Nat.le_refl _))
        have HY := IH x A7 cap7 hcnt.1.1 h4
        have HZ := IH y A8 cap8 hcnt.1.2 h5
        have HC := Lib.hid (sok_cons op s n l1 x y r)
        have HF := Lib.hid (fitS_bad op s n l1.len x.len y.len)
        clear IH h3 h4 h5
        obtain ⟨nl, hnl⟩ : ∃ nl, l1.len = nl := ⟨_, rfl⟩
        obtain ⟨nx, hnx⟩ : ∃ nl, x.len = nl := ⟨_, rfl⟩
        obtain ⟨ny, hny⟩ : ∃ nl, y.len = nl := ⟨_, rfl⟩
        rw [hnl] at HX HC HF d3 hn1
        rw [hnx] at HY HC HF d4 hx1
        rw [hny] at HZ HC HF d5 hy1
        clear hnl hnx hny
        have hss := h6.2.2
        go_upto_region 5 with fail
        have hWa : ∀ C, Below w.heap.size w (wr.alloc C) := fun C => hW.alloc hW.size C
        have HWA := Lib.hid hWa; clear hWa
        go_cut [5] (fun x wx => x = .bool (nmS op) ∧ wx = wr.alloc (.cells #[.int .i64 op, .string s, .int .i64 n, .slice A6 nl cap6, .slice A7 nx cap7, .slice A8 ny cap8] 38))
        case first =>
          clear HX HY HZ
          by_cases q1 : 1 ≤ op
          · have p1 : decide (1 ≤ op) = true := decide_eq_true q1
            by_cases q4 : op ≤ 4
            · have p4 : decide (op ≤ 4) = true := decide_eq_true q4
              go_wp2_with fail
              go_meet
              exact ⟨congrArg Value.bool (by unfold nmS; rw [p1, p4]; rfl), rfl⟩
            · have p4 : decide (op ≤ 4) = false := decide_eq_false q4
              go_wp2_with fail
              go_meet
              exact ⟨congrArg Value.bool (by unfold nmS; rw [p1, p4]; rfl), rfl⟩
          · have p1 : decide (1 ≤ op) = false := decide_eq_false q1
            go_wp2_with fail
            go_meet
            exact ⟨congrArg Value.bool (by unfold nmS; rw [p1]; rfl), rfl⟩
        case rest =>
        obtain ⟨rfl, rfl⟩ := hcut
        go_upto_region 8 with (go_at_call 21; ((with_reducible refine (rname_any _ _ hss).mono ?_); rintro e w1 ⟨rfl, hb1⟩))
        have hz0 := hb1.size
        simp only [World.size_alloc] at hz0 hb1
        have x0 := (hb1.cell (p := ⟨wr.heap.size, 0, none⟩) (Nat.lt_succ_self _)).trans (cell_new wr _ _ 0)
        have x1 := (hb1.cell (p := ⟨wr.heap.size, 1, none⟩) (Nat.lt_succ_self _)).trans (cell_new wr _ _ 1)
        have x2 := (hb1.cell (p := ⟨wr.heap.size, 2, none⟩) (Nat.lt_succ_self _)).trans (cell_new wr _ _ 2)
        have x3 := (hb1.cell (p := ⟨wr.heap.size, 3, none⟩) (Nat.lt_succ_self _)).trans (cell_new wr _ _ 3)
        have x4 := (hb1.cell (p := ⟨wr.heap.size, 4, none⟩) (Nat.lt_succ_self _)).trans (cell_new wr _ _ 4)
        have x5 := (hb1.cell (p := ⟨wr.heap.size, 5, none⟩) (Nat.lt_succ_self _)).trans (cell_new wr _ _ 5)
        simp at x0 x1 x2 x3 x4 x5
        have hq1 : Below w.heap.size w w1 := (HWA.out _).trans (hb1.mono (by have := hW.size; omega))
        have hgz : wr.heap.size < w1.heap.size := by omega
        obtain ⟨g, hg⟩ : ∃ g, wr.heap.size = g := ⟨_, rfl⟩
        rw [hg] at x0 x1 x2 x3 x4 x5 hgz
        simp only [hg]
        have HWR := Lib.hid hW
        have HG := Lib.hid hg
        clear hb1 hz0 hg hW d0 d1 d2 d3 d4 d5
        obtain ⟨nm, hnm⟩ : ∃ nm, nmS op = nm := ⟨_, rfl⟩
        obtain ⟨nb, hnb⟩ : ∃ nb, nameB s = nb := ⟨_, rfl⟩
        simp only [hnm, hnb]
        have HNM := Lib.hid hnm
        have HNB := Lib.hid hnb
        clear hnm hnb
        obtain ⟨pt, hpt⟩ : ∃ pt, ptS op = pt := ⟨_, rfl⟩
        have HPT := Lib.hid hpt; clear hpt
        go_upto_if 34 with fail
        go_cut [7] (fun x wx => x = .int .i64 (if (op == 2) = true then 2 else 1) ∧ wx = w1)
        case first =>
          clear HX HY HZ
          cases q2 : (op == 2) with
          | true =>
            go_wp2_with fail
            go_meet
            exact ⟨by rw [q2]; rfl, rfl⟩
          | false =>
            go_wp2_with fail
            go_meet
            exact ⟨by rw [q2]; rfl, rfl⟩
        case rest =>
        obtain ⟨rfl, rfl⟩ := hcut
        obtain ⟨n7, hn7⟩ : ∃ n7 : Int, (if (op == 2) = true then (2 : Int) else 1) = n7 := ⟨_, rfl⟩
        simp only [hn7]
        have HN7 := Lib.hid hn7; clear hn7
        go_upto_region 10 with fail
        go_cut [42] (fun x wx => x = .bool (op == 3 || op == 4) ∧ wx = wc)
        case first =>
          clear HX HY HZ
          cases q3 : (op == 3) with
          | true =>
            go_wp2_with fail
            go_meet
            exact ⟨by rw [q3]; rfl, rfl⟩
          | false =>
            go_wp2_with fail
            go_meet
            exact ⟨by rw [q3]; rfl, rfl⟩
        case rest =>
        obtain ⟨rfl, rfl⟩ := hcut
        obtain ⟨b34, hb34⟩ : ∃ b34, (op == 3 || op == 4) = b34 := ⟨_, rfl⟩
        simp only [hb34]
        have HB34 := Lib.hid hb34; clear hb34
        go_upto_if 42 with fail
        go_cut [7] (fun x wx => x = .int .i64 pt ∧ wx = wc)
        case first =>
          clear HX HY HZ
          cases b34 with
          | true =>
            go_wp2_with fail
            go_meet
            exact ⟨congrArg (Value.int .i64) (by rw [← HPT.out]; unfold ptS; rw [HB34.out]; rfl), rfl⟩
          | false =>
            go_wp2_with fail
            go_meet
            exact ⟨congrArg (Value.int .i64) (by rw [← HPT.out]; unfold ptS; rw [HB34.out, ← HN7.out]; rfl), rfl⟩
        case rest =>
        obtain ⟨rfl, rfl⟩ := hcut
        clear HB34 HN7
        go_upto_region 12 with fail
        obtain ⟨b1, hb1⟩ : ∃ b1, bad1 op s nl = b1 := ⟨_, rfl⟩
        obtain ⟨b2, hb2⟩ : ∃ b2, bad2 op n = b2 := ⟨_, rfl⟩
        obtain ⟨b3, hb3⟩ : ∃ b3, bad3 op nx ny = b3 := ⟨_, rfl⟩
        rw [hb1, hb2, hb3] at HF
        have HB1 : Hid ((decide (op < 1) || decide (9 < op) || (nm && !nb) || (!nm && !s.toList.isEmpty) || ((nl : Int) != pt)) = b1) := by show _ = _; rw [← hb1, ← HPT.out, ← HNM.out, ← HNB.out]; rfl
        have HB2 : Hid (((op == 3 && (decide (n < 1) || decide (4096 < n))) || (op != 3 && n != 0)) = b2) := by show _ = _; rw [← hb2]; rfl
        have HB3 : Hid (((decide (0 < (nx : Int)) && op != 7 && op != 8) || (decide (0 < (ny : Int)) && op != 7)) = b3) := by show _ = _; rw [← hb3]; rfl
        clear hb1 hb2 hb3 HNM HNB HPT
        go_cut [73] (fun x wx => x = .bool b1 ∧ wx = wc)
        case first =>
          clear HX HY HZ
          as_aux_lemma =>
            cases q1 : decide (op < 1) with
            | true =>
              go_wp2_with fail
              go_meet
              exact ⟨congrArg Value.bool (by rw [← HB1.out]; simp [q1]), rfl⟩
            | false =>
              cases q9 : decide (9 < op) with
              | true =>
                go_wp2_with fail
                go_meet
                exact ⟨congrArg Value.bool (by rw [← HB1.out]; simp [q1, q9]), rfl⟩
              | false =>
                cases nm with
                | true =>
                  cases nb with
                  | true =>
                    cases ql : ((nl : Int) != pt) with
                    | true =>
                      have qe : ((nl : Int) == pt) = false := by rw [bne] at ql; simpa using ql
                      go_wp2_with fail
                      go_meet
                      exact ⟨congrArg Value.bool (by rw [← HB1.out]; simp [q1, q9, ql]), rfl⟩
                    | false =>
                      have qe : ((nl : Int) == pt) = true := by rw [bne] at ql; simpa using ql
                      go_wp2_with fail
                      go_meet
                      exact ⟨congrArg Value.bool (by rw [← HB1.out]; simp [q1, q9, ql]), rfl⟩
                  | false =>
                    go_wp2_with fail
                    go_meet
                    exact ⟨congrArg Value.bool (by rw [← HB1.out]; simp [q1, q9]), rfl⟩
                | false =>
                  cases qs : s.toList.isEmpty with
                  | true =>
                    have he1 : s.toList = [] := by simpa using qs
                    have he3 : (s.toList == []) = true := by rw [he1]; rfl
                    have he4 : (s.toList != []) = false := by rw [bne, he3]; rfl
                    cases ql : ((nl : Int) != pt) with
                    | true =>
                      have qe : ((nl : Int) == pt) = false := by rw [bne] at ql; simpa using ql
                      go_wp2_with fail
                      go_meet
                      exact ⟨congrArg Value.bool (by rw [← HB1.out]; simp [q1, q9, qs, ql]), rfl⟩
                    | false =>
                      have qe : ((nl : Int) == pt) = true := by rw [bne] at ql; simpa using ql
                      go_wp2_with fail
                      go_meet
                      exact ⟨congrArg Value.bool (by rw [← HB1.out]; simp [q1, q9, qs, ql]), rfl⟩
                  | false =>
                    have he1 : ¬ s.toList = [] := by intro h; rw [h] at qs; cases qs
                    have he3 : (s.toList == []) = false := by rw [beq_eq_false_iff_ne]; exact he1
                    have he4 : (s.toList != []) = true := by rw [bne, he3]; rfl
                    go_wp2_with fail
                    go_meet
                    exact ⟨congrArg Value.bool (by rw [← HB1.out]; simp [q1, q9, qs]), rfl⟩
        case rest =>
        obtain ⟨rfl, rfl⟩ := hcut
        cases b1 with
        | true =>
          go_wp2_with fail
          go_ret
          exact ⟨ret_bool (by rw [HO.out, HC.out, HF.out]; simp), hq1⟩
        | false =>
        go_upto_region 14 with fail
        go_cut [96] (fun x wx => x = .bool b2 ∧ wx = wc)
        case first =>
          clear HX HY HZ
          as_aux_lemma =>
            cases q3 : (op == 3) with
            | true =>
              have q3n : (op != 3) = false := by rw [bne, q3]; rfl
              cases n1 : decide (n < 1) with
              | true =>
                go_wp2_with fail
                go_meet
                exact ⟨congrArg Value.bool (by rw [← HB2.out]; simp [q3, n1]), rfl⟩
              | false =>
                cases n4 : decide (4096 < n) with
                | true =>
                  go_wp2_with fail
                  go_meet
                  exact ⟨congrArg Value.bool (by rw [← HB2.out]; simp [q3, q3n, n1, n4]), rfl⟩
                | false =>
                  go_wp2_with fail
                  go_meet
                  exact ⟨congrArg Value.bool (by rw [← HB2.out]; simp [q3, q3n, n1, n4]), rfl⟩
            | false =>
              have q3n : (op != 3) = true := by rw [bne, q3]; rfl
              cases n0 : (n != 0) with
              | true =>
                go_wp2_with fail
                go_meet
                exact ⟨congrArg Value.bool (by rw [← HB2.out]; simp [q3, q3n, n0]), rfl⟩
              | false =>
                go_wp2_with fail
                go_meet
                exact ⟨congrArg Value.bool (by rw [← HB2.out]; simp [q3, q3n, n0]), rfl⟩
        case rest =>
        obtain ⟨rfl, rfl⟩ := hcut
        cases b2 with
        | true =>
          go_wp2_with fail
          go_ret
          exact ⟨ret_bool (by rw [HO.out, HC.out, HF.out]; simp), hq1⟩
        | false =>
        go_upto_region 16 with fail
        go_cut [121] (fun x wx => x = .bool b3 ∧ wx = wc)
        case first =>
          clear HX HY HZ
          as_aux_lemma =>
            cases q7 : (op != 7) with
            | true =>
              cases q8 : (op != 8) with
              | true =>
                cases x0 : decide (0 < (nx : Int)) with
                | true =>
                  have x0n : decide (0 < nx) = true := by simpa using x0
                  cases y0 : decide (0 < (ny : Int)) with
                  | true =>
                    have y0n : decide (0 < ny) = true := by simpa using y0
                    go_wp2_with fail
                    go_meet
                    exact ⟨congrArg Value.bool (by rw [← HB3.out, x0, q7, q8, y0]; rfl), rfl⟩
                  | false =>
                    have y0n : decide (0 < ny) = false := by simpa using y0
                    go_wp2_with fail
                    go_meet
                    exact ⟨congrArg Value.bool (by rw [← HB3.out, x0, q7, q8, y0]; rfl), rfl⟩
                | false =>
                  have x0n : decide (0 < nx) = false := by simpa using x0
                  cases y0 : decide (0 < (ny : Int)) with
                  | true =>
                    have y0n : decide (0 < ny) = true := by simpa using y0
                    go_wp2_with fail
                    go_meet
                    exact ⟨congrArg Value.bool (by rw [← HB3.out, x0, q7, q8, y0]; rfl), rfl⟩
                  | false =>
                    have y0n : decide (0 < ny) = false := by simpa using y0
                    go_wp2_with fail
                    go_meet
                    exact ⟨congrArg Value.bool (by rw [← HB3.out, x0, q7, q8, y0]; rfl), rfl⟩
              | false =>
                cases x0 : decide (0 < (nx : Int)) with
                | true =>
                  have x0n : decide (0 < nx) = true := by simpa using x0
                  cases y0 : decide (0 < (ny : Int)) with
                  | true =>
                    have y0n : decide (0 < ny) = true := by simpa using y0
                    go_wp2_with fail
                    go_meet
                    exact ⟨congrArg Value.bool (by rw [← HB3.out, x0, q7, q8, y0]; rfl), rfl⟩
                  | false =>
                    have y0n : decide (0 < ny) = false := by simpa using y0
                    go_wp2_with fail
                    go_meet
                    exact ⟨congrArg Value.bool (by rw [← HB3.out, x0, q7, q8, y0]; rfl), rfl⟩
                | false =>
                  have x0n : decide (0 < nx) = false := by simpa using x0
                  cases y0 : decide (0 < (ny : Int)) with
                  | true =>
                    have y0n : decide (0 < ny) = true := by simpa using y0
                    go_wp2_with fail
                    go_meet
                    exact ⟨congrArg Value.bool (by rw [← HB3.out, x0, q7, q8, y0]; rfl), rfl⟩
                  | false =>
                    have y0n : decide (0 < ny) = false := by simpa using y0
                    go_wp2_with fail
                    go_meet
                    exact ⟨congrArg Value.bool (by rw [← HB3.out, x0, q7, q8, y0]; rfl), rfl⟩
            | false =>
              cases x0 : decide (0 < (nx : Int)) with
              | true =>
                have x0n : decide (0 < nx) = true := by simpa using x0
                cases y0 : decide (0 < (ny : Int)) with
                | true =>
                  have y0n : decide (0 < ny) = true := by simpa using y0
                  go_wp2_with fail
                  go_meet
                  exact ⟨congrArg Value.bool (by rw [← HB3.out, x0, q7, y0]; rfl), rfl⟩
                | false =>
                  have y0n : decide (0 < ny) = false := by simpa using y0
                  go_wp2_with fail
                  go_meet
                  exact ⟨congrArg Value.bool (by rw [← HB3.out, x0, q7, y0]; rfl), rfl⟩
              | false =>
                have x0n : decide (0 < nx) = false := by simpa using x0
                cases y0 : decide (0 < (ny : Int)) with
                | true =>
                  have y0n : decide (0 < ny) = true := by simpa using y0
                  go_wp2_with fail
                  go_meet
                  exact ⟨congrArg Value.bool (by rw [← HB3.out, x0, q7, y0]; rfl), rfl⟩
                | false =>
                  have y0n : decide (0 < ny) = false := by simpa using y0
                  go_wp2_with fail
                  go_meet
                  exact ⟨congrArg Value.bool (by rw [← HB3.out, x0, q7, y0]; rfl), rfl⟩
        case rest =>
        obtain ⟨rfl, rfl⟩ := hcut
        cases b3 with
        | true =>
          go_wp2_with fail
          go_ret
          exact ⟨ret_bool (by rw [HO.out, HC.out, HF.out]; simp), hq1⟩
        | false =>
        clear HB1 HB2 HB3 HWR HG HWA
        obtain ⟨bl, hbl⟩ : ∃ bl, l1.ok = bl := ⟨_, rfl⟩
        obtain ⟨bx, hbx⟩ : ∃ bx, x.ok = bx := ⟨_, rfl⟩
        obtain ⟨by', hby⟩ : ∃ by', y.ok = by' := ⟨_, rfl⟩
        rw [hbl] at HX HC
        rw [hbx] at HY HC
        rw [hby] at HZ HC
        clear hbl hbx hby
        as_aux_lemma =>
          cases bl with
          | false =>
            go_wp2_with (first
              | (go_at_call 45; ((with_reducible refine (HX _ hq1).mono ?_); rintro e w2 ⟨rfl, hb2⟩; obtain ⟨hc2, hf2⟩ := bcell hb2; have hgz2 : g < w2.heap.size := (Nat.lt_of_lt_of_le hgz hb2.size); have hq2 := hq1.trans (hb2.mono hq1.size); have HY2 := HY w2 hq2))
              | (go_at_call 26; ((with_reducible refine HY2.mono ?_); clear HY2; rintro e w3 ⟨rfl, hb3⟩; obtain ⟨hc3, hf3⟩ := bcell hb3; have hgz3 : g < w3.heap.size := (Nat.lt_of_lt_of_le hgz2 hb3.size); have hq3 := hq2.trans (hb3.mono hq2.size); have HZ3 := HZ w3 hq3))
              | (go_at_call 26; ((with_reducible refine HZ3.mono ?_); clear HZ3; rintro e w4 ⟨rfl, hb4⟩; have hq4 := hq3.trans (hb4.mono hq3.size))))
            go_ret
            exact ⟨ret_bool (by rw [HO.out, HC.out, HF.out]; simp), hq4⟩
          | true =>
            cases bx with
            | false =>
              go_wp2_with (first
                | (go_at_call 45; ((with_reducible refine (HX _ hq1).mono ?_); rintro e w2 ⟨rfl, hb2⟩; obtain ⟨hc2, hf2⟩ := bcell hb2; have hgz2 : g < w2.heap.size := (Nat.lt_of_lt_of_le hgz hb2.size); have hq2 := hq1.trans (hb2.mono hq1.size); have HY2 := HY w2 hq2))
                | (go_at_call 26; ((with_reducible refine HY2.mono ?_); clear HY2; rintro e w3 ⟨rfl, hb3⟩; obtain ⟨hc3, hf3⟩ := bcell hb3; have hgz3 : g < w3.heap.size := (Nat.lt_of_lt_of_le hgz2 hb3.size); have hq3 := hq2.trans (hb3.mono hq2.size); have HZ3 := HZ w3 hq3))
                | (go_at_call 26; ((with_reducible refine HZ3.mono ?_); clear HZ3; rintro e w4 ⟨rfl, hb4⟩; have hq4 := hq3.trans (hb4.mono hq3.size))))
              go_ret
              exact ⟨ret_bool (by rw [HO.out, HC.out, HF.out]; simp), hq4⟩
            | true =>
              cases by' with
              | false =>
                go_wp2_with (first
                  | (go_at_call 45; ((with_reducible refine (HX _ hq1).mono ?_); rintro e w2 ⟨rfl, hb2⟩; obtain ⟨hc2, hf2⟩ := bcell hb2; have hgz2 : g < w2.heap.size := (Nat.lt_of_lt_of_le hgz hb2.size); have hq2 := hq1.trans (hb2.mono hq1.size); have HY2 := HY w2 hq2))
                  | (go_at_call 26; ((with_reducible refine HY2.mono ?_); clear HY2; rintro e w3 ⟨rfl, hb3⟩; obtain ⟨hc3, hf3⟩ := bcell hb3; have hgz3 : g < w3.heap.size := (Nat.lt_of_lt_of_le hgz2 hb3.size); have hq3 := hq2.trans (hb3.mono hq2.size); have HZ3 := HZ w3 hq3))
                  | (go_at_call 26; ((with_reducible refine HZ3.mono ?_); clear HZ3; rintro e w4 ⟨rfl, hb4⟩; have hq4 := hq3.trans (hb4.mono hq3.size))))
                go_ret
                exact ⟨ret_bool (by rw [HO.out, HC.out, HF.out]; simp), hq4⟩
              | true =>
                go_wp2_with (first
                  | (go_at_call 45; ((with_reducible refine (HX _ hq1).mono ?_); rintro e w2 ⟨rfl, hb2⟩; obtain ⟨hc2, hf2⟩ := bcell hb2; have hgz2 : g < w2.heap.size := (Nat.lt_of_lt_of_le hgz hb2.size); have hq2 := hq1.trans (hb2.mono hq1.size); have HY2 := HY w2 hq2))
                  | (go_at_call 26; ((with_reducible refine HY2.mono ?_); clear HY2; rintro e w3 ⟨rfl, hb3⟩; obtain ⟨hc3, hf3⟩ := bcell hb3; have hgz3 : g < w3.heap.size := (Nat.lt_of_lt_of_le hgz2 hb3.size); have hq3 := hq2.trans (hb3.mono hq2.size); have HZ3 := HZ w3 hq3))
                  | (go_at_call 26; ((with_reducible refine HZ3.mono ?_); clear HZ3; rintro e w4 ⟨rfl, hb4⟩; have hq4 := hq3.trans (hb4.mono hq3.size))))
                go_roundw
                case rel => exact ⟨k + 1, r, by go_num, by have := HK.out; simp [SS.len] at this; omega, by rw [HO.out, HC.out, HF.out]; rfl, hcnt.2, fun _ => ⟨b, o, rfl, hb, by rw [show o + (k + 1) * 6 = o + k * 6 + 6 by omega]; exact hr⟩, hq4⟩
                case measure => simp [intOf]; omega

end Go.Proofs.YtaedlhjjfmmpdaaDoor
