/-
  The document's own Right: of programs.
-/
import Derived.Test.YtaedlhjjfmmpdaaDoorTreeSu
import Derived.Test.YtaedlhjjfmmpdaaDoorTreeRv
import Derived.Test.YtaedlhjjfmmpdaaDoorTreeG
namespace Go.Proofs.YtaedlhjjfmmpdaaDoor
open Go Go.RowKit Go.Lib

def frOk : List Fn → Bool
  | [] => true
  | f :: r => (nameB f.s && f.b.ok && paramsB f.ps) && frOk r
theorem frOk_eq : ∀ l, frOk l = (fsOk l && okL (fsPts l))
  | [] => rfl
  | f :: r => by
    rw [frOk, fsOk, fsPts, okL_append, SS.okL, frOk_eq r]
    cases nameB f.s <;> cases f.b.ok <;> cases paramsB f.ps <;> cases fsOk r <;> cases okL (fsPts r) <;> rfl
theorem rightN_eq (p : Pg) : rightN p = if (decide (p.fs.length ≤ 32) && frOk p.fs && p.m.ok) = true then (if 64 < deepL p.pts then 3 else 0) else 1 := by
  unfold rightN funcsB Pg.pts
  rw [okL_append, SS.okL, frOk_eq]
  have : ∀ a b c d : Bool, ((a && b) && (c && d)) = (a && (b && c) && d) := by decide
  rw [this]

theorem rstmts_b (l : SS) (A : Option Addr) (cap B : Nat) (w0 W : World) (hB : B ≤ w0.heap.size) (hb : Below w0.heap.size w0 W) (h : SV B w0 (.slice A l.len cap) l) :
    Calls Tryd.prog 26 #[.slice A l.len cap] W fun e w' => e = .returned (.bool l.ok) ∧ Below W.heap.size W w' :=
  rstmts_any _ l A cap B W (Nat.le_refl _) (Nat.le_trans hB hb.size) (SV.below h (hb.mono hB) (Nat.le_refl _))

set_option maxRecDepth 100000 in
set_option maxHeartbeats 4000000 in
theorem rright_any (v : Value) (p : Pg) (w : World) (B : Nat) (hB : B ≤ w.heap.size) (hv : PgV B w v p) :
    Calls Tryd.prog 13 #[v] w fun e w' => e = .returned (.int .i64 (rightN p)) ∧ Below w.heap.size w w' := by
  have HR := Lib.hid (rightN_eq p)
  obtain ⟨A, cap, A', cap', rfl, h0, h1⟩ := id hv
  have HD := fun W (hb : Below w.heap.size w W) => rdepth_any _ p W B (Nat.le_trans hB hb.size) (hv.below (hb.mono hB) (Nat.le_refl _))
  have HM := fun W (hb : Below w.heap.size w W) => rstmts_b p.m A' cap' B w W hB hb h1
  clear h1 hv
  obtain ⟨A1, cap1, e1, hc1, hc2, hrow⟩ := h0
  injection e1 with e2 e3 e4
  subst e2 e4
  clear e3
  obtain ⟨len, hlen⟩ : ∃ len, p.fs.length = len := ⟨_, rfl⟩
  rw [hlen] at hc1 hrow HR HD ⊢
  have HL := Lib.hid hlen; clear hlen
  have hW : ∀ C, Below w.heap.size w (w.alloc C) := fun C => (Below.refl _ _).alloc (Nat.le_refl _) _
  have HW := Lib.hid hW; clear hW
  by_cases h32 : len ≤ 32
  · have d32 : decide (32 < (len : Int)) = false := decide_eq_false (by omega)
    go_enter Tryd.func13, Tryd.ntmps13
    go_wp2
    go_loopw [3] (fun i wr => ∃ (k : Nat) (r : List Fn), i = .int .i64 k ∧ k + r.length = len ∧ frOk p.fs = frOk r ∧ (0 < r.length → ∃ b o, A = some ⟨b, o, none⟩ ∧ b < B ∧ FsIn B w r b (o + k * 3)) ∧ wr.cell? ⟨w.heap.size, 0, none⟩ = some (.slice A len cap) ∧ wr.cell? ⟨w.heap.size, 1, none⟩ = some (.slice A' p.m.len cap') ∧ w.heap.size < wr.heap.size ∧ Below w.heap.size w wr) (fun i _ => len - (intOf i).toNat)
    case atStart => exact ⟨0, p.fs, rfl, by have := HL.out; omega, rfl, by simpa [HL.out] using hrow, by rw [cell_new]; rfl, by rw [cell_new]; rfl, by simp, HW.out _⟩
    case round =>
      obtain ⟨k, r, rfl, hk, ho, hr1, g0, g1, hgz, hWr⟩ := hrel
      have HO := Lib.hid ho; clear ho
      cases r with
      | nil =>
        have hk0 : k = len := by simpa using hk
        subst hk0
        clear hk hrow hr1
        cases hm : p.m.ok with
        | false =>
          rw [hm] at HM
          go_wp2_with (go_at_call 26; ((with_reducible refine (HM _ hWr).mono ?_); rintro e w1 ⟨rfl, hb1⟩))
          go_ret
          exact ⟨ret_int (by rw [HR.out, hm]; simp), hWr.trans (hb1.mono hWr.size)⟩
        | true =>
          rw [hm] at HM
          have HRR : Hid (rightN p = if 64 < deepL p.pts then 3 else 0) := by show _ = _; rw [HR.out, HO.out, hm, decide_eq_true h32]; rfl
          obtain ⟨d, hd⟩ : ∃ d, deepL p.pts = d := ⟨_, rfl⟩
          rw [hd] at HD HRR
          clear hd
          by_cases h64 : 64 < d
          · have q64 : decide (64 < d) = true := decide_eq_true h64
            go_wp2_with (first
              | (go_at_call 26; ((with_reducible refine (HM _ hWr).mono ?_); rintro e w1 ⟨rfl, hb1⟩; obtain ⟨hc1, hf1⟩ := bcell hb1; have hgz1 : w.heap.size < w1.heap.size := (Nat.lt_of_lt_of_le hgz hb1.size); have hq1 := hWr.trans (hb1.mono hWr.size); have HD1 := HD w1 hq1))
              | (go_at_call 15; ((with_reducible refine HD1.mono ?_); rintro e w2 ⟨rfl, hb2⟩)))
            go_ret
            exact ⟨ret_int (by rw [HRR.out, if_pos h64]), hq1.trans (hb2.mono hq1.size)⟩
          · have q64 : decide (64 < d) = false := decide_eq_false h64
            go_wp2_with (first
              | (go_at_call 26; ((with_reducible refine (HM _ hWr).mono ?_); rintro e w1 ⟨rfl, hb1⟩; obtain ⟨hc1, hf1⟩ := bcell hb1; have hgz1 : w.heap.size < w1.heap.size := (Nat.lt_of_lt_of_le hgz hb1.size); have hq1 := hWr.trans (hb1.mono hWr.size); have HD1 := HD w1 hq1))
              | (go_at_call 15; ((with_reducible refine HD1.mono ?_); rintro e w2 ⟨rfl, hb2⟩)))
            go_ret
            exact ⟨ret_int (by rw [HRR.out, if_neg (by omega)]), hq1.trans (hb2.mono hq1.size)⟩
      | cons f r =>
        obtain ⟨b, o, rfl, hb, c0, ⟨v1, c1, h3⟩, ⟨v2, c2, h4⟩, h6, hr⟩ := hr1 (by simp)
        clear hrow hr1
        obtain ⟨A6, cap6, rfl, hp1, hp2, hp⟩ := id h3
        obtain ⟨A7, cap7, rfl, _⟩ := id h4
        have hlt : k < len := by simp at hk; omega
        have HK := Lib.hid hk; clear hk
        have hbw : b < w.heap.size := by omega
        have hbz : b < wr.heap.size := by omega
        have d0 := (hWr.cell (p := ⟨b, o + k * 3, none⟩) hbw).trans c0
        have d1 := (hWr.cell (p := ⟨b, o + k * 3 + 1, none⟩) hbw).trans c1
        have d2 := (hWr.cell (p := ⟨b, o + k * 3 + 2, none⟩) hbw).trans c2
        clear c0 c1 c2
        have HS := fun W (hb : Below w.heap.size w W) => rstmts_b f.b A7 cap7 B w W hB hb h4
        have hWa : ∀ C, Below w.heap.size w (wr.alloc C) := fun C => hWr.alloc hWr.size C
        have HWA := Lib.hid hWa; clear hWa
        have HC : Hid (frOk (f :: r) = ((nameB f.s && f.b.ok && (decide (f.ps.length ≤ 8) && psOk f.ps)) && frOk r)) := by show _ = _; rfl
        clear h3 h4 HD HM
        obtain ⟨np, hnp⟩ : ∃ np, f.ps.length = np := ⟨_, rfl⟩
        rw [hnp] at hp1 hp d1 HC
        have HNP := Lib.hid hnp; clear hnp
        have hpz : np ≤ 9223372036854775807 := by omega
        cases hnb : nameB f.s with
        | false =>
          go_wp2_with (first
            | (go_at_call 21; ((with_reducible refine (rname_any f.s _ h6).mono ?_); rintro e w1 ⟨rfl, hb1⟩; obtain ⟨hc1, hf1⟩ := bcell hb1; have hgz1 : wr.heap.size < w1.heap.size := (by have := hb1.size; simp at this; omega); have hgy1 : w.heap.size < w1.heap.size := (by omega); have hq1 := (HWA.out _).trans (hb1.mono (by simp; omega)); have HS1 := HS w1 hq1))
            | (go_at_call 26; ((with_reducible refine HS1.mono ?_); rintro e w2 ⟨rfl, hb2⟩; obtain ⟨hc2, hf2⟩ := bcell hb2; have hgz2 : wr.heap.size < w2.heap.size := (Nat.lt_of_lt_of_le hgz1 hb2.size); have hq2 := hq1.trans (hb2.mono hq1.size))))
          go_ret
          exact ⟨ret_int (by rw [HR.out, HO.out, HC.out]; simp [hnb]), hq2⟩
        | true =>
          cases hbb : f.b.ok with
          | false =>
            rw [hbb] at HS
            go_wp2_with (first
              | (go_at_call 21; ((with_reducible refine (rname_any f.s _ h6).mono ?_); rintro e w1 ⟨rfl, hb1⟩; obtain ⟨hc1, hf1⟩ := bcell hb1; have hgz1 : wr.heap.size < w1.heap.size := (by have := hb1.size; simp at this; omega); have hgy1 : w.heap.size < w1.heap.size := (by omega); have hq1 := (HWA.out _).trans (hb1.mono (by simp; omega)); have HS1 := HS w1 hq1))
              | (go_at_call 26; ((with_reducible refine HS1.mono ?_); rintro e w2 ⟨rfl, hb2⟩; obtain ⟨hc2, hf2⟩ := bcell hb2; have hgz2 : wr.heap.size < w2.heap.size := (Nat.lt_of_lt_of_le hgz1 hb2.size); have hq2 := hq1.trans (hb2.mono hq1.size))))
            go_ret
            exact ⟨ret_int (by rw [HR.out, HO.out, HC.out]; simp [hnb, hbb]), hq2⟩
          | true =>
            rw [hbb] at HS
            by_cases h8 : np ≤ 8
            · have q8 : decide (8 < (np : Int)) = false := decide_eq_false (by omega)
              have H8 := Lib.hid h8; clear h8
              go_wp2_with (first
                | (go_at_call 21; ((with_reducible refine (rname_any f.s _ h6).mono ?_); rintro e w1 ⟨rfl, hb1⟩; obtain ⟨hc1, hf1⟩ := bcell hb1; have hgz1 : wr.heap.size < w1.heap.size := (by have := hb1.size; simp at this; omega); have hgy1 : w.heap.size < w1.heap.size := (by omega); have hq1 := (HWA.out _).trans (hb1.mono (by simp; omega)); have HS1 := HS w1 hq1))
                | (go_at_call 26; ((with_reducible refine HS1.mono ?_); rintro e w2 ⟨rfl, hb2⟩; obtain ⟨hc2, hf2⟩ := bcell hb2; have hgz2 : wr.heap.size < w2.heap.size := (Nat.lt_of_lt_of_le hgz1 hb2.size); have hq2 := hq1.trans (hb2.mono hq1.size))))
              have e1 : w2.cell? ⟨wr.heap.size, 1, none⟩ = some (.slice A6 np cap6) := by rw [hc2 _ _ hgz1, hc1 _ _ (by simp), cell_new]; rfl
              have y0 : w2.cell? ⟨w.heap.size, 0, none⟩ = some (.slice (some ⟨b, o, none⟩) len cap) := by rw [hc2 _ _ hgy1, hc1 _ _ (by simp; omega), World.cell?_of_block (a := ⟨w.heap.size, 0, none⟩) (Below.heap_alloc _ _ _ hgz)]; exact g0
              have y1 : w2.cell? ⟨w.heap.size, 1, none⟩ = some (.slice A' p.m.len cap') := by rw [hc2 _ _ hgy1, hc1 _ _ (by simp; omega), World.cell?_of_block (a := ⟨w.heap.size, 1, none⟩) (Below.heap_alloc _ _ _ hgz)]; exact g1
              obtain ⟨g, hg⟩ : ∃ g, wr.heap.size = g := ⟨_, rfl⟩
              rw [hg] at e1 hgz2
              simp only [hg]
              have HG := Lib.hid hg
              clear hg hc1 hf1 hc2 hf2 hb1 hb2 hq1 HS1 HS
              go_loopw [7] (fun i wq => ∃ (j : Nat) (s : List ByteArray), i = .int .i64 j ∧ j + s.length = np ∧ psOk f.ps = psOk s ∧ (0 < s.length → ∃ b o, A6 = some ⟨b, o, none⟩ ∧ b < B ∧ PsIn w s b (o + j)) ∧ Below w2.heap.size w2 wq) (fun i _ => np - (intOf i).toNat)
              case atStart => exact ⟨0, f.ps, rfl, by have := HNP.out; omega, rfl, by simpa [HNP.out] using hp, Below.refl _ _⟩
              case round =>
                obtain ⟨j, s, rfl, hj, hjo, hs1, hWq⟩ := hrel
                have HJO := Lib.hid hjo; clear hjo
                have hqq := hq2.trans (hWq.mono hq2.size)
                have m1 := (hWq.cell (p := ⟨g, 1, none⟩) hgz2).trans e1
                have hgq : g < wr.heap.size := Nat.lt_of_lt_of_le hgz2 hWq.size
                cases s with
                | nil =>
                  have hj0 : j = np := by simpa using hj
                  subst hj0
                  clear hj hs1 hp
                  go_wp2
                  go_roundw
                  case rel =>
                    exact ⟨k + 1, r, by go_num, by have := HK.out; simp at this; omega, by rw [HO.out, HC.out, hnb, hbb, decide_eq_true H8.out, HJO.out]; rfl, fun _ => ⟨b, o, rfl, hb, by rw [show o + (k + 1) * 3 = o + k * 3 + 3 by omega]; exact hr⟩, (hWq.cell (p := ⟨w.heap.size, 0, none⟩) (show w.heap.size < w2.heap.size by have := HG.out; omega)).trans y0, (hWq.cell (p := ⟨w.heap.size, 1, none⟩) (show w.heap.size < w2.heap.size by have := HG.out; omega)).trans y1, (by have := hWq.size; have := HG.out; omega), hqq⟩
                  case measure => simp [intOf]; omega
                | cons s r2 =>
                  obtain ⟨b2, o2, rfl, hb2', m0, hms, hr2⟩ := hs1 (by simp)
                  clear hs1 hp
                  have hjlt : j < np := by simp at hj; omega
                  have hjc : j < cap6 := by omega
                  have HJ := Lib.hid hj; clear hj
                  have m2 := (hqq.cell (p := ⟨b2, o2 + j, none⟩) (show b2 < w.heap.size by omega)).trans m0
                  cases hns : nameB s with
                  | true =>
                    go_wp2_with (go_at_call 21; ((with_reducible refine (rname_any s _ hms).mono ?_); rintro e w5 ⟨rfl, hb5⟩))
                    go_roundw
                    case rel => exact ⟨j + 1, r2, by go_num, by have := HJ.out; simp at this; omega, by rw [HJO.out, psOk, hns]; rfl, fun _ => ⟨b2, o2, rfl, hb2', by rw [show o2 + (j + 1) = o2 + j + 1 by omega]; exact hr2⟩, hWq.trans (hb5.mono hWq.size)⟩
                    case measure => simp [intOf]; omega
                  | false =>
                    go_wp2_with (go_at_call 21; ((with_reducible refine (rname_any s _ hms).mono ?_); rintro e w5 ⟨rfl, hb5⟩))
                    go_ret
                    exact ⟨ret_int (by rw [HR.out, HO.out, HC.out, HJO.out, psOk, hns]; simp), hqq.trans (hb5.mono hqq.size)⟩
            · have q8 : decide (8 < (np : Int)) = true := decide_eq_true (by omega)
              go_wp2_with (first
                | (go_at_call 21; ((with_reducible refine (rname_any f.s _ h6).mono ?_); rintro e w1 ⟨rfl, hb1⟩; obtain ⟨hc1, hf1⟩ := bcell hb1; have hgz1 : wr.heap.size < w1.heap.size := (by have := hb1.size; simp at this; omega); have hgy1 : w.heap.size < w1.heap.size := (by omega); have hq1 := (HWA.out _).trans (hb1.mono (by simp; omega)); have HS1 := HS w1 hq1))
                | (go_at_call 26; ((with_reducible refine HS1.mono ?_); rintro e w2 ⟨rfl, hb2⟩; obtain ⟨hc2, hf2⟩ := bcell hb2; have hgz2 : wr.heap.size < w2.heap.size := (Nat.lt_of_lt_of_le hgz1 hb2.size); have hq2 := hq1.trans (hb2.mono hq1.size))))
              go_ret
              exact ⟨ret_int (by rw [HR.out, HO.out, HC.out]; simp [hnb, hbb, h8]), hq2⟩
  · have d32 : decide (32 < (len : Int)) = true := decide_eq_true (by omega)
    have HE : Hid (rightN p = 1) := by show _ = _; rw [HR.out, decide_eq_false h32]; simp
    go_enter Tryd.func13, Tryd.ntmps13
    go_wp2
    go_ret
    exact ⟨ret_int HE.out.symm, HW.out _⟩

end Go.Proofs.YtaedlhjjfmmpdaaDoor
