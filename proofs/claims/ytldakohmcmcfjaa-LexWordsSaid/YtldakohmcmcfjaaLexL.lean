/-
  The contract of lex.Lex: at every slice of bytes it tells what 'lexS' tells of them; the tokens lie in a row of its own; of what was there nothing has turned.
-/
import Derived.Test.YtldakohmcmcfjaaLexF
import Derived.Deep.LoopGhost
import Derived.WalkMore
namespace Go.Proofs.Ytldakohmcmcfjaa
open Go Go.RowKit Go.Lib

theorem comment_n (b o c n : Nat) (l : List UInt8) (w : World) (hn : l.length = n) (hl : l.length ≤ 65536)
    (hc : ∀ i, i < l.length → w.cell? ⟨b, o + i, none⟩ = some (.int .u8 (nth l i))) :
    Calls Try.prog 14 #[.slice (some ⟨b, o, none⟩) n c] w fun e w' => e = .returned (.int .i64 (commL l)) ∧ w = w' := by
  subst hn; exact comment_any b o c l w hl hc
theorem first_n (b o c n : Nat) (l : List UInt8) (w : World) (hn : l.length = n) (hl : l.length ≤ 65536) (h0 : 0 < l.length)
    (hc : ∀ i, i < l.length → w.cell? ⟨b, o + i, none⟩ = some (.int .u8 (nth l i))) :
    Calls Try.prog 15 #[.slice (some ⟨b, o, none⟩) n c] w fun e w' => e = .returned (.tuple #[.int .i64 (firstK l), .int .i64 (firstN l)]) ∧ w = w' := by
  subst hn; exact first_any b o c l w hl h0 hc

/-- The cells of tokens in a row. -/
def toks (ts : List Tok) : List Value := ts.flatMap fun t => [.int .i64 t.kind, .string ⟨t.text.toArray⟩, .int .i64 t.at_]
theorem tokInfo : (Try.prog.info? 32).map (fun i => (i.zero, i.size, i.bytes)) = some (some (.agg #[.int .i64 0, .string ⟨#[]⟩, .int .i64 0]), 3, 32) := by kernel_rfl

def LexAt (l : List UInt8) (w : World) (v i : Value) (wr : World) : Prop :=
  ∃ (k : Nat) (acc : List Tok), k ≤ l.length ∧ i = .int .i64 k ∧ wr.ownsRow w.heap.size 32 3 v acc.length (toks acc) ∧ Below w.heap.size w wr ∧ (lexS k (l.drop k)).app acc = lexS 0 l ∧ acc.length ≤ k

theorem toks_snoc (ts : List Tok) (t : Tok) : toks (ts ++ [t]) = toks ts ++ [.int .i64 t.kind, .string ⟨t.text.toArray⟩, .int .i64 t.at_] := by
  simp [toks]
theorem below_row {w wr w1 : World} {v : Value} {n : Nat} {xs : List Value} {o : Obj} (hown : wr.ownsRow w.heap.size 32 3 v n xs) (hbw : Below w.heap.size w wr) (hg : (wr.alloc o).grownBy w1 v.ownBlock) : Below w.heap.size w w1 := by
  have := hbw.size
  exact (hbw.alloc (by omega) o).grown hg (by simp; omega) (fun j hj => (hown.lt j hj).1)
theorem three_cells {wr : World} {a b c : Value} : ∀ j u, [a, b, c][j]? = some u → (wr.alloc (.cells #[a, b, c] 32)).cell? ((⟨wr.heap.size, 0, none⟩ : Addr).add j) = some u := by
  intro j u hj
  match j, hj with
  | 0, hj => simp at hj; subst hj; simp [Addr.add]
  | 1, hj => simp at hj; subst hj; simp [Addr.add]
  | 2, hj => simp at hj; subst hj; simp [Addr.add]
theorem three_one {k a : Int} {s : ByteArray} : ∀ u ∈ [Value.int .i64 k, .string s, .int .i64 a], u.oneCell' = true := by
  intro u hu
  simp at hu
  rcases hu with rfl | rfl | rfl <;> rfl
theorem own_snoc {w1 : World} {B : Nat} {v : Value} {acc : List Tok} {t : Tok} (h : w1.ownsRow B 32 3 v (acc.length + 1) (toks acc ++ [.int .i64 t.kind, .string ⟨t.text.toArray⟩, .int .i64 t.at_])) :
    w1.ownsRow B 32 3 v (acc ++ [t]).length (toks (acc ++ [t])) := by
  rw [toks_snoc, List.length_append]; exact h

/-- What Lex leaves. -/
def LexOut (l : List UInt8) (w : World) (e : Ending) (w' : World) : Prop :=
  Below w.heap.size w w' ∧
    ((∃ p, lexS 0 l = .bad p ∧ e = .returned (.tuple #[.slice none 0 0, .int .i64 p, .int .i64 2])) ∨
     (∃ ts v, lexS 0 l = .ok ts ∧ e = .returned (.tuple #[v, .int .i64 0, .int .i64 0]) ∧ w'.ownsRow w.heap.size 32 3 v (ts.length + 1) (toks (ts ++ [⟨4, [], l.length⟩]))))

theorem out_bad {l : List UInt8} {w w' : World} {k p : Nat} {acc : List Tok} {P : Int} (hb : Below w.heap.size w w') (hgo : (lexS k (l.drop k)).app acc = lexS 0 l) (h : lexS k (l.drop k) = .bad p) (hP : P = p) :
    LexOut l w (.returned (.tuple #[.slice none 0 0, .int .i64 P, .int .i64 2])) w' := by
  subst hP
  refine ⟨hb, .inl ⟨p, ?_, rfl⟩⟩
  rw [← hgo, h]; rfl
theorem out_ok {l : List UInt8} {w w' : World} {k : Nat} {acc : List Tok} {v : Value} (hb : Below w.heap.size w w') (hk : l.length ≤ k) (hgo : (lexS k (l.drop k)).app acc = lexS 0 l)
    (hown : w'.ownsRow w.heap.size 32 3 v (acc.length + 1) (toks (acc ++ [⟨4, [], l.length⟩]))) :
    LexOut l w (.returned (.tuple #[v, .int .i64 0, .int .i64 0])) w' := by
  refine ⟨hb, .inr ⟨acc, v, ?_, rfl, hown⟩⟩
  rw [← hgo, List.drop_eq_nil_of_le hk, lexS_nil]
  simp [Res.app]
theorem go_blank {l : List UInt8} {k : Nat} {acc : List Tok} (hlt : k < l.length) (hb : blkB (nth l k) = true) (hgo : (lexS k (l.drop k)).app acc = lexS 0 l) : (lexS (k + 1) (l.drop (k + 1))).app acc = lexS 0 l := by
  rw [← hgo, drop_cons hlt, lexS_blank hb]
theorem go_comm {l : List UInt8} {k : Nat} {acc : List Tok} (hlt : k < l.length) (hc : (nth l k == 35) = true) (hgo : (lexS k (l.drop k)).app acc = lexS 0 l) : (lexS (k + commL (l.drop k)) (l.drop (k + commL (l.drop k)))).app acc = lexS 0 l := by
  have e : l.getD k 0 = 35 := bv_inj (n := 35) (by simpa [nth] using hc) (by decide)
  have ed : l.drop k = 35 :: l.drop (k + 1) := by rw [drop_cons hlt, e]
  rw [← hgo]
  conv => rhs; rw [ed, lexS_comm, ← ed, List.drop_drop]
theorem comm_pos {l : List UInt8} {k : Nat} (hlt : k < l.length) (hc : (nth l k == 35) = true) : 1 ≤ commL (l.drop k) := by
  have e : l.getD k 0 = 35 := bv_inj (n := 35) (by simpa [nth] using hc) (by decide)
  rw [drop_cons hlt, e, commL_cons, if_neg (by decide)]; omega
theorem at_bad {l : List UInt8} {k : Nat} (hlt : k < l.length) (hb : blkB (nth l k) = false) (hc : (nth l k == 35) = false) (h : firstK (l.drop k) = 0 ∨ (firstK (l.drop k) = 1 ∧ 32 < firstN (l.drop k))) : lexS k (l.drop k) = .bad k := by
  rw [drop_cons hlt] at h ⊢
  exact lexS_bad hb (fun e => by rw [show nth l k = 35 by unfold nth; rw [e]; rfl] at hc; simp at hc) h
theorem at_glued {l : List UInt8} {k : Nat} (hlt : k < l.length) (hb : blkB (nth l k) = false) (hc : (nth l k == 35) = false) (h : firstK (l.drop k) = 2) (hg : glued (l.drop k) (firstN (l.drop k)) = true) : lexS k (l.drop k) = .bad (k + firstN (l.drop k)) := by
  rw [drop_cons hlt] at h hg ⊢
  exact lexS_glued hb (fun e => by rw [show nth l k = 35 by unfold nth; rw [e]; rfl] at hc; simp at hc) (by omega) ⟨h, hg⟩
theorem go_tok {l : List UInt8} {k : Nat} {acc : List Tok} (hlt : k < l.length) (hb : blkB (nth l k) = false) (hc : (nth l k == 35) = false) (h : ¬ (firstK (l.drop k) = 0 ∨ (firstK (l.drop k) = 1 ∧ 32 < firstN (l.drop k))))
    (hg : ¬ (firstK (l.drop k) = 2 ∧ glued (l.drop k) (firstN (l.drop k)) = true)) (hgo : (lexS k (l.drop k)).app acc = lexS 0 l) :
    (lexS (k + firstN (l.drop k)) (l.drop (k + firstN (l.drop k)))).app (acc ++ [⟨firstK (l.drop k), (l.drop k).take (firstN (l.drop k)), k⟩]) = lexS 0 l := by
  rw [← hgo, ← Res.app_cons, ← List.drop_drop]
  rw [drop_cons hlt] at h hg ⊢
  rw [lexS_tok hb (fun e => by rw [show nth l k = 35 by unfold nth; rw [e]; rfl] at hc; simp at hc) h hg]
theorem firstK_le (l : List UInt8) : firstK l ≤ 3 := by
  unfold firstK
  split
  · omega
  · split
    · omega
    · split
      · omega
      · split <;> omega

theorem conv_take {b o cn k n : Nat} {l : List UInt8} {wr : World} (hd : (l.drop k).length = cn) (hc : ∀ i, i < (l.drop k).length → wr.cell? ⟨b, o + k + i, none⟩ = some (.int .u8 (nth (l.drop k) i))) (hn : n ≤ cn) :
    ∀ c, (convert 22 9 (.slice (some ⟨b, o + k, none⟩) n c)).run Try.prog wr = .ok (.string ⟨((l.drop k).take n).toArray⟩) wr := by
  intro c
  have hlen : ((l.drop k).take n).length = n := by rw [List.length_take]; omega
  have h := run_convert_bytes_back (P := Try.prog) wr 22 9 5 ⟨b, o + k, none⟩ c ((l.drop k).take n) Try.underlying22 Try.underlying5 Try.underlying9 (fun j hj => by
    have e : (⟨b, o + k, none⟩ : Addr).add j = ⟨b, o + k + j, none⟩ := by unfold Addr.add; split <;> simp_all
    have hj' : j < (l.drop k).length := by omega
    rw [e, hc j hj']
    unfold nth bv
    rw [List.getD_eq_getElem?_getD, List.getElem?_eq_getElem hj']
    simp)
  rw [hlen] at h
  exact h

set_option maxHeartbeats 8000000 in
set_option maxRecDepth 100000 in
theorem lex_row (b o cap : Nat) (l : List UInt8) (w : World) (hl : l.length ≤ 65536) (h0 : 0 < l.length) (hcap : l.length ≤ cap) (hb : b < w.heap.size)
    (hc : ∀ i, i < l.length → w.cell? ⟨b, o + i, none⟩ = some (.int .u8 (nth l i))) :
    Calls Try.prog 11 #[.slice (some ⟨b, o, none⟩) l.length cap] w (LexOut l w) := by
  have HC := Lib.hid hc; clear hc
  obtain ⟨i0, hi, hz0, hz1, hz2⟩ := info_parts tokInfo
  go_enter Try.func11, Try.ntmps11
  go_wp2
  go_step3
  go_wp2
  go_step3
  go_wp2
  go_loopw [5, 6] (fun v i wr => LexAt l w v i wr) (fun _ i _ => l.length - (intOf i).toNat)
  case atStart => exact ⟨0, [], Nat.zero_le _, rfl, World.ownsRow_nil _ _ _ _, Below.refl _ _, by rw [Res.app_nil]; rfl, Nat.le_refl _⟩
  case round =>
    obtain ⟨k, acc, hk, rfl, hown, hbw, hgo, hacc⟩ := hrel
    have HG := Lib.hid hgo; clear hgo
    have hsz := hbw.size
    by_cases hlt : k < l.length
    · have hcell : wr.cell? ⟨b, o + k, none⟩ = some (.int .u8 (nth l k)) := (hbw.cell hb).trans (HC.out k hlt)
      obtain ⟨r0, r1⟩ := nth_range l k
      have hne : ¬ cap = k := by omega
      have hdl : (l.drop k).length = l.length - k := List.length_drop
      have HCD := Lib.hid (show ∀ i, i < (l.drop k).length → wr.cell? ⟨b, o + k + i, none⟩ = some (.int .u8 (nth (l.drop k) i)) from fun i hi => by rw [nth_drop, Nat.add_assoc]; exact (hbw.cell hb).trans (HC.out (k + i) (by omega)))
      have HDL := Lib.hid hdl; clear hdl
      cases hbl : blkB (nth l k) with
      | true =>
        have HBL := Lib.hid hbl
        go_wp2_with (first
          | (go_at_call 13; ((with_reducible refine (parts_any _ _).mono ?_); rintro e w1 ⟨rfl, rfl⟩)))
        go_roundw
        case rel => exact ⟨k + 1, acc, by omega, by go_num, hown, hbw, go_blank hlt HBL.out HG.out, by omega⟩
        case measure => simp [intOf]; omega
      | false =>
        have HBL := Lib.hid hbl
        cases hcm : (nth l k == 35) with
        | true =>
          have HCM := Lib.hid hcm
          have hp := comm_pos hlt hcm
          have hq := commL_le (l.drop k)
          rw [HDL.out] at hq
          obtain ⟨m, hm⟩ : ∃ m, commL (l.drop k) = m := ⟨_, rfl⟩
          have hcon : ∀ c, Calls Try.prog 14 #[.slice (some ⟨b, o + k, none⟩) (l.length - k) c] wr fun e w' => e = .returned (.int .i64 m) ∧ wr = w' := fun c => by
            rw [← hm]; exact comment_n b (o + k) c _ (l.drop k) wr HDL.out (by rw [HDL.out]; omega) HCD.out
          have HGC := Lib.hid (go_comm hlt hcm HG.out)
          rw [hm] at hp hq HGC
          clear hm
          go_wp2_with (first
            | (go_at_call 13; ((with_reducible refine (parts_any _ _).mono ?_); rintro e w1 ⟨rfl, rfl⟩))
            | (go_at_call 14; ((with_reducible refine (hcon _).mono ?_); rintro e w1 ⟨rfl, rfl⟩)))
          go_roundw
          case rel => exact ⟨k + m, acc, by omega, by go_num, hown, hbw, HGC.out, by omega⟩
          case measure => simp [intOf]; omega
        | false =>
          have HCM := Lib.hid hcm
          have hK3 := firstK_le (l.drop k)
          have hN0 : firstK (l.drop k) ≠ 0 → 1 ≤ firstN (l.drop k) := by rw [drop_cons hlt]; exact firstN_pos
          have hN1 : firstN (l.drop k) ≤ (l.drop k).length := firstN_le
          rw [HDL.out] at hN1
          have hBad := at_bad hlt hbl hcm
          have hGlu := at_glued hlt hbl hcm
          have hTok := fun h hg => go_tok (acc := acc) hlt hbl hcm h hg HG.out
          have hfir : ∀ c, Calls Try.prog 15 #[.slice (some ⟨b, o + k, none⟩) (l.length - k) c] wr fun e w' => e = .returned (.tuple #[.int .i64 (firstK (l.drop k)), .int .i64 (firstN (l.drop k))]) ∧ wr = w' := fun c =>
            first_n b (o + k) c _ (l.drop k) wr HDL.out (by rw [HDL.out]; omega) (by rw [HDL.out]; omega) HCD.out
          obtain ⟨n, hn⟩ : ∃ n, firstN (l.drop k) = n := ⟨_, rfl⟩
          obtain ⟨K, hK⟩ : ∃ K, firstK (l.drop k) = K := ⟨_, rfl⟩
          rw [hn, hK] at hBad hGlu hTok hfir
          rw [hn] at hN0 hN1
          rw [hK] at hK3 hN0
          clear hn hK
          have HBad := Lib.hid hBad; have HGlu := Lib.hid hGlu; have HTok := Lib.hid hTok
          clear hBad hGlu hTok
          have hK4 : K = 0 ∨ K = 1 ∨ K = 2 ∨ K = 3 := by omega
          rcases hK4 with rfl | rfl | rfl | rfl
          · clear hN0 hK3
            have HB := Lib.hid (HBad.out (.inl rfl))
            go_wp2_with (first
                        | (go_at_call 13; ((with_reducible refine (parts_any _ _).mono ?_); rintro e w1 ⟨rfl, rfl⟩))
                        | (go_at_call 15; ((with_reducible refine (hfir _).mono ?_); rintro e w1 ⟨rfl, rfl⟩)))
            go_ret3
            exact out_bad hbw HG.out HB.out rfl
          · have hn0 : 1 ≤ n := hN0 (by decide)
            clear hN0 hK3
            by_cases hgt : 32 < n
            · have hgt1 : (32 : Int) < n := by omega
              have HB := Lib.hid (HBad.out (.inr ⟨rfl, hgt⟩))
              go_wp2_with (first
                          | (go_at_call 13; ((with_reducible refine (parts_any _ _).mono ?_); rintro e w1 ⟨rfl, rfl⟩))
                          | (go_at_call 15; ((with_reducible refine (hfir _).mono ?_); rintro e w1 ⟨rfl, rfl⟩)))
              go_ret3
              exact out_bad hbw HG.out HB.out rfl
            · have hgt1 : (n : Int) ≤ 32 := by omega
              have hcv : ∀ c, (convert 22 9 (.slice (some ⟨b, o + k, none⟩) n c)).run Try.prog wr = .ok (.string ⟨((l.drop k).take n).toArray⟩) wr := conv_take HDL.out HCD.out hN1
              have HT := Lib.hid (HTok.out (by omega) (by omega))
              go_wp2_with (first
                          | (go_at_call 13; ((with_reducible refine (parts_any _ _).mono ?_); rintro e w1 ⟨rfl, rfl⟩))
                          | (go_at_call 15; ((with_reducible refine (hfir _).mono ?_); rintro e w1 ⟨rfl, rfl⟩))
                          | (at_builtin; refine wpList_append_own _ rfl (.tmp 77) (.tmp 85) 24 rfl w.heap.size 32 i0 _ 3 32 Try.underlying24 hi hz0 hz1 hz2 rfl (by decide) _ acc.length (toks acc) rfl (hown.alloc _) ⟨wr.heap.size, 0, none⟩ 1 1 [.int .i64 1, .string ⟨((l.drop k).take n).toArray⟩, .int .i64 k] rfl rfl three_cells three_one (by unfold maxLen; omega) (by omega) (by simp; omega) ?_; intro v1 w1 hown1 hgrow1 _))
              have R := below_row hown hbw hgrow1
              have R1 := own_snoc (t := ⟨1, (l.drop k).take n, k⟩) hown1
              clear hown1 hgrow1 hown hbw hcv
              go_wp2
              go_roundw
              case rel => exact ⟨k + n, _, by omega, by go_num, R1, R, HT.out, by simp; omega⟩
              case measure => simp [intOf]; omega
          · have hn0 : 1 ≤ n := hN0 (by decide)
            clear hN0 hK3
            by_cases hnl : n < l.length - k
            · have hnl' : (n : Int) < ((l.length - k : Nat) : Int) := by omega
              have hg0 : glued (l.drop k) n = (letB (nth l (k + n)) || nth l (k + n) == 95) := by
                unfold glued; rw [HDL.out, decide_eq_true hnl, nth_drop]; rfl
              have hy : wr.cell? ⟨b, o + k + n, none⟩ = some (.int .u8 (nth l (k + n))) := by rw [Nat.add_assoc]; exact (hbw.cell hb).trans (HC.out (k + n) (by omega))
              obtain ⟨y0, y1⟩ := nth_range l (k + n)
              obtain ⟨y, hyy⟩ : ∃ y, nth l (k + n) = y := ⟨_, rfl⟩
              rw [hyy] at hg0 hy y0 y1
              clear hyy
              cases hq1 : letB y with
              | true =>
                have hgl : glued (l.drop k) n = true := by rw [hg0, hq1]; rfl
                clear hg0
                have HB := Lib.hid (HGlu.out rfl hgl)
                have HGL := Lib.hid hgl; clear hgl
                go_wp2_with (first
                            | (go_at_call 13; ((with_reducible refine (parts_any _ _).mono ?_); rintro e w1 ⟨rfl, rfl⟩))
                            | (go_at_call 15; ((with_reducible refine (hfir _).mono ?_); rintro e w1 ⟨rfl, rfl⟩))
                            | (go_at_call 16; ((with_reducible refine (letter_any _ _ y0 y1).mono ?_); rintro e w1 ⟨rfl, rfl⟩)))
                go_ret3
                exact out_bad hbw HG.out HB.out (by omega)
              | false =>
                cases hq2 : (y == 95) with
                | true =>
                  have hgl : glued (l.drop k) n = true := by rw [hg0, hq1, hq2]; rfl
                  clear hg0
                  have HB := Lib.hid (HGlu.out rfl hgl)
                  have HGL := Lib.hid hgl; clear hgl
                  go_wp2_with (first
                              | (go_at_call 13; ((with_reducible refine (parts_any _ _).mono ?_); rintro e w1 ⟨rfl, rfl⟩))
                              | (go_at_call 15; ((with_reducible refine (hfir _).mono ?_); rintro e w1 ⟨rfl, rfl⟩))
                              | (go_at_call 16; ((with_reducible refine (letter_any _ _ y0 y1).mono ?_); rintro e w1 ⟨rfl, rfl⟩)))
                  go_ret3
                  exact out_bad hbw HG.out HB.out (by omega)
                | false =>
                  have hgl : glued (l.drop k) n = false := by rw [hg0, hq1, hq2]; rfl
                  clear hg0
                  have hcv : ∀ c, (convert 22 9 (.slice (some ⟨b, o + k, none⟩) n c)).run Try.prog wr = .ok (.string ⟨((l.drop k).take n).toArray⟩) wr := conv_take HDL.out HCD.out hN1
                  have HT := Lib.hid (HTok.out (by omega) (fun h => by rw [hgl] at h; exact absurd h.2 (by decide)))
                  have HGL := Lib.hid hgl; clear hgl
                  go_wp2_with (first
                              | (go_at_call 13; ((with_reducible refine (parts_any _ _).mono ?_); rintro e w1 ⟨rfl, rfl⟩))
                              | (go_at_call 15; ((with_reducible refine (hfir _).mono ?_); rintro e w1 ⟨rfl, rfl⟩))
                              | (go_at_call 16; ((with_reducible refine (letter_any _ _ y0 y1).mono ?_); rintro e w1 ⟨rfl, rfl⟩))
                              | (at_builtin; refine wpList_append_own _ rfl (.tmp 77) (.tmp 85) 24 rfl w.heap.size 32 i0 _ 3 32 Try.underlying24 hi hz0 hz1 hz2 rfl (by decide) _ acc.length (toks acc) rfl (hown.alloc _) ⟨wr.heap.size, 0, none⟩ 1 1 [.int .i64 2, .string ⟨((l.drop k).take n).toArray⟩, .int .i64 k] rfl rfl three_cells three_one (by unfold maxLen; omega) (by omega) (by simp; omega) ?_; intro v1 w1 hown1 hgrow1 _))
                  have R := below_row hown hbw hgrow1
                  have R1 := own_snoc (t := ⟨2, (l.drop k).take n, k⟩) hown1
                  clear hown1 hgrow1 hown hbw hcv
                  go_wp2
                  go_roundw
                  case rel => exact ⟨k + n, _, by omega, by go_num, R1, R, HT.out, by simp; omega⟩
                  case measure => simp [intOf]; omega
            · have hnl' : ¬ (n : Int) < ((l.length - k : Nat) : Int) := by omega
              have hgl : glued (l.drop k) n = false := by unfold glued; rw [HDL.out, decide_eq_false hnl]; rfl
              have hcv : ∀ c, (convert 22 9 (.slice (some ⟨b, o + k, none⟩) n c)).run Try.prog wr = .ok (.string ⟨((l.drop k).take n).toArray⟩) wr := conv_take HDL.out HCD.out hN1
              have HT := Lib.hid (HTok.out (by omega) (fun h => by rw [hgl] at h; exact absurd h.2 (by decide)))
              have HGL := Lib.hid hgl; clear hgl
              go_wp2_with (first
                          | (go_at_call 13; ((with_reducible refine (parts_any _ _).mono ?_); rintro e w1 ⟨rfl, rfl⟩))
                          | (go_at_call 15; ((with_reducible refine (hfir _).mono ?_); rintro e w1 ⟨rfl, rfl⟩))
                          | (at_builtin; refine wpList_append_own _ rfl (.tmp 77) (.tmp 85) 24 rfl w.heap.size 32 i0 _ 3 32 Try.underlying24 hi hz0 hz1 hz2 rfl (by decide) _ acc.length (toks acc) rfl (hown.alloc _) ⟨wr.heap.size, 0, none⟩ 1 1 [.int .i64 2, .string ⟨((l.drop k).take n).toArray⟩, .int .i64 k] rfl rfl three_cells three_one (by unfold maxLen; omega) (by omega) (by simp; omega) ?_; intro v1 w1 hown1 hgrow1 _))
              have R := below_row hown hbw hgrow1
              have R1 := own_snoc (t := ⟨2, (l.drop k).take n, k⟩) hown1
              clear hown1 hgrow1 hown hbw hcv
              go_wp2
              go_roundw
              case rel => exact ⟨k + n, _, by omega, by go_num, R1, R, HT.out, by simp; omega⟩
              case measure => simp [intOf]; omega
          · have hn0 : 1 ≤ n := hN0 (by decide)
            clear hN0 hK3
            have hcv : ∀ c, (convert 22 9 (.slice (some ⟨b, o + k, none⟩) n c)).run Try.prog wr = .ok (.string ⟨((l.drop k).take n).toArray⟩) wr := conv_take HDL.out HCD.out hN1
            have HT := Lib.hid (HTok.out (by omega) (by omega))
            go_wp2_with (first
                        | (go_at_call 13; ((with_reducible refine (parts_any _ _).mono ?_); rintro e w1 ⟨rfl, rfl⟩))
                        | (go_at_call 15; ((with_reducible refine (hfir _).mono ?_); rintro e w1 ⟨rfl, rfl⟩))
                        | (at_builtin; refine wpList_append_own _ rfl (.tmp 77) (.tmp 85) 24 rfl w.heap.size 32 i0 _ 3 32 Try.underlying24 hi hz0 hz1 hz2 rfl (by decide) _ acc.length (toks acc) rfl (hown.alloc _) ⟨wr.heap.size, 0, none⟩ 1 1 [.int .i64 3, .string ⟨((l.drop k).take n).toArray⟩, .int .i64 k] rfl rfl three_cells three_one (by unfold maxLen; omega) (by omega) (by simp; omega) ?_; intro v1 w1 hown1 hgrow1 _))
            have R := below_row hown hbw hgrow1
            have R1 := own_snoc (t := ⟨3, (l.drop k).take n, k⟩) hown1
            clear hown1 hgrow1 hown hbw hcv
            go_wp2
            go_roundw
            case rel => exact ⟨k + n, _, by omega, by go_num, R1, R, HT.out, by simp; omega⟩
            case measure => simp [intOf]; omega
    · have hkl : k = l.length := by omega
      subst hkl
      by_cases hcp : cap = l.length
      all_goals
        go_wp2_with (first
          | (at_builtin; refine wpList_append_own _ rfl (.tmp 90) (.tmp 93) 24 rfl w.heap.size 32 i0 _ 3 32 Try.underlying24 hi hz0 hz1 hz2 rfl (by decide) _ acc.length (toks acc) rfl (hown.alloc _) ⟨wr.heap.size, 0, none⟩ 1 1 [.int .i64 4, .string ⟨#[]⟩, .int .i64 l.length] rfl rfl three_cells three_one (by unfold maxLen; omega) (by omega) (by simp; omega) ?_; intro v1 w1 hown1 hgrow1 _))
        have R := below_row hown hbw hgrow1
        have R1 := out_ok R (Nat.le_refl _) HG.out (by rw [toks_snoc]; exact hown1)
        rw [Exit.noGoto_ret]
        go_ret3
        exact R1

set_option maxHeartbeats 4000000 in
set_option maxRecDepth 100000 in
theorem lex_none (A : Option Addr) (cap : Nat) (w : World) :
    Calls Try.prog 11 #[.slice A 0 cap] w (LexOut [] w) := by
  obtain ⟨i0, hi, hz0, hz1, hz2⟩ := info_parts tokInfo
  go_enter Try.func11, Try.ntmps11
  go_wp2
  go_step3
  go_wp2
  go_step3
  go_wp2
  go_loopw [5, 6] (fun v i wr => v = .slice none 0 0 ∧ i = .int .i64 0 ∧ wr = w) (fun _ i _ => 0)
  case atStart => exact ⟨rfl, rfl, rfl⟩
  case round =>
    obtain ⟨rfl, rfl, rfl⟩ := hrel
    go_wp2_with (first
          | (at_builtin; refine wpList_append_own _ rfl (.tmp 90) (.tmp 93) 24 rfl wr.heap.size 32 i0 _ 3 32 Try.underlying24 hi hz0 hz1 hz2 rfl (by decide) _ 0 [] rfl (World.ownsRow_nil _ _ _ _) ⟨wr.heap.size, 0, none⟩ 1 1 [.int .i64 4, .string ⟨#[]⟩, .int .i64 0] rfl rfl three_cells three_one (by unfold maxLen; omega) (by omega) (by simp) ?_; intro v1 w1 hown1 hgrow1 _))
    have R : Below wr.heap.size wr w1 := below_row (World.ownsRow_nil _ _ _ _) (Below.refl _ _) hgrow1
    have R1 : LexOut [] wr (.returned (.tuple #[v1, .int .i64 0, .int .i64 0])) w1 := ⟨R, .inr ⟨[], v1, by rw [lexS_nil], rfl, hown1⟩⟩
    rw [Exit.noGoto_ret]
    go_ret3
    exact R1

/-- Lex, at whatever bytes there are not too many of. -/
theorem lex_any (A : Option Addr) (n cap : Nat) (l : List UInt8) (w : World) (hn : l.length = n) (hl : l.length ≤ 65536) (hcap : n ≤ cap) (hr : Row w A l) :
    Calls Try.prog 11 #[.slice A n cap] w (LexOut l w) := by
  subst hn
  by_cases h0 : 0 < l.length
  · obtain ⟨b, o, rfl, hb, hc⟩ := hr h0
    exact lex_row b o cap l w hl h0 hcap hb hc
  · obtain rfl : l = [] := List.eq_nil_of_length_eq_zero (by omega)
    exact lex_none A cap w

set_option maxRecDepth 100000 in
theorem lex_big (A : Option Addr) (n cap : Nat) (w : World) (hn : 65536 < (n : Int)) :
    Calls Try.prog 11 #[.slice A n cap] w fun e w' => e = .returned (.tuple #[.slice none 0 0, .int .i64 0, .int .i64 1]) ∧ w = w' := by
  go_enter Try.func11, Try.ntmps11
  go_wp2
  go_step3
  go_wp2
  try rw [Exit.noGoto_ret]
  go_ret3
  exact ⟨rfl, rfl⟩

end Go.Proofs.Ytldakohmcmcfjaa
