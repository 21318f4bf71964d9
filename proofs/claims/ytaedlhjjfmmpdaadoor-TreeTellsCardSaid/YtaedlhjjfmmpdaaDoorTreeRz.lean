/-
  The document's own expr, at every op; exprs.
-/
import Derived.Test.YtaedlhjjfmmpdaaDoorTreeRy1
namespace Go.Proofs.YtaedlhjjfmmpdaaDoor
open Go Go.RowKit Go.Lib

theorem rexpr_any (op n : Int) (s : ByteArray) (A : Option Addr) (k cap : Nat) (b : Bool) (w : World) (hI : I64 n) (hs : s.size ≤ 9223372036854775807) (hk : k ≤ 9223372036854775807)
    (H : ∀ W, Below w.heap.size w W → Calls Tryd.prog 45 #[.slice A k cap] W fun e w' => e = .returned (.bool b) ∧ Below W.heap.size W w') :
    Calls Tryd.prog 59 #[.agg #[.int .i64 op, .int .i64 n, .string s, .slice A k cap]] w (ExprPost op n s k b w) := by
  by_cases h8 : 8 ≤ op ∧ op ≤ 16
  · exact rexpr_8 op h8 n s A k cap b w hs hk H
  · by_cases hx : op < 1 ∨ 16 < op
    · exact rexpr_x op hx n s A k cap b w hs hk H
    · have hc : op = 1 ∨ op = 2 ∨ op = 3 ∨ op = 4 ∨ op = 5 ∨ op = 6 ∨ op = 7 := by omega
      rcases hc with rfl | rfl | rfl | rfl | rfl | rfl | rfl
      · exact rexpr_1 n hI s A k cap b w hs hk H
      · exact rexpr_2 n s A k cap b w hs hk H
      · exact rexpr_3 n s A k cap b w hs hk H
      · exact rexpr_4 n s A k cap b w hs hk H
      · exact rexpr_5 n s A k cap b w hs hk H
      · exact rexpr_6 n s A k cap b w hs hk H
      · exact rexpr_7 n s A k cap b w hs hk H

theorem ok_cons (op n : Int) (s : ByteArray) (l r : ES) : (ES.cons op n s l r).ok = ((fitE op n s l.len && l.ok) && r.ok) := rfl

set_option maxRecDepth 100000 in
set_option maxHeartbeats 2000000 in
theorem rexprs_any (K : Nat) : ∀ (l : ES) (A : Option Addr) (cap B : Nat) (w : World), l.cnt ≤ K → B ≤ w.heap.size → EV B w (.slice A l.len cap) l →
    Calls Tryd.prog 45 #[.slice A l.len cap] w fun e w' => e = .returned (.bool l.ok) ∧ Below w.heap.size w w' := by
  induction K using Nat.strongRecOn with
  | ind K ih =>
    intro l A cap B w hK hB hv
    obtain ⟨A1, cap1, e1, hc1, hc2, hrow⟩ := hv
    injection e1 with e2 e3 e4
    subst e2 e4
    clear e3
    obtain ⟨len, hlen⟩ : ∃ len, l.len = len := ⟨_, rfl⟩
    rw [hlen] at hc1 hrow ⊢
    have HL := Lib.hid hlen; clear hlen
    have IH := fun (l' : ES) (A : Option Addr) (cap : Nat) (hl : l'.cnt < K) (h3 : EV B w (.slice A l'.len cap) l') (W : World) (hb : Below w.heap.size w W) => ih _ hl l' A cap B W (Nat.le_refl _) (Nat.le_trans hB hb.size) (EV.below h3 (hb.mono hB) (Nat.le_refl _))
    clear ih
    go_enter Tryd.func45, Tryd.ntmps45
    go_wp2
    go_loopw [3] (fun i wr => ∃ (k : Nat) (r : ES), i = .int .i64 k ∧ k + r.len = len ∧ l.ok = r.ok ∧ r.cnt ≤ K ∧ (0 < r.len → ∃ b o, A = some ⟨b, o, none⟩ ∧ b < B ∧ r.In B w b (o + k * 4)) ∧ Below w.heap.size w wr) (fun i _ => len - (intOf i).toNat)
    case atStart => exact ⟨0, l, rfl, by have := HL.out; omega, rfl, hK, by simpa [HL.out] using hrow, Below.refl _ _⟩
    case round =>
      obtain ⟨k, r, rfl, hk, ho, hrK, hr1, hW⟩ := hrel
      have HO := Lib.hid ho; clear ho
      cases r with
      | nil =>
        have hk0 : k = len := by simpa [ES.len] using hk
        subst hk0
        clear hk hrow hr1
        go_wp2
        go_ret
        exact ⟨ret_bool (by rw [HO.out]; rfl), hW⟩
      | cons op n s l1 r =>
        obtain ⟨b, o, rfl, hb, c0, c1, c2, ⟨v3, c3, h3⟩, h6, hr⟩ := hr1 (by simp [ES.len])
        clear hrow hr1
        obtain ⟨A6, cap6, rfl, hn1, hn2, _⟩ := id h3
        have hlt : k < len := by simp [ES.len] at hk; omega
        have HK := Lib.hid hk; clear hk
        have hbw : b < w.heap.size := by omega
        have hcnt : l1.cnt < K ∧ r.cnt ≤ K := by simp only [ES.cnt] at hrK; omega
        have d0 := (hW.cell (p := ⟨b, o + k * 4, none⟩) hbw).trans c0
        have d1 := (hW.cell (p := ⟨b, o + k * 4 + 1, none⟩) hbw).trans c1
        have d2 := (hW.cell (p := ⟨b, o + k * 4 + 2, none⟩) hbw).trans c2
        have d3 := (hW.cell (p := ⟨b, o + k * 4 + 3, none⟩) hbw).trans c3
        clear c0 c1 c2 c3
        have HX := rexpr_any op n s A6 l1.len cap6 l1.ok wr h6.2.1 h6.2.2 (by omega) (fun W hb => IH l1 A6 cap6 hcnt.1 h3 W (hW.trans (hb.mono hW.size)))
        have HC := Lib.hid (ok_cons op n s l1 r)
        clear IH h3
        obtain ⟨bb, hbb⟩ : ∃ bb, (fitE op n s l1.len && l1.ok) = bb := ⟨_, rfl⟩
        unfold ExprPost at HX
        rw [hbb] at HX HC
        clear hbb
        have HWs := Lib.hid hW.size
        cases bb with
        | true =>
          go_wp2_with (go_at_call 59; ((with_reducible refine HX.mono ?_); rintro e w1 ⟨rfl, hb1⟩))
          go_roundw
          case rel => exact ⟨k + 1, r, by go_num, by have := HK.out; simp [ES.len] at this; omega, by rw [HO.out, HC.out]; rfl, hcnt.2, fun _ => ⟨b, o, rfl, hb, by rw [show o + (k + 1) * 4 = o + k * 4 + 4 by omega]; exact hr⟩, hW.trans (hb1.mono HWs.out)⟩
          case measure => simp [intOf]; omega
        | false =>
          go_wp2_with (go_at_call 59; ((with_reducible refine HX.mono ?_); rintro e w1 ⟨rfl, hb1⟩))
          go_ret
          exact ⟨ret_bool (by rw [HO.out, HC.out]; rfl), hW.trans (hb1.mono HWs.out)⟩

end Go.Proofs.YtaedlhjjfmmpdaaDoor
