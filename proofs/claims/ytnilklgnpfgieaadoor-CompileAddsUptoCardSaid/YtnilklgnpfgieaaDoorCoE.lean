/-
  code.Text, at every row of instructions that is not too long.
-/
import Derived.Test.YtnilklgnpfgieaaDoorCoD
namespace Go.Proofs.YtnilklgnpfgieaaDoor
open Go Go.RowKit Go.Lib

/-- The instructions lie in w, one behind the other. -/
def InsIn (w : World) : List (Int × Int × Int) → Nat → Nat → Prop
  | [], _, _ => True
  | (op, a, n) :: r, b, o => w.cell? ⟨b, o, none⟩ = some (.int .i64 op) ∧ w.cell? ⟨b, o + 1, none⟩ = some (.int .i64 a) ∧ w.cell? ⟨b, o + 2, none⟩ = some (.int .i64 n) ∧ (I64 op ∧ I64 a ∧ I64 n) ∧ InsIn w r b (o + 3)
/-- A slice of instructions, in a block below B. -/
def InV (B : Nat) (w : World) (v : Value) (l : List (Int × Int × Int)) : Prop :=
  ∃ A cap, v = .slice A l.length cap ∧ l.length ≤ cap ∧ cap ≤ 9223372036854775807 ∧ (0 < l.length → ∃ b o, A = some ⟨b, o, none⟩ ∧ b < B ∧ InsIn w l b o)
theorem InsIn.below {B : Nat} {w w' : World} (hb : Below B w w') {b : Nat} (hB : b < B) : ∀ {l : List (Int × Int × Int)} {o : Nat}, InsIn w l b o → InsIn w' l b o
  | [], _, _ => trivial
  | (_, _, _) :: _, o, ⟨h0, h1, h2, h3, h4⟩ =>
    ⟨(hb.cell (p := ⟨b, o, none⟩) hB).trans h0, (hb.cell (p := ⟨b, o + 1, none⟩) hB).trans h1, (hb.cell (p := ⟨b, o + 2, none⟩) hB).trans h2, h3, InsIn.below hb hB h4⟩
theorem InV.below {B B' : Nat} {w w' : World} {v : Value} {l : List (Int × Int × Int)} (h : InV B w v l) (hb : Below B w w') (hB : B ≤ B') : InV B' w' v l := by
  obtain ⟨A, cap, e, h1, h2, h3⟩ := h
  refine ⟨A, cap, e, h1, h2, fun h0 => ?_⟩
  obtain ⟨b, o, e, h4, h5⟩ := h3 h0
  exact ⟨b, o, e, by omega, h5.below hb h4⟩

theorem insT_len {op a n : Int} (ha : I64 a) (hn : I64 n) : (insT op a n).length ≤ 50 := by
  have h1 := itoa_len ha
  have h2 := itoa_len hn
  have h3 := (kd_ok op).2.2.2
  unfold insT
  rw [List.length_append, List.length_append]
  split <;> split <;> simp <;> omega
theorem lineT_len {p op a n : Int} (hp : I64 p) (ha : I64 a) (hn : I64 n) : (lineT p op a n).length ≤ 80 := by
  have h1 := itoa_len hp
  have h2 := insT_len (op := op) ha hn
  unfold lineT
  simp
  omega
def InsOk (l : List (Int × Int × Int)) : Prop := ∀ x, x ∈ l → I64 x.1 ∧ I64 x.2.1 ∧ I64 x.2.2
theorem InsIn.ok {w : World} {b : Nat} : ∀ {l : List (Int × Int × Int)} {o : Nat}, InsIn w l b o → InsOk l
  | [], _, _ => fun x hx => by cases hx
  | (op, a, n) :: r, o, ⟨_, _, _, h, hr⟩ => fun x hx => by
    rcases List.mem_cons.1 hx with rfl | hx
    · exact h
    · exact hr.ok x hx
theorem textT_len : ∀ (l : List (Int × Int × Int)) (p : Int), InsOk l → 0 ≤ p → p + l.length ≤ 1000000 → (textT p l).length ≤ 80 * l.length
  | [], _, _, _, _ => Nat.zero_le _
  | (op, a, n) :: r, p, h, h0, h1 => by
    have hx := h _ List.mem_cons_self
    simp only [List.length_cons] at h1 ⊢
    have hr := textT_len r (p + 1) (fun x hx => h x (List.mem_cons_of_mem _ hx)) (by omega) (by omega)
    have hl : (lineT p op a n).length ≤ 80 := lineT_len ⟨by omega, by omega⟩ hx.2.1 hx.2.2
    unfold textT
    rw [List.length_append]
    omega

theorem WS.new (lo : Nat) (w : World) (hlo : lo ≤ w.heap.size) : WS lo (w.alloc (.cells #[.pointer none, .slice none 0 0] 60)) w.heap.size [] :=
  .inl ⟨hlo, _, heap_alloc_new w _, ⟨rfl, .inl ⟨rfl, rfl⟩⟩, fun _ => rfl⟩

theorem writeByte32 (lo b : Nat) (t : List UInt8) (w : World) (h : WS lo w b t) (hlo : lo ≤ w.heap.size) (hlen : t.length + 1 ≤ 70368744177664) :
    Calls Tryd.prog 13 #[used b, .int .u8 32] w fun e w' => e = .returned .nilIface ∧ Wrote lo b w (t ++ [32]) w' := writeByte_any lo b t 32 w h hlo hlen
theorem writeByte10 (lo b : Nat) (t : List UInt8) (w : World) (h : WS lo w b t) (hlo : lo ≤ w.heap.size) (hlen : t.length + 1 ≤ 70368744177664) :
    Calls Tryd.prog 13 #[used b, .int .u8 10] w fun e w' => e = .returned .nilIface ∧ Wrote lo b w (t ++ [10]) w' := writeByte_any lo b t 10 w h hlo hlen

set_option maxHeartbeats 4000000 in
set_option maxRecDepth 100000 in
theorem text_any (l : List (Int × Int × Int)) (lo : Nat) (W : World) (A : Option Addr) (cap : Nat) (ht : CT lo W) (hv : InV W.heap.size W (.slice A l.length cap) l) (hok : InsOk l) (hlen : l.length ≤ 100000) :
    Calls Tryd.prog 6 #[.slice A l.length cap] W fun e w' => e = .returned (.string ⟨(textT 0 l).toArray⟩) ∧ Below W.heap.size W w' := by
  have htl := textT_len l 0 hok (by omega) (by omega)
  obtain ⟨A1, cap1, e1, hc1, hc2, hrow⟩ := hv
  injection e1 with e2 e3 e4
  subst e2 e4
  clear e3
  obtain ⟨len, hl0⟩ : ∃ len, l.length = len := ⟨_, rfl⟩
  rw [hl0] at hc1 hrow hlen htl ⊢
  have HL := hid hl0; clear hl0
  have ht0 : CT W.heap.size W := ⟨Nat.le_trans ht.le ht.lw, Nat.le_refl _, ht.kin, fun w' hb => ht.tab w' (hb.mono ht.lw)⟩
  obtain ⟨w2, hw2e⟩ : ∃ w2, W.alloc (.cells #[.pointer none, .slice none 0 0] 60) = w2 := ⟨_, rfl⟩
  have hws := WS.new W.heap.size W (Nat.le_refl _)
  have hb2 : Below W.heap.size W w2 := by rw [← hw2e]; exact (Below.refl _ _).alloc (Nat.le_refl _) _
  rw [hw2e] at hws
  obtain ⟨b, hb⟩ : ∃ b, W.heap.size = b := ⟨_, rfl⟩
  rw [hb] at hws hb2 hrow ht0 ⊢
  have hlo2 : b ≤ w2.heap.size := by have := hws.lt; omega
  have hR := Wrote.refl hws
  go_enter Tryd.func6, Tryd.ntmps6
  go_wp2
  go_loopw [8] (fun i wr => ∃ (j : Nat) (r : List (Int × Int × Int)) (x : List UInt8), i = .int .i64 j ∧ j + r.length = len ∧ InsOk r ∧ x ++ textT j r = textT 0 l ∧
      (0 < r.length → ∃ bo o, A = some ⟨bo, o, none⟩ ∧ bo < b ∧ InsIn W r bo (o + j * 3)) ∧ Wrote b b w2 x wr) (fun i _ => len - (RowKit.intOf i).toNat)
  case atStart => exact ⟨0, l, [], rfl, by have := HL.out; omega, hok, rfl, by simpa [HL.out] using hrow, hR⟩
  case round =>
    obtain ⟨j, r, x, rfl, hj, hr, hx, hrow', hw⟩ := hrel
    have hlow := hw.lo hlo2
    have hbW : Below b W wr := hb2.trans hw.bl
    have hxl := congrArg List.length hx
    rw [List.length_append] at hxl
    cases r with
    | nil =>
      have hj0 : j = len := by simpa using hj
      subst hj0
      have hx0 : x = textT 0 l := by
        rw [← hx]
        simp only [textT, List.append_nil]
      have hq := string_any b b x wr hw.ws
      go_wp2_with (go_at_call 15; ((with_reducible refine hq.mono ?_); clear hq; rintro e w3 ⟨rfl, h3⟩))
      go_ret
      exact ⟨by rw [← hx0]; rfl, hbW.trans h3⟩
    | cons y r1 =>
      obtain ⟨op, a, n⟩ := y
      obtain ⟨bo, o, rfl, hbo, c0, c1, c2, ⟨i0, i1, i2⟩, hrr⟩ := hrow' (by simp)
      clear hrow hrow'
      have hlt : j < len := by simp at hj; omega
      have d0 := (hbW.cell (p := ⟨bo, o + j * 3, none⟩) hbo).trans c0
      have d1 := (hbW.cell (p := ⟨bo, o + j * 3 + 1, none⟩) hbo).trans c1
      have d2 := (hbW.cell (p := ⟨bo, o + j * 3 + 2, none⟩) hbo).trans c2
      have hboz : bo < wr.heap.size := Nat.lt_of_lt_of_le hbo hlow
      clear c0 c1 c2
      have HJ := hid hj; clear hj
      have hsz : o + (j + 1) * 3 = o + j * 3 + 3 := by omega
      obtain ⟨C, hC⟩ : ∃ C : Obj, Obj.cells #[.int .i64 op, .int .i64 a, .int .i64 n] 43 = C := ⟨_, rfl⟩
      have hb3 : Below wr.heap.size wr (wr.alloc C) := (Below.refl _ _).alloc (Nat.le_refl _) C
      have hg3 : (wr.alloc C).heap[wr.heap.size]? = some (.cells #[.int .i64 op, .int .i64 a, .int .i64 n] 43 (0, 0)) := by rw [hC]; exact heap_alloc_new wr _
      have hbg : wr.heap.size ≠ b := by have := hw.ws.lt; omega
      have hw3 := hw.below hb3 hlow
      have hlow3 := hw3.lo hlo2
      have ht3 : CT b (wr.alloc C) := (ht0.on hb2).on hw3.bl
      have hij : I64 (j : Int) := ⟨by omega, by omega⟩
      have hil := itoa_len hij
      have hnl := insT_len (op := op) i1 i2
      simp only [textT, List.length_append] at hx hxl
      have hxb : x.length ≤ 8000000 := by omega
      clear hxl htl
      have hq := itoa_any b (j : Int) (wr.alloc C) ht3 hij
      have HS : Hid (∀ w4, Below (wr.alloc C).heap.size (wr.alloc C) w4 → Calls Tryd.prog 11 #[used b, .string ⟨(itoa (j : Int)).toArray⟩] w4 fun e w' => e = .returned (.tuple #[.int .i64 (⟨(itoa (j : Int)).toArray⟩ : ByteArray).size, .nilIface]) ∧ Wrote b b w4 (x ++ itoa (j : Int)) w') :=
        hid fun w4 h => write_any b b x ⟨(itoa (j : Int)).toArray⟩ w4 (hw3.ws.below h) (Nat.le_trans hlow3 h.size) (by simp [ByteArray.size]; omega)
      subst hC
      go_upto_region 6 with (first
        | (go_at_call 12; ((with_reducible refine hq.mono ?_); clear hq; rintro e w4 ⟨rfl, h4⟩))
        | (go_at_call 11; ((with_reducible refine (HS.out _ h4).mono ?_); clear HS; rintro e w5 ⟨rfl, h5⟩)))
      have hw4 := hw3.below h4 hlow3
      have hg4 := (h4.block wr.heap.size (Array.getElem?_eq_some_iff.1 hg3).1).trans hg3
      have hw5 := hw4.trans h5
      have hg5 := kept_row h5.ok hg4 hbg
      have hq := writeByte32 b b _ w5 hw5.ws (hw5.lo hlo2) (by simp only [List.length_append]; omega)
      clear d0 d1 d2
      go_upto_region 7 with (go_at_call 13; ((with_reducible refine hq.mono ?_); clear hq; rintro e w6 ⟨rfl, h6⟩))
      have hw6 := hw5.trans h6
      have hg6 := kept_row h6.ok hg5 hbg
      have e0 : w6.cell? ⟨wr.heap.size, 0, none⟩ = some (.int .i64 op) := by rw [cell_of_heap hg6]; rfl
      have e1 : w6.cell? ⟨wr.heap.size, 1, none⟩ = some (.int .i64 a) := by rw [cell_of_heap hg6]; rfl
      have e2 : w6.cell? ⟨wr.heap.size, 2, none⟩ = some (.int .i64 n) := by rw [cell_of_heap hg6]; rfl
      have hq := writeIns_any b b _ op a n w6 ((ht0.on hb2).on hw6.bl) hw6.ws i1 i2 (by simp only [List.length_append, List.length_cons, List.length_nil]; omega)
      go_upto_region 8 with (go_at_call 14; ((with_reducible refine hq.mono ?_); clear hq; rintro e w7 ⟨rfl, h7⟩))
      have hw7 := hw6.trans h7
      clear e0 e1 e2
      have hq := writeByte10 b b _ w7 hw7.ws (hw7.lo hlo2) (by simp only [List.length_append, List.length_cons, List.length_nil]; omega)
      go_wp2_with (go_at_call 13; ((with_reducible refine hq.mono ?_); clear hq; rintro e w8 ⟨rfl, h8⟩))
      have hw8 := hw7.trans h8
      go_roundw
      · exact ⟨j + 1, r1, _, by go_num, by have := HJ.out; simp at this; omega, fun y hy => hr y (List.mem_cons_of_mem _ hy), by
          rw [← hx]
          simp [lineT, List.append_assoc], fun _ => ⟨bo, o, rfl, hbo, by rw [hsz]; exact hrr⟩, hw8⟩
      · simp [RowKit.intOf]; omega
end Go.Proofs.YtnilklgnpfgieaaDoor
