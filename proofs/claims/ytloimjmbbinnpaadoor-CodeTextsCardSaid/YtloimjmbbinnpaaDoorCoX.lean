/-
  CodeTexts: the walk.
-/
import Derived.Test.YtloimjmbbinnpaaDoorCoI
namespace Go.Proofs.YtloimjmbbinnpaaDoor
open Go Go.RowKit Go.Lib

theorem InsIn.take {w : World} {b : Nat} : ∀ {l : List (Int × Int × Int)} {o : Nat} (n : Nat), InsIn w l b o → InsIn w (l.take n) b o
  | _, _, 0, _ => by rw [List.take_zero]; exact trivial
  | [], _, _ + 1, _ => trivial
  | (_, _, _) :: _, _, n + 1, ⟨h0, h1, h2, h3, h4⟩ => ⟨h0, h1, h2, h3, h4.take n⟩
theorem InV.ok {B : Nat} {w : World} {v : Value} {l : List (Int × Int × Int)} (h : InV B w v l) : InsOk l := by
  obtain ⟨A, cap, _, _, _, h3⟩ := h
  cases l with
  | nil => exact fun x hx => by cases hx
  | cons y r =>
    obtain ⟨b, o, _, _, hi⟩ := h3 (by simp)
    exact hi.ok

set_option maxHeartbeats 8000000 in
set_option maxRecDepth 100000 in
theorem texts_walk (l : List (Int × Int × Int)) (n N : Nat) (lo : Nat) (w : World) (A : Option Addr) (cap : Nat) (ht : CT lo w) (hn : l.length = n) (hN : N = min n 100) (hv : InV w.heap.size w (.slice A n cap) l) :
    Calls Tryd.prog 4 #[.slice A n cap] w fun e w' => e = .returned (.bool true) ∧ Below w.heap.size w w' := by
  have hok0 := hv.ok
  obtain ⟨A1, cap1, e1, hc1, hc2, hrow0⟩ := hv
  injection e1 with e2 e3 e4
  subst e2 e4
  clear e3
  rw [hn] at hc1 hrow0
  obtain ⟨L, hL⟩ : ∃ L, l.take N = L := ⟨_, rfl⟩
  have hLn : L.length = N := by rw [← hL, List.length_take]; omega
  have hok : InsOk L := fun x hx => hok0 x (List.mem_of_mem_take (by rw [hL]; exact hx))
  have hrow : 0 < L.length → ∃ b o, A = some ⟨b, o, none⟩ ∧ b < w.heap.size ∧ InsIn w L b o := fun h => by
    obtain ⟨b, o, e, h1, h2⟩ := hrow0 (by omega)
    exact ⟨b, o, e, h1, by rw [← hL]; exact h2.take N⟩
  have hN1 : N ≤ 100 := by omega
  have hN2 : N ≤ n := by omega
  have hNc : N ≤ cap := by omega
  have HN := Lib.hid hN
  have htl := textT_len L 0 hok (by omega) (by omega)
  have A0 := shown_any lo w ht
  clear hrow0 hok0 hL hn hN
  go_enter Tryd.func4, Tryd.ntmps4
  go_upto_region 2 with (go_at_call 7; ((with_reducible refine A0.mono ?_); clear A0; rintro e w1 ⟨rfl, h1⟩))
  go_cut [0] (fun s wx => s = .slice A N cap ∧ wx = w1)
  case first =>
    go_wp2_with fail
    all_goals (go_meet; exact ⟨by have := HN.out; congr 1; omega, rfl⟩)
  case rest =>
    obtain ⟨rfl, rfl⟩ := hcut
    go_wp2
    go_loopw [4, 5] (fun v i wr => ∃ (j : Nat) (r : List (Int × Int × Int)) (x : List UInt8), v = .string ⟨x.toArray⟩ ∧ i = .int .i64 j ∧ j + r.length = N ∧ InsOk r ∧ x ++ textT j r = textT 0 L ∧
        (0 < r.length → ∃ bo o, A = some ⟨bo, o, none⟩ ∧ bo < w.heap.size ∧ InsIn w r bo (o + j * 3)) ∧ Below w.heap.size w wr) (fun _ i _ => N - (RowKit.intOf i).toNat)
    case atStart => exact ⟨0, L, [], rfl, rfl, by omega, hok, rfl, by simpa using hrow, h1⟩
    case round =>
      obtain ⟨j, r, x, rfl, rfl, hj, hr, hx, hrow', hw⟩ := hrel
      have hxl := congrArg List.length hx
      rw [List.length_append] at hxl
      cases r with
      | nil =>
        have hj0 : j = N := by simpa using hj
        subst hj0
        have hx0 : textT 0 L = x := by
          rw [← hx]
          simp only [textT, List.append_nil]
        have hq := text_any L lo wr A cap (ht.step hw) ⟨A, cap, rfl, by omega, hc2, fun h0 => by
          obtain ⟨b, o, e, hb, hi⟩ := hrow h0
          exact ⟨b, o, e, Nat.lt_of_lt_of_le hb hw.size, hi.below hw hb⟩⟩ hok (by omega)
        rw [hLn, hx0] at hq
        have q1 : (x == x) = true := beq_iff_eq.2 rfl
        clear hxl
        go_wp2_with (go_at_call 16; ((with_reducible refine hq.mono ?_); clear hq; rintro e w3 ⟨rfl, h3⟩))
        go_ret
        exact ⟨rfl, hw.trans (h3.mono hw.size)⟩
      | cons y r1 =>
        obtain ⟨op, a, m⟩ := y
        obtain ⟨bo, o, rfl, hbo, c0, c1, c2, ⟨i0, i1, i2⟩, hrr⟩ := hrow' (by simp)
        have hlt : j < N := by simp at hj; omega
        have d0 := (hw.cell (p := ⟨bo, o + j * 3, none⟩) hbo).trans c0
        have d1 := (hw.cell (p := ⟨bo, o + j * 3 + 1, none⟩) hbo).trans c1
        have d2 := (hw.cell (p := ⟨bo, o + j * 3 + 2, none⟩) hbo).trans c2
        have hboz : bo < wr.heap.size := Nat.lt_of_lt_of_le hbo hw.size
        clear c0 c1 c2 hrow'
        have HJ := hid hj; clear hj
        have HR := hid hrow; clear hrow
        have hsz : o + (j + 1) * 3 = o + j * 3 + 3 := by omega
        have hij : I64 (j : Int) := ⟨by omega, by omega⟩
        have hll := lineT_len (op := op) hij i1 i2
        simp only [textT, List.length_append] at hx hxl
        have hxb : x.length ≤ 8000 := by omega
        obtain ⟨Z, hZ⟩ : ∃ Z, lineT (j : Int) op a m = Z := ⟨_, rfl⟩
        rw [hZ] at hll hx hxl
        have hsx : (⟨x.toArray⟩ : ByteArray).size = x.length := rfl
        have hsZ : (⟨Z.toArray⟩ : ByteArray).size = Z.length := rfl
        have x1 : ¬ 9223372036854775807 < x.length + Z.length := by omega
        have D1 := fun wx (h : (fun W => W.cell? ⟨bo, o + j * 3, none⟩ = some (.int .i64 op) ∧ W.cell? ⟨bo, o + j * 3 + 1, none⟩ = some (.int .i64 a) ∧ W.cell? ⟨bo, o + j * 3 + 2, none⟩ = some (.int .i64 m) ∧ Below wr.heap.size wr W) wx) => (line_any (j : Int) op a m wx hij i1 i2).mono fun e w' hw => (show e = .returned (.string ⟨Z.toArray⟩) ∧ (fun W => W.cell? ⟨bo, o + j * 3, none⟩ = some (.int .i64 op) ∧ W.cell? ⟨bo, o + j * 3 + 1, none⟩ = some (.int .i64 a) ∧ W.cell? ⟨bo, o + j * 3 + 2, none⟩ = some (.int .i64 m) ∧ Below wr.heap.size wr W) w' from ⟨by rw [hw.1, hZ], by
          have hq := h.2.2.2.trans (hw.2.mono h.2.2.2.size)
          exact ⟨(hq.cell (p := ⟨bo, o + j * 3, none⟩) hboz).trans d0, (hq.cell (p := ⟨bo, o + j * 3 + 1, none⟩) hboz).trans d1, (hq.cell (p := ⟨bo, o + j * 3 + 2, none⟩) hboz).trans d2, hq⟩⟩)
        have E1 := Lib.hid D1
        have y0 : wr.drew.cell? ⟨bo, o + j * 3, none⟩ = some (.int .i64 op) := d0
        have y1 : wr.drew.cell? ⟨bo, o + j * 3 + 1, none⟩ = some (.int .i64 a) := d1
        have y2 : wr.drew.cell? ⟨bo, o + j * 3 + 2, none⟩ = some (.int .i64 m) := d2
        have y3 : Below wr.heap.size wr wr.drew := (Below.refl _ wr).drew
        clear D1 hxl htl
        go_upto_region 7 with fail
        go_region_held3 (fun W => W.cell? ⟨bo, o + j * 3, none⟩ = some (.int .i64 op) ∧ W.cell? ⟨bo, o + j * 3 + 1, none⟩ = some (.int .i64 a) ∧ W.cell? ⟨bo, o + j * 3 + 2, none⟩ = some (.int .i64 m) ∧ Below wr.heap.size wr W)
          (first | exact ⟨y0, y1, y2, y3⟩ | go_keep)
          (first
            | (go_at_call 15; refine (E1.out _ ⟨y0, y1, y2, y3⟩).mono ?_; rintro e w3 ⟨rfl, y0, y1, y2, y3⟩))
        go_wp2
        go_roundw
        · exact ⟨j + 1, r1, x ++ Z, by rw [add_lists], by go_num, by have := HJ.out; simp at this; omega, fun y hy => hr y (List.mem_cons_of_mem _ hy), by
            rw [← hx]
            simp [List.append_assoc], fun _ => ⟨bo, o, rfl, hbo, by rw [hsz]; exact hrr⟩, hw.trans (y3.mono hw.size)⟩
        · simp [RowKit.intOf]; omega
end Go.Proofs.YtloimjmbbinnpaaDoor
