/-
  land; Slot; variable, array, list.
-/
import Derived.Test.YtnilklgnpfgieaaDoorCpA
namespace Go.Proofs.YtnilklgnpfgieaaDoor
open Go Go.RowKit Go.Lib

set_option maxRecDepth 100000 in
set_option maxHeartbeats 4000000 in
theorem land_w {n N O : Nat} {w0 w : World} {s : Sp} {vv va : Value} {M : Nat} {L : List In3} (i : Nat) (z : Int) (hz : (i : Int) = z) (op a m : Int) (h : WI n N O w0 s vv va M L w) (hat : L[i]? = some (op, a, m)) (hl : L.length ≤ 100000000) :
    Calls Tryd.prog 71 #[.pointer (some ⟨O, 0, none⟩), .int .i64 z] w fun e w' => e = .returned (.tuple #[]) ∧ WI n N O w0 s vv va M (L.set i (op, L.length, m)) w' ∧ Kw O w w' := by
  subst hz
  obtain ⟨vl, hbx, hown⟩ := h.row
  have hi : i < L.length := (List.getElem?_eq_some_iff.1 hat).1
  have hv := insV_at L i op a m hat
  have hset := insV_set L i op a m L.length hat
  obtain ⟨len, hlen⟩ : ∃ len, L.length = len := ⟨_, rfl⟩
  rw [hlen] at hl hown hi hset ⊢
  obtain ⟨X, c, rfl⟩ := own_form hown
  obtain ⟨g, cur, rfl, hg1, hg2, hg3, hg4, hg5⟩ := own_blk hown (by omega)
  have d1 : w.drew.cell? ⟨g, i * 3 + 1, none⟩ = some (.int .i64 a) := hg5 _ _ hv.2.1
  have f1 : w.drew.frozen? ⟨g, i * 3 + 1, none⟩ = false := hown.frozenAt _
  have y5 : w.drew.cell? ⟨O, 5, none⟩ = some (.slice (some ⟨g, 0, none⟩) len c) := (blk_cell hbx 5).trans rfl
  have lg : g < w.drew.heap.size := blk_lt hg2
  have H := Lib.hid h
  have HX := Lib.hid hbx
  have HO := Lib.hid hown
  have HS := Lib.hid hset
  have HL := Lib.hid hlen
  have HG2 := Lib.hid hg2
  have hsO := h.hO
  have hsN := h.hN
  clear h hbx hown hset hlen hat hv hg5 hg2
  go_enter Tryd.func71, Tryd.ntmps71
  go_upto_region 0 with fail
  go_still_tail 12, (by kernel_rfl)
  change wpList _ _ _ _ _ w.drew
  go_wp2
  go_end0
  have hne : O ≠ g := by omega
  have hd : Below w.heap.size w w.drew := belowD (Below.refl _ _)
  have hst := (own_drew HO.out).stored (i * 3 + 1) (.int .i64 len)
  rw [HS.out] at hst
  have hb := hst.2
  refine ⟨rfl, ⟨?_, H.out.n0, hsO, hsN, ?_, _, blk_grown (blk_drew HX.out) hb (fun e => hne (Option.some.inj e)), by rw [List.length_set, HL.out]; exact hst.1⟩, ?_, ?_⟩
  · exact (belowD H.out.base).setCell (p := ⟨g, i * 3 + 1, none⟩) (by simp only; omega) _
  · show N ≤ (w.setCell ⟨g, i * 3 + 1, none⟩ (.int .i64 len)).heap.size
    rw [World.size_setCell]; exact H.out.sz
  · show w.heap.size ≤ (w.setCell ⟨g, i * 3 + 1, none⟩ (.int .i64 len)).heap.size
    rw [World.size_setCell]; exact Nat.le_refl _
  · intro k cs t ht _ hk
    refine blk_grown (blk_drew hk) hb (fun e => ?_)
    injection e with e
    rw [e, HG2.out] at hk
    injection hk with hk
    injection hk with _ hk
    exact ht hk.symm

/-- The place of a name in a list, or -1. -/
def slotP (l : List ByteArray) (s : ByteArray) : Int := if s ∈ l then ((l.findIdx fun x => decide (x = s) : Nat) : Int) else -1
def slotN : List ByteArray → ByteArray → Nat → Int
  | [], _, _ => -1
  | x :: r, s, k => if s = x then (k : Int) else slotN r s (k + 1)
theorem slotN_eq (s : ByteArray) : ∀ (l : List ByteArray) (k : Nat), slotN l s k = if s ∈ l then ((k + l.findIdx (fun x => decide (x = s)) : Nat) : Int) else -1
  | [], k => by simp [slotN]
  | x :: r, k => by
    unfold slotN
    by_cases h : s = x
    · subst h; simp [List.findIdx_cons]
    · rw [if_neg h, slotN_eq s r (k + 1), List.findIdx_cons]
      simp only [List.mem_cons, h, false_or, Ne.symm h, decide_false, cond_false]
      split <;> simp <;> omega
theorem slotP_eq (l : List ByteArray) (s : ByteArray) : slotP l s = slotN l s 0 := by rw [slotN_eq]; unfold slotP; simp

set_option maxRecDepth 100000 in
set_option maxHeartbeats 1000000 in
theorem index_any (B : Nat) (v : Value) (l : List ByteArray) (s : ByteArray) (w0 w : World) (hb : Below B w0 w) (hv : RowV (PsIn w0 l) B l.length v) :
    Calls Tryd.prog 84 #[v, .string s] w fun e w' => e = .returned (.int .i64 (slotP l s)) ∧ w = w' := by
  rw [slotP_eq]
  obtain ⟨A, cap, rfl, hc1, hc2, hrow⟩ := hv
  obtain ⟨len, hlen⟩ : ∃ len, l.length = len := ⟨_, rfl⟩
  rw [hlen] at hc1 hrow ⊢
  have HL := Lib.hid hlen; clear hlen
  have HB := Lib.hid hb; clear hb
  go_enter Tryd.func84, Tryd.ntmps84
  go_wp2
  go_loop [8] (fun i => ∃ (k : Nat) (r : List ByteArray), i = .int .i64 k ∧ k + r.length = len ∧ slotN l s 0 = slotN r s k ∧ (0 < r.length → ∃ b o, A = some ⟨b, o, none⟩ ∧ b < B ∧ PsIn w0 r b (o + k))) (fun i => len - (intOf i).toNat)
  case atStart => exact ⟨0, l, rfl, by have := HL.out; omega, rfl, by simpa [HL.out] using hrow⟩
  case round =>
    obtain ⟨k, r, rfl, hk, ho, hr1⟩ := hrel
    have HO := Lib.hid ho; clear ho
    cases r with
    | nil =>
      have hk0 : k = len := by simpa using hk
      subst hk0
      clear hk hr1 hrow
      go_wp2
      go_ret
      exact ⟨by rw [HO.out]; rfl, rfl⟩
    | cons x r =>
      have hlt : k < len := by simp at hk; omega
      obtain ⟨b, o, rfl, hb, c0, hxs, hr⟩ := hr1 (by simp)
      clear hr1 hrow
      have d0 := (HB.out.cell (p := ⟨b, o + k, none⟩) hb).trans c0
      have HK := Lib.hid hk
      clear hk c0
      by_cases h : s = x
      · subst h
        go_wp2
        go_ret
        exact ⟨by rw [HO.out]; unfold slotN; rw [if_pos rfl]; rfl, rfl⟩
      · have h1 : (s.toList == x.toList) = false := by
          rw [ByteArray.toList_eq, ByteArray.toList_eq]
          simpa using fun e => h (bs_eq e)
        have H := Lib.hid h
        clear h
        go_wp2
        go_round
        case rel => exact ⟨k + 1, r, by go_num, by have := HK.out; simp at this; omega, by rw [HO.out]; conv => lhs; unfold slotN; rw [if_neg H.out], fun _ => ⟨b, o, rfl, hb, by rw [show o + (k + 1) = o + k + 1 by omega]; exact hr⟩⟩
        case measure => simp [intOf]; omega
set_option maxHeartbeats 1000000 in
theorem slot_any (B : Nat) (v : Value) (l : List ByteArray) (s : ByteArray) (w0 w : World) (hb : Below B w0 w) (hv : RowV (PsIn w0 l) B l.length v) :
    Calls Tryd.prog 80 #[v, .string s] w fun e w' => e = .returned (.int .i64 (slotP l s)) ∧ w = w' := by
  have HI := Lib.hid (index_any B v l s w0 w hb hv)
  obtain ⟨A, cap, rfl, _⟩ := hv
  go_enter Tryd.func80, Tryd.ntmps80
  go_wp2_with (go_at_call 84; ((with_reducible refine HI.out.mono ?_); rintro e w1 ⟨rfl, rfl⟩))
  go_ret
  exact ⟨rfl, rfl⟩
set_option maxHeartbeats 1000000 in
theorem wvar_any {n N O : Nat} {w0 w : World} {s : Sp} {vv va : Value} {M : Nat} {L : List In3} (x : ByteArray) (h : WI n N O w0 s vv va M L w) (hv : RowV (PsIn w0 s.vs) n s.vs.length vv) :
    Calls Tryd.prog 72 #[.pointer (some ⟨O, 0, none⟩), .string x] w fun e w' => e = .returned (.int .i64 (slotP s.vs x)) ∧ w = w' := by
  obtain ⟨vl, hbx, _⟩ := h.row
  have HI := Lib.hid (slot_any n vv s.vs x w0 w h.base hv)
  have y2 : w.cell? ⟨O, 2, none⟩ = some vv := (blk_cell hbx 2).trans rfl
  obtain ⟨A, cap, rfl, _⟩ := hv
  clear hbx h
  go_enter Tryd.func72, Tryd.ntmps72
  go_wp2_with (go_at_call 80; ((with_reducible refine HI.out.mono ?_); rintro e w1 ⟨rfl, rfl⟩))
  go_ret
  exact ⟨rfl, rfl⟩
set_option maxHeartbeats 1000000 in
theorem warr_any {n N O : Nat} {w0 w : World} {s : Sp} {vv va : Value} {M : Nat} {L : List In3} (x : ByteArray) (h : WI n N O w0 s vv va M L w) (hv : RowV (PsIn w0 s.xs) n s.xs.length va) :
    Calls Tryd.prog 73 #[.pointer (some ⟨O, 0, none⟩), .string x] w fun e w' => e = .returned (.int .i64 (slotP s.xs x)) ∧ w = w' := by
  obtain ⟨vl, hbx, _⟩ := h.row
  have HI := Lib.hid (slot_any n va s.xs x w0 w h.base hv)
  have y2 : w.cell? ⟨O, 3, none⟩ = some va := (blk_cell hbx 3).trans rfl
  obtain ⟨A, cap, rfl, _⟩ := hv
  clear hbx h
  go_enter Tryd.func73, Tryd.ntmps73
  go_wp2_with (go_at_call 80; ((with_reducible refine HI.out.mono ?_); rintro e w1 ⟨rfl, rfl⟩))
  go_ret
  exact ⟨rfl, rfl⟩
end Go.Proofs.YtnilklgnpfgieaaDoor
