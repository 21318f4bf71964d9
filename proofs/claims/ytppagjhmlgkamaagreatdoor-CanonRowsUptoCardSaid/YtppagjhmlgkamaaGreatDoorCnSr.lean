/-
  tell, set; statements, block, choice, of what `statement` does.
-/
import Derived.Test.YtppagjhmlgkamaaGreatDoorCz5
import Derived.Test.YtppagjhmlgkamaaGreatDoorCnEr
namespace Go.Proofs.YtppagjhmlgkamaaGreatDoor
open Go Go.RowKit Go.Lib

set_option maxHeartbeats 2000000 in
set_option maxRecDepth 100000 in
theorem cn_tell_any (op n : Int) (s : ByteArray) (l : ES) (hE : EXok op n s l) (a : ByteArray) (lo b : Nat) (t : List UInt8) (k : Int) (W : World) (A : Option Addr) (cap : Nat) (ht : CT lo W) (h : WS lo W b t k) (hlo : lo ≤ W.heap.size) (hv : EV lo W (.slice A l.len cap) l)
    (h4 : I64 op ∧ I64 n ∧ s.size ≤ 9223372036854775807) (hlen : t.length + (a.data.toList ++ exX op n s.data.toList l.txs ++ [59]).length ≤ 70368744177664) :
    Calls Tryz.prog 77 #[used b, .string a, exV op n s (.slice A l.len cap)] W fun e w' => e = .returned (.tuple #[]) ∧ Wrote lo b W (t ++ (a.data.toList ++ exX op n s.data.toList l.txs ++ [59])) k w' := by
  simp only [List.length_append, List.length_cons, List.length_nil] at hlen
  obtain ⟨C, hC⟩ : ∃ C : Obj, Obj.cells #[.int .i64 op, .int .i64 n, .string s, .slice A l.len cap] 38 = C := ⟨_, rfl⟩
  have hb2 : Below W.heap.size W (W.alloc C) := (Below.refl _ _).alloc (Nat.le_refl _) C
  have hg2 : (W.alloc C).heap[W.heap.size]? = some (.cells #[.int .i64 op, .int .i64 n, .string s, .slice A l.len cap] 38 (0, 0)) := by rw [hC]; exact heap_alloc_new W _
  have hbg : W.heap.size ≠ b := by have := h.lt; omega
  have hw2 : Wrote lo b W t k (W.alloc C) := (Wrote.refl h).below hb2 hlo
  have hlow2 := hw2.lo hlo
  have ha := add_one lo b _ k a (W.alloc C) hw2.ws hlow2 (by omega)
  simp only [World.size_alloc] at ha
  have HS : Hid (∀ w2, Wrote lo b W (t ++ a.data.toList) k w2 → Calls Tryz.prog 36 #[used b, exV op n s (.slice A l.len cap)] w2 fun e w' => e = .returned (.tuple #[]) ∧ Wrote lo b w2 (t ++ a.data.toList ++ exX op n s.data.toList l.txs) k w') :=
    hid fun w2 hw => hE lo b _ k w2 _ (ht.on hw.bl) hw.ws (hw.lo hlo) (EV.below hv hw.bl (Nat.le_refl _)) h4 (by simp only [List.length_append]; omega)
  have HZ : Hid (∀ w2, Wrote lo b W (t ++ a.data.toList ++ exX op n s.data.toList l.txs) k w2 → Calls Tryz.prog 42 #[used b, .slice (some ⟨w2.heap.size, 0, none⟩) 1 1] (w2.alloc (.cells #[.string ⟨#[59]⟩] 9)) fun e w' => e = .returned (.tuple #[]) ∧ Wrote lo b w2 (t ++ a.data.toList ++ exX op n s.data.toList l.txs ++ [59]) k w') :=
    hid fun w2 hw => add_one lo b _ k ⟨#[59]⟩ w2 hw.ws (hw.lo hlo) (by simp only [List.length_append, List.length_cons, List.length_nil]; omega)
  subst hC
  go_enter Tryz.func77, Tryz.ntmps77
  go_upto_region 2 with (go_at_call 42; ((with_reducible refine ha.mono ?_); clear ha; rintro e w2 ⟨rfl, h2⟩))
  obtain ⟨e0, e1, e2, e3⟩ := kept4 h2.ok hg2 hbg
  have hw3 := hw2.trans h2
  have hq := HS.out _ hw3
  go_upto_region 3 with (go_at_call 36; ((with_reducible refine hq.mono ?_); clear hq; rintro e w3 ⟨rfl, h3⟩))
  have hw4 := hw3.trans h3
  have hz := HZ.out _ hw4
  go_wp2_with (go_at_call 42; ((with_reducible refine hz.mono ?_); rintro e w4 ⟨rfl, h4q⟩))
  go_end0
  exact ⟨rfl, by have := hw4.trans h4q; simp only [List.append_assoc] at this ⊢; exact this⟩

set_option maxHeartbeats 2000000 in
set_option maxRecDepth 100000 in
theorem set_any (op n : Int) (s : ByteArray) (l : ES) (hE : EXok op n s l) (lo b : Nat) (t : List UInt8) (k : Int) (W : World) (A : Option Addr) (cap : Nat) (ht : CT lo W) (h : WS lo W b t k) (hlo : lo ≤ W.heap.size) (hv : EV lo W (.slice A l.len cap) l)
    (h4 : I64 op ∧ I64 n ∧ s.size ≤ 9223372036854775807) (hlen : t.length + ([32, 61, 32] ++ exX op n s.data.toList l.txs ++ [59]).length ≤ 70368744177664) :
    Calls Tryz.prog 76 #[used b, exV op n s (.slice A l.len cap)] W fun e w' => e = .returned (.tuple #[]) ∧ Wrote lo b W (t ++ ([32, 61, 32] ++ exX op n s.data.toList l.txs ++ [59])) k w' := by
  obtain ⟨C, hC⟩ : ∃ C : Obj, Obj.cells #[.int .i64 op, .int .i64 n, .string s, .slice A l.len cap] 38 = C := ⟨_, rfl⟩
  have hb2 : Below W.heap.size W (W.alloc C) := (Below.refl _ _).alloc (Nat.le_refl _) C
  have hw2 : Wrote lo b W t k (W.alloc C) := (Wrote.refl h).below hb2 hlo
  have hq := cn_tell_any op n s l hE ⟨#[32, 61, 32]⟩ lo b t k (W.alloc C) A cap (ht.on hw2.bl) hw2.ws (hw2.lo hlo) (EV.below hv hw2.bl (Nat.le_refl _)) h4 hlen
  subst hC
  go_enter Tryz.func76, Tryz.ntmps76
  go_wp2_with (go_at_call 77; ((with_reducible refine hq.mono ?_); rintro e w4 ⟨rfl, h4q⟩))
  go_end0
  exact ⟨rfl, hw2.trans h4q⟩

/-- A statement's value. -/
abbrev stV (op : Int) (s : ByteArray) (n : Int) (vl vx vy : Value) : Value := .agg #[.int .i64 op, .string s, .int .i64 n, vl, vx, vy]
/-- What `statement` does, at one statement. -/
def STok (op : Int) (s : ByteArray) (n : Int) (l : ES) (x y : SS) : Prop :=
  ∀ (lo b : Nat) (t : List UInt8) (k : Nat) (W : World) (vl vx vy : Value), CT lo W → WS lo W b t k → lo ≤ W.heap.size → EV lo W vl l → SV lo W vx x → SV lo W vy y → (I64 op ∧ I64 n ∧ s.size ≤ 9223372036854775807) → k ≤ 70368744177664 →
    t.length + (stX k op s.data.toList n l.txs (x.txt (k + 1)) (y.txt (k + 1)) (decide (0 < y.len))).length ≤ 70368744177664 →
    Calls Tryz.prog 46 #[used b, stV op s n vl vx vy] W fun e w' => e = .returned (.tuple #[]) ∧ Wrote lo b W (t ++ stX k op s.data.toList n l.txs (x.txt (k + 1)) (y.txt (k + 1)) (decide (0 < y.len))) k w'
def SS.stok : SS → Prop
  | .nil => True
  | .cons op s n l x y r => STok op s n l x y ∧ r.stok

theorem kept6 {w w' : World} {e T : TypeId} {b g : Nat} {x0 x1 x2 x3 x4 x5 : Value} {fr : Nat × Nat} (h : OthersKept e (some b) w w') (hg : w.heap[g]? = some (.cells #[x0, x1, x2, x3, x4, x5] T fr)) (hb : g ≠ b) (hT : T ≠ e := by decide) :
    w'.cell? ⟨g, 0, none⟩ = some x0 ∧ w'.cell? ⟨g, 1, none⟩ = some x1 ∧ w'.cell? ⟨g, 2, none⟩ = some x2 ∧ w'.cell? ⟨g, 3, none⟩ = some x3 ∧ w'.cell? ⟨g, 4, none⟩ = some x4 ∧ w'.cell? ⟨g, 5, none⟩ = some x5 :=
  have hb' : some g ≠ some b := fun e => hb (by injection e)
  ⟨kept_cell (o := 0) h hg hb' hT, kept_cell (o := 1) h hg hb' hT, kept_cell (o := 2) h hg hb' hT, kept_cell (o := 3) h hg hb' hT, kept_cell (o := 4) h hg hb' hT, kept_cell (o := 5) h hg hb' hT⟩

set_option maxHeartbeats 4000000 in
set_option maxRecDepth 100000 in
theorem statements_any (l : SS) (hok : l.stok) (lo b : Nat) (t : List UInt8) (k : Nat) (W : World) (A : Option Addr) (cap : Nat) (ht : CT lo W) (h : WS lo W b t k) (hlo : lo ≤ W.heap.size) (hv : SV lo W (.slice A l.len cap) l) (hk : k ≤ 70368744177664)
    (hlen : t.length + (l.txt k).length ≤ 70368744177664) :
    Calls Tryz.prog 21 #[used b, .slice A l.len cap] W fun e w' => e = .returned (.tuple #[]) ∧ Wrote lo b W (t ++ l.txt k) k w' := by
  obtain ⟨A1, cap1, e1, hc1, hc2, hrow⟩ := hv
  injection e1 with e2 e3 e4
  subst e2 e4
  clear e3
  obtain ⟨len, hl0⟩ : ∃ len, l.len = len := ⟨_, rfl⟩
  rw [hl0] at hc1 hrow ⊢
  have HL := hid hl0; clear hl0
  go_enter Tryz.func21, Tryz.ntmps21
  go_wp2
  go_loopw [8] (fun i wr => ∃ (j : Nat) (r : SS) (x : List UInt8), i = .int .i64 j ∧ j + r.len = len ∧ r.stok ∧ x ++ r.txt k = l.txt k ∧
      (0 < r.len → ∃ bo o, A = some ⟨bo, o, none⟩ ∧ bo < lo ∧ r.In lo W bo (o + j * 6)) ∧ Wrote lo b W (t ++ x) k wr) (fun i _ => len - (RowKit.intOf i).toNat)
  case atStart => exact ⟨0, l, [], rfl, by have := HL.out; omega, hok, rfl, by simpa [HL.out] using hrow, by rw [List.append_nil]; exact Wrote.refl h⟩
  case round =>
    obtain ⟨j, r, x, rfl, hj, hr, hx, hrow', hw⟩ := hrel
    have hlow := hw.lo hlo
    have hxl := congrArg List.length hx
    rw [List.length_append] at hxl
    cases r with
    | nil =>
      have hj0 : j = len := by simpa [SS.len] using hj
      subst hj0
      have hx0 : x = l.txt k := by
        rw [← hx]
        simp only [SS.txt, List.append_nil]
      go_wp2
      go_end0
      exact ⟨rfl, by rw [← hx0]; exact hw⟩
    | cons op1 s1 n1 l1 x1 y1 r1 =>
      obtain ⟨bo, o, rfl, hbo, c0, c1, c2, ⟨v3, c3, h3⟩, ⟨v4, c4, h4⟩, ⟨v5, c5, h5⟩, h6, hrr⟩ := hrow' (by simp [SS.len])
      clear hrow hrow'
      have hlt : j < len := by simp [SS.len] at hj; omega
      have d0 := (hw.bl.cell (p := ⟨bo, o + j * 6, none⟩) hbo).trans c0
      have d1 := (hw.bl.cell (p := ⟨bo, o + j * 6 + 1, none⟩) hbo).trans c1
      have d2 := (hw.bl.cell (p := ⟨bo, o + j * 6 + 2, none⟩) hbo).trans c2
      have d3 := (hw.bl.cell (p := ⟨bo, o + j * 6 + 3, none⟩) hbo).trans c3
      have d4 := (hw.bl.cell (p := ⟨bo, o + j * 6 + 4, none⟩) hbo).trans c4
      have d5 := (hw.bl.cell (p := ⟨bo, o + j * 6 + 5, none⟩) hbo).trans c5
      obtain ⟨A3, cap3, rfl, _⟩ := id h3
      obtain ⟨A4, cap4, rfl, _⟩ := id h4
      obtain ⟨A5, cap5, rfl, _⟩ := id h5
      have hboz : bo < wr.heap.size := Nat.lt_of_lt_of_le hbo hlow
      clear c0 c1 c2 c3 c4 c5
      have HJ := hid hj; clear hj
      have hsz : o + (j + 1) * 6 = o + j * 6 + 6 := by omega
      obtain ⟨C, hC⟩ : ∃ C : Obj, Obj.cells #[.int .i64 op1, .string s1, .int .i64 n1, .slice A3 l1.len cap3, .slice A4 x1.len cap4, .slice A5 y1.len cap5] 41 = C := ⟨_, rfl⟩
      have hb2 : Below wr.heap.size wr (wr.alloc C) := (Below.refl _ _).alloc (Nat.le_refl _) C
      have hg2 : (wr.alloc C).heap[wr.heap.size]? = some (.cells #[.int .i64 op1, .string s1, .int .i64 n1, .slice A3 l1.len cap3, .slice A4 x1.len cap4, .slice A5 y1.len cap5] 41 (0, 0)) := by rw [hC]; exact heap_alloc_new wr _
      have hbg : wr.heap.size ≠ b := by have := hw.ws.lt; omega
      have hw2 := hw.below hb2 hlow
      have hlow2 := hw2.lo hlo
      obtain ⟨T, hT⟩ : ∃ T, stX k op1 s1.data.toList n1 l1.txs (x1.txt (k + 1)) (y1.txt (k + 1)) (decide (0 < y1.len)) = T := ⟨_, rfl⟩
      have hst := hr.1
      unfold STok at hst
      simp only [SS.txt, hT, List.length_append, List.length_cons, List.length_nil] at hx hxl
      have htl : (tabsT k).length = k := by unfold tabsT; rw [List.length_replicate]
      have htab := tabs_any lo b _ k (wr.alloc C) hw2.ws hlow2 (by rw [List.length_append]; omega)
      have HS : Hid (∀ w2, Wrote lo b W (t ++ x ++ tabsT k) k w2 → Calls Tryz.prog 46 #[used b, stV op1 s1 n1 (.slice A3 l1.len cap3) (.slice A4 x1.len cap4) (.slice A5 y1.len cap5)] w2 fun e w' => e = .returned (.tuple #[]) ∧ Wrote lo b w2 (t ++ x ++ tabsT k ++ T) k w') :=
        hid fun w2 hw => by
          have := hst lo b (t ++ x ++ tabsT k) k w2 _ _ _ (ht.on hw.bl) hw.ws (hw.lo hlo) (EV.below h3 hw.bl (Nat.le_refl _)) (SV.below h4 hw.bl (Nat.le_refl _)) (SV.below h5 hw.bl (Nat.le_refl _)) h6 hk
          rw [hT] at this
          exact this (by simp only [List.length_append]; omega)
      have HZ : Hid (∀ w2, Wrote lo b W (t ++ x ++ tabsT k ++ T) k w2 → Calls Tryz.prog 42 #[used b, .slice (some ⟨w2.heap.size, 0, none⟩) 1 1] (w2.alloc (.cells #[.string ⟨#[10]⟩] 9)) fun e w' => e = .returned (.tuple #[]) ∧ Wrote lo b w2 (t ++ x ++ tabsT k ++ T ++ [10]) k w') :=
        hid fun w2 hw => add_one lo b _ k ⟨#[10]⟩ w2 hw.ws (hw.lo hlo) (by simp only [List.length_append, List.length_cons, List.length_nil]; omega)
      clear hst hT
      subst hC
      go_upto_region 4 with (go_at_call 45; ((with_reducible refine htab.mono ?_); clear htab; rintro e w2 ⟨rfl, h2⟩))
      obtain ⟨e0, e1, e2, e3, e4, e5⟩ := kept6 h2.ok hg2 hbg
      have hw3 := hw2.trans h2
      have hq := HS.out _ hw3
      clear d0 d1 d2 d3 d4 d5
      go_upto_region 5 with (go_at_call 46; ((with_reducible refine hq.mono ?_); clear hq; rintro e w3 ⟨rfl, h3q⟩))
      have hw4 := hw3.trans h3q
      have hz := HZ.out _ hw4
      clear e0 e1 e2 e3 e4 e5
      go_wp2_with (go_at_call 42; ((with_reducible refine hz.mono ?_); rintro e w4 ⟨rfl, h4q⟩))
      go_roundw
      case rel =>
        refine ⟨j + 1, r1, x ++ tabsT k ++ T ++ [10], by go_num, by have := HJ.out; simp [SS.len] at this; omega, hr.2, ?_, fun _ => ⟨bo, o, rfl, hbo, by rw [hsz]; exact hrr⟩, ?_⟩
        · rw [← hx]; simp only [List.append_assoc]
        · have := hw4.trans h4q
          simp only [List.append_assoc] at this ⊢
          exact this
      case measure => simp [RowKit.intOf]; omega

end Go.Proofs.YtppagjhmlgkamaaGreatDoor
