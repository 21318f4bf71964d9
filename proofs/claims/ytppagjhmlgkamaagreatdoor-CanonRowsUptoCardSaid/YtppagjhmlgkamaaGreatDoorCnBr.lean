/-
  What the writer's walks share: tables, boxes; wrap.Text; several.
-/
import Derived.Test.YtppagjhmlgkamaaGreatDoorCz5
import Derived.Test.YtppagjhmlgkamaaGreatDoorCnPr
import Derived.Test.YtppagjhmlgkamaaGreatDoorShelf
import Derived.Lib.AppendIntMem
import Derived.Deep.DeepCutAuto
namespace Go.Proofs.YtppagjhmlgkamaaGreatDoor
open Go Go.RowKit Go.Lib

/-- The listed variables that the writer reads, wherever nothing below lo has turned. -/
structure CT (lo : Nat) (w : World) : Prop where
  le : 7 ≤ lo
  bet : ∀ k, k < 17 → w.cell? ⟨0, k, none⟩ = some (.string ⟨(betwT.getD k []).toArray⟩)
  tab : TabBelow Tryz.prog lo w "internal/strconv.uint64pow10" .u64 pow10Tab
theorem CT.on {lo : Nat} {w w' : World} (h : CT lo w) (hb : Below lo w w') : CT lo w' :=
  ⟨h.le, fun k hk => (hb.cell (p := ⟨0, k, none⟩) (show 0 < lo from Nat.lt_of_lt_of_le (by decide) h.le)).trans (h.bet k hk), h.tab.on hb⟩

theorem WAt.below {lo : Nat} {w w' : World} {b : Nat} {p : Value} {t : List UInt8} {k : Int} (h : WAt lo w b p t k) (hb : Below w.heap.size w w') : WAt lo w' b p t k := by
  obtain ⟨h1, v, h2, ⟨h3, h4⟩, h5⟩ := h
  refine ⟨h1, v, (hb.block b (Array.getElem?_eq_some_iff.1 h2).1).trans h2, ⟨h3, ?_⟩, h5⟩
  rcases h4 with h4 | ⟨g, cap, cur, e1, e2, e3, e4⟩
  · exact .inl h4
  · exact .inr ⟨g, cap, cur, e1, e2, (hb.block g (Array.getElem?_eq_some_iff.1 e3).1).trans e3, e4⟩
theorem WS.below {lo : Nat} {w w' : World} {b : Nat} {t : List UInt8} {k : Int} (h : WS lo w b t k) (hb : Below w.heap.size w w') : WS lo w' b t k := h.imp (·.below hb) (·.below hb)
theorem kept_below {e : TypeId} {b : Option Nat} {a w w' : World} (h : OthersKept e b a w) (hb : Below w.heap.size w w') : OthersKept e b a w' := fun k o hk hkb ho => by
  have h1 := h k o hk hkb ho
  exact (hb.block k (Array.getElem?_eq_some_iff.1 h1).1).trans h1
theorem Wrote.below {lo b : Nat} {w w1 w2 : World} {t : List UInt8} {k : Int} (h : Wrote lo b w t k w1) (hb : Below w1.heap.size w1 w2) (hlo : lo ≤ w1.heap.size) : Wrote lo b w t k w2 :=
  ⟨h.ws.below hb, h.bl.trans (hb.mono hlo), kept_below h.ok hb⟩
theorem Wrote.refl {lo b : Nat} {w : World} {t : List UInt8} {k : Int} (h : WS lo w b t k) : Wrote lo b w t k w := ⟨h, Below.refl _ _, OthersKept.refl _ _ _⟩
theorem Wrote.lo {lo b : Nat} {w w1 : World} {t : List UInt8} {k : Int} (h : Wrote lo b w t k w1) (hlo : lo ≤ w.heap.size) : lo ≤ w1.heap.size := Nat.le_trans hlo h.bl.size

set_option maxRecDepth 100000 in
theorem text_any (lo : Nat) (n : Int) (w : World) (ht : CT lo w) (h : I64 n) :
    Calls Tryz.prog 66 #[.int .i64 n] w fun e w' => e = .returned (.string ⟨(itoa n).toArray⟩) ∧ Below w.heap.size w w' := by
  go_enter Tryz.func66, Tryz.ntmps66
  go_wp2_with (go_at_call 96; refine (Tryz.strconv_FormatInt_10 n h.1 h.2 _ ht.tab.here).mono ?_; rintro e w' ⟨rfl, k, os, rfl⟩)
  go_ret
  exact ⟨rfl, below_grow _ _ (Nat.le_refl _) k os⟩

theorem kept4 {w w' : World} {e T : TypeId} {b g : Nat} {x0 x1 x2 x3 : Value} {fr : Nat × Nat} (h : OthersKept e (some b) w w') (hg : w.heap[g]? = some (.cells #[x0, x1, x2, x3] T fr)) (hb : g ≠ b) (hT : T ≠ e := by decide) :
    w'.cell? ⟨g, 0, none⟩ = some x0 ∧ w'.cell? ⟨g, 1, none⟩ = some x1 ∧ w'.cell? ⟨g, 2, none⟩ = some x2 ∧ w'.cell? ⟨g, 3, none⟩ = some x3 :=
  have hb' : some g ≠ some b := fun e => hb (by injection e)
  ⟨kept_cell (o := 0) h hg hb' hT, kept_cell (o := 1) h hg hb' hT, kept_cell (o := 2) h hg hb' hT, kept_cell (o := 3) h hg hb' hT⟩
/-- An expression's value. -/
abbrev exV (op n : Int) (s : ByteArray) (v : Value) : Value := .agg #[.int .i64 op, .int .i64 n, .string s, v]
/-- What `expression` does, at one expression. -/
def EXok (op n : Int) (s : ByteArray) (l : ES) : Prop :=
  ∀ (lo b : Nat) (t : List UInt8) (k : Int) (W : World) (v : Value), CT lo W → WS lo W b t k → lo ≤ W.heap.size → EV lo W v l → (I64 op ∧ I64 n ∧ s.size ≤ 9223372036854775807) →
    t.length + (exX op n s.data.toList l.txs).length ≤ 70368744177664 →
    Calls Tryz.prog 36 #[used b, exV op n s v] W fun e w' => e = .returned (.tuple #[]) ∧ Wrote lo b W (t ++ exX op n s.data.toList l.txs) k w'
def ES.exok : ES → Prop
  | .nil => True
  | .cons op n s l r => EXok op n s l ∧ r.exok

/-- One text, added. -/
theorem add_one (lo b : Nat) (t : List UInt8) (k : Int) (s : ByteArray) (W : World) (h : WS lo W b t k) (hlo : lo ≤ W.heap.size) (hlen : t.length + s.data.toList.length ≤ 70368744177664) :
    Calls Tryz.prog 42 #[used b, .slice (some ⟨W.heap.size, 0, none⟩) 1 1] (W.alloc (.cells #[.string s] 9)) fun e w' => e = .returned (.tuple #[]) ∧ Wrote lo b W (t ++ s.data.toList) k w' := by
  have := add_any lo b t k [s] 1 rfl (by omega) W h hlo (by rw [catB, catB, List.append_nil]; exact hlen) #[.string s] rfl
  rw [catB, catB, List.append_nil] at this
  exact this

set_option maxHeartbeats 4000000 in
set_option maxRecDepth 100000 in
theorem cn_several_any (l : ES) (hok : l.exok) (lo b : Nat) (t : List UInt8) (k : Int) (W : World) (A : Option Addr) (cap : Nat) (op gp en : ByteArray) (ht : CT lo W) (h : WS lo W b t k) (hlo : lo ≤ W.heap.size) (hv : EV lo W (.slice A l.len cap) l)
    (hlen : t.length + (op.data.toList ++ gapT gp.data.toList l.txs ++ en.data.toList).length ≤ 70368744177664) :
    Calls Tryz.prog 67 #[used b, .string op, .string gp, .slice A l.len cap, .string en] W fun e w' => e = .returned (.tuple #[]) ∧ Wrote lo b W (t ++ (op.data.toList ++ gapT gp.data.toList l.txs ++ en.data.toList)) k w' := by
  obtain ⟨A1, cap1, e1, hc1, hc2, hrow⟩ := hv
  injection e1 with e2 e3 e4
  subst e2 e4
  clear e3
  simp only [List.length_append] at hlen
  obtain ⟨len, hl0⟩ : ∃ len, l.len = len := ⟨_, rfl⟩
  rw [hl0] at hc1 hrow ⊢
  have HL := hid hl0; clear hl0
  have ha := add_one lo b t k op W h hlo (by omega)
  go_enter Tryz.func67, Tryz.ntmps67
  go_wp2_with (go_at_call 42; ((with_reducible refine ha.mono ?_); rintro e w1 ⟨rfl, h1⟩))
  go_loopw [18] (fun i wr => ∃ (j : Nat) (r : ES) (x : List UInt8), i = .int .i64 j ∧ j + r.len = len ∧ r.exok ∧ x ++ (if j = 0 then gapT gp.data.toList r.txs else restT gp.data.toList r.txs) = gapT gp.data.toList l.txs ∧
      (0 < r.len → ∃ bo o, A = some ⟨bo, o, none⟩ ∧ bo < lo ∧ r.In lo W bo (o + j * 4)) ∧ Wrote lo b W (t ++ op.data.toList ++ x) k wr) (fun i _ => len - (RowKit.intOf i).toNat)
  case atStart => exact ⟨0, l, [], rfl, by have := HL.out; omega, hok, rfl, by simpa [HL.out] using hrow, by rw [List.append_nil]; exact h1⟩
  case round =>
    obtain ⟨j, r, x, rfl, hj, hr, hx, hrow', hw⟩ := hrel
    have hlow := hw.lo hlo
    have hgl : (t ++ op.data.toList ++ x).length = t.length + op.data.toList.length + x.length := by simp only [List.length_append]
    have hxl := congrArg List.length hx
    rw [List.length_append] at hxl
    cases r with
    | nil =>
      have hj0 : j = len := by simpa [ES.len] using hj
      subst hj0
      have hx0 : x = gapT gp.data.toList l.txs := by
        rw [← hx]
        simp only [ES.txs, gapT_nil, restT, ite_self, List.append_nil]
      have he := add_one lo b _ k en wr hw.ws hlow (by rw [hgl]; omega)
      go_wp2_with (go_at_call 42; ((with_reducible refine he.mono ?_); rintro e w2 ⟨rfl, h2⟩))
      go_end0
      exact ⟨rfl, by have := hw.trans h2; rw [hx0] at this; simpa only [List.append_assoc] using this⟩
    | cons op1 n1 s1 l1 r1 =>
      obtain ⟨bo, o, rfl, hbo, c0, c1, c2, ⟨v3, c3, h3⟩, h4, hrr⟩ := hrow' (by simp [ES.len])
      clear hrow hrow'
      have hlt : j < len := by simp [ES.len] at hj; omega
      have d0 := (hw.bl.cell (p := ⟨bo, o + j * 4, none⟩) hbo).trans c0
      have d1 := (hw.bl.cell (p := ⟨bo, o + j * 4 + 1, none⟩) hbo).trans c1
      have d2 := (hw.bl.cell (p := ⟨bo, o + j * 4 + 2, none⟩) hbo).trans c2
      have d3 := (hw.bl.cell (p := ⟨bo, o + j * 4 + 3, none⟩) hbo).trans c3
      obtain ⟨A3, cap3, rfl, _⟩ := id h3
      have hboz : bo < wr.heap.size := Nat.lt_of_lt_of_le hbo hlow
      clear c0 c1 c2 c3
      have HJ := hid hj; clear hj
      have hsz : o + (j + 1) * 4 = o + j * 4 + 4 := by omega
      obtain ⟨C, hC⟩ : ∃ C : Obj, Obj.cells #[.int .i64 op1, .int .i64 n1, .string s1, .slice A3 l1.len cap3] 38 = C := ⟨_, rfl⟩
      have hb2 : Below wr.heap.size wr (wr.alloc C) := (Below.refl _ _).alloc (Nat.le_refl _) C
      have hg2 : (wr.alloc C).heap[wr.heap.size]? = some (.cells #[.int .i64 op1, .int .i64 n1, .string s1, .slice A3 l1.len cap3] 38 (0, 0)) := by rw [hC]; exact heap_alloc_new wr _
      have hbg : wr.heap.size ≠ b := by have := hw.ws.lt; omega
      have hw2 := hw.below hb2 hlow
      have hlow2 := hw2.lo hlo
      have h3' : EV lo (wr.alloc C) (.slice A3 l1.len cap3) l1 := EV.below h3 hw2.bl (Nat.le_refl _)
      have hty : ∀ (T : List UInt8) (W' : World), Wrote lo b W T k W' → T.length + (exX op1 n1 s1.data.toList l1.txs).length ≤ 70368744177664 →
          Calls Tryz.prog 36 #[used b, exV op1 n1 s1 (.slice A3 l1.len cap3)] W' fun e w' => e = .returned (.tuple #[]) ∧ Wrote lo b W' (T ++ exX op1 n1 s1.data.toList l1.txs) k w' :=
        fun T W' hW hT => hr.1 lo b T k W' _ (ht.on hW.bl) hW.ws (hW.lo hlo) (EV.below h3 hW.bl (Nat.le_refl _)) h4 hT
      have HTY := hid hty; clear hty
      by_cases hj0 : 0 < j
      · have hd : decide (0 < j) = true := decide_eq_true hj0
        rw [if_neg (by omega)] at hx hxl
        simp only [ES.txs, restT, List.length_append] at hx hxl
        have ha2 := add_one lo b _ k gp (wr.alloc C) hw2.ws hlow2 (by rw [hgl]; omega)
        simp only [World.size_alloc] at ha2
        subst hC
        go_wp2_with (first
          | (go_at_call 42; ((with_reducible refine ha2.mono ?_); clear ha2; rintro e w2 ⟨rfl, h2⟩; obtain ⟨e0, e1, e2, e3⟩ := kept4 h2.ok hg2 hbg; have hq := HTY.out _ _ (hw2.trans h2) (by rw [List.length_append, hgl]; omega)))
          | (go_at_call 36; ((with_reducible refine hq.mono ?_); rintro e w3 ⟨rfl, h3q⟩)))
        go_roundw
        case rel =>
          refine ⟨j + 1, r1, x ++ gp.data.toList ++ exX op1 n1 s1.data.toList l1.txs, by go_num, by have := HJ.out; simp [ES.len] at this; omega, hr.2, ?_, fun _ => ⟨bo, o, rfl, hbo, by rw [hsz]; exact hrr⟩, ?_⟩
          · rw [if_neg (by omega), ← hx]; simp only [List.append_assoc]
          · have := (hw2.trans h2).trans h3q
            simpa only [List.append_assoc] using this
        case measure => simp [RowKit.intOf]; omega
      · have hj1 : j = 0 := by omega
        have hd : decide (0 < j) = false := decide_eq_false hj0
        rw [if_pos hj1] at hx hxl
        simp only [ES.txs, gapT_cons, List.length_append] at hx hxl
        clear hj1
        have hq := HTY.out _ _ hw2 (by rw [hgl]; omega)
        subst hC
        go_wp2_with (go_at_call 36; ((with_reducible refine hq.mono ?_); rintro e w3 ⟨rfl, h3q⟩))
        go_roundw
        case rel =>
          refine ⟨j + 1, r1, x ++ exX op1 n1 s1.data.toList l1.txs, by go_num, by have := HJ.out; simp [ES.len] at this; omega, hr.2, ?_, fun _ => ⟨bo, o, rfl, hbo, by rw [hsz]; exact hrr⟩, ?_⟩
          · rw [if_neg (by omega), ← hx]; simp only [List.append_assoc]
          · have := hw2.trans h3q
            simpa only [List.append_assoc] using this
        case measure => simp [RowKit.intOf]; omega

end Go.Proofs.YtppagjhmlgkamaaGreatDoor
