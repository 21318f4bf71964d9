/-
  slices.Grow of nothing, slices.Concat of two.
-/
import Derived.Test.YtnilklgnpfgieaaDoorSpI
import Derived.Test.YtnilklgnpfgieaaDoorCrA
import Derived.Lib.AppendZeros
namespace Go.Proofs.YtnilklgnpfgieaaDoor
open Go Go.RowKit Go.Lib

/-- append(v, x...) onto a row of the call's own; x nil too. -/
theorem wpl_append_own {P : Program} {ops : Array Oper} {rest : List Oper} {o : Oper} {a : Act} {w : World} {Q : Exit → Act → World → Prop} (hgd : o.guard = none) (s x : Operand) (t : TypeId)
    (ho : o.op = .call { callee := .builtin .append, args := #[s, x], argTypes := #[t, t] })
    (base : Nat) (e : TypeId) (i : TypeInfo) (z : Value) (size bytes : Nat) (ht : P.underlying t = some (.slice e)) (hi : P.info? e = some i) (hz : i.zero = some z)
    (hsize : i.size = size) (hby : i.bytes = bytes) (hzs : z.cells.size = size) (hsz : 0 < size)
    (v : Value) (n : Nat) (xs : List Value) (hs : a.eval s = v) (hown : w.ownsRow base e size v n xs)
    (A : Option Addr) (m c : Nat) (news : List Value) (hx : a.eval x = .slice A m c) (hA : A = none → m = 0) (hl : news.length = m * size) (hnews : ∀ ad, A = some ad → ∀ j u, news[j]? = some u → w.cell? (ad.add j) = some u) (h1 : ∀ u ∈ news, u.oneCell' = true)
    (h63 : n + m ≤ maxLen) (hbytes : (n + m) * bytes ≤ 140737488355328) (hbase : base ≤ w.heap.size)
    (h : ∀ v' w', w'.ownsRow base e size v' (n + m) (xs ++ news) → w.grownBy w' v.ownBlock → wpList P ops Q rest (a.put o.dst v') w') : wpList P ops Q (o :: rest) a w :=
  wpList_plain hgd fun K hK => by
    have hstep := step_append_own (P := P) (ops := ops) (Q := Q) (K := K) (E := True) hgd s x t ho base e i z size bytes ht hi hz hsize hby hzs hsz v n xs hs hown A m c news hx hA hl hnews h1 h63 hbytes hbase (fun v' w' h2 h3 => hK _ _ (h v' w' h2 h3))
    have hw : Region.wanted o (yielded ops a.tmps) = true := by simp [Region.wanted, hgd]
    rwa [if_pos hw] at hstep

set_option maxRecDepth 100000 in
set_option maxHeartbeats 2000000 in
theorem grow_any (m : Nat) (z : Int) (hz : (m : Int) = z) (h0 : 0 < m) (hm : m ≤ 1000000) (w : World) :
    Calls Tryd.prog 32 #[.slice none 0 0, .int .i64 z] w fun e w' => ∃ v, e = .returned v ∧ w'.ownsRow w.heap.size 56 3 v 0 [] ∧ Below w.heap.size w w' := by
  subst hz
  obtain ⟨i0, hi, hz0, hz1, hz2⟩ := info_parts funcInfo
  have hrun := fun (w : World) => run_append_nil_zeros (P := Tryd.prog) w 22 3 22 56 i0 _ .i64 .i64 Tryd.underlying22 Tryd.underlying3 hi hz0 m h0 (by rw [hz1]; decide) (by omega) (by rw [hz2]; omega)
  have h1 : ¬ ((m : Int) < 0) := by omega
  have h4 : decide ((0 : Int) < (m : Int)) = true := by simp; omega
  have h5 : 0 < m := h0
  have HR := Lib.hid hrun
  clear hrun hi hz0 hz1 hz2
  go_enter Tryd.func32, Tryd.ntmps32
  go_wp2_with (first
    | (at_builtin; refine Lib.wpList_append_run _ rfl _ _ _ _ rfl _ _ rfl rfl _ _ (HR.out _) ?_)
    | go_in)
  go_ret
  have hge := grownCap_ge w m 0 56
  have hcm : grownCap w m 0 56 ≤ maxLen := grownCap_le_maxLen w m 0 56 (by unfold maxLen; omega)
  refine ⟨_, rfl, ⟨rfl, .inr ⟨w.heap.size, _, _, rfl, Nat.le_refl _, heap_alloc_new w _, Nat.zero_le _, hcm, ?_, rfl⟩⟩, belowD ((Below.refl _ _).alloc (Nat.le_refl _) _)⟩
  rw [Array.size_append, size_zeroCells, size_zeroCells]
  show m * 3 + (grownCap w m 0 56 - m) * 3 = _
  omega

abbrev fss2 (A1 : Option Addr) (k1 c1 : Nat) (A2 : Option Addr) (k2 c2 : Nat) : Obj := .cells #[.slice A1 k1 c1, .slice A2 k2 c2] 22
theorem FsIn.app {B : Nat} {W : World} : ∀ {a b : List Fn} {cs ds : List Value}, fsCells B W a cs → fsCells B W b ds → fsCells B W (a ++ b) (cs ++ ds)
  | [], _, _, _, h, h' => by rw [show _ = [] from h]; exact h'
  | _ :: _, _, _, _, ⟨vp, vb, rest, e, h1, h2, h3, hr⟩, h' => by subst e; exact ⟨vp, vb, _, rfl, h1, h2, h3, FsIn.app hr h'⟩

theorem cell_lt {W : World} {a : Addr} {v : Value} (h : W.cell? a = some v) : a.block < W.heap.size := by
  rcases Nat.lt_or_ge a.block W.heap.size with h' | h'
  · exact h'
  · simp [World.cell?, Array.getElem?_eq_none h'] at h
theorem src_cell {w wr : World} (hb : Below w.heap.size w wr) {a : Addr} {u : Value} (h : w.cell? a = some u) : wr.cell? a = some u := (hb.cell (cell_lt h)).trans h
set_option maxRecDepth 100000 in
set_option maxHeartbeats 4000000 in
/-- slices.Concat of two rows of functions, the first one not empty. -/
theorem concat_any (bx : Nat) (A1 A2 : Option Addr) (c1 c2 : Nat) (l1 l2 : List Fn) (w : World) (hbx : w.heap[bx]? = some (fss2 A1 l1.length c1 A2 l2.length c2)) (h1 : FV w.heap.size w (.slice A1 l1.length c1) l1) (h2 : FV w.heap.size w (.slice A2 l2.length c2) l2) (h0 : 0 < l1.length) (hm1 : l1.length ≤ 1000) (hm2 : l2.length ≤ 1000) :
    Calls Tryd.prog 18 #[.slice (some ⟨bx, 0, none⟩) 2 2] w fun e w' => ∃ A cap, e = .returned (.slice A (l1.length + l2.length) cap) ∧ FV w'.heap.size w' (.slice A (l1.length + l2.length) cap) (l1 ++ l2) ∧ Below w.heap.size w w' := by
  obtain ⟨i0, hi, hz0, hz1, hz2⟩ := info_parts funcInfo
  obtain ⟨q1, hq1⟩ : ∃ q, l1.length = q := ⟨_, rfl⟩
  obtain ⟨q2, hq2⟩ : ∃ q, l2.length = q := ⟨_, rfl⟩
  obtain ⟨_, cs1, hc1, hn1⟩ := fv_news h1
  obtain ⟨_, cs2, hc2, hn2⟩ := fv_news h2
  have hA1 := fv_nil0 h1
  have hA2 := fv_nil0 h2
  have hl1 := hc1.len
  have hl2 := hc2.len
  have x0 : w.cell? ⟨bx, 0, none⟩ = some (.slice A1 l1.length c1) := (blk_cell hbx 0).trans rfl
  have x1 : w.cell? ⟨bx, 1, none⟩ = some (.slice A2 l2.length c2) := (blk_cell hbx 1).trans rfl
  have hblt := blk_lt hbx
  rw [hq1] at h0 hm1 hA1 hl1 x0 ⊢
  rw [hq2] at hm2 hA2 hl2 x1 ⊢
  have hfin : Hid (∀ (W : World) (v : Value), Below w.heap.size w W → W.ownsRow w.heap.size 56 3 v (q1 + q2) (cs1 ++ cs2) → FV W.heap.size W v (l1 ++ l2)) :=
    hid fun W v hb ho => own_fv ho (FsIn.app (hc1.below hb hb.size) (hc2.below hb hb.size)) (by simp [hq1, hq2])
  have HC1 := Lib.hid hc1
  have HC2 := Lib.hid hc2
  have HN1 := Lib.hid hn1
  have HN2 := Lib.hid hn2
  have HM1 : Hid (∀ wr, Below w.heap.size w wr → ∀ ad, A1 = some ad → ∀ j u, cs1[j]? = some u → wr.cell? (ad.add j) = some u) := hid fun wr hb ad e j u hu => src_cell hb (hn1 ad e j u hu)
  have HM2 : Hid (∀ wr, Below w.heap.size w wr → ∀ ad, A2 = some ad → ∀ j u, cs2[j]? = some u → wr.cell? (ad.add j) = some u) := hid fun wr hb ad e j u hu => src_cell hb (hn2 ad e j u hu)
  have HA1 := Lib.hid hA1
  have HA2 := Lib.hid hA2
  have HL1 := Lib.hid hl1
  have HL2 := Lib.hid hl2
  have HI := Lib.hid hi
  have HZ0 := Lib.hid hz0
  clear h1 h2 hc1 hc2 hn1 hn2 hA1 hA2 hl1 hl2 hbx hq1 hq2 hi hz0
  go_enter Tryd.func18, Tryd.ntmps18
  go_wp2
  go_loop [3, 11] (fun s i => (i = .int .i64 0 ∧ s = .int .i64 0) ∨ (i = .int .i64 1 ∧ s = .int .i64 q1) ∨ (i = .int .i64 2 ∧ s = .int .i64 (q1 + q2 : Nat))) (fun s i => 2 - (intOf i).toNat)
  case atStart => exact .inl ⟨rfl, rfl⟩
  case round =>
    obtain ⟨rfl, rfl⟩ | ⟨rfl, rfl⟩ | ⟨rfl, rfl⟩ := hrel
    · go_wp2
      go_round
      case rel => exact .inr (.inl ⟨rfl, by go_num⟩)
      case measure => simp [intOf]
    · have hneg : ¬ ((q1 : Int) + (q2 : Int) < 0) := by omega
      go_wp2
      go_round
      case rel => exact .inr (.inr ⟨rfl, by go_num⟩)
      case measure => simp [intOf]
    · have hG := Lib.hid (grow_any (q1 + q2) ((q1 : Int) + (q2 : Int)) (by omega) (by omega) (by omega) w)
      go_wp2_with (go_at_call 32; ((with_reducible refine hG.out.mono ?_); rintro e w1 ⟨v1, rfl, ho1, hb1⟩))
      have HO1 := Lib.hid ho1
      have HB1 := Lib.hid hb1
      clear ho1 hb1
      go_loopw [6, 27] (fun v i wr => Below w.heap.size w wr ∧ ((i = .int .i64 0 ∧ wr.ownsRow w.heap.size 56 3 v 0 []) ∨ (i = .int .i64 1 ∧ wr.ownsRow w.heap.size 56 3 v q1 cs1) ∨ (i = .int .i64 2 ∧ wr.ownsRow w.heap.size 56 3 v (q1 + q2) (cs1 ++ cs2)))) (fun v i _ => 2 - (intOf i).toNat)
      case atStart => exact ⟨HB1.out, .inl ⟨rfl, HO1.out⟩⟩
      case round =>
        obtain ⟨hb, ⟨rfl, ho⟩ | ⟨rfl, ho⟩ | ⟨rfl, ho⟩⟩ := hrel
        · have y0 := (hb.cell (p := ⟨bx, 0, none⟩) hblt).trans x0
          have HO := Lib.hid ho
          have HB := Lib.hid hb
          have hsz := hb.size
          obtain ⟨X, c, rfl⟩ := own_form ho
          clear ho hb
          go_wp2_with (at_builtin; refine wpl_append_own rfl _ _ 22 rfl w.heap.size 56 i0 _ 3 64 Tryd.underlying22 HI.out HZ0.out hz1 hz2 rfl (by decide) _ 0 [] rfl HO.out A1 q1 c1 cs1 rfl HA1.out HL1.out (HM1.out _ HB.out) HC1.out.one (by unfold maxLen; omega) (by omega) hsz ?_; intro v7 w7 hown7 hg7)
          refine ⟨⟨HB.out.grown hg7 hsz (fun k hk => (HO.out.lt k hk).1), .inr (.inl ⟨rfl, by simpa using hown7⟩)⟩, by simp [intOf]⟩
        · have y0 := (hb.cell (p := ⟨bx, 1, none⟩) hblt).trans x1
          have HO := Lib.hid ho
          have HB := Lib.hid hb
          have hsz := hb.size
          obtain ⟨X, c, rfl⟩ := own_form ho
          clear ho hb
          go_wp2_with (at_builtin; refine wpl_append_own rfl _ _ 22 rfl w.heap.size 56 i0 _ 3 64 Tryd.underlying22 HI.out HZ0.out hz1 hz2 rfl (by decide) _ q1 cs1 rfl HO.out A2 q2 c2 cs2 rfl HA2.out HL2.out (HM2.out _ HB.out) HC2.out.one (by unfold maxLen; omega) (by omega) hsz ?_; intro v7 w7 hown7 hg7)
          refine ⟨⟨HB.out.grown hg7 hsz (fun k hk => (HO.out.lt k hk).1), .inr (.inr ⟨rfl, hown7⟩)⟩, by simp [intOf]⟩
        · go_wp2
          obtain ⟨X, c, rfl⟩ := own_form ho
          go_ret
          exact ⟨X, c, rfl, hfin.out _ _ hb ho, hb⟩
end Go.Proofs.YtnilklgnpfgieaaDoor
