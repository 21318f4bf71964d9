/-
  plain: an expression without calls, indices and divisions, to a depth.
-/
import Derived.Test.YthfcnnicpmkclaaLbL
import Derived.Test.YthfcnnicpmkclaaLbT
import Derived.Lib.MinMax
import Derived.Maps.AppendAt
namespace Go.Proofs.Ythfcnnicpmkclaa
open Go Go.RowKit Go.Lib

def plB (op : Int) : Bool := op == 5 || op == 4 || op == 11 || op == 12
def plOp (op : Int) : Int := if plB op = true then 8 else op
theorem plOp_true {op : Int} (h : plB op = true) : plOp op = 8 := if_pos h
theorem plOp_false {op : Int} (h : plB op = false) : plOp op = op := if_neg (by rw [h]; decide)
def ES.pl : ES → Nat → ES
  | .nil, _ => .nil
  | .cons _ _ _ _ _, 0 => .nil
  | .cons op n s l r, d + 1 => .cons (plOp op) n s (l.pl d) (r.pl (d + 1))
theorem ES.pl_zero : ∀ l : ES, l.pl 0 = .nil
  | .nil => rfl
  | .cons _ _ _ _ _ => rfl
theorem ES.pl_app : ∀ (a b : ES) (d : Nat), (a.app b).pl (d + 1) = (a.pl (d + 1)).app (b.pl (d + 1))
  | .nil, _, _ => rfl
  | .cons op n s l r, b, d => by rw [ES.app, ES.pl, ES.pl, ES.app, ES.pl_app r b d]
theorem ES.pl_len : ∀ (l : ES) (d : Nat), (l.pl d).len ≤ l.len
  | .nil, _ => Nat.le_refl _
  | .cons _ _ _ _ _, 0 => Nat.zero_le _
  | .cons _ _ _ _ r, d + 1 => by have := ES.pl_len r (d + 1); simp only [ES.pl, ES.len]; omega
theorem ES.pl_thin : ∀ (l : ES) (d : Nat), l.thin → (l.pl d).thin
  | .nil, _, _ => trivial
  | .cons _ _ _ _ _, 0, _ => trivial
  | .cons _ _ _ l r, d + 1, ⟨⟨h0, h1⟩, h2, h3⟩ => ⟨⟨h0, by have := ES.pl_len l d; omega⟩, ES.pl_thin l d h2, ES.pl_thin r (d + 1) h3⟩
theorem plOp_own (fs : List Fn) (op : Int) (s : ByteArray) (ps : List Bool) : ownE fs (plOp op) s ps = false := by
  cases h : plB op with
  | true => rw [plOp_true h]; rfl
  | false =>
    rw [plOp_false h]
    have hn : ¬ op = 5 ∧ ¬ op = 4 ∧ ¬ op = 11 ∧ ¬ op = 12 := by simpa [plB, and_assoc] using h
    obtain ⟨h5, h4, h11, h12⟩ := hn
    unfold ownE
    rw [if_neg h4, if_neg (by simp [h11, h12]), if_neg h5]
theorem ES.pl_tells (fs : List Fn) : ∀ (l : ES) (d : Nat), (l.pl d).tells fs = false
  | .nil, _ => rfl
  | .cons _ _ _ _ _, 0 => rfl
  | .cons op n s l r, d + 1 => by rw [ES.pl, ES.tells, ES.pl_tells fs l d, ES.pl_tells fs r (d + 1), plOp_own]; rfl
theorem plOp_ok {op n : Int} {s : ByteArray} (h : okE op n s) : okE (plOp op) n s := by
  cases h5 : plB op with
  | true => rw [plOp_true h5]; exact ⟨⟨by decide, by decide⟩, h.2⟩
  | false => rw [plOp_false h5]; exact h

/-- A list that stays, whatever happens below lo, in block g, and in what is made later. -/
def Rob (lo : Nat) (g : Option Nat) (W : World) (v : Value) (l : ES) : Prop := ∀ W' : World, W.heap.size ≤ W'.heap.size → (∀ b, lo ≤ b → b < W.heap.size → some b ≠ g → W'.heap[b]? = W.heap[b]?) → EV W'.heap.size W' v l
theorem Rob.step {lo : Nat} {g g1 : Option Nat} {W W1 : World} {v : Value} {l : ES} (h : Rob lo g W v l) (hs : W.heap.size ≤ W1.heap.size) (hb : ∀ b, lo ≤ b → b < W.heap.size → some b ≠ g → W1.heap[b]? = W.heap[b]?) (hg : ∀ b, g1 = some b → g = some b ∨ W.heap.size ≤ b) : Rob lo g1 W1 v l := by
  intro W' h1 h2
  refine h W' (Nat.le_trans hs h1) fun b hlo hlt hne => (h2 b hlo (Nat.lt_of_lt_of_le hlt hs) (fun e => ?_)).trans (hb b hlo hlt hne)
  rcases hg b e.symm with h | h
  · exact hne h.symm
  · omega
theorem Rob.new {lo lo1 : Nat} {g : Option Nat} {W : World} {v : Value} {l : ES} (h : Rob lo1 none W v l) (hlo : lo ≤ lo1) (hg : ∀ b, g = some b → b < lo1) : Rob lo g W v l := by
  intro W' h1 h2
  refine h W' h1 fun b hl hlt _ => h2 b (Nat.le_trans hlo hl) hlt fun e => ?_
  have := hg b e.symm
  omega
/-- A row of the call's own that holds such lists is one itself. -/
theorem rob_own {lo base n : Nat} {W : World} {v : Value} {l : ES} {cs : List Value} (h : W.ownsRow base 28 4 v n cs) (hlo : lo ≤ base) (hc : l.Cells (Rob lo v.ownBlock W) cs) (hn : n = l.len) : Rob lo none W v l := by
  intro W' h1 h2
  subst hn
  have hE : ∀ v1 l1, Rob lo v.ownBlock W v1 l1 → EV W'.heap.size W' v1 l1 := fun v1 l1 hr => hr W' h1 fun b hb hlt _ => h2 b hb hlt (fun e => by cases e)
  obtain ⟨A, cap, rfl, h3, h4, h5⟩ := own_shape h
  refine ⟨A, cap, rfl, h3, h4, fun h0 => ?_⟩
  obtain ⟨g, rfl, hg, hl, hq⟩ := h5 h0
  refine ⟨g, 0, rfl, Nat.lt_of_lt_of_le hl h1, hc.in_ hE fun j u hu => ?_⟩
  have e := h2 g (Nat.le_trans hlo hg) hl (fun e => by cases e)
  rw [Nat.zero_add, ← hq j u hu]
  unfold World.cell?
  simp only [e]

set_option maxRecDepth 100000 in
/-- append(v, y), y in a row of its own. -/
theorem wp_app_ex {w : World} {N : Nat} {ops : Array Oper} {rest : List Oper} {o : Oper} {a : Act} {Q : Exit → Act → World → Prop} {s x : Operand} {v : Value} {k : Nat} {cs : List Value} {b c : Nat} {op n : Int} {s0 : ByteArray} {vl : Value} (hgd : o.guard = none)
    (ho : o.op = .call { callee := .builtin .append, args := #[s, x], argTypes := #[26, 26] })
    (hB : w.ownsRow N 28 4 v k cs) (hN : N ≤ w.heap.size) (hs : a.eval s = v) (hx : a.eval x = .slice (some ⟨b, 0, none⟩) 1 c) (hc : w.heap[b]? = some (.cells #[.int .i64 op, .int .i64 n, .string s0, vl] 28)) (hvl : ∃ A k c, vl = .slice A k c) (hlen : (k + 1) * 56 ≤ 140737488355328)
    (h : ∀ v' w', w'.ownsRow N 28 4 v' (k + 1) (cs ++ [.int .i64 op, .int .i64 n, .string s0, vl]) → w.grownBy w' v.ownBlock → (v'.ownBlock = v.ownBlock ∨ v'.ownBlock = some w.heap.size) → wpList Try.prog ops Q rest (a.put o.dst v') w') : wpList Try.prog ops Q (o :: rest) a w := by
  obtain ⟨i0, hi, hz0, hz1, hz2⟩ := info_parts exprInfo
  exact wpList_append_own_at _ hgd s x 26 ho N 28 i0 _ 4 56 Try.underlying26 hi hz0 hz1 hz2 rfl (by decide) v k cs hs hB ⟨b, 0, none⟩ 1 c [.int .i64 op, .int .i64 n, .string s0, vl] hx rfl (blk_news hc _ rfl) (one_cells hvl) (by unfold maxLen; omega) (by omega) hN (fun v' w' h1 h2 _ h4 => h v' w' h1 h2 h4)

def PlHas (K : Nat) : Prop := ∀ (op n : Int) (s : ByteArray) (v : Value) (l : ES) (d : Nat) (w : World), l.cnt < K → EV w.heap.size w v l → l.len * 56 ≤ 140737488351232 → l.thin → okE op n s → d ≤ 60 →
  Calls Try.prog 17 #[.agg #[.int .i64 op, .int .i64 n, .string s, v], .int .i64 d] w fun e w' => (∃ v', e = .returned (.agg #[.int .i64 (plOp op), .int .i64 n, .string s, v']) ∧ (∃ A k c, v' = .slice A k c) ∧ Rob w.heap.size none w' v' (l.pl d)) ∧ Below w.heap.size w w'
theorem new2 (W : World) (o o' : Obj) : ((W.alloc o).alloc o').heap[W.heap.size + 1]? = some o' := by
  have := heap_alloc_new (W.alloc o) o'
  rwa [World.size_alloc] at this
abbrev exO (op n : Int) (s : ByteArray) (v : Value) : Obj := .cells #[.int .i64 op, .int .i64 n, .string s, v] 28
def PlRel (w : World) (op n : Int) (s : ByteArray) (A : Option Addr) (cap : Nat) (l : ES) (d len K : Nat) (i : Value) (wr : World) : Prop :=
  ∃ (k : Nat) (pre r : ES) (X : Option Addr) (c : Nat) (cs : List Value), i = .int .i64 k ∧ k + r.len = len ∧ l = pre.app r ∧ (pre.pl d).len = k ∧ r.cnt ≤ K ∧ r.thin ∧ (0 < r.len → ∃ b o, A = some ⟨b, o, none⟩ ∧ b < w.heap.size ∧ r.In w.heap.size w b (o + k * 4)) ∧
    wr.heap[w.heap.size]? = some (exO op n s (.slice A len cap)) ∧ wr.heap[w.heap.size + 1]? = some (exO 0 0 no (.slice none 0 0)) ∧ wr.heap[w.heap.size + 2]? = some (exO (plOp op) n s (.slice X k c)) ∧
    wr.ownsRow (w.heap.size + 3) 28 4 (.slice X k c) k cs ∧ (pre.pl d).Cells (Rob (w.heap.size + 3) (Value.ownBlock (.slice X k c)) wr) cs ∧ Below w.heap.size w wr

theorem plain_end {w wr : World} {o2 n2 op n : Int} {s2 s : ByteArray} {v2 : Value} {X : Option Addr} {k c : Nat} {cs : List Value} {l : ES} (b1 : wr.heap[w.heap.size + 1]? = some (exO o2 n2 s2 v2)) (hown : wr.ownsRow (w.heap.size + 3) 28 4 (.slice X k c) k cs)
    (hc : l.Cells (Rob (w.heap.size + 3) (Value.ownBlock (.slice X k c)) wr) cs) (hlow : Below w.heap.size w wr) (hk : l.len = k) (W : World)
    (hW : (((wr.setCell ⟨w.heap.size + 1, 0, none⟩ (.int .i64 op)).setCell ⟨w.heap.size + 1, 1, none⟩ (.int .i64 n)).setCell ⟨w.heap.size + 1, 2, none⟩ (.string s)).setCell ⟨w.heap.size + 1, 3, none⟩ (.slice X k c) = W) :
    W.heap[w.heap.size + 1]? = some (exO op n s (.slice X k c)) ∧ Rob w.heap.size none W (.slice X k c) l ∧ Below w.heap.size w W := by
  have hne : some (w.heap.size + 1) ≠ (Value.slice X k c).ownBlock := fun e => by have := (hown.lt _ e.symm).1; omega
  have hz : W.heap.size = wr.heap.size := by rw [← hW]; simp
  have hb : ∀ b, w.heap.size + 3 ≤ b → W.heap[b]? = wr.heap[b]? := fun b h => by
    rw [← hW]
    exact (Below.heap_setCell _ _ _ _ (by simp only; omega)).trans ((Below.heap_setCell _ _ _ _ (by simp only; omega)).trans ((Below.heap_setCell _ _ _ _ (by simp only; omega)).trans (Below.heap_setCell _ _ _ _ (by simp only; omega))))
  have ho : W.ownsRow (w.heap.size + 3) 28 4 (.slice X k c) k cs := by rw [← hW]; exact own_set (own_set (own_set (own_set hown hne _) hne _) hne _) hne _
  refine ⟨by rw [← hW]; exact (heap_set ((heap_set ((heap_set ((heap_set b1 0 _).trans rfl) 1 _).trans rfl) 2 _).trans rfl) 3 _).trans rfl, rob_own ho (Nat.le_add_right _ _) (hc.mono fun v l h => ?_) hk.symm, ?_⟩
  · have h1 : Rob (w.heap.size + 3) (Value.ownBlock (.slice X k c)) W v l := h.step (by rw [hz]; exact Nat.le_refl _) (fun b h1 _ _ => hb b h1) (fun b e => Or.inl e)
    exact fun W' h2 h3 => h1 W' h2 fun b h4 => h3 b (Nat.le_trans (Nat.le_add_right _ _) h4)
  · rw [← hW]
    exact (((hlow.setCell (p := ⟨w.heap.size + 1, 0, none⟩) (Nat.le_add_right _ _) _).setCell (p := ⟨w.heap.size + 1, 1, none⟩) (Nat.le_add_right _ _) _).setCell (p := ⟨w.heap.size + 1, 2, none⟩) (Nat.le_add_right _ _) _).setCell (p := ⟨w.heap.size + 1, 3, none⟩) (Nat.le_add_right _ _) _

set_option maxRecDepth 100000 in
set_option maxHeartbeats 4000000 in
theorem plain_step (K : Nat) (ih : PlHas K) : PlHas (K + 1) := by
  intro op n s v l d w hcnt hv hth ht hok hd
  obtain ⟨A, cap, rfl, hc1, hc2, hrow⟩ := hv
  obtain ⟨len, hlen⟩ : ∃ len, l.len = len := ⟨_, rfl⟩
  rw [hlen] at hc1 hrow hth ⊢
  have HL := Lib.hid hlen; clear hlen
  have HOK := Lib.hid hok
  have HROW := Lib.hid hrow
  have hop := hok.1
  clear hok hrow
  go_enter Try.func17, Try.ntmps17
  go_upto_region 2 with fail
  obtain ⟨wa, hwa⟩ : ∃ W, ((w.alloc (exO op n s (.slice A len cap))).alloc (exO 0 0 no (.slice none 0 0))).alloc (exO op n s (.slice none 0 0)) = W := ⟨_, rfl⟩
  have m0 : wa.heap[w.heap.size]? = some (exO op n s (.slice A len cap)) := by rw [← hwa]; exact old_at (old_at (heap_alloc_new w _))
  have m1 : wa.heap[w.heap.size + 1]? = some (exO 0 0 no (.slice none 0 0)) := by rw [← hwa]; exact old_at (by have := heap_alloc_new (w.alloc (exO op n s (.slice A len cap))) (exO 0 0 no (.slice none 0 0)); rwa [World.size_alloc] at this)
  have m2 : wa.heap[w.heap.size + 2]? = some (exO op n s (.slice none 0 0)) := by rw [← hwa]; have := heap_alloc_new ((w.alloc (exO op n s (.slice A len cap))).alloc (exO 0 0 no (.slice none 0 0))) (exO op n s (.slice none 0 0)); rwa [World.size_alloc, World.size_alloc] at this
  have mb : Below w.heap.size w wa := by rw [← hwa]; exact (((Below.refl _ _).alloc (Nat.le_refl _) _).alloc (by simp) _).alloc (by simp only [World.size_alloc]; omega) _
  have mz : wa.heap.size = w.heap.size + 3 := by rw [← hwa]; simp only [World.size_alloc]
  rw [show w.heap.size + 1 + 1 = w.heap.size + 2 from rfl]
  simp only [hwa]
  clear hwa
  go_cut [32] (fun v wx => v = .bool (plB op) ∧ wx = wa)
  case first =>
    obtain ⟨x0, x1, x2, x3⟩ := box4 m0
    by_cases h5 : op = 5
    · subst h5; go_wp2_with fail; go_meet; exact ⟨rfl, rfl⟩
    · by_cases h4 : op = 4
      · subst h4; go_wp2_with fail; go_meet; exact ⟨rfl, rfl⟩
      · by_cases h11 : op = 11
        · subst h11; go_wp2_with fail; go_meet; exact ⟨rfl, rfl⟩
        · by_cases h12 : op = 12
          · subst h12; go_wp2_with fail; go_meet; exact ⟨rfl, rfl⟩
          · go_wp2_with fail
            go_meet
            exact ⟨rfl, rfl⟩
  case rest =>
    obtain ⟨rfl, rfl⟩ := hcut
    have hm : Below (w.heap.size + 2) wc (wc.setCell ⟨w.heap.size + 2, 0, none⟩ (.int .i64 8)) := Below.setCell (Below.refl (w.heap.size + 2) wc) (p := ⟨w.heap.size + 2, 0, none⟩) (Nat.le_refl _) _
    have hown0 : ∀ W : World, W.ownsRow (w.heap.size + 3) 28 4 (.slice none 0 0) 0 [] := fun W => World.ownsRow_nil W _ _ _
    have HT := Lib.hid (fun (h : plB op = true) => (⟨0, .nil, l, none, 0, [], rfl, by have := HL.out; omega, rfl, rfl, by omega, ht, by simpa [HL.out] using HROW.out, (hm.block _ (by omega)).trans m0, (hm.block _ (by omega)).trans m1, by rw [plOp_true h]; exact (heap_set m2 0 _).trans rfl, hown0 _, rfl, Below.setCell mb (p := ⟨w.heap.size + 2, 0, none⟩) (Nat.le_add_right _ _) _⟩ : PlRel w op n s A cap l d len K (.int .i64 0) (wc.setCell ⟨w.heap.size + 2, 0, none⟩ (.int .i64 8))))
    have HF := Lib.hid (fun (h : plB op = false) => (⟨0, .nil, l, none, 0, [], rfl, by have := HL.out; omega, rfl, rfl, by omega, ht, by simpa [HL.out] using HROW.out, m0, m1, by rw [plOp_false h]; exact m2, hown0 _, rfl, mb⟩ : PlRel w op n s A cap l d len K (.int .i64 0) wc))
    obtain ⟨x0, x1, x2, x3⟩ := box4 m2
    have xf := box_frozen m2 0
    have xl := lt_heap m2
    obtain ⟨t, ht0⟩ : ∃ t, plB op = t := ⟨_, rfl⟩
    have HT0 := Lib.hid ht0
    rw [ht0]
    clear ht0 hm hown0
    cases t
    all_goals
      go_upto_region 4 with fail
      clear x0 x1 x2 x3 xf xl m0 m1 m2 mb mz
      go_wp2
      go_loopw [6] (fun i wr => PlRel w op n s A cap l d len K i wr) (fun i _ => len - (intOf i).toNat)
      case atStart => first | exact HT.out HT0.out | exact HF.out HT0.out
      case round =>
        obtain ⟨k, pre, r, X, c, cs, rfl, hk, hl, hpk, hrK, hrt, hr1, b0, b1, b2, hown, hcell, hlow⟩ := hrel
        obtain ⟨y0, y1, y2, y3⟩ := box4 b0
        by_cases hgo : 0 < r.len ∧ 0 < d
        · obtain ⟨hr0, hd0⟩ := hgo
          cases r with
          | nil => simp [ES.len] at hr0
          | cons op1 n1 s1 l1 r =>
            obtain ⟨d1, hd1⟩ : ∃ d1, d = d1 + 1 := ⟨d - 1, by omega⟩
            have HD := Lib.hid hd1
            obtain ⟨b, o, rfl, hb, c0, c1, c2, ⟨v3, c3, h3⟩, h4, hr⟩ := hr1 hr0
            have d0 := (hlow.cell (p := ⟨b, o + k * 4, none⟩) hb).trans c0
            have d1' := (hlow.cell (p := ⟨b, o + k * 4 + 1, none⟩) hb).trans c1
            have d2 := (hlow.cell (p := ⟨b, o + k * 4 + 2, none⟩) hb).trans c2
            have d3 := (hlow.cell (p := ⟨b, o + k * 4 + 3, none⟩) hb).trans c3
            obtain ⟨⟨hth1, hth2⟩, hth3, hth4⟩ := hrt
            have hcn : l1.cnt < K ∧ r.cnt ≤ K := by simp only [ES.cnt] at hrK; omega
            have hlt : k < len := by simp [ES.len] at hk; omega
            have HE := Lib.hid (fun (z : Int) (hz : z = (d1 : Int)) => (hz ▸ ih op1 n1 s1 v3 l1 d1 wr hcn.1 (EV.below h3 hlow hlow.size) hth2 hth3 h4 (by omega) : Calls Try.prog 17 #[.agg #[.int .i64 op1, .int .i64 n1, .string s1, v3], .int .i64 z] wr _))
            obtain ⟨A3, cap3, rfl, _⟩ := id h3
            have hbl := lt_heap b2
            have HB2 := Lib.hid b2
            have HO := Lib.hid hown
            have HLO := Lib.hid hlow
            have HCE := Lib.hid hcell
            have HK := Lib.hid hk
            have HR := Lib.hid hr
            have HLL := Lib.hid hl
            have HPK := Lib.hid hpk
            have HB1 := Lib.hid b1
            have HB0 := Lib.hid b0
            clear hd1 c0 c1 c2 c3 h3 hr1 b0 b1 b2 hown hlow hcell hk hr hl hpk hr0
            go_wp2_with (first
              | (go_at_call 17; ((with_reducible refine (HE.out _ (by have := HD.out; omega)).mono ?_); rintro e w6 ⟨⟨v6, rfl, ⟨A6, k6, c6, rfl⟩, hrob⟩, hb6⟩; have q2 := (hb6.block _ hbl).trans HB2.out; have z0 := (box4 q2).2.2.2; have zl := lt_heap q2; have own6 := Lib.hid (HO.out.kept (row := none) ⟨hb6.os, hb6.tape, hb6.output, hb6.size, fun q hq _ => hb6.block q hq⟩ (by simp; exact Classical.em _)); have s6 := hb6.size))
              | (at_builtin; refine wp_app_ex rfl rfl ((own6.out.alloc _).alloc _) (by simp only [World.size_alloc]; omega) rfl rfl (new2 _ _ _) ⟨_, _, _, rfl⟩ (by omega) ?_; intro v7 w7 hown7 hg7 hat7; obtain ⟨X7, c7, rfl⟩ := own_form hown7; have q7 := blk_grown (old_at (old_at q2)) hg7 (fun e => by have := (HO.out.lt _ e.symm).1; omega); have z7 := (box4 q7).2.2.2; have zf := box_frozen q7 3; have zl7 := lt_heap q7))
            go_roundw
            case rel =>
              have t6 : Below wr.heap.size wr ((w6.alloc (exO (plOp op1) n1 s1 (.slice A6 k6 c6))).alloc (exO (plOp op1) n1 s1 (.slice A6 k6 c6))) := (hb6.alloc s6 _).alloc (Nat.le_trans s6 (by simp)) _
              have hlo3 : w.heap.size + 3 ≤ wr.heap.size := hbl
              have hg7' := hg7
              have ob : ∀ b, (Value.slice X k c).ownBlock = some b → w.heap.size + 3 ≤ b ∧ b < wr.heap.size := fun b e => HO.out.lt b e
              have blk7 : ∀ b, b < wr.heap.size → some b ≠ (Value.slice X k c).ownBlock → w7.heap[b]? = wr.heap[b]? := fun b hb hne => (hg7.block b (Nat.lt_of_lt_of_le hb t6.size) hne).trans (t6.block b hb)
              have lo7 : ∀ b, b < w.heap.size + 3 → w7.heap[b]? = wr.heap[b]? := fun b hb => blk7 b (by omega) (fun e => by have := (ob b e.symm).1; omega)
              have s7 : ((w6.alloc (exO (plOp op1) n1 s1 (.slice A6 k6 c6))).alloc (exO (plOp op1) n1 s1 (.slice A6 k6 c6))).heap.size ≤ w7.heap.size := hg7.size
              have hz7 : wr.heap.size ≤ w7.heap.size := Nat.le_trans t6.size s7
              have new7 : ∀ b, (Value.slice X7 (k + 1) c7).ownBlock = some b → (Value.slice X k c).ownBlock = some b ∨ w6.heap.size ≤ b := fun b e => by
                rcases hat7 with h | h
                · exact Or.inl (h.symm.trans e)
                · rw [h] at e; injection e with e; refine Or.inr ?_; simp only [World.size_alloc] at e; omega
              have hset : Below (w.heap.size + 2) w7 (w7.setCell ⟨w.heap.size + 2, 3, none⟩ (.slice X7 (k + 1) c7)) := Below.setCell (Below.refl (w.heap.size + 2) w7) (p := ⟨w.heap.size + 2, 3, none⟩) (Nat.le_refl _) _
              have t66 : Below w6.heap.size w6 ((w6.alloc (exO (plOp op1) n1 s1 (.slice A6 k6 c6))).alloc (exO (plOp op1) n1 s1 (.slice A6 k6 c6))) := ((Below.refl _ _).alloc (Nat.le_refl _) _).alloc (by simp) _
              have blk76 : ∀ b, b < w6.heap.size → some b ≠ (Value.slice X k c).ownBlock → w7.heap[b]? = w6.heap[b]? := fun b hb hne => (hg7.block b (Nat.lt_of_lt_of_le hb t66.size) hne).trans (t66.block b hb)
              have hs8 : (w7.setCell ⟨w.heap.size + 2, 3, none⟩ (.slice X7 (k + 1) c7)).heap.size = w7.heap.size := by simp
              have blk8 : ∀ b, w.heap.size + 3 ≤ b → (w7.setCell ⟨w.heap.size + 2, 3, none⟩ (.slice X7 (k + 1) c7)).heap[b]? = w7.heap[b]? := fun b hb => Below.heap_setCell _ _ _ _ (by simp only; omega)
              have rnew : Rob (w.heap.size + 3) (Value.slice X7 (k + 1) c7).ownBlock (w7.setCell ⟨w.heap.size + 2, 3, none⟩ (.slice X7 (k + 1) c7)) (.slice A6 k6 c6) (l1.pl d1) :=
                (hrob.new hlo3 (g := (Value.slice X k c).ownBlock) (fun b e => (ob b e).2)).step (by rw [hs8]; exact Nat.le_trans t66.size s7) (fun b h1 h2 h3 => (blk8 b h1).trans (blk76 b h2 h3)) new7
              have hce := HCE.out.mono (fun v l (h : Rob _ _ _ v l) => h.step (W1 := w7.setCell ⟨w.heap.size + 2, 3, none⟩ (.slice X7 (k + 1) c7)) (g1 := (Value.slice X7 (k + 1) c7).ownBlock) (by rw [hs8]; exact hz7) (fun b h1 h2 h3 => (blk8 b h1).trans (blk7 b h2 h3)) (fun b e => (new7 b e).imp_right fun h => Nat.le_trans s6 h))
              have hpk := HPK.out
              have hne7 : some (w.heap.size + 2) ≠ (Value.slice X7 (k + 1) c7).ownBlock := fun e => by have := (hown7.lt _ e.symm).1; omega
              have low7 : Below w.heap.size w w7 := (HLO.out.trans (t6.mono HLO.out.size)).grown hg7 (Nat.le_trans HLO.out.size t6.size) (fun q e => by have := (ob q e).1; omega)
              refine ⟨k + 1, pre.app (.cons op1 n1 s1 l1 .nil), r, X7, c7, cs ++ [.int .i64 (plOp op1), .int .i64 n1, .string s1, .slice A6 k6 c6], by go_num, by have := HK.out; simp [ES.len] at this; omega, by rw [ES.app_assoc]; exact HLL.out, ?_, hcn.2, hth4, fun _ => ⟨b, o, rfl, hb, by rw [show o + (k + 1) * 4 = o + k * 4 + 4 by omega]; exact HR.out⟩, (hset.block w.heap.size (by omega)).trans ((lo7 w.heap.size (by omega)).trans HB0.out), (hset.block (w.heap.size + 1) (by omega)).trans ((lo7 (w.heap.size + 1) (by omega)).trans HB1.out), (heap_set q7 3 _).trans rfl, own_set hown7 (a := ⟨w.heap.size + 2, 3, none⟩) hne7 _, ?_, Below.setCell low7 (p := ⟨w.heap.size + 2, 3, none⟩) (Nat.le_add_right _ _) _⟩
              · rw [HD.out] at hpk ⊢
                rw [ES.pl_app, ES.app_len, hpk]; rfl
              · rw [HD.out] at hce ⊢
                rw [ES.pl_app]
                exact ES.Cells.app (ES.Cells.one rnew ⟨_, _, _, rfl⟩ (plOp_ok h4)) hce
            case measure => simp [intOf]; omega
        · have hfin : l.pl d = pre.pl d := by
            rcases Nat.eq_zero_or_pos d with h0 | h0
            · rw [h0, ES.pl_zero, ES.pl_zero]
            · cases r with
              | nil => rw [hl, ES.app_nil]
              | cons _ _ _ _ _ => exact absurd ⟨by simp [ES.len], h0⟩ hgo
          have hcase : (k = len) ∨ (k < len ∧ d = 0) := by omega
          have HFIN := Lib.hid hfin
          have HO := Lib.hid hown
          have HLO := Lib.hid hlow
          have HCE := Lib.hid hcell
          have HPK := Lib.hid hpk
          have HB1 := Lib.hid b1
          obtain ⟨f0, f1, f2, f3⟩ := box4 b2
          have g0 := box_frozen b1 0
          have g1 := box_frozen b1 1
          have g2 := box_frozen b1 2
          have g3 := box_frozen b1 3
          obtain ⟨e0, e1, e2, e3⟩ := box4 b1
          have gl := lt_heap b1
          clear hfin hown hlow hcell hpk b0 b1 b2 hl hrt hr1 hgo hrK hk
          rcases hcase with hkl | ⟨hkl, hd00⟩
          · subst hkl
            go_wp2
            obtain ⟨W9, hW9⟩ : ∃ W, (((wr.setCell ⟨w.heap.size + 1, 0, none⟩ (.int .i64 (plOp op))).setCell ⟨w.heap.size + 1, 1, none⟩ (.int .i64 n)).setCell ⟨w.heap.size + 1, 2, none⟩ (.string s)).setCell ⟨w.heap.size + 1, 3, none⟩ (.slice X k c) = W := ⟨_, rfl⟩
            obtain ⟨r0, r1, r2⟩ := plain_end HB1.out HO.out HCE.out HLO.out HPK.out W9 hW9
            rw [hW9]
            obtain ⟨z0, z1, z2, z3⟩ := box4 r0
            exact bodyPost_ret (v := .agg #[.int .i64 (plOp op), .int .i64 n, .string s, .slice X k c]) (by simp [results, Try.results17, go_sem, z0, z1, z2, z3]) rfl ⟨⟨_, rfl, ⟨_, _, _, rfl⟩, by rw [HFIN.out]; exact r1⟩, r2⟩
          · go_wp2
            obtain ⟨W9, hW9⟩ : ∃ W, (((wr.setCell ⟨w.heap.size + 1, 0, none⟩ (.int .i64 (plOp op))).setCell ⟨w.heap.size + 1, 1, none⟩ (.int .i64 n)).setCell ⟨w.heap.size + 1, 2, none⟩ (.string s)).setCell ⟨w.heap.size + 1, 3, none⟩ (.slice X k c) = W := ⟨_, rfl⟩
            obtain ⟨r0, r1, r2⟩ := plain_end HB1.out HO.out HCE.out HLO.out HPK.out W9 hW9
            rw [hW9]
            obtain ⟨z0, z1, z2, z3⟩ := box4 r0
            exact bodyPost_ret (v := .agg #[.int .i64 (plOp op), .int .i64 n, .string s, .slice X k c]) (by simp [results, Try.results17, go_sem, z0, z1, z2, z3]) rfl ⟨⟨_, rfl, ⟨_, _, _, rfl⟩, by rw [HFIN.out]; exact r1⟩, r2⟩
theorem plain_all : ∀ K, PlHas K
  | 0 => fun _ _ _ _ _ _ _ h => absurd h (Nat.not_lt_zero _)
  | K + 1 => plain_step K (plain_all K)
/-- plain, of any expression: what it makes stays as long as nothing below writes it. -/
theorem plain_any (op n : Int) (s : ByteArray) (v : Value) (l : ES) (d : Nat) (w : World) (hv : EV w.heap.size w v l) (hl : l.len * 56 ≤ 140737488351232) (ht : l.thin) (ho : okE op n s) (hd : d ≤ 60) :
    Calls Try.prog 17 #[.agg #[.int .i64 op, .int .i64 n, .string s, v], .int .i64 d] w fun e w' => (∃ v', e = .returned (.agg #[.int .i64 (plOp op), .int .i64 n, .string s, v']) ∧ (∃ A k c, v' = .slice A k c) ∧ EV w'.heap.size w' v' (l.pl d)) ∧ Below w.heap.size w w' :=
  (plain_all (l.cnt + 1) op n s v l d w (Nat.lt_succ_self _) hv hl ht ho hd).mono fun _ w' ⟨⟨v', h1, h2, h3⟩, h4⟩ => ⟨⟨v', h1, h2, h3 w' (Nat.le_refl _) fun _ _ _ _ => rfl⟩, h4⟩
end Go.Proofs.Ythfcnnicpmkclaa
