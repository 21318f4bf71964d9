/-
  Statements as a list; two of them in the other order (plain, and in memory).
-/
import Derived.Test.YtnjghoaelcpljaaDoorTreeDp
namespace Go.Proofs.YtnjghoaelcpljaaDoor
open Go Go.RowKit Go.Lib

structure St where
  op : Int
  s : ByteArray
  n : Int
  l : ES
  x : SS
  y : SS
def stL : SS → List St
  | .nil => []
  | .cons op s n l x y r => ⟨op, s, n, l, x, y⟩ :: stL r
def ofL : List St → SS
  | [] => .nil
  | t :: r => .cons t.op t.s t.n t.l t.x t.y (ofL r)
theorem ofL_stL : ∀ m : SS, ofL (stL m) = m
  | .nil => rfl
  | .cons _ _ _ _ _ _ r => by rw [stL, ofL, ofL_stL r]
theorem stL_ofL : ∀ l : List St, stL (ofL l) = l
  | [] => rfl
  | _ :: r => by rw [ofL, stL, stL_ofL r]
theorem stL_len : ∀ m : SS, (stL m).length = m.len
  | .nil => rfl
  | .cons _ _ _ _ _ _ r => by rw [stL, List.length_cons, stL_len r, SS.len]
theorem ofL_len (l : List St) : (ofL l).len = l.length := by rw [← stL_len, stL_ofL]
theorem ofL_inj {a b : List St} (h : ofL a = ofL b) : a = b := by rw [← stL_ofL a, h, stL_ofL]

theorem deep_perm {a b : List St} (h : a.Perm b) : (ofL a).deep = (ofL b).deep := by
  induction h with
  | nil => rfl
  | cons _ _ ih => simp only [ofL, SS.deep, ih]
  | swap _ _ _ => simp only [ofL, SS.deep]; omega
  | trans _ _ ih1 ih2 => exact ih1.trans ih2
theorem cnt_perm {a b : List St} (h : a.Perm b) : (ofL a).cnt = (ofL b).cnt := by
  induction h with
  | nil => rfl
  | cons _ _ ih => simp only [ofL, SS.cnt, ih]
  | swap _ _ _ => simp only [ofL, SS.cnt]; omega
  | trans _ _ ih1 ih2 => exact ih1.trans ih2

/-- The i-th and the k-th in the other order. -/
def swL (l : List St) (i k : Nat) (hi : i < l.length) (hk : k < l.length) : List St := (l.set i l[k]).set k l[i]
theorem swL_perm (l : List St) (i k : Nat) (hi : i < l.length) (hk : k < l.length) : (swL l i k hi hk).Perm l := List.set_set_perm hi hk
theorem swL_len (l : List St) (i k : Nat) (hi : i < l.length) (hk : k < l.length) : (swL l i k hi hk).length = l.length := by simp [swL]
theorem swL_same (l : List St) (i k : Nat) (hi : i < l.length) (hk : k < l.length) : swL l i k hi hk = l ↔ l[i] = l[k] := by
  constructor
  · intro h
    by_cases e : i = k
    · subst e; rfl
    · have h2 : (swL l i k hi hk)[i]? = l[i]? := by rw [h]
      unfold swL at h2
      rw [List.getElem?_set_ne (Ne.symm e), List.getElem?_set_self hi, List.getElem?_eq_getElem hi] at h2
      exact (Option.some.inj h2).symm
  · intro h
    unfold swL
    rw [← h, List.set_getElem_self, h, List.set_getElem_self]
theorem swL_at (l : List St) (i k : Nat) (hi : i < l.length) (hk : k < l.length) (t : Nat) (ht : t < l.length) : (swL l i k hi hk)[t]? = some (if t = k then l[i] else if t = i then l[k] else l[t]) := by
  unfold swL
  rw [List.getElem?_set]
  by_cases e : k = t
  · subst e; simp [hk]
  · rw [if_neg e, List.getElem?_set, if_neg (Ne.symm e)]
    by_cases e2 : i = t
    · subst e2; simp [hi]
    · rw [if_neg e2, if_neg (Ne.symm e2), List.getElem?_eq_getElem ht]

/-- What stands for a statement: its six cells. -/
def Row6 (B : Nat) (W : World) (t : St) (r : List Value) : Prop :=
  ∃ vl vx vy, r = [.int .i64 t.op, .string t.s, .int .i64 t.n, vl, vx, vy] ∧ EV B W vl t.l ∧ SV B W vx t.x ∧ SV B W vy t.y ∧ (I64 t.op ∧ I64 t.n ∧ t.s.size ≤ 9223372036854775807)
theorem Row6.below {B B' : Nat} {W W' : World} {t : St} {r : List Value} (h : Row6 B W t r) (hb : Below B W W') (hB : B ≤ B') : Row6 B' W' t r := by
  obtain ⟨vl, vx, vy, e, h1, h2, h3, h4⟩ := h
  exact ⟨vl, vx, vy, e, EV.below h1 hb hB, SV.below h2 hb hB, SV.below h3 hb hB, h4⟩
theorem rows_of {B : Nat} {W : World} : ∀ {m : SS} {cs : List Value}, m.Cells B W cs → ∃ R : Nat → List Value, ∀ t (ht : t < (stL m).length), Row6 B W (stL m)[t] (R t) ∧ ∀ j, j < 6 → cs[t * 6 + j]? = (R t)[j]?
  | .nil, _, _ => ⟨fun _ => [], fun t ht => by simp [stL] at ht⟩
  | .cons op s n l x y r, cs, ⟨vl, vx, vy, rest, e, h1, h2, h3, h4, hr⟩ => by
    obtain ⟨R, hR⟩ := rows_of hr
    refine ⟨fun t => match t with | 0 => [.int .i64 op, .string s, .int .i64 n, vl, vx, vy] | t + 1 => R t, fun t ht => ?_⟩
    subst e
    match t, ht with
    | 0, _ =>
      refine ⟨⟨vl, vx, vy, rfl, h1, h2, h3, h4⟩, fun j hj => ?_⟩
      have hj' : j = 0 ∨ j = 1 ∨ j = 2 ∨ j = 3 ∨ j = 4 ∨ j = 5 := by omega
      rcases hj' with rfl | rfl | rfl | rfl | rfl | rfl <;> rfl
    | t + 1, ht =>
      have h := hR t (by simpa [stL] using ht)
      refine ⟨h.1, fun j hj => ?_⟩
      rw [← h.2 j hj, show (t + 1) * 6 + j = t * 6 + j + 6 by omega]
      rfl
theorem rows_in {B : Nat} {W : World} {g : Nat} : ∀ (l : List St) (o : Nat), (∀ t (ht : t < l.length), ∃ r, Row6 B W l[t] r ∧ ∀ j, j < 6 → W.cell? ⟨g, o + (t * 6 + j), none⟩ = r[j]?) → (ofL l).In B W g o
  | [], _, _ => trivial
  | st :: l, o, h => by
    obtain ⟨r, ⟨vl, vx, vy, e, h1, h2, h3, h4⟩, hc⟩ := h 0 (by simp)
    subst e
    have c := fun j hj => (hc j hj)
    refine ⟨?_, ?_, ?_, ⟨vl, ?_, h1⟩, ⟨vx, ?_, h2⟩, ⟨vy, ?_, h3⟩, h4, rows_in l (o + 6) fun t ht => ?_⟩
    · simpa using c 0 (by decide)
    · simpa using c 1 (by decide)
    · simpa using c 2 (by decide)
    · simpa using c 3 (by decide)
    · simpa using c 4 (by decide)
    · simpa using c 5 (by decide)
    · obtain ⟨r', h5, h6⟩ := h (t + 1) (by simpa using ht)
      refine ⟨r', by simpa using h5, fun j hj => ?_⟩
      rw [← h6 j hj, show o + 6 + (t * 6 + j) = o + ((t + 1) * 6 + j) by omega]

/-- Six cells that are stored one behind the other. -/
def set6 (W : World) (g o : Nat) (a b c d e f : Value) : World := (((((W.setCell ⟨g, o, none⟩ a).setCell ⟨g, o + 1, none⟩ b).setCell ⟨g, o + 2, none⟩ c).setCell ⟨g, o + 3, none⟩ d).setCell ⟨g, o + 4, none⟩ e).setCell ⟨g, o + 5, none⟩ f
theorem rd_other {W : World} {g o : Nat} {u : Value} {a : Addr} (h : (⟨g, o, none⟩ : Addr) ≠ a) : (W.setCell ⟨g, o, none⟩ u).cell? a = W.cell? a := World.cell?_setCell_other _ _ _ _ h
theorem set6_out {W : World} {g o : Nat} {a b c d e f : Value} {p : Addr} (h : ∀ j, j < 6 → (⟨g, o + j, none⟩ : Addr) ≠ p) : (set6 W g o a b c d e f).cell? p = W.cell? p := by
  unfold set6
  rw [rd_other (h 5 (by decide)), rd_other (h 4 (by decide)), rd_other (h 3 (by decide)), rd_other (h 2 (by decide)), rd_other (h 1 (by decide)), rd_other (show (⟨g, o, none⟩ : Addr) ≠ p from h 0 (by decide))]
theorem set6_in {W : World} {g o : Nat} {a b c d e f : Value} (h : ∀ j, j < 6 → ∃ u, W.cell? ⟨g, o + j, none⟩ = some u) : ∀ j, j < 6 → (set6 W g o a b c d e f).cell? ⟨g, o + j, none⟩ = [a, b, c, d, e, f][j]? := by
  intro j hj
  obtain ⟨u0, h0⟩ := h 0 (by decide)
  obtain ⟨u1, h1⟩ := h 1 (by decide)
  obtain ⟨u2, h2⟩ := h 2 (by decide)
  obtain ⟨u3, h3⟩ := h 3 (by decide)
  obtain ⟨u4, h4⟩ := h 4 (by decide)
  obtain ⟨u5, h5⟩ := h 5 (by decide)
  have ne : ∀ x y : Nat, x ≠ y → (⟨g, o + x, none⟩ : Addr) ≠ ⟨g, o + y, none⟩ := fun x y hxy e => by
    injection e with _ e _
    omega
  have n0 : ∀ y, y ≠ 0 → (⟨g, o, none⟩ : Addr) ≠ ⟨g, o + y, none⟩ := fun y hy => ne 0 y (Ne.symm hy)
  have n0' : ∀ y, y ≠ 0 → (⟨g, o + y, none⟩ : Addr) ≠ ⟨g, o, none⟩ := fun y hy => ne y 0 hy
  have hj' : j = 0 ∨ j = 1 ∨ j = 2 ∨ j = 3 ∨ j = 4 ∨ j = 5 := by omega
  unfold set6
  rcases hj' with rfl | rfl | rfl | rfl | rfl | rfl
  · show World.cell? _ (⟨g, o, none⟩ : Addr) = _
    rw [rd_other (n0' 5 (by decide)), rd_other (n0' 4 (by decide)), rd_other (n0' 3 (by decide)), rd_other (n0' 2 (by decide)), rd_other (n0' 1 (by decide))]
    exact World.cell?_setCell_same _ _ _ h0
  · rw [rd_other (ne 5 1 (by decide)), rd_other (ne 4 1 (by decide)), rd_other (ne 3 1 (by decide)), rd_other (ne 2 1 (by decide))]
    exact World.cell?_setCell_same (u := u1) _ _ _ (by rw [rd_other (n0 1 (by decide))]; exact h1)
  · rw [rd_other (ne 5 2 (by decide)), rd_other (ne 4 2 (by decide)), rd_other (ne 3 2 (by decide))]
    exact World.cell?_setCell_same (u := u2) _ _ _ (by rw [rd_other (ne 1 2 (by decide)), rd_other (n0 2 (by decide))]; exact h2)
  · rw [rd_other (ne 5 3 (by decide)), rd_other (ne 4 3 (by decide))]
    exact World.cell?_setCell_same (u := u3) _ _ _ (by rw [rd_other (ne 2 3 (by decide)), rd_other (ne 1 3 (by decide)), rd_other (n0 3 (by decide))]; exact h3)
  · rw [rd_other (ne 5 4 (by decide))]
    exact World.cell?_setCell_same (u := u4) _ _ _ (by rw [rd_other (ne 3 4 (by decide)), rd_other (ne 2 4 (by decide)), rd_other (ne 1 4 (by decide)), rd_other (n0 4 (by decide))]; exact h4)
  · exact World.cell?_setCell_same (u := u5) _ _ _ (by rw [rd_other (ne 4 5 (by decide)), rd_other (ne 3 5 (by decide)), rd_other (ne 2 5 (by decide)), rd_other (ne 1 5 (by decide)), rd_other (n0 5 (by decide))]; exact h5)
theorem set6_below {W0 W : World} {g o : Nat} {a b c d e f : Value} (h : Below W0.heap.size W0 W) (hg : W0.heap.size ≤ g) : Below W0.heap.size W0 (set6 W g o a b c d e f) :=
  belowS (belowS (belowS (belowS (belowS (belowS h hg _) hg _) hg _) hg _) hg _) hg _
theorem set6_size {W : World} {g o : Nat} {a b c d e f : Value} : (set6 W g o a b c d e f).heap.size = W.heap.size := by simp [set6]

theorem put_row {W : World} {g len i : Nat} {R : Nat → List Value} {a b c d e f : Value} (hR : ∀ t, t < len → ∀ j, j < 6 → W.cell? ⟨g, t * 6 + j, none⟩ = (R t)[j]?) (h6 : ∀ t, t < len → (R t).length = 6) (hi : i < len) :
    ∀ t, t < len → ∀ j, j < 6 → (set6 W g (i * 6) a b c d e f).cell? ⟨g, t * 6 + j, none⟩ = (if t = i then [a, b, c, d, e, f] else R t)[j]? := by
  intro t ht j hj
  by_cases e : t = i
  · subst e
    rw [if_pos rfl]
    exact set6_in (fun j hj => ⟨_, (hR t ht j hj).trans (List.getElem?_eq_getElem (by rw [h6 t ht]; exact hj))⟩) j hj
  · rw [if_neg e, ← hR t ht j hj]
    exact set6_out fun j' hj' he => by
      injection he with _ he _
      omega
theorem set6_own {W : World} {base e size n g o : Nat} {v a b c d e' f : Value} {xs : List Value} (h : W.ownsRow base e size v n xs) (hne : some g ≠ v.ownBlock) : (set6 W g o a b c d e' f).ownsRow base e size v n xs :=
  own_set (own_set (own_set (own_set (own_set (own_set h hne _) hne _) hne _) hne _) hne _) hne _
theorem set6_frozen {W : World} {g o : Nat} {a b c d e f : Value} {p : Addr} : (set6 W g o a b c d e f).frozen? p = W.frozen? p := by
  unfold set6
  simp only [World.frozen?_setCell]
theorem own_up {W W' : World} {base e size n : Nat} {v : Value} {xs : List Value} (h : W.ownsRow base e size v n xs) (hb : Below W.heap.size W W') : W'.ownsRow base e size v n xs :=
  h.kept (row := none) ⟨hb.os, hb.tape, hb.output, hb.size, fun k hk _ => hb.block k hk⟩ (by cases v.ownBlock <;> simp)
theorem in_nth {B : Nat} {W : World} {b : Nat} : ∀ {m : SS} {o : Nat}, m.In B W b o → ∀ t (ht : t < (stL m).length), (ofL [(stL m)[t]]).In B W b (o + t * 6)
  | .nil, _, _, t, ht => by simp [stL] at ht
  | .cons _ _ _ _ _ _ r, o, ⟨c0, c1, c2, h3, h4, h5, h6, hr⟩, t, ht => by
    match t, ht with
    | 0, _ =>
      rw [Nat.zero_mul, Nat.add_zero]
      exact ⟨c0, c1, c2, h3, h4, h5, h6, trivial⟩
    | t + 1, ht =>
      have h := in_nth hr t (by simpa [stL] using ht)
      rw [show o + (t + 1) * 6 = o + 6 + t * 6 by omega]
      exact h
/-- One statement of a slice. -/
theorem sv_nth {B : Nat} {W : World} {b o n cap : Nat} {m : SS} (h : SV B W (.slice (some ⟨b, o, none⟩) n cap) m) (t : Nat) (ht : t < (stL m).length) : SV B W (.slice (some ⟨b, o + t * 6, none⟩) 1 (cap - t)) (ofL [(stL m)[t]]) := by
  obtain ⟨A1, cap1, e, h1, h2, hr⟩ := h
  injection e with e1 e2 e3
  subst e1 e2 e3
  have hl : t < m.len := by rw [← stL_len]; exact ht
  obtain ⟨b1, o1, e4, hb, hi⟩ := hr (by omega)
  injection e4 with e4
  injection e4 with e5 e6 _
  subst e5 e6
  exact ⟨some ⟨b, o + t * 6, none⟩, cap - t, rfl, by show 1 ≤ cap - t; omega, by omega, fun _ => ⟨b, o + t * 6, rfl, hb, in_nth hi t ht⟩⟩
/-- The swapped statements as a slice. -/
theorem sw_sv {W : World} {g cap i k B : Nat} {m : SS} {R : Nat → List Value} (hi : i < (stL m).length) (hk : k < (stL m).length) (hB : B ≤ W.heap.size) (hR : ∀ t (ht : t < (stL m).length), Row6 B W (stL m)[t] (R t))
    (hc : ∀ t, t < m.len → ∀ j, j < 6 → W.cell? ⟨g, t * 6 + j, none⟩ = (if t = k then R i else if t = i then R k else R t)[j]?) (hg : g < W.heap.size) (h1 : m.len ≤ cap) (h2 : cap ≤ 9223372036854775807) :
    SV W.heap.size W (.slice (some ⟨g, 0, none⟩) m.len cap) (ofL (swL (stL m) i k hi hk)) := by
  have hlen : (ofL (swL (stL m) i k hi hk)).len = m.len := by rw [ofL_len, swL_len, stL_len]
  refine ⟨some ⟨g, 0, none⟩, cap, by rw [hlen], by rw [hlen]; exact h1, h2, fun _ => ⟨g, 0, rfl, hg, rows_in _ 0 fun t ht => ?_⟩⟩
  have ht2 : t < (stL m).length := by rw [swL_len] at ht; exact ht
  have he := swL_at (stL m) i k hi hk t ht2
  rw [List.getElem?_eq_getElem ht] at he
  have he := Option.some.inj he
  refine ⟨if t = k then R i else if t = i then R k else R t, ?_, fun j hj => ?_⟩
  · rw [he]
    have hb := Below.refl B W
    by_cases e1 : t = k
    · rw [if_pos e1, if_pos e1]; exact (hR i hi).below hb hB
    · rw [if_neg e1, if_neg e1]
      by_cases e2 : t = i
      · rw [if_pos e2, if_pos e2]; exact (hR k hk).below hb hB
      · rw [if_neg e2, if_neg e2]; exact (hR t ht2).below hb hB
  · rw [Nat.zero_add]
    exact hc t (by rw [← stL_len]; exact ht2) j hj
theorem sw_deep (p : Pg) (i k : Nat) (hi : i < (stL p.m).length) (hk : k < (stL p.m).length) : deepL (⟨p.fs, ofL (swL (stL p.m) i k hi hk)⟩ : Pg).pts = deepL p.pts := by
  simp only [Pg.pts, deepL_append, SS.deepL]
  rw [deep_perm (swL_perm _ i k hi hk), ofL_stL]
theorem sw_cnt (p : Pg) (i k : Nat) (hi : i < (stL p.m).length) (hk : k < (stL p.m).length) : cntL (⟨p.fs, ofL (swL (stL p.m) i k hi hk)⟩ : Pg).pts = cntL p.pts := by
  simp only [Pg.pts, cntL_append, SS.cntL]
  rw [cnt_perm (swL_perm _ i k hi hk), ofL_stL]
theorem sw_eq (p : Pg) (i k : Nat) (hi : i < (stL p.m).length) (hk : k < (stL p.m).length) : eqG p ⟨p.fs, ofL (swL (stL p.m) i k hi hk)⟩ = eqG ⟨[], ofL [(stL p.m)[i]]⟩ ⟨[], ofL [(stL p.m)[k]]⟩ := by
  rw [Bool.eq_iff_iff, eqG_iff, eqG_iff]
  constructor
  · intro h
    have h2 := congrArg Pg.m h
    have h3 : swL (stL p.m) i k hi hk = stL p.m := ofL_inj (by rw [ofL_stL]; exact h2.symm)
    rw [(swL_same _ i k hi hk).1 h3]
  · intro h
    have h2 := ofL_inj (congrArg Pg.m h)
    injection h2 with h2 _
    have h3 := (swL_same _ i k hi hk).2 h2
    rw [h3, ofL_stL]

theorem drew_cell (W : World) (a : Addr) : W.drew.cell? a = W.cell? a := rfl
theorem drew_frozen (W : World) (a : Addr) : W.drew.frozen? a = W.frozen? a := rfl
theorem drew_size (W : World) : W.drew.heap.size = W.heap.size := rfl

end Go.Proofs.YtnjghoaelcpljaaDoor
