/-
  Texts PaX PaY PaZ: put together.
-/
import Derived.Test.YtaajolemjgdfnaaDoorPaW
import Derived.Test.YtaajolemjgdfnaaDoorPaU
/-
  Package parse: an expression, whole.
-/
namespace Go.Proofs.YtaajolemjgdfnaaDoor
open Go Go.RowKit Go.Lib

/-- What binds at least so strongly; by the count of steps. -/
theorem binds_any {rb g N cT : Nat} {T : List Tok} : ∀ n l W i o, Rd W rb g N cT T i o → 1 ≤ l → l ≤ 6 → exT n l o (T.drop i) ≠ .out →
    Calls Tryd.prog 87 #[.pointer (some ⟨rb, 0, none⟩), .int .i64 l] W (XP rb g N cT o T W (exT n l o (T.drop i)))
  | 0, _, _, _, _, _, _, _, hx => absurd rfl hx
  | n + 1, l, W, i, o, h, h1, h6, hx => by
    have IH := binds_any (rb := rb) (g := g) (N := N) (cT := cT) (T := T) n
    have HEX : ∀ W i o, Rd W rb g N cT T i o → exT n 1 o (T.drop i) ≠ .out → Calls Tryd.prog 85 #[.pointer (some ⟨rb, 0, none⟩)] W (XP rb g N cT o T W (exT n 1 o (T.drop i))) :=
      fun W i o h hx => expr_any h _ hx fun W2 h2 => IH 1 W2 i o h2 (Nat.le_refl _) (by omega) hx
    have HL : ∀ l o ts v r, exT n l o ts = .ok v r → r.length ≤ ts.length := fun l o ts v r e => expr_left e
    have HNM : ∀ m W i o, Rd W rb g N cT T i o → namedT (exT n) m o (T.drop i) ≠ .out → Calls Tryd.prog 91 #[.pointer (some ⟨rb, 0, none⟩)] W (XP rb g N cT o T W (namedT (exT n) m o (T.drop i))) :=
      fun m W i o h hx => nmd_any h (exT n) m hx HL fun W2 i' h2 hx2 => HEX W2 i' (o + 1) h2 hx2
    rw [exT] at hx ⊢
    exact bind_any h (exT n) l (n + 1) h1 h6 hx (fun l ts v r => HL l o ts v r) (fun W2 h2 hs => single_any (exT n) HEX HNM (n + 1) W2 i o h2 hs) (fun W2 i' l' h2 a b hx => IH l' W2 i' o h2 a b hx)
/-- The method expression, whole. -/
theorem expression_any {W : World} {rb g N cT i o : Nat} {T : List Tok} (h : Rd W rb g N cT T i o) (n : Nat) (hx : exT n 1 o (T.drop i) ≠ .out) :
    Calls Tryd.prog 85 #[.pointer (some ⟨rb, 0, none⟩)] W (XP rb g N cT o T W (exT n 1 o (T.drop i))) :=
  expr_any h _ hx fun W2 h2 => binds_any n 1 W2 i o h2 (Nat.le_refl _) (by omega) hx
/-- The method within, whole. -/
theorem inside_any {W : World} {rb g N cT i o : Nat} {T : List Tok} (h : Rd W rb g N cT T i o) (s t : List UInt8) (hs : s ≠ []) (ht : t ≠ []) (hb : isT (T.drop i) s = true) (n : Nat) (hx : o < 256 → exT n 1 (o + 1) (T.drop (i + 1)) ≠ .out) :
    Calls Tryd.prog 86 #[.pointer (some ⟨rb, 0, none⟩), .string (baT s), .string (baT t)] W (XP rb g N cT o T W (withinT (exT n) s t o (T.drop i))) :=
  within_any h s t hs ht hb (exT n) hx fun _ h2 => expression_any h2 n (hx (by have := h2.small; omega))

end Go.Proofs.YtaajolemjgdfnaaDoor

/-
  Package parse: statements: what a call that reads one has done; tell.
-/
namespace Go.Proofs.YtaajolemjgdfnaaDoor
open Go Go.RowKit Go.Lib

/-- What can be a statement's cells. -/
def okS (t : Sm) : Prop := I64 t.op ∧ I64 t.n ∧ t.s.size ≤ 9223372036854775807
/-- A statement's value. -/
def TV (lo : Nat) (W : World) (v : Value) (t : Sm) : Prop := ∃ vl vx vy, v = .agg #[.int .i64 t.op, .string t.s, .int .i64 t.n, vl, vx, vy] ∧ EX lo W vl t.l ∧ SX lo W vx t.x ∧ SX lo W vy t.y ∧ okS t
theorem TV.kp {lo lo' : Nat} {W W' : World} {v : Value} {t : Sm} (hv : TV lo W v t) (h : Kp lo W W') (hl : lo' ≤ lo) : TV lo' W' v t := by
  obtain ⟨vl, vx, vy, e, h1, h2, h3, h4⟩ := hv
  exact ⟨vl, vx, vy, e, h1.kp h hl, h2.kp h hl, h3.kp h hl, h4⟩
/-- What a call that reads a statement has done. -/
def TP (rb g N cT o : Nat) (T : List Tok) (W : World) (x : PR Sm) (e : Ending) (W' : World) : Prop :=
  match x with
  | .ok v r => (∃ vv, e = .returned vv ∧ TV W.heap.size W' vv v) ∧ (∃ i, Rd W' rb g N cT T i o ∧ T.drop i = r) ∧ Gr rb W W'
  | .bad p c => e = flt p c ∧ Gr rb W W'
  | .out => True
/-- Six cells that are stored one behind the other. -/
def put6 (W : World) (n : Nat) (a b c d x y : Value) : World := ((put4 W n a b c d).setCell ⟨n, 4, none⟩ x).setCell ⟨n, 5, none⟩ y
section
variable {W W' : World} {rb g N cT i o n lo : Nat} {T : List Tok} {a b c d x y : Value}
theorem Rd.put6 (h : Rd W rb g N cT T i o) (hb : n ≠ rb) (hg : n ≠ g) : Rd (put6 W n a b c d x y) rb g N cT T i o := ((h.put4 hb hg).set x hb hg).set y hb hg
theorem Gr.put6 (h : Gr rb W W') (hb : W.heap.size ≤ n) : Gr rb W (put6 W' n a b c d x y) := ((h.put4 hb).setNew x hb).setNew y hb
theorem Kp.put6 (hb : n < lo) : Kp lo W (put6 W n a b c d x y) := ((Kp.put4 hb).trans (Kp.set x hb)).trans (Kp.set y hb)
theorem put6_heap {p q r s u v : Value} {t : TypeId} (h : W.heap[n]? = some (.cells #[p, q, r, s, u, v] t)) : (put6 W n a b c d x y).heap[n]? = some (.cells #[a, b, c, d, x, y] t) := by
  simp [Proofs.YtaajolemjgdfnaaDoor.put6, Proofs.YtaajolemjgdfnaaDoor.put4, World.setCell, Array.getElem?_modify, h]
end
theorem sl0 : (SS.nil).len = 0 := rfl

set_option maxRecDepth 100000 in
theorem tell_bad {W : World} {rb g N cT i o : Nat} {T : List Tok} (h : Rd W rb g N cT T i o) (op : Int) (p c : Nat)
    (HS : ∀ W2, Rd W2 rb g N cT T i o → Calls Tryd.prog 85 #[.pointer (some ⟨rb, 0, none⟩)] W2 (XP rb g N cT o T W2 (.bad p c))) :
    Calls Tryd.prog 79 #[.pointer (some ⟨rb, 0, none⟩), .int .i64 op] W (TP rb g N cT o T W (.bad p c)) := by
  have HSS := Lib.hid HS
  have HR := Lib.hid h
  clear HS h
  go_enter Tryd.func79, Tryd.ntmps79
  go_wp2_with (go_at_call 85; ((with_reducible refine (HSS.out _ (HR.out.alloc _)).mono ?_); rintro e w2 ⟨rfl, g2⟩))
  exact ⟨rfl, rfl, ((Gr.refl rb W).alloc _).trans g2⟩

set_option maxRecDepth 100000 in
theorem tell_yes {W : World} {rb g N cT i o : Nat} {T : List Tok} (h : Rd W rb g N cT T i o) (op : Int) (hop : I64 op) (v : Ex) (r : List Tok)
    (HS : ∀ W2, Rd W2 rb g N cT T i o → Calls Tryd.prog 85 #[.pointer (some ⟨rb, 0, none⟩)] W2 (XP rb g N cT o T W2 (.ok v r))) :
    Calls Tryd.prog 79 #[.pointer (some ⟨rb, 0, none⟩), .int .i64 op] W (TP rb g N cT o T W (.ok ⟨op, nilS, 0, toES v .nil, .nil, .nil⟩ r)) := by
  have HSS := Lib.hid HS
  have HR := Lib.hid h
  have hrl := h.rlt
  have hgl := h.tok.1
  clear HS h
  have HB := Lib.hid (fun w2 (g2 : Gr rb (W.alloc (.cells #[.int .i64 0, .string ⟨#[]⟩, .int .i64 0, .slice none 0 0, .slice none 0 0, .slice none 0 0] 45)) w2) c => (Below.heap_alloc w2 c W.heap.size (by have := g2.size; simp at this; omega)).trans ((g2.block (k := W.heap.size) (by simp) (by omega)).trans (heap_alloc_new W _)))
  go_enter Tryd.func79, Tryd.ntmps79
  go_upto_region 2 with (go_at_call 85; ((with_reducible refine (HSS.out _ (HR.out.alloc _)).mono ?_); rintro e w2 ⟨⟨vv, rfl, vl, rfl, hv, hok⟩, ⟨i', h2, hd⟩, g2⟩; have B6 := HB.out w2 g2 (.cells #[.int .i64 v.op, .int .i64 v.n, .string v.s, vl] 43); have c0 := box_cell B6 0; have c1 := box_cell B6 1; have c2 := box_cell B6 2; have c3 := box_cell B6 3; have c4 := box_cell B6 4; have c5 := box_cell B6 5; have f0 := box_frozen B6 0; have f1 := box_frozen B6 1; have f2 := box_frozen B6 2; have f3 := box_frozen B6 3; have f4 := box_frozen B6 4; have f5 := box_frozen B6 5; simp only [List.getElem?_toArray, List.getElem?_cons_succ, List.getElem?_cons_zero] at c0 c1 c2 c3 c4 c5))
  clear c0 c1 c2 c3 c4 c5 f0 f1 f2 f3 f4 f5 HB HSS
  have z2 := g2.size
  rw [World.size_alloc] at z2
  have hA := heap_alloc_new w2 (.cells #[.int .i64 v.op, .int .i64 v.n, .string v.s, vl] 43)
  have h3 := h2.alloc (.cells #[.int .i64 v.op, .int .i64 v.n, .string v.s, vl] 43)
  have g3 := (((Gr.refl rb W).alloc (.cells #[.int .i64 0, .string ⟨#[]⟩, .int .i64 0, .slice none 0 0, .slice none 0 0, .slice none 0 0] 45)).trans g2).alloc (.cells #[.int .i64 v.op, .int .i64 v.n, .string v.s, vl] 43)
  have hEX : EX (W.heap.size + 1) (w2.alloc (.cells #[.int .i64 v.op, .int .i64 v.n, .string v.s, vl] 43)) (.slice (some ⟨w2.heap.size, 0, none⟩) 1 1) (toES v .nil) := ex_one hA (by omega) (hv.kp (Kp.below ((Below.refl _ _).alloc (Nat.le_refl _) _)) (by simp)) hok
  obtain ⟨w3, hw3⟩ : ∃ W3, w2.alloc (.cells #[.int .i64 v.op, .int .i64 v.n, .string v.s, vl] 43) = W3 := ⟨_, rfl⟩
  rw [hw3] at h3 g3 hEX B6 ⊢
  have hP := put6_heap (a := .int .i64 op) (b := .string ⟨#[]⟩) (c := .int .i64 0) (d := .slice (some ⟨w2.heap.size, 0, none⟩) 1 1) (x := .slice none 0 0) (y := .slice none 0 0) B6
  have hfin : TP rb g N cT o T W (.ok ⟨op, nilS, 0, toES v .nil, .nil, .nil⟩ r) (.returned (.agg #[.int .i64 op, .string ⟨#[]⟩, .int .i64 0, .slice (some ⟨w2.heap.size, 0, none⟩) 1 1, .slice none 0 0, .slice none 0 0])) (Proofs.YtaajolemjgdfnaaDoor.put6 w3 W.heap.size (.int .i64 op) (.string ⟨#[]⟩) (.int .i64 0) (.slice (some ⟨w2.heap.size, 0, none⟩) 1 1) (.slice none 0 0) (.slice none 0 0)) :=
    ⟨⟨_, rfl, _, _, _, rfl, hEX.kp (Kp.put6 (Nat.lt_succ_self _)) (Nat.le_succ _), sx_nil _ _, sx_nil _ _, hop, i64_0, by show nilS.size ≤ _; decide⟩, ⟨i', h3.put6 (by omega) (by omega), hd⟩, g3.put6 (Nat.le_refl _)⟩
  obtain ⟨w5, hw5⟩ : ∃ W5, Proofs.YtaajolemjgdfnaaDoor.put6 w3 W.heap.size (.int .i64 op) (.string ⟨#[]⟩) (.int .i64 0) (.slice (some ⟨w2.heap.size, 0, none⟩) 1 1) (.slice none 0 0) (.slice none 0 0) = W5 := ⟨_, rfl⟩
  show bodyPost _ _ _ _ _ (Proofs.YtaajolemjgdfnaaDoor.put6 w3 W.heap.size (.int .i64 op) (.string ⟨#[]⟩) (.int .i64 0) (.slice (some ⟨w2.heap.size, 0, none⟩) 1 1) (.slice none 0 0) (.slice none 0 0))
  rw [hw5] at hP hfin ⊢
  have p0 := box_cell hP 0
  have p1 := box_cell hP 1
  have p2 := box_cell hP 2
  have p3 := box_cell hP 3
  have p4 := box_cell hP 4
  have p5 := box_cell hP 5
  simp only [List.getElem?_toArray, List.getElem?_cons_succ, List.getElem?_cons_zero] at p0 p1 p2 p3 p4 p5
  exact bodyPost_ret (v := .agg #[.int .i64 op, .string ⟨#[]⟩, .int .i64 0, .slice (some ⟨w2.heap.size, 0, none⟩) 1 1, .slice none 0 0, .slice none 0 0]) (by simp [results, Tryd.results79, go_sem, p0, p1, p2, p3, p4, p5]) rfl hfin

/-- What tells one expression. -/
theorem tell_any {W : World} {rb g N cT i o : Nat} {T : List Tok} (h : Rd W rb g N cT T i o) (op : Int) (hop : I64 op) (n : Nat) (hx : exT n 1 o (T.drop i) ≠ .out) :
    Calls Tryd.prog 79 #[.pointer (some ⟨rb, 0, none⟩), .int .i64 op] W (TP rb g N cT o T W (tellT n op o (T.drop i))) := by
  have HS := fun W2 (h2 : Rd W2 rb g N cT T i o) => expression_any h2 n hx
  unfold tellT
  cases hv : exT n 1 o (T.drop i) with
  | out => exact absurd hv hx
  | bad p c =>
    rw [hv] at HS
    exact tell_bad h op p c HS
  | ok v r =>
    rw [hv] at HS
    exact tell_yes h op hop v r HS

end Go.Proofs.YtaajolemjgdfnaaDoor

/-
  Package parse: statements that are gathered in a row of the call's own.
-/
namespace Go.Proofs.YtaajolemjgdfnaaDoor
open Go Go.RowKit Go.Lib

abbrev SY (p : Nat → Prop) [DecidablePred p] (W : World) (v : Value) (l : SS) : Prop := SV W.heap.size (erp p W) v l
section
variable {p q : Nat → Prop} [DecidablePred p] [DecidablePred q] {W W' : World} {v : Value} {l : SS} {lo : Nat}
theorem SY.kp (hv : SY p W v l) (hs : W.heap.size ≤ W'.heap.size) (hk : ∀ k, p k → k < W.heap.size → W'.heap[k]? = W.heap[k]?) (hp : ∀ k, p k → k < W.heap.size → q k) : SY q W' v l :=
  RowV.imp hv hs fun _ _ hb hq => SS.In.ext hs (fun b j u hb hc => by
    rw [erp_cell] at hc ⊢
    by_cases e : p b
    · rw [if_pos e] at hc
      rw [if_pos (hp b e hb), World.cell?_of_block (a := ⟨b, j, none⟩) (hk b e hb)]
      exact hc
    · rw [if_neg e] at hc; cases hc) hb hq
theorem SY.of_sx (hv : SX lo W v l) (hk : Kp lo W W') (hp : ∀ k, lo ≤ k → k < W.heap.size → q k) : SY q W' v l :=
  RowV.imp hv hk.size fun _ _ hb hq => SS.In.ext hk.size (fun b j u hb hc => by
    rw [er_cell] at hc
    rw [erp_cell]
    by_cases e : b < lo
    · rw [if_pos e] at hc; cases hc
    · rw [if_neg e] at hc
      rw [if_pos (hp b (by omega) hb), World.cell?_of_block (a := ⟨b, j, none⟩) (hk.block b (by omega) hb)]
      exact hc) hb hq
theorem SX.of_sy (hv : SY p W v l) (hs : W.heap.size ≤ W'.heap.size) (hk : ∀ k, p k → k < W.heap.size → W'.heap[k]? = W.heap[k]?) (hp : ∀ k, p k → lo ≤ k) : SX lo W' v l :=
  RowV.imp hv hs fun _ _ hb hq => SS.In.ext hs (fun b j u hb hc => by
    rw [erp_cell] at hc
    rw [er_cell]
    by_cases e : p b
    · rw [if_pos e] at hc
      have := hp b e
      rw [if_neg (by omega), World.cell?_of_block (a := ⟨b, j, none⟩) (hk b e hb)]
      exact hc
    · rw [if_neg e] at hc; cases hc) hb hq
end
/-- The cells of statements that lie one behind the other. -/
def tCs (p : Nat → Prop) [DecidablePred p] (W : World) : List Sm → List Value → Prop
  | [] => fun cs => cs = []
  | t :: r => fun cs => ∃ vl vx vy rest, cs = .int .i64 t.op :: .string t.s :: .int .i64 t.n :: vl :: vx :: vy :: rest ∧ EY p W vl t.l ∧ SY p W vx t.x ∧ SY p W vy t.y ∧ okS t ∧ tCs p W r rest
section
variable {p q : Nat → Prop} [DecidablePred p] [DecidablePred q] {W W' : World}
theorem tCs.len : ∀ {l : List Sm} {cs : List Value}, tCs p W l cs → cs.length = l.length * 6
  | [], _, h => by rw [show _ = [] from h]; rfl
  | _ :: r, _, ⟨_, _, _, rest, e, _, _, _, _, hr⟩ => by rw [e]; simp [tCs.len hr]; omega
theorem tCs.kp (hs : W.heap.size ≤ W'.heap.size) (hk : ∀ k, p k → k < W.heap.size → W'.heap[k]? = W.heap[k]?) (hp : ∀ k, p k → k < W.heap.size → q k) : ∀ {l : List Sm} {cs : List Value}, tCs p W l cs → tCs q W' l cs
  | [], _, h => h
  | _ :: _, _, ⟨vl, vx, vy, rest, e, h1, h2, h3, h4, hr⟩ => ⟨vl, vx, vy, rest, e, h1.kp hs hk hp, h2.kp hs hk hp, h3.kp hs hk hp, h4, tCs.kp hs hk hp hr⟩
theorem tCs.snoc {t : Sm} {vl vx vy : Value} (h1 : EY p W vl t.l) (h2 : SY p W vx t.x) (h3 : SY p W vy t.y) (h4 : okS t) : ∀ {l : List Sm} {cs : List Value}, tCs p W l cs → tCs p W (l ++ [t]) (cs ++ [.int .i64 t.op, .string t.s, .int .i64 t.n, vl, vx, vy])
  | [], cs, h => by rw [show cs = [] from h]; exact ⟨vl, vx, vy, [], rfl, h1, h2, h3, h4, rfl⟩
  | _ :: _, cs, ⟨vl', vx', vy', rest, e', g1, g2, g3, g4, hr⟩ => ⟨vl', vx', vy', rest ++ _, by rw [e']; rfl, g1, g2, g3, g4, tCs.snoc h1 h2 h3 h4 hr⟩
theorem smSS_len : ∀ l : List Sm, (smSS l).len = l.length
  | [] => rfl
  | _ :: r => by rw [smSS, toSS, SS.len, smSS_len r, List.length_cons]
theorem tCs.in_ {lo g : Nat} (hp : ∀ k, p k → lo ≤ k) : ∀ {l : List Sm} {cs : List Value} {o : Nat}, tCs p W l cs → (∀ j u, cs[j]? = some u → (er lo W).cell? ⟨g, o + j, none⟩ = some u) → (smSS l).In W.heap.size (er lo W) g o
  | [], _, _, _, _ => trivial
  | t :: r, _, o, ⟨vl, vx, vy, rest, e1, h1, h2, h3, h4, hr⟩, hq => by
    subst e1
    have hvl : EX lo W vl t.l := EX.of_ey h1 (Nat.le_refl _) (fun _ _ _ => rfl) hp
    have hvx : SX lo W vx t.x := SX.of_sy h2 (Nat.le_refl _) (fun _ _ _ => rfl) hp
    have hvy : SX lo W vy t.y := SX.of_sy h3 (Nat.le_refl _) (fun _ _ _ => rfl) hp
    exact ⟨hq 0 _ rfl, hq 1 _ rfl, hq 2 _ rfl, ⟨_, hq 3 _ rfl, hvl⟩, ⟨_, hq 4 _ rfl, hvx⟩, ⟨_, hq 5 _ rfl, hvy⟩, h4, tCs.in_ hp hr fun j u hu => by
      rw [show o + 6 + j = o + (j + 6) by omega]
      exact hq (j + 6) u (by simpa using hu)⟩
end
/-- A row of the call's own that holds such cells is a list of statements. -/
theorem row_sx {p : Nat → Prop} [DecidablePred p] {W : World} {base lo n : Nat} {e : TypeId} {v : Value} {l : List Sm} {cs : List Value} (h : W.ownsRow base e 6 v n cs) (hb : lo ≤ base) (hc : tCs p W l cs) (hp : ∀ k, p k → lo ≤ k) (hn : n = l.length) : SX lo W v (smSS l) := by
  rcases h.2 with ⟨rfl, rfl⟩ | ⟨g, cap, cur, rfl, hg, hh, hnc, hcm, hrest⟩
  · have hl : l = [] := List.eq_nil_of_length_eq_zero hn.symm
    subst hl
    exact sx_nil lo W
  · subst hn
    refine ⟨some ⟨g, 0, none⟩, cap, by rw [smSS_len], by rw [smSS_len]; exact hnc, by unfold maxLen at hcm; omega, fun _ => ⟨g, 0, rfl, (h.lt g rfl).2, tCs.in_ hp hc fun j u hu => ?_⟩⟩
    have hcj := h.cells (g := g) rfl j u hu
    rw [show (⟨g, 0, none⟩ : Addr).add j = ⟨g, j, none⟩ by unfold Addr.add; split <;> simp_all] at hcj
    rw [Nat.zero_add, er_cell, if_neg (by have := (h.lt g rfl).1; omega)]
    exact hcj

/-- The cells that a statement is appended as. -/
abbrev newt (t : Sm) (vl vx vy : Value) : List Value := [.int .i64 t.op, .string t.s, .int .i64 t.n, vl, vx, vy]
/-- One more statement. -/
theorem st_step {W wr w3 w4 : World} {O : Obj} {rb g N cT i o n : Nat} {T : List Tok} {E : TypeId} {l : List Sm} {t : Sm} {cs : List Value} {vv v1 vl vx vy : Value}
    (hG : Gr rb W wr) (hown : wr.ownsRow W.heap.size E 6 vv n cs) (hx : tCs (rowp W.heap.size vv) wr l cs) (g3 : Gr rb wr w3) (hv1 : EX wr.heap.size w3 vl t.l) (hv2 : SX wr.heap.size w3 vx t.x) (hv3 : SX wr.heap.size w3 vy t.y) (hok : okS t) (h3 : Rd w3 rb g N cT T i o)
    (hgrow : (w3.alloc O).grownBy w4 vv.ownBlock) (hat : ∀ k, v1.ownBlock = some k → vv.ownBlock = some k ∨ (w3.alloc O).heap.size ≤ k) (hrl : rb < W.heap.size) (hgl : g < W.heap.size) :
    Rd w4 rb g N cT T i o ∧ Gr rb W w4 ∧ tCs (rowp W.heap.size v1) w4 (l ++ [t]) (cs ++ newt t vl vx vy) := by
  have z1 := hG.size
  have z2 := g3.size
  have z3 : (w3.alloc O).heap.size = w3.heap.size + 1 := by simp
  have z4 := hgrow.size
  have hrow := hown.lt
  have hba : ∀ k, k < w3.heap.size → vv.ownBlock ≠ some k → w4.heap[k]? = w3.heap[k]? := fun k hk hne => (hgrow.block k (by omega) (fun e => hne e.symm)).trans (Below.heap_alloc w3 O k hk)
  have hlow : ∀ k, k < W.heap.size → w4.heap[k]? = w3.heap[k]? := fun k hk => hba k (by omega) (fun e => by have := (hrow k e).1; omega)
  have hr := hlow rb hrl
  have hgb := hlow g hgl
  have cc : ∀ j, w4.cell? ⟨rb, j, none⟩ = w3.cell? ⟨rb, j, none⟩ := fun j => World.cell?_of_block (a := ⟨rb, j, none⟩) hr
  have ff : ∀ j, w4.frozen? ⟨rb, j, none⟩ = w3.frozen? ⟨rb, j, none⟩ := fun j => World.frozen?_of_block (a := ⟨rb, j, none⟩) hr
  have hK : Kp wr.heap.size w3 w4 := ⟨by omega, fun k hk hl => hba k hl (fun e => by have := (hrow k e).2; omega)⟩
  have hnew : ∀ k, wr.heap.size ≤ k → k < w3.heap.size → rowp W.heap.size v1 k := fun k hk hl => ⟨by omega, fun e => by
    rcases hat k e with e | e
    · have := (hrow k e).2; omega
    · omega⟩
  refine ⟨⟨(cc 0).trans h3.c0, (cc 1).trans h3.c1, (cc 2).trans h3.c2, fun j => (ff j).trans (h3.fz j), by omega, h3.tok.step (by omega) hgb, h3.ne, h3.len, h3.lt, h3.small, h3.good⟩, ?_, ?_⟩
  · have h13 := (hG.trans g3).alloc O
    exact ⟨(World.grownBy.os hgrow).trans (World.grownBy.os h13), (World.grownBy.tape hgrow).trans (World.grownBy.tape h13), (World.grownBy.output hgrow).trans (World.grownBy.output h13), by omega, fun k hk hne => (hlow k hk).trans (World.grownBy.block (hG.trans g3) k hk hne)⟩
  · refine tCs.snoc (EY.of_ex hv1 hK hnew) (SY.of_sx hv2 hK hnew) (SY.of_sx hv3 hK hnew) hok (tCs.kp (by omega) (fun k hk hl => ?pb) (fun k hk hl => ⟨hk.1, fun e => ?pc⟩) hx)
    case pb => exact (hba k (by omega) hk.2).trans (g3.block hl (by have := hk.1; omega))
    case pc =>
      rcases hat k e with e | e
      · exact hk.2 e
      · omega

end Go.Proofs.YtaajolemjgdfnaaDoor

