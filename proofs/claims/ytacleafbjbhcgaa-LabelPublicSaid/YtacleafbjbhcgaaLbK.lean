/-
  Statements and expressions as rows of cells; append of such rows, in a region that draws its order (as Sc and Sd of the seats of package tree).
-/
import Derived.Test.YtacleafbjbhcgaaLbJ
import Derived.Deep.RegionHeldLaw
import Derived.Laws.AppendOwnNone
namespace Go.Proofs.Ytacleafbjbhcgaa
open Go Go.RowKit Go.Lib

theorem own_form {w : World} {base : Nat} {e : TypeId} {size : Nat} {v : Value} {n : Nat} {xs : List Value} (h : w.ownsRow base e size v n xs) : ∃ A cap, v = .slice A n cap := by
  rcases h.2 with ⟨rfl, rfl⟩ | ⟨g, cap, _, rfl, _⟩
  · exact ⟨none, 0, rfl⟩
  · exact ⟨_, cap, rfl⟩
theorem own_cells {w : World} {base e size n : Nat} {v : Value} {xs : List Value} (h : w.ownsRow base e size v n xs) (hn : 0 < n) : ∃ g cap, v = .slice (some ⟨g, 0, none⟩) n cap ∧ n ≤ cap ∧ cap ≤ 9223372036854775807 ∧ g < w.heap.size ∧ ∀ m u, xs[m]? = some u → w.cell? ⟨g, m, none⟩ = some u := by
  rcases h.2 with ⟨rfl, rfl⟩ | ⟨g, cap, cur, rfl, hg, hh, hnc, hcm, hrest⟩
  · omega
  · refine ⟨g, cap, rfl, hnc, by unfold maxLen at hcm; omega, (h.lt g rfl).2, fun m u hu => ?_⟩
    have hc := h.cells (g := g) rfl m u hu
    rwa [show (⟨g, 0, none⟩ : Addr).add m = ⟨g, m, none⟩ by unfold Addr.add; split <;> simp_all] at hc
def SS.app : SS → SS → SS
  | .nil, m => m
  | .cons op s n l x y r, m => .cons op s n l x y (r.app m)
theorem SS.app_len : ∀ a b : SS, (a.app b).len = a.len + b.len
  | .nil, b => by simp [SS.app, SS.len]
  | .cons _ _ _ _ _ _ r, b => by simp [SS.app, SS.len, SS.app_len r b]; omega
theorem SS.app_nil : ∀ a : SS, a.app .nil = a
  | .nil => rfl
  | .cons _ _ _ _ _ _ r => by rw [SS.app, SS.app_nil r]
theorem SS.app_assoc : ∀ a b c : SS, (a.app b).app c = a.app (b.app c)
  | .nil, _, _ => rfl
  | .cons _ _ _ _ _ _ r, b, c => by simp only [SS.app, SS.app_assoc r b c]

/-- The cells of statements that lie one behind the other. -/
def SS.Cells (B : Nat) (W : World) : SS → List Value → Prop
  | .nil => fun cs => cs = []
  | .cons op s n l x y r => fun cs => ∃ vl vx vy rest, cs = .int .i64 op :: .string s :: .int .i64 n :: vl :: vx :: vy :: rest ∧ EV B W vl l ∧ SV B W vx x ∧ SV B W vy y ∧ (I64 op ∧ I64 n ∧ s.size ≤ 9223372036854775807) ∧ r.Cells B W rest
theorem SS.Cells.len {B : Nat} {W : World} : ∀ {l : SS} {cs : List Value}, l.Cells B W cs → cs.length = l.len * 6
  | .nil, _, h => by rw [show _ = [] from h]; rfl
  | .cons _ _ _ _ _ _ r, _, ⟨_, _, _, rest, e, _, _, _, _, hr⟩ => by rw [e]; simp [SS.len, SS.Cells.len hr]; omega
theorem SS.Cells.one {B : Nat} {W : World} : ∀ {l : SS} {cs : List Value}, l.Cells B W cs → ∀ u ∈ cs, u.oneCell' = true
  | .nil, _, h, u, hu => by rw [show _ = [] from h] at hu; cases hu
  | .cons _ _ _ _ _ _ r, _, ⟨vl, vx, vy, rest, e, ⟨_, _, hl, _⟩, ⟨_, _, hx, _⟩, ⟨_, _, hy, _⟩, _, hr⟩, u, hu => by
    subst e hl hx hy
    simp only [List.mem_cons] at hu
    rcases hu with rfl | rfl | rfl | rfl | rfl | rfl | hu
    · rfl
    · rfl
    · rfl
    · rfl
    · rfl
    · rfl
    · exact SS.Cells.one hr u hu
theorem SS.Cells.below {B B' : Nat} {W W' : World} (hb : Below B W W') (hB : B ≤ B') : ∀ {l : SS} {cs : List Value}, l.Cells B W cs → l.Cells B' W' cs
  | .nil, _, h => h
  | .cons _ _ _ _ _ _ _, _, ⟨vl, vx, vy, rest, e, h1, h2, h3, h4, hr⟩ => ⟨vl, vx, vy, rest, e, EV.below h1 hb hB, SV.below h2 hb hB, SV.below h3 hb hB, h4, SS.Cells.below hb hB hr⟩
theorem SS.Cells.app {B : Nat} {W : World} {m : SS} {ds : List Value} (hm : m.Cells B W ds) : ∀ {l : SS} {cs : List Value}, l.Cells B W cs → (l.app m).Cells B W (cs ++ ds)
  | .nil, cs, h => by rw [show cs = [] from h]; exact hm
  | .cons _ _ _ _ _ _ _, _, ⟨vl, vx, vy, rest, e, h1, h2, h3, h4, hr⟩ => ⟨vl, vx, vy, rest ++ ds, by rw [e]; rfl, h1, h2, h3, h4, SS.Cells.app hm hr⟩

theorem at_add (b o j : Nat) : (⟨b, o, none⟩ : Addr).add j = ⟨b, o + j, none⟩ := by unfold Addr.add; split <;> simp_all

theorem SS.In.cells {B : Nat} {W : World} : ∀ {l : SS} {b o : Nat}, l.In B W b o → ∃ cs, l.Cells B W cs ∧ ∀ j u, cs[j]? = some u → W.cell? ⟨b, o + j, none⟩ = some u
  | .nil, b, o, _ => ⟨[], rfl, fun j u h => by simp at h⟩
  | .cons _ _ _ _ _ _ _, b, o, ⟨c0, c1, c2, ⟨vl, c3, h3⟩, ⟨vx, c4, h4⟩, ⟨vy, c5, h5⟩, h6, hr⟩ => by
    obtain ⟨rest, hc, hq⟩ := SS.In.cells hr
    refine ⟨_, ⟨vl, vx, vy, rest, rfl, h3, h4, h5, h6, hc⟩, fun j u hu => ?_⟩
    match j, hu with
    | 0, hu => simp at hu; subst hu; exact c0
    | 1, hu => simp at hu; subst hu; exact c1
    | 2, hu => simp at hu; subst hu; exact c2
    | 3, hu => simp at hu; subst hu; exact c3
    | 4, hu => simp at hu; subst hu; exact c4
    | 5, hu => simp at hu; subst hu; exact c5
    | j + 6, hu =>
      rw [show o + (j + 6) = o + 6 + j by omega]
      exact hq j u (by simpa using hu)
theorem SS.Cells.in_ {B : Nat} {W : World} : ∀ {l : SS} {cs : List Value} {b o : Nat}, l.Cells B W cs → (∀ j u, cs[j]? = some u → W.cell? ⟨b, o + j, none⟩ = some u) → l.In B W b o
  | .nil, _, _, _, _, _ => trivial
  | .cons _ _ _ _ _ _ _, _, b, o, ⟨vl, vx, vy, rest, e, h1, h2, h3, h4, hr⟩, hq => by
    subst e
    exact ⟨hq 0 _ rfl, hq 1 _ rfl, hq 2 _ rfl, ⟨vl, hq 3 _ rfl, h1⟩, ⟨vx, hq 4 _ rfl, h2⟩, ⟨vy, hq 5 _ rfl, h3⟩, h4, SS.Cells.in_ hr fun j u hu => by
      rw [show o + 6 + j = o + (j + 6) by omega]
      exact hq (j + 6) u (by simpa using hu)⟩

/-- A slice of statements as something that can be appended. -/
theorem sv_news {B : Nat} {W : World} {A : Option Addr} {n cap : Nat} {l : SS} (h : SV B W (.slice A n cap) l) : n = l.len ∧ ∃ cs, l.Cells B W cs ∧ ∀ ad, A = some ad → ∀ j u, cs[j]? = some u → W.cell? (ad.add j) = some u := by
  obtain ⟨A1, cap1, e, _, _, hr⟩ := h
  injection e with e1 e2 e3
  subst e1 e2
  refine ⟨rfl, ?_⟩
  by_cases h0 : 0 < l.len
  · obtain ⟨b, o, rfl, _, hi⟩ := hr h0
    obtain ⟨cs, hc, hq⟩ := SS.In.cells hi
    exact ⟨cs, hc, fun ad e j u hu => by injection e with e; subst e; rw [at_add]; exact hq j u hu⟩
  · cases l with
    | nil => exact ⟨[], rfl, fun _ _ j u hu => by simp at hu⟩
    | cons => simp [SS.len] at h0
/-- A row of the call's own that holds such cells is a slice of statements. -/
theorem own_sv {W : World} {base e n : Nat} {v : Value} {l : SS} {cs : List Value} (h : W.ownsRow base e 6 v n cs) (hc : l.Cells W.heap.size W cs) (hn : n = l.len) : SV W.heap.size W v l := by
  subst hn
  by_cases h0 : 0 < l.len
  · obtain ⟨g, cap, rfl, h1, h2, h3, h4⟩ := own_cells h h0
    exact ⟨_, cap, rfl, h1, h2, fun _ => ⟨g, 0, rfl, h3, hc.in_ fun j u hu => by rw [Nat.zero_add]; exact h4 j u hu⟩⟩
  · obtain ⟨A, cap, rfl⟩ := own_form h
    refine ⟨A, cap, rfl, ?_, ?_, fun h => absurd h h0⟩
    · rcases h.2 with ⟨e, _⟩ | ⟨g, cap, cur, e, _, _, hnc, hcm, _⟩
      · injection e with e1 e2 e3; omega
      · injection e with e1 e2 e3; omega
    · rcases h.2 with ⟨e, _⟩ | ⟨g, cap, cur, e, _, _, hnc, hcm, _⟩
      · injection e with e1 e2 e3; omega
      · injection e with e1 e2 e3; unfold maxLen at hcm; omega

theorem run_append_none_any {P : Program} {w : World} {c : Nat} (base : Nat) (t ty e : TypeId) (i : TypeInfo) (size : Nat) (ht : P.underlying t = some (.slice e)) (hi : P.info? e = some i)
    (v : Value) (n : Nat) (xs : List Value) (hown : w.ownsRow base e size v n xs) :
    (Builtin.append_ #[t, t] ty #[v, .slice none 0 c]).run P w = .ok v w := by
  rcases hown.2 with ⟨rfl, rfl⟩ | ⟨g, cap, cur, rfl, _, _, hnc, _⟩
  · simp [Builtin.append_, run_underlying ht, sizeOf, typeInfo, hi, Builtin.lenOf, Builtin.firstCells]
  · simp [Builtin.append_, run_underlying ht, sizeOf, typeInfo, hi, Builtin.lenOf, Builtin.firstCells, hnc, storeCells]
/-- append(v, x...) onto a row of the call's own, one step of a region that draws; x nil too. -/
theorem step_append_own {P : Program} {ops : Array Oper} {o : Oper} {a : Act} {w : World} {K : Act → World → Prop} {Q : Exit → Act → World → Prop} {E : Prop} (hgd : o.guard = none) (s x : Operand) (t : TypeId)
    (ho : o.op = .call { callee := .builtin .append, args := #[s, x], argTypes := #[t, t] })
    (base : Nat) (e : TypeId) (i : TypeInfo) (z : Value) (size bytes : Nat) (ht : P.underlying t = some (.slice e)) (hi : P.info? e = some i) (hz : i.zero = some z)
    (hsize : i.size = size) (hby : i.bytes = bytes) (hzs : z.cells.size = size) (hsz : 0 < size)
    (v : Value) (n : Nat) (xs : List Value) (hs : a.eval s = v) (hown : w.ownsRow base e size v n xs)
    (A : Option Addr) (m c : Nat) (news : List Value) (hx : a.eval x = .slice A m c) (hA : A = none → m = 0) (hl : news.length = m * size) (hnews : ∀ ad, A = some ad → ∀ j u, news[j]? = some u → w.cell? (ad.add j) = some u) (h1 : ∀ u ∈ news, u.oneCell' = true)
    (h63 : n + m ≤ maxLen) (hbytes : (n + m) * bytes ≤ 140737488355328) (hbase : base ≤ w.heap.size)
    (h : ∀ v' w', w'.ownsRow base e size v' (n + m) (xs ++ news) → w.grownBy w' v.ownBlock → K (a.put o.dst v') w') :
    if Region.wanted o (yielded ops a.tmps) = true then Oper.wp P o a w K Q else E := by
  have hw : Region.wanted o (yielded ops a.tmps) = true := by simp [Region.wanted, hgd]
  rw [if_pos hw]
  cases A with
  | none =>
    obtain rfl := hA rfl
    have hrun := run_append_none_any (P := P) (c := c) (w := w) base t o.type e i size ht hi v n xs hown
    unfold Oper.wp
    simp [execOp, ho, resolve, invoke, builtin, hs, hx, hrun, Result.andThen]
    have e0 : news = [] := List.eq_nil_of_length_eq_zero (by rw [hl]; omega)
    subst e0
    exact h v w (by simpa using hown) ⟨rfl, rfl, rfl, Nat.le_refl _, fun _ _ _ => rfl⟩
  | some ad =>
    obtain ⟨v', w', hrun, h2, h3, _⟩ := run_append_own (P := P) (w := w) base t o.type e i z size bytes ht hi hz hsize hby hzs hsz v n xs hown ad m c news hl (hnews ad rfl) h1 h63 hbytes hbase
    unfold Oper.wp
    simp [execOp, ho, resolve, invoke, builtin, hs, hx, hrun, Result.andThen]
    exact h v' w' h2 h3
theorem stmtInfo : (Try.prog.info? 40).map (fun i => (i.zero, i.size, i.bytes)) = some (some (.agg #[.int .i64 0, .string ⟨#[]⟩, .int .i64 0, .slice none 0 0, .slice none 0 0, .slice none 0 0]), 6, 104) := by kernel_rfl


theorem belowA {W0 W : World} (h : Below W0.heap.size W0 W) (o : Obj) : Below W0.heap.size W0 (W.alloc o) := h.alloc h.size o
theorem belowS {W0 W : World} (h : Below W0.heap.size W0 W) {k i : Nat} (hk : W0.heap.size ≤ k) (u : Value) : Below W0.heap.size W0 (W.setCell ⟨k, i, none⟩ u) := h.setCell hk u
theorem belowD {B : Nat} {W0 W : World} (h : Below B W0 W) : Below B W0 W.drew := h.trans ⟨rfl, rfl, rfl, Nat.le_refl _, fun _ _ => rfl⟩
theorem blk_drew {W : World} {k : Nat} {o : Obj} (h : W.heap[k]? = some o) : W.drew.heap[k]? = some o := h
theorem own_drew {W : World} {base : Nat} {e : TypeId} {size n : Nat} {v : Value} {xs : List Value} (h : W.ownsRow base e size v n xs) : W.drew.ownsRow base e size v n xs := h
theorem blk_new {W : World} {k : Nat} {o : Obj} (hk : W.heap.size = k) : (W.alloc o).heap[k]? = some o := by subst hk; exact heap_alloc_new W o
theorem blk_lt {W : World} {k : Nat} {o : Obj} (h : W.heap[k]? = some o) : k < W.heap.size := by
  rcases Nat.lt_or_ge k W.heap.size with h' | h'
  · exact h'
  · rw [Array.getElem?_eq_none h'] at h; cases h
theorem blk_alloc {W : World} {k : Nat} {o : Obj} (h : W.heap[k]? = some o) (o' : Obj) : (W.alloc o').heap[k]? = some o := (Below.heap_alloc W o' k (blk_lt h)).trans h
theorem blk_grown {W W' : World} {k : Nat} {o : Obj} {row : Option Nat} (h : W.heap[k]? = some o) (hg : W.grownBy W' row) (hne : some k ≠ row) : W'.heap[k]? = some o := (hg.block k (blk_lt h) hne).trans h
theorem blk_cell {W : World} {k : Nat} {cs : Array Value} {t : TypeId} {fz : Nat × Nat} (h : W.heap[k]? = some (.cells cs t fz)) (i : Nat) : W.cell? ⟨k, i, none⟩ = cs[i]? := by
  simp [World.cell?, h]
theorem blk_frozen {W : World} {k : Nat} {cs : Array Value} {t : TypeId} (h : W.heap[k]? = some (.cells cs t)) (i : Nat) : W.frozen? ⟨k, i, none⟩ = false := by
  simp [World.frozen?, h]
theorem blk_news {W : World} {k : Nat} {cs : Array Value} {t : TypeId} (h : W.heap[k]? = some (.cells cs t)) : ∀ ad, some (⟨k, 0, none⟩ : Addr) = some ad → ∀ j u, cs.toList[j]? = some u → W.cell? (ad.add j) = some u := by
  intro ad e j u hu
  injection e with e
  subst e
  rw [at_add, blk_cell h, Nat.zero_add]
  simpa using hu
theorem made_in {W : World} {base k : Nat} {e : TypeId} {size : Nat} (hk : W.heap.size = k) (hb : base ≤ k) : (W.alloc (.cells #[] e)).ownsRow base e size (.slice (some ⟨k, 0, none⟩) 0 0) 0 [] := by
  subst hk
  exact World.ownsRow_made W #[] 0 hb (Nat.zero_le _) (by simp)
theorem own_ne {W : World} {base : Nat} {e t : TypeId} {size n k : Nat} {v : Value} {xs : List Value} {cs : Array Value} (h : W.ownsRow base e size v n xs) (hk : W.heap[k]? = some (.cells cs t)) (hne : e ≠ t) : some k ≠ v.ownBlock := by
  rcases h.2 with ⟨rfl, _⟩ | ⟨g, cap, cur, rfl, _, hg, _⟩
  · simp [Value.ownBlock]
  · intro hq
    simp only [Value.ownBlock, Option.some.injEq] at hq
    subst hq
    rw [hk] at hg
    injection hg with hg
    injection hg with _ h2 _
    exact hne h2.symm
theorem blk_grown_own {W W' : World} {base : Nat} {e t : TypeId} {size n k : Nat} {v : Value} {xs : List Value} {cs : Array Value} (h : W.ownsRow base e size v n xs) (hg : W.grownBy W' v.ownBlock) (hk : W.heap[k]? = some (.cells cs t)) (hne : e ≠ t) : W'.heap[k]? = some (.cells cs t) := blk_grown hk hg (own_ne h hk hne)
theorem own_set {W : World} {base : Nat} {e : TypeId} {size n : Nat} {v : Value} {xs : List Value} (h : W.ownsRow base e size v n xs) {a : Addr} (hne : some a.block ≠ v.ownBlock) (u : Value) : (W.setCell a u).ownsRow base e size v n xs :=
  h.kept (row := some a.block) ⟨rfl, rfl, rfl, by simp, fun k _ hk => Below.heap_setCell W a u k (fun e => hk (by rw [e]))⟩ (.inr (Ne.symm hne))
theorem grown_below {W0 W W' : World} {base : Nat} {e : TypeId} {size n : Nat} {v : Value} {xs : List Value} (h : Below W0.heap.size W0 W) (hown : W.ownsRow base e size v n xs) (hb : W0.heap.size ≤ base) (hg : W.grownBy W' v.ownBlock) : Below W0.heap.size W0 W' :=
  h.grown hg h.size fun k hk => Nat.le_trans hb (hown.lt k hk).1

/-- What a box and a row of the call's own hold at the end of such a region. -/
def Fin2 (W0 W : World) (e : TypeId) (size k : Nat) (x y v : Value) (n : Nat) (xs : List Value) : Prop :=
  W0.heap.size ≤ k ∧ k < W.heap.size ∧ W.cell? ⟨k, 0, none⟩ = some x ∧ W.cell? ⟨k, 1, none⟩ = some y ∧ W.ownsRow W0.heap.size e size v n xs ∧ some k ≠ v.ownBlock ∧ Below W0.heap.size W0 W
theorem fin_set {W0 W : World} {e t : TypeId} {size k n : Nat} {x y v a b : Value} {xs : List Value} (hB : Below W0.heap.size W0 W) (hk : W0.heap.size ≤ k) (hx : W.heap[k]? = some (.cells #[a, b] t)) (hne : e ≠ t) (hown : W.ownsRow W0.heap.size e size v n xs) : Fin2 W0 ((W.setCell ⟨k, 0, none⟩ x).setCell ⟨k, 1, none⟩ y) e size k x y v n xs := by
  have hd := own_ne hown hx hne
  have h0 : W.cell? ⟨k, 0, none⟩ = some a := blk_cell hx 0
  have h1 : W.cell? ⟨k, 1, none⟩ = some b := blk_cell hx 1
  have n1 : (⟨k, 0, none⟩ : Addr) ≠ ⟨k, 1, none⟩ := by simp
  refine ⟨hk, by have := blk_lt hx; simpa using this, ?_, ?_, own_set (own_set hown hd x) hd y, hd, belowS (belowS hB hk x) hk y⟩
  · rw [World.cell?_setCell_other (h := Ne.symm n1)]
    exact World.cell?_setCell_same _ _ _ h0
  · exact World.cell?_setCell_same (u := b) _ _ _ (by rw [World.cell?_setCell_other (h := n1)]; exact h1)
theorem fin_alloc {W0 W : World} {e t : TypeId} {size n : Nat} {x y v : Value} {xs : List Value} (hB : Below W0.heap.size W0 W) (hown : W.ownsRow W0.heap.size e size v n xs) : Fin2 W0 (W.alloc (.cells #[x, y] t)) e size W.heap.size x y v n xs := by
  have hx : (W.alloc (.cells #[x, y] t)).heap[W.heap.size]? = some (.cells #[x, y] t) := heap_alloc_new W _
  refine ⟨hB.size, by simp, blk_cell hx 0, blk_cell hx 1, hown.alloc _, fun hq => ?_, belowA hB _⟩
  exact absurd (hown.lt _ hq.symm).2 (Nat.lt_irrefl _)

end Go.Proofs.Ytacleafbjbhcgaa
