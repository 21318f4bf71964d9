/-
  TreeLimits: the statement's function, walked.
-/
import Derived.Test.YtnjghoaelcpljaaDoorTreeOpsW
namespace Go.Proofs.YtnjghoaelcpljaaDoor
open Go Go.RowKit Go.Lib

def pS : ByteArray := ⟨#[112]⟩
/-- The function with so many parameters; so deep an expression; the program. -/
def limF (k : Nat) : Fn := ⟨⟨#[102]⟩, List.replicate k pS, .nil⟩
def notE : Nat → ES
  | 0 => .cons 1 1 ⟨#[]⟩ .nil .nil
  | d + 1 => .cons 7 0 ⟨#[]⟩ (notE d) .nil
def limP (m k d : Nat) : Pg := ⟨List.replicate m (limF k), .cons 6 ⟨#[]⟩ 0 (notE d) .nil .nil .nil⟩
theorem notE_len : ∀ d, (notE d).len = 1
  | 0 => rfl
  | _ + 1 => rfl
theorem notE_cnt : ∀ d, (notE d).cnt = d + 1
  | 0 => rfl
  | d + 1 => by simp only [notE, ES.cnt, notE_cnt d]; omega
theorem notE_deep : ∀ d, d ≤ 1000 → (notE d).deep = d + 1
  | 0, _ => by simp only [notE, ES.deep, wrap_def]; decide
  | d + 1, h => by
    simp only [notE, ES.deep, notE_deep d (by omega), wrap_def]
    omega
theorem not_fit (l : ES) (h : l.len = 1) : fitP ⟨false, 7, ⟨#[]⟩, 0, l, .nil, .nil⟩ = true := by
  unfold fitP
  simp only [h, SS.len]
  decide +kernel
theorem keep_fit (l : ES) (h : l.len = 1) : fitP ⟨true, 6, ⟨#[]⟩, 0, l, .nil, .nil⟩ = true := by
  unfold fitP
  simp only [h, SS.len]
  decide +kernel
theorem notE_ok : ∀ d, (notE d).ok = true
  | 0 => by decide +kernel
  | d + 1 => by
    simp only [notE, ES.ok, notE_ok d, not_fit _ (notE_len d)]
    rfl
theorem fsPts_rep (k : Nat) : ∀ m, fsPts (List.replicate m (limF k)) = []
  | 0 => rfl
  | m + 1 => by rw [List.replicate_succ, fsPts, fsPts_rep k m]; rfl
theorem lim_pts (m k d : Nat) : (limP m k d).pts = [⟨true, 6, ⟨#[]⟩, 0, notE d, .nil, .nil⟩] := by
  unfold limP Pg.pts
  rw [fsPts_rep]
  rfl
theorem lim_deep (m k d : Nat) (h : d ≤ 1000) : deepL (limP m k d).pts = d + 2 := by
  rw [lim_pts]
  simp only [deepL, Pt.deep, notE_deep d h, SS.deep, wrap_def]
  omega
theorem lim_cnt (m k d : Nat) (h : d ≤ 1000) : wrap64 (cntL (limP m k d).pts) = d + 2 := by
  rw [lim_pts]
  simp only [cntL, Pt.cnt, notE_cnt, SS.cnt, wrap_def]
  omega
theorem ps_rep : ∀ k, psOk (List.replicate k pS) = true
  | 0 => rfl
  | k + 1 => by rw [List.replicate_succ, psOk, ps_rep k, show nameB pS = true by decide +kernel]; rfl
theorem fs_rep (k : Nat) : ∀ m, fsOk (List.replicate m (limF k)) = (decide (m = 0) || decide (k ≤ 8))
  | 0 => rfl
  | m + 1 => by
    rw [List.replicate_succ, fsOk, fs_rep k m]
    unfold limF paramsB
    rw [List.length_replicate, ps_rep, show nameB ⟨#[102]⟩ = true by decide +kernel]
    cases decide (k ≤ 8) <;> simp
theorem lim_right (m k d : Nat) (h : d ≤ 1000) :
    rightN (limP m k d) = if m ≤ 32 ∧ (m = 0 ∨ k ≤ 8) then (if 64 < d + 2 then 3 else 0) else 1 := by
  have ho : okL (limP m k d).pts = true := by
    rw [lim_pts]
    simp only [okL, Pt.ok, SS.ok, notE_ok, keep_fit _ (notE_len d)]
    rfl
  have hf : funcsB (limP m k d).fs = (decide (m ≤ 32) && (decide (m = 0) || decide (k ≤ 8))) := by
    unfold funcsB
    show (decide ((List.replicate m (limF k)).length ≤ 32) && fsOk (List.replicate m (limF k))) = _
    rw [List.length_replicate, fs_rep]
  unfold rightN
  rw [ho, hf, lim_deep m k d h]
  by_cases hc : m ≤ 32 ∧ (m = 0 ∨ k ≤ 8)
  · rw [if_pos hc, if_pos (by simp; exact hc)]
    by_cases h64 : 64 < d + 2
    · rw [if_pos h64, if_pos (by omega)]
    · rw [if_neg h64, if_neg (by omega)]
  · rw [if_neg hc, if_neg (by simp; intro h1; by_cases h2 : m = 0 ∨ k ≤ 8; exact absurd ⟨h1, h2⟩ hc; omega)]

theorem strInfo : (Tryd.prog.info? 9).map (fun i => (i.zero, i.size, i.bytes)) = some (some (.string ⟨#[]⟩), 1, 16) := by kernel_rfl
theorem funcInfo : (Tryd.prog.info? 35).map (fun i => (i.zero, i.size, i.bytes)) = some (some (.agg #[.string ⟨#[]⟩, .slice none 0 0, .slice none 0 0]), 3, 64) := by kernel_rfl
theorem one_cells {wr : World} {t : TypeId} {a : Value} : ∀ j u, [a][j]? = some u → (wr.alloc (.cells #[a] t)).cell? ((⟨wr.heap.size, 0, none⟩ : Addr).add j) = some u := by
  intro j u hj
  match j, hj with
  | 0, hj => simp at hj; subst hj; simp [Addr.add]
theorem one_one {s : ByteArray} : ∀ u ∈ [Value.string s], u.oneCell' = true := by
  intro u hu
  simp at hu
  subst hu
  rfl

/-- The parameters that were appended. -/
structure ParRel (w : World) (g k : Nat) (i : Value) (wr : World) (j : Nat) (v : Value) : Prop where
  i_eq : i = .int .i64 j
  le : j ≤ k
  c0 : wr.cell? ⟨g, 0, none⟩ = some (.string ⟨#[102]⟩)
  c1 : wr.cell? ⟨g, 1, none⟩ = some v
  c2 : wr.cell? ⟨g, 2, none⟩ = some (.slice none 0 0)
  f1 : wr.frozen? ⟨g, 1, none⟩ = false
  own : wr.ownsRow (g + 1) 9 1 v j (List.replicate j (.string pS))
  lt : g < wr.heap.size
  ge : w.heap.size ≤ g
  fr : Fr w wr
theorem ParRel.mid {w : World} {g k : Nat} {i : Value} {wr w2 : World} {j : Nat} {v : Value} {o : Obj} (h : ParRel w g k i wr j v) (hg : (wr.alloc o).grownBy w2 v.ownBlock) :
    (∀ m, w2.cell? ⟨g, m, none⟩ = wr.cell? ⟨g, m, none⟩) ∧ (∀ m, w2.frozen? ⟨g, m, none⟩ = wr.frozen? ⟨g, m, none⟩) := by
  have hne : some g ≠ v.ownBlock := fun e => by have := (h.own.lt g e.symm).1; omega
  have hl := h.lt
  have hb : w2.heap[g]? = wr.heap[g]? := (hg.block g (by simp; omega) hne).trans (Below.heap_alloc wr o g hl)
  exact ⟨fun m => World.cell?_of_block (a := ⟨g, m, none⟩) hb, fun m => World.frozen?_of_block (a := ⟨g, m, none⟩) hb⟩
theorem ParRel.step {w : World} {g k : Nat} {i : Value} {wr w2 : World} {j : Nat} {v v' : Value} {o : Obj} (h : ParRel w g k i wr j v) (hlt : j < k) (hg : (wr.alloc o).grownBy w2 v.ownBlock)
    (ho : w2.ownsRow (g + 1) 9 1 v' (j + 1) (List.replicate j (.string pS) ++ [.string pS])) :
    ParRel w g k (.int .i64 ((j + 1 : Nat) : Int)) (w2.setCell ⟨g, 1, none⟩ v') (j + 1) v' := by
  obtain ⟨hc, hf⟩ := h.mid hg
  have hl := h.lt
  have hge := h.ge
  have hsz : wr.heap.size < w2.heap.size := by have := hg.size; simp at this; omega
  have hfr : Below w.heap.size w w2 := (Below.alloc h.fr (by omega) o).grown hg (by simp; omega) (fun q hq => by have := (h.own.lt q hq).1; omega)
  rw [← List.replicate_succ'] at ho
  exact ⟨rfl, by omega, by rw [World.cell?_setCell_other _ _ _ _ (by intro e; simp only [Addr.mk.injEq] at e; omega), hc]; exact h.c0, World.cell?_setCell_same' _ _ _ (by rw [hc, h.c1]; rfl),
    by rw [World.cell?_setCell_other _ _ _ _ (by intro e; simp only [Addr.mk.injEq] at e; omega), hc]; exact h.c2, by rw [World.frozen?_setCell, hf]; exact h.f1,
    ownsRow_setCell_below ho (by show g < g + 1; omega) _, by simp [World.setCell]; omega, hge, hfr.setCell (p := ⟨g, 1, none⟩) hge _⟩

theorem own_form {w : World} {base : Nat} {e : TypeId} {size : Nat} {v : Value} {n : Nat} {xs : List Value} (h : w.ownsRow base e size v n xs) : ∃ A cap, v = .slice A n cap := by
  rcases h.2 with ⟨rfl, rfl⟩ | ⟨g, cap, _, rfl, _⟩
  · exact ⟨none, 0, rfl⟩
  · exact ⟨_, cap, rfl⟩
/-- The functions' cells. -/
def fcells (v : Value) : Nat → List Value
  | 0 => []
  | j + 1 => fcells v j ++ [.string ⟨#[102]⟩, v, .slice none 0 0]
theorem tri_cells {wr : World} {t : TypeId} {a b c : Value} : ∀ j u, [a, b, c][j]? = some u → (wr.alloc (.cells #[a, b, c] t)).cell? ((⟨wr.heap.size, 0, none⟩ : Addr).add j) = some u := by
  intro j u hj
  match j, hj with
  | 0, hj => simp at hj; subst hj; simp [Addr.add]
  | 1, hj => simp at hj; subst hj; simp [Addr.add]
  | 2, hj => simp at hj; subst hj; simp [Addr.add]
theorem tri_one {s : ByteArray} {A A' : Option Addr} {n n' c c' : Nat} : ∀ u ∈ [Value.string s, .slice A n c, .slice A' n' c'], u.oneCell' = true := by
  intro u hu
  simp at hu
  rcases hu with rfl | rfl | rfl <;> rfl

/-- The functions that were appended. -/
structure FunRel (W2 : World) (gp m : Nat) (v : Value) (i : Value) (wq : World) (j : Nat) (vs : Value) : Prop where
  i_eq : i = .int .i64 j
  le : j ≤ m
  c0 : wq.cell? ⟨gp, 0, none⟩ = some vs
  c1 : wq.cell? ⟨gp, 1, none⟩ = some (.slice none 0 0)
  f0 : wq.frozen? ⟨gp, 0, none⟩ = false
  f1 : wq.frozen? ⟨gp, 1, none⟩ = false
  own : wq.ownsRow (gp + 1) 35 3 vs j (fcells v j)
  lt : gp < wq.heap.size
  fr : Below gp W2 wq
theorem FunRel.mid {W2 : World} {gp m : Nat} {v i : Value} {wq w2 : World} {j : Nat} {vs : Value} {o : Obj} (h : FunRel W2 gp m v i wq j vs) (hg : (wq.alloc o).grownBy w2 vs.ownBlock) :
    (∀ m, w2.cell? ⟨gp, m, none⟩ = wq.cell? ⟨gp, m, none⟩) ∧ (∀ m, w2.frozen? ⟨gp, m, none⟩ = wq.frozen? ⟨gp, m, none⟩) := by
  have hne : some gp ≠ vs.ownBlock := fun e => by have := (h.own.lt gp e.symm).1; omega
  have hl := h.lt
  have hb : w2.heap[gp]? = wq.heap[gp]? := (hg.block gp (by simp; omega) hne).trans (Below.heap_alloc wq o gp hl)
  exact ⟨fun m => World.cell?_of_block (a := ⟨gp, m, none⟩) hb, fun m => World.frozen?_of_block (a := ⟨gp, m, none⟩) hb⟩
theorem FunRel.step {W2 : World} {gp m : Nat} {v i : Value} {wq w2 : World} {j : Nat} {vs vs' : Value} {o : Obj} (h : FunRel W2 gp m v i wq j vs) (hlt : j < m) (hg : (wq.alloc o).grownBy w2 vs.ownBlock)
    (ho : w2.ownsRow (gp + 1) 35 3 vs' (j + 1) (fcells v j ++ [.string ⟨#[102]⟩, v, .slice none 0 0])) :
    FunRel W2 gp m v (.int .i64 ((j + 1 : Nat) : Int)) (w2.setCell ⟨gp, 0, none⟩ vs') (j + 1) vs' := by
  obtain ⟨hc, hf⟩ := h.mid hg
  have hl := h.lt
  have hsz : wq.heap.size < w2.heap.size := by have := hg.size; simp at this; omega
  have hfr : Below gp W2 w2 := (Below.alloc h.fr (by omega) o).grown hg (by simp; omega) (fun q hq => by have := (h.own.lt q hq).1; omega)
  exact ⟨rfl, by omega, World.cell?_setCell_same' _ _ _ (by rw [hc, h.c0]; rfl), by rw [World.cell?_setCell_other _ _ _ _ (by intro e; simp only [Addr.mk.injEq] at e; omega), hc]; exact h.c1,
    by rw [World.frozen?_setCell, hf]; exact h.f0, by rw [World.frozen?_setCell, hf]; exact h.f1,
    ownsRow_setCell_below ho (by show gp < gp + 1; omega) _, by simp [World.setCell]; omega, hfr.setCell (p := ⟨gp, 0, none⟩) (Nat.le_refl _) _⟩

/-- The deep expression: its levels. -/
def eOp : Nat → Int
  | 0 => 1
  | _ + 1 => 7
def eNn : Nat → Int
  | 0 => 1
  | _ + 1 => 0
def eV (ge : Nat) : Nat → Value
  | 0 => .slice none 0 0
  | i + 1 => .slice (some ⟨ge + 1 + i, 0, none⟩) 1 1
def eC (ge i : Nat) : List Value := [.int .i64 (eOp i), .int .i64 (eNn i), .string ⟨#[]⟩, eV ge i]
theorem eV_form (ge : Nat) : ∀ i, ∃ A n c, eV ge i = .slice A n c
  | 0 => ⟨_, _, _, rfl⟩
  | _ + 1 => ⟨_, _, _, rfl⟩
theorem Blk.set {W : World} {b : Nat} {cs : List Value} (h : Blk W b cs) (p : Addr) (v : Value) (hb : b ≠ p.block) : Blk (W.setCell p v) b cs :=
  ⟨by have := h.1; simpa [World.setCell] using this, fun i hi => (World.cell?_setCell_other _ _ _ _ (by intro e; subst e; exact hb rfl)).trans (h.2 i hi)⟩
structure NotRel (W4 : World) (ge d : Nat) (i : Value) (wr : World) (q : Nat) : Prop where
  i_eq : i = .int .i64 (2 + (q : Int))
  le : q ≤ d
  sz : wr.heap.size = ge + 1 + q
  box : Blk wr ge (eC ge q)
  frz : ∀ i, wr.frozen? ⟨ge, i, none⟩ = false
  blk : ∀ i, i < q → Blk wr (ge + 1 + i) (eC ge i)
  fr : Below ge W4 wr
theorem NotRel.step {W4 : World} {ge d : Nat} {i : Value} {wr : World} {q : Nat} {t : TypeId} (h : NotRel W4 ge d i wr q) (hq : q < d) :
    NotRel W4 ge d (.int .i64 (2 + (q : Int) + 1)) (((((wr.alloc (.cells #[.int .i64 (eOp q), .int .i64 (eNn q), .string ⟨#[]⟩, eV ge q] t)).setCell ⟨ge, 0, none⟩ (.int .i64 7)).setCell ⟨ge, 1, none⟩ (.int .i64 0)).setCell ⟨ge, 2, none⟩ (.string ⟨#[]⟩)).setCell ⟨ge, 3, none⟩ (.slice (some ⟨wr.heap.size, 0, none⟩) 1 1)) (q + 1) := by
  have hs := h.sz
  have hB := h.box.alloc (.cells #[.int .i64 (eOp q), .int .i64 (eNn q), .string ⟨#[]⟩, eV ge q] t)
  have e0 := hB.2 0 (show 0 < 4 by decide)
  have e1 := hB.2 1 (show 1 < 4 by decide)
  have e2 := hB.2 2 (show 2 < 4 by decide)
  have e3 := hB.2 3 (show 3 < 4 by decide)
  refine ⟨by congr 1, by omega, by simp [World.setCell]; omega, ⟨by simp [World.setCell]; omega, ?_⟩, ?_, ?_, ?_⟩
  · intro i hi
    have hi4 : i < 4 := hi
    match i, hi4 with
    | 0, _ => rw [World.cell?_setCell_other _ _ _ _ (by simp), World.cell?_setCell_other _ _ _ _ (by simp), World.cell?_setCell_other _ _ _ _ (by simp), World.cell?_setCell_same' _ _ _ (by rw [e0]; rfl)]; rfl
    | 1, _ => rw [World.cell?_setCell_other _ _ _ _ (by simp), World.cell?_setCell_other _ _ _ _ (by simp), World.cell?_setCell_same' _ _ _ (by rw [World.cell?_setCell_other _ _ _ _ (by simp), e1]; rfl)]; rfl
    | 2, _ => rw [World.cell?_setCell_other _ _ _ _ (by simp), World.cell?_setCell_same' _ _ _ (by rw [World.cell?_setCell_other _ _ _ _ (by simp), World.cell?_setCell_other _ _ _ _ (by simp), e2]; rfl)]; rfl
    | 3, _ => rw [World.cell?_setCell_same' _ _ _ (by rw [World.cell?_setCell_other _ _ _ _ (by simp), World.cell?_setCell_other _ _ _ _ (by simp), World.cell?_setCell_other _ _ _ _ (by simp), e3]; rfl), hs]; rfl
  · intro i
    rw [World.frozen?_setCell, World.frozen?_setCell, World.frozen?_setCell, World.frozen?_setCell]
    exact (World.frozen?_of_block (a := ⟨ge, i, none⟩) (Below.heap_alloc wr _ ge (by omega))).trans (h.frz i)
  · intro i hi
    have hne : ge + 1 + i ≠ ge := by omega
    refine Blk.set (Blk.set (Blk.set (Blk.set ?_ _ _ hne) _ _ hne) _ _ hne) _ _ hne
    rcases Nat.lt_or_ge i q with h1 | h1
    · exact (h.blk i h1).alloc _
    · obtain rfl : i = q := by omega
      rw [← hs]
      exact Blk.new wr #[.int .i64 (eOp i), .int .i64 (eNn i), .string ⟨#[]⟩, eV ge i] t
  · exact (((((Below.alloc h.fr (by omega) _).setCell (p := ⟨ge, 0, none⟩) (Nat.le_refl _) _).setCell (p := ⟨ge, 1, none⟩) (Nat.le_refl _) _).setCell (p := ⟨ge, 2, none⟩) (Nat.le_refl _) _).setCell (p := ⟨ge, 3, none⟩) (Nat.le_refl _) _)

/-- A deep expression, level by level. -/
def eE : Nat → ES
  | 0 => .nil
  | i + 1 => .cons (eOp i) (eNn i) ⟨#[]⟩ (eE i) .nil
theorem eE_not : ∀ d, eE (d + 1) = notE d
  | 0 => rfl
  | d + 1 => by rw [eE, eE_not d]; rfl
theorem lim_ev {W : World} {ge : Nat} : ∀ p, (∀ i, i < p → Blk W (ge + 1 + i) (eC ge i)) → EV W.heap.size W (eV ge p) (eE p)
  | 0, _ => ev_nil _ _
  | p + 1, h => by
    have hp := lim_ev p fun i hi => h i (by omega)
    have hb := h p (by omega)
    unfold eC at hb
    exact ev_one hb hp ⟨by cases p <;> exact i64_of (by simp [eOp]), by cases p <;> exact i64_of (by simp [eNn]), by decide⟩
theorem ps_own {W : World} {g k : Nat} (h : ∀ m u, (List.replicate k (Value.string pS))[m]? = some u → W.cell? ⟨g, m, none⟩ = some u) : ∀ r i, i + r = k → PsIn W (List.replicate r pS) g i
  | 0, _, _ => trivial
  | r + 1, i, hi => ⟨h i _ (by rw [List.getElem?_replicate, if_pos (by omega)]), by decide, ps_own h r (i + 1) (by omega)⟩
theorem fcells_at (v : Value) : ∀ (j i m : Nat) (u : Value), i < j → [Value.string ⟨#[102]⟩, v, .slice none 0 0][m]? = some u → (fcells v j)[i * 3 + m]? = some u := by
  have hl : ∀ j, (fcells v j).length = j * 3 := by intro j; induction j with | zero => rfl | succ j ih => simp [fcells, ih]; omega
  intro j
  induction j with
  | zero => intro i m u hi; omega
  | succ j ih =>
    intro i m u hi hm
    have hm3 : m < 3 := (List.getElem?_eq_some_iff.1 hm).1
    by_cases hij : i < j
    · simp only [fcells]
      rw [List.getElem?_append_left (by rw [hl]; omega)]
      exact ih i m u hij hm
    · have : i = j := by omega
      subst this
      simp only [fcells]
      rw [List.getElem?_append_right (by rw [hl]; omega), hl, show i * 3 + m - i * 3 = m by omega]
      exact hm
theorem limF_small (k : Nat) : (limF k).s.size ≤ 9223372036854775807 := Nat.le_of_ble_eq_true rfl
theorem fs_own {W : World} {g m k : Nat} {v : Value} (hv : RowV (PsIn W (List.replicate k pS)) W.heap.size (List.replicate k pS).length v) (h : ∀ j u, (fcells v m)[j]? = some u → W.cell? ⟨g, j, none⟩ = some u) : ∀ r i, i + r = m → FsIn W.heap.size W (List.replicate r (limF k)) g (i * 3)
  | 0, _, _ => trivial
  | r + 1, i, hi => ⟨h _ _ (fcells_at v m i 0 _ (by omega) rfl), ⟨v, h _ _ (fcells_at v m i 1 _ (by omega) rfl), hv⟩, ⟨_, h _ _ (fcells_at v m i 2 _ (by omega) rfl), sv_nil _ _⟩, limF_small k, by rw [show i * 3 + 3 = (i + 1) * 3 by omega]; exact fs_own hv h r (i + 1) (by omega)⟩
theorem own_cells {w : World} {base e size n : Nat} {v : Value} {xs : List Value} (h : w.ownsRow base e size v n xs) (hn : 0 < n) : ∃ g cap, v = .slice (some ⟨g, 0, none⟩) n cap ∧ n ≤ cap ∧ cap ≤ 9223372036854775807 ∧ g < w.heap.size ∧ ∀ m u, xs[m]? = some u → w.cell? ⟨g, m, none⟩ = some u := by
  rcases h.2 with ⟨rfl, rfl⟩ | ⟨g, cap, cur, rfl, hg, hh, hnc, hcm, hrest⟩
  · omega
  · refine ⟨g, cap, rfl, hnc, by unfold maxLen at hcm; omega, (h.lt g rfl).2, fun m u hu => ?_⟩
    have hc := h.cells (g := g) rfl m u hu
    rwa [show (⟨g, 0, none⟩ : Addr).add m = ⟨g, m, none⟩ by unfold Addr.add; split <;> simp_all] at hc
theorem own_row {W : World} {b1 b2 k : Nat} {v : Value} (h : W.ownsRow b1 b2 1 v k (List.replicate k (.string pS))) : RowV (PsIn W (List.replicate k pS)) W.heap.size (List.replicate k pS).length v := by
  rw [List.length_replicate]
  by_cases hk : 0 < k
  · obtain ⟨g, cap, rfl, h1, h2, h3, h4⟩ := own_cells h hk
    exact ⟨_, cap, rfl, h1, h2, fun _ => ⟨g, 0, rfl, h3, ps_own h4 k 0 (by omega)⟩⟩
  · obtain rfl : k = 0 := by omega
    rcases h.2 with ⟨rfl, _⟩ | ⟨g, cap, cur, rfl, _, _, hnc, hcm, _⟩
    · exact ⟨none, 0, rfl, Nat.le_refl _, by decide, fun h => by omega⟩
    · exact ⟨_, cap, rfl, hnc, by unfold maxLen at hcm; omega, fun h => by omega⟩
theorem own_fs {W : World} {b1 b2 m k : Nat} {v vs : Value} (hv : RowV (PsIn W (List.replicate k pS)) W.heap.size (List.replicate k pS).length v) (h : W.ownsRow b1 b2 3 vs m (fcells v m)) : FV W.heap.size W vs (List.replicate m (limF k)) := by
  unfold FV
  rw [List.length_replicate]
  by_cases hk : 0 < m
  · obtain ⟨g, cap, rfl, h1, h2, h3, h4⟩ := own_cells h hk
    exact ⟨_, cap, rfl, h1, h2, fun _ => ⟨g, 0, rfl, h3, by simpa using fs_own hv h4 m 0 (by omega)⟩⟩
  · obtain rfl : m = 0 := by omega
    rcases h.2 with ⟨rfl, _⟩ | ⟨g, cap, cur, rfl, _, _, hnc, hcm, _⟩
    · exact ⟨none, 0, rfl, Nat.le_refl _, by decide, fun h => by omega⟩
    · exact ⟨_, cap, rfl, hnc, by unfold maxLen at hcm; omega, fun h => by omega⟩
theorem own_below {w w' : World} {B base e size n : Nat} {v : Value} {xs : List Value} (h : w.ownsRow base e size v n xs) (hb : Below B w w') (hg : ∀ g, v.ownBlock = some g → g < B) : w'.ownsRow base e size v n xs := by
  obtain ⟨h2, h3⟩ := h
  refine ⟨h2, ?_⟩
  rcases h3 with h3 | ⟨g, cap, cur, e1, e2, e3, e4⟩
  · exact .inl h3
  · refine .inr ⟨g, cap, cur, e1, e2, ?_, e4⟩
    rw [hb.block g (hg g (by rw [e1]; rfl))]
    exact e3
/-- The program that the statement makes. -/
theorem lim_pg {W : World} {b1 b2 b3 b4 gs ge m k d : Nat} {A : Option Addr} {cap : Nat} {v vs : Value} (hvs : vs = .slice A m cap) (h1 : W.ownsRow b1 b2 1 v k (List.replicate k (.string pS))) (h2 : W.ownsRow b3 b4 3 vs m (fcells v m))
    (h3 : ∀ i, i < d + 1 → Blk W (ge + 1 + i) (eC ge i)) (h4 : Blk W gs [.int .i64 6, .string ⟨#[]⟩, .int .i64 0, eV ge (d + 1), .slice none 0 0, .slice none 0 0]) :
    PgV W.heap.size W (.agg #[vs, .slice (some ⟨gs, 0, none⟩) 1 1]) (limP m k d) := by
  have hf := own_fs (own_row h1) h2
  have he := lim_ev (d + 1) h3
  rw [eE_not] at he
  have hs := sv_one h4 he (sv_nil _ _) (sv_nil _ _) ⟨i64_of (by decide), i64_of (by decide), by decide⟩
  subst hvs
  have e : (limP m k d).fs.length = m := List.length_replicate
  exact ⟨A, cap, _, _, by rw [e]; rfl, by rw [e]; exact hf, hs⟩

set_option maxRecDepth 100000 in
set_option maxHeartbeats 8000000 in
theorem limits_any (fn pn dn : Int) (F K D m k d : Nat) (w : World) (hF : bits BinOp.and IntKind.i64 fn 65535 = (F : Int)) (hK : bits BinOp.and IntKind.i64 pn 65535 = (K : Int)) (hD : bits BinOp.and IntKind.i64 dn 65535 = (D : Int))
    (hm : (F : Int) % 41 = (m : Int)) (hk : (K : Int) % 13 = (k : Int)) (hd : (D : Int) % 79 = (d : Int)) (m1 : m ≤ 40) (k1 : k ≤ 12) (d1 : d ≤ 78) (ht : Tab w) :
    Calls Tryd.prog 9 #[.int .i64 fn, .int .i64 pn, .int .i64 dn] w fun e w' => e = .returned (.bool true) ∧ Below w.heap.size w w' := by
  have h0 := Fr.refl w
  obtain ⟨i0, hi, hz0, hz1, hz2⟩ := info_parts strInfo
  obtain ⟨i9, hi9, hz09, hz19, hz29⟩ := info_parts funcInfo
  go_enter Tryd.func9, Tryd.ntmps9
  go_wp2_with (go_at_call 11; ((with_reducible refine (shown_fr w _ ht h0).mono ?_); rintro e w1 ⟨rfl, h1⟩))
  simp only [hm, hk, hd]
  clear hm hk hd hF hK hD
  go_loopw [9] (fun i wr => ∃ j v, ParRel w w1.heap.size k i wr j v) (fun i _ => k - (intOf i).toNat)
  case atStart =>
    exact ⟨0, .slice none 0 0, rfl, Nat.zero_le _, by rw [cell_new]; rfl, by rw [cell_new]; rfl, by rw [cell_new]; rfl, by simp, World.ownsRow_nil _ _ _ _, by simp, h1.size, Fr.alloc h1 _⟩
  case round =>
    obtain ⟨j, v, R⟩ := hrel
    obtain ⟨rfl, hjk, c0, c1, c2, f1, hown, hlt, hge, hfr⟩ := id R
    by_cases hjlt : j < k
    · go_wp2_with (at_builtin; refine wpList_append_own _ rfl (.tmp 33) (.tmp 34) 33 rfl (w1.heap.size + 1) 9 i0 _ 1 16 Tryd.underlying33 hi hz0 hz1 hz2 rfl (by decide) v j (List.replicate j (.string pS)) rfl (hown.alloc _) ⟨wr.heap.size, 0, none⟩ 1 1 [.string pS] rfl rfl one_cells one_one (by unfold maxLen; omega) (by omega) (by simp; omega) ?_; intro v1 w2 hown1 hgrow1 _; have R1 := R.step hjlt hgrow1 hown1; obtain ⟨m0, m1'⟩ := R.mid hgrow1; have d3 := (m0 1).trans c1; have e3 := (m1' 1).trans f1; obtain ⟨g', cap', rfl⟩ := ownsRow_succ hown1; clear m0 m1')
      go_roundw
      case rel => exact ⟨j + 1, _, R1⟩
      case measure => simp [intOf]; omega
    · have hjk2 : j = k := by omega
      subst hjk2
      obtain ⟨A, cap, rfl⟩ := own_form hown
      clear R f1
      go_wp2_with fail
      obtain ⟨W2, hW2⟩ : ∃ W2, wr.alloc (.cells #[.slice none 0 0, .slice none 0 0] 25) = W2 := ⟨_, rfl⟩
      obtain ⟨gp, hgp⟩ : ∃ gp, wr.heap.size = gp := ⟨_, rfl⟩
      have b0 : W2.cell? ⟨w1.heap.size, 0, none⟩ = some (.string ⟨#[102]⟩) := by rw [← hW2]; exact (World.cell?_of_block (a := ⟨w1.heap.size, 0, none⟩) (Below.heap_alloc wr _ w1.heap.size hlt)).trans c0
      have b1 : W2.cell? ⟨w1.heap.size, 1, none⟩ = some (.slice A j cap) := by rw [← hW2]; exact (World.cell?_of_block (a := ⟨w1.heap.size, 1, none⟩) (Below.heap_alloc wr _ w1.heap.size hlt)).trans c1
      have b2 : W2.cell? ⟨w1.heap.size, 2, none⟩ = some (.slice none 0 0) := by rw [← hW2]; exact (World.cell?_of_block (a := ⟨w1.heap.size, 2, none⟩) (Below.heap_alloc wr _ w1.heap.size hlt)).trans c2
      have p0 : W2.cell? ⟨gp, 0, none⟩ = some (.slice none 0 0) := by rw [← hW2, ← hgp, cell_new]; rfl
      have p1 : W2.cell? ⟨gp, 1, none⟩ = some (.slice none 0 0) := by rw [← hW2, ← hgp, cell_new]; rfl
      have q0 : W2.frozen? ⟨gp, 0, none⟩ = false := by rw [← hW2, ← hgp]; simp
      have q1 : W2.frozen? ⟨gp, 1, none⟩ = false := by rw [← hW2, ← hgp]; simp
      have hsz2 : W2.heap.size = gp + 1 := by rw [← hW2, ← hgp]; simp
      have hfr2 : Fr w W2 := by rw [← hW2]; exact hfr.alloc _
      have hlt2 : w1.heap.size < gp := by omega
      have pown : W2.ownsRow (w1.heap.size + 1) 9 1 (.slice A j cap) j (List.replicate j (.string pS)) := by rw [← hW2]; exact hown.alloc _
      have PLT : Hid (∀ g, (Value.slice A j cap).ownBlock = some g → g < gp) := by show ∀ g, _ → _; intro g hg; have := (hown.lt g hg).2; omega
      have hwg : w.heap.size ≤ gp := by omega
      clear hown
      clear c0 c1 c2
      simp only [hW2, hgp]
      clear hW2 hgp hfr hlt
      go_loopw [11] (fun i wq => ∃ q vs, FunRel W2 gp m (.slice A j cap) i wq q vs) (fun i _ => m - (intOf i).toNat)
      case atStart =>
        exact ⟨0, .slice none 0 0, rfl, Nat.zero_le _, p0, p1, q0, q1, World.ownsRow_nil _ _ _ _, by omega, Below.refl _ _⟩
      case round =>
        obtain ⟨q, vs, R⟩ := hrel
        obtain ⟨rfl, hqm, s0, s1, t0, t1, sown, slt, sfr⟩ := id R
        have k0 := (World.cell?_of_block (a := ⟨w1.heap.size, 0, none⟩) (sfr.block w1.heap.size hlt2)).trans b0
        have k1 := (World.cell?_of_block (a := ⟨w1.heap.size, 1, none⟩) (sfr.block w1.heap.size hlt2)).trans b1
        have k2 := (World.cell?_of_block (a := ⟨w1.heap.size, 2, none⟩) (sfr.block w1.heap.size hlt2)).trans b2
        by_cases hqlt : q < m
        · go_wp2_with (at_builtin; refine wpList_append_own _ rfl (.tmp 44) (.tmp 46) 22 rfl (gp + 1) 35 i9 _ 3 64 Tryd.underlying22 hi9 hz09 hz19 hz29 rfl (by decide) vs q (fcells (.slice A j cap) q) rfl (sown.alloc _) ⟨wr.heap.size, 0, none⟩ 1 1 [.string ⟨#[102]⟩, .slice A j cap, .slice none 0 0] rfl rfl tri_cells tri_one (by unfold maxLen; omega) (by omega) (by simp; omega) ?_; intro v1 w2 hown1 hgrow1 _; have R1 := R.step hqlt hgrow1 hown1; obtain ⟨m0, m1'⟩ := R.mid hgrow1; have d3 := (m0 0).trans s0; have e3 := (m1' 0).trans t0; obtain ⟨g', cap', rfl⟩ := ownsRow_succ hown1; clear m0 m1')
          go_roundw
          case rel => exact ⟨q + 1, _, R1⟩
          case measure => simp [intOf]; omega
        · have hqm2 : q = m := by omega
          subst hqm2
          obtain ⟨A', cap', rfl⟩ := own_form sown
          clear R
          obtain ⟨W3, hW3⟩ : ∃ W3, wr.alloc (.cells #[.int .i64 1, .int .i64 1, .string ⟨#[]⟩, .slice none 0 0] 41) = W3 := ⟨_, rfl⟩
          have hs3 : W3.heap.size = wr.heap.size + 1 := by rw [← hW3]; simp
          have hb3 : Below wr.heap.size wr W3 := by rw [← hW3]; exact (Below.refl _ _).alloc (Nat.le_refl _) _
          go_wp2_with (go_at_call 22; ((with_reducible refine (one_any 1 wr).mono ?_); rintro e w9 ⟨rfl, h9⟩; obtain rfl := h9.symm.trans hW3))
          clear h9
          obtain ⟨W4, hW4⟩ : ∃ W4, w9.alloc (.cells #[.int .i64 1, .int .i64 1, .string ⟨#[]⟩, .slice none 0 0] 41) = W4 := ⟨_, rfl⟩
          obtain ⟨ge, hge2⟩ : ∃ ge, wr.heap.size + 1 = ge := ⟨_, rfl⟩
          have hs9 : w9.heap.size = ge := by omega
          have hs4 : W4.heap.size = ge + 1 := by rw [← hW4]; simp; omega
          have hb4 : Below ge w9 W4 := by rw [← hW4, ← hs9]; exact (Below.refl _ _).alloc (Nat.le_refl _) _
          have hB4 : Blk W4 ge (eC ge 0) := by rw [← hW4, ← hs9]; exact Blk.new w9 #[.int .i64 1, .int .i64 1, .string ⟨#[]⟩, .slice none 0 0] 41
          have hz4 : ∀ i, W4.frozen? ⟨ge, i, none⟩ = false := by intro i; rw [← hW4, ← hs9]; simp
          simp only [hW4, hge2]
          clear hW4
          go_loopw [13] (fun i wq => ∃ p, NotRel W4 ge d i wq p) (fun i _ => d + 2 - (intOf i).toNat)
          case atStart =>
            exact ⟨0, rfl, Nat.zero_le _, hs4, hB4, hz4, fun i hi => by omega, Below.refl _ _⟩
          case round =>
            obtain ⟨p, R⟩ := hrel
            obtain ⟨rfl, hpd, psz, pbox, pfrz, pblk, pfr⟩ := id R
            obtain ⟨A5, n5, c5, h5⟩ := eV_form ge p
            have k0 : wr.cell? ⟨ge, 0, none⟩ = some (.int .i64 (eOp p)) := pbox.at 0 _ rfl
            have k1 : wr.cell? ⟨ge, 1, none⟩ = some (.int .i64 (eNn p)) := pbox.at 1 _ rfl
            have k2 : wr.cell? ⟨ge, 2, none⟩ = some (.string ⟨#[]⟩) := pbox.at 2 _ rfl
            have k3 : wr.cell? ⟨ge, 3, none⟩ = some (.slice A5 n5 c5) := (pbox.at 3 _ rfl).trans (congrArg some h5)
            have z0 := pfrz 0
            have z1 := pfrz 1
            have z2 := pfrz 2
            have z3 := pfrz 3
            by_cases hplt : p < d
            · have R1 := R.step (t := 41) hplt
              rw [h5, psz] at R1
              clear R
              have a0 := (World.cell?_of_block (a := ⟨ge, 0, none⟩) (Below.heap_alloc wr (.cells #[.int .i64 (eOp p), .int .i64 (eNn p), .string ⟨#[]⟩, .slice A5 n5 c5] 41) ge (by omega))).trans k0
              have y0 := (World.frozen?_of_block (a := ⟨ge, 0, none⟩) (Below.heap_alloc wr (.cells #[.int .i64 (eOp p), .int .i64 (eNn p), .string ⟨#[]⟩, .slice A5 n5 c5] 41) ge (by omega))).trans z0
              have a1 := (World.cell?_of_block (a := ⟨ge, 1, none⟩) (Below.heap_alloc wr (.cells #[.int .i64 (eOp p), .int .i64 (eNn p), .string ⟨#[]⟩, .slice A5 n5 c5] 41) ge (by omega))).trans k1
              have y1 := (World.frozen?_of_block (a := ⟨ge, 1, none⟩) (Below.heap_alloc wr (.cells #[.int .i64 (eOp p), .int .i64 (eNn p), .string ⟨#[]⟩, .slice A5 n5 c5] 41) ge (by omega))).trans z1
              have a2 := (World.cell?_of_block (a := ⟨ge, 2, none⟩) (Below.heap_alloc wr (.cells #[.int .i64 (eOp p), .int .i64 (eNn p), .string ⟨#[]⟩, .slice A5 n5 c5] 41) ge (by omega))).trans k2
              have y2 := (World.frozen?_of_block (a := ⟨ge, 2, none⟩) (Below.heap_alloc wr (.cells #[.int .i64 (eOp p), .int .i64 (eNn p), .string ⟨#[]⟩, .slice A5 n5 c5] 41) ge (by omega))).trans z2
              have a3 := (World.cell?_of_block (a := ⟨ge, 3, none⟩) (Below.heap_alloc wr (.cells #[.int .i64 (eOp p), .int .i64 (eNn p), .string ⟨#[]⟩, .slice A5 n5 c5] 41) ge (by omega))).trans k3
              have y3 := (World.frozen?_of_block (a := ⟨ge, 3, none⟩) (Below.heap_alloc wr (.cells #[.int .i64 (eOp p), .int .i64 (eNn p), .string ⟨#[]⟩, .slice A5 n5 c5] 41) ge (by omega))).trans z3
              have hif : decide ((2 : Int) + (p : Int) < 2 + (d : Int)) = true := decide_eq_true (by omega)
              go_wp2_with fail
              exact ⟨⟨p + 1, R1⟩, by simp [intOf]; omega⟩
            · have hpd2 : p = d := by omega
              subst hpd2
              have hif : decide ((2 : Int) + (p : Int) < 2 + (p : Int)) = false := decide_eq_false (by omega)
              have g0 := (pfr.cell (p := ⟨gp, 0, none⟩) (show gp < ge by omega)).trans ((hb4.cell (p := ⟨gp, 0, none⟩) (show gp < ge by omega)).trans ((hb3.cell (p := ⟨gp, 0, none⟩) slt).trans s0))
              have g1 := (pfr.cell (p := ⟨gp, 1, none⟩) (show gp < ge by omega)).trans ((hb4.cell (p := ⟨gp, 1, none⟩) (show gp < ge by omega)).trans ((hb3.cell (p := ⟨gp, 1, none⟩) slt).trans s1))
              have r1 := (World.frozen?_of_block (a := ⟨gp, 1, none⟩) (pfr.block gp (show gp < ge by omega))).trans ((World.frozen?_of_block (a := ⟨gp, 1, none⟩) (hb4.block gp (by omega))).trans ((World.frozen?_of_block (a := ⟨gp, 1, none⟩) (hb3.block gp slt)).trans t1))
              have hpg : gp < wr.heap.size := by omega
              clear R z0 z1 z2 z3 pfrz s0 s1 t0 t1
              obtain ⟨W6, hW6⟩ : ∃ W6, (wr.alloc (.cells #[.int .i64 (eOp p), .int .i64 (eNn p), .string ⟨#[]⟩, .slice A5 n5 c5] 41)).alloc (.cells #[.int .i64 6, .string ⟨#[]⟩, .int .i64 0, .slice (some ⟨ge + 1 + p, 0, none⟩) 1 1, .slice none 0 0, .slice none 0 0] 38) = W6 := ⟨_, rfl⟩
              have hb6 : Below wr.heap.size wr W6 := by rw [← hW6]; exact ((Below.refl _ _).alloc (Nat.le_refl _) _).alloc (by simp) _
              have v0 := (hb6.cell (p := ⟨gp, 0, none⟩) hpg).trans g0
              have v1 := (hb6.cell (p := ⟨gp, 1, none⟩) hpg).trans g1
              have v2 := (World.frozen?_of_block (a := ⟨gp, 1, none⟩) (hb6.block gp hpg)).trans r1
              have vE : Blk W6 (ge + 1 + p) (eC ge p) := by
                rw [← hW6, ← psz]
                have := (Blk.new wr #[.int .i64 (eOp p), .int .i64 (eNn p), .string ⟨#[]⟩, .slice A5 n5 c5] 41).alloc (.cells #[.int .i64 6, .string ⟨#[]⟩, .int .i64 0, .slice (some ⟨wr.heap.size, 0, none⟩) 1 1, .slice none 0 0, .slice none 0 0] 38)
                unfold eC
                rw [h5]
                exact this
              have vS : Blk W6 (ge + 1 + p + 1) [.int .i64 6, .string ⟨#[]⟩, .int .i64 0, .slice (some ⟨ge + 1 + p, 0, none⟩) 1 1, .slice none 0 0, .slice none 0 0] := by
                have := Blk.new (wr.alloc (.cells #[.int .i64 (eOp p), .int .i64 (eNn p), .string ⟨#[]⟩, .slice A5 n5 c5] 41)) #[.int .i64 6, .string ⟨#[]⟩, .int .i64 0, .slice (some ⟨ge + 1 + p, 0, none⟩) 1 1, .slice none 0 0, .slice none 0 0] 38
                rw [World.size_alloc, psz, hW6] at this
                exact this
              go_upto_region 21 with fail
              have hs9' : wr.heap.size = ge + 1 + p := psz
              have hA6 : Below gp W2 W6 := (((sfr.trans (hb3.mono (by omega))).trans (hb4.mono (by omega))).trans (pfr.mono (by omega))).trans (hb6.mono (by omega))
              have so6 : W6.ownsRow (gp + 1) 35 3 (.slice A' q cap') q (fcells (.slice A j cap) q) := own_below sown (((hb3.trans (hb4.mono (by omega))).trans (pfr.mono (by omega))).trans (hb6.mono (by omega))) (fun g hg => (sown.lt g hg).2)
              have hlv : ∀ i, i < p + 1 → Blk W6 (ge + 1 + i) (eC ge i) := fun i hi => by
                rcases Nat.lt_or_ge i p with h | h
                · exact (pblk i h).below hb6 (by omega)
                · obtain rfl : i = p := by omega
                  exact vE
              clear sown pblk vE hb6 hb3 hb4 pfr sfr k0 k1 k2 k3 pbox b0 b1 b2 p0 p1 q0 q1
              obtain ⟨W7, hW7⟩ : ∃ W7, W6.setCell ⟨gp, 1, none⟩ (.slice (some ⟨ge + 1 + p + 1, 0, none⟩) 1 1) = W7 := ⟨_, rfl⟩
              have e0 : W7.cell? ⟨gp, 0, none⟩ = some (.slice A' q cap') := by rw [← hW7, World.cell?_setCell_other _ _ _ _ (by simp)]; exact v0
              have e1 : W7.cell? ⟨gp, 1, none⟩ = some (.slice (some ⟨ge + 1 + p + 1, 0, none⟩) 1 1) := by rw [← hW7]; exact World.cell?_setCell_same' _ _ _ (by rw [v1]; rfl)
              have hA7 : Below gp W2 W7 := by rw [← hW7]; exact hA6.setCell (p := ⟨gp, 1, none⟩) (Nat.le_refl _) _
              have hpg : PgV W7.heap.size W7 (.agg #[.slice A' q cap', .slice (some ⟨ge + 1 + p + 1, 0, none⟩) 1 1]) (limP q j p) := by
                refine lim_pg (b1 := w1.heap.size + 1) (b2 := 9) (b3 := gp + 1) (b4 := 35) (ge := ge) rfl (own_below pown hA7 PLT.out) ?_ ?_ ?_
                · rw [← hW7]; exact ownsRow_setCell_below so6 (show gp < gp + 1 by omega) _
                · intro i hi
                  rw [← hW7]
                  exact (hlv i hi).set _ _ (show ge + 1 + i ≠ gp by omega)
                · rw [← hW7]
                  exact vS.set _ _ (show ge + 1 + p + 1 ≠ gp by omega)
              have hF7 : Fr w W7 := Below.trans hfr2 (hA7.mono hwg)
              have hT7 : Tab W7 := ht.step hF7
              have hgz : gp < W7.heap.size := by have := hA7.size; omega
              simp only [hW7]
              clear hW7 v0 v1 v2 vS hlv so6 hA6 hA7 pown PLT
              have HR := right_any _ _ W7 _ (Nat.le_refl _) hpg hT7
              have HD := fun W (hb : Below W7.heap.size W7 W) => depth_any _ _ W _ hb.size (hpg.below hb (Nat.le_refl _))
              have HS := fun W (hb : Below W7.heap.size W7 W) => size_any _ _ W _ hb.size (hpg.below hb (Nat.le_refl _))
              rw [lim_right _ _ _ (by omega)] at HR
              rw [lim_deep _ _ _ (by omega)] at HD
              rw [lim_cnt _ _ _ (by omega)] at HS
              clear hpg hT7
              have HRh := Lib.hid HR
              have HDh := Lib.hid HD
              have HSh := Lib.hid HS
              clear HR HD HS
              have H64 := Lib.hid (show (64 < p + 2) = (64 < p + 2) from rfl)
              obtain ⟨n1, hn1⟩ : ∃ n1 : Int, (if 64 < p + 2 then (3 : Int) else 0) = n1 := ⟨_, rfl⟩
              rw [hn1] at HRh
              have HN1 := Lib.hid hn1; clear hn1
              go_upto_if 64 with fail
              go_cut [14] (fun x wx => x = .int .i64 n1 ∧ wx = W7)
              case first =>
                by_cases h64 : 64 < p + 2
                · have hd : decide ((64 : Int) < 2 + (p : Int)) = true := decide_eq_true (by omega)
                  go_wp2_with fail
                  go_meet
                  exact ⟨congrArg (Value.int .i64) (by rw [← HN1.out, if_pos h64]), rfl⟩
                · have hd : decide ((64 : Int) < 2 + (p : Int)) = false := decide_eq_false (by omega)
                  go_wp2_with fail
                  go_meet
                  exact ⟨congrArg (Value.int .i64) (by rw [← HN1.out, if_neg h64]), rfl⟩
              case rest =>
              obtain ⟨rfl, rfl⟩ := hcut
              obtain ⟨bw, hbw⟩ : ∃ bw, (decide (32 < (q : Int)) || (decide (0 < (q : Int)) && decide (8 < (j : Int)))) = bw := ⟨_, rfl⟩
              have HBW := Lib.hid hbw; clear hbw
              obtain ⟨n2, hn2⟩ : ∃ n2 : Int, (if q ≤ 32 ∧ (q = 0 ∨ j ≤ 8) then n1 else 1) = n2 := ⟨_, rfl⟩
              have HN2 := Lib.hid hn2; clear hn2
              go_upto_region 24 with fail
              go_cut [74] (fun x wx => x = .bool bw ∧ wx = wc)
              case first =>
                cases q1 : decide (32 < (q : Int)) with
                | true =>
                  go_wp2_with fail
                  go_meet
                  exact ⟨congrArg Value.bool (by rw [← HBW.out, q1]; rfl), rfl⟩
                | false =>
                  by_cases h0 : 0 < q
                  · have q2 : decide (0 < q) = true := decide_eq_true h0
                    have q2' : decide (0 < (q : Int)) = true := decide_eq_true (by omega)
                    go_wp2_with fail
                    go_meet
                    exact ⟨congrArg Value.bool (by rw [← HBW.out, q1, q2']; simp), rfl⟩
                  · have q2 : decide (0 < q) = false := decide_eq_false h0
                    have q2' : decide (0 < (q : Int)) = false := decide_eq_false (by omega)
                    go_wp2_with fail
                    go_meet
                    exact ⟨congrArg Value.bool (by rw [← HBW.out, q1, q2']; simp), rfl⟩
              case rest =>
              obtain ⟨rfl, rfl⟩ := hcut
              go_upto_if 74 with fail
              go_cut [14] (fun x wx => x = .int .i64 n2 ∧ wx = wc)
              case first =>
                cases bw with
                | true =>
                  go_wp2_with fail
                  go_meet
                  exact ⟨congrArg (Value.int .i64) (by have := HBW.out; rw [← HN2.out, if_neg (by simp at this; omega)]), rfl⟩
                | false =>
                  go_wp2_with fail
                  go_meet
                  exact ⟨congrArg (Value.int .i64) (by have := HBW.out; rw [← HN2.out, if_pos (by simp at this; omega)]), rfl⟩
              case rest =>
              obtain ⟨rfl, rfl⟩ := hcut
              have HR := HRh.out
              rw [HN2.out] at HR
              clear HRh HN1 HN2 HBW H64
              go_wp2_with (first
                | (go_at_call 12; ((with_reducible refine HR.mono ?_); rintro e w3 ⟨rfl, hb3⟩; obtain ⟨hc3, hf3⟩ := bcell hb3; have hz3 : gp < w3.heap.size := (by have := hb3.size; omega); have HD := HDh.out _ hb3))
                | (go_at_call 14; ((with_reducible refine HD.mono ?_); rintro e w4 ⟨rfl, hb4⟩; obtain ⟨hc4, hf4⟩ := bcell hb4; have hz4 : gp < w4.heap.size := (by have := hb4.size; omega); have hb4' := hb3.trans (hb4.mono hb3.size); have HS := HSh.out _ hb4'))
                | (go_at_call 16; ((with_reducible refine HS.mono ?_); rintro e w5 ⟨rfl, hb5⟩)))
              go_ret
              exact ⟨ret_bool (by simp), Below.trans hF7 ((hb4'.trans (hb5.mono hb4'.size)).mono hF7.size)⟩

theorem limits_walk (fn pn dn : Int) (w : World) (_hf : I64 fn) (_hp : I64 pn) (_hd : I64 dn) (ht : Tab w) :
    Calls Tryd.prog 9 #[.int .i64 fn, .int .i64 pn, .int .i64 dn] w fun e w' => e = .returned (.bool true) ∧ Below w.heap.size w w' := by
  obtain ⟨F, hF, _⟩ := and_16 fn
  obtain ⟨K, hK, _⟩ := and_16 pn
  obtain ⟨D, hD, _⟩ := and_16 dn
  exact limits_any fn pn dn F K D (F % 41) (K % 13) (D % 79) w hF hK hD (by omega) (by omega) (by omega) (by omega) (by omega) (by omega) ht

end Go.Proofs.YtnjghoaelcpljaaDoor
