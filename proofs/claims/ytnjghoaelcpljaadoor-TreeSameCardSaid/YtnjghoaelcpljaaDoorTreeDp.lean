/-
  How deep, and how large, what holds a program's statements is (plain).
-/
import Derived.Test.YtnjghoaelcpljaaDoorTreeCf
import Derived.Test.YtnjghoaelcpljaaDoorTreeS
import Derived.Test.YtnjghoaelcpljaaDoorTreePp
namespace Go.Proofs.YtnjghoaelcpljaaDoor
open Go Go.RowKit Go.Lib

/-- A box of the call's own that holds a program. -/
def Bx (W0 W : World) (k : Nat) (x y : Value) (pg : Pg) : Prop :=
  W0.heap.size ≤ k ∧ k < W.heap.size ∧ W.cell? ⟨k, 0, none⟩ = some x ∧ W.cell? ⟨k, 1, none⟩ = some y ∧ PgV W.heap.size W (.agg #[x, y]) pg ∧ Below W0.heap.size W0 W
def BxS (W0 W : World) (s : Value) (pg : Pg) : Prop := ∃ k A n c A' n' c', s = .pointer (some ⟨k, 0, none⟩) ∧ Bx W0 W k (.slice A n c) (.slice A' n' c') pg
/-- The three that hold statements. -/
def dpA (m : SS) : Pg := ⟨[], .cons 8 ⟨#[]⟩ 0 (num 1) m .nil .nil⟩
def dpB (m : SS) : Pg := ⟨[], .cons 7 ⟨#[]⟩ 0 (num 1) .nil m .nil⟩
def dpC (m : SS) : Pg := ⟨[⟨⟨#[102]⟩, [], m⟩], .nil⟩
theorem mn_deep (m : SS) : deepL (⟨[], m⟩ : Pg).pts = m.deep := by
  show deepL ([] ++ m.pts) = _
  rw [List.nil_append, SS.deepL]
theorem mn_cnt (m : SS) (h : m.cnt ≤ 2000000) : wrap64 (cntL (⟨[], m⟩ : Pg).pts) = m.cnt := by
  show wrap64 (cntL ([] ++ m.pts)) = _
  rw [List.nil_append, SS.cntL, wrap_def]
  omega
theorem num_deep : (num 1).deep = 1 := by decide +kernel
theorem num_cnt : (num 1).cnt = 1 := by decide +kernel
theorem dp_wrap (d : Int) (h0 : 0 ≤ d) (h1 : d ≤ 2000000) : max (wrap64 (1 + max 1 (max d 0))) 0 = max d 1 + 1 := by rw [wrap_def]; omega
theorem dp_wrap' (d : Int) (h0 : 0 ≤ d) (h1 : d ≤ 2000000) : max (wrap64 (1 + max 1 (max 0 d))) 0 = max d 1 + 1 := by rw [wrap_def]; omega
theorem dpA_deep (m : SS) (h : m.cnt ≤ 2000000) : deepL (dpA m).pts = max m.deep 1 + 1 := by
  have h0 := SS.deep_nn m
  have h1 := SS.deep_le m h
  show deepL ([] ++ [(⟨true, 8, ⟨#[]⟩, 0, num 1, m, .nil⟩ : Pt)]) = _
  simp only [List.nil_append, deepL, Pt.deep, num_deep, SS.deep]
  exact dp_wrap _ h0 (by omega)
theorem dpB_deep (m : SS) (h : m.cnt ≤ 2000000) : deepL (dpB m).pts = max m.deep 1 + 1 := by
  have h0 := SS.deep_nn m
  have h1 := SS.deep_le m h
  show deepL ([] ++ [(⟨true, 7, ⟨#[]⟩, 0, num 1, .nil, m⟩ : Pt)]) = _
  simp only [List.nil_append, deepL, Pt.deep, num_deep, SS.deep]
  exact dp_wrap' _ h0 (by omega)
theorem dpC_deep (m : SS) : deepL (dpC m).pts = m.deep := by
  show deepL ((m.pts ++ []) ++ []) = _
  rw [List.append_nil, List.append_nil, SS.deepL]
theorem dpA_cnt (m : SS) (h : m.cnt ≤ 2000000) : wrap64 (cntL (dpA m).pts) = m.cnt + 2 := by
  have e : cntL (dpA m).pts = m.cnt + 2 := by
    show cntL ([] ++ [(⟨true, 8, ⟨#[]⟩, 0, num 1, m, .nil⟩ : Pt)]) = _
    simp only [List.nil_append, cntL, Pt.cnt, num_cnt, SS.cnt]
    omega
  rw [e, wrap_def]
  omega
theorem dpB_cnt (m : SS) (h : m.cnt ≤ 2000000) : wrap64 (cntL (dpB m).pts) = m.cnt + 2 := by
  have e : cntL (dpB m).pts = m.cnt + 2 := by
    show cntL ([] ++ [(⟨true, 7, ⟨#[]⟩, 0, num 1, .nil, m⟩ : Pt)]) = _
    simp only [List.nil_append, cntL, Pt.cnt, num_cnt, SS.cnt]
    omega
  rw [e, wrap_def]
  omega
theorem dpC_cnt (m : SS) (h : m.cnt ≤ 2000000) : wrap64 (cntL (dpC m).pts) = m.cnt := by
  have e : cntL (dpC m).pts = m.cnt := by
    show cntL ((m.pts ++ []) ++ []) = _
    rw [List.append_nil, List.append_nil, SS.cntL]
  rw [e, wrap_def]
  omega
theorem app_deep : ∀ a b : SS, (a.app b).deep = max a.deep b.deep
  | .nil, b => by have := SS.deep_nn b; simp only [SS.app, SS.deep]; omega
  | .cons _ _ _ l x y r, b => by simp only [SS.app, SS.deep, app_deep r b, Int.max_assoc]
theorem app_cnt : ∀ a b : SS, (a.app b).cnt = a.cnt + b.cnt
  | .nil, b => by simp [SS.app, SS.cnt]
  | .cons _ _ _ l x y r, b => by simp only [SS.app, SS.cnt, app_cnt r b]; omega
theorem pg_deep (p : Pg) : p.m.deep ≤ deepL p.pts := by
  simp only [Pg.pts, deepL_append, SS.deepL]
  omega
theorem pg_cnt (p : Pg) (h : cntL p.pts ≤ 2000000) : (p.m.cnt : Int) ≤ wrap64 (cntL p.pts) := by
  rw [wrap_def]
  simp only [Pg.pts, cntL_append, SS.cntL] at *
  omega

/-- A While, an If, and a function of the call's own. -/
theorem dpA_pg {W : World} {be bs : Nat} {m : SS} {v : Value} (he : Blk W be [.int .i64 1, .int .i64 1, .string ⟨#[]⟩, .slice none 0 0]) (hs : Blk W bs [.int .i64 8, .string ⟨#[]⟩, .int .i64 0, .slice (some ⟨be, 0, none⟩) 1 1, v, .slice none 0 0]) (hv : SV W.heap.size W v m) :
    PgV W.heap.size W (.agg #[.slice none 0 0, .slice (some ⟨bs, 0, none⟩) 1 1]) (dpA m) :=
  ⟨none, 0, _, _, rfl, ⟨none, 0, rfl, Nat.le_refl _, by decide, fun h => by simp [dpA] at h⟩, sv_one hs (ev_one he (ev_nil _ _) ⟨i64_of (by decide), i64_of (by decide), by decide⟩) hv (sv_nil _ _) ⟨i64_of (by decide), i64_of (by decide), by decide⟩⟩
theorem dpB_pg {W : World} {be bs : Nat} {m : SS} {v : Value} (he : Blk W be [.int .i64 1, .int .i64 1, .string ⟨#[]⟩, .slice none 0 0]) (hs : Blk W bs [.int .i64 7, .string ⟨#[]⟩, .int .i64 0, .slice (some ⟨be, 0, none⟩) 1 1, .slice none 0 0, v]) (hv : SV W.heap.size W v m) :
    PgV W.heap.size W (.agg #[.slice none 0 0, .slice (some ⟨bs, 0, none⟩) 1 1]) (dpB m) :=
  ⟨none, 0, _, _, rfl, ⟨none, 0, rfl, Nat.le_refl _, by decide, fun h => by simp [dpB] at h⟩, sv_one hs (ev_one he (ev_nil _ _) ⟨i64_of (by decide), i64_of (by decide), by decide⟩) (sv_nil _ _) hv ⟨i64_of (by decide), i64_of (by decide), by decide⟩⟩
theorem ps_none (W : World) : RowV (PsIn W []) W.heap.size 0 (.slice none 0 0) := ⟨none, 0, rfl, Nat.le_refl _, by decide, fun h => by simp at h⟩
theorem dpC_pg {W : World} {bf : Nat} {m : SS} {v : Value} (hf : Blk W bf [.string ⟨#[102]⟩, .slice none 0 0, v]) (hv : SV W.heap.size W v m) :
    PgV W.heap.size W (.agg #[.slice (some ⟨bf, 0, none⟩) 1 1, .slice none 0 0]) (dpC m) := by
  have h1 : FV W.heap.size W (.slice (some ⟨bf, 0, none⟩) 1 1) (dpC m).fs :=
    ⟨some ⟨bf, 0, none⟩, 1, rfl, Nat.le_refl _, by decide, fun _ => ⟨bf, 0, rfl, hf.1, hf.at 0 _ rfl, ⟨_, hf.at 1 _ rfl, ps_none W⟩, ⟨v, hf.at 2 _ rfl, hv⟩, (show (⟨#[102]⟩ : ByteArray).size ≤ 9223372036854775807 by decide), trivial⟩⟩
  exact ⟨some ⟨bf, 0, none⟩, 1, none, 0, rfl, h1, sv_nil _ _⟩

theorem sv_nil0 {B : Nat} {W : World} {A : Option Addr} {n cap : Nat} {l : SS} (h : SV B W (.slice A n cap) l) (e0 : A = none) : n = 0 := by
  subst e0
  obtain ⟨A', c, e, _, _, hr⟩ := h
  injection e with e1 e2 _
  subst e1 e2
  rcases Nat.eq_zero_or_pos l.len with h | h
  · exact h
  · obtain ⟨_, _, h, _⟩ := hr h
    cases h
theorem blk_of {W : World} {k : Nat} {cs : Array Value} {t : TypeId} (h : W.heap[k]? = some (.cells cs t)) : Blk W k cs.toList := ⟨blk_lt h, fun i _ => by rw [blk_cell h]; simp⟩
theorem Bx.step {W0 W W' : World} {k : Nat} {x y : Value} {pg : Pg} (h : Bx W0 W k x y pg) (hb : Below W.heap.size W W') : Bx W0 W' k x y pg := by
  obtain ⟨h0, h1, h2, h3, h4, h5⟩ := h
  exact ⟨h0, Nat.lt_of_lt_of_le h1 hb.size, (hb.cell (p := ⟨k, 0, none⟩) h1).trans h2, (hb.cell (p := ⟨k, 1, none⟩) h1).trans h3, h4.below hb hb.size, h5.trans (hb.mono h5.size)⟩
theorem bxA {W0 W : World} {k be bs : Nat} {m : SS} {v : Value} {t te ts : TypeId} (h0 : W0.heap.size ≤ k) (hb : Below W0.heap.size W0 W) (hk : W.heap[k]? = some (.cells #[.slice none 0 0, .slice (some ⟨bs, 0, none⟩) 1 1] t))
    (hs : W.heap[bs]? = some (.cells #[.int .i64 8, .string ⟨#[]⟩, .int .i64 0, .slice (some ⟨be, 0, none⟩) 1 1, v, .slice none 0 0] ts)) (he : W.heap[be]? = some (.cells #[.int .i64 1, .int .i64 1, .string ⟨#[]⟩, .slice none 0 0] te)) (hv : SV W.heap.size W v m) :
    BxS W0 W (.pointer (some ⟨k, 0, none⟩)) (dpA m) :=
  ⟨k, _, _, _, _, _, _, rfl, h0, blk_lt hk, (blk_cell hk 0), (blk_cell hk 1), dpA_pg (blk_of he) (blk_of hs) hv, hb⟩
theorem bxB {W0 W : World} {k be bs : Nat} {m : SS} {v : Value} {t te ts : TypeId} (h0 : W0.heap.size ≤ k) (hb : Below W0.heap.size W0 W) (hk : W.heap[k]? = some (.cells #[.slice none 0 0, .slice (some ⟨bs, 0, none⟩) 1 1] t))
    (hs : W.heap[bs]? = some (.cells #[.int .i64 7, .string ⟨#[]⟩, .int .i64 0, .slice (some ⟨be, 0, none⟩) 1 1, .slice none 0 0, v] ts)) (he : W.heap[be]? = some (.cells #[.int .i64 1, .int .i64 1, .string ⟨#[]⟩, .slice none 0 0] te)) (hv : SV W.heap.size W v m) :
    BxS W0 W (.pointer (some ⟨k, 0, none⟩)) (dpB m) :=
  ⟨k, _, _, _, _, _, _, rfl, h0, blk_lt hk, (blk_cell hk 0), (blk_cell hk 1), dpB_pg (blk_of he) (blk_of hs) hv, hb⟩
theorem bxC {W0 W : World} {k bf : Nat} {m : SS} {v : Value} {t tf : TypeId} (h0 : W0.heap.size ≤ k) (hb : Below W0.heap.size W0 W) (hk : W.heap[k]? = some (.cells #[.slice (some ⟨bf, 0, none⟩) 1 1, .slice none 0 0] t))
    (hf : W.heap[bf]? = some (.cells #[.string ⟨#[102]⟩, .slice none 0 0, v] tf)) (hv : SV W.heap.size W v m) :
    BxS W0 W (.pointer (some ⟨k, 0, none⟩)) (dpC m) :=
  ⟨k, _, _, _, _, _, _, rfl, h0, blk_lt hk, (blk_cell hk 0), (blk_cell hk 1), dpC_pg (blk_of hf) hv, hb⟩

end Go.Proofs.YtnjghoaelcpljaaDoor
