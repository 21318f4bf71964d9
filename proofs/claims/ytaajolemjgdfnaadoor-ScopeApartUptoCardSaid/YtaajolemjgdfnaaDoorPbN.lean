/-
  Texts PbL PbM PbN: put together.
-/
import Derived.Test.YtaajolemjgdfnaaDoorPbK
import Derived.Recover
/-
  Package parse: functions that are gathered in a row of the call's own; a program in memory.
-/
namespace Go.Proofs.YtaajolemjgdfnaaDoor
open Go Go.RowKit Go.Lib

theorem func_ls (n : Nat) (ts : List Tok) : Ls ts.length (funcT n ts) :=
  (want_fn (by decide) ts).ls.bind fun _ r hr => Ls.of ((name_lq r).bind fun s r1 h1 => ((several_lq name_lq n 0 r1).mono h1).bind fun ps r2 h2 =>
    ((block_lq (fun ts => (stmt_ls n 1 ts).le.bind fun t r hr => by
      split
      · trivial
      · exact hr) n 0 r2).mono h2).bind fun b r3 h3 => h3) hr
theorem func_left {n : Nat} {ts : List Tok} {v : Fn} {r : List Tok} (h : funcT n ts = .ok v r) : r.length < ts.length := by
  have h1 := func_ls n ts
  rw [h] at h1
  exact h1

abbrev NY (p : Nat → Prop) [DecidablePred p] (W : World) (v : Value) (l : List ByteArray) : Prop := RowV (PsIn (erp p W) l) W.heap.size l.length v
section
variable {p q : Nat → Prop} [DecidablePred p] [DecidablePred q] {W W' : World} {v : Value} {l : List ByteArray} {lo : Nat}
theorem NY.kp (hv : NY p W v l) (hs : W.heap.size ≤ W'.heap.size) (hk : ∀ k, p k → k < W.heap.size → W'.heap[k]? = W.heap[k]?) (hp : ∀ k, p k → k < W.heap.size → q k) : NY q W' v l :=
  RowV.imp hv hs fun _ _ hb hq => PsIn.ext (fun b j u hb hc => by
    rw [erp_cell] at hc ⊢
    by_cases e : p b
    · rw [if_pos e] at hc
      rw [if_pos (hp b e hb), World.cell?_of_block (a := ⟨b, j, none⟩) (hk b e hb)]
      exact hc
    · rw [if_neg e] at hc; cases hc) hb hq
theorem NY.of_nx (hv : NX lo W v l) (hk : Kp lo W W') (hp : ∀ k, lo ≤ k → k < W.heap.size → q k) : NY q W' v l :=
  RowV.imp hv hk.size fun _ _ hb hq => PsIn.ext (fun b j u hb hc => by
    rw [er_cell] at hc
    rw [erp_cell]
    by_cases e : b < lo
    · rw [if_pos e] at hc; cases hc
    · rw [if_neg e] at hc
      rw [if_pos (hp b (by omega) hb), World.cell?_of_block (a := ⟨b, j, none⟩) (hk.block b (by omega) hb)]
      exact hc) hb hq
theorem NX.of_ny (hv : NY p W v l) (hs : W.heap.size ≤ W'.heap.size) (hk : ∀ k, p k → k < W.heap.size → W'.heap[k]? = W.heap[k]?) (hp : ∀ k, p k → lo ≤ k) : NX lo W' v l :=
  RowV.imp hv hs fun _ _ hb hq => PsIn.ext (fun b j u hb hc => by
    rw [erp_cell] at hc
    rw [er_cell]
    by_cases e : p b
    · rw [if_pos e] at hc
      have := hp b e
      rw [if_neg (by omega), World.cell?_of_block (a := ⟨b, j, none⟩) (hk b e hb)]
      exact hc
    · rw [if_neg e] at hc; cases hc) hb hq
end
/-- The cells of functions that lie one behind the other. -/
def fCs (p : Nat → Prop) [DecidablePred p] (W : World) : List Fn → List Value → Prop
  | [] => fun cs => cs = []
  | t :: r => fun cs => ∃ vp vb rest, cs = .string t.s :: vp :: vb :: rest ∧ NY p W vp t.ps ∧ SY p W vb t.b ∧ t.s.size ≤ 9223372036854775807 ∧ fCs p W r rest
/-- Functions in a slice, in blocks from lo on. -/
abbrev FX (lo : Nat) (W : World) (v : Value) (l : List Fn) : Prop := RowV (FsIn W.heap.size (er lo W) l) W.heap.size l.length v
theorem FsIn.ext {B B' : Nat} {W W' : World} (hB : B ≤ B') (h : ∀ b j v, b < B → W.cell? ⟨b, j, none⟩ = some v → W'.cell? ⟨b, j, none⟩ = some v) : ∀ {l : List Fn} {b o : Nat}, b < B → FsIn B W l b o → FsIn B' W' l b o
  | [], _, _, _, _ => trivial
  | _ :: _, _, _, hb, ⟨h0, ⟨v, h1, hp⟩, ⟨v', h2, hs⟩, h3, hr⟩ =>
    ⟨h _ _ _ hb h0, ⟨v, h _ _ _ hb h1, hp.imp hB fun _ _ hb' hq => PsIn.ext h hb' hq⟩, ⟨v', h _ _ _ hb h2, hs.imp hB fun _ _ hb' hq => SS.In.ext hB h hb' hq⟩, h3, FsIn.ext hB h hb hr⟩
theorem FX.kp {lo lo' : Nat} {W W' : World} {v : Value} {l : List Fn} (hv : FX lo W v l) (h : Kp lo W W') (hl : lo' ≤ lo) : FX lo' W' v l := RowV.imp hv h.size fun _ _ hb hp => FsIn.ext h.size (er_ext h hl) hb hp
theorem FX.fv {lo : Nat} {W : World} {v : Value} {l : List Fn} (h : FX lo W v l) : FV W.heap.size W v l := RowV.imp h (Nat.le_refl _) fun _ _ hb hp => FsIn.ext (Nat.le_refl _) (fun _ _ _ _ hc => er_sub hc) hb hp
theorem fx_nil (lo : Nat) (W : World) : FX lo W (.slice none 0 0) [] := ⟨none, 0, rfl, Nat.le_refl _, by decide, fun h => by simp at h⟩
section
variable {p q : Nat → Prop} [DecidablePred p] [DecidablePred q] {W W' : World}
theorem fCs.kp (hs : W.heap.size ≤ W'.heap.size) (hk : ∀ k, p k → k < W.heap.size → W'.heap[k]? = W.heap[k]?) (hp : ∀ k, p k → k < W.heap.size → q k) : ∀ {l : List Fn} {cs : List Value}, fCs p W l cs → fCs q W' l cs
  | [], _, h => h
  | _ :: _, _, ⟨vp, vb, rest, e, h1, h2, h3, hr⟩ => ⟨vp, vb, rest, e, h1.kp hs hk hp, h2.kp hs hk hp, h3, fCs.kp hs hk hp hr⟩
theorem fCs.snoc {t : Fn} {vp vb : Value} (h1 : NY p W vp t.ps) (h2 : SY p W vb t.b) (h3 : t.s.size ≤ 9223372036854775807) : ∀ {l : List Fn} {cs : List Value}, fCs p W l cs → fCs p W (l ++ [t]) (cs ++ [.string t.s, vp, vb])
  | [], cs, h => by rw [show cs = [] from h]; exact ⟨vp, vb, [], rfl, h1, h2, h3, rfl⟩
  | _ :: _, cs, ⟨vp', vb', rest, e', g1, g2, g3, hr⟩ => ⟨vp', vb', rest ++ _, by rw [e']; rfl, g1, g2, g3, fCs.snoc h1 h2 h3 hr⟩
theorem fCs.in_ {lo g : Nat} (hp : ∀ k, p k → lo ≤ k) : ∀ {l : List Fn} {cs : List Value} {o : Nat}, fCs p W l cs → (∀ j u, cs[j]? = some u → (er lo W).cell? ⟨g, o + j, none⟩ = some u) → FsIn W.heap.size (er lo W) l g o
  | [], _, _, _, _ => trivial
  | t :: r, _, o, ⟨vp, vb, rest, e1, h1, h2, h3, hr⟩, hq => by
    subst e1
    have hvp : NX lo W vp t.ps := NX.of_ny h1 (Nat.le_refl _) (fun _ _ _ => rfl) hp
    have hvb : SX lo W vb t.b := SX.of_sy h2 (Nat.le_refl _) (fun _ _ _ => rfl) hp
    exact ⟨hq 0 _ rfl, ⟨_, hq 1 _ rfl, hvp⟩, ⟨_, hq 2 _ rfl, hvb⟩, h3, fCs.in_ hp hr fun j u hu => by
      rw [show o + 3 + j = o + (j + 3) by omega]
      exact hq (j + 3) u (by simpa using hu)⟩
end
/-- A row of the call's own that holds functions. -/
theorem row_fx {p : Nat → Prop} [DecidablePred p] {W : World} {base lo n : Nat} {e : TypeId} {v : Value} {l : List Fn} {cs : List Value} (h : W.ownsRow base e 3 v n cs) (hb : lo ≤ base) (hc : fCs p W l cs) (hp : ∀ k, p k → lo ≤ k) (hn : n = l.length) : FX lo W v l := by
  rcases h.2 with ⟨rfl, rfl⟩ | ⟨g, cap, cur, rfl, hg, hh, hnc, hcm, hrest⟩
  · have hl : l = [] := List.eq_nil_of_length_eq_zero hn.symm
    subst hl
    exact fx_nil lo W
  · subst hn
    refine ⟨some ⟨g, 0, none⟩, cap, rfl, hnc, by unfold maxLen at hcm; omega, fun _ => ⟨g, 0, rfl, (h.lt g rfl).2, fCs.in_ hp hc fun j u hu => ?_⟩⟩
    have hcj := h.cells (g := g) rfl j u hu
    rw [show (⟨g, 0, none⟩ : Addr).add j = ⟨g, j, none⟩ by unfold Addr.add; split <;> simp_all] at hcj
    rw [Nat.zero_add, er_cell, if_neg (by have := (h.lt g rfl).1; omega)]
    exact hcj

section
variable {wr w3 w4 : World} {O : Obj} {rb g N cT i o n L : Nat} {T : List Tok} {E : TypeId} {vv v1 : Value} {cs : List Value}
/-- What one thing more leaves as it was. -/
theorem low_step {size : Nat} (hL : L ≤ wr.heap.size) (hown : wr.ownsRow L E size vv n cs) (g3 : Gr rb wr w3) (h3 : Rd w3 rb g N cT T i o)
    (hgrow : (w3.alloc O).grownBy w4 vv.ownBlock) (hat : ∀ k, v1.ownBlock = some k → vv.ownBlock = some k ∨ (w3.alloc O).heap.size ≤ k) (hrl : rb < L) (hgl : g < L) :
    Rd w4 rb g N cT T i o ∧ (∀ W, Gr rb W wr → W.heap.size ≤ L → Gr rb W w4) ∧ (∀ k, k < L → k ≠ rb → w4.heap[k]? = wr.heap[k]?) ∧ wr.heap.size ≤ w4.heap.size ∧
      Kp wr.heap.size w3 w4 ∧ (∀ k, wr.heap.size ≤ k → k < w3.heap.size → rowp L v1 k) ∧ (∀ k, rowp L vv k → k < wr.heap.size → w4.heap[k]? = wr.heap[k]?) ∧ (∀ k, rowp L vv k → k < wr.heap.size → rowp L v1 k) := by
  have z2 := g3.size
  have z3 : (w3.alloc O).heap.size = w3.heap.size + 1 := by simp
  have z4 := World.grownBy.size hgrow
  have hrow := hown.lt
  have hs := low_size hL
  obtain ⟨a, b⟩ := app_step (W := low L wr) (gr_low hL) (fun k hk => by rw [hs]; exact (hrow k hk).1) g3 h3 hgrow (by rw [hs]; exact hrl) (by rw [hs]; exact hgl)
  have hba : ∀ k, k < w3.heap.size → vv.ownBlock ≠ some k → w4.heap[k]? = w3.heap[k]? := fun k hk hne => (World.grownBy.block hgrow k (by omega) (fun e => hne e.symm)).trans (Below.heap_alloc w3 O k hk)
  refine ⟨a, fun W hG hW => Gr.low hL hG hW b, fun k hk hne => (b.block (by rw [hs]; exact hk) hne).trans (low_block hL hk), by omega, ⟨by omega, fun k hk hl => hba k hl (fun e => by have := (hrow k e).2; omega)⟩, fun k hk hl => ⟨by omega, fun e => ?_⟩,
    fun k hk hl => (hba k (by omega) hk.2).trans (g3.block hl (by have := hk.1; omega)), fun k hk hl => ⟨hk.1, fun e => ?_⟩⟩
  · rcases hat k e with e | e
    · have := (hrow k e).2; omega
    · omega
  · rcases hat k e with e | e
    · exact hk.2 e
    · omega
/-- One more function; one more statement. -/
abbrev newf (q : Fn) (vp vb : Value) : List Value := [.string q.s, vp, vb]
theorem fn_low {l : List Fn} {q : Fn} {vp vb : Value} (hL : L ≤ wr.heap.size) (hown : wr.ownsRow L E 3 vv n cs) (hx : fCs (rowp L vv) wr l cs) (g3 : Gr rb wr w3) (hv1 : NX wr.heap.size w3 vp q.ps) (hv2 : SX wr.heap.size w3 vb q.b) (hsz : q.s.size ≤ 9223372036854775807) (h3 : Rd w3 rb g N cT T i o)
    (hgrow : (w3.alloc O).grownBy w4 vv.ownBlock) (hat : ∀ k, v1.ownBlock = some k → vv.ownBlock = some k ∨ (w3.alloc O).heap.size ≤ k) (hrl : rb < L) (hgl : g < L) :
    Rd w4 rb g N cT T i o ∧ (∀ W, Gr rb W wr → W.heap.size ≤ L → Gr rb W w4) ∧ (∀ k, k < L → k ≠ rb → w4.heap[k]? = wr.heap[k]?) ∧ wr.heap.size ≤ w4.heap.size ∧ fCs (rowp L v1) w4 (l ++ [q]) (cs ++ newf q vp vb) := by
  obtain ⟨a, b, c, d, e1, e2, e3, e4⟩ := low_step hL hown g3 h3 hgrow hat hrl hgl
  exact ⟨a, b, c, d, fCs.snoc (NY.of_nx hv1 e1 e2) (SY.of_sx hv2 e1 e2) hsz (hx.kp d e3 e4)⟩
theorem st_low {l : List Sm} {t : Sm} {vl vx vy : Value} (hL : L ≤ wr.heap.size) (hown : wr.ownsRow L E 6 vv n cs) (hx : tCs (rowp L vv) wr l cs) (g3 : Gr rb wr w3) (hv1 : EX wr.heap.size w3 vl t.l) (hv2 : SX wr.heap.size w3 vx t.x) (hv3 : SX wr.heap.size w3 vy t.y) (hok : okS t) (h3 : Rd w3 rb g N cT T i o)
    (hgrow : (w3.alloc O).grownBy w4 vv.ownBlock) (hat : ∀ k, v1.ownBlock = some k → vv.ownBlock = some k ∨ (w3.alloc O).heap.size ≤ k) (hrl : rb < L) (hgl : g < L) :
    Rd w4 rb g N cT T i o ∧ (∀ W, Gr rb W wr → W.heap.size ≤ L → Gr rb W w4) ∧ (∀ k, k < L → k ≠ rb → w4.heap[k]? = wr.heap[k]?) ∧ wr.heap.size ≤ w4.heap.size ∧ tCs (rowp L v1) w4 (l ++ [t]) (cs ++ newt t vl vx vy) := by
  obtain ⟨a, b, c, d, e1, e2, e3, e4⟩ := low_step hL hown g3 h3 hgrow hat hrl hgl
  exact ⟨a, b, c, d, tCs.snoc (EY.of_ex hv1 e1 e2) (SY.of_sx hv2 e1 e2) (SY.of_sx hv3 e1 e2) hok (hx.kp d e3 e4)⟩
end
theorem newf_one (q : Fn) (A B : Option Addr) (a b a' b' : Nat) : ∀ u ∈ newf q (.slice A a a') (.slice B b b'), u.oneCell' = true := by
  intro u hu
  simp only [newf, List.mem_cons, List.not_mem_nil, or_false] at hu
  rcases hu with rfl | rfl | rfl <;> rfl
theorem newf_cells (w3 : World) (q : Fn) (x y : Value) : ∀ j u, (newf q x y)[j]? = some u → (w3.alloc (.cells #[.string q.s, x, y] 37)).cell? ((⟨w3.heap.size, 0, none⟩ : Addr).add j) = some u := by
  intro j u hu
  rw [show (⟨w3.heap.size, 0, none⟩ : Addr).add j = ⟨w3.heap.size, j, none⟩ by unfold Addr.add; split <;> simp_all, box_cell (heap_alloc_new w3 _)]
  simpa using hu
theorem fnInfo : (Tryd.prog.info? 37).map (fun i => (i.zero, i.size, i.bytes)) = some (some (.agg #[.string ⟨#[]⟩, .slice none 0 0, .slice none 0 0]), 3, 64) := by kernel_rfl

/-- A program's value. -/
def GV (lo : Nat) (W : World) (v : Value) (q : Pg) : Prop := ∃ vf vm, v = .agg #[vf, vm] ∧ FX lo W vf q.fs ∧ SX lo W vm q.m
theorem GV.kp {lo lo' : Nat} {W W' : World} {v : Value} {q : Pg} (hv : GV lo W v q) (h : Kp lo W W') (hl : lo' ≤ lo) : GV lo' W' v q := by
  obtain ⟨vf, vm, e, h1, h2⟩ := hv
  exact ⟨vf, vm, e, h1.kp h hl, h2.kp h hl⟩
theorem GV.pgv {lo : Nat} {W : World} {v : Value} {q : Pg} (hv : GV lo W v q) : PgV W.heap.size W v q := by
  obtain ⟨vf, vm, rfl, h1, h2⟩ := hv
  obtain ⟨A, c, e1, _⟩ := id h1
  obtain ⟨A', c', e2, _⟩ := id h2
  subst e1 e2
  exact ⟨A, c, A', c', rfl, h1.fv, h2.sv⟩
/-- What a call that reads a program has done. -/
def QP (rb g N cT : Nat) (T : List Tok) (W : World) (x : PR Pg) (e : Ending) (W' : World) : Prop :=
  match x with
  | .ok v r => (∃ vv, e = .returned vv ∧ GV W.heap.size W' vv v) ∧ (∃ i, Rd W' rb g N cT T i 0 ∧ T.drop i = r) ∧ Gr rb W W'
  | .bad p c => e = flt p c ∧ Gr rb W W'
  | .out => True
/-- Two cells that are stored one behind the other. -/
def put2 (W : World) (n : Nat) (a b : Value) : World := (W.setCell ⟨n, 0, none⟩ a).setCell ⟨n, 1, none⟩ b
section
variable {W W' : World} {rb g N cT i o n lo : Nat} {T : List Tok} {a b : Value}
theorem Rd.put2 (h : Rd W rb g N cT T i o) (hb : n ≠ rb) (hg : n ≠ g) : Rd (put2 W n a b) rb g N cT T i o := (h.set a hb hg).set b hb hg
theorem Gr.put2 (h : Gr rb W W') (hb : W.heap.size ≤ n) : Gr rb W (put2 W' n a b) := (h.setNew a hb).setNew b hb
theorem Kp.put2 (hb : n < lo) : Kp lo W (put2 W n a b) := (Kp.set a hb).trans (Kp.set b hb)
theorem put2_heap {p q : Value} {t : TypeId} (h : W.heap[n]? = some (.cells #[p, q] t)) : (put2 W n a b).heap[n]? = some (.cells #[a, b] t) := by
  simp [Proofs.YtaajolemjgdfnaaDoor.put2, World.setCell, Array.getElem?_modify, h]
theorem set2_at {p q x : Value} {t : TypeId} (h : W.heap[n]? = some (.cells #[p, q] t)) :
    (W.setCell ⟨n, 0, none⟩ x).heap[n]? = some (.cells #[x, q] t) ∧ (W.setCell ⟨n, 1, none⟩ x).heap[n]? = some (.cells #[p, x] t) := by
  refine ⟨?_, ?_⟩ <;> simp [World.setCell, Array.getElem?_modify, h]
end

end Go.Proofs.YtaajolemjgdfnaaDoor

/-
  Package parse: a program.
-/
namespace Go.Proofs.YtaajolemjgdfnaaDoor
open Go Go.RowKit Go.Lib
attribute [local go_sem high] run_tok0 run_tok1 run_tok2

/-- At the head of each round: the functions so far; the statements so far. -/
def FRel (n rb g N cT : Nat) (T : List Tok) (W : World) (n3 : Nat) (y : PR (List Fn)) (wr : World) : Prop :=
  ∃ m l cs i A c, funcsT n m l (T.drop i) = y ∧ Rd wr rb g N cT T i 0 ∧ Gr rb W wr ∧ wr.heap[W.heap.size]? = some (.cells #[.slice none 0 0, .slice none 0 0] 25) ∧ wr.heap[n3]? = some (.cells #[.slice A l.length c, .slice none 0 0] 25) ∧
    wr.ownsRow (n3 + 1) 37 3 (.slice A l.length c) l.length cs ∧ fCs (rowp (n3 + 1) (.slice A l.length c)) wr l cs ∧ l.length ≤ 32
def MRel (n rb g N cT : Nat) (T : List Tok) (W : World) (n3 : Nat) (wE : World) (Af : Option Addr) (nf cf : Nat) (y : PR (List Sm)) (wr : World) : Prop :=
  ∃ m l cs i A c, mainT n m l (T.drop i) = y ∧ Rd wr rb g N cT T i 0 ∧ Gr rb W wr ∧ Kp (n3 + 1) wE wr ∧ wr.heap[W.heap.size]? = some (.cells #[.slice none 0 0, .slice none 0 0] 25) ∧ wr.heap[n3]? = some (.cells #[.slice Af nf cf, .slice A l.length c] 25) ∧
    wr.ownsRow wE.heap.size 45 6 (.slice A l.length c) l.length cs ∧ tCs (rowp wE.heap.size (.slice A l.length c)) wr l cs ∧ l.length ≤ i
theorem drop_lt {T : List Tok} {i j : Nat} (h : (T.drop j).length < (T.drop i).length) : i < j := by
  rw [List.length_drop, List.length_drop] at h
  omega
theorem outer_ne {n o : Nat} {ts : List Tok} {m : Nat} {l : List Sm} {y : PR (List Sm)} (h : (outerT n o ts).bind (fun t r => mainT n m (l ++ [t]) r) = y) (hy : y ≠ .out) : outerT n o ts ≠ .out := fun e => by rw [e] at h; exact hy h.symm
theorem func_ne {n : Nat} {ts : List Tok} {m : Nat} {l : List Fn} {y : PR (List Fn)} (h : (funcT n ts).bind (fun t r => funcsT n m (l ++ [t]) r) = y) (hy : y ≠ .out) : funcT n ts ≠ .out := fun e => by rw [e] at h; exact hy h.symm

set_option maxRecDepth 100000 in
set_option maxHeartbeats 2000000 in
theorem prog_any {W : World} {rb g N cT i0 : Nat} {T : List Tok} (h : Rd W rb g N cT T i0 0) (n : Nat) (Y : PR Pg) (hYY : progT n (T.drop i0) = Y) (hYo : Y ≠ .out) :
    Calls Tryd.prog 41 #[.pointer (some ⟨rb, 0, none⟩)] W (QP rb g N cT T W Y) := by
  obtain ⟨y, hy⟩ : ∃ y, funcsT n n [] (T.drop i0) = y := ⟨_, rfl⟩
  have hY : (y.bind fun fs r => (mainT n n [] r).bind fun m r => .ok (⟨fs, smSS m⟩ : Pg) r) = Y := by rw [← hYY, progT, hy]
  have hyo : y ≠ .out := fun e => by rw [e] at hY; exact hYo hY.symm
  clear hYY
  obtain ⟨i0', hi, hz0, hz1, hz2⟩ := info_parts stInfo
  obtain ⟨i1', fi, fz0, fz1, fz2⟩ := info_parts fnInfo
  have hrl := h.rlt
  have hgl := h.tok.1
  have hN : N ≤ 65537 := by have := h.good.len; have := h.len; omega
  have h0 := (h.alloc (.cells #[.slice none 0 0, .slice none 0 0] 25)).alloc (.cells #[.slice none 0 0, .slice none 0 0] 25)
  have B8 := (Below.heap_alloc (W.alloc (.cells #[.slice none 0 0, .slice none 0 0] 25)) (.cells #[.slice none 0 0, .slice none 0 0] 25) W.heap.size (by simp)).trans (heap_alloc_new W (.cells #[.slice none 0 0, .slice none 0 0] 25))
  have B7 := heap_alloc_new (W.alloc (.cells #[.slice none 0 0, .slice none 0 0] 25)) (.cells #[.slice none 0 0, .slice none 0 0] 25)
  rw [World.size_alloc] at B7
  have g0 := ((Gr.refl rb W).alloc (.cells #[.slice none 0 0, .slice none 0 0] 25)).alloc (.cells #[.slice none 0 0, .slice none 0 0] 25)
  have z0 : ((W.alloc (.cells #[.slice none 0 0, .slice none 0 0] 25)).alloc (.cells #[.slice none 0 0, .slice none 0 0] 25)).heap.size = W.heap.size + 2 := by simp
  clear h
  go_enter Tryd.func41, Tryd.ntmps41
  go_wp2
  obtain ⟨w0, hw0⟩ : ∃ W1, (W.alloc (.cells #[.slice none 0 0, .slice none 0 0] 25)).alloc (.cells #[.slice none 0 0, .slice none 0 0] 25) = W1 := ⟨_, rfl⟩
  rw [hw0] at h0 B8 B7 g0 z0 ⊢
  clear hw0
  obtain ⟨n3, hn3⟩ : ∃ n3, W.heap.size + 1 = n3 := ⟨_, rfl⟩
  rw [hn3] at B7 ⊢
  have hrb3 : rb < n3 := by omega
  have hstart : FRel n rb g N cT T W n3 y w0 := ⟨n, [], [], i0, none, 0, hy, h0, g0, B8, B7, World.ownsRow_nil _ _ _ _, rfl, Nat.zero_le _⟩
  clear h0 g0 B8 B7 z0 hy
  go_loopw [] (fun wr => FRel n rb g N cT T W n3 y wr) (fun wr => posR rb N wr)
  case atStart => exact hstart
  case round =>
    clear hstart
    obtain ⟨m, l, cs, i, A, c, hy, hR, hG, B8, B7, hown, hx, hl32⟩ := hrel
    have hl7 := lt_heap B7
    have hl8 := lt_heap B8
    cases m with
    | zero => exact absurd hy.symm hyo
    | succ m =>
    rw [funcsT] at hy
    obtain ⟨nf, hnf⟩ : ∃ nf, l.length = nf := ⟨_, rfl⟩
    rw [hnf] at hown hl32 hy B7 hx
    have hne0 : (Value.slice A nf c).ownBlock ≠ some rb := fun e => by have := (hown.lt rb e).1; omega
    have hiN := hR.lt
    cases b : isT (T.drop i) [102, 117, 110, 99] with
    | true =>
      have HI := Lib.hid (show Calls Tryd.prog 53 #[.pointer (some ⟨rb, 0, none⟩), .string ⟨#[102, 117, 110, 99]⟩] wr (fun e w' => e = .returned (.bool true) ∧ Below wr.heap.size wr w') from is_any hR [102, 117, 110, 99] true b)
      rw [b, if_pos rfl] at hy
      have HB7 := Lib.hid (fun w5 (e5 : Below wr.heap.size wr w5) => (e5.block _ (lt_heap B7)).trans B7)
      have HC7 := Lib.hid (fun w5 (e5 : Below wr.heap.size wr w5) (j : Nat) => box_cell (HB7.out w5 e5) j)
      by_cases h32 : nf = 32
      · subst h32
        rw [if_pos rfl] at hy
        have HF := Lib.hid (fun w1 (h1 : Rd w1 rb g N cT T i 0) => fail_any h1 10 _ 10 rfl rfl)
        go_wp2_with (first
          | (go_at_call 53; ((with_reducible refine HI.out.mono ?_); rintro e' w5 ⟨rfl, e5⟩; have h5 := hR.below e5; have c0 := HC7.out w5 e5 0; simp only [List.getElem?_toArray, List.getElem?_cons_zero] at c0))
          | (go_at_call 54; ((with_reducible refine (HF.out _ h5).mono ?_); rintro e' w6 ⟨rfl, e6⟩)))
        rw [← hY, ← hy]
        exact ⟨rfl, rfl, hG.trans ((Gr.of e5).trans (Gr.of e6))⟩
      · rw [if_neg h32] at hy
        have h33 : nf + 1 ≤ 32 := Nat.lt_of_le_of_ne hl32 h32
        have d32 : decide ((nf : Int) = 32) = false := decide_eq_false (by omega)
        have hfne := func_ne hy hyo
        have HFN := fun w1 (h1 : Rd w1 rb g N cT T i 0) => func_any h1 n hfne
        go_upto_region 5 with (go_at_call 53; ((with_reducible refine HI.out.mono ?_); rintro e' w5 ⟨rfl, e5⟩; have h5 := hR.below e5; have c0 := HC7.out w5 e5 0; simp only [List.getElem?_toArray, List.getElem?_cons_zero] at c0))
        have g5 := Gr.of (rb := rb) e5
        have z5 := e5.size
        have B7 := HB7.out w5 e5
        have B8 := (e5.block _ (lt_heap B8)).trans B8
        have cS : w5.cell? ⟨n3, 0, none⟩ = some (.slice A nf c) := box_cell B7 0
        have hown5 := hown.kept g5 (.inr hne0)
        have hx5 : fCs (rowp (n3 + 1) (.slice A nf c)) w5.drew l cs := hx.kp (W' := w5.drew) (q := rowp (n3 + 1) (.slice A nf c)) z5 (fun k hk hl => e5.block k hl) (fun k hk _ => hk)
        have hl5 := lt_heap B7
        clear HI HB7 HC7 c0 hown hx
        cases hq : funcT n (T.drop i) with
        | out => exact absurd hq hfne
        | bad p cc =>
          rw [hq] at HFN hy
          have HF := Lib.hid HFN
          clear HFN
          subst hy
          have hS : w5.drew.cell? ⟨n3, 0, none⟩ = some (.slice A nf c) := cS
          refine wp_region_late (fun w' => w'.cell? ⟨n3, 0, none⟩ = some (.slice A nf c)) 7 (by kernel_rfl) ?_
          refine AnyL.take 0 (.pointer (some ⟨n3, 0, none⟩)) rfl (by kernel_rfl) (by kernel_rfl) (by kernel_rfl) (by kernel_rfl) (fun _ _ _ h => h) (Or.inl ⟨by rfl, ?_⟩) (by assumption) ?_
          · intro W' hSw
            go_simp
          try simp only [Act.put, List.getElem_toArray, List.getElem_cons_zero, List.setIfInBounds_toArray, List.set_cons_zero, List.set_cons_succ]
          refine AnyL.take 1 (.slice A nf c) rfl (by kernel_rfl) (by kernel_rfl) (by kernel_rfl) (by kernel_rfl) (fun _ _ _ h => h) (Or.inl ⟨by rfl, ?_⟩) (by assumption) ?_
          · intro W' hSw
            go_simp
          try simp only [Act.put, List.getElem_toArray, List.getElem_cons_zero, List.getElem_cons_succ, List.setIfInBounds_toArray, List.set_cons_zero, List.set_cons_succ]
          refine AnyL.take 2 (.pointer (some ⟨rb, 0, none⟩)) rfl (by kernel_rfl) (by kernel_rfl) (by kernel_rfl) (by kernel_rfl) (fun _ _ _ h => h) (Or.inl ⟨by rfl, ?_⟩) (by assumption) ?_
          · intro W' hSw
            go_simp
          try simp only [Act.put, List.getElem_toArray, List.getElem_cons_zero, List.getElem_cons_succ, List.setIfInBounds_toArray, List.set_cons_zero, List.set_cons_succ]
          refine AnyL.next 3 (by kernel_rfl) rfl (fun K hK => ?_)
          go_simp
          go_at_call 55
          refine (HF.out _ h5.drew).mono ?_
          rintro e2 w6 ⟨rfl, g6⟩
          go_wp2_with fail
          rw [← hY]
          exact ⟨rfl, rfl, hG.trans (g5.trans ((Gr.drew (Gr.refl rb w5)).trans g6))⟩
        | ok q r =>
          have hlen2 := func_left hq
          rw [hq] at HFN hy
          have HF := Lib.hid HFN
          clear HFN
          have hS : w5.drew.cell? ⟨n3, 0, none⟩ = some (.slice A nf c) := cS
          refine wp_region_late (fun w' => w'.cell? ⟨n3, 0, none⟩ = some (.slice A nf c)) 7 (by kernel_rfl) ?_
          refine AnyL.take 0 (.pointer (some ⟨n3, 0, none⟩)) rfl (by kernel_rfl) (by kernel_rfl) (by kernel_rfl) (by kernel_rfl) (fun _ _ _ h => h) (Or.inl ⟨by rfl, ?_⟩) (by assumption) ?_
          · intro W' hSw
            go_simp
          try simp only [Act.put, List.getElem_toArray, List.getElem_cons_zero, List.setIfInBounds_toArray, List.set_cons_zero, List.set_cons_succ]
          refine AnyL.take 1 (.slice A nf c) rfl (by kernel_rfl) (by kernel_rfl) (by kernel_rfl) (by kernel_rfl) (fun _ _ _ h => h) (Or.inl ⟨by rfl, ?_⟩) (by assumption) ?_
          · intro W' hSw
            go_simp
          try simp only [Act.put, List.getElem_toArray, List.getElem_cons_zero, List.getElem_cons_succ, List.setIfInBounds_toArray, List.set_cons_zero, List.set_cons_succ]
          refine AnyL.take 2 (.pointer (some ⟨rb, 0, none⟩)) rfl (by kernel_rfl) (by kernel_rfl) (by kernel_rfl) (by kernel_rfl) (fun _ _ _ h => h) (Or.inl ⟨by rfl, ?_⟩) (by assumption) ?_
          · intro W' hSw
            go_simp
          try simp only [Act.put, List.getElem_toArray, List.getElem_cons_zero, List.getElem_cons_succ, List.setIfInBounds_toArray, List.set_cons_zero, List.set_cons_succ]
          refine AnyL.next 3 (by kernel_rfl) rfl (fun K hK => ?_)
          go_simp
          go_at_call 55
          refine (HF.out _ h5.drew).mono ?_
          rintro e2 w6 ⟨⟨vv, rfl, vp, vb, rfl, hvp, hvb, hsz⟩, ⟨i6, h6, hd6⟩, g6⟩
          obtain ⟨A1, k1, el1, _⟩ := id hvp
          obtain ⟨A2, k2, el2, _⟩ := id hvb
          subst el1
          subst el2
          go_wp2_with fail
          have B76 := (g6.block (k := n3) (lt_heap B7) (by omega)).trans B7
          have s6 : w6.cell? ⟨n3, 0, none⟩ = some (.slice A nf c) := box_cell B76 0
          refine hK.out _ _ (fun _ => s6) ?_
          clear hK K
          try simp only [Act.put, List.getElem_toArray, List.getElem_cons_zero, List.getElem_cons_succ, List.setIfInBounds_toArray, List.set_cons_zero, List.set_cons_succ]
          refine AnyL.next 4 (by kernel_rfl) rfl (fun K hK => ?_)
          go_simp
          have s6a : (w6.alloc (.cells #[.string q.s, .slice A1 q.ps.length k1, .slice A2 q.b.len k2] 37)).cell? ⟨n3, 0, none⟩ = some (.slice A nf c) := box_cell ((Below.heap_alloc w6 (.cells #[.string q.s, .slice A1 q.ps.length k1, .slice A2 q.b.len k2] 37) n3 (lt_heap B76)).trans B76) 0
          refine hK.out _ _ (fun _ => s6a) ?_
          clear hK K
          try simp only [Act.put, List.getElem_toArray, List.getElem_cons_zero, List.getElem_cons_succ, List.setIfInBounds_toArray, List.set_cons_zero, List.set_cons_succ]
          refine AnyL.next 5 (by kernel_rfl) rfl (fun K hK => ?_)
          have zw6 := g6.size
          have zw6' : w5.drew.heap.size = w5.heap.size := rfl
          refine oper_append_at (by rfl) (.tmp 13) (.tmp 16) 22 rfl (n3 + 1) 37 i1' _ 3 64 Tryd.underlying22 fi fz0 fz1 fz2 rfl (by decide) (.slice A nf c) nf (cs) rfl ((hown5.kept ((Gr.drew (Gr.refl rb w5)).trans g6) (.inr hne0)).alloc _) ⟨w6.heap.size, 0, none⟩ 1 1 (newf q (.slice A1 q.ps.length k1) (.slice A2 q.b.len k2)) rfl rfl (newf_cells w6 q _ _) (newf_one q A1 A2 _ _ _ _) (by unfold maxLen; omega) (by omega) (by simp; omega) ?_
          intro v7 w7 hown7 hgrow7 _ hat7
          obtain ⟨h7, G7, K7, z7, hx7⟩ := fn_low (l := l) (wr := w5.drew) (L := n3 + 1) (by omega) (hown5.kept (Gr.drew (Gr.refl rb w5)) (.inr hne0)) hx5 g6 hvp hvb hsz h6 hgrow7 hat7 (by omega) (by omega)
          obtain ⟨A7, c7, e7⟩ := own_slice hown7
          subst e7
          have B77 := (K7 n3 (by omega) (by omega)).trans (show w5.drew.heap[n3]? = _ from B7)
          have s7 : w7.cell? ⟨n3, 0, none⟩ = some (.slice A nf c) := box_cell B77 0
          have f7 := box_frozen B77 0
          refine hK.out _ _ (fun _ => s7) ?_
          clear hK K s6 s6a
          try simp only [Act.put, List.getElem_toArray, List.getElem_cons_zero, List.getElem_cons_succ, List.setIfInBounds_toArray, List.set_cons_zero, List.set_cons_succ]
          refine AnyL.take 6 (.pointer (some ⟨n3, 0, none⟩)) rfl (by kernel_rfl) (by kernel_rfl) (by kernel_rfl) (by kernel_rfl) (fun _ _ _ h => h) (Or.inl ⟨by rfl, ?_⟩) (by assumption) ?_
          · intro W' hSw
            go_simp
          try simp only [Act.put, List.getElem_toArray, List.getElem_cons_zero, List.getElem_cons_succ, List.setIfInBounds_toArray, List.set_cons_zero, List.set_cons_succ]
          refine AnyL.next 7 (by kernel_rfl) rfl (fun K hK => ?_)
          go_simp
          refine hK.out _ _ (fun e => absurd rfl e) ?_
          clear hK K
          try simp only [Act.put, List.getElem_toArray, List.getElem_cons_zero, List.getElem_cons_succ, List.setIfInBounds_toArray, List.set_cons_zero, List.set_cons_succ]
          refine AnyL.done (by kernel_rfl) ?_
          have hne7 : (Value.slice A7 (nf + 1) c7).ownBlock ≠ some n3 := fun e => by have := (hown7.lt n3 e).1; omega
          have hown8 := hown7.kept (Gr.set (rb := n3) (W := w7) 0 (.slice A7 (nf + 1) c7)) (.inr hne7)
          have hx8 := hx7.kp (W' := w7.setCell ⟨n3, 0, none⟩ (.slice A7 (nf + 1) c7)) (q := rowp (n3 + 1) (.slice A7 (nf + 1) c7)) (by simp) (fun k hk hl => Below.heap_setCell w7 ⟨n3, 0, none⟩ _ k (show k ≠ n3 by have := hk.1; omega)) (fun k hk _ => hk)
          have h8 := h7.set (b := n3) (j := 0) (.slice A7 (nf + 1) c7) (by omega) (by omega)
          have G8 := (G7 W (hG.trans g5).drew (by omega)).setNew (j := 0) (.slice A7 (nf + 1) c7) (show W.heap.size ≤ n3 by omega)
          have B7n := (set2_at (x := .slice A7 (nf + 1) c7) B77).1
          have K8 : ∀ k, k < n3 + 1 → k ≠ rb → k ≠ n3 → (w7.setCell ⟨n3, 0, none⟩ (.slice A7 (nf + 1) c7)).heap[k]? = w5.heap[k]? := fun k hk hr hn => (Below.heap_setCell w7 ⟨n3, 0, none⟩ (.slice A7 (nf + 1) c7) k hn).trans (K7 k hk hr)
          have z8 : (w7.setCell ⟨n3, 0, none⟩ (.slice A7 (nf + 1) c7)).heap.size = w7.heap.size := by simp
          obtain ⟨w8, hw8⟩ : ∃ W1, w7.setCell ⟨n3, 0, none⟩ (.slice A7 (nf + 1) c7) = W1 := ⟨_, rfl⟩
          rw [hw8] at hown8 hx8 h8 G8 B7n K8 z8 ⊢
          clear hw8 f7 s7 hgrow7 hat7 hown7 hx7 B77 B76 G7 K7
          have B8n := (K8 W.heap.size (by omega) (by omega) (by omega)).trans B8
          have hl2 := h8.lt
          rw [← hd6] at hlen2
          have hl3 : i < i6 := drop_lt hlen2
          go_wp2_with fail
          refine ⟨⟨m, l ++ [q], _, i6, A7, c7, by rw [hd6]; exact hy, h8, G8, B8n, by rw [List.length_append, hnf]; exact B7n, by rw [List.length_append, hnf]; exact hown8, by rw [List.length_append, hnf]; exact hx8, by rw [List.length_append, hnf]; exact h33⟩, ?_⟩
          rw [posR_eq h8, posR_eq hR]
          exact Nat.sub_lt_sub_left (Nat.lt_trans hl3 hl2) hl3
    | false =>
      have HI := Lib.hid (show Calls Tryd.prog 53 #[.pointer (some ⟨rb, 0, none⟩), .string ⟨#[102, 117, 110, 99]⟩] wr (fun e w' => e = .returned (.bool false) ∧ Below wr.heap.size wr w') from is_any hR [102, 117, 110, 99] false b)
      rw [b, if_neg (by decide)] at hy
      subst hy
      simp only [PR.bind] at hY
      go_wp2_with (go_at_call 53; ((with_reducible refine HI.out.mono ?_); rintro e' w5 ⟨rfl, e5⟩; have h5 := hR.below e5))
      have g5 := Gr.of (rb := rb) e5
      have hF5 : FX (n3 + 1) w5 (.slice A nf c) l := row_fx (p := rowp (n3 + 1) (.slice A nf c)) (hown.kept g5 (.inr hne0)) (Nat.le_refl _) (hx.kp e5.size (fun k hk hl => e5.block k hl) (fun k hk _ => hk)) (fun k hk => hk.1) hnf.symm
      have G5 := hG.trans g5
      have B7 := (e5.block _ (lt_heap B7)).trans B7
      have B8 := (e5.block _ (lt_heap B8)).trans B8
      obtain ⟨y2, hy2⟩ : ∃ y2, mainT n n [] (T.drop i) = y2 := ⟨_, rfl⟩
      rw [hy2] at hY
      have hy2o : y2 ≠ .out := fun e => by rw [e] at hY; exact hYo hY.symm
      have hE3 := lt_heap B7
      have hE8 := lt_heap B8
      have hzE := G5.size
      have hstart : MRel n rb g N cT T W n3 w5 A nf c y2 w5 := ⟨n, [], [], i, none, 0, hy2, h5, G5, Kp.refl _ _, B8, B7, World.ownsRow_nil _ _ _ _, rfl, Nat.zero_le _⟩
      clear HI hown hx hR hG B7 B8 hl7 hl8 G5 h5 hyo hy2 e5 g5 hne0 hiN
      obtain ⟨wE, hwE⟩ : ∃ wE, w5 = wE := ⟨_, rfl⟩
      rw [hwE] at hF5 hstart hE3 hE8 hzE ⊢
      clear hwE
      go_loopw [] (fun wr => MRel n rb g N cT T W n3 wE A nf c y2 wr) (fun wr => posR rb N wr)
      case atStart => exact hstart
      case round =>
        clear hstart
        obtain ⟨m, lm, cs, i, Am, cm, hy, hR, hG, hKE, B8, B7, hown, hx, hli⟩ := hrel
        have hl7 := lt_heap B7
        have hl8 := lt_heap B8
        have hzK := hKE.size
        cases m with
        | zero => exact absurd hy.symm hy2o
        | succ m =>
        rw [mainT] at hy
        obtain ⟨nm, hnm⟩ : ∃ nm, lm.length = nm := ⟨_, rfl⟩
        rw [hnm] at hown hli B7 hx
        have hne0 : (Value.slice Am nm cm).ownBlock ≠ some rb := fun e => by have := (hown.lt rb e).1; omega
        have hiN := hR.lt
        obtain ⟨tk, htk⟩ : ∃ tk, hdT (T.drop i) = tk := ⟨_, rfl⟩
        have HNW := Lib.hid (now_any hR tk htk)
        rw [htk] at hy
        by_cases hk : tk.kind = 4
        · rw [if_pos hk] at hy
          have k1 : ((tk.kind : Int) == 4) = true := by rw [hk]; rfl
          have k2 : ((tk.kind : Int) != 4) = false := by rw [bne, k1]; rfl
          subst hy
          simp only at hY
          have HB7 := Lib.hid (fun w5 (e5 : Below wr.heap.size wr w5) => (e5.block _ (lt_heap B7)).trans B7)
          have HB8 := Lib.hid (fun w5 (e5 : Below wr.heap.size wr w5) => (e5.block _ (lt_heap B8)).trans B8)
          go_wp2_with (go_at_call 56; ((with_reducible refine HNW.out.mono ?_); rintro e' w5 ⟨rfl, e5⟩; have B7 := HB7.out w5 e5; have B8 := HB8.out w5 e5; have c0 := box_cell B8 0; have c1 := box_cell B8 1; have f0 := box_frozen B8 0; have f1 := box_frozen B8 1; have d0 := box_cell B7 0; have d1 := box_cell B7 1; simp only [List.getElem?_toArray, List.getElem?_cons_succ, List.getElem?_cons_zero] at c0 c1 d0 d1))
          have g5 := Gr.of (rb := rb) e5
          have z5 := e5.size
          have hX : SX wE.heap.size w5 (.slice Am nm cm) (smSS lm) := row_sx (p := rowp wE.heap.size (.slice Am nm cm)) (hown.kept g5 (.inr hne0)) (Nat.le_refl _) (hx.kp e5.size (fun k hk hl => e5.block k hl) (fun k hk _ => hk)) (fun k hk => hk.1) hnm.symm
          have hF := (hF5.kp hKE (Nat.le_refl _)).kp (Kp.below e5) (Nat.le_refl _)
          have hP := put2_heap (a := .slice A nf c) (b := .slice Am nm cm) B8
          have hfin : QP rb g N cT T W Y (.returned (.agg #[.slice A nf c, .slice Am nm cm])) (Proofs.YtaajolemjgdfnaaDoor.put2 w5 W.heap.size (.slice A nf c) (.slice Am nm cm)) := by
            rw [← hY]
            exact ⟨⟨_, rfl, _, _, rfl, hF.kp (Kp.put2 (by omega)) (by omega), hX.kp (Kp.put2 (by omega)) (by omega)⟩, ⟨i, (hR.below e5).put2 (by omega) (by omega), rfl⟩, (hG.trans g5).put2 (Nat.le_refl _)⟩
          obtain ⟨wz, hwz⟩ : ∃ W5, Proofs.YtaajolemjgdfnaaDoor.put2 w5 W.heap.size (.slice A nf c) (.slice Am nm cm) = W5 := ⟨_, rfl⟩
          show bodyPost _ _ _ _ _ (Proofs.YtaajolemjgdfnaaDoor.put2 w5 W.heap.size (.slice A nf c) (.slice Am nm cm))
          rw [hwz] at hP hfin ⊢
          have p0 := box_cell hP 0
          have p1 := box_cell hP 1
          simp only [List.getElem?_toArray, List.getElem?_cons_succ, List.getElem?_cons_zero] at p0 p1
          exact bodyPost_ret (v := .agg #[.slice A nf c, .slice Am nm cm]) (by simp [results, Tryd.results41, go_sem, p0, p1]) rfl hfin
        · rw [if_neg hk] at hy
          have k1 : ((tk.kind : Int) == 4) = false := by rw [beq_eq_false_iff_ne]; omega
          have k2 : ((tk.kind : Int) != 4) = true := by rw [bne, k1]; rfl
          have hone := outer_ne hy hy2o
          have HON := fun w1 (h1 : Rd w1 rb g N cT T i 0) => outerS_any h1 n hone
          go_upto_region 7 with (go_at_call 56; ((with_reducible refine HNW.out.mono ?_); rintro e' w5 ⟨rfl, e5⟩; have h5 := hR.below e5))
          have g5 := Gr.of (rb := rb) e5
          have z5 := e5.size
          have B7 := (e5.block _ (lt_heap B7)).trans B7
          have B8 := (e5.block _ (lt_heap B8)).trans B8
          have cS : w5.cell? ⟨n3, 1, none⟩ = some (.slice Am nm cm) := box_cell B7 1
          have hown5 := hown.kept g5 (.inr hne0)
          have hx5 : tCs (rowp wE.heap.size (.slice Am nm cm)) w5.drew lm cs := hx.kp (W' := w5.drew) (q := rowp wE.heap.size (.slice Am nm cm)) z5 (fun k hk hl => e5.block k hl) (fun k hk _ => hk)
          have hl5 := lt_heap B7
          clear HNW hown hx
          cases hq : outerT n 0 (T.drop i) with
          | out => exact absurd hq hone
          | bad p cc =>
            rw [hq] at HON hy
            have HF := Lib.hid HON
            clear HON
            subst hy
            have hS : w5.drew.cell? ⟨n3, 1, none⟩ = some (.slice Am nm cm) := cS
            refine wp_region_late (fun w' => w'.cell? ⟨n3, 1, none⟩ = some (.slice Am nm cm)) 7 (by kernel_rfl) ?_
            refine AnyL.take 0 (.pointer (some ⟨n3, 1, none⟩)) rfl (by kernel_rfl) (by kernel_rfl) (by kernel_rfl) (by kernel_rfl) (fun _ _ _ h => h) (Or.inl ⟨by rfl, ?_⟩) (by assumption) ?_
            · intro W' hSw
              go_simp
            try simp only [Act.put, List.getElem_toArray, List.getElem_cons_zero, List.setIfInBounds_toArray, List.set_cons_zero, List.set_cons_succ]
            refine AnyL.take 1 (.slice Am nm cm) rfl (by kernel_rfl) (by kernel_rfl) (by kernel_rfl) (by kernel_rfl) (fun _ _ _ h => h) (Or.inl ⟨by rfl, ?_⟩) (by assumption) ?_
            · intro W' hSw
              go_simp
            try simp only [Act.put, List.getElem_toArray, List.getElem_cons_zero, List.getElem_cons_succ, List.setIfInBounds_toArray, List.set_cons_zero, List.set_cons_succ]
            refine AnyL.take 2 (.pointer (some ⟨rb, 0, none⟩)) rfl (by kernel_rfl) (by kernel_rfl) (by kernel_rfl) (by kernel_rfl) (fun _ _ _ h => h) (Or.inl ⟨by rfl, ?_⟩) (by assumption) ?_
            · intro W' hSw
              go_simp
            try simp only [Act.put, List.getElem_toArray, List.getElem_cons_zero, List.getElem_cons_succ, List.setIfInBounds_toArray, List.set_cons_zero, List.set_cons_succ]
            refine AnyL.next 3 (by kernel_rfl) rfl (fun K hK => ?_)
            go_simp
            go_at_call 57
            refine (HF.out _ h5.drew).mono ?_
            rintro e2 w6 ⟨rfl, g6⟩
            go_wp2_with fail
            rw [← hY]
            exact ⟨rfl, rfl, hG.trans (g5.trans ((Gr.drew (Gr.refl rb w5)).trans g6))⟩
          | ok t r =>
            have hlen2 := outer_left hq
            rw [hq] at HON hy
            have HF := Lib.hid HON
            clear HON
            have hS : w5.drew.cell? ⟨n3, 1, none⟩ = some (.slice Am nm cm) := cS
            refine wp_region_late (fun w' => w'.cell? ⟨n3, 1, none⟩ = some (.slice Am nm cm)) 7 (by kernel_rfl) ?_
            refine AnyL.take 0 (.pointer (some ⟨n3, 1, none⟩)) rfl (by kernel_rfl) (by kernel_rfl) (by kernel_rfl) (by kernel_rfl) (fun _ _ _ h => h) (Or.inl ⟨by rfl, ?_⟩) (by assumption) ?_
            · intro W' hSw
              go_simp
            try simp only [Act.put, List.getElem_toArray, List.getElem_cons_zero, List.setIfInBounds_toArray, List.set_cons_zero, List.set_cons_succ]
            refine AnyL.take 1 (.slice Am nm cm) rfl (by kernel_rfl) (by kernel_rfl) (by kernel_rfl) (by kernel_rfl) (fun _ _ _ h => h) (Or.inl ⟨by rfl, ?_⟩) (by assumption) ?_
            · intro W' hSw
              go_simp
            try simp only [Act.put, List.getElem_toArray, List.getElem_cons_zero, List.getElem_cons_succ, List.setIfInBounds_toArray, List.set_cons_zero, List.set_cons_succ]
            refine AnyL.take 2 (.pointer (some ⟨rb, 0, none⟩)) rfl (by kernel_rfl) (by kernel_rfl) (by kernel_rfl) (by kernel_rfl) (fun _ _ _ h => h) (Or.inl ⟨by rfl, ?_⟩) (by assumption) ?_
            · intro W' hSw
              go_simp
            try simp only [Act.put, List.getElem_toArray, List.getElem_cons_zero, List.getElem_cons_succ, List.setIfInBounds_toArray, List.set_cons_zero, List.set_cons_succ]
            refine AnyL.next 3 (by kernel_rfl) rfl (fun K hK => ?_)
            go_simp
            go_at_call 57
            refine (HF.out _ h5.drew).mono ?_
            rintro e2 w6 ⟨⟨vv, rfl, vl, vx, vy, rfl, hvl, hvx, hvy, hok⟩, ⟨i6, h6, hd6⟩, g6⟩
            obtain ⟨A1, k1, el1, _⟩ := id hvl
            obtain ⟨A2, k2, el2, _⟩ := id hvx
            obtain ⟨A3, k3, el3, _⟩ := id hvy
            subst el1
            subst el2
            subst el3
            go_wp2_with fail
            have B76 := (g6.block (k := n3) (lt_heap B7) (by omega)).trans B7
            have s6 : w6.cell? ⟨n3, 1, none⟩ = some (.slice Am nm cm) := box_cell B76 1
            refine hK.out _ _ (fun _ => s6) ?_
            clear hK K
            try simp only [Act.put, List.getElem_toArray, List.getElem_cons_zero, List.getElem_cons_succ, List.setIfInBounds_toArray, List.set_cons_zero, List.set_cons_succ]
            refine AnyL.next 4 (by kernel_rfl) rfl (fun K hK => ?_)
            go_simp
            have s6a : (w6.alloc (.cells #[.int .i64 t.op, .string t.s, .int .i64 t.n, .slice A1 t.l.len k1, .slice A2 t.x.len k2, .slice A3 t.y.len k3] 45)).cell? ⟨n3, 1, none⟩ = some (.slice Am nm cm) := box_cell ((Below.heap_alloc w6 (.cells #[.int .i64 t.op, .string t.s, .int .i64 t.n, .slice A1 t.l.len k1, .slice A2 t.x.len k2, .slice A3 t.y.len k3] 45) n3 (lt_heap B76)).trans B76) 1
            refine hK.out _ _ (fun _ => s6a) ?_
            clear hK K
            try simp only [Act.put, List.getElem_toArray, List.getElem_cons_zero, List.getElem_cons_succ, List.setIfInBounds_toArray, List.set_cons_zero, List.set_cons_succ]
            refine AnyL.next 5 (by kernel_rfl) rfl (fun K hK => ?_)
            have zw6 := g6.size
            have zw6' : w5.drew.heap.size = w5.heap.size := rfl
            refine oper_append_at (by rfl) (.tmp 24) (.tmp 27) 23 rfl (wE.heap.size) 45 i0' _ 6 104 Tryd.underlying23 hi hz0 hz1 hz2 rfl (by decide) (.slice Am nm cm) nm (cs) rfl ((hown5.kept ((Gr.drew (Gr.refl rb w5)).trans g6) (.inr hne0)).alloc _) ⟨w6.heap.size, 0, none⟩ 1 1 (newt t (.slice A1 t.l.len k1) (.slice A2 t.x.len k2) (.slice A3 t.y.len k3)) rfl rfl (newt_cells w6 t _ _ _) (newt_one t A1 A2 A3 _ _ _ _ _ _) (by unfold maxLen; omega) (by omega) (by simp; omega) ?_
            intro v7 w7 hown7 hgrow7 _ hat7
            obtain ⟨h7, G7, K7, z7, hx7⟩ := st_low (l := lm) (wr := w5.drew) (L := wE.heap.size) (by omega) (hown5.kept (Gr.drew (Gr.refl rb w5)) (.inr hne0)) hx5 g6 hvl hvx hvy hok h6 hgrow7 hat7 (by omega) (by omega)
            obtain ⟨A7, c7, e7⟩ := own_slice hown7
            subst e7
            have B77 := (K7 n3 (by omega) (by omega)).trans (show w5.drew.heap[n3]? = _ from B7)
            have s7 : w7.cell? ⟨n3, 1, none⟩ = some (.slice Am nm cm) := box_cell B77 1
            have f7 := box_frozen B77 1
            refine hK.out _ _ (fun _ => s7) ?_
            clear hK K s6 s6a
            try simp only [Act.put, List.getElem_toArray, List.getElem_cons_zero, List.getElem_cons_succ, List.setIfInBounds_toArray, List.set_cons_zero, List.set_cons_succ]
            refine AnyL.take 6 (.pointer (some ⟨n3, 1, none⟩)) rfl (by kernel_rfl) (by kernel_rfl) (by kernel_rfl) (by kernel_rfl) (fun _ _ _ h => h) (Or.inl ⟨by rfl, ?_⟩) (by assumption) ?_
            · intro W' hSw
              go_simp
            try simp only [Act.put, List.getElem_toArray, List.getElem_cons_zero, List.getElem_cons_succ, List.setIfInBounds_toArray, List.set_cons_zero, List.set_cons_succ]
            refine AnyL.next 7 (by kernel_rfl) rfl (fun K hK => ?_)
            go_simp
            refine hK.out _ _ (fun e => absurd rfl e) ?_
            clear hK K
            try simp only [Act.put, List.getElem_toArray, List.getElem_cons_zero, List.getElem_cons_succ, List.setIfInBounds_toArray, List.set_cons_zero, List.set_cons_succ]
            refine AnyL.done (by kernel_rfl) ?_
            have hne7 : (Value.slice A7 (nm + 1) c7).ownBlock ≠ some n3 := fun e => by have := (hown7.lt n3 e).1; omega
            have hown8 := hown7.kept (Gr.set (rb := n3) (W := w7) 1 (.slice A7 (nm + 1) c7)) (.inr hne7)
            have hx8 := hx7.kp (W' := w7.setCell ⟨n3, 1, none⟩ (.slice A7 (nm + 1) c7)) (q := rowp (wE.heap.size) (.slice A7 (nm + 1) c7)) (by simp) (fun k hk hl => Below.heap_setCell w7 ⟨n3, 1, none⟩ _ k (show k ≠ n3 by have := hk.1; omega)) (fun k hk _ => hk)
            have h8 := h7.set (b := n3) (j := 1) (.slice A7 (nm + 1) c7) (by omega) (by omega)
            have G8 := (G7 W (hG.trans g5).drew (by omega)).setNew (j := 1) (.slice A7 (nm + 1) c7) (show W.heap.size ≤ n3 by omega)
            have B7n := (set2_at (x := .slice A7 (nm + 1) c7) B77).2
            have K8 : ∀ k, k < wE.heap.size → k ≠ rb → k ≠ n3 → (w7.setCell ⟨n3, 1, none⟩ (.slice A7 (nm + 1) c7)).heap[k]? = w5.heap[k]? := fun k hk hr hn => (Below.heap_setCell w7 ⟨n3, 1, none⟩ (.slice A7 (nm + 1) c7) k hn).trans (K7 k hk hr)
            have z8 : (w7.setCell ⟨n3, 1, none⟩ (.slice A7 (nm + 1) c7)).heap.size = w7.heap.size := by simp
            obtain ⟨w8, hw8⟩ : ∃ W1, w7.setCell ⟨n3, 1, none⟩ (.slice A7 (nm + 1) c7) = W1 := ⟨_, rfl⟩
            rw [hw8] at hown8 hx8 h8 G8 B7n K8 z8 ⊢
            clear hw8 f7 s7 hgrow7 hat7 hown7 hx7 B77 B76 G7 K7
            have B8n := (K8 W.heap.size (by omega) (by omega) (by omega)).trans B8
            have hl2 := h8.lt
            rw [← hd6] at hlen2
            have hl3 : i < i6 := drop_lt hlen2
            have hKE8 : Kp (n3 + 1) wE w8 := ⟨Nat.le_trans (Nat.le_trans hzK z5) (by rw [z8]; exact z7), fun k hk hl => (K8 k hl (Nat.ne_of_gt (Nat.lt_of_lt_of_le hrb3 (Nat.le_of_succ_le hk))) (Nat.ne_of_gt hk)).trans ((e5.block k (Nat.lt_of_lt_of_le hl hzK)).trans (hKE.block k hk hl))⟩
            go_wp2_with fail
            refine ⟨⟨m, lm ++ [t], _, i6, A7, c7, by rw [hd6]; exact hy, h8, G8, hKE8, B8n, by rw [List.length_append, hnm]; exact B7n, by rw [List.length_append, hnm]; exact hown8, by rw [List.length_append, hnm]; exact hx8, by rw [List.length_append, hnm]; exact Nat.lt_of_le_of_lt hli hl3⟩, ?_⟩
            rw [posR_eq h8, posR_eq hR]
            exact Nat.sub_lt_sub_left (Nat.lt_trans hl3 hl2) hl3

end Go.Proofs.YtaajolemjgdfnaaDoor

/-
  Package parse: what Parse defers: a fault that is panicked with is told.
-/
namespace Go.Proofs.YtaajolemjgdfnaaDoor
open Go Go.RowKit Go.Lib

theorem run_asked (w : World) (a c : Int) : (Instr.typeAssert (.iface 85 (.agg #[.int .i64 a, .int .i64 c])) 20 85 true).run Tryd.prog w = .ok (.tuple #[.agg #[.int .i64 a, .int .i64 c], .bool true]) w := by kernel_rfl
theorem run_asked0 (w : World) : (Instr.typeAssert .nilIface 20 85 true).run Tryd.prog w = .ok (.tuple #[.agg #[.int .i64 0, .int .i64 0], .bool false]) w := by kernel_rfl
attribute [local go_sem high] run_asked run_asked0

set_option maxRecDepth 100000 in
theorem caught (b1 b2 : Nat) (x y : Int) (a c : Nat) (older : List PanicEntry) (w : World) (h1 : w.heap[b1]? = some (.cells #[.int .i64 x] 3)) (h2 : w.heap[b2]? = some (.cells #[.int .i64 y] 28)) (hne : b1 ≠ b2) :
    CallsD Tryd.prog 40 #[.pointer (some ⟨b1, 0, none⟩), .pointer (some ⟨b2, 0, none⟩)] (.panicking ({ v := .iface 85 (.agg #[.int .i64 a, .int .i64 c]), recovered := false } :: older)) w fun e u' w' =>
      e = .returned (.tuple #[]) ∧ u' = .panicking ({ v := .iface 85 (.agg #[.int .i64 a, .int .i64 c]), recovered := true } :: older) ∧
        w' = ((w.alloc (.cells #[.int .i64 a, .int .i64 c] 85)).drew.setCell ⟨b1, 0, none⟩ (.int .i64 a)).setCell ⟨b2, 0, none⟩ (.int .i64 c) := by
  refine callsD_of_wpS Tryd.func40 rfl fun c₀ cs hu => ?_
  apply wpS_seq
  apply wpS_region
  simp [wpOpsS, go_sem, recoverD, hu, Tryd.ntmps40, Exit.thenS]
  refine wpS_of_wp ?_
  simp only [Array.replicate_succ, Array.replicate_zero, List.push_toArray, List.append_toArray, List.nil_append, List.cons_append, List.setIfInBounds_toArray, List.set_cons_zero, List.set_cons_succ]
  go_wp2
  have hl1 := lt_heap h1
  have hl2 := lt_heap h2
  have B3 := heap_alloc_new w (.cells #[.int .i64 a, .int .i64 c] 85)
  have B1 := (Below.heap_alloc w (.cells #[.int .i64 a, .int .i64 c] 85) b1 hl1).trans h1
  have B2 := (Below.heap_alloc w (.cells #[.int .i64 a, .int .i64 c] 85) b2 hl2).trans h2
  obtain ⟨w1, hw1⟩ : ∃ w1, w.alloc (.cells #[.int .i64 a, .int .i64 c] 85) = w1 := ⟨_, rfl⟩
  rw [hw1] at B1 B2 B3 ⊢
  obtain ⟨n, hn⟩ : ∃ n, w.heap.size = n := ⟨_, rfl⟩
  rw [hn] at B3 hl1 hl2 ⊢
  have hb1 : b1 ≠ n := by omega
  have hb2 : b2 ≠ n := by omega
  have hne' : b2 ≠ b1 := hne.symm
  have d0 : w1.drew.cell? ⟨n, 0, none⟩ = some (.int .i64 a) := box_cell B3 0
  have d1 : w1.drew.cell? ⟨n, 1, none⟩ = some (.int .i64 c) := box_cell B3 1
  have e0 : w1.drew.cell? ⟨b1, 0, none⟩ = some (.int .i64 x) := box_cell B1 0
  have e1 : w1.drew.cell? ⟨b2, 0, none⟩ = some (.int .i64 y) := box_cell B2 0
  have f0 : w1.drew.frozen? ⟨b1, 0, none⟩ = false := box_frozen B1 0
  have f1 : w1.drew.frozen? ⟨b2, 0, none⟩ = false := box_frozen B2 0
  have e1' : (w1.drew.setCell ⟨b1, 0, none⟩ (.int .i64 a)).cell? ⟨b2, 0, none⟩ = some (.int .i64 y) := (World.cell?_setCell_far _ _ _ _ hne).trans e1
  have f1' : (w1.drew.setCell ⟨b1, 0, none⟩ (.int .i64 a)).frozen? ⟨b2, 0, none⟩ = false := (World.frozen?_setCell _ _ _ _).trans f1
  have e2' : (w1.setCell ⟨b1, 0, none⟩ (.int .i64 a)).cell? ⟨b2, 0, none⟩ = some (.int .i64 y) := (World.cell?_setCell_far _ _ _ _ hne).trans e1
  have f2' : (w1.setCell ⟨b1, 0, none⟩ (.int .i64 a)).frozen? ⟨b2, 0, none⟩ = false := (World.frozen?_setCell _ _ _ _).trans f1
  go_region_held (fun w' => w'.cell? ⟨n, 0, none⟩ = some (.int .i64 a) ∧ w'.cell? ⟨n, 1, none⟩ = some (.int .i64 c)) (first | exact ⟨d0, d1⟩ | exact ⟨(World.cell?_setCell_far _ _ _ _ hb1).trans d0, (World.cell?_setCell_far _ _ _ _ hb1).trans d1⟩ | exact ⟨(World.cell?_setCell_far _ _ _ _ hb2).trans ((World.cell?_setCell_far _ _ _ _ hb1).trans d0), (World.cell?_setCell_far _ _ _ _ hb2).trans ((World.cell?_setCell_far _ _ _ _ hb1).trans d1)⟩) (fail)
  refine (show bodyPostS _ _ _ _ _ _ _ _ _ from ?_)
  subst hw1
  exact ⟨rfl, _, rfl, _, results_none rfl _ _ _, rfl, rfl, rfl⟩

set_option maxRecDepth 100000 in
theorem idle (p q : Addr) (w : World) :
    CallsD Tryd.prog 40 #[.pointer (some p), .pointer (some q)] .returning w fun e u' w' =>
      e = .returned (.tuple #[]) ∧ u' = .returning ∧ w' = w.alloc (.cells #[.int .i64 0, .int .i64 0] 85) := by
  refine callsD_of_wpS Tryd.func40 rfl fun c₀ cs hu => ?_
  apply wpS_seq
  apply wpS_region
  simp [wpOpsS, go_sem, recoverD, hu, Tryd.ntmps40, Exit.thenS]
  refine wpS_of_wp ?_
  simp only [Array.replicate_succ, Array.replicate_zero, List.push_toArray, List.append_toArray, List.nil_append, List.cons_append, List.setIfInBounds_toArray, List.set_cons_zero, List.set_cons_succ]
  go_wp2
  exact ⟨rfl, .returning, by cases c₀; simp_all, _, results_none rfl _ _ _, rfl, rfl, rfl⟩

end Go.Proofs.YtaajolemjgdfnaaDoor

