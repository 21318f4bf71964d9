/-
  ScopeCalls, plainly and its walk: a call has as many parts as its function has parameters, wherever it stands.
-/
import Derived.Test.YtmhngbfpldiinaaDoorSqN
import Derived.Maps.AppendAt
namespace Go.Proofs.YtmhngbfpldiinaaDoor
open Go Go.RowKit Go.Lib

def pnm (i : Nat) : ByteArray := ⟨#[112]⟩ ++ ⟨#[UInt8.ofNat (97 + i)]⟩
def psC (n : Nat) : List ByteArray := (List.range n).map pnm
theorem psC_len (n : Nat) : (psC n).length = n := by simp [psC]
theorem psC_snoc (n : Nat) : (psC (n + 1)).map Value.string = (psC n).map Value.string ++ [.string (pnm n)] := by simp [psC, List.range_succ]
theorem pnm_sz (i : Nat) : (pnm i).size = 2 := by unfold pnm; rw [ByteArray.size_append]; rfl
def ckE : Nat → ES
  | 0 => .nil
  | n + 1 => .cons 3 0 ⟨#[]⟩ .nil (ckE n)
def ckC : Nat → List Value
  | 0 => []
  | n + 1 => .int .i64 3 :: .int .i64 0 :: .string ⟨#[]⟩ :: .slice none 0 0 :: ckC n
theorem ckC_snoc : ∀ n, ckC (n + 1) = ckC n ++ [.int .i64 3, .int .i64 0, .string ⟨#[]⟩, .slice none 0 0]
  | 0 => rfl
  | n + 1 => congrArg (fun l => Value.int .i64 3 :: .int .i64 0 :: .string ⟨#[]⟩ :: .slice none 0 0 :: l) (ckC_snoc n)
theorem ckE_len : ∀ n, (ckE n).len = n
  | 0 => rfl
  | n + 1 => by show (ckE n).len + 1 = n + 1; rw [ckE_len n]
theorem ckE_in {B : Nat} {W : World} {b : Nat} : ∀ (n o : Nat), (∀ j u, (ckC n)[j]? = some u → W.cell? ⟨b, o + j, none⟩ = some u) → (ckE n).In B W b o
  | 0, _, _ => trivial
  | n + 1, o, h => ⟨h 0 _ rfl, h 1 _ rfl, h 2 _ rfl, ⟨_, h 3 _ rfl, ev_nought _ _⟩, ⟨by decide, by decide, by show (⟨#[]⟩ : ByteArray).size ≤ _; decide⟩, ckE_in n (o + 4) fun j u hj => by
      have := h (j + 4) u (by simpa [ckC] using hj)
      rwa [show o + (j + 4) = o + 4 + j by omega] at this⟩
def oN : Nat → Int
  | 0 => 5
  | _ => 7
def sN : Nat → ByteArray
  | 0 => ⟨#[102]⟩
  | _ => ⟨#[]⟩
/-- The parts of what stands so deep. -/
def chL (m : Nat) : Nat → ES
  | 0 => ckE m
  | j + 1 => .cons (oN j) 0 (sN j) (chL m j) .nil
def bdS (m d : Nat) : SS := .cons 6 ⟨#[]⟩ 0 (chL m (d + 1)) .nil .nil .nil
def pgC (n m fr d : Nat) : Pg := ⟨[⟨⟨#[103]⟩, [], if fr = 2 then bdS m d else .nil⟩, ⟨⟨#[102]⟩, psC n, if fr = 1 then bdS m d else .nil⟩], if fr = 0 then bdS m d else .nil⟩
def okC (n m fr d : Nat) : Bool :=
  let p := pgC n m fr d
  decide (cntL p.pts ≤ 10000000) &&
  if n = m then decide (resErr p = 0) && decide ((resP p).length = 3) && decide ((resP p)[2]?.map (fun s => (s.n, s.vs.length)) = some ((n : Int), n)) && decide (findN (resP p) ⟨#[102]⟩ 0 = 2)
  else decide (resErr p = 4) && decide ((resP p).length = 0)
theorem okC_all : ∀ (n m : Fin 9) (fr : Fin 3) (d : Fin 11), okC n.val m.val fr.val d.val = true := by decide +kernel
theorem conv_1c (w : World) (c : UInt8) : (convert 47 9 (.slice (some ⟨w.heap.size, 0, none⟩) 1 1)).run Tryd.prog (w.alloc (.cells #[.int .u8 (c.toNat : Int)] 5)) = .ok (.string ⟨#[c]⟩) (w.alloc (.cells #[.int .u8 (c.toNat : Int)] 5)) :=
  run_convert_bytes_back (P := Tryd.prog) _ _ _ _ ⟨w.heap.size, 0, none⟩ 1 [c] Tryd.underlying47 Tryd.underlying5 Tryd.underlying9 (fun j hj => by
    obtain rfl : j = 0 := by simpa using hj
    exact (World.cell?_alloc_mark w _ _ _ 0))
abbrev exO (op n : Int) (s : ByteArray) (v : Value) : Obj := .cells #[.int .i64 op, .int .i64 n, .string s, v] 43
theorem c_set_at {W : World} {j k i : Nat} {o : Obj} {v : Value} (h : W.heap[j]? = some o) (hne : j ≠ k) : (W.setCell ⟨k, i, none⟩ v).heap[j]? = some o := (Below.heap_setCell W ⟨k, i, none⟩ v j hne).trans h
theorem c_ne {W : World} {j k : Nat} {cs ds : Array Value} {e t : TypeId} (h : W.heap[j]? = some (.cells cs e)) (h' : W.heap[k]? = some (.cells ds t)) (hne : e ≠ t) : j ≠ k := by
  rintro rfl
  rw [h] at h'
  injection h' with h'
  injection h' with _ h' _
  exact hne h'
theorem own_disj {W : World} {b1 b2 : Nat} {e1 e2 : TypeId} {s1 s2 n1 n2 : Nat} {v1 v2 : Value} {x1 x2 : List Value} (h1 : W.ownsRow b1 e1 s1 v1 n1 x1) (h2 : W.ownsRow b2 e2 s2 v2 n2 x2) (hne : e2 ≠ e1) : v1.ownBlock = none ∨ v1.ownBlock ≠ v2.ownBlock := by
  rcases h1.2 with ⟨rfl, _⟩ | ⟨g, cap, cur, rfl, _, hg, _⟩
  · exact .inl rfl
  · exact .inr (own_ne h2 hg hne)
theorem exprInfo6 : (Tryd.prog.info? 43).map (fun i => (i.zero, i.size, i.bytes)) = some (some (.agg #[.int .i64 0, .int .i64 0, .string ⟨#[]⟩, .slice none 0 0]), 4, 56) := by kernel_rfl
/-- The links of a call so deep. -/
def Nv (W : World) (lo m : Nat) : Nat → Value → Prop
  | 0, v => W.ownsRow lo 43 4 v m (ckC m)
  | j + 1, v => ∃ b v', v = .slice (some ⟨b, 0, none⟩) 1 1 ∧ lo ≤ b ∧ W.heap[b]? = some (exO (oN j) 0 (sN j) v') ∧ Nv W lo m j v'
theorem Nv.alloc {W : World} {lo m : Nat} (o : Obj) : ∀ {j : Nat} {v : Value}, Nv W lo m j v → Nv (W.alloc o) lo m j v
  | 0, _, h => World.ownsRow.alloc h o
  | _ + 1, _, ⟨b, v', e, hl, hb, h⟩ => ⟨b, v', e, hl, blk_alloc hb _, Nv.alloc o h⟩
theorem Nv.setLow {W : World} {lo m k i : Nat} (x : Value) (hk : k < lo) : ∀ {j : Nat} {v : Value}, Nv W lo m j v → Nv (W.setCell ⟨k, i, none⟩ x) lo m j v
  | 0, v, h => own_set h (fun e => by have := (h.lt k e.symm).1; omega) _
  | _ + 1, _, ⟨b, v', e, hl, hb, h⟩ => ⟨b, v', e, hl, c_set_at hb (by omega), Nv.setLow x hk h⟩
theorem Nv.setOf {W : World} {lo m k i : Nat} {cs : Array Value} {t : TypeId} (x : Value) (hk : W.heap[k]? = some (.cells cs t)) (ht : 43 ≠ t) : ∀ {j : Nat} {v : Value}, Nv W lo m j v → Nv (W.setCell ⟨k, i, none⟩ x) lo m j v
  | 0, _, h => own_set h (own_ne h hk ht) _
  | _ + 1, _, ⟨b, v', e, hl, hb, h⟩ => ⟨b, v', e, hl, c_set_at hb (c_ne hb hk ht), Nv.setOf x hk ht h⟩
theorem oN_64 (j : Nat) : I64 (oN j) ∧ (sN j).size ≤ 9223372036854775807 := by
  cases j with
  | zero => exact ⟨by decide, by show (⟨#[102]⟩ : ByteArray).size ≤ _; decide⟩
  | succ j => exact ⟨(by decide : I64 7), by show (⟨#[]⟩ : ByteArray).size ≤ _; decide⟩
theorem Nv.ev {W : World} {lo m : Nat} : ∀ {j : Nat} {v : Value}, Nv W lo m j v → EV W.heap.size W v (chL m j)
  | 0, v, h => by
    have hl : (chL m 0).len = m := ckE_len m
    show RowV _ _ (chL m 0).len v
    rw [hl]
    by_cases h0 : 0 < m
    · obtain ⟨g, cap, rfl, h1, h2, h3, h4⟩ := own_cells h h0
      exact ⟨_, cap, rfl, h1, h2, fun _ => ⟨g, 0, rfl, h3, ckE_in m 0 fun j u hu => by rw [Nat.zero_add]; exact h4 j u hu⟩⟩
    · rcases h.2 with ⟨rfl, e⟩ | ⟨g, cap, cur, rfl, _, _, hnc, hcm, _⟩
      · exact ⟨none, 0, by rw [e], by omega, by omega, fun h => absurd h h0⟩
      · exact ⟨_, cap, rfl, hnc, by unfold maxLen at hcm; omega, fun h => absurd h h0⟩
  | j + 1, _, ⟨b, v', e, hl, hb, h⟩ =>
    ⟨_, 1, e, Nat.le_refl _, by decide, fun _ => ⟨b, 0, rfl, blk_lt hb, (blk_cell hb 0).trans rfl, (blk_cell hb 1).trans rfl, (blk_cell hb 2).trans rfl, ⟨_, (blk_cell hb 3).trans rfl, Nv.ev h⟩, ⟨(oN_64 j).1, by decide, (oN_64 j).2⟩, trivial⟩⟩
def set4 (W : World) (b : Nat) (x0 x1 x2 x3 : Value) : World := (((W.setCell ⟨b, 0, none⟩ x0).setCell ⟨b, 1, none⟩ x1).setCell ⟨b, 2, none⟩ x2).setCell ⟨b, 3, none⟩ x3
theorem set4_same {W : World} {b : Nat} {c0 c1 c2 c3 : Value} {T : TypeId} (x0 x1 x2 x3 : Value) (h : W.heap[b]? = some (.cells #[c0, c1, c2, c3] T)) : (set4 W b x0 x1 x2 x3).heap[b]? = some (.cells #[x0, x1, x2, x3] T) := by
  have h0 := (blk_set h 0 x0).trans rfl
  have h1 := (blk_set h0 1 x1).trans rfl
  have h2 := (blk_set h1 2 x2).trans rfl
  have h3 := (blk_set h2 3 x3).trans rfl
  unfold set4
  rw [h3]
  simp
theorem set4_other {W : World} {b c : Nat} {o : Obj} (x0 x1 x2 x3 : Value) (h : W.heap[c]? = some o) (hne : c ≠ b) : (set4 W b x0 x1 x2 x3).heap[c]? = some o := c_set_at (c_set_at (c_set_at (c_set_at h hne) hne) hne) hne
def PRel (fb N : Nat) (w : World) (i : Value) (wr : World) : Prop :=
  ∃ (k : Nat) (vp : Value), i = .int .i64 k ∧ k ≤ N ∧ wr.heap[fb]? = some (fnO ⟨#[102]⟩ vp (.slice none 0 0)) ∧ wr.ownsRow (fb + 1) 9 1 vp k ((psC k).map Value.string) ∧ Below w.heap.size w wr
def CRel (fb cb N M : Nat) (Xp : Option Addr) (cp : Nat) (w : World) (i : Value) (wr : World) : Prop :=
  ∃ (k : Nat) (vl : Value), i = .int .i64 k ∧ k ≤ M ∧ wr.heap[cb]? = some (exO 5 0 ⟨#[102]⟩ vl) ∧ wr.ownsRow (cb + 1) 43 4 vl k (ckC k) ∧ wr.heap[fb]? = some (fnO ⟨#[102]⟩ (.slice Xp N cp) (.slice none 0 0)) ∧ wr.ownsRow (fb + 1) 9 1 (.slice Xp N cp) N ((psC N).map Value.string) ∧ Below w.heap.size w wr
def DRel (fb cb N M D : Nat) (Xp : Option Addr) (cp : Nat) (w : World) (i : Value) (wr : World) : Prop :=
  ∃ (j : Nat) (vl : Value), i = .int .i64 j ∧ j ≤ D ∧ wr.heap[cb]? = some (exO (oN j) 0 (sN j) vl) ∧ Nv wr (cb + 1) M j vl ∧ wr.heap[fb]? = some (fnO ⟨#[102]⟩ (.slice Xp N cp) (.slice none 0 0)) ∧ wr.ownsRow (fb + 1) 9 1 (.slice Xp N cp) N ((psC N).map Value.string) ∧ Below w.heap.size w wr


abbrev stO6 (b : Nat) : Obj := .cells #[.int .i64 6, .string ⟨#[]⟩, .int .i64 0, .slice (some ⟨b, 0, none⟩) 1 1, .slice none 0 0, .slice none 0 0] 45
abbrev pg2 (x y : Value) : Obj := .cells #[x, y] 25
abbrev fs2 (x y z : Value) : Obj := .cells #[.string ⟨#[103]⟩, .slice none 0 0, x, .string ⟨#[102]⟩, y, z] 37
structure CSt (fb cb b1 k j d cp : Nat) (Xp : Option Addr) (vl : Value) (w W : World) (pM : Value) : Prop where
  c : W.heap[b1]? = some (exO (oN d) 0 (sN d) vl)
  s : W.heap[b1 + 1]? = some (stO6 b1)
  p : W.heap[b1 + 1 + 1 + 1]? = some (pg2 (.slice none 0 0) pM)
  v : Nv W (cb + 1) j d vl
  o : W.ownsRow (fb + 1) 9 1 (.slice Xp k cp) k ((psC k).map Value.string)
  b : Below w.heap.size w W
theorem body_sv {W : World} {b1 lo m d : Nat} {vl : Value} (h0 : W.heap[b1]? = some (exO (oN d) 0 (sN d) vl)) (h1 : W.heap[b1 + 1]? = some (stO6 b1)) (hv : Nv W lo m d vl) (hlo : lo ≤ b1) : SV W.heap.size W (.slice (some ⟨b1 + 1, 0, none⟩) 1 1) (bdS m d) :=
  ⟨_, 1, rfl, Nat.le_refl _, by decide, fun _ => ⟨b1 + 1, 0, rfl, blk_lt h1, (blk_cell h1 0).trans rfl, (blk_cell h1 1).trans rfl, (blk_cell h1 2).trans rfl, ⟨_, (blk_cell h1 3).trans rfl, Nv.ev (j := d + 1) ⟨b1, vl, rfl, hlo, h0, hv⟩⟩, ⟨_, (blk_cell h1 4).trans rfl, sv_nought _ _⟩, ⟨_, (blk_cell h1 5).trans rfl, sv_nought _ _⟩, ⟨by decide, by decide, by show (⟨#[]⟩ : ByteArray).size ≤ _; decide⟩, trivial⟩⟩
theorem c_pg {W : World} {fs base n m fr d : Nat} {gB fB pM : Value} {Xp : Option Addr} {cp : Nat} (hF : W.heap[fs]? = some (fs2 gB (.slice Xp n cp) fB)) (ho : W.ownsRow base 9 1 (.slice Xp n cp) n ((psC n).map Value.string)) (hg : SV W.heap.size W gB (if fr = 2 then bdS m d else .nil)) (hf : SV W.heap.size W fB (if fr = 1 then bdS m d else .nil)) (hp : SV W.heap.size W pM (if fr = 0 then bdS m d else .nil)) : PgV W.heap.size W (.agg #[.slice (some ⟨fs, 0, none⟩) 2 2, pM]) (pgC n m fr d) := by
  obtain ⟨A, c, e, h1⟩ := id hp
  have hps := st_row (l := psC n) (v := .slice Xp n cp) (base := base) (by unfold StO; rw [psC_len]; exact ho) (fun s hs => by
    obtain ⟨i, _, rfl⟩ := List.mem_map.1 hs
    rw [pnm_sz]; decide)
  subst e
  exact ⟨_, 2, A, c, rfl, ⟨_, 2, rfl, Nat.le_refl _, by decide, fun _ => ⟨fs, 0, rfl, blk_lt hF, (blk_cell hF 0).trans rfl, ⟨_, (blk_cell hF 1).trans rfl, ps_nought _ _⟩, ⟨_, (blk_cell hF 2).trans rfl, hg⟩, (by show (⟨#[103]⟩ : ByteArray).size ≤ _; decide), (blk_cell hF 3).trans rfl, ⟨_, (blk_cell hF 4).trans rfl, hps⟩, ⟨_, (blk_cell hF 5).trans rfl, hf⟩, (by show (⟨#[102]⟩ : ByteArray).size ≤ _; decide), trivial⟩⟩, hp⟩
theorem okC_use {n m fr d : Nat} (h : okC n m fr d = true) : cntL (pgC n m fr d).pts ≤ 10000000 ∧ (n = m → resErr (pgC n m fr d) = 0 ∧ ∃ a b c, resP (pgC n m fr d) = [a, b, c] ∧ c.n = (n : Int) ∧ c.vs.length = n ∧ findN [a, b, c] ⟨#[102]⟩ 0 = 2) ∧ (n ≠ m → resErr (pgC n m fr d) = 4 ∧ resP (pgC n m fr d) = []) := by
  unfold okC at h
  simp only [Bool.and_eq_true, decide_eq_true_eq] at h
  obtain ⟨h0, h2⟩ := h
  refine ⟨h0, fun e => ?_, fun e => ?_⟩
  · rw [if_pos e] at h2
    simp only [Bool.and_eq_true, decide_eq_true_eq] at h2
    obtain ⟨⟨⟨h3, h4⟩, h5⟩, h6⟩ := h2
    refine ⟨h3, ?_⟩
    generalize resP (pgC n m fr d) = R at h4 h5 h6 ⊢
    match R, h4 with
    | [a, b, c], _ =>
      refine ⟨a, b, c, rfl, ?_, ?_, h6⟩
      · simpa using congrArg (Option.map Prod.fst) h5
      · simpa using congrArg (Option.map Prod.snd) h5
  · rw [if_neg e] at h2
    simp only [Bool.and_eq_true, decide_eq_true_eq] at h2
    exact ⟨h2.1, List.length_eq_zero_iff.1 h2.2⟩

set_option maxRecDepth 100000 in
set_option maxHeartbeats 16000000 in
theorem calls_walk (x y z u : Int) (w : World) (ht : Tab w) : Calls Tryd.prog 7 #[.int .i64 x, .int .i64 y, .int .i64 z, .int .i64 u] w fun e w' => e = .returned (.bool true) ∧ Below w.heap.size w w' := by
  obtain ⟨D1, hD1, -⟩ := and_16 x
  obtain ⟨D2, hD2, -⟩ := and_16 y
  obtain ⟨D3, hD3, -⟩ := and_16 z
  obtain ⟨D4, hD4, -⟩ := and_16 u
  obtain ⟨N, hN⟩ : ∃ N, D1 % 9 = N := ⟨_, rfl⟩
  obtain ⟨M, hM⟩ : ∃ M, D2 % 9 = M := ⟨_, rfl⟩
  obtain ⟨fr, hF⟩ : ∃ M, D3 % 3 = M := ⟨_, rfl⟩
  obtain ⟨D, hD⟩ : ∃ M, D4 % 11 = M := ⟨_, rfl⟩
  have hN9 : N < 9 := by omega
  have hM9 : M < 9 := by omega
  have hF3 : fr < 3 := by omega
  have hD11 : D < 11 := by omega
  have r1 : (D1 : Int) % 9 = (N : Int) := by omega
  have r2 : (D2 : Int) % 9 = (M : Int) := by omega
  have r3 : (D3 : Int) % 3 = (fr : Int) := by omega
  have r4 : (D4 : Int) % 11 = (D : Int) := by omega
  have HS := Lib.hid (shown6_any w ht)
  have HT := Lib.hid ht
  have OK := Lib.hid (okC_all ⟨N, hN9⟩ ⟨M, hM9⟩ ⟨fr, hF3⟩ ⟨D, hD11⟩)
  obtain ⟨i0, hi, hz0, hz1, hz2⟩ := info_parts stringInfo
  have HI := Lib.hid hi
  have HZ0 := Lib.hid hz0
  obtain ⟨i1, hi', hz0', hz1', hz2'⟩ := info_parts exprInfo6
  have HI' := Lib.hid hi'
  have HZ0' := Lib.hid hz0'
  clear ht hi hz0 hi' hz0' hN hM hF hD
  go_enter Tryd.func7, Tryd.ntmps7
  go_upto_region 6 with (go_at_call 10; ((with_reducible refine HS.out.mono ?_); rintro e w1 ⟨rfl, h1⟩))
  rw [r1, r2, r3, r4]
  clear r1 r2 r3 r4 hD1 hD2 hD3 hD4
  go_upto_region 7 with fail
  obtain ⟨fb, hfb⟩ : ∃ b, w1.heap.size = b := ⟨_, rfl⟩
  obtain ⟨W, hW⟩ : ∃ W, w1.alloc (fnO ⟨#[102]⟩ (.slice none 0 0) (.slice none 0 0)) = W := ⟨_, rfl⟩
  have n0 : W.heap[fb]? = some (fnO ⟨#[102]⟩ (.slice none 0 0) (.slice none 0 0)) := by rw [← hW]; exact blk_new hfb
  have hbW : Below w.heap.size w W := by rw [← hW]; exact h1.alloc h1.size _
  have hwb : w.heap.size ≤ fb := by rw [← hfb]; exact h1.size
  rw [hW, hfb]
  have N0 := Lib.hid n0
  have HBW := Lib.hid hbW
  clear hW hfb n0 hbW h1
  go_wp2
  go_loopw [11] (fun i wr => PRel fb N w i wr) (fun i _ => N - (RowKit.intOf i).toNat)
  case atStart => exact ⟨0, _, rfl, Nat.zero_le _, N0.out, ⟨rfl, .inl ⟨rfl, rfl⟩⟩, HBW.out⟩
  case round =>
    obtain ⟨k, vp, rfl, hk, hbx, hop, hbel⟩ := hrel
    have HOP := Lib.hid hop
    have HB := Lib.hid hbel
    have HBX := Lib.hid hbx
    obtain ⟨Xp, cp, rfl⟩ := own_form hop
    have lbx := blk_lt hbx
    have kb0 : wr.cell? ⟨fb, 1, none⟩ = some (.slice Xp k cp) := (blk_cell hbx 1).trans rfl
    clear hop hbel hbx
    by_cases hkN : k < N
    · have q1 : decide ((k : Int) < (N : Int)) = true := by simp; omega
      have q2 : decide (k < N) = true := by simp; omega
      have HKN := Lib.hid hkN
      obtain ⟨c, hc⟩ : ∃ c, UInt8.ofNat (97 + k) = c := ⟨_, rfl⟩
      have e1 : IntKind.u8.wrap (k : Int) = (k : Int) := by rw [IntKind.wrap_u8]; omega
      have e2 : 97 + (k : Int) = (c.toNat : Int) := by rw [← hc, UInt8.toNat_ofNat']; omega
      have e3 : (97 + (k : Int)) % 256 = (c.toNat : Int) := by omega
      have hnm : pnm k = ⟨#[112]⟩ ++ ⟨#[c]⟩ := by unfold pnm; rw [hc]
      have HNM := Lib.hid hnm
      have hcv := fun wr => conv_1c wr c
      have nlt : ¬ (9223372036854775807 < (⟨#[112]⟩ : ByteArray).size + (⟨#[c]⟩ : ByteArray).size) := by show ¬ (9223372036854775807 < 1 + 1); omega
      clear hc hnm
      obtain ⟨wA, hwA⟩ : ∃ W, (wr.alloc (.cells #[.int .u8 (c.toNat : Int)] 5)).alloc (.cells #[.string (⟨#[112]⟩ ++ ⟨#[c]⟩)] 9) = W := ⟨_, rfl⟩
      have p0 : Hid (wA.heap[fb]? = some (fnO ⟨#[102]⟩ (.slice Xp k cp) (.slice none 0 0))) := hid (by rw [← hwA]; exact blk_alloc (blk_alloc HBX.out _) _)
      have p2 : Hid (wA.heap[wr.heap.size + 1]? = some (.cells #[.string (⟨#[112]⟩ ++ ⟨#[c]⟩)] 9)) := hid (by rw [← hwA]; exact new2 _ _ _)
      have p3 : Hid (Below w.heap.size w wA) := hid (by rw [← hwA]; exact (HB.out.alloc HB.out.size _).alloc (by have := HB.out.size; simp only [World.size_alloc]; omega) _)
      have p4 : Hid (wA.ownsRow (fb + 1) 9 1 (.slice Xp k cp) k ((psC k).map Value.string)) := hid (by rw [← hwA]; exact (HOP.out.alloc _).alloc _)
      have p6 : fb + 1 ≤ wA.heap.size := blk_lt p0.out
      go_upto_region 9 with (at_builtin; refine wpList_append_own_at _ rfl _ _ 31 rfl (fb + 1) 9 i0 _ 1 16 Tryd.underlying31 HI.out HZ0.out hz1 hz2 rfl (by decide) _ k _ rfl p4.out ⟨wr.heap.size + 1, 0, none⟩ 1 1 [.string (⟨#[112]⟩ ++ ⟨#[c]⟩)] rfl rfl (blk_news p2.out _ rfl) (fun u hu => by rw [List.mem_singleton.1 hu]; rfl) (by unfold maxLen; omega) (by omega) (by omega) ?_; intro v9 w9 hown9 hg9 _ hblk9; have r0 := blk_grown_own p4.out hg9 p0.out (by decide); have g0 : w9.cell? ⟨fb, 1, none⟩ = some (.slice Xp k cp) := (blk_cell r0 1).trans rfl; have g1 := blk_frozen r0 1; have g2 := blk_lt r0; have r3 := p3.out.grown hg9 (by have := HB.out.size; omega) (fun q hq => by have := (p4.out.lt q hq).1; omega); obtain ⟨X9, c9, rfl⟩ := own_form hown9; have R0 := Lib.hid r0; have R3 := Lib.hid r3; have R4 := Lib.hid hown9; clear r0 r3 hown9 hg9 hblk9)
      go_wp2
      go_round
      case rel => exact ⟨k + 1, .slice X9 (k + 1) c9, by go_num, by have := HKN.out; omega, (blk_set R0.out 1 _).trans (by simp), by rw [psC_snoc, HNM.out]; exact own_set R4.out (own_ne R4.out R0.out (by decide)) _, R3.out.setCell hwb _⟩
      case measure => simp [RowKit.intOf]; omega
    · have hkN' : k = N := by omega
      clear hkN
      subst hkN'
      have q1 : decide ((k : Int) < (k : Int)) = false := by simp
      have q2 : decide (k < k) = false := by simp
      go_upto_region 12 with fail
      obtain ⟨cb, hcb⟩ : ∃ b, wr.heap.size = b := ⟨_, rfl⟩
      obtain ⟨W2, hW2⟩ : ∃ W, wr.alloc (exO 5 0 ⟨#[102]⟩ (.slice none 0 0)) = W := ⟨_, rfl⟩
      have a0 : Hid (W2.heap[cb]? = some (exO 5 0 ⟨#[102]⟩ (.slice none 0 0))) := hid (by rw [← hW2]; exact blk_new hcb)
      have a1 : Hid (W2.heap[fb]? = some (fnO ⟨#[102]⟩ (.slice Xp k cp) (.slice none 0 0))) := hid (by rw [← hW2]; exact blk_alloc HBX.out _)
      have a2 : Hid (W2.ownsRow (fb + 1) 9 1 (.slice Xp k cp) k ((psC k).map Value.string)) := hid (by rw [← hW2]; exact HOP.out.alloc _)
      have a3 : Hid (Below w.heap.size w W2) := hid (by rw [← hW2]; exact HB.out.alloc HB.out.size _)
      have hfc : fb < cb := by rw [← hcb]; exact lbx
      rw [hW2, hcb]
      clear hW2 hcb HOP HB HBX kb0 lbx
      go_wp2
      go_loopw [13] (fun i wr => CRel fb cb k M Xp cp w i wr) (fun i _ => M - (RowKit.intOf i).toNat)
      case atStart => exact ⟨0, _, rfl, Nat.zero_le _, a0.out, ⟨rfl, .inl ⟨rfl, rfl⟩⟩, a1.out, a2.out, a3.out⟩
      case round =>
        obtain ⟨j, vl, rfl, hj, hbx, hol, hfx, hop, hbel⟩ := hrel
        have HOL := Lib.hid hol
        have HOP := Lib.hid hop
        have HB := Lib.hid hbel
        have HBX := Lib.hid hbx
        have HFX := Lib.hid hfx
        obtain ⟨Xl, cl, rfl⟩ := own_form hol
        have lbx := blk_lt hbx
        have kb3 : wr.cell? ⟨cb, 3, none⟩ = some (.slice Xl j cl) := (blk_cell hbx 3).trans rfl
        clear hol hop hbel hfx
        by_cases hjM : j < M
        · have q1 : decide ((j : Int) < (M : Int)) = true := by simp; omega
          have q2 : decide (j < M) = true := by simp; omega
          have HKN := Lib.hid hjM
          clear hbx
          obtain ⟨wA, hwA⟩ : ∃ W, wr.alloc (exO 3 0 ⟨#[]⟩ (.slice none 0 0)) = W := ⟨_, rfl⟩
          have p0 : Hid (wA.heap[cb]? = some (exO 5 0 ⟨#[102]⟩ (.slice Xl j cl))) := hid (by rw [← hwA]; exact blk_alloc HBX.out _)
          have p1 : Hid (wA.heap[fb]? = some (fnO ⟨#[102]⟩ (.slice Xp k cp) (.slice none 0 0))) := hid (by rw [← hwA]; exact blk_alloc HFX.out _)
          have p2 : Hid (wA.heap[wr.heap.size]? = some (exO 3 0 ⟨#[]⟩ (.slice none 0 0))) := hid (by rw [← hwA]; exact heap_alloc_new _ _)
          have p3 : Hid (Below w.heap.size w wA) := hid (by rw [← hwA]; exact HB.out.alloc HB.out.size _)
          have p4 : Hid (wA.ownsRow (cb + 1) 43 4 (.slice Xl j cl) j (ckC j)) := hid (by rw [← hwA]; exact HOL.out.alloc _)
          have p5 : Hid (wA.ownsRow (fb + 1) 9 1 (.slice Xp k cp) k ((psC k).map Value.string)) := hid (by rw [← hwA]; exact HOP.out.alloc _)
          have p6 : cb + 1 ≤ wA.heap.size := blk_lt p0.out
          have p7 : Hid (cb < wr.heap.size) := hid lbx
          go_upto_region 14 with (at_builtin; refine wpList_append_own_at _ rfl _ _ 41 rfl (cb + 1) 43 i1 _ 4 56 Tryd.underlying41 HI'.out HZ0'.out hz1' hz2' rfl (by decide) _ j _ rfl p4.out ⟨wr.heap.size, 0, none⟩ 1 1 [.int .i64 3, .int .i64 0, .string ⟨#[]⟩, .slice none 0 0] rfl rfl (blk_news p2.out _ rfl) (fun u hu => by (simp only [List.mem_cons, List.not_mem_nil, or_false] at hu; rcases hu with rfl | rfl | rfl | rfl <;> rfl)) (by unfold maxLen; omega) (by omega) (by omega) ?_; intro v9 w9 hown9 hg9 _ hblk9; have r0 := blk_grown p0.out hg9 (fun e => by have := (p4.out.lt cb e.symm).1; omega); have r1 := blk_grown_own p4.out hg9 p1.out (by decide); have g0 : w9.cell? ⟨cb, 3, none⟩ = some (.slice Xl j cl) := (blk_cell r0 3).trans rfl; have g1 := blk_frozen r0 3; have g2 := blk_lt r0; have r3 := p3.out.grown hg9 (by have := p3.out.size; omega) (fun q hq => by have := (p4.out.lt q hq).1; omega); have r5 := p5.out.kept hg9 (own_disj p5.out p4.out (by decide)); obtain ⟨X9, c9, rfl⟩ := own_form hown9; have R0 := Lib.hid r0; have R1 := Lib.hid r1; have R3 := Lib.hid r3; have R4 := Lib.hid hown9; have R5 := Lib.hid r5; clear r0 r1 r3 r5 hown9 hg9 hblk9)
          go_wp2
          go_round
          case rel => exact ⟨j + 1, .slice X9 (j + 1) c9, by go_num, by have := HKN.out; omega, (blk_set R0.out 3 _).trans (by simp), by rw [ckC_snoc]; exact own_set R4.out (fun e => by have := (R4.out.lt cb e.symm).1; omega) _, c_set_at R1.out (by omega), own_set R5.out (own_ne R5.out R0.out (by decide)) _, R3.out.setCell (by show w.heap.size ≤ cb; omega) _⟩
          case measure => simp [RowKit.intOf]; omega
        · have hjM' : j = M := by omega
          clear hjM
          subst hjM'
          have q1 : decide ((j : Int) < (j : Int)) = false := by simp
          have q2 : decide (j < j) = false := by simp
          clear hbx
          go_wp2
          go_loopw [14] (fun i wr => DRel fb cb k j D Xp cp w i wr) (fun i _ => D - (RowKit.intOf i).toNat)
          case atStart => exact ⟨0, .slice Xl j cl, rfl, Nat.zero_le _, HBX.out, HOL.out, HFX.out, HOP.out, HB.out⟩
          case round =>
            clear HBX HOL HFX HOP HB kb3 lbx
            obtain ⟨d, vl, rfl, hd, hbx, hnv, hfx, hop, hbel⟩ := hrel
            have HNV := Lib.hid hnv
            have HOP := Lib.hid hop
            have HB := Lib.hid hbel
            have HBX := Lib.hid hbx
            have HFX := Lib.hid hfx
            have lbx := blk_lt hbx
            have y0 : wr.cell? ⟨cb, 0, none⟩ = some (.int .i64 (oN d)) := (blk_cell hbx 0).trans rfl
            have y1 : wr.cell? ⟨cb, 1, none⟩ = some (.int .i64 0) := (blk_cell hbx 1).trans rfl
            have y2 : wr.cell? ⟨cb, 2, none⟩ = some (.string (sN d)) := (blk_cell hbx 2).trans rfl
            have y3 : wr.cell? ⟨cb, 3, none⟩ = some vl := (blk_cell hbx 3).trans rfl
            clear hnv hop hbel hfx hbx
            by_cases hdD : d < D
            · have q1 : decide ((d : Int) < (D : Int)) = true := by simp; omega
              have q2 : decide (d < D) = true := by simp; omega
              have HKN := Lib.hid hdD
              obtain ⟨wA, hwA⟩ : ∃ W, wr.alloc (exO (oN d) 0 (sN d) vl) = W := ⟨_, rfl⟩
              have p0 : Hid (wA.heap[cb]? = some (exO (oN d) 0 (sN d) vl)) := hid (by rw [← hwA]; exact blk_alloc HBX.out _)
              have p1 : Hid (wA.heap[fb]? = some (fnO ⟨#[102]⟩ (.slice Xp k cp) (.slice none 0 0))) := hid (by rw [← hwA]; exact blk_alloc HFX.out _)
              have p2 : Hid (wA.heap[wr.heap.size]? = some (exO (oN d) 0 (sN d) vl)) := hid (by rw [← hwA]; exact heap_alloc_new _ _)
              have p3 : Hid (Below w.heap.size w wA) := hid (by rw [← hwA]; exact HB.out.alloc HB.out.size _)
              have p4 : Hid (Nv wA (cb + 1) j d vl) := hid (by rw [← hwA]; exact HNV.out.alloc _)
              have p5 : Hid (wA.ownsRow (fb + 1) 9 1 (.slice Xp k cp) k ((psC k).map Value.string)) := hid (by rw [← hwA]; exact HOP.out.alloc _)
              have f0 := blk_frozen p0.out 0
              have f1 := blk_frozen p0.out 1
              have f2 := blk_frozen p0.out 2
              have f3 := blk_frozen p0.out 3
              have t0 : wA.cell? ⟨cb, 0, none⟩ = some (.int .i64 (oN d)) := (blk_cell p0.out 0).trans rfl
              have t1 : wA.cell? ⟨cb, 1, none⟩ = some (.int .i64 0) := (blk_cell p0.out 1).trans rfl
              have t2 : wA.cell? ⟨cb, 2, none⟩ = some (.string (sN d)) := (blk_cell p0.out 2).trans rfl
              have t3 : wA.cell? ⟨cb, 3, none⟩ = some (vl) := (blk_cell p0.out 3).trans rfl
              have lA := blk_lt p0.out
              have LBX := Lib.hid lbx
              clear lbx
              go_wp2
              go_round
              case rel =>
                have hne := own_ne p5.out p0.out (by decide)
                have hw : w.heap.size ≤ cb := by omega
                have hlt := LBX.out
                exact ⟨d + 1, .slice (some ⟨wr.heap.size, 0, none⟩) 1 1, by go_num, by have := HKN.out; omega, set4_same _ _ _ _ p0.out, ⟨wr.heap.size, vl, rfl, hlt, set4_other _ _ _ _ p2.out (by omega), ((((p4.out.setLow _ (Nat.lt_succ_self cb)).setLow _ (Nat.lt_succ_self cb)).setLow _ (Nat.lt_succ_self cb)).setLow _ (Nat.lt_succ_self cb))⟩, set4_other _ _ _ _ p1.out (by omega), own_set (own_set (own_set (own_set p5.out hne _) hne _) hne _) hne _, (((p3.out.setCell hw _).setCell hw _).setCell hw _).setCell hw _⟩
              case measure => simp [RowKit.intOf]; omega
            · have hdD' : d = D := by omega
              clear hdD
              subst hdD'
              have q1 : decide ((d : Int) < (d : Int)) = false := by simp
              have q2 : decide (d < d) = false := by simp
              obtain ⟨b1, hb1⟩ : ∃ b, wr.heap.size = b := ⟨_, rfl⟩
              go_upto_region 23 with fail
              obtain ⟨W3, hW3⟩ : ∃ W, (((wr.alloc (exO (oN d) 0 (sN d) vl)).alloc (stO6 b1)).alloc (fnO ⟨#[103]⟩ (.slice none 0 0) (.slice none 0 0))).alloc (pg2 (.slice none 0 0) (.slice none 0 0)) = W := ⟨_, rfl⟩
              have z0 : Hid (W3.heap[b1]? = some (exO (oN d) 0 (sN d) vl)) := hid (by rw [← hW3]; exact blk_alloc (blk_alloc (blk_alloc (blk_new hb1) _) _) _)
              have z1 : Hid (W3.heap[b1 + 1]? = some (stO6 b1)) := hid (by rw [← hW3]; exact blk_alloc (blk_alloc (blk_new (by simp [hb1])) _) _)
              have z2 : Hid (W3.heap[b1 + 1 + 1]? = some (fnO ⟨#[103]⟩ (.slice none 0 0) (.slice none 0 0))) := hid (by rw [← hW3]; exact blk_alloc (blk_new (by simp [hb1])) _)
              have z3 : Hid (W3.heap[b1 + 1 + 1 + 1]? = some (pg2 (.slice none 0 0) (.slice none 0 0))) := hid (by rw [← hW3]; exact blk_new (by simp [hb1]))
              have z4 : Hid (W3.heap[fb]? = some (fnO ⟨#[102]⟩ (.slice Xp k cp) (.slice none 0 0))) := hid (by rw [← hW3]; exact blk_alloc (blk_alloc (blk_alloc (blk_alloc HFX.out _) _) _) _)
              have z5 : Hid (Nv W3 (cb + 1) j d vl) := hid (by rw [← hW3]; exact (((HNV.out.alloc _).alloc _).alloc _).alloc _)
              have z6 : Hid (W3.ownsRow (fb + 1) 9 1 (.slice Xp k cp) k ((psC k).map Value.string)) := hid (by rw [← hW3]; exact (((HOP.out.alloc _).alloc _).alloc _).alloc _)
              have hwz := HB.out.size
              have z7 : Hid (Below w.heap.size w W3) := hid (by rw [← hW3]; exact (((HB.out.alloc hwz _).alloc (by simp; omega) _).alloc (by simp; omega) _).alloc (by simp; omega) _)
              have hlo : cb < b1 := by rw [← hb1]; exact lbx
              rw [hW3]
              clear hW3 HNV HOP HB HBX HFX y0 y1 y2 y3 hb1 lbx hwz
              obtain rfl | rfl | rfl : fr = 0 ∨ fr = 1 ∨ fr = 2 := by omega
              · have t0 : W3.cell? ⟨b1 + 1 + 1 + 1, 1, none⟩ = some (.slice none 0 0) := (blk_cell z3.out 1).trans rfl
                have t1 := blk_frozen z3.out 1
                have t2 := blk_lt z3.out
                go_upto_region 30 with fail
                obtain ⟨W4, hW4⟩ : ∃ W, W3.setCell ⟨b1 + 1 + 1 + 1, 1, none⟩ (.slice (some ⟨b1 + 1, 0, none⟩) 1 1) = W := ⟨_, rfl⟩
                have x0 : W4.heap[b1]? = some (exO (oN d) 0 (sN d) vl) := by rw [← hW4]; exact c_set_at z0.out (by omega)
                have x1 : W4.heap[b1 + 1]? = some (stO6 b1) := by rw [← hW4]; exact c_set_at z1.out (by omega)
                have x2 : W4.heap[b1 + 1 + 1]? = some (fnO ⟨#[103]⟩ (.slice none 0 0) (.slice none 0 0)) := by rw [← hW4]; exact c_set_at z2.out (by omega)
                have x3 : W4.heap[b1 + 1 + 1 + 1]? = some (pg2 (.slice none 0 0) (.slice (some ⟨b1 + 1, 0, none⟩) 1 1)) := by rw [← hW4]; exact (blk_set z3.out 1 _).trans (by simp)
                have x4 : W4.heap[fb]? = some (fnO ⟨#[102]⟩ (.slice Xp k cp) (.slice none 0 0)) := by rw [← hW4]; exact c_set_at z4.out (by omega)
                have x5 : Nv W4 (cb + 1) j d vl := by rw [← hW4]; exact z5.out.setOf _ z3.out (by decide)
                have x6 : W4.ownsRow (fb + 1) 9 1 (.slice Xp k cp) k ((psC k).map Value.string) := by rw [← hW4]; exact own_set z6.out (own_ne z6.out z3.out (by decide)) _
                have x7 : Below w.heap.size w W4 := by rw [← hW4]; exact z7.out.setCell (by show w.heap.size ≤ b1 + 1 + 1 + 1; omega) _
                rw [hW4]
                clear hW4 t0 t1 t2
                have g0 : W4.cell? ⟨b1 + 1 + 1, 0, none⟩ = some (.string ⟨#[103]⟩) := (blk_cell x2 0).trans rfl
                have g1 : W4.cell? ⟨b1 + 1 + 1, 1, none⟩ = some (.slice none 0 0) := (blk_cell x2 1).trans rfl
                have g2 : W4.cell? ⟨b1 + 1 + 1, 2, none⟩ = some (.slice none 0 0) := (blk_cell x2 2).trans rfl
                have g3 : W4.cell? ⟨fb, 0, none⟩ = some (.string ⟨#[102]⟩) := (blk_cell x4 0).trans rfl
                have g4 : W4.cell? ⟨fb, 1, none⟩ = some (.slice Xp k cp) := (blk_cell x4 1).trans rfl
                have g5 : W4.cell? ⟨fb, 2, none⟩ = some (.slice none 0 0) := (blk_cell x4 2).trans rfl
                have l1 := blk_lt x2
                have l2 := blk_lt x4
                have l3 := blk_lt x3
                obtain ⟨W5, hW5⟩ : ∃ W, W4.alloc (fs2 (.slice none 0 0) (.slice Xp k cp) (.slice none 0 0)) = W := ⟨_, rfl⟩
                have hS : CSt fb cb b1 k j d cp Xp vl w W5 (.slice (some ⟨b1 + 1, 0, none⟩) 1 1) := by rw [← hW5]; exact ⟨blk_alloc x0 _, blk_alloc x1 _, blk_alloc x3 _, x5.alloc _, x6.alloc _, x7.alloc x7.size _⟩
                have hF : W5.heap[W4.heap.size]? = some (fs2 (.slice none 0 0) (.slice Xp k cp) (.slice none 0 0)) := by rw [← hW5]; exact heap_alloc_new _ _
                have k0 : W5.cell? ⟨b1 + 1 + 1 + 1, 0, none⟩ = some (.slice none 0 0) := (blk_cell hS.p 0).trans rfl
                have k1 := blk_frozen hS.p 0
                have k2 := blk_lt hS.p
                have XS := Lib.hid hS
                have XF := Lib.hid hF
                have X3 := Lib.hid l3
                have X7 := Lib.hid x7
                clear x0 x1 x2 x3 x4 x5 x6 x7 hS hF l3
                go_upto_region 31 with fail
                obtain ⟨W6, hW6⟩ : ∃ W, W5.setCell ⟨b1 + 1 + 1 + 1, 0, none⟩ (.slice (some ⟨W4.heap.size, 0, none⟩) 2 2) = W := ⟨_, rfl⟩
                have hP : W6.heap[b1 + 1 + 1 + 1]? = some (pg2 (.slice (some ⟨W4.heap.size, 0, none⟩) 2 2) (.slice (some ⟨b1 + 1, 0, none⟩) 1 1)) := by rw [← hW6]; exact (blk_set XS.out.p 0 _).trans (by simp)
                have hF6 : W6.heap[W4.heap.size]? = some (fs2 (.slice none 0 0) (.slice Xp k cp) (.slice none 0 0)) := by rw [← hW6]; exact c_set_at XF.out (by have := X3.out; omega)
                have y0 : W6.heap[b1]? = some (exO (oN d) 0 (sN d) vl) := by rw [← hW6]; exact c_set_at XS.out.c (by omega)
                have y1 : W6.heap[b1 + 1]? = some (stO6 b1) := by rw [← hW6]; exact c_set_at XS.out.s (by omega)
                have y5 : Nv W6 (cb + 1) j d vl := by rw [← hW6]; exact XS.out.v.setOf _ XS.out.p (by decide)
                have y6 : W6.ownsRow (fb + 1) 9 1 (.slice Xp k cp) k ((psC k).map Value.string) := by rw [← hW6]; exact own_set XS.out.o (own_ne XS.out.o XS.out.p (by decide)) _
                have y7 : Below w.heap.size w W6 := by rw [← hW6]; exact XS.out.b.setCell (by show w.heap.size ≤ b1 + 1 + 1 + 1; omega) _
                rw [hW6]
                clear hW6 k0 k1 k2 g0 g1 g2 g3 g4 g5
                have hbd := body_sv y0 y1 y5 (by omega)
                have hR := resolve_p _ (pgC k j 0 d) W6 (c_pg (n := k) (m := j) (fr := 0) (d := d) hF6 y6 (sv_nought _ _) (sv_nought _ _) hbd) (HT.out.below y7 HT.out.1) (okC_use OK.out).1
                have m0 : W6.cell? ⟨b1 + 1 + 1 + 1, 0, none⟩ = some (.slice (some ⟨W4.heap.size, 0, none⟩) 2 2) := (blk_cell hP 0).trans rfl
                have m1 : W6.cell? ⟨b1 + 1 + 1 + 1, 1, none⟩ = some (.slice (some ⟨b1 + 1, 0, none⟩) 1 1) := (blk_cell hP 1).trans rfl
                have m2 := blk_lt hP
                have Y7 := Lib.hid y7
                clear hP hF6 y0 y1 y5 y6 y7 hbd
                by_cases hkj : k = j
                · subst hkj
                  obtain ⟨pe, a, b, c, pr, cn, cv, cf⟩ := (okC_use OK.out).2.1 rfl
                  rw [pe, pr] at hR
                  have HR := Lib.hid hR
                  have CF := Lib.hid cf
                  have CN := Lib.hid cn
                  have CV := Lib.hid cv
                  have q : ((k : Int) != (k : Int)) = false := by simp
                  clear hR pe pr cn cv cf
                  go_wp2_with (first
                    | (go_at_call 11; ((with_reducible refine HR.out.mono ?_); rintro e w7 ⟨v7, rfl, h7, hb7⟩; obtain ⟨b7, o7, k7, rfl, hl7, _, _, _, _, _, _, _, _, _, _, _, pc1, ⟨vc, pc2, hvc⟩, _⟩ := RowV.get (n := 2) h7; obtain ⟨Ac, cc, rfl, -⟩ := hvc; rw [CN.out] at pc1; rw [CV.out] at pc2; have H7 : Hid (RowV (SpsIn w7.heap.size w7 [a, b, c]) w7.heap.size 3 (.slice (some ⟨b7, o7, none⟩) 3 k7)) := Lib.hid h7; have HB7 := Lib.hid hb7; have pd1 : w7.cell? ⟨b7, o7 + 8 + 1, none⟩ = some (.int .i64 (k : Int)) := pc1; have pd2 : w7.cell? ⟨b7, o7 + 8 + 2, none⟩ = some (.slice Ac k cc) := pc2; clear h7 hb7 pc1 pc2))
                    | (go_at_call 15; ((with_reducible refine (find_lit (some ⟨b7, o7, none⟩) k7 3 [a, b, c] ⟨#[102]⟩ 2 CF.out w7.heap.size w7 w7 (Below.refl _ _) (Nat.le_refl _) H7.out rfl).mono ?_); rintro e w8 ⟨rfl, hb8⟩)))
                  go_ret
                  exact ⟨rfl, Y7.out.trans ((HB7.out.mono Y7.out.size).trans (hb8.mono (Nat.le_trans Y7.out.size HB7.out.size)))⟩
                · obtain ⟨pe, pr⟩ := (okC_use OK.out).2.2 hkj
                  rw [pe, pr] at hR
                  have HR := Lib.hid hR
                  have q : ((k : Int) != (j : Int)) = true := by simp; omega
                  clear hR pe pr
                  go_wp2_with (go_at_call 11; ((with_reducible refine HR.out.mono ?_); rintro e w7 ⟨v7, rfl, h7, hb7⟩; obtain ⟨A7, c7, rfl, -⟩ := h7))
                  go_ret
                  exact ⟨rfl, Y7.out.trans (hb7.mono Y7.out.size)⟩
              · have t0 : W3.cell? ⟨fb, 2, none⟩ = some (.slice none 0 0) := (blk_cell z4.out 2).trans rfl
                have t1 := blk_frozen z4.out 2
                have t2 := blk_lt z4.out
                go_upto_region 30 with fail
                obtain ⟨W4, hW4⟩ : ∃ W, W3.setCell ⟨fb, 2, none⟩ (.slice (some ⟨b1 + 1, 0, none⟩) 1 1) = W := ⟨_, rfl⟩
                have x0 : W4.heap[b1]? = some (exO (oN d) 0 (sN d) vl) := by rw [← hW4]; exact c_set_at z0.out (by omega)
                have x1 : W4.heap[b1 + 1]? = some (stO6 b1) := by rw [← hW4]; exact c_set_at z1.out (by omega)
                have x2 : W4.heap[b1 + 1 + 1]? = some (fnO ⟨#[103]⟩ (.slice none 0 0) (.slice none 0 0)) := by rw [← hW4]; exact c_set_at z2.out (by omega)
                have x3 : W4.heap[b1 + 1 + 1 + 1]? = some (pg2 (.slice none 0 0) (.slice none 0 0)) := by rw [← hW4]; exact c_set_at z3.out (by omega)
                have x4 : W4.heap[fb]? = some (fnO ⟨#[102]⟩ (.slice Xp k cp) (.slice (some ⟨b1 + 1, 0, none⟩) 1 1)) := by rw [← hW4]; exact (blk_set z4.out 2 _).trans (by simp)
                have x5 : Nv W4 (cb + 1) j d vl := by rw [← hW4]; exact z5.out.setOf _ z4.out (by decide)
                have x6 : W4.ownsRow (fb + 1) 9 1 (.slice Xp k cp) k ((psC k).map Value.string) := by rw [← hW4]; exact own_set z6.out (own_ne z6.out z4.out (by decide)) _
                have x7 : Below w.heap.size w W4 := by rw [← hW4]; exact z7.out.setCell (by show w.heap.size ≤ fb; omega) _
                rw [hW4]
                clear hW4 t0 t1 t2
                have g0 : W4.cell? ⟨b1 + 1 + 1, 0, none⟩ = some (.string ⟨#[103]⟩) := (blk_cell x2 0).trans rfl
                have g1 : W4.cell? ⟨b1 + 1 + 1, 1, none⟩ = some (.slice none 0 0) := (blk_cell x2 1).trans rfl
                have g2 : W4.cell? ⟨b1 + 1 + 1, 2, none⟩ = some (.slice none 0 0) := (blk_cell x2 2).trans rfl
                have g3 : W4.cell? ⟨fb, 0, none⟩ = some (.string ⟨#[102]⟩) := (blk_cell x4 0).trans rfl
                have g4 : W4.cell? ⟨fb, 1, none⟩ = some (.slice Xp k cp) := (blk_cell x4 1).trans rfl
                have g5 : W4.cell? ⟨fb, 2, none⟩ = some (.slice (some ⟨b1 + 1, 0, none⟩) 1 1) := (blk_cell x4 2).trans rfl
                have l1 := blk_lt x2
                have l2 := blk_lt x4
                have l3 := blk_lt x3
                obtain ⟨W5, hW5⟩ : ∃ W, W4.alloc (fs2 (.slice none 0 0) (.slice Xp k cp) (.slice (some ⟨b1 + 1, 0, none⟩) 1 1)) = W := ⟨_, rfl⟩
                have hS : CSt fb cb b1 k j d cp Xp vl w W5 (.slice none 0 0) := by rw [← hW5]; exact ⟨blk_alloc x0 _, blk_alloc x1 _, blk_alloc x3 _, x5.alloc _, x6.alloc _, x7.alloc x7.size _⟩
                have hF : W5.heap[W4.heap.size]? = some (fs2 (.slice none 0 0) (.slice Xp k cp) (.slice (some ⟨b1 + 1, 0, none⟩) 1 1)) := by rw [← hW5]; exact heap_alloc_new _ _
                have k0 : W5.cell? ⟨b1 + 1 + 1 + 1, 0, none⟩ = some (.slice none 0 0) := (blk_cell hS.p 0).trans rfl
                have k1 := blk_frozen hS.p 0
                have k2 := blk_lt hS.p
                have XS := Lib.hid hS
                have XF := Lib.hid hF
                have X3 := Lib.hid l3
                have X7 := Lib.hid x7
                clear x0 x1 x2 x3 x4 x5 x6 x7 hS hF l3
                go_upto_region 31 with fail
                obtain ⟨W6, hW6⟩ : ∃ W, W5.setCell ⟨b1 + 1 + 1 + 1, 0, none⟩ (.slice (some ⟨W4.heap.size, 0, none⟩) 2 2) = W := ⟨_, rfl⟩
                have hP : W6.heap[b1 + 1 + 1 + 1]? = some (pg2 (.slice (some ⟨W4.heap.size, 0, none⟩) 2 2) (.slice none 0 0)) := by rw [← hW6]; exact (blk_set XS.out.p 0 _).trans (by simp)
                have hF6 : W6.heap[W4.heap.size]? = some (fs2 (.slice none 0 0) (.slice Xp k cp) (.slice (some ⟨b1 + 1, 0, none⟩) 1 1)) := by rw [← hW6]; exact c_set_at XF.out (by have := X3.out; omega)
                have y0 : W6.heap[b1]? = some (exO (oN d) 0 (sN d) vl) := by rw [← hW6]; exact c_set_at XS.out.c (by omega)
                have y1 : W6.heap[b1 + 1]? = some (stO6 b1) := by rw [← hW6]; exact c_set_at XS.out.s (by omega)
                have y5 : Nv W6 (cb + 1) j d vl := by rw [← hW6]; exact XS.out.v.setOf _ XS.out.p (by decide)
                have y6 : W6.ownsRow (fb + 1) 9 1 (.slice Xp k cp) k ((psC k).map Value.string) := by rw [← hW6]; exact own_set XS.out.o (own_ne XS.out.o XS.out.p (by decide)) _
                have y7 : Below w.heap.size w W6 := by rw [← hW6]; exact XS.out.b.setCell (by show w.heap.size ≤ b1 + 1 + 1 + 1; omega) _
                rw [hW6]
                clear hW6 k0 k1 k2 g0 g1 g2 g3 g4 g5
                have hbd := body_sv y0 y1 y5 (by omega)
                have hR := resolve_p _ (pgC k j 1 d) W6 (c_pg (n := k) (m := j) (fr := 1) (d := d) hF6 y6 (sv_nought _ _) hbd (sv_nought _ _)) (HT.out.below y7 HT.out.1) (okC_use OK.out).1
                have m0 : W6.cell? ⟨b1 + 1 + 1 + 1, 0, none⟩ = some (.slice (some ⟨W4.heap.size, 0, none⟩) 2 2) := (blk_cell hP 0).trans rfl
                have m1 : W6.cell? ⟨b1 + 1 + 1 + 1, 1, none⟩ = some (.slice none 0 0) := (blk_cell hP 1).trans rfl
                have m2 := blk_lt hP
                have Y7 := Lib.hid y7
                clear hP hF6 y0 y1 y5 y6 y7 hbd
                by_cases hkj : k = j
                · subst hkj
                  obtain ⟨pe, a, b, c, pr, cn, cv, cf⟩ := (okC_use OK.out).2.1 rfl
                  rw [pe, pr] at hR
                  have HR := Lib.hid hR
                  have CF := Lib.hid cf
                  have CN := Lib.hid cn
                  have CV := Lib.hid cv
                  have q : ((k : Int) != (k : Int)) = false := by simp
                  clear hR pe pr cn cv cf
                  go_wp2_with (first
                    | (go_at_call 11; ((with_reducible refine HR.out.mono ?_); rintro e w7 ⟨v7, rfl, h7, hb7⟩; obtain ⟨b7, o7, k7, rfl, hl7, _, _, _, _, _, _, _, _, _, _, _, pc1, ⟨vc, pc2, hvc⟩, _⟩ := RowV.get (n := 2) h7; obtain ⟨Ac, cc, rfl, -⟩ := hvc; rw [CN.out] at pc1; rw [CV.out] at pc2; have H7 : Hid (RowV (SpsIn w7.heap.size w7 [a, b, c]) w7.heap.size 3 (.slice (some ⟨b7, o7, none⟩) 3 k7)) := Lib.hid h7; have HB7 := Lib.hid hb7; have pd1 : w7.cell? ⟨b7, o7 + 8 + 1, none⟩ = some (.int .i64 (k : Int)) := pc1; have pd2 : w7.cell? ⟨b7, o7 + 8 + 2, none⟩ = some (.slice Ac k cc) := pc2; clear h7 hb7 pc1 pc2))
                    | (go_at_call 15; ((with_reducible refine (find_lit (some ⟨b7, o7, none⟩) k7 3 [a, b, c] ⟨#[102]⟩ 2 CF.out w7.heap.size w7 w7 (Below.refl _ _) (Nat.le_refl _) H7.out rfl).mono ?_); rintro e w8 ⟨rfl, hb8⟩)))
                  go_ret
                  exact ⟨rfl, Y7.out.trans ((HB7.out.mono Y7.out.size).trans (hb8.mono (Nat.le_trans Y7.out.size HB7.out.size)))⟩
                · obtain ⟨pe, pr⟩ := (okC_use OK.out).2.2 hkj
                  rw [pe, pr] at hR
                  have HR := Lib.hid hR
                  have q : ((k : Int) != (j : Int)) = true := by simp; omega
                  clear hR pe pr
                  go_wp2_with (go_at_call 11; ((with_reducible refine HR.out.mono ?_); rintro e w7 ⟨v7, rfl, h7, hb7⟩; obtain ⟨A7, c7, rfl, -⟩ := h7))
                  go_ret
                  exact ⟨rfl, Y7.out.trans (hb7.mono Y7.out.size)⟩
              · have t0 : W3.cell? ⟨b1 + 1 + 1, 2, none⟩ = some (.slice none 0 0) := (blk_cell z2.out 2).trans rfl
                have t1 := blk_frozen z2.out 2
                have t2 := blk_lt z2.out
                go_upto_region 30 with fail
                obtain ⟨W4, hW4⟩ : ∃ W, W3.setCell ⟨b1 + 1 + 1, 2, none⟩ (.slice (some ⟨b1 + 1, 0, none⟩) 1 1) = W := ⟨_, rfl⟩
                have x0 : W4.heap[b1]? = some (exO (oN d) 0 (sN d) vl) := by rw [← hW4]; exact c_set_at z0.out (by omega)
                have x1 : W4.heap[b1 + 1]? = some (stO6 b1) := by rw [← hW4]; exact c_set_at z1.out (by omega)
                have x2 : W4.heap[b1 + 1 + 1]? = some (fnO ⟨#[103]⟩ (.slice none 0 0) (.slice (some ⟨b1 + 1, 0, none⟩) 1 1)) := by rw [← hW4]; exact (blk_set z2.out 2 _).trans (by simp)
                have x3 : W4.heap[b1 + 1 + 1 + 1]? = some (pg2 (.slice none 0 0) (.slice none 0 0)) := by rw [← hW4]; exact c_set_at z3.out (by omega)
                have x4 : W4.heap[fb]? = some (fnO ⟨#[102]⟩ (.slice Xp k cp) (.slice none 0 0)) := by rw [← hW4]; exact c_set_at z4.out (by omega)
                have x5 : Nv W4 (cb + 1) j d vl := by rw [← hW4]; exact z5.out.setOf _ z2.out (by decide)
                have x6 : W4.ownsRow (fb + 1) 9 1 (.slice Xp k cp) k ((psC k).map Value.string) := by rw [← hW4]; exact own_set z6.out (own_ne z6.out z2.out (by decide)) _
                have x7 : Below w.heap.size w W4 := by rw [← hW4]; exact z7.out.setCell (by show w.heap.size ≤ b1 + 1 + 1; omega) _
                rw [hW4]
                clear hW4 t0 t1 t2
                have g0 : W4.cell? ⟨b1 + 1 + 1, 0, none⟩ = some (.string ⟨#[103]⟩) := (blk_cell x2 0).trans rfl
                have g1 : W4.cell? ⟨b1 + 1 + 1, 1, none⟩ = some (.slice none 0 0) := (blk_cell x2 1).trans rfl
                have g2 : W4.cell? ⟨b1 + 1 + 1, 2, none⟩ = some (.slice (some ⟨b1 + 1, 0, none⟩) 1 1) := (blk_cell x2 2).trans rfl
                have g3 : W4.cell? ⟨fb, 0, none⟩ = some (.string ⟨#[102]⟩) := (blk_cell x4 0).trans rfl
                have g4 : W4.cell? ⟨fb, 1, none⟩ = some (.slice Xp k cp) := (blk_cell x4 1).trans rfl
                have g5 : W4.cell? ⟨fb, 2, none⟩ = some (.slice none 0 0) := (blk_cell x4 2).trans rfl
                have l1 := blk_lt x2
                have l2 := blk_lt x4
                have l3 := blk_lt x3
                obtain ⟨W5, hW5⟩ : ∃ W, W4.alloc (fs2 (.slice (some ⟨b1 + 1, 0, none⟩) 1 1) (.slice Xp k cp) (.slice none 0 0)) = W := ⟨_, rfl⟩
                have hS : CSt fb cb b1 k j d cp Xp vl w W5 (.slice none 0 0) := by rw [← hW5]; exact ⟨blk_alloc x0 _, blk_alloc x1 _, blk_alloc x3 _, x5.alloc _, x6.alloc _, x7.alloc x7.size _⟩
                have hF : W5.heap[W4.heap.size]? = some (fs2 (.slice (some ⟨b1 + 1, 0, none⟩) 1 1) (.slice Xp k cp) (.slice none 0 0)) := by rw [← hW5]; exact heap_alloc_new _ _
                have k0 : W5.cell? ⟨b1 + 1 + 1 + 1, 0, none⟩ = some (.slice none 0 0) := (blk_cell hS.p 0).trans rfl
                have k1 := blk_frozen hS.p 0
                have k2 := blk_lt hS.p
                have XS := Lib.hid hS
                have XF := Lib.hid hF
                have X3 := Lib.hid l3
                have X7 := Lib.hid x7
                clear x0 x1 x2 x3 x4 x5 x6 x7 hS hF l3
                go_upto_region 31 with fail
                obtain ⟨W6, hW6⟩ : ∃ W, W5.setCell ⟨b1 + 1 + 1 + 1, 0, none⟩ (.slice (some ⟨W4.heap.size, 0, none⟩) 2 2) = W := ⟨_, rfl⟩
                have hP : W6.heap[b1 + 1 + 1 + 1]? = some (pg2 (.slice (some ⟨W4.heap.size, 0, none⟩) 2 2) (.slice none 0 0)) := by rw [← hW6]; exact (blk_set XS.out.p 0 _).trans (by simp)
                have hF6 : W6.heap[W4.heap.size]? = some (fs2 (.slice (some ⟨b1 + 1, 0, none⟩) 1 1) (.slice Xp k cp) (.slice none 0 0)) := by rw [← hW6]; exact c_set_at XF.out (by have := X3.out; omega)
                have y0 : W6.heap[b1]? = some (exO (oN d) 0 (sN d) vl) := by rw [← hW6]; exact c_set_at XS.out.c (by omega)
                have y1 : W6.heap[b1 + 1]? = some (stO6 b1) := by rw [← hW6]; exact c_set_at XS.out.s (by omega)
                have y5 : Nv W6 (cb + 1) j d vl := by rw [← hW6]; exact XS.out.v.setOf _ XS.out.p (by decide)
                have y6 : W6.ownsRow (fb + 1) 9 1 (.slice Xp k cp) k ((psC k).map Value.string) := by rw [← hW6]; exact own_set XS.out.o (own_ne XS.out.o XS.out.p (by decide)) _
                have y7 : Below w.heap.size w W6 := by rw [← hW6]; exact XS.out.b.setCell (by show w.heap.size ≤ b1 + 1 + 1 + 1; omega) _
                rw [hW6]
                clear hW6 k0 k1 k2 g0 g1 g2 g3 g4 g5
                have hbd := body_sv y0 y1 y5 (by omega)
                have hR := resolve_p _ (pgC k j 2 d) W6 (c_pg (n := k) (m := j) (fr := 2) (d := d) hF6 y6 hbd (sv_nought _ _) (sv_nought _ _)) (HT.out.below y7 HT.out.1) (okC_use OK.out).1
                have m0 : W6.cell? ⟨b1 + 1 + 1 + 1, 0, none⟩ = some (.slice (some ⟨W4.heap.size, 0, none⟩) 2 2) := (blk_cell hP 0).trans rfl
                have m1 : W6.cell? ⟨b1 + 1 + 1 + 1, 1, none⟩ = some (.slice none 0 0) := (blk_cell hP 1).trans rfl
                have m2 := blk_lt hP
                have Y7 := Lib.hid y7
                clear hP hF6 y0 y1 y5 y6 y7 hbd
                by_cases hkj : k = j
                · subst hkj
                  obtain ⟨pe, a, b, c, pr, cn, cv, cf⟩ := (okC_use OK.out).2.1 rfl
                  rw [pe, pr] at hR
                  have HR := Lib.hid hR
                  have CF := Lib.hid cf
                  have CN := Lib.hid cn
                  have CV := Lib.hid cv
                  have q : ((k : Int) != (k : Int)) = false := by simp
                  clear hR pe pr cn cv cf
                  go_wp2_with (first
                    | (go_at_call 11; ((with_reducible refine HR.out.mono ?_); rintro e w7 ⟨v7, rfl, h7, hb7⟩; obtain ⟨b7, o7, k7, rfl, hl7, _, _, _, _, _, _, _, _, _, _, _, pc1, ⟨vc, pc2, hvc⟩, _⟩ := RowV.get (n := 2) h7; obtain ⟨Ac, cc, rfl, -⟩ := hvc; rw [CN.out] at pc1; rw [CV.out] at pc2; have H7 : Hid (RowV (SpsIn w7.heap.size w7 [a, b, c]) w7.heap.size 3 (.slice (some ⟨b7, o7, none⟩) 3 k7)) := Lib.hid h7; have HB7 := Lib.hid hb7; have pd1 : w7.cell? ⟨b7, o7 + 8 + 1, none⟩ = some (.int .i64 (k : Int)) := pc1; have pd2 : w7.cell? ⟨b7, o7 + 8 + 2, none⟩ = some (.slice Ac k cc) := pc2; clear h7 hb7 pc1 pc2))
                    | (go_at_call 15; ((with_reducible refine (find_lit (some ⟨b7, o7, none⟩) k7 3 [a, b, c] ⟨#[102]⟩ 2 CF.out w7.heap.size w7 w7 (Below.refl _ _) (Nat.le_refl _) H7.out rfl).mono ?_); rintro e w8 ⟨rfl, hb8⟩)))
                  go_ret
                  exact ⟨rfl, Y7.out.trans ((HB7.out.mono Y7.out.size).trans (hb8.mono (Nat.le_trans Y7.out.size HB7.out.size)))⟩
                · obtain ⟨pe, pr⟩ := (okC_use OK.out).2.2 hkj
                  rw [pe, pr] at hR
                  have HR := Lib.hid hR
                  have q : ((k : Int) != (j : Int)) = true := by simp; omega
                  clear hR pe pr
                  go_wp2_with (go_at_call 11; ((with_reducible refine HR.out.mono ?_); rintro e w7 ⟨v7, rfl, h7, hb7⟩; obtain ⟨A7, c7, rfl, -⟩ := h7))
                  go_ret
                  exact ⟨rfl, Y7.out.trans (hb7.mono Y7.out.size)⟩
end Go.Proofs.YtmhngbfpldiinaaDoor
