/-
  ScopeApart's walk: what a function's names are does not hang on other bodies.
-/
import Derived.Test.YtaajolemjgdfnaaDoorSqV
import Derived.Deep.RegionHeld3
namespace Go.Proofs.YtaajolemjgdfnaaDoor
open Go Go.RowKit Go.Lib

/-- A scope's cells. -/
theorem sps_get {B : Nat} {W : World} : ∀ (l : List Sp) (b o : Nat), SpsIn B W l b o → ∀ i s, l[i]? = some s → W.cell? ⟨b, o + i * 4, none⟩ = some (.string s.s) ∧ W.cell? ⟨b, o + i * 4 + 1, none⟩ = some (.int .i64 s.n) ∧ (∃ v, W.cell? ⟨b, o + i * 4 + 2, none⟩ = some v ∧ RowV (PsIn W s.vs) B s.vs.length v) ∧ (∃ v, W.cell? ⟨b, o + i * 4 + 3, none⟩ = some v ∧ RowV (PsIn W s.xs) B s.xs.length v) ∧ s.s.size ≤ 9223372036854775807
  | [], _, _, _, _, _, h => by simp at h
  | x :: r, b, o, hp, i, s, h => by
    obtain ⟨h0, h1, h2, h3, h4, h5⟩ := hp
    cases i with
    | zero =>
      simp at h
      subst h
      rw [Nat.zero_mul]
      exact ⟨h0, h1, h2, h3, h4⟩
    | succ i =>
      have := sps_get r b (o + 4) h5 i s (by simpa using h)
      rw [show o + 4 + i * 4 = o + (i + 1) * 4 by omega] at this
      exact this
theorem fsCells.bare {B : Nat} {W : World} : ∀ {l : List Fn} {cs : List Value} {j : Nat} {f : Fn}, fsCells B W l cs → l[j]? = some f → fsCells B W (l.set j (bareF f)) (cs.set (j * 3 + 2) (.slice none 0 0))
  | [], _, _, _, _, h => by simp at h
  | g :: r, _, 0, f, ⟨vp, vb, rest, e, h1, h2, h3, hr⟩, hf => by
    simp at hf
    subst hf e
    exact ⟨vp, .slice none 0 0, rest, rfl, h1, sv_nought _ _, h3, hr⟩
  | g :: r, _, j + 1, f, ⟨vp, vb, rest, e, h1, h2, h3, hr⟩, hf => by
    subst e
    refine ⟨vp, vb, rest.set (j * 3 + 2) (.slice none 0 0), ?_, h1, h2, h3, fsCells.bare hr (by simpa using hf)⟩
    rw [show (j + 1) * 3 + 2 = j * 3 + 2 + 1 + 1 + 1 by omega]
    rfl
theorem Like.cnt {l l' : List Fn} (h : Like l l') : cntL (fsPts l') ≤ cntL (fsPts l) := by
  induction h with
  | nil => exact Nat.le_refl _
  | same f _ ih => rw [fsPts, fsPts, cntL_append, cntL_append]; omega
  | bare f _ ih =>
    rw [fsPts, fsPts, cntL_append, cntL_append]
    have e : cntL (bareF f).b.pts = 0 := rfl
    omega
theorem lt_of_cellX {W : World} {a : Addr} {v : Value} (h : W.cell? a = some v) : a.block < W.heap.size := by
  rcases Nat.lt_or_ge a.block W.heap.size with h' | h'
  · exact h'
  · simp [World.cell?, Array.getElem?_eq_none h'] at h
theorem funcInfo6 : (Tryd.prog.info? 37).map (fun i => (i.zero, i.size, i.bytes)) = some (some (.agg #[.string ⟨#[]⟩, .slice none 0 0, .slice none 0 0]), 3, 64) := by kernel_rfl
theorem right_few {p : Pg} (h : rightN p = 0) : p.fs.length ≤ 32 := by
  unfold rightN at h
  by_cases hc : (funcsB p.fs && okL p.pts) = true
  · rw [Bool.and_eq_true] at hc
    have h1 := hc.1
    unfold funcsB at h1
    rw [Bool.and_eq_true] at h1
    exact of_decide_eq_true h1.1
  · rw [if_neg hc] at h
    cases h
def cutC (cs : List Value) : Nat → List Value
  | 0 => cs
  | j + 1 => cs.set (j * 3 + 2) (.slice none 0 0)
def cutV (v : Value) : Nat → Value
  | 0 => .slice none 0 0
  | _ + 1 => v
theorem cut_cells {B : Nat} {W : World} {p : Pg} {cs : List Value} (h : fsCells B W p.fs cs) : ∀ {i : Nat}, i ≤ p.fs.length → fsCells B W (cutP p i).fs (cutC cs i)
  | 0, _ => h
  | j + 1, hi => fsCells.bare h (by rw [List.getD_eq_getElem?_getD, List.getElem?_eq_getElem (by omega)]; rfl)
theorem cut_pg {B : Nat} {W : World} {p : Pg} {X A' : Option Addr} {n c m cap' : Nat} : ∀ {i : Nat}, FV B W (.slice X n c) (cutP p i).fs → n = (cutP p i).fs.length → SV B W (.slice A' m cap') p.m → m = p.m.len → PgV B W (.agg #[.slice X n c, cutV (.slice A' m cap') i]) (cutP p i)
  | 0, hF, hn, _, _ => by subst hn; exact ⟨X, c, none, 0, rfl, hF, sv_nought _ _⟩
  | j + 1, hF, hn, hM, hm => by subst hn hm; exact ⟨X, c, A', cap', rfl, hF, hM⟩
theorem cut_cnt {p : Pg} : ∀ {i : Nat}, i ≤ p.fs.length → cntL (cutP p i).pts ≤ cntL p.pts
  | 0, _ => by
    show cntL (fsPts p.fs ++ SS.pts .nil) ≤ cntL (fsPts p.fs ++ p.m.pts)
    rw [cntL_append, cntL_append]
    have e : cntL (SS.pts .nil) = 0 := rfl
    omega
  | j + 1, hi => by
    have h := (cut_like (p := p) hi).cnt
    show cntL (fsPts (cutP p (j + 1)).fs ++ p.m.pts) ≤ cntL (fsPts p.fs ++ p.m.pts)
    rw [cntL_append, cntL_append]
    omega
def ORel2 (w1 : World) (N : Nat) (i : Value) (wr : World) : Prop := ∃ k : Nat, i = .int .i64 k ∧ k ≤ N ∧ Below w1.heap.size w1 wr
abbrev exX (op : Int) (s : ByteArray) (v : Value) : Obj := .cells #[.int .i64 op, .int .i64 0, .string s, v] 43
/-- The end of the region that makes q. -/
def QEnd (wr : World) (nf : Nat) (cs : List Value) (vm : Value) (kb : Nat) (X : Option Addr) (c : Nat) (We : World) : Prop :=
  We.heap[kb]? = some (.cells #[.slice X nf c, vm] 25) ∧ We.ownsRow wr.heap.size 37 3 (.slice X nf c) nf cs ∧ wr.heap.size ≤ kb ∧ Below wr.heap.size wr We
abbrev stX (v : Value) : Obj := .cells #[.int .i64 5, .string ⟨#[]⟩, .int .i64 0, v, .slice none 0 0, .slice none 0 0] 45
theorem main_put {w2 u : World} {kb nf c : Nat} {X : Option Addr} {vq : Value} {cs : List Value} (hB : Below w2.heap.size w2 u) (hk : w2.heap.size ≤ kb) (hq : u.heap[kb]? = some (.cells #[.slice X nf c, vq] 25)) (ho : u.ownsRow w2.heap.size 37 3 (.slice X nf c) nf cs) (e s : Obj) (vm : Value) :
    (((u.setCell ⟨kb, 1, none⟩ vm).alloc e).alloc s).heap[kb]? = some (.cells #[.slice X nf c, vm] 25) ∧ (((u.setCell ⟨kb, 1, none⟩ vm).alloc e).alloc s).ownsRow w2.heap.size 37 3 (.slice X nf c) nf cs ∧ Below w2.heap.size w2 (((u.setCell ⟨kb, 1, none⟩ vm).alloc e).alloc s) ∧
      (((u.setCell ⟨kb, 1, none⟩ vm).alloc e).alloc s).heap[u.heap.size]? = some e ∧ (((u.setCell ⟨kb, 1, none⟩ vm).alloc e).alloc s).heap[u.heap.size + 1]? = some s ∧ (((u.setCell ⟨kb, 1, none⟩ vm).alloc e).alloc s).heap.size = u.heap.size + 2 ∧
      ∀ j o, u.heap[j]? = some o → j ≠ kb → (((u.setCell ⟨kb, 1, none⟩ vm).alloc e).alloc s).heap[j]? = some o := by
  have h1 : (u.setCell ⟨kb, 1, none⟩ vm).heap[kb]? = some (.cells #[.slice X nf c, vm] 25) := (blk_set hq 1 _).trans rfl
  have z1 : (u.setCell ⟨kb, 1, none⟩ vm).heap.size = u.heap.size := World.size_setCell ..
  have z2 : ((u.setCell ⟨kb, 1, none⟩ vm).alloc e).heap.size = u.heap.size + 1 := by rw [World.size_alloc, z1]
  have e1 : ((u.setCell ⟨kb, 1, none⟩ vm).alloc e).heap[u.heap.size]? = some e := by
    have h := heap_alloc_new (u.setCell ⟨kb, 1, none⟩ vm) e
    rwa [z1] at h
  have e2 : (((u.setCell ⟨kb, 1, none⟩ vm).alloc e).alloc s).heap[u.heap.size + 1]? = some s := by
    have h := heap_alloc_new ((u.setCell ⟨kb, 1, none⟩ vm).alloc e) s
    rwa [z2] at h
  have hb1 := hB.setCell (p := ⟨kb, 1, none⟩) hk vm
  have hb2 := hb1.alloc hb1.size e
  refine ⟨blk_alloc (blk_alloc h1 _) _, ((own_set ho (own_ne ho hq (by decide)) _).alloc _).alloc _, hb2.alloc hb2.size s, blk_alloc e1 _, e2, by rw [World.size_alloc, z2], fun j o hj hne => blk_alloc (blk_alloc ((Below.heap_setCell _ _ _ _ hne).trans hj) _) _⟩
theorem ev_x {W : World} {b : Nat} {op : Int} {s : ByteArray} {v : Value} {l : ES} (h : W.heap[b]? = some (exX op s v)) (hl : EV W.heap.size W v l) (hop : I64 op) (hs : s.size ≤ 9223372036854775807) : EV W.heap.size W (.slice (some ⟨b, 0, none⟩) 1 1) (.cons op 0 s l .nil) :=
  ⟨_, 1, rfl, Nat.le_refl _, by decide, fun _ => ⟨b, 0, rfl, blk_lt h, (blk_cell h 0).trans rfl, (blk_cell h 1).trans rfl, (blk_cell h 2).trans rfl, ⟨v, (blk_cell h 3).trans rfl, hl⟩, ⟨hop, ⟨by decide, by decide⟩, hs⟩, trivial⟩⟩
theorem pg_print {W : World} {X : Option Addr} {nf c n : Nat} {v : Value} {fs : List Fn} {es : ES} (hF : FV W.heap.size W (.slice X nf c) fs) (hn : nf = fs.length) (hE : EV W.heap.size W v es) (h : W.heap[n]? = some (stX v)) : PgV W.heap.size W (.agg #[.slice X nf c, .slice (some ⟨n, 0, none⟩) 1 1]) ⟨fs, .cons 5 ⟨#[]⟩ 0 es .nil .nil .nil⟩ := by
  subst hn
  exact ⟨X, c, some ⟨n, 0, none⟩, 1, rfl, hF, _, 1, rfl, Nat.le_refl _, by decide, fun _ => ⟨n, 0, rfl, blk_lt h, (blk_cell h 0).trans rfl, (blk_cell h 1).trans rfl, (blk_cell h 2).trans rfl, ⟨v, (blk_cell h 3).trans rfl, hE⟩, ⟨_, (blk_cell h 4).trans rfl, sv_nought _ _⟩, ⟨_, (blk_cell h 5).trans rfl, sv_nought _ _⟩, ⟨by decide, by decide, by show (⟨#[]⟩ : ByteArray).size ≤ _; decide⟩, trivial⟩⟩
theorem like_cnt {p : Pg} {fs' : List Fn} (hl : Like p.fs fs') (m : SS) : cntL (Pg.pts ⟨fs', m⟩) ≤ cntL p.pts + cntL m.pts := by
  have h := hl.cnt
  show cntL (fsPts fs' ++ m.pts) ≤ cntL (fsPts p.fs ++ p.m.pts) + _
  rw [cntL_append, cntL_append]
  omega
set_option maxRecDepth 100000 in
set_option maxHeartbeats 16000000 in
theorem apart_walk (p : Pg) (A : Option Addr) (cap : Nat) (A' : Option Addr) (cap' : Nat) (x : Int) (w : World) (hF : FV w.heap.size w (.slice A p.fs.length cap) p.fs) (hM : SV w.heap.size w (.slice A' p.m.len cap') p.m) (hc : cntL p.pts ≤ 1048576) (ht : Tab w) :
    Calls Tryd.prog 4 #[.agg #[.slice A p.fs.length cap, .slice A' p.m.len cap'], .int .i64 x] w fun e w' => e = .returned (.bool true) ∧ Below w.heap.size w w' := by
  obtain ⟨w0, hw0⟩ : ∃ w0, w.alloc (pgO A p.fs.length cap A' p.m.len cap') = w0 := ⟨_, rfl⟩
  obtain ⟨n0, hn0⟩ : ∃ n0, w.heap.size = n0 := ⟨_, rfl⟩
  have hb0 : Below n0 w w0 := by rw [← hw0, ← hn0]; exact (Below.refl _ _).alloc (Nat.le_refl _) _
  have hx0 : w0.heap[n0]? = some (pgO A p.fs.length cap A' p.m.len cap') := by rw [← hw0, ← hn0]; exact heap_alloc_new w _
  have hs0 : w0.heap.size = n0 + 1 := by rw [← hw0, World.size_alloc, hn0]
  have ht0 : Tab w0 := ht.below (by rw [hn0]; exact hb0) ht.1
  rw [hn0] at hF hM
  have hpv : PgV w0.heap.size w0 (.agg #[.slice A p.fs.length cap, .slice A' p.m.len cap']) p := ⟨A, cap, A', cap', rfl, hF.below hb0 (by omega), hM.below hb0 (by omega)⟩
  have HF : Hid (FV w0.heap.size w0 (.slice A p.fs.length cap) p.fs) := Lib.hid (hF.below hb0 (by omega))
  have HM : Hid (SV w0.heap.size w0 (.slice A' p.m.len cap') p.m) := Lib.hid (hM.below hb0 (by omega))
  have HS := Lib.hid (shown6_any w0 ht0)
  have HR := Lib.hid (fun (W : World) (hb : Below w0.heap.size w0 W) => resolve_p _ p W (hpv.below hb hb.size) (ht0.below hb ht0.1) (by omega))
  have HTT := Lib.hid ht0
  have HB0 := Lib.hid hb0
  have HX0 := Lib.hid hx0
  have HZ0 := Lib.hid hs0
  have HN0 := Lib.hid hn0
  have HCN := Lib.hid hc
  have hmx : Tryd.prog.follows .mixedOrders = true := by kernel_rfl
  clear hF hM hpv ht0 hb0 hx0 hs0 hc ht
  rw [hn0]
  obtain ⟨nf, hnf⟩ : ∃ nf, p.fs.length = nf := ⟨_, rfl⟩
  have HNF := Lib.hid hnf
  rw [hnf] at HF HR HX0 hw0 ⊢
  obtain ⟨nm, hnm⟩ : ∃ nm, p.m.len = nm := ⟨_, rfl⟩
  rw [hnm] at HR HX0 hw0 HM ⊢
  have HNM := Lib.hid hnm
  clear hnf hnm
  go_enter Tryd.func4, Tryd.ntmps4
  go_upto_region 1 with fail
  have c0 : ∀ W, Below w0.heap.size w0 W → W.cell? ⟨n0, 0, none⟩ = some (.slice A nf cap) ∧ W.cell? ⟨n0, 1, none⟩ = some (.slice A' nm cap') := fun W hb => by
    have h := (hb.block n0 (by rw [HZ0.out]; omega)).trans HX0.out
    exact ⟨(blk_cell h 0).trans rfl, (blk_cell h 1).trans rfl⟩
  have HC0 := Lib.hid c0
  clear c0 hw0
  go_upto_region 2 with (go_at_call 8; ((with_reducible refine HS.out.mono ?_); rintro e w1 ⟨rfl, b1⟩))
  obtain ⟨d0, d1⟩ := HC0.out w1 b1
  go_upto_region 3 with (go_at_call 9; ((with_reducible refine (HR.out _ b1).mono ?_); rintro e w2 ⟨v2, rfl, hv2, b2⟩))
  have b02 : Below w0.heap.size w0 w2 := b1.trans (b2.mono b1.size)
  have HB02 := Lib.hid b02
  by_cases hE : resErr p = 0
  · obtain ⟨o1, ⟨s0, r0, e0, e1, e2, e3⟩, o3⟩ := once_ok hE
    have hN : (scopes p).length = nf + 1 := by rw [e0, List.length_cons, e3, HNF.out]
    have HEE := Lib.hid hE
    rw [o1] at hv2
    rw [hE]
    have hv3 : RowV (SpsIn w2.heap.size w2 (scopes p)) w2.heap.size (nf + 1) v2 := by rw [← hN]; exact hv2
    obtain ⟨b, o, k, rfl, hlt, hin⟩ := hv3.get
    have K : ∀ i s, (scopes p)[i]? = some s → ∃ Av nv cv Ax nx cx, nv = s.vs.length ∧ nx = s.xs.length ∧ RowV (PsIn w2 s.vs) w2.heap.size s.vs.length (.slice Av nv cv) ∧ RowV (PsIn w2 s.xs) w2.heap.size s.xs.length (.slice Ax nx cx) ∧
        ∀ W, Below w2.heap.size w2 W → W.cell? ⟨b, o + i * 4 + 2, none⟩ = some (.slice Av nv cv) ∧ W.cell? ⟨b, o + i * 4 + 3, none⟩ = some (.slice Ax nx cx) := fun i s hs => by
      obtain ⟨k0, k1, ⟨v, k2, h2⟩, ⟨v', k3, h3⟩, k4⟩ := sps_get _ b o hin i s hs
      obtain ⟨Av, cv, rfl, h2'⟩ := id h2
      obtain ⟨Ax, cx, rfl, h3'⟩ := id h3
      exact ⟨Av, _, cv, Ax, _, cx, rfl, rfl, h2, h3, fun W hb => ⟨(hb.cell (p := ⟨b, _, none⟩) hlt).trans k2, (hb.cell (p := ⟨b, _, none⟩) hlt).trans k3⟩⟩
    have HK := Lib.hid K
    have HV : Hid (SpV w2.heap.size w2 (.slice (some ⟨b, o, none⟩) (nf + 1) k) (scopes p)) := Lib.hid hv2
    have HNN := Lib.hid hN
    obtain ⟨hkA, hkB⟩ : nf + 1 ≤ k ∧ k ≤ 9223372036854775807 := by
      obtain ⟨A9, c9, e9, h91, h92, _⟩ := hv3
      injection e9 with _ _ e9
      subst e9
      exact ⟨h91, h92⟩
    obtain ⟨P, hP, -⟩ := and_16 x
    obtain ⟨i, hi⟩ : ∃ i, P % (nf + 1) = i := ⟨_, rfl⟩
    have hin1 : i < nf + 1 := by rw [← hi]; exact Nat.mod_lt _ (Nat.succ_pos _)
    have hpi : (P : Int) % ((nf + 1 : Nat) : Int) = (i : Int) := by rw [← hi]; rfl
    have hpi2 : (P : Int) % ((nf : Int) + 1) = (i : Int) := by rw [← hpi]; rfl
    have HIN := Lib.hid hin1
    clear K hv2 hv3 hin o3 e0 e1 e2 e3 hN o1 b02 b1 b2 hi hlt
    go_upto_region 8 with fail
    try rw [hpi]
    try rw [hpi2]
    clear hpi hpi2 hP d0 d1
    obtain ⟨-, cs, hcs0, hnw0⟩ := fv_news HF.out
    have hcs : fsCells w2.heap.size w2 p.fs cs := hcs0.below HB02.out HB02.out.size
    have HCS := Lib.hid hcs
    have HNW : Hid (∀ W, Below w2.heap.size w2 W → ∀ ad, A = some ad → ∀ j u, cs[j]? = some u → W.cell? (ad.add j) = some u) := Lib.hid fun W hb ad e j u hu => by
      have h := hnw0 ad e j u hu
      exact ((HB02.out.trans (hb.mono HB02.out.size)).cell (p := ad.add j) (lt_of_cellX h)).trans h
    have HONE := Lib.hid hcs.one
    have HCL : Hid (cs.length = nf * 3) := Lib.hid (by rw [hcs.len, HNF.out])
    have HNV : Hid (A = none → nf = 0) := Lib.hid fun e => fv_nil0 HF.out e
    obtain ⟨i9, hi9, hz0, hz1, hz2⟩ := info_parts funcInfo6
    have HI := Lib.hid hi9
    have HZS := Lib.hid hz0
    have hfew : nf ≤ 32 := by rw [← HNF.out]; exact right_few (res_once HEE.out).1
    clear hcs0 hnw0 hcs hi9 hz0
    go_cut [8] (fun s8 wx => ∃ kb X c, s8 = .pointer (some ⟨kb, 0, none⟩) ∧ QEnd w2 nf cs (.slice A' nm cap') kb X c wx)
    case first =>
      have hSd : Below w2.heap.size w2 w2.drew := belowD (Below.refl _ _)
      refine wp_region_held_drew (S := fun W' => Below w2.heap.size w2 W') hmx hSd (fun hHeld => ?_)
      clear hHeld
      obtain ⟨wd, hwd⟩ : ∃ x, w2.drew = x := ⟨_, rfl⟩
      rw [hwd] at hSd ⊢
      clear hwd
      refine wpAnyH_take (i := 1) (v := .pointer (some ⟨n0, 0, none⟩)) rfl (by kernel_rfl) (by kernel_rfl) (by kernel_rfl) (fun _ _ _ h => h) (Or.inl ⟨by rfl, ?_⟩) (by assumption) ?_
      · intro W' hSw
        obtain ⟨l0, l1⟩ := HC0.out W' (HB02.out.trans (hSw.mono HB02.out.size))
        go_simp
      try simp only [Act.put, List.getElem_toArray, List.getElem_cons_zero, List.getElem_cons_succ, List.setIfInBounds_toArray, List.set_cons_zero, List.set_cons_succ]
      refine wpAnyH_take (i := 2) (v := .slice A nf cap) rfl (by kernel_rfl) (by kernel_rfl) (by kernel_rfl) (fun _ _ _ h => h) (Or.inl ⟨by rfl, ?_⟩) (by assumption) ?_
      · intro W' hSw
        obtain ⟨l0, l1⟩ := HC0.out W' (HB02.out.trans (hSw.mono HB02.out.size))
        go_simp
      try simp only [Act.put, List.getElem_toArray, List.getElem_cons_zero, List.getElem_cons_succ, List.setIfInBounds_toArray, List.set_cons_zero, List.set_cons_succ]
      refine wpAnyH_take (i := 4) (v := .pointer (some ⟨n0, 1, none⟩)) rfl (by kernel_rfl) (by kernel_rfl) (by kernel_rfl) (fun _ _ _ h => h) (Or.inl ⟨by rfl, ?_⟩) (by assumption) ?_
      · intro W' hSw
        obtain ⟨l0, l1⟩ := HC0.out W' (HB02.out.trans (hSw.mono HB02.out.size))
        go_simp
      try simp only [Act.put, List.getElem_toArray, List.getElem_cons_zero, List.getElem_cons_succ, List.setIfInBounds_toArray, List.set_cons_zero, List.set_cons_succ]
      refine wpAnyH_take (i := 5) (v := .slice A' nm cap') rfl (by kernel_rfl) (by kernel_rfl) (by kernel_rfl) (fun _ _ _ h => h) (Or.inl ⟨by rfl, ?_⟩) (by assumption) ?_
      · intro W' hSw
        obtain ⟨l0, l1⟩ := HC0.out W' (HB02.out.trans (hSw.mono HB02.out.size))
        go_simp
      try simp only [Act.put, List.getElem_toArray, List.getElem_cons_zero, List.getElem_cons_succ, List.setIfInBounds_toArray, List.set_cons_zero, List.set_cons_succ]
      refine wpAnyH_ready (rs := [0, 7]) (by kernel_rfl) (by simp) ?_
      refine AllReadyH.cons rfl (fun K hK => ?_) (AllReadyH.cons rfl (fun K hK => ?_) AllReadyH.nil)
      · go_simp
        obtain ⟨W1, hw1⟩ : ∃ x, wd.alloc (.cells #[] 37) = x := ⟨_, rfl⟩
        obtain ⟨z1, hz1⟩ : ∃ z, wd.heap.size = z := ⟨_, rfl⟩
        have hb1 : Below w2.heap.size w2 W1 := by rw [← hw1]; exact hSd.alloc hSd.size _
        have ho1 : W1.ownsRow w2.heap.size 37 3 (.slice (some ⟨z1, 0, none⟩) 0 0) 0 [] := by rw [← hw1]; exact made_in hz1 (by rw [← hz1]; exact hSd.size)
        rw [hw1, hz1]
        clear hw1 hz1
        refine hK.out _ _ hb1 (fun _ => ?_)
        clear hK K
        try simp only [Act.put, List.getElem_toArray, List.getElem_cons_zero, List.getElem_cons_succ, List.setIfInBounds_toArray, List.set_cons_zero, List.set_cons_succ]
        refine wpAnyH_ready (rs := [3, 7]) (by kernel_rfl) (by simp) ?_
        refine AllReadyH.cons rfl (fun K hK => ?_) (AllReadyH.cons rfl (fun K hK => ?_) AllReadyH.nil)
        · refine step_append_own (E := _) rfl _ _ 22 rfl w2.heap.size 37 i9 _ 3 64 Tryd.underlying22 HI.out HZS.out hz1 hz2 rfl (by decide) (.slice (some ⟨z1, 0, none⟩) 0 0) 0 [] rfl ho1 A nf cap cs rfl HNV.out (by rw [HCL.out]) (HNW.out W1 hb1) HONE.out (by unfold maxLen; omega) (by omega) hb1.size ?_
          intro v2 W2 hown2 hg2
          rw [Nat.zero_add, List.nil_append] at hown2
          obtain ⟨X2, c2, rfl⟩ := own_form hown2
          have hb2 : Below w2.heap.size w2 W2 := hb1.grown hg2 hb1.size (fun q hq => (ho1.lt q hq).1)
          refine hK.out _ _ hb2 (fun _ => ?_)
          clear hK K
          try simp only [Act.put, List.getElem_toArray, List.getElem_cons_zero, List.getElem_cons_succ, List.setIfInBounds_toArray, List.set_cons_zero, List.set_cons_succ]
          refine wpAnyH_take (i := 6) (v := .agg #[.slice X2 nf c2, .slice A' nm cap']) rfl (by kernel_rfl) (by kernel_rfl) (by kernel_rfl) (fun _ _ _ h => h) (Or.inl ⟨by rfl, ?_⟩) (by assumption) ?_
          · intro W' hSw
            skip
            go_simp
          try simp only [Act.put, List.getElem_toArray, List.getElem_cons_zero, List.getElem_cons_succ, List.setIfInBounds_toArray, List.set_cons_zero, List.set_cons_succ]
          refine wpAnyH_ready (rs := [7]) (by kernel_rfl) (by simp) ?_
          refine AllReadyH.cons rfl (fun K hK => ?_) AllReadyH.nil
          go_simp
          obtain ⟨W3, hw3⟩ : ∃ x, W2.alloc (.cells #[.slice none 0 0, .slice none 0 0] 25) = x := ⟨_, rfl⟩
          obtain ⟨k3, hk3⟩ : ∃ k, W2.heap.size = k := ⟨_, rfl⟩
          have hb3 : Below w2.heap.size w2 W3 := by rw [← hw3]; exact hb2.alloc hb2.size _
          have hx3 : W3.heap[k3]? = some (.cells #[.slice none 0 0, .slice none 0 0] 25) := by rw [← hw3, ← hk3]; exact heap_alloc_new _ _
          have hkb3 : w2.heap.size ≤ k3 := by rw [← hk3]; exact hb2.size
          have hown3 : W3.ownsRow w2.heap.size 37 3 (.slice X2 nf c2) nf cs := by rw [← hw3]; exact hown2.alloc _
          rw [hw3, hk3]
          clear hw3 hk3
          refine hK.out _ _ hb3 (fun _ => ?_)
          clear hK K
          try simp only [Act.put, List.getElem_toArray, List.getElem_cons_zero, List.getElem_cons_succ, List.setIfInBounds_toArray, List.set_cons_zero, List.set_cons_succ]
          refine wpAnyH_ready (rs := [8]) (by kernel_rfl) (by simp) ?_
          refine AllReadyH.cons rfl (fun K hK => ?_) AllReadyH.nil
          have lk4 := blk_lt hx3
          have f04 := blk_frozen hx3 0
          have f14 := blk_frozen hx3 1
          have y04 : W3.cell? ⟨k3, 0, none⟩ = some (.slice none 0 0) := (blk_cell hx3 0).trans rfl
          have y14 : W3.cell? ⟨k3, 1, none⟩ = some (.slice none 0 0) := (blk_cell hx3 1).trans rfl
          go_simp
          have hend : QEnd w2 nf cs (.slice A' nm cap') k3 X2 c2 ((W3.setCell ⟨k3, 0, none⟩ (.slice X2 nf c2)).setCell ⟨k3, 1, none⟩ (.slice A' nm cap')) := ⟨(blk_set ((blk_set hx3 0 _).trans rfl) 1 _).trans rfl, own_set (own_set hown3 (own_ne hown3 hx3 (by decide)) _) (own_ne hown3 hx3 (by decide)) _, hkb3, (hb3.setCell hkb3 _).setCell hkb3 _⟩
          have HEND := Lib.hid hend
          obtain ⟨We, hWe⟩ : ∃ W, (W3.setCell ⟨k3, 0, none⟩ (.slice X2 nf c2)).setCell ⟨k3, 1, none⟩ (.slice A' nm cap') = W := ⟨_, rfl⟩
          rw [hWe] at HEND hend ⊢
          clear hWe lk4 f04 f14 y04 y14
          refine hK.out _ _ hend.2.2.2 (fun _ => ?_)
          clear hK K hend
          try simp only [Act.put, List.getElem_toArray, List.getElem_cons_zero, List.getElem_cons_succ, List.setIfInBounds_toArray, List.set_cons_zero, List.set_cons_succ]
          refine wpAnyH_done (by kernel_rfl) ?_ _
          go_wp2_with fail
          go_meet
          exact ⟨_, _, _, rfl, HEND.out⟩
        · go_simp
          obtain ⟨W5, hw5⟩ : ∃ x, W1.alloc (.cells #[.slice none 0 0, .slice none 0 0] 25) = x := ⟨_, rfl⟩
          obtain ⟨k5, hk5⟩ : ∃ k, W1.heap.size = k := ⟨_, rfl⟩
          have hb5 : Below w2.heap.size w2 W5 := by rw [← hw5]; exact hb1.alloc hb1.size _
          have hx5 : W5.heap[k5]? = some (.cells #[.slice none 0 0, .slice none 0 0] 25) := by rw [← hw5, ← hk5]; exact heap_alloc_new _ _
          have hkb5 : w2.heap.size ≤ k5 := by rw [← hk5]; exact hb1.size
          have ho5 : W5.ownsRow w2.heap.size 37 3 (.slice (some ⟨z1, 0, none⟩) 0 0) 0 [] := by rw [← hw5]; exact ho1.alloc _
          rw [hw5, hk5]
          clear hw5 hk5
          refine hK.out _ _ hb5 (fun _ => ?_)
          clear hK K
          try simp only [Act.put, List.getElem_toArray, List.getElem_cons_zero, List.getElem_cons_succ, List.setIfInBounds_toArray, List.set_cons_zero, List.set_cons_succ]
          refine wpAnyH_ready (rs := [3]) (by kernel_rfl) (by simp) ?_
          refine AllReadyH.cons rfl (fun K hK => ?_) AllReadyH.nil
          refine step_append_own (E := _) rfl _ _ 22 rfl w2.heap.size 37 i9 _ 3 64 Tryd.underlying22 HI.out HZS.out hz1 hz2 rfl (by decide) (.slice (some ⟨z1, 0, none⟩) 0 0) 0 [] rfl ho5 A nf cap cs rfl HNV.out (by rw [HCL.out]) (HNW.out W5 hb5) HONE.out (by unfold maxLen; omega) (by omega) hb5.size ?_
          intro v6 W6 hown6 hg6
          rw [Nat.zero_add, List.nil_append] at hown6
          obtain ⟨X6, c6, rfl⟩ := own_form hown6
          have hb6 : Below w2.heap.size w2 W6 := hb5.grown hg6 hb5.size (fun q hq => (ho5.lt q hq).1)
          have hx6 : W6.heap[k5]? = some (.cells #[.slice none 0 0, .slice none 0 0] 25) := blk_grown hx5 hg6 (own_ne ho5 hx5 (by decide))
          refine hK.out _ _ hb6 (fun _ => ?_)
          clear hK K
          try simp only [Act.put, List.getElem_toArray, List.getElem_cons_zero, List.getElem_cons_succ, List.setIfInBounds_toArray, List.set_cons_zero, List.set_cons_succ]
          refine wpAnyH_take (i := 6) (v := .agg #[.slice X6 nf c6, .slice A' nm cap']) rfl (by kernel_rfl) (by kernel_rfl) (by kernel_rfl) (fun _ _ _ h => h) (Or.inl ⟨by rfl, ?_⟩) (by assumption) ?_
          · intro W' hSw
            skip
            go_simp
          try simp only [Act.put, List.getElem_toArray, List.getElem_cons_zero, List.getElem_cons_succ, List.setIfInBounds_toArray, List.set_cons_zero, List.set_cons_succ]
          refine wpAnyH_ready (rs := [8]) (by kernel_rfl) (by simp) ?_
          refine AllReadyH.cons rfl (fun K hK => ?_) AllReadyH.nil
          have lk7 := blk_lt hx6
          have f07 := blk_frozen hx6 0
          have f17 := blk_frozen hx6 1
          have y07 : W6.cell? ⟨k5, 0, none⟩ = some (.slice none 0 0) := (blk_cell hx6 0).trans rfl
          have y17 : W6.cell? ⟨k5, 1, none⟩ = some (.slice none 0 0) := (blk_cell hx6 1).trans rfl
          go_simp
          have hend : QEnd w2 nf cs (.slice A' nm cap') k5 X6 c6 ((W6.setCell ⟨k5, 0, none⟩ (.slice X6 nf c6)).setCell ⟨k5, 1, none⟩ (.slice A' nm cap')) := ⟨(blk_set ((blk_set hx6 0 _).trans rfl) 1 _).trans rfl, own_set (own_set hown6 (own_ne hown6 hx6 (by decide)) _) (own_ne hown6 hx6 (by decide)) _, hkb5, (hb6.setCell hkb5 _).setCell hkb5 _⟩
          have HEND := Lib.hid hend
          obtain ⟨We, hWe⟩ : ∃ W, (W6.setCell ⟨k5, 0, none⟩ (.slice X6 nf c6)).setCell ⟨k5, 1, none⟩ (.slice A' nm cap') = W := ⟨_, rfl⟩
          rw [hWe] at HEND hend ⊢
          clear hWe lk7 f07 f17 y07 y17
          refine hK.out _ _ hend.2.2.2 (fun _ => ?_)
          clear hK K hend
          try simp only [Act.put, List.getElem_toArray, List.getElem_cons_zero, List.getElem_cons_succ, List.setIfInBounds_toArray, List.set_cons_zero, List.set_cons_succ]
          refine wpAnyH_done (by kernel_rfl) ?_ _
          go_wp2_with fail
          go_meet
          exact ⟨_, _, _, rfl, HEND.out⟩
      · go_simp
        obtain ⟨W8, hw8⟩ : ∃ x, wd.alloc (.cells #[.slice none 0 0, .slice none 0 0] 25) = x := ⟨_, rfl⟩
        obtain ⟨k8, hk8⟩ : ∃ k, wd.heap.size = k := ⟨_, rfl⟩
        have hb8 : Below w2.heap.size w2 W8 := by rw [← hw8]; exact hSd.alloc hSd.size _
        have hx8 : W8.heap[k8]? = some (.cells #[.slice none 0 0, .slice none 0 0] 25) := by rw [← hw8, ← hk8]; exact heap_alloc_new _ _
        have hkb8 : w2.heap.size ≤ k8 := by rw [← hk8]; exact hSd.size
        rw [hw8, hk8]
        clear hw8 hk8
        refine hK.out _ _ hb8 (fun _ => ?_)
        clear hK K
        try simp only [Act.put, List.getElem_toArray, List.getElem_cons_zero, List.getElem_cons_succ, List.setIfInBounds_toArray, List.set_cons_zero, List.set_cons_succ]
        refine wpAnyH_ready (rs := [0]) (by kernel_rfl) (by simp) ?_
        refine AllReadyH.cons rfl (fun K hK => ?_) AllReadyH.nil
        go_simp
        obtain ⟨W9, hw9⟩ : ∃ x, W8.alloc (.cells #[] 37) = x := ⟨_, rfl⟩
        obtain ⟨z9, hz9⟩ : ∃ z, W8.heap.size = z := ⟨_, rfl⟩
        have hb9 : Below w2.heap.size w2 W9 := by rw [← hw9]; exact hb8.alloc hb8.size _
        have ho9 : W9.ownsRow w2.heap.size 37 3 (.slice (some ⟨z9, 0, none⟩) 0 0) 0 [] := by rw [← hw9]; exact made_in hz9 (by rw [← hz9]; exact hb8.size)
        have hx9 : W9.heap[k8]? = some (.cells #[.slice none 0 0, .slice none 0 0] 25) := by rw [← hw9]; exact blk_alloc hx8 _
        rw [hw9, hz9]
        clear hw9 hz9
        refine hK.out _ _ hb9 (fun _ => ?_)
        clear hK K
        try simp only [Act.put, List.getElem_toArray, List.getElem_cons_zero, List.getElem_cons_succ, List.setIfInBounds_toArray, List.set_cons_zero, List.set_cons_succ]
        refine wpAnyH_ready (rs := [3]) (by kernel_rfl) (by simp) ?_
        refine AllReadyH.cons rfl (fun K hK => ?_) AllReadyH.nil
        refine step_append_own (E := _) rfl _ _ 22 rfl w2.heap.size 37 i9 _ 3 64 Tryd.underlying22 HI.out HZS.out hz1 hz2 rfl (by decide) (.slice (some ⟨z9, 0, none⟩) 0 0) 0 [] rfl ho9 A nf cap cs rfl HNV.out (by rw [HCL.out]) (HNW.out W9 hb9) HONE.out (by unfold maxLen; omega) (by omega) hb9.size ?_
        intro v10 W10 hown10 hg10
        rw [Nat.zero_add, List.nil_append] at hown10
        obtain ⟨X10, c10, rfl⟩ := own_form hown10
        have hb10 : Below w2.heap.size w2 W10 := hb9.grown hg10 hb9.size (fun q hq => (ho9.lt q hq).1)
        have hx10 : W10.heap[k8]? = some (.cells #[.slice none 0 0, .slice none 0 0] 25) := blk_grown hx9 hg10 (own_ne ho9 hx9 (by decide))
        refine hK.out _ _ hb10 (fun _ => ?_)
        clear hK K
        try simp only [Act.put, List.getElem_toArray, List.getElem_cons_zero, List.getElem_cons_succ, List.setIfInBounds_toArray, List.set_cons_zero, List.set_cons_succ]
        refine wpAnyH_take (i := 6) (v := .agg #[.slice X10 nf c10, .slice A' nm cap']) rfl (by kernel_rfl) (by kernel_rfl) (by kernel_rfl) (fun _ _ _ h => h) (Or.inl ⟨by rfl, ?_⟩) (by assumption) ?_
        · intro W' hSw
          skip
          go_simp
        try simp only [Act.put, List.getElem_toArray, List.getElem_cons_zero, List.getElem_cons_succ, List.setIfInBounds_toArray, List.set_cons_zero, List.set_cons_succ]
        refine wpAnyH_ready (rs := [8]) (by kernel_rfl) (by simp) ?_
        refine AllReadyH.cons rfl (fun K hK => ?_) AllReadyH.nil
        have lk11 := blk_lt hx10
        have f011 := blk_frozen hx10 0
        have f111 := blk_frozen hx10 1
        have y011 : W10.cell? ⟨k8, 0, none⟩ = some (.slice none 0 0) := (blk_cell hx10 0).trans rfl
        have y111 : W10.cell? ⟨k8, 1, none⟩ = some (.slice none 0 0) := (blk_cell hx10 1).trans rfl
        go_simp
        have hend : QEnd w2 nf cs (.slice A' nm cap') k8 X10 c10 ((W10.setCell ⟨k8, 0, none⟩ (.slice X10 nf c10)).setCell ⟨k8, 1, none⟩ (.slice A' nm cap')) := ⟨(blk_set ((blk_set hx10 0 _).trans rfl) 1 _).trans rfl, own_set (own_set hown10 (own_ne hown10 hx10 (by decide)) _) (own_ne hown10 hx10 (by decide)) _, hkb8, (hb10.setCell hkb8 _).setCell hkb8 _⟩
        have HEND := Lib.hid hend
        obtain ⟨We, hWe⟩ : ∃ W, (W10.setCell ⟨k8, 0, none⟩ (.slice X10 nf c10)).setCell ⟨k8, 1, none⟩ (.slice A' nm cap') = W := ⟨_, rfl⟩
        rw [hWe] at HEND hend ⊢
        clear hWe lk11 f011 f111 y011 y111
        refine hK.out _ _ hend.2.2.2 (fun _ => ?_)
        clear hK K hend
        try simp only [Act.put, List.getElem_toArray, List.getElem_cons_zero, List.getElem_cons_succ, List.setIfInBounds_toArray, List.set_cons_zero, List.set_cons_succ]
        refine wpAnyH_done (by kernel_rfl) ?_ _
        go_wp2_with fail
        go_meet
        exact ⟨_, _, _, rfl, HEND.out⟩
    case rest =>
      obtain ⟨kb, X, c, rfl, hq1, hq2, hq3, hq4⟩ := hcut
      have HQ1 := Lib.hid hq1
      have HQ2 := Lib.hid hq2
      have HQ4 := Lib.hid hq4
      have kf1 := blk_frozen hq1 1
      have ky0 : wc.cell? ⟨kb, 0, none⟩ = some (.slice X nf c) := (blk_cell hq1 0).trans rfl
      have ky1 : wc.cell? ⟨kb, 1, none⟩ = some (.slice A' nm cap') := (blk_cell hq1 1).trans rfl
      clear hq1 hq2 hq4
      rcases Nat.eq_zero_or_pos i with hi0 | hi0
      · have t0 : ((i : Int) == 0) = true := by simp [hi0]
        go_upto_region 12 with fail
        obtain ⟨we, hwe⟩ : ∃ W, wc.setCell ⟨kb, 1, none⟩ (.slice none 0 0) = W := ⟨_, rfl⟩
        have QE : QEnd w2 nf (cutC cs i) (cutV (.slice A' nm cap') i) kb X c we := by
          rw [← hwe, hi0]
          exact ⟨(blk_set HQ1.out 1 _).trans rfl, own_set HQ2.out (own_ne HQ2.out HQ1.out (by decide)) _, hq3, HQ4.out.setCell hq3 _⟩
        rw [hwe]
        clear hwe hi0 t0 ky0 ky1 kf1
        obtain ⟨qe1, qe2, qe3, qe4⟩ := id QE
        have hil : i ≤ p.fs.length := by rw [HNF.out]; omega
        have hb0e : Below w0.heap.size w0 we := HB02.out.trans (qe4.mono HB02.out.size)
        have hfl : (cutP p i).fs.length = nf := by rw [(cut_like hil).ok.2, HNF.out]
        have hfc : fsCells we.heap.size we (cutP p i).fs (cutC cs i) := cut_cells (HCS.out.below qe4 qe4.size) hil
        have hfv : FV we.heap.size we (.slice X nf c) (cutP p i).fs := own_fv qe2 hfc hfl.symm
        have hpg : PgV we.heap.size we (.agg #[.slice X nf c, cutV (.slice A' nm cap') i]) (cutP p i) := cut_pg hfv hfl.symm (HM.out.below hb0e hb0e.size) HNM.out.symm
        obtain ⟨g1, g2, g3⟩ := cutP_ok HEE.out hil
        have hR2 := resolve_p _ (cutP p i) we hpg (HTT.out.below hb0e HTT.out.1) (Nat.le_trans (cut_cnt hil) (by have := HCN.out; omega))
        rw [g1, (once_ok g1).1] at hR2
        have HR2 := Lib.hid hR2
        have HG2 : Hid ((scopes (cutP p i)).length = nf + 1) := Lib.hid (g2.trans HNN.out)
        have HG3 := Lib.hid g3
        have HFC := Lib.hid hfc
        have HB0E := Lib.hid hb0e
        have HQE := Lib.hid QE
        have HIL := Lib.hid hil
        obtain ⟨vq, hvq⟩ : ∃ v, cutV (.slice A' nm cap') i = v := ⟨_, rfl⟩
        rw [hvq] at HR2 qe1
        have y0 : we.cell? ⟨kb, 0, none⟩ = some (.slice X nf c) := (blk_cell qe1 0).trans rfl
        have y1 : we.cell? ⟨kb, 1, none⟩ = some vq := (blk_cell qe1 1).trans rfl
        have HVQ := Lib.hid hvq
        clear qe1 qe2 hil hb0e hfl hfc hfv hpg g1 g2 g3 hR2 QE hvq
        go_upto_region 13 with (go_at_call 9; ((with_reducible refine HR2.out.mono ?_); rintro e w4 ⟨v4, rfl, hv4, h4⟩))
        have hv5 : RowV (SpsIn w4.heap.size w4 (scopes (cutP p i))) w4.heap.size (nf + 1) v4 := by rw [← HG2.out]; exact hv4
        obtain ⟨b4, o4, k4, rfl, hlt4, hin4⟩ := hv5.get
        have h24 : Below w2.heap.size w2 w4 := qe4.trans (h4.mono qe4.size)
        have H24 := Lib.hid h24
        have HE4 := Lib.hid h4
        have K4 := Lib.hid (fun (t : Nat) (s : Sp) (hs : (scopes (cutP p i))[t]? = some s) => sps_get _ b4 o4 hin4 t s hs)
        obtain ⟨hk4A, hk4B⟩ : nf + 1 ≤ k4 ∧ k4 ≤ 9223372036854775807 := by
          obtain ⟨A9, c9, e9, h91, h92, _⟩ := hv5
          injection e9 with _ _ e9
          subst e9
          exact ⟨h91, h92⟩
        clear hv4 hv5 hin4 h24 y0 y1 qe4 h4
        go_upto_region 16 with fail
        go_loopw [11] (fun u wr => ORel2 w4 (nf + 1) u wr) (fun u _ => nf + 1 - (RowKit.intOf u).toNat)
        case atStart => exact ⟨0, rfl, Nat.zero_le _, Below.refl _ _⟩
        case round =>
          obtain ⟨t, rfl, ht, hbt⟩ := hrel
          by_cases htl : t < nf + 1
          · have i0 : decide ((t : Int) < ((nf + 1 : Nat) : Int)) = true := decide_eq_true (by omega)
            by_cases hti : t = i
            · have i2 : ((t : Int) != (i : Int)) = false := by simp [hti]
              clear hti
              go_upto_region 18 with fail
              go_quiet (fail)
              go_wp2
              go_roundw
              case rel => exact ⟨t + 1, by go_num, by omega, hbt.trans ((drewN_b _ _).mono hbt.size)⟩
              case measure => simp [RowKit.intOf]; omega
            · have i2 : ((t : Int) != (i : Int)) = true := by simp; omega
              obtain ⟨⟨sn, np, V, U⟩, hs⟩ : ∃ s, (scopes p)[t]? = some s := ⟨(scopes p)[t]'(by rw [HNN.out]; exact htl), List.getElem?_eq_getElem _⟩
              obtain ⟨Av, nv, cv, Ax, nx, cx, hnv, hnx, hRV, hRX, KW⟩ := HK.out t _ hs
              simp only at hnv hnx hRV hRX
              obtain ⟨-, -, ⟨va, ka, hva⟩, ⟨vb, kb4, hvb⟩, -⟩ := K4.out t _ ((HG3.out t hti).trans hs)
              simp only at hva hvb
              have hva0 := hva
              have hvb0 := hvb
              rw [← hnv] at hva
              rw [← hnx] at hvb
              obtain ⟨Av4, cv4, rfl, hva1⟩ := hva
              obtain ⟨Ax4, cx4, rfl, hvb1⟩ := hvb
              have K5 : ∀ W, Below w4.heap.size w4 W → W.cell? ⟨b, o + t * 4 + 2, none⟩ = some (.slice Av nv cv) ∧ W.cell? ⟨b, o + t * 4 + 3, none⟩ = some (.slice Ax nx cx) ∧ W.cell? ⟨b4, o4 + t * 4 + 2, none⟩ = some (.slice Av4 nv cv4) ∧ W.cell? ⟨b4, o4 + t * 4 + 3, none⟩ = some (.slice Ax4 nx cx4) ∧ Below w4.heap.size w4 W := fun W hb => by
                obtain ⟨t2, t3⟩ := KW W (H24.out.trans (hb.mono H24.out.size))
                exact ⟨t2, t3, (hb.cell (p := ⟨b4, _, none⟩) hlt4).trans ka, (hb.cell (p := ⟨b4, _, none⟩) hlt4).trans kb4, hb⟩
              have HK5 := Lib.hid K5
              have HSA : Hid (∀ W, Below w4.heap.size w4 W → Calls Tryd.prog 12 #[.slice Av nv cv, .slice Av4 nv cv4] W fun e w' => e = .returned (.bool true) ∧ w'.cell? ⟨b, o + t * 4 + 2, none⟩ = some (.slice Av nv cv) ∧ w'.cell? ⟨b, o + t * 4 + 3, none⟩ = some (.slice Ax nx cx) ∧ w'.cell? ⟨b4, o4 + t * 4 + 2, none⟩ = some (.slice Av4 nv cv4) ∧ w'.cell? ⟨b4, o4 + t * 4 + 3, none⟩ = some (.slice Ax4 nx cx4) ∧ Below w4.heap.size w4 w') := Lib.hid fun W hb =>
                (same_any w4.heap.size _ _ V V w4 W hb hb.size (by have h := hRV.imp H24.out.size fun _ _ hb' hp => PsIn.below H24.out hb' hp; exact h) hva0).mono fun e w' ⟨h1, h2⟩ => ⟨by rw [h1, decide_eq_true rfl], HK5.out w' (hb.trans (h2.mono hb.size))⟩
              have HSB : Hid (∀ W, Below w4.heap.size w4 W → Calls Tryd.prog 12 #[.slice Ax nx cx, .slice Ax4 nx cx4] W fun e w' => e = .returned (.bool true) ∧ w'.cell? ⟨b, o + t * 4 + 2, none⟩ = some (.slice Av nv cv) ∧ w'.cell? ⟨b, o + t * 4 + 3, none⟩ = some (.slice Ax nx cx) ∧ w'.cell? ⟨b4, o4 + t * 4 + 2, none⟩ = some (.slice Av4 nv cv4) ∧ w'.cell? ⟨b4, o4 + t * 4 + 3, none⟩ = some (.slice Ax4 nx cx4) ∧ Below w4.heap.size w4 w') := Lib.hid fun W hb =>
                (same_any w4.heap.size _ _ U U w4 W hb hb.size (by have h := hRX.imp H24.out.size fun _ _ hb' hp => PsIn.below H24.out hb' hp; exact h) hvb0).mono fun e w' ⟨h1, h2⟩ => ⟨by rw [h1, decide_eq_true rfl], HK5.out w' (hb.trans (h2.mono hb.size))⟩
              obtain ⟨y0, y1, y2, y3, y4⟩ := K5 wr.drew (belowD hbt)
              clear hs hnv hnx hRV hRX KW ka kb4 hva0 hvb0 hva1 hvb1 K5 hti
              go_upto_region 18 with fail
              go_region_held3 (fun W => W.cell? ⟨b, o + t * 4 + 2, none⟩ = some (.slice Av nv cv) ∧ W.cell? ⟨b, o + t * 4 + 3, none⟩ = some (.slice Ax nx cx) ∧ W.cell? ⟨b4, o4 + t * 4 + 2, none⟩ = some (.slice Av4 nv cv4) ∧ W.cell? ⟨b4, o4 + t * 4 + 3, none⟩ = some (.slice Ax4 nx cx4) ∧ Below w4.heap.size w4 W)
                (first | exact ⟨y0, y1, y2, y3, y4⟩ | go_keep)
                (first
                  | (go_at_call 12; (with_reducible refine (HSA.out _ (by assumption)).mono ?_); rintro e w8 ⟨rfl, y0, y1, y2, y3, y4⟩)
                  | (go_at_call 12; (with_reducible refine (HSB.out _ (by assumption)).mono ?_); rintro e w9 ⟨rfl, y0, y1, y2, y3, y4⟩))
              go_wp2
              go_roundw
              case rel => exact ⟨t + 1, by go_num, by omega, y4⟩
              case measure => simp [RowKit.intOf]; omega
          · obtain rfl : t = nf + 1 := by omega
            have i0 : decide (((nf + 1 : Nat) : Int) < ((nf + 1 : Nat) : Int)) = false := by simp
            have i2 : decide ((nf : Int) + 1 < (nf : Int) + 1) = false := by simp
            clear htl ht
            go_upto_region 22 with fail
            obtain ⟨n5, hn5⟩ : ∃ n, wr.heap.size = n := ⟨_, rfl⟩
            obtain ⟨nb, hnb⟩ : ∃ s, (⟨#[110, 111, 98, 111, 100, 121, 95, 105, 115, 95, 99, 97, 108, 108, 101, 100, 95, 115, 111]⟩ : ByteArray) = s := ⟨_, rfl⟩
            obtain ⟨nt, hnt⟩ : ∃ s, (⟨#[110, 111, 116, 104, 105, 110, 103, 95, 105, 115, 95, 99, 97, 108, 108, 101, 100, 95, 115, 111]⟩ : ByteArray) = s := ⟨_, rfl⟩
            have HNB : Hid (nobody = nb) := Lib.hid hnb
            have HNT : Hid (nothing = nt) := Lib.hid hnt
            obtain ⟨u1, hu1⟩ : ∃ u, wr.alloc (exX 5 nb (.slice none 0 0)) = u := ⟨_, rfl⟩
            obtain ⟨u2, hu2⟩ : ∃ u, u1.alloc (exX 3 ⟨#[]⟩ (.slice none 0 0)) = u := ⟨_, rfl⟩
            obtain ⟨u3, hu3⟩ : ∃ u, u2.alloc (exX 4 nt (.slice (some ⟨n5 + 1, 0, none⟩) 1 1)) = u := ⟨_, rfl⟩
            rw [hnb, hnt, hn5, hu1, hu2, hu3]
            have z1 : u1.heap.size = n5 + 1 := by rw [← hu1, World.size_alloc, hn5]
            have z2 : u2.heap.size = n5 + 2 := by rw [← hu2, World.size_alloc, z1]
            have z3 : u3.heap.size = n5 + 3 := by rw [← hu3, World.size_alloc, z2]
            have a1 : u1.heap[n5]? = some (exX 5 nb (.slice none 0 0)) := by rw [← hu1, ← hn5]; exact heap_alloc_new _ _
            have a2 : u2.heap[n5]? = some (exX 5 nb (.slice none 0 0)) := by rw [← hu2]; exact blk_alloc a1 _
            have a3 : u3.heap[n5]? = some (exX 5 nb (.slice none 0 0)) := by rw [← hu3]; exact blk_alloc a2 _
            have e2 : u2.heap[n5 + 1]? = some (exX 3 ⟨#[]⟩ (.slice none 0 0)) := by rw [← hu2, ← z1]; exact heap_alloc_new _ _
            have e3 : u3.heap[n5 + 1]? = some (exX 3 ⟨#[]⟩ (.slice none 0 0)) := by rw [← hu3]; exact blk_alloc e2 _
            have i3 : u3.heap[n5 + 1 + 1]? = some (exX 4 nt (.slice (some ⟨n5 + 1, 0, none⟩) 1 1)) := by rw [← hu3, show n5 + 1 + 1 = u2.heap.size by rw [z2]]; exact heap_alloc_new _ _
            have b3 : Below wr.heap.size wr u3 := by
              rw [← hu3, ← hu2, ← hu1]
              exact (((Below.refl _ _).alloc (Nat.le_refl _) _).alloc (by simp) _).alloc (by simp; omega) _
            have be3 : Below we.heap.size we u3 := (HE4.out.trans (hbt.mono HE4.out.size)).trans (b3.mono (Nat.le_trans HE4.out.size hbt.size))
            obtain ⟨qf1, qf2, qf3, qf4⟩ := HQE.out
            have lkb := blk_lt qf1
            have q3b : u3.heap[kb]? = some (.cells #[.slice X nf c, vq] 25) := by
              rw [HVQ.out] at qf1
              exact (be3.block kb lkb).trans qf1
            have q3o : u3.ownsRow w2.heap.size 37 3 (.slice X nf c) nf (cutC cs i) := qf2.kept (grown_none be3) (Classical.em _)
            have B3 : Below w2.heap.size w2 u3 := qf4.trans (be3.mono qf4.size)
            have A3 := Lib.hid a3
            have E3 := Lib.hid e3
            have I3 := Lib.hid i3
            have Q3B := Lib.hid q3b
            have Q3O := Lib.hid q3o
            have HB3 := Lib.hid B3
            have Z3 := Lib.hid z3
            have HKB := Lib.hid qf3
            have HKN : Hid (kb < n5) := Lib.hid (by have := HE4.out.size; have := hbt.size; rw [← hn5]; omega)
            have HFC2 : Hid (∀ W, Below we.heap.size we W ∨ Below w2.heap.size w2 W → fsCells W.heap.size W (cutP p i).fs (cutC cs i)) := Lib.hid fun W h => by
              have hw : Below w2.heap.size w2 W := h.elim (fun h => qf4.trans (h.mono qf4.size)) id
              exact cut_cells (HCS.out.below hw hw.size) HIL.out
            have s0 : u3.cell? ⟨n5, 0, none⟩ = some (.int .i64 5) := (blk_cell a3 0).trans rfl
            have s1 : u3.cell? ⟨n5, 1, none⟩ = some (.int .i64 0) := (blk_cell a3 1).trans rfl
            have s2 : u3.cell? ⟨n5, 2, none⟩ = some (.string nb) := (blk_cell a3 2).trans rfl
            have s3 : u3.cell? ⟨n5, 3, none⟩ = some (.slice none 0 0) := (blk_cell a3 3).trans rfl
            have s4 : u3.cell? ⟨kb, 0, none⟩ = some (.slice X nf c) := (blk_cell q3b 0).trans rfl
            have s5 : u3.cell? ⟨kb, 1, none⟩ = some vq := (blk_cell q3b 1).trans rfl
            have s6 := blk_frozen q3b 1
            have l5 := blk_lt a3
            have lk3 := blk_lt q3b
            clear hn5 hnb hnt hu1 hu2 hu3 z1 z2 z3 a1 a2 a3 e2 e3 i3 b3 be3 qf1 qf2 qf3 qf4 lkb q3b q3o B3 hbt i0 i2
            go_upto_region 23 with fail
            obtain ⟨n7, hn7⟩ : ∃ n, u3.heap.size = n := ⟨_, rfl⟩
            have M6 := main_put HB3.out HKB.out Q3B.out Q3O.out (exX 5 nb (.slice none 0 0)) (stX (.slice (some ⟨n7, 0, none⟩) 1 1)) (.slice (some ⟨n7 + 1, 0, none⟩) 1 1)
            obtain ⟨u6, hu6⟩ : ∃ u, ((u3.setCell ⟨kb, 1, none⟩ (.slice (some ⟨n7 + 1, 0, none⟩) 1 1)).alloc (exX 5 nb (.slice none 0 0))).alloc (stX (.slice (some ⟨n7, 0, none⟩) 1 1)) = u := ⟨_, rfl⟩
            rw [hn7] at M6 ⊢
            rw [hu6] at M6 ⊢
            obtain ⟨m1, m2, m3, m4, m5, m6, m7⟩ := M6
            have hfc6 := HFC2.out u6 (.inr m3)
            have hfl : (cutP p i).fs.length = nf := by rw [(cut_like HIL.out).ok.2, HNF.out]
            have hlk := cut_like (p := p) HIL.out
            have hnbs : nb.size ≤ 9223372036854775807 := HNB.out ▸ (by decide : nobody.size ≤ 9223372036854775807)
            have hpg6 : PgV u6.heap.size u6 (.agg #[.slice X nf c, .slice (some ⟨n7 + 1, 0, none⟩) 1 1]) ⟨(cutP p i).fs, mG⟩ := by
              have h := pg_print (own_fv m2 hfc6 hfl.symm) hfl.symm (ev_x m4 (ev_nought _ _) (by decide) hnbs) m5
              rw [← HNB.out] at h
              exact h
            have h06 : Below w0.heap.size w0 u6 := HB02.out.trans (m3.mono HB02.out.size)
            have hR6 := resolve_p _ ⟨(cutP p i).fs, mG⟩ u6 hpg6 (HTT.out.below h06 HTT.out.1) (Nat.le_trans (like_cnt hlk mG) (by have := HCN.out; have e2 : cntL mG.pts ≤ 100 := (by decide +kernel); omega))
            obtain ⟨E1, hE1⟩ : ∃ E, resErr ⟨(cutP p i).fs, mG⟩ = E := ⟨_, rfl⟩
            rw [hE1] at hR6
            have HR6 := Lib.hid hR6
            have HE1 : Hid (E1 = 4 ∨ 0 < findN (scopes p) nb 0) := Lib.hid (by rw [← hE1, ← HNB.out]; exact apart_g HEE.out hlk)
            have M1 := Lib.hid m1
            have M2 := Lib.hid m2
            have M3 := Lib.hid m3
            have M7 := Lib.hid m7
            have t0 : u6.cell? ⟨kb, 0, none⟩ = some (.slice X nf c) := (blk_cell m1 0).trans rfl
            have t1 : u6.cell? ⟨kb, 1, none⟩ = some (.slice (some ⟨n7 + 1, 0, none⟩) 1 1) := (blk_cell m1 1).trans rfl
            clear hu6 m1 m2 m3 m4 m5 m6 m7 hfc6 hfl hpg6 h06 hR6 hE1 s0 s1 s2 s3 s4 s5 s6 l5 lk3
            go_upto_region 24 with (go_at_call 9; ((with_reducible refine HR6.out.mono ?_); rintro e u7 ⟨v7, rfl, -, h7⟩))
            have b7 : Below w2.heap.size w2 u7 := M3.out.trans (h7.mono M3.out.size)
            have q7 : u7.heap[kb]? = some (.cells #[.slice X nf c, .slice (some ⟨n7 + 1, 0, none⟩) 1 1] 25) := (h7.block kb (blk_lt M1.out)).trans M1.out
            have o7 : u7.ownsRow w2.heap.size 37 3 (.slice X nf c) nf (cutC cs i) := M2.out.kept (grown_none h7) (Classical.em _)
            have i6 := M7.out _ _ I3.out (by have := HKN.out; omega)
            have i7 : u7.heap[n5 + 1 + 1]? = some (exX 4 nt (.slice (some ⟨n5 + 1, 0, none⟩) 1 1)) := (h7.block _ (blk_lt i6)).trans i6
            have e6 := M7.out _ _ E3.out (by have := HKN.out; omega)
            have e7 : u7.heap[n5 + 1]? = some (exX 3 ⟨#[]⟩ (.slice none 0 0)) := (h7.block _ (blk_lt e6)).trans e6
            have a6 := M7.out _ _ A3.out (by have := HKN.out; omega)
            have a7 : u7.heap[n5]? = some (exX 5 nb (.slice none 0 0)) := (h7.block _ (blk_lt a6)).trans a6
            have B7 := Lib.hid b7
            have Q7 := Lib.hid q7
            have O7 := Lib.hid o7
            have E7 := Lib.hid e7
            have A7 := Lib.hid a7
            have s0 : u7.cell? ⟨n5 + 1 + 1, 0, none⟩ = some (.int .i64 4) := (blk_cell i7 0).trans rfl
            have s1 : u7.cell? ⟨n5 + 1 + 1, 1, none⟩ = some (.int .i64 0) := (blk_cell i7 1).trans rfl
            have s2 : u7.cell? ⟨n5 + 1 + 1, 2, none⟩ = some (.string nt) := (blk_cell i7 2).trans rfl
            have s3 : u7.cell? ⟨n5 + 1 + 1, 3, none⟩ = some (.slice (some ⟨n5 + 1, 0, none⟩) 1 1) := (blk_cell i7 3).trans rfl
            have s4 : u7.cell? ⟨kb, 0, none⟩ = some (.slice X nf c) := (blk_cell q7 0).trans rfl
            have s5 : u7.cell? ⟨kb, 1, none⟩ = some (.slice (some ⟨n7 + 1, 0, none⟩) 1 1) := (blk_cell q7 1).trans rfl
            have s6 := blk_frozen q7 1
            have l5 := blk_lt i7
            have lk3 := blk_lt q7
            clear b7 q7 o7 i6 i7 e6 e7 a6 a7 h7 t0 t1 M1 M2 M3 M7
            go_upto_region 25 with fail
            obtain ⟨n8, hn8⟩ : ∃ n, u7.heap.size = n := ⟨_, rfl⟩
            have M8 := main_put B7.out HKB.out Q7.out O7.out (exX 4 nt (.slice (some ⟨n5 + 1, 0, none⟩) 1 1)) (stX (.slice (some ⟨n8, 0, none⟩) 1 1)) (.slice (some ⟨n8 + 1, 0, none⟩) 1 1)
            obtain ⟨u8, hu8⟩ : ∃ u, ((u7.setCell ⟨kb, 1, none⟩ (.slice (some ⟨n8 + 1, 0, none⟩) 1 1)).alloc (exX 4 nt (.slice (some ⟨n5 + 1, 0, none⟩) 1 1))).alloc (stX (.slice (some ⟨n8, 0, none⟩) 1 1)) = u := ⟨_, rfl⟩
            rw [hn8] at M8 ⊢
            rw [hu8] at M8 ⊢
            obtain ⟨m1, m2, m3, m4, m5, m6, m7⟩ := M8
            have hfc8 := HFC2.out u8 (.inr m3)
            have hfl : (cutP p i).fs.length = nf := by rw [(cut_like HIL.out).ok.2, HNF.out]
            have hlk := cut_like (p := p) HIL.out
            have e8 := m7 _ _ E7.out (by have := HKN.out; omega)
            have a8 := m7 _ _ A7.out (by have := HKN.out; omega)
            have hnts : nt.size ≤ 9223372036854775807 := HNT.out ▸ (by decide : nothing.size ≤ 9223372036854775807)
            have hpg8 : PgV u8.heap.size u8 (.agg #[.slice X nf c, .slice (some ⟨n8 + 1, 0, none⟩) 1 1]) ⟨(cutP p i).fs, mH⟩ := by
              have h := pg_print (own_fv m2 hfc8 hfl.symm) hfl.symm (ev_x m4 (ev_x e8 (ev_nought _ _) (by decide) (by decide)) (by decide) hnts) m5
              rw [← HNT.out] at h
              exact h
            have h08 : Below w0.heap.size w0 u8 := HB02.out.trans (m3.mono HB02.out.size)
            have hR8 := resolve_p _ ⟨(cutP p i).fs, mH⟩ u8 hpg8 (HTT.out.below h08 HTT.out.1) (Nat.le_trans (like_cnt hlk mH) (by have := HCN.out; have e2 : cntL mH.pts ≤ 100 := (by decide +kernel); omega))
            rw [apart_h HEE.out hlk] at hR8
            have HR8 := Lib.hid hR8
            have M3 := Lib.hid m3
            have t0 : u8.cell? ⟨kb, 0, none⟩ = some (.slice X nf c) := (blk_cell m1 0).trans rfl
            have t1 : u8.cell? ⟨kb, 1, none⟩ = some (.slice (some ⟨n8 + 1, 0, none⟩) 1 1) := (blk_cell m1 1).trans rfl
            have A8 := Lib.hid a8
            clear hu8 m1 m2 m3 m4 m5 m6 m7 hfc8 hfl hpg8 h08 hR8 e8 a8 s0 s1 s2 s3 s4 s5 s6 l5 lk3
            go_upto_region 26 with (go_at_call 9; ((with_reducible refine HR8.out.mono ?_); rintro e u9 ⟨v9, rfl, -, h9⟩))
            have b9 : Below w2.heap.size w2 u9 := M3.out.trans (h9.mono M3.out.size)
            have hfin : Below n0 w u9 := HB0.out.trans ((HB02.out.trans (b9.mono HB02.out.size)).mono (by rw [HZ0.out]; omega))
            have HFIN := Lib.hid hfin
            have a9 : u9.heap[n5]? = some (exX 5 nb (.slice none 0 0)) := (h9.block _ (blk_lt A8.out)).trans A8.out
            have s2 : u9.cell? ⟨n5, 2, none⟩ = some (.string nb) := (blk_cell a9 2).trans rfl
            by_cases hE4 : E1 = 4
            · have r0 : (E1 == 4) = true := by simp [hE4]
              clear t0 t1 b9 hfin a9 h9 hE4
              go_wp2
              go_ret
              exact ⟨rfl, HFIN.out⟩
            · have r0 : (E1 == 4) = false := by simpa using hE4
              have hp0 := HE1.out.resolve_left hE4
              have hfd := find_any w2.heap.size (.slice (some ⟨b, o, none⟩) (nf + 1) k) (scopes p) nb u9 b9.size (HV.out.below b9 (Nat.le_refl _))
              obtain ⟨FN, hFN⟩ : ∃ z, findN (scopes p) nb 0 = z := ⟨_, rfl⟩
              rw [hFN] at hp0 hfd
              have HFD := Lib.hid hfd
              have r1 : decide (0 < FN) = true := decide_eq_true hp0
              clear t0 t1 b9 hfin a9 h9 hE4 hfd hFN hp0
              go_wp2_with (go_at_call 13; ((with_reducible refine HFD.out.mono ?_); rintro e uu ⟨rfl, hu⟩))
              go_ret
              exact ⟨rfl, HFIN.out.trans (hu.mono (by have := HFIN.out.size; rw [HN0.out] at this; exact this))⟩
      · obtain ⟨j, hij⟩ : ∃ j, i = j + 1 := ⟨i - 1, by omega⟩
        have t0 : ((i : Int) == 0) = false := by simp; omega
        obtain ⟨g, c9, e9, hg1, hg2, hg3, hg4⟩ := own_cells HQ2.out (by omega)
        injection e9 with e9 _ e9'
        subst e9 e9'
        have hjn : j < nf := by omega
        have hjn2 : (j : Int) < (nf : Int) := by omega
        have hlen : j * 3 + 2 < nf * 3 := by omega
        have ku := HQ2.out.cellAt (j * 3 + 2) hlen
        rw [List.getElem?_eq_getElem (by rw [HCL.out]; exact hlen)] at ku
        have kfz := HQ2.out.frozenAt (j * 3 + 2)
        have kst := HQ2.out.stored (j * 3 + 2) (.slice none 0 0)
        have HST := Lib.hid kst
        have e7 : IntKind.i64.wrap ((i : Int) - 1) = (j : Int) := by rw [IntWalk.i64_in _ (by omega)]; omega
        have hgw : w2.heap.size ≤ g := (HQ2.out.lt g rfl).1
        have hne : kb ≠ g := fun e => own_ne HQ2.out HQ1.out (by decide) (by rw [e]; rfl)
        have HIJ := Lib.hid hij
        clear hg4 kst hij
        go_upto_region 12 with fail
        obtain ⟨we, hwe⟩ : ∃ W, wc.setCell ⟨g, j * 3 + 2, none⟩ (.slice none 0 0) = W := ⟨_, rfl⟩
        have QE : QEnd w2 nf (cutC cs i) (cutV (.slice A' nm cap') i) kb (some ⟨g, 0, none⟩) c we := by
          rw [← hwe, HIJ.out]
          exact ⟨(Below.heap_setCell _ _ _ _ hne).trans HQ1.out, HST.out.1, hq3, HQ4.out.setCell hgw _⟩
        rw [hwe]
        clear hwe hi0 t0 ky0 ky1 kf1 ku kfz HST e7 hgw hne HIJ hjn hjn2 hlen hg1 hg2 hg3
        generalize hXX : (some ⟨g, 0, none⟩ : Option Addr) = X at *
        clear hXX
        obtain ⟨qe1, qe2, qe3, qe4⟩ := id QE
        have hil : i ≤ p.fs.length := by rw [HNF.out]; omega
        have hb0e : Below w0.heap.size w0 we := HB02.out.trans (qe4.mono HB02.out.size)
        have hfl : (cutP p i).fs.length = nf := by rw [(cut_like hil).ok.2, HNF.out]
        have hfc : fsCells we.heap.size we (cutP p i).fs (cutC cs i) := cut_cells (HCS.out.below qe4 qe4.size) hil
        have hfv : FV we.heap.size we (.slice X nf c) (cutP p i).fs := own_fv qe2 hfc hfl.symm
        have hpg : PgV we.heap.size we (.agg #[.slice X nf c, cutV (.slice A' nm cap') i]) (cutP p i) := cut_pg hfv hfl.symm (HM.out.below hb0e hb0e.size) HNM.out.symm
        obtain ⟨g1, g2, g3⟩ := cutP_ok HEE.out hil
        have hR2 := resolve_p _ (cutP p i) we hpg (HTT.out.below hb0e HTT.out.1) (Nat.le_trans (cut_cnt hil) (by have := HCN.out; omega))
        rw [g1, (once_ok g1).1] at hR2
        have HR2 := Lib.hid hR2
        have HG2 : Hid ((scopes (cutP p i)).length = nf + 1) := Lib.hid (g2.trans HNN.out)
        have HG3 := Lib.hid g3
        have HFC := Lib.hid hfc
        have HB0E := Lib.hid hb0e
        have HQE := Lib.hid QE
        have HIL := Lib.hid hil
        obtain ⟨vq, hvq⟩ : ∃ v, cutV (.slice A' nm cap') i = v := ⟨_, rfl⟩
        rw [hvq] at HR2 qe1
        have y0 : we.cell? ⟨kb, 0, none⟩ = some (.slice X nf c) := (blk_cell qe1 0).trans rfl
        have y1 : we.cell? ⟨kb, 1, none⟩ = some vq := (blk_cell qe1 1).trans rfl
        have HVQ := Lib.hid hvq
        clear qe1 qe2 hil hb0e hfl hfc hfv hpg g1 g2 g3 hR2 QE hvq
        go_upto_region 13 with (go_at_call 9; ((with_reducible refine HR2.out.mono ?_); rintro e w4 ⟨v4, rfl, hv4, h4⟩))
        have hv5 : RowV (SpsIn w4.heap.size w4 (scopes (cutP p i))) w4.heap.size (nf + 1) v4 := by rw [← HG2.out]; exact hv4
        obtain ⟨b4, o4, k4, rfl, hlt4, hin4⟩ := hv5.get
        have h24 : Below w2.heap.size w2 w4 := qe4.trans (h4.mono qe4.size)
        have H24 := Lib.hid h24
        have HE4 := Lib.hid h4
        have K4 := Lib.hid (fun (t : Nat) (s : Sp) (hs : (scopes (cutP p i))[t]? = some s) => sps_get _ b4 o4 hin4 t s hs)
        obtain ⟨hk4A, hk4B⟩ : nf + 1 ≤ k4 ∧ k4 ≤ 9223372036854775807 := by
          obtain ⟨A9, c9, e9, h91, h92, _⟩ := hv5
          injection e9 with _ _ e9
          subst e9
          exact ⟨h91, h92⟩
        clear hv4 hv5 hin4 h24 y0 y1 qe4 h4
        go_upto_region 16 with fail
        go_loopw [11] (fun u wr => ORel2 w4 (nf + 1) u wr) (fun u _ => nf + 1 - (RowKit.intOf u).toNat)
        case atStart => exact ⟨0, rfl, Nat.zero_le _, Below.refl _ _⟩
        case round =>
          obtain ⟨t, rfl, ht, hbt⟩ := hrel
          by_cases htl : t < nf + 1
          · have i0 : decide ((t : Int) < ((nf + 1 : Nat) : Int)) = true := decide_eq_true (by omega)
            by_cases hti : t = i
            · have i2 : ((t : Int) != (i : Int)) = false := by simp [hti]
              clear hti
              go_upto_region 18 with fail
              go_quiet (fail)
              go_wp2
              go_roundw
              case rel => exact ⟨t + 1, by go_num, by omega, hbt.trans ((drewN_b _ _).mono hbt.size)⟩
              case measure => simp [RowKit.intOf]; omega
            · have i2 : ((t : Int) != (i : Int)) = true := by simp; omega
              obtain ⟨⟨sn, np, V, U⟩, hs⟩ : ∃ s, (scopes p)[t]? = some s := ⟨(scopes p)[t]'(by rw [HNN.out]; exact htl), List.getElem?_eq_getElem _⟩
              obtain ⟨Av, nv, cv, Ax, nx, cx, hnv, hnx, hRV, hRX, KW⟩ := HK.out t _ hs
              simp only at hnv hnx hRV hRX
              obtain ⟨-, -, ⟨va, ka, hva⟩, ⟨vb, kb4, hvb⟩, -⟩ := K4.out t _ ((HG3.out t hti).trans hs)
              simp only at hva hvb
              have hva0 := hva
              have hvb0 := hvb
              rw [← hnv] at hva
              rw [← hnx] at hvb
              obtain ⟨Av4, cv4, rfl, hva1⟩ := hva
              obtain ⟨Ax4, cx4, rfl, hvb1⟩ := hvb
              have K5 : ∀ W, Below w4.heap.size w4 W → W.cell? ⟨b, o + t * 4 + 2, none⟩ = some (.slice Av nv cv) ∧ W.cell? ⟨b, o + t * 4 + 3, none⟩ = some (.slice Ax nx cx) ∧ W.cell? ⟨b4, o4 + t * 4 + 2, none⟩ = some (.slice Av4 nv cv4) ∧ W.cell? ⟨b4, o4 + t * 4 + 3, none⟩ = some (.slice Ax4 nx cx4) ∧ Below w4.heap.size w4 W := fun W hb => by
                obtain ⟨t2, t3⟩ := KW W (H24.out.trans (hb.mono H24.out.size))
                exact ⟨t2, t3, (hb.cell (p := ⟨b4, _, none⟩) hlt4).trans ka, (hb.cell (p := ⟨b4, _, none⟩) hlt4).trans kb4, hb⟩
              have HK5 := Lib.hid K5
              have HSA : Hid (∀ W, Below w4.heap.size w4 W → Calls Tryd.prog 12 #[.slice Av nv cv, .slice Av4 nv cv4] W fun e w' => e = .returned (.bool true) ∧ w'.cell? ⟨b, o + t * 4 + 2, none⟩ = some (.slice Av nv cv) ∧ w'.cell? ⟨b, o + t * 4 + 3, none⟩ = some (.slice Ax nx cx) ∧ w'.cell? ⟨b4, o4 + t * 4 + 2, none⟩ = some (.slice Av4 nv cv4) ∧ w'.cell? ⟨b4, o4 + t * 4 + 3, none⟩ = some (.slice Ax4 nx cx4) ∧ Below w4.heap.size w4 w') := Lib.hid fun W hb =>
                (same_any w4.heap.size _ _ V V w4 W hb hb.size (by have h := hRV.imp H24.out.size fun _ _ hb' hp => PsIn.below H24.out hb' hp; exact h) hva0).mono fun e w' ⟨h1, h2⟩ => ⟨by rw [h1, decide_eq_true rfl], HK5.out w' (hb.trans (h2.mono hb.size))⟩
              have HSB : Hid (∀ W, Below w4.heap.size w4 W → Calls Tryd.prog 12 #[.slice Ax nx cx, .slice Ax4 nx cx4] W fun e w' => e = .returned (.bool true) ∧ w'.cell? ⟨b, o + t * 4 + 2, none⟩ = some (.slice Av nv cv) ∧ w'.cell? ⟨b, o + t * 4 + 3, none⟩ = some (.slice Ax nx cx) ∧ w'.cell? ⟨b4, o4 + t * 4 + 2, none⟩ = some (.slice Av4 nv cv4) ∧ w'.cell? ⟨b4, o4 + t * 4 + 3, none⟩ = some (.slice Ax4 nx cx4) ∧ Below w4.heap.size w4 w') := Lib.hid fun W hb =>
                (same_any w4.heap.size _ _ U U w4 W hb hb.size (by have h := hRX.imp H24.out.size fun _ _ hb' hp => PsIn.below H24.out hb' hp; exact h) hvb0).mono fun e w' ⟨h1, h2⟩ => ⟨by rw [h1, decide_eq_true rfl], HK5.out w' (hb.trans (h2.mono hb.size))⟩
              obtain ⟨y0, y1, y2, y3, y4⟩ := K5 wr.drew (belowD hbt)
              clear hs hnv hnx hRV hRX KW ka kb4 hva0 hvb0 hva1 hvb1 K5 hti
              go_upto_region 18 with fail
              go_region_held3 (fun W => W.cell? ⟨b, o + t * 4 + 2, none⟩ = some (.slice Av nv cv) ∧ W.cell? ⟨b, o + t * 4 + 3, none⟩ = some (.slice Ax nx cx) ∧ W.cell? ⟨b4, o4 + t * 4 + 2, none⟩ = some (.slice Av4 nv cv4) ∧ W.cell? ⟨b4, o4 + t * 4 + 3, none⟩ = some (.slice Ax4 nx cx4) ∧ Below w4.heap.size w4 W)
                (first | exact ⟨y0, y1, y2, y3, y4⟩ | go_keep)
                (first
                  | (go_at_call 12; (with_reducible refine (HSA.out _ (by assumption)).mono ?_); rintro e w8 ⟨rfl, y0, y1, y2, y3, y4⟩)
                  | (go_at_call 12; (with_reducible refine (HSB.out _ (by assumption)).mono ?_); rintro e w9 ⟨rfl, y0, y1, y2, y3, y4⟩))
              go_wp2
              go_roundw
              case rel => exact ⟨t + 1, by go_num, by omega, y4⟩
              case measure => simp [RowKit.intOf]; omega
          · obtain rfl : t = nf + 1 := by omega
            have i0 : decide (((nf + 1 : Nat) : Int) < ((nf + 1 : Nat) : Int)) = false := by simp
            have i2 : decide ((nf : Int) + 1 < (nf : Int) + 1) = false := by simp
            clear htl ht
            go_upto_region 22 with fail
            obtain ⟨n5, hn5⟩ : ∃ n, wr.heap.size = n := ⟨_, rfl⟩
            obtain ⟨nb, hnb⟩ : ∃ s, (⟨#[110, 111, 98, 111, 100, 121, 95, 105, 115, 95, 99, 97, 108, 108, 101, 100, 95, 115, 111]⟩ : ByteArray) = s := ⟨_, rfl⟩
            obtain ⟨nt, hnt⟩ : ∃ s, (⟨#[110, 111, 116, 104, 105, 110, 103, 95, 105, 115, 95, 99, 97, 108, 108, 101, 100, 95, 115, 111]⟩ : ByteArray) = s := ⟨_, rfl⟩
            have HNB : Hid (nobody = nb) := Lib.hid hnb
            have HNT : Hid (nothing = nt) := Lib.hid hnt
            obtain ⟨u1, hu1⟩ : ∃ u, wr.alloc (exX 5 nb (.slice none 0 0)) = u := ⟨_, rfl⟩
            obtain ⟨u2, hu2⟩ : ∃ u, u1.alloc (exX 3 ⟨#[]⟩ (.slice none 0 0)) = u := ⟨_, rfl⟩
            obtain ⟨u3, hu3⟩ : ∃ u, u2.alloc (exX 4 nt (.slice (some ⟨n5 + 1, 0, none⟩) 1 1)) = u := ⟨_, rfl⟩
            rw [hnb, hnt, hn5, hu1, hu2, hu3]
            have z1 : u1.heap.size = n5 + 1 := by rw [← hu1, World.size_alloc, hn5]
            have z2 : u2.heap.size = n5 + 2 := by rw [← hu2, World.size_alloc, z1]
            have z3 : u3.heap.size = n5 + 3 := by rw [← hu3, World.size_alloc, z2]
            have a1 : u1.heap[n5]? = some (exX 5 nb (.slice none 0 0)) := by rw [← hu1, ← hn5]; exact heap_alloc_new _ _
            have a2 : u2.heap[n5]? = some (exX 5 nb (.slice none 0 0)) := by rw [← hu2]; exact blk_alloc a1 _
            have a3 : u3.heap[n5]? = some (exX 5 nb (.slice none 0 0)) := by rw [← hu3]; exact blk_alloc a2 _
            have e2 : u2.heap[n5 + 1]? = some (exX 3 ⟨#[]⟩ (.slice none 0 0)) := by rw [← hu2, ← z1]; exact heap_alloc_new _ _
            have e3 : u3.heap[n5 + 1]? = some (exX 3 ⟨#[]⟩ (.slice none 0 0)) := by rw [← hu3]; exact blk_alloc e2 _
            have i3 : u3.heap[n5 + 1 + 1]? = some (exX 4 nt (.slice (some ⟨n5 + 1, 0, none⟩) 1 1)) := by rw [← hu3, show n5 + 1 + 1 = u2.heap.size by rw [z2]]; exact heap_alloc_new _ _
            have b3 : Below wr.heap.size wr u3 := by
              rw [← hu3, ← hu2, ← hu1]
              exact (((Below.refl _ _).alloc (Nat.le_refl _) _).alloc (by simp) _).alloc (by simp; omega) _
            have be3 : Below we.heap.size we u3 := (HE4.out.trans (hbt.mono HE4.out.size)).trans (b3.mono (Nat.le_trans HE4.out.size hbt.size))
            obtain ⟨qf1, qf2, qf3, qf4⟩ := HQE.out
            have lkb := blk_lt qf1
            have q3b : u3.heap[kb]? = some (.cells #[.slice X nf c, vq] 25) := by
              rw [HVQ.out] at qf1
              exact (be3.block kb lkb).trans qf1
            have q3o : u3.ownsRow w2.heap.size 37 3 (.slice X nf c) nf (cutC cs i) := qf2.kept (grown_none be3) (Classical.em _)
            have B3 : Below w2.heap.size w2 u3 := qf4.trans (be3.mono qf4.size)
            have A3 := Lib.hid a3
            have E3 := Lib.hid e3
            have I3 := Lib.hid i3
            have Q3B := Lib.hid q3b
            have Q3O := Lib.hid q3o
            have HB3 := Lib.hid B3
            have Z3 := Lib.hid z3
            have HKB := Lib.hid qf3
            have HKN : Hid (kb < n5) := Lib.hid (by have := HE4.out.size; have := hbt.size; rw [← hn5]; omega)
            have HFC2 : Hid (∀ W, Below we.heap.size we W ∨ Below w2.heap.size w2 W → fsCells W.heap.size W (cutP p i).fs (cutC cs i)) := Lib.hid fun W h => by
              have hw : Below w2.heap.size w2 W := h.elim (fun h => qf4.trans (h.mono qf4.size)) id
              exact cut_cells (HCS.out.below hw hw.size) HIL.out
            have s0 : u3.cell? ⟨n5, 0, none⟩ = some (.int .i64 5) := (blk_cell a3 0).trans rfl
            have s1 : u3.cell? ⟨n5, 1, none⟩ = some (.int .i64 0) := (blk_cell a3 1).trans rfl
            have s2 : u3.cell? ⟨n5, 2, none⟩ = some (.string nb) := (blk_cell a3 2).trans rfl
            have s3 : u3.cell? ⟨n5, 3, none⟩ = some (.slice none 0 0) := (blk_cell a3 3).trans rfl
            have s4 : u3.cell? ⟨kb, 0, none⟩ = some (.slice X nf c) := (blk_cell q3b 0).trans rfl
            have s5 : u3.cell? ⟨kb, 1, none⟩ = some vq := (blk_cell q3b 1).trans rfl
            have s6 := blk_frozen q3b 1
            have l5 := blk_lt a3
            have lk3 := blk_lt q3b
            clear hn5 hnb hnt hu1 hu2 hu3 z1 z2 z3 a1 a2 a3 e2 e3 i3 b3 be3 qf1 qf2 qf3 qf4 lkb q3b q3o B3 hbt i0 i2
            go_upto_region 23 with fail
            obtain ⟨n7, hn7⟩ : ∃ n, u3.heap.size = n := ⟨_, rfl⟩
            have M6 := main_put HB3.out HKB.out Q3B.out Q3O.out (exX 5 nb (.slice none 0 0)) (stX (.slice (some ⟨n7, 0, none⟩) 1 1)) (.slice (some ⟨n7 + 1, 0, none⟩) 1 1)
            obtain ⟨u6, hu6⟩ : ∃ u, ((u3.setCell ⟨kb, 1, none⟩ (.slice (some ⟨n7 + 1, 0, none⟩) 1 1)).alloc (exX 5 nb (.slice none 0 0))).alloc (stX (.slice (some ⟨n7, 0, none⟩) 1 1)) = u := ⟨_, rfl⟩
            rw [hn7] at M6 ⊢
            rw [hu6] at M6 ⊢
            obtain ⟨m1, m2, m3, m4, m5, m6, m7⟩ := M6
            have hfc6 := HFC2.out u6 (.inr m3)
            have hfl : (cutP p i).fs.length = nf := by rw [(cut_like HIL.out).ok.2, HNF.out]
            have hlk := cut_like (p := p) HIL.out
            have hnbs : nb.size ≤ 9223372036854775807 := HNB.out ▸ (by decide : nobody.size ≤ 9223372036854775807)
            have hpg6 : PgV u6.heap.size u6 (.agg #[.slice X nf c, .slice (some ⟨n7 + 1, 0, none⟩) 1 1]) ⟨(cutP p i).fs, mG⟩ := by
              have h := pg_print (own_fv m2 hfc6 hfl.symm) hfl.symm (ev_x m4 (ev_nought _ _) (by decide) hnbs) m5
              rw [← HNB.out] at h
              exact h
            have h06 : Below w0.heap.size w0 u6 := HB02.out.trans (m3.mono HB02.out.size)
            have hR6 := resolve_p _ ⟨(cutP p i).fs, mG⟩ u6 hpg6 (HTT.out.below h06 HTT.out.1) (Nat.le_trans (like_cnt hlk mG) (by have := HCN.out; have e2 : cntL mG.pts ≤ 100 := (by decide +kernel); omega))
            obtain ⟨E1, hE1⟩ : ∃ E, resErr ⟨(cutP p i).fs, mG⟩ = E := ⟨_, rfl⟩
            rw [hE1] at hR6
            have HR6 := Lib.hid hR6
            have HE1 : Hid (E1 = 4 ∨ 0 < findN (scopes p) nb 0) := Lib.hid (by rw [← hE1, ← HNB.out]; exact apart_g HEE.out hlk)
            have M1 := Lib.hid m1
            have M2 := Lib.hid m2
            have M3 := Lib.hid m3
            have M7 := Lib.hid m7
            have t0 : u6.cell? ⟨kb, 0, none⟩ = some (.slice X nf c) := (blk_cell m1 0).trans rfl
            have t1 : u6.cell? ⟨kb, 1, none⟩ = some (.slice (some ⟨n7 + 1, 0, none⟩) 1 1) := (blk_cell m1 1).trans rfl
            clear hu6 m1 m2 m3 m4 m5 m6 m7 hfc6 hfl hpg6 h06 hR6 hE1 s0 s1 s2 s3 s4 s5 s6 l5 lk3
            go_upto_region 24 with (go_at_call 9; ((with_reducible refine HR6.out.mono ?_); rintro e u7 ⟨v7, rfl, -, h7⟩))
            have b7 : Below w2.heap.size w2 u7 := M3.out.trans (h7.mono M3.out.size)
            have q7 : u7.heap[kb]? = some (.cells #[.slice X nf c, .slice (some ⟨n7 + 1, 0, none⟩) 1 1] 25) := (h7.block kb (blk_lt M1.out)).trans M1.out
            have o7 : u7.ownsRow w2.heap.size 37 3 (.slice X nf c) nf (cutC cs i) := M2.out.kept (grown_none h7) (Classical.em _)
            have i6 := M7.out _ _ I3.out (by have := HKN.out; omega)
            have i7 : u7.heap[n5 + 1 + 1]? = some (exX 4 nt (.slice (some ⟨n5 + 1, 0, none⟩) 1 1)) := (h7.block _ (blk_lt i6)).trans i6
            have e6 := M7.out _ _ E3.out (by have := HKN.out; omega)
            have e7 : u7.heap[n5 + 1]? = some (exX 3 ⟨#[]⟩ (.slice none 0 0)) := (h7.block _ (blk_lt e6)).trans e6
            have a6 := M7.out _ _ A3.out (by have := HKN.out; omega)
            have a7 : u7.heap[n5]? = some (exX 5 nb (.slice none 0 0)) := (h7.block _ (blk_lt a6)).trans a6
            have B7 := Lib.hid b7
            have Q7 := Lib.hid q7
            have O7 := Lib.hid o7
            have E7 := Lib.hid e7
            have A7 := Lib.hid a7
            have s0 : u7.cell? ⟨n5 + 1 + 1, 0, none⟩ = some (.int .i64 4) := (blk_cell i7 0).trans rfl
            have s1 : u7.cell? ⟨n5 + 1 + 1, 1, none⟩ = some (.int .i64 0) := (blk_cell i7 1).trans rfl
            have s2 : u7.cell? ⟨n5 + 1 + 1, 2, none⟩ = some (.string nt) := (blk_cell i7 2).trans rfl
            have s3 : u7.cell? ⟨n5 + 1 + 1, 3, none⟩ = some (.slice (some ⟨n5 + 1, 0, none⟩) 1 1) := (blk_cell i7 3).trans rfl
            have s4 : u7.cell? ⟨kb, 0, none⟩ = some (.slice X nf c) := (blk_cell q7 0).trans rfl
            have s5 : u7.cell? ⟨kb, 1, none⟩ = some (.slice (some ⟨n7 + 1, 0, none⟩) 1 1) := (blk_cell q7 1).trans rfl
            have s6 := blk_frozen q7 1
            have l5 := blk_lt i7
            have lk3 := blk_lt q7
            clear b7 q7 o7 i6 i7 e6 e7 a6 a7 h7 t0 t1 M1 M2 M3 M7
            go_upto_region 25 with fail
            obtain ⟨n8, hn8⟩ : ∃ n, u7.heap.size = n := ⟨_, rfl⟩
            have M8 := main_put B7.out HKB.out Q7.out O7.out (exX 4 nt (.slice (some ⟨n5 + 1, 0, none⟩) 1 1)) (stX (.slice (some ⟨n8, 0, none⟩) 1 1)) (.slice (some ⟨n8 + 1, 0, none⟩) 1 1)
            obtain ⟨u8, hu8⟩ : ∃ u, ((u7.setCell ⟨kb, 1, none⟩ (.slice (some ⟨n8 + 1, 0, none⟩) 1 1)).alloc (exX 4 nt (.slice (some ⟨n5 + 1, 0, none⟩) 1 1))).alloc (stX (.slice (some ⟨n8, 0, none⟩) 1 1)) = u := ⟨_, rfl⟩
            rw [hn8] at M8 ⊢
            rw [hu8] at M8 ⊢
            obtain ⟨m1, m2, m3, m4, m5, m6, m7⟩ := M8
            have hfc8 := HFC2.out u8 (.inr m3)
            have hfl : (cutP p i).fs.length = nf := by rw [(cut_like HIL.out).ok.2, HNF.out]
            have hlk := cut_like (p := p) HIL.out
            have e8 := m7 _ _ E7.out (by have := HKN.out; omega)
            have a8 := m7 _ _ A7.out (by have := HKN.out; omega)
            have hnts : nt.size ≤ 9223372036854775807 := HNT.out ▸ (by decide : nothing.size ≤ 9223372036854775807)
            have hpg8 : PgV u8.heap.size u8 (.agg #[.slice X nf c, .slice (some ⟨n8 + 1, 0, none⟩) 1 1]) ⟨(cutP p i).fs, mH⟩ := by
              have h := pg_print (own_fv m2 hfc8 hfl.symm) hfl.symm (ev_x m4 (ev_x e8 (ev_nought _ _) (by decide) (by decide)) (by decide) hnts) m5
              rw [← HNT.out] at h
              exact h
            have h08 : Below w0.heap.size w0 u8 := HB02.out.trans (m3.mono HB02.out.size)
            have hR8 := resolve_p _ ⟨(cutP p i).fs, mH⟩ u8 hpg8 (HTT.out.below h08 HTT.out.1) (Nat.le_trans (like_cnt hlk mH) (by have := HCN.out; have e2 : cntL mH.pts ≤ 100 := (by decide +kernel); omega))
            rw [apart_h HEE.out hlk] at hR8
            have HR8 := Lib.hid hR8
            have M3 := Lib.hid m3
            have t0 : u8.cell? ⟨kb, 0, none⟩ = some (.slice X nf c) := (blk_cell m1 0).trans rfl
            have t1 : u8.cell? ⟨kb, 1, none⟩ = some (.slice (some ⟨n8 + 1, 0, none⟩) 1 1) := (blk_cell m1 1).trans rfl
            have A8 := Lib.hid a8
            clear hu8 m1 m2 m3 m4 m5 m6 m7 hfc8 hfl hpg8 h08 hR8 e8 a8 s0 s1 s2 s3 s4 s5 s6 l5 lk3
            go_upto_region 26 with (go_at_call 9; ((with_reducible refine HR8.out.mono ?_); rintro e u9 ⟨v9, rfl, -, h9⟩))
            have b9 : Below w2.heap.size w2 u9 := M3.out.trans (h9.mono M3.out.size)
            have hfin : Below n0 w u9 := HB0.out.trans ((HB02.out.trans (b9.mono HB02.out.size)).mono (by rw [HZ0.out]; omega))
            have HFIN := Lib.hid hfin
            have a9 : u9.heap[n5]? = some (exX 5 nb (.slice none 0 0)) := (h9.block _ (blk_lt A8.out)).trans A8.out
            have s2 : u9.cell? ⟨n5, 2, none⟩ = some (.string nb) := (blk_cell a9 2).trans rfl
            by_cases hE4 : E1 = 4
            · have r0 : (E1 == 4) = true := by simp [hE4]
              clear t0 t1 b9 hfin a9 h9 hE4
              go_wp2
              go_ret
              exact ⟨rfl, HFIN.out⟩
            · have r0 : (E1 == 4) = false := by simpa using hE4
              have hp0 := HE1.out.resolve_left hE4
              have hfd := find_any w2.heap.size (.slice (some ⟨b, o, none⟩) (nf + 1) k) (scopes p) nb u9 b9.size (HV.out.below b9 (Nat.le_refl _))
              obtain ⟨FN, hFN⟩ : ∃ z, findN (scopes p) nb 0 = z := ⟨_, rfl⟩
              rw [hFN] at hp0 hfd
              have HFD := Lib.hid hfd
              have r1 : decide (0 < FN) = true := decide_eq_true hp0
              clear t0 t1 b9 hfin a9 h9 hE4 hfd hFN hp0
              go_wp2_with (go_at_call 13; ((with_reducible refine HFD.out.mono ?_); rintro e uu ⟨rfl, hu⟩))
              go_ret
              exact ⟨rfl, HFIN.out.trans (hu.mono (by have := HFIN.out.size; rw [HN0.out] at this; exact this))⟩
  · have hq : resP p = [] := by unfold resP; rw [if_neg hE]
    have hne : (resErr p != 0) = true := by simpa using hE
    have HBE := Lib.hid (HB0.out.trans (b02.mono (by rw [HZ0.out]; omega)))
    clear hE hq b02 b1 b2 hv2
    generalize resErr p = E at *
    go_wp2
    go_ret
    exact ⟨rfl, HBE.out⟩
end Go.Proofs.YtaajolemjgdfnaaDoor
