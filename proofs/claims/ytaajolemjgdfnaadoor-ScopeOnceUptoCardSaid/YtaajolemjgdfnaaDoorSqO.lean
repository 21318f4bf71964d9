/-
  ScopeOnce's walk: each name has one place, and is one thing.
-/
import Derived.Test.YtaajolemjgdfnaaDoorSqU
import Derived.Deep.RegionHeld3
namespace Go.Proofs.YtaajolemjgdfnaaDoor
open Go Go.RowKit Go.Lib

/-- A scope's cells. -/
theorem sps_get {B : Nat} {W : World} : ∀ (l : List Sp) (b o : Nat), SpsIn B W l b o → ∀ i s, l[i]? = some s → W.cell? ⟨b, o + i * 4, none⟩ = some (.string s.s) ∧ W.cell? ⟨b, o + i * 4 + 1, none⟩ = some (.int .i64 s.n) ∧ (∃ v, W.cell? ⟨b, o + i * 4 + 2, none⟩ = some v ∧ RowV (PsIn W s.vs) B s.vs.length v) ∧ (∃ v, W.cell? ⟨b, o + i * 4 + 3, none⟩ = some v ∧ RowV (PsIn W s.xs) B s.xs.length v) ∧ s.s.size ≤ 9223372036854775807
  | [], _, _, _, _, _, h => by simp at h
  | x :: r, b, o, hp, i, s, h => by
    obtain ⟨h0, h1, h2, h3, h4, h5⟩ := hp
    cases i with
    | zero =>
      simp at h
      subst h
      rw [Nat.zero_mul]
      exact ⟨h0, h1, h2, h3, h4⟩
    | succ i =>
      have := sps_get r b (o + 4) h5 i s (by simpa using h)
      rw [show o + 4 + i * 4 = o + (i + 1) * 4 by omega] at this
      exact this
theorem fns_get {B : Nat} {W : World} : ∀ (l : List Fn) (b o : Nat), FsIn B W l b o → ∀ i f, l[i]? = some f → W.cell? ⟨b, o + i * 3, none⟩ = some (.string f.s) ∧ (∃ v, W.cell? ⟨b, o + i * 3 + 1, none⟩ = some v ∧ RowV (PsIn W f.ps) B f.ps.length v) ∧ (∃ v, W.cell? ⟨b, o + i * 3 + 2, none⟩ = some v ∧ SV B W v f.b) ∧ f.s.size ≤ 9223372036854775807
  | [], _, _, _, _, _, h => by simp at h
  | x :: r, b, o, hp, i, f, h => by
    obtain ⟨h0, h1, h2, h3, h4⟩ := hp
    cases i with
    | zero =>
      simp at h
      subst h
      rw [Nat.zero_mul]
      exact ⟨h0, h1, h2, h3⟩
    | succ i =>
      have := fns_get r b (o + 3) h4 i f (by simpa using h)
      rw [show o + 3 + i * 3 = o + (i + 1) * 3 by omega] at this
      exact this
theorem ps_at {W : World} : ∀ (l : List ByteArray) (b o : Nat), PsIn W l b o → ∀ i s, l[i]? = some s → W.cell? ⟨b, o + i, none⟩ = some (.string s) ∧ s.size ≤ 9223372036854775807
  | [], _, _, _, i, s, h => by simp at h
  | x :: r, b, o, hp, i, s, h => by
    obtain ⟨h0, h1, h2⟩ := hp
    cases i with
    | zero =>
      simp at h
      subst h
      exact ⟨h0, h1⟩
    | succ i =>
      have := ps_at r b (o + 1) h2 i s (by simpa using h)
      rw [show o + 1 + i = o + (i + 1) by omega] at this
      exact this
/-- What a call appends of a row of names. -/
theorem ps_news {W w : World} {l : List ByteArray} {B : Nat} {A : Option Addr} {n cap : Nat} (h : RowV (PsIn W l) B l.length (.slice A n cap)) (hb : Below B W w) : n = l.length ∧ (A = none → l.length = 0) ∧ ∀ ad, A = some ad → ∀ j u, (l.map Value.string)[j]? = some u → w.cell? (ad.add j) = some u := by
  obtain ⟨A', cap', e, _, _, hp⟩ := h
  injection e with e1 e2 e3
  subst e1 e2
  refine ⟨rfl, fun e => Classical.byContradiction fun hn => ?_, fun ad e j u hu => ?_⟩
  · obtain ⟨b, o, ea, _⟩ := hp (Nat.pos_of_ne_zero hn)
    rw [e] at ea; cases ea
  · have hj : j < l.length := by
      have := (List.getElem?_eq_some_iff.1 hu).1
      simpa using this
    obtain ⟨b, o, ea, hlt, hin⟩ := hp (by omega)
    rw [e] at ea
    injection ea with ea
    subst ea
    rw [List.getElem?_map, List.getElem?_eq_getElem hj] at hu
    injection hu with hu
    subst hu
    rw [show (⟨b, o, none⟩ : Addr).add j = ⟨b, o + j, none⟩ by unfold Addr.add; split <;> simp_all]
    exact (hb.cell (p := ⟨b, o + j, none⟩) hlt).trans (ps_at l b o hin j _ (List.getElem?_eq_getElem hj)).1
theorem sp_size {W : World} {l : List ByteArray} {B : Nat} {v : Value} (h : RowV (PsIn W l) B l.length v) : ∀ s ∈ l, s.size ≤ 9223372036854775807 := by
  intro s hs
  obtain ⟨A, cap, e, _, _, hp⟩ := h
  obtain ⟨i, hi, rfl⟩ := List.getElem_of_mem hs
  obtain ⟨b, o, _, _, hin⟩ := hp (by omega)
  exact (ps_at l b o hin i _ (List.getElem?_eq_getElem hi)).2
theorem PsIn.take {W : World} : ∀ (a t : List ByteArray) (b o : Nat), PsIn W (a ++ t) b o → PsIn W a b o
  | [], _, _, _, _ => trivial
  | _ :: a, t, b, o, ⟨h0, h1, h2⟩ => ⟨h0, h1, PsIn.take a t b (o + 1) h2⟩
theorem row_take {W : World} {l a t : List ByteArray} {B n m cv : Nat} {Av : Option Addr} (h : RowV (PsIn W l) B l.length (.slice Av n cv)) (e : l = a ++ t) (hm : a.length = m) : RowV (PsIn W a) B m (.slice Av m cv) := by
  obtain ⟨A8, c8, e8, h81, h82, h83⟩ := h
  injection e8 with e1 e2 e3
  subst e1 e3 e hm
  rw [List.length_append] at h81 h83
  refine ⟨Av, cv, rfl, by omega, h82, fun h0 => ?_⟩
  obtain ⟨b, o, ea, hb, hp⟩ := h83 (by omega)
  exact ⟨b, o, ea, hb, PsIn.take a t b o hp⟩
theorem bs_neO (T : ByteArray) : (T != T) = false := by unfold bne; rw [show (T == T) = true from beq_self_eq_true T.data]; rfl
def ORel (w1 : World) (N : Nat) (i : Value) (wr : World) : Prop := ∃ k : Nat, i = .int .i64 k ∧ k ≤ N ∧ Below w1.heap.size w1 wr
set_option maxRecDepth 100000 in
set_option maxHeartbeats 8000000 in
theorem once_walk (p : Pg) (A : Option Addr) (cap : Nat) (A' : Option Addr) (cap' : Nat) (w : World) (hF : FV w.heap.size w (.slice A p.fs.length cap) p.fs) (hM : SV w.heap.size w (.slice A' p.m.len cap') p.m) (hc : cntL p.pts ≤ 10000000) (ht : Tab w) :
    Calls Tryd.prog 3 #[.agg #[.slice A p.fs.length cap, .slice A' p.m.len cap']] w fun e w' => e = .returned (.bool true) ∧ Below w.heap.size w w' := by
  obtain ⟨w0, hw0⟩ : ∃ w0, w.alloc (pgO A p.fs.length cap A' p.m.len cap') = w0 := ⟨_, rfl⟩
  obtain ⟨n0, hn0⟩ : ∃ n0, w.heap.size = n0 := ⟨_, rfl⟩
  have hb0 : Below n0 w w0 := by rw [← hw0, ← hn0]; exact (Below.refl _ _).alloc (Nat.le_refl _) _
  have hx0 : w0.heap[n0]? = some (pgO A p.fs.length cap A' p.m.len cap') := by rw [← hw0, ← hn0]; exact heap_alloc_new w _
  have hs0 : w0.heap.size = n0 + 1 := by rw [← hw0, World.size_alloc, hn0]
  have ht0 : Tab w0 := ht.below (by rw [hn0]; exact hb0) ht.1
  rw [hn0] at hF hM
  have HF := Lib.hid hF
  have hpv : PgV w0.heap.size w0 (.agg #[.slice A p.fs.length cap, .slice A' p.m.len cap']) p := ⟨A, cap, A', cap', rfl, hF.below hb0 (by omega), hM.below hb0 (by omega)⟩
  have HS := Lib.hid (shown6_any w0 ht0)
  have HR := Lib.hid (fun (W : World) (hb : Below w0.heap.size w0 W) => resolve_p _ p W (hpv.below hb hb.size) (ht0.below hb ht0.1) hc)
  have HB0 := Lib.hid hb0
  have HX0 := Lib.hid hx0
  have HZ0 := Lib.hid hs0
  have HN0 := Lib.hid hn0
  have hmx : Tryd.prog.follows .mixedOrders = true := by kernel_rfl
  clear hF hM hpv ht0 hb0 hx0 hs0 hc ht
  rw [hn0]
  obtain ⟨nf, hnf⟩ : ∃ nf, p.fs.length = nf := ⟨_, rfl⟩
  have HNF := Lib.hid hnf
  rw [hnf] at HF HR HX0 hw0 ⊢
  obtain ⟨nm, hnm⟩ : ∃ nm, p.m.len = nm := ⟨_, rfl⟩
  rw [hnm] at HR HX0 hw0 ⊢
  clear hnf hnm
  go_enter Tryd.func3, Tryd.ntmps3
  go_upto_region 1 with fail
  have c0 : ∀ W, Below w0.heap.size w0 W → W.cell? ⟨n0, 0, none⟩ = some (.slice A nf cap) ∧ W.cell? ⟨n0, 1, none⟩ = some (.slice A' nm cap') := fun W hb => by
    have h := (hb.block n0 (by rw [HZ0.out]; omega)).trans HX0.out
    exact ⟨(blk_cell h 0).trans rfl, (blk_cell h 1).trans rfl⟩
  have HC0 := Lib.hid c0
  clear c0 hw0
  go_upto_region 2 with (go_at_call 8; ((with_reducible refine HS.out.mono ?_); rintro e w1 ⟨rfl, b1⟩))
  obtain ⟨d0, d1⟩ := HC0.out w1 b1
  go_upto_region 3 with (go_at_call 9; ((with_reducible refine (HR.out _ b1).mono ?_); rintro e w2 ⟨v2, rfl, hv2, b2⟩))
  have b02 : Below w0.heap.size w0 w2 := b1.trans (b2.mono b1.size)
  have HB02 := Lib.hid b02
  by_cases hE : resErr p = 0
  · obtain ⟨o1, ⟨s0, r0, e0, e1, e2, e3⟩, o3⟩ := once_ok hE
    have hN : (scopes p).length = nf + 1 := by rw [e0, List.length_cons, e3, HNF.out]
    rw [o1] at hv2
    rw [hE]
    have hv3 : RowV (SpsIn w2.heap.size w2 (scopes p)) w2.heap.size (nf + 1) v2 := by rw [← hN]; exact hv2
    obtain ⟨b, o, k, rfl, hlt, hin⟩ := hv3.get
    have K : ∀ i s, (scopes p)[i]? = some s → ∃ Av nv cv Ax nx cx, nv = s.vs.length ∧ nx = s.xs.length ∧ RowV (PsIn w2 s.vs) w2.heap.size s.vs.length (.slice Av nv cv) ∧ RowV (PsIn w2 s.xs) w2.heap.size s.xs.length (.slice Ax nx cx) ∧ s.s.size ≤ 9223372036854775807 ∧
        ∀ W, Below w2.heap.size w2 W → W.cell? ⟨b, o + i * 4, none⟩ = some (.string s.s) ∧ W.cell? ⟨b, o + i * 4 + 1, none⟩ = some (.int .i64 s.n) ∧ W.cell? ⟨b, o + i * 4 + 2, none⟩ = some (.slice Av nv cv) ∧ W.cell? ⟨b, o + i * 4 + 3, none⟩ = some (.slice Ax nx cx) := fun i s hs => by
      obtain ⟨k0, k1, ⟨v, k2, h2⟩, ⟨v', k3, h3⟩, k4⟩ := sps_get _ b o hin i s hs
      obtain ⟨Av, cv, rfl, h2'⟩ := id h2
      obtain ⟨Ax, cx, rfl, h3'⟩ := id h3
      exact ⟨Av, _, cv, Ax, _, cx, rfl, rfl, h2, h3, k4, fun W hb => ⟨(hb.cell (p := ⟨b, _, none⟩) hlt).trans k0, (hb.cell (p := ⟨b, _, none⟩) hlt).trans k1, (hb.cell (p := ⟨b, _, none⟩) hlt).trans k2, (hb.cell (p := ⟨b, _, none⟩) hlt).trans k3⟩⟩
    have HK := Lib.hid K
    have HOK := Lib.hid o3
    have HV : Hid (SpV w2.heap.size w2 (.slice (some ⟨b, o, none⟩) (nf + 1) k) (scopes p)) := Lib.hid hv2
    have HNN := Lib.hid hN
    obtain ⟨Av0, nv0, cv0, Ax0, nx0, cx0, -, -, -, -, -, K0⟩ := K 0 s0 (by rw [e0]; rfl)
    obtain ⟨z0, z1, -, -⟩ := K0 w2 (Below.refl _ _)
    rw [e1, Nat.zero_mul, Nat.add_zero] at z0
    rw [e2, Nat.zero_mul, Nat.add_zero] at z1
    obtain ⟨d0, d1⟩ := HC0.out w2 b02
    obtain ⟨hkA, hkB⟩ : nf + 1 ≤ k ∧ k ≤ 9223372036854775807 := by
      obtain ⟨A9, c9, e9, h91, h92, _⟩ := hv3
      injection e9 with _ _ e9
      subst e9
      exact ⟨h91, h92⟩
    have w9 : IntKind.i64.wrap ((nf : Int) + 1) = (nf : Int) + 1 := IntWalk.i64_in _ (by omega)
    clear K K0 hv2 hv3 hin o3 e0 e1 e2 e3 hN o1 b02 b1 b2
    go_upto_region 8 with fail
    clear z0 z1 d0 d1 w9
    go_loopw [6] (fun u wr => ORel w2 (nf + 1) u wr) (fun u _ => nf + 1 - (RowKit.intOf u).toNat)
    case atStart => exact ⟨0, rfl, Nat.zero_le _, Below.refl _ _⟩
    case round =>
      obtain ⟨i, rfl, hi, hbr⟩ := hrel
      by_cases hlt2 : i < nf + 1
      · obtain ⟨⟨sn, np, V, X⟩, hs⟩ : ∃ s, (scopes p)[i]? = some s := ⟨(scopes p)[i]'(by rw [HNN.out]; exact hlt2), List.getElem?_eq_getElem _⟩
        obtain ⟨Av, nv, cv, Ax, nx, cx, hnv, hnx, hRV, hRX, hsz, KW0⟩ := HK.out i _ hs
        have hO := HOK.out i _ hs
        have KW := Lib.hid KW0
        simp only at hnv hnx hRV hRX hsz
        have h64v : nv ≤ 64 := by rw [hnv]; exact hO.vs
        have h64x : nx ≤ 64 := by rw [hnx]; exact hO.xs
        have hnp : np ≤ nv := by rw [hnv]; exact hO.n
        have HO := Lib.hid hO
        have HRV := Lib.hid hRV
        have HRX := Lib.hid hRX
        have HNV := Lib.hid hnv
        have HNX := Lib.hid hnx
        have HBR := Lib.hid hbr
        have i0 : decide ((i : Int) < ((nf + 1 : Nat) : Int)) = true := decide_eq_true (by omega)
        obtain ⟨i9, hi9, hz0, hz1, hz2⟩ := info_parts strInfo
        have HI := Lib.hid hi9
        have HZS := Lib.hid hz0
        clear KW0 hO hRV hRX hnv hnx hs hi9 hz0
        go_upto_region 10 with fail
        clear i0
        have hSd : Below w2.heap.size w2 wr.drew := belowD hbr
        refine wp_region_held_drew (S := fun W' => Below w2.heap.size w2 W') hmx hSd (fun hHeld => ?_)
        clear hHeld
        refine wpAnyH_take (i := 1) (v := .slice (some ⟨b, o, none⟩) (nf + 1) k) rfl (by kernel_rfl) (by kernel_rfl) (by kernel_rfl) (fun _ _ _ h => h) (Or.inl ⟨by rfl, ?_⟩) (by assumption) ?_
        · intro W' hSw
          obtain ⟨l0, l1, l2, l3⟩ := KW.out W' hSw
          go_simp
        try simp only [Act.put, List.getElem_toArray, List.getElem_cons_zero, List.getElem_cons_succ, List.setIfInBounds_toArray, List.set_cons_zero, List.set_cons_succ]
        refine wpAnyH_take (i := 2) (v := .int .i64 (i : Int)) rfl (by kernel_rfl) (by kernel_rfl) (by kernel_rfl) (fun _ _ _ h => h) (Or.inl ⟨by rfl, ?_⟩) (by assumption) ?_
        · intro W' hSw
          obtain ⟨l0, l1, l2, l3⟩ := KW.out W' hSw
          go_simp
        try simp only [Act.put, List.getElem_toArray, List.getElem_cons_zero, List.getElem_cons_succ, List.setIfInBounds_toArray, List.set_cons_zero, List.set_cons_succ]
        refine wpAnyH_take (i := 3) (v := .pointer (some ⟨b, o + i * 4, none⟩)) rfl (by kernel_rfl) (by kernel_rfl) (by kernel_rfl) (fun _ _ _ h => h) (Or.inl ⟨by rfl, ?_⟩) (by assumption) ?_
        · intro W' hSw
          obtain ⟨l0, l1, l2, l3⟩ := KW.out W' hSw
          go_simp
        try simp only [Act.put, List.getElem_toArray, List.getElem_cons_zero, List.getElem_cons_succ, List.setIfInBounds_toArray, List.set_cons_zero, List.set_cons_succ]
        refine wpAnyH_take (i := 4) (v := .pointer (some ⟨b, o + i * 4 + 2, none⟩)) rfl (by kernel_rfl) (by kernel_rfl) (by kernel_rfl) (fun _ _ _ h => h) (Or.inl ⟨by rfl, ?_⟩) (by assumption) ?_
        · intro W' hSw
          obtain ⟨l0, l1, l2, l3⟩ := KW.out W' hSw
          go_simp
        try simp only [Act.put, List.getElem_toArray, List.getElem_cons_zero, List.getElem_cons_succ, List.setIfInBounds_toArray, List.set_cons_zero, List.set_cons_succ]
        refine wpAnyH_take (i := 5) (v := .slice Av nv cv) rfl (by kernel_rfl) (by kernel_rfl) (by kernel_rfl) (fun _ _ _ h => h) (Or.inl ⟨by rfl, ?_⟩) (by assumption) ?_
        · intro W' hSw
          obtain ⟨l0, l1, l2, l3⟩ := KW.out W' hSw
          go_simp
        try simp only [Act.put, List.getElem_toArray, List.getElem_cons_zero, List.getElem_cons_succ, List.setIfInBounds_toArray, List.set_cons_zero, List.set_cons_succ]
        refine wpAnyH_take (i := 7) (v := .slice (some ⟨b, o, none⟩) (nf + 1) k) rfl (by kernel_rfl) (by kernel_rfl) (by kernel_rfl) (fun _ _ _ h => h) (Or.inl ⟨by rfl, ?_⟩) (by assumption) ?_
        · intro W' hSw
          obtain ⟨l0, l1, l2, l3⟩ := KW.out W' hSw
          go_simp
        try simp only [Act.put, List.getElem_toArray, List.getElem_cons_zero, List.getElem_cons_succ, List.setIfInBounds_toArray, List.set_cons_zero, List.set_cons_succ]
        refine wpAnyH_take (i := 8) (v := .int .i64 (i : Int)) rfl (by kernel_rfl) (by kernel_rfl) (by kernel_rfl) (fun _ _ _ h => h) (Or.inl ⟨by rfl, ?_⟩) (by assumption) ?_
        · intro W' hSw
          obtain ⟨l0, l1, l2, l3⟩ := KW.out W' hSw
          go_simp
        try simp only [Act.put, List.getElem_toArray, List.getElem_cons_zero, List.getElem_cons_succ, List.setIfInBounds_toArray, List.set_cons_zero, List.set_cons_succ]
        refine wpAnyH_take (i := 9) (v := .pointer (some ⟨b, o + i * 4, none⟩)) rfl (by kernel_rfl) (by kernel_rfl) (by kernel_rfl) (fun _ _ _ h => h) (Or.inl ⟨by rfl, ?_⟩) (by assumption) ?_
        · intro W' hSw
          obtain ⟨l0, l1, l2, l3⟩ := KW.out W' hSw
          go_simp
        try simp only [Act.put, List.getElem_toArray, List.getElem_cons_zero, List.getElem_cons_succ, List.setIfInBounds_toArray, List.set_cons_zero, List.set_cons_succ]
        refine wpAnyH_take (i := 10) (v := .pointer (some ⟨b, o + i * 4 + 3, none⟩)) rfl (by kernel_rfl) (by kernel_rfl) (by kernel_rfl) (fun _ _ _ h => h) (Or.inl ⟨by rfl, ?_⟩) (by assumption) ?_
        · intro W' hSw
          obtain ⟨l0, l1, l2, l3⟩ := KW.out W' hSw
          go_simp
        try simp only [Act.put, List.getElem_toArray, List.getElem_cons_zero, List.getElem_cons_succ, List.setIfInBounds_toArray, List.set_cons_zero, List.set_cons_succ]
        refine wpAnyH_take (i := 11) (v := .slice Ax nx cx) rfl (by kernel_rfl) (by kernel_rfl) (by kernel_rfl) (fun _ _ _ h => h) (Or.inl ⟨by rfl, ?_⟩) (by assumption) ?_
        · intro W' hSw
          obtain ⟨l0, l1, l2, l3⟩ := KW.out W' hSw
          go_simp
        try simp only [Act.put, List.getElem_toArray, List.getElem_cons_zero, List.getElem_cons_succ, List.setIfInBounds_toArray, List.set_cons_zero, List.set_cons_succ]
        refine wpAnyH_ready (rs := [0]) (by kernel_rfl) (by simp) ?_
        refine AllReadyH.cons rfl (fun K hK => ?_) AllReadyH.nil
        go_simp
        obtain ⟨w3, hw3⟩ : ∃ x, (wr.alloc (.cells #[] 9)).drew = x := ⟨_, rfl⟩
        obtain ⟨z, hz⟩ : ∃ z, wr.heap.size = z := ⟨_, rfl⟩
        have hb3 : Below w2.heap.size w2 w3 := by rw [← hw3]; exact belowD (hbr.alloc hbr.size _)
        have ho3 : w3.ownsRow z 9 1 (.slice (some ⟨z, 0, none⟩) 0 0) 0 [] := by rw [← hw3]; exact own_drew (made_in hz (Nat.le_refl _))
        have hz3 : w3.heap.size = z + 1 := by rw [← hw3, ← hz]; exact World.size_alloc ..
        have hzr : w2.heap.size ≤ z := by rw [← hz]; exact hbr.size
        rw [hw3, hz]
        clear hw3 hz hSd hbr
        refine hK.out _ _ hb3 (fun _ => ?_)
        clear hK K
        try simp only [Act.put, List.getElem_toArray, List.getElem_cons_zero, List.getElem_cons_succ, List.setIfInBounds_toArray, List.set_cons_zero, List.set_cons_succ]
        refine wpAnyH_ready (rs := [6]) (by kernel_rfl) (by simp) ?_
        refine AllReadyH.cons rfl (fun K hK => ?_) AllReadyH.nil
        obtain ⟨-, hv1, hv2⟩ := ps_news HRV.out hb3
        refine step_append_own (E := _) rfl _ _ 31 rfl z 9 i9 _ 1 16 Tryd.underlying31 HI.out HZS.out hz1 hz2 rfl (by decide) (.slice (some ⟨z, 0, none⟩) 0 0) 0 [] rfl ho3 Av nv cv (V.map Value.string) rfl (fun e => by rw [HNV.out]; exact hv1 e) (by rw [List.length_map, HNV.out, Nat.mul_one]) hv2 (fun u hu => by obtain ⟨_, _, rfl⟩ := List.mem_map.1 hu; rfl) (by unfold maxLen; omega) (by omega) (by omega) ?_
        intro v4 w4 hown4 hg4
        rw [Nat.zero_add, List.nil_append] at hown4
        obtain ⟨X4, c4, rfl⟩ := own_form hown4
        have hb4 : Below w2.heap.size w2 w4 := hb3.grown hg4 (by omega) (fun q hq => by have := (ho3.lt q hq).1; omega)
        have hz4 : z + 1 ≤ w4.heap.size := by have := hg4.size; omega
        refine hK.out _ _ hb4 (fun _ => ?_)
        clear hK K hv1 hv2 ho3 hg4 hb3
        try simp only [Act.put, List.getElem_toArray, List.getElem_cons_zero, List.getElem_cons_succ, List.setIfInBounds_toArray, List.set_cons_zero, List.set_cons_succ]
        refine wpAnyH_ready (rs := [12]) (by kernel_rfl) (by simp) ?_
        refine AllReadyH.cons rfl (fun K hK => ?_) AllReadyH.nil
        obtain ⟨-, hx1, hx2⟩ := ps_news HRX.out hb4
        refine step_append_own (E := _) rfl _ _ 31 rfl z 9 i9 _ 1 16 Tryd.underlying31 HI.out HZS.out hz1 hz2 rfl (by decide) (.slice X4 nv c4) nv (V.map Value.string) rfl hown4 Ax nx cx (X.map Value.string) rfl (fun e => by rw [HNX.out]; exact hx1 e) (by rw [List.length_map, HNX.out, Nat.mul_one]) hx2 (fun u hu => by obtain ⟨_, _, rfl⟩ := List.mem_map.1 hu; rfl) (by unfold maxLen; omega) (by omega) (by omega) ?_
        intro v5 w5 hown5 hg5
        obtain ⟨X5, c5, rfl⟩ := own_form hown5
        have hb5 : Below w2.heap.size w2 w5 := hb4.grown hg5 (by omega) (fun q hq => by have := (hown4.lt q hq).1; omega)
        refine hK.out _ _ hb5 (fun _ => ?_)
        clear hK K hx1 hx2 hown4 hg5 hb4
        try simp only [Act.put, List.getElem_toArray, List.getElem_cons_zero, List.getElem_cons_succ, List.setIfInBounds_toArray, List.set_cons_zero, List.set_cons_succ]
        refine wpAnyH_ready (rs := [13]) (by kernel_rfl) (by simp) ?_
        refine AllReadyH.cons rfl (fun K hK => ?_) AllReadyH.nil
        go_simp
        refine hK.out _ _ hb5 (fun _ => ?_)
        clear hK K
        try simp only [Act.put, List.getElem_toArray, List.getElem_cons_zero, List.getElem_cons_succ, List.setIfInBounds_toArray, List.set_cons_zero, List.set_cons_succ]
        refine wpAnyH_done (by kernel_rfl) ?_ _
        have hall : RowV (PsIn w5 (V ++ X)) w5.heap.size (nv + nx) (.slice X5 (nv + nx) c5) := by
          have h := st_row (l := V ++ X) (v := .slice X5 (nv + nx) c5) (base := z) (W := w5) (by
            unfold StO
            rw [List.map_append, List.length_append, ← HNV.out, ← HNX.out]
            exact hown5) (fun s hs => (List.mem_append.1 hs).elim (sp_size HRV.out s) (sp_size HRX.out s))
          rw [List.length_append, ← HNV.out, ← HNX.out] at h
          exact h
        have HALL := Lib.hid hall
        have HB5 := Lib.hid hb5
        clear hown5 hall
        obtain ⟨l0, l1, l2, l3⟩ := KW.out w5 hb5
        have q1 : decide ((64 : Int) < (nv : Int)) = false := decide_eq_false (by omega)
        have q2 : decide ((64 : Int) < (nx : Int)) = false := decide_eq_false (by omega)
        have q3 : decide (nv < np) = false := decide_eq_false (by omega)
        have q4 : decide ((nv : Int) < (np : Int)) = false := decide_eq_false (by omega)
        have q5 : decide (64 < nv) = false := decide_eq_false (by omega)
        have q6 : decide (64 < nx) = false := decide_eq_false (by omega)
        go_upto_region 11 with fail
        go_quiet (fail)
        clear l0 l1 l2 l3 q1 q2 q3 q4 q5 q6
        obtain ⟨w6, hw6⟩ : ∃ w6, w5.drewN nq = w6 := ⟨_, rfl⟩
        have h56 : Below w5.heap.size w5 w6 := by rw [← hw6]; exact drewN_b _ _
        have h26 : Below w2.heap.size w2 w6 := HB5.out.trans (h56.mono HB5.out.size)
        rw [hw6]
        have H56 := Lib.hid h56
        have H26 := Lib.hid h26
        have HLV : Hid ((V ++ X).length = nv + nx) := Lib.hid (by rw [List.length_append, HNV.out, HNX.out])
        clear hw6 h56 h26 hb5
        go_upto_region 14 with fail
        go_loopw [8] (fun u wr => ∃ j : Nat, u = .int .i64 j ∧ j ≤ nv + nx ∧ wr = w6) (fun u _ => nv + nx - (RowKit.intOf u).toNat)
        case atStart => exact ⟨0, rfl, Nat.zero_le _, rfl⟩
        case round =>
          obtain ⟨j, rfl, hj, hwr⟩ := hrel
          have hwr2 := hwr.symm
          subst hwr2
          clear hwr
          by_cases hjl : j < nv + nx
          · obtain ⟨x, hx⟩ : ∃ x, (V ++ X)[j]? = some x := ⟨(V ++ X)[j]'(by rw [HLV.out]; exact hjl), List.getElem?_eq_getElem _⟩
            obtain ⟨g1, g2⟩ := HO.out.each j x hx
            obtain ⟨A9, c9, e9, h91, h92, h93⟩ := HALL.out
            injection e9 with e9 _ e9'
            subst e9 e9'
            obtain ⟨g, q, rfl, hgl, hin⟩ := h93 (by omega)
            obtain ⟨y0, y1⟩ := ps_at _ g q hin j x hx
            have y2 := (H56.out.cell (p := ⟨g, q + j, none⟩) hgl).trans y0
            have hsl := slot_any w5.heap.size (.slice (some ⟨g, q, none⟩) (nv + nx) c5) (V ++ X) x w5 _ H56.out (by rw [HLV.out]; exact HALL.out)
            simp only at g1
            rw [g1] at hsl
            have hnm := name_any x w6 y1
            rw [g2] at hnm
            have HSL := Lib.hid hsl
            have HNM := Lib.hid hnm
            have j0 : decide ((j : Int) < ((nv + nx : Nat) : Int)) = true := decide_eq_true (by omega)
            have j1 : decide ((j : Int) < (nv : Int) + (nx : Int)) = true := decide_eq_true (by omega)
            have HJ := Lib.hid hjl
            clear g1 g2 hin y0 y1 hsl hnm hx h93
            go_wp2_with (first
              | (go_at_call 10; ((with_reducible refine HSL.out.mono ?_); rintro e w8 ⟨rfl, rfl⟩))
              | (go_at_call 11; ((with_reducible refine HNM.out.mono ?_); rintro e w8 ⟨rfl, rfl⟩)))
            go_roundw
            case rel => exact ⟨j + 1, by go_num, HJ.out, by first | rfl | trivial⟩
            case measure => have := HJ.out; simp [RowKit.intOf]; omega
          · obtain rfl : j = nv + nx := by omega
            have j0 : decide (((nv + nx : Nat) : Int) < ((nv + nx : Nat) : Int)) = false := by simp
            have j1 : decide ((nv : Int) + (nx : Int) < (nv : Int) + (nx : Int)) = false := by simp
            clear hjl hj
            go_upto_region 18 with fail
            by_cases hi0 : i = 0
            · subst hi0
              go_wp2
              go_roundw
              case rel => exact ⟨1, by go_num, by omega, H26.out⟩
              case measure => simp [RowKit.intOf]
            · obtain ⟨j, hij⟩ : ∃ j, i = j + 1 := ⟨i - 1, by omega⟩
              have HIJ := Lib.hid hij
              obtain ⟨⟨fnm, ps, fb⟩, hf⟩ : ∃ f, p.fs[j]? = some f := ⟨p.fs[j]'(by rw [HNF.out]; omega), List.getElem?_eq_getElem _⟩
              obtain ⟨k1, k2, k3, k4⟩ := HO.out.fn _ (by omega) (by rw [hij, Nat.add_sub_cancel]; exact hf)
              simp only at k1 k2 k3 k4
              obtain ⟨Af, cf, ef, hfa, hfb, hfc⟩ := HF.out
              injection ef with ef1 ef2 ef3
              subst ef1 ef3
              clear ef2
              obtain ⟨bf, off, rfl, hfl, hfin⟩ := hfc (by rw [HNF.out]; omega)
              obtain ⟨m0, ⟨vp, m1, hvp⟩, ⟨vb, m2, hvb⟩, m3⟩ := fns_get _ bf off hfin j _ hf
              simp only at m0 m1 m2 m3 hvp hvb
              have h2n : Below n0 w w2 := HB0.out.trans (HB02.out.mono (by rw [HZ0.out]; omega))
              have h6n : Below n0 w w6 := h2n.trans (H26.out.mono (by have := HB02.out.size; rw [HZ0.out] at this; omega))
              obtain ⟨Ap, cp, rfl, hp1, hp2, hp3⟩ := id hvp
              obtain ⟨Ab, cb, rfl, hq1, hq2, hq3⟩ := id hvb
              have r0 := (h6n.cell (p := ⟨bf, _, none⟩) hfl).trans m0
              have r1 := (h6n.cell (p := ⟨bf, _, none⟩) hfl).trans m1
              have r2 := (h6n.cell (p := ⟨bf, _, none⟩) hfl).trans m2
              obtain ⟨d0, d1⟩ := HC0.out w6 (HB02.out.trans (H26.out.mono HB02.out.size))
              have e7 : IntKind.i64.wrap ((i : Int) - 1) = (j : Int) := by rw [IntWalk.i64_in _ (by omega)]; omega
              have hjn : j < nf := by omega
              have i1 : decide ((0 : Int) < (i : Int)) = true := decide_eq_true (by omega)
              have i3 : decide (0 < i) = true := decide_eq_true (by omega)
              subst k1 k2
              have HVP := Lib.hid hvp
              have HK3 := Lib.hid k3
              have HK4 := Lib.hid k4
              have H6N := Lib.hid h6n
              clear hij hi0 hvp hvb hp3 hq3 m0 m1 m2 k3 k4 hfin h6n h2n hfc hf
              obtain ⟨mp, hmp⟩ : ∃ mp, ps.length = mp := ⟨_, rfl⟩
              have HMP := Lib.hid hmp
              rw [hmp] at r1 hp1
              clear hmp
              generalize fb.len = mb at *
              go_upto_region 20 with fail
              obtain ⟨w7, hw7⟩ : ∃ w7, w6.alloc (.cells #[.string sn, .slice Ap mp cp, .slice Ab mb cb] 37) = w7 := ⟨_, rfl⟩
              obtain ⟨n7, hn7⟩ : ∃ n7, w6.heap.size = n7 := ⟨_, rfl⟩
              have h67 : Below w6.heap.size w6 w7 := by rw [← hw7]; exact (Below.refl _ _).alloc (Nat.le_refl _) _
              have hx7 : w7.heap[n7]? = some (.cells #[.string sn, .slice Ap mp cp, .slice Ab mb cb] 37) := by rw [← hw7, ← hn7]; exact heap_alloc_new _ _
              rw [hw7, hn7]
              have h27 : Below w2.heap.size w2 w7 := H26.out.trans (h67.mono H26.out.size)
              have h7n : Below n0 w w7 := H6N.out.trans (h67.mono (by have := H26.out.size; have := HB02.out.size; rw [HZ0.out] at this; omega))
              have K7 : ∀ W, Below w7.heap.size w7 W → W.cell? ⟨b, o + i * 4, none⟩ = some (.string sn) ∧ W.cell? ⟨b, o + i * 4 + 1, none⟩ = some (.int .i64 (mp : Int)) ∧ W.cell? ⟨b, o + i * 4 + 2, none⟩ = some (.slice Av nv cv) ∧ W.cell? ⟨n7, 0, none⟩ = some (.string sn) ∧ W.cell? ⟨n7, 1, none⟩ = some (.slice Ap mp cp) ∧ Below w7.heap.size w7 W := fun W hb => by
                obtain ⟨t0, t1, t2, t3⟩ := KW.out W (h27.trans (hb.mono h27.size))
                have hbx := (hb.block n7 (blk_lt hx7)).trans hx7
                rw [HMP.out] at t1
                exact ⟨t0, t1, t2, (blk_cell hbx 0).trans rfl, (blk_cell hbx 1).trans rfl, hb⟩
              have HK7 := Lib.hid K7
              have HB27 := Lib.hid h27
              obtain ⟨y0, y1, y2, y3, y4, y5⟩ := K7 w7.drew (belowD (Below.refl _ _))
              have g1 : (sn != sn) = false := bs_neO sn
              have hmc : mp ≤ cv := by
                obtain ⟨A8, c8, e8, h8, _⟩ := HRV.out
                injection e8 with _ _ e8
                subst e8
                have := HMP.out
                have := HNV.out
                omega
              have hmc2 : (mp : Int) ≤ (cv : Int) := by omega
              have HSM : Hid (∀ W, Below w7.heap.size w7 W → Calls Tryd.prog 12 #[.slice Av mp cv, .slice Ap mp cp] W fun e w' => e = .returned (.bool true) ∧ w'.cell? ⟨b, o + i * 4, none⟩ = some (.string sn) ∧ w'.cell? ⟨b, o + i * 4 + 1, none⟩ = some (.int .i64 (mp : Int)) ∧ w'.cell? ⟨b, o + i * 4 + 2, none⟩ = some (.slice Av nv cv) ∧ w'.cell? ⟨n7, 0, none⟩ = some (.string sn) ∧ w'.cell? ⟨n7, 1, none⟩ = some (.slice Ap mp cp) ∧ Below w7.heap.size w7 w') := Lib.hid fun W hb => by
                have a1 : RowV (PsIn w7 ps) w7.heap.size ps.length (.slice Av mp cv) := by
                  rw [HMP.out]
                  refine row_take (l := V) (a := ps) (n := nv) (t := V.drop ps.length) ?_ (by conv => lhs; rw [← List.take_append_drop ps.length V, HK3.out]) HMP.out
                  exact HRV.out.imp h27.size fun _ _ hb' hp => PsIn.below h27 hb' hp
                have a2 : RowV (PsIn w7 ps) w7.heap.size ps.length (.slice Ap mp cp) := by
                  have hn7s : n0 ≤ w7.heap.size := by have := HZ0.out; have := HB02.out.size; have := h27.size; omega
                  have h : RowV (PsIn w7 ps) w7.heap.size ps.length (.slice Ap ps.length cp) := by
                    exact HVP.out.imp hn7s fun _ _ hb' hp => PsIn.below h7n hb' hp
                  rw [HMP.out] at h ⊢
                  exact h
                exact (same_any w7.heap.size _ _ ps ps w7 W hb hb.size a1 a2).mono fun e w' ⟨h1, h2⟩ => ⟨by rw [h1, decide_eq_true rfl], HK7.out w' (hb.trans (h2.mono hb.size))⟩
              have HFD : Hid (∀ W, Below w7.heap.size w7 W → Calls Tryd.prog 13 #[.slice (some ⟨b, o, none⟩) (nf + 1) k, .string sn] W fun e w' => e = .returned (.int .i64 (i : Int)) ∧ w'.cell? ⟨b, o + i * 4, none⟩ = some (.string sn) ∧ w'.cell? ⟨b, o + i * 4 + 1, none⟩ = some (.int .i64 (mp : Int)) ∧ w'.cell? ⟨b, o + i * 4 + 2, none⟩ = some (.slice Av nv cv) ∧ w'.cell? ⟨n7, 0, none⟩ = some (.string sn) ∧ w'.cell? ⟨n7, 1, none⟩ = some (.slice Ap mp cp) ∧ Below w7.heap.size w7 w') := Lib.hid fun W hb => by
                have hbW := h27.trans (hb.mono h27.size)
                have h := find_any w2.heap.size (.slice (some ⟨b, o, none⟩) (nf + 1) k) (scopes p) sn W hbW.size (HV.out.below hbW (Nat.le_refl _))
                rw [HK4.out] at h
                exact h.mono fun e w' ⟨h1, h2⟩ => ⟨h1, HK7.out w' (hb.trans (h2.mono hb.size))⟩
              have hmv : (mp : Int) ≤ (nv : Int) := by have := HMP.out; omega
              have hmv2 : mp ≤ nv := by have := HMP.out; omega
              have hnc : nv ≤ cv := by
                obtain ⟨A8, c8, e8, h8, _⟩ := HRV.out
                injection e8 with _ _ e8
                subst e8
                rw [HNV.out]; exact h8
              clear hw7 hn7 K7 r0 r1 r2 d0 d1 e7 i1 i3
              go_region_held3 (fun W => W.cell? ⟨b, o + i * 4, none⟩ = some (.string sn) ∧ W.cell? ⟨b, o + i * 4 + 1, none⟩ = some (.int .i64 (mp : Int)) ∧ W.cell? ⟨b, o + i * 4 + 2, none⟩ = some (.slice Av nv cv) ∧ W.cell? ⟨n7, 0, none⟩ = some (.string sn) ∧ W.cell? ⟨n7, 1, none⟩ = some (.slice Ap mp cp) ∧ Below w7.heap.size w7 W)
                (first | exact ⟨y0, y1, y2, y3, y4, y5⟩ | go_keep)
                (first
                  | (go_at_call 12; (with_reducible refine (HSM.out _ (by assumption)).mono ?_); rintro e w8 ⟨rfl, y0, y1, y2, y3, y4, y5⟩)
                  | (go_at_call 13; (with_reducible refine (HFD.out _ (by assumption)).mono ?_); rintro e w9 ⟨rfl, y0, y1, y2, y3, y4, y5⟩))
              go_wp2
              go_roundw
              case rel => exact ⟨i + 1, by go_num, by omega, HB27.out.trans (y5.mono HB27.out.size)⟩
              case measure => simp [RowKit.intOf]; omega
      · have HBR := Lib.hid hbr
        obtain rfl : i = nf + 1 := by omega
        have i0 : decide (((nf + 1 : Nat) : Int) < ((nf + 1 : Nat) : Int)) = false := by simp
        have i2 : decide ((nf : Int) + 1 < (nf : Int) + 1) = false := by simp
        clear hbr hlt2 hi
        go_wp2
        go_ret
        exact ⟨rfl, HB0.out.trans ((HB02.out.trans (HBR.out.mono HB02.out.size)).mono (by rw [HZ0.out]; omega))⟩
  · have hq : resP p = [] := by unfold resP; rw [if_neg hE]
    rw [hq] at hv2
    obtain ⟨A9, c9, rfl, -, -, -⟩ := hv2
    have hne : (resErr p != 0) = true := by simpa using hE
    have HBE := Lib.hid (HB0.out.trans (b02.mono (by rw [HZ0.out]; omega)))
    clear hE hq b02 b1 b2
    generalize resErr p = E at *
    go_wp2
    go_ret
    exact ⟨rfl, HBE.out⟩
end Go.Proofs.YtaajolemjgdfnaaDoor
