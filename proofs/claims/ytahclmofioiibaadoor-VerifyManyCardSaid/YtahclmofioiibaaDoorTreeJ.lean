/-
  The closures of (part).parts and outer: what they hand on; 'SeqStopsK' for each.
-/
import Derived.Test.YtahclmofioiibaaDoorTreeI
namespace Go.Proofs.YtahclmofioiibaaDoor
open Go Go.RowKit Go.Shelf

attribute [local go_sem] Oper.semAt_some wide_fn wide_depth round_fn round_depth

theorem cell_new (w : World) (cs : Array Value) (t : TypeId) (i : Nat) : (w.alloc (.cells cs t)).cell? ⟨w.heap.size, i, none⟩ = cs[i]? := by
  have h := World.alloc_heap_new w (.cells cs t)
  simp only [World.cell?, h]
  rfl
theorem sv_nil (B : Nat) (w : World) : SV B w (.slice none 0 0) .nil := ⟨none, 0, rfl, Nat.le_refl _, by decide, fun h => by simp [SS.len] at h⟩
theorem ev_nil (B : Nat) (w : World) : EV B w (.slice none 0 0) .nil := ⟨none, 0, rfl, Nat.le_refl _, by decide, fun h => by simp [ES.len] at h⟩
/-- A part's box: its seven cells. -/
structure BoxP (w : World) (B Bp : Nat) (p : Pt) (A3 : Option Addr) (cap3 : Nat) (A4 : Option Addr) (cap4 : Nat) (A5 : Option Addr) (cap5 : Nat) : Prop where
  lt : Bp < B
  c4 : w.cell? ⟨Bp, 4, none⟩ = some (.slice A3 p.l.len cap3)
  c5 : w.cell? ⟨Bp, 5, none⟩ = some (.slice A4 p.b.len cap4)
  c6 : w.cell? ⟨Bp, 6, none⟩ = some (.slice A5 p.e.len cap5)
  h3 : EV B w (.slice A3 p.l.len cap3) p.l
  h4 : SV B w (.slice A4 p.b.len cap4) p.b
  h5 : SV B w (.slice A5 p.e.len cap5) p.e

def PartsRel (B : Nat) (w0 : World) (K N len : Nat) (J : List (PX B w0 K) → World → Prop) (A : Option Addr) (s : ES) (i : Value) (wr : World) : Prop :=
  ∃ (k : Nat) (xs : List (PX B w0 K)) (r : ES), i = .int .i64 k ∧ s.pts = xs.map (·.p) ++ r.pts ∧ k + r.len = len ∧ r.cnt ≤ K ∧ (0 < r.len → ∃ b o, A = some ⟨b, o, none⟩ ∧ b < B ∧ r.In B w0 b (o + k * 4)) ∧ xs.length + r.len + N ≤ s.len + N ∧ J xs wr ∧ Below B w0 wr

def AllPost (B : Nat) (w0 : World) (K : Nat) (J Jx : List (PX B w0 K) → World → Prop) (l : List Pt) (e : Ending) (W' : World) : Prop :=
  (∃ v, e = .returned v) ∧ ((∃ xs : List (PX B w0 K), xs.map (·.p) = l ∧ J xs W') ∨ (∃ pre : List (PX B w0 K), pre.map (·.p) <+: l ∧ Jx pre W'))

/-- Two lists of statements handed on, one behind the other. -/
theorem hand_two (n B : Nat) (w0 : World) (K l N BJ : Nat) (J Jx : List (PX B w0 K) → World → Prop) (hJa : AbidesFrom BJ J) (hY : Rounds B w0 K l N J Jx)
    (A A' : Option Addr) (cap cap' : Nat) (s s' : SS) (pre : List (PX B w0 K)) (W : World) (hs : SV B w0 (.slice A s.len cap) s) (hs' : SV B w0 (.slice A' s'.len cap') s') (hB0 : B ≤ w0.heap.size) (hK : s.cnt ≤ K) (hK' : s'.cnt ≤ K) (hW : Below B w0 W) (hJ : J pre W) (hN : pre.length + (s.len + s'.len) ≤ N)
    (p : Addr) (v : Value) (hp : p.block < B) (hv : w0.cell? p = some v) :
    CallsIn Fence.wide n Tryd.prog 55 #[.slice A s.len cap, .func (.yield l) #[] #[]] W fun e W' =>
      (e = .returned (.bool true) ∧ W'.cell? p = some v ∧ ∃ xs : List (PX B w0 K), Hid (xs.map (·.p) = s.pts) ∧ CallsIn Fence.wide n Tryd.prog 55 #[.slice A' s'.len cap', .func (.yield l) #[] #[]] W' (HandPost B w0 W' K J Jx s'.pts (pre ++ xs))) ∨
      (e = .returned (.bool false) ∧ ∃ q : List (PX B w0 K), q.map (·.p) <+: s.pts ∧ Jx (pre ++ q) W') :=
  (hand_in n B w0 K l N BJ J Jx hJa hY A cap s pre W hs hB0 hK hW hJ (by omega)).mono fun e W' h => h.elim
    (fun ⟨he, xs, hxs, hJ', hb⟩ => .inl ⟨he, ((hW.trans hb).cell hp).trans hv, xs, Lib.hid hxs, hand_in n B w0 K l N BJ J Jx hJa hY A' cap' s' (pre ++ xs) W' hs' hB0 hK' (hW.trans hb) hJ' (by
      have : xs.length = s.len := by rw [← SS.pts_len, ← hxs, List.length_map]
      simp; omega)⟩) .inr

set_option maxRecDepth 100000 in
set_option maxHeartbeats 4000000 in
theorem parts1_in (n B Bp : Nat) (w0 : World) (K l BJ : Nat) (p : Pt) (A3 A4 A5 : Option Addr) (cap3 cap4 cap5 : Nat) (hbox : BoxP w0 B Bp p A3 cap3 A4 cap4 A5 cap5) (hB0 : B ≤ w0.heap.size)
    (J Jx : List (PX B w0 K) → World → Prop) (hJa : AbidesFrom BJ J) (hY : Rounds B w0 K l p.sub.length J Jx) (W : World) (hW : Below B w0 W) (hJ : J [] W) (hK : cntL p.sub ≤ K) :
    CallsIn Fence.wide n Tryd.prog 68 #[.func (.yield l) #[] #[], .pointer (some ⟨Bp, 0, none⟩)] W (AllPost B w0 K J Jx p.sub) := by
  obtain ⟨N, hN⟩ : ∃ N, p.sub.length = N := ⟨_, rfl⟩
  rw [hN] at hY
  have hN' : p.l.len + (p.b.len + p.e.len) = N := by rw [← hN]; simp [Pt.sub, ES.pts_len, SS.pts_len]
  have hKK : p.l.cnt ≤ K ∧ p.b.cnt ≤ K ∧ p.e.cnt ≤ K := by simp [Pt.sub, cntL_append, ES.cntL, SS.cntL] at hK; omega
  clear hN hK
  obtain ⟨hlt, cc4, cc5, cc6, h3, h4, h5⟩ := hbox
  obtain ⟨A', cap', e1, hc1, hc2, hrow⟩ := id h3
  injection e1 with e2 e3 e4
  subst e2 e4
  clear e3
  obtain ⟨len, hlen⟩ : ∃ len, p.l.len = len := ⟨_, rfl⟩
  rw [hlen] at hc1 hrow hN' cc4
  have e4 := (hW.cell (p := ⟨Bp, 4, none⟩) hlt).trans cc4
  have HL := Lib.hid hlen; clear hlen
  have HN := Lib.hid hN'; clear hN'
  refine callsIn_of_wp Tryd.func68 rfl trivial ?_ rfl
  simp only [Tryd.ntmps68, List.size_toArray, List.length_cons, List.length_nil, Nat.reduceAdd, Nat.reduceSub, Array.replicate_succ, Array.replicate_zero, List.push_toArray, List.append_toArray, List.nil_append, List.cons_append]
  gi_wp2
  gi_loopw [9] (fun i wr => PartsRel B w0 K N len J A3 p.l i wr) (fun i _ => len - (intOf i).toNat)
  case atStart =>
    exact ⟨0, [], p.l, rfl, rfl, by have := HL.out; omega, hKK.1, by simpa [HL.out] using hrow, by simp, hJ, hW⟩
  case round =>
    obtain ⟨k, xs, r, rfl, hp, hk, hrK, hrow', hN', hJ', hW'⟩ := hrel
    have hpl : xs.length + r.len = len := by
      have := congrArg List.length hp
      simp [ES.pts_len] at this
      have := HL.out
      omega
    cases r with
    | nil =>
      have hk0 : k = len := by simpa [ES.len] using hk
      subst hk0
      clear hk hrow hrow'
      have e5 := (hW'.cell (p := ⟨Bp, 5, none⟩) hlt).trans cc5
      have H1 := hand_two (n - 1) B w0 K l N BJ J Jx hJa hY A4 A5 cap4 cap5 p.b p.e xs wr h4 h5 hB0 hKK.2.1 hKK.2.2 hW' hJ' (by have := HN.out; simp [ES.len] at hpl; omega) ⟨Bp, 6, none⟩ _ hlt cc6
      have HP := Lib.hid hp; clear hp
      have HPL := Lib.hid hpl; clear hpl
      clear cc4 cc5 cc6 e4 hN'
      gi_wp2_with (first
        | (gi_at_call 55; refine H1.mono ?_; clear H1; rintro e W2 (⟨rfl, e6, ys, HYS, H2⟩ | ⟨rfl, q, hq, hx⟩))
        | (gi_at_call 55; refine H2.mono ?_; clear H2; rintro e W3 (⟨rfl, zs, hzs, hJ3, hb3⟩ | ⟨rfl, q, hq, hx⟩)))
      · go_end0
        exact ⟨⟨_, rfl⟩, .inl ⟨xs ++ ys ++ zs, by simp [Pt.sub, HP.out, HYS.out, hzs, ES.pts], hJ3⟩⟩
      · go_end0
        obtain ⟨t, ht⟩ := hq
        exact ⟨⟨_, rfl⟩, .inr ⟨xs ++ ys ++ q, ⟨t, by simp [Pt.sub, HP.out, HYS.out, ← ht, ES.pts]⟩, hx⟩⟩
      · go_end0
        obtain ⟨t, ht⟩ := hq
        exact ⟨⟨_, rfl⟩, .inr ⟨xs ++ q, ⟨t ++ p.e.pts, by simp [Pt.sub, HP.out, ← ht, ES.pts]⟩, hx⟩⟩
    | cons op n1 s1 l1 r =>
      obtain ⟨b, o, rfl, hb, c0, c1, c2, ⟨v3, c3, h3'⟩, h6, hr⟩ := hrow' (by simp [ES.len])
      clear hrow hrow'
      obtain ⟨A6, cap6, rfl, _⟩ := id h3'
      have hlt2 : k < len := by simp [ES.len] at hk; omega
      have hN2 : xs.length < N := by have := HN.out; simp [ES.len] at hpl; omega
      have d0 := (hW'.cell (p := ⟨b, o + k * 4, none⟩) hb).trans c0
      have d1 := (hW'.cell (p := ⟨b, o + k * 4 + 1, none⟩) hb).trans c1
      have d2 := (hW'.cell (p := ⟨b, o + k * 4 + 2, none⟩) hb).trans c2
      have d3 := (hW'.cell (p := ⟨b, o + k * 4 + 3, none⟩) hb).trans c3
      clear c0 c1 c2 c3 cc4 cc5 cc6 e4
      have hcnt : (Pt.mk false op s1 n1 l1 .nil .nil).cnt ≤ K ∧ r.cnt ≤ K := by simp only [ES.cnt, SS.cnt, Pt.cnt] at hrK ⊢; omega
      obtain ⟨x, hxv, hxp⟩ : ∃ x : PX B w0 K, x.v = .agg #[.bool false, .int .i64 op, .string s1, .int .i64 n1, .slice A6 l1.len cap6, .slice none 0 0, .slice none 0 0] ∧ x.p = ⟨false, op, s1, n1, l1, .nil, .nil⟩ :=
        ⟨⟨_, ⟨false, op, s1, n1, l1, .nil, .nil⟩, ⟨_, _, _, rfl, h3', sv_nil _ _, sv_nil _ _, h6⟩, hcnt.1⟩, rfl, rfl⟩
      have HY := fun w1 (hb : Below wr.heap.size wr w1) => hand_step (n := n - 1) hY hJa hJ' hb hN2 x
      rw [hxv] at HY
      have HXP := Lib.hid hxp
      clear hxv hxp
      have HP := Lib.hid hp; clear hp
      have HK := Lib.hid hk; clear hk
      have HPL := Lib.hid hpl; clear hpl
      gi_wp2_with (first
        | (gi_at_call 69; refine (callsIn_wide.2 (ofExpr_any _ _ _ _ _ _ _)).mono ?_; rintro e w1 ⟨rfl, hb1⟩; have hb2 : Below wr.heap.size wr w1 := ((Below.refl _ _).alloc (Nat.le_refl _) _).trans (hb1.mono (by simp)); obtain ⟨fn, tmps, assign, body, hy, hR⟩ := HY w1 hb2)
        | (refine hR.mono ?_; clear hR; rintro e W3 (⟨rfl, hJ3, hb3⟩ | ⟨rfl, hJx3⟩)))
      · go_roundw
        case rel =>
          have hb4 : Below B wr W3 := (hb2.mono (by have := hW'.size; omega)).trans hb3
          refine ⟨k + 1, xs ++ [x], r, by go_num, ?_, ?_, hcnt.2, fun h => ⟨b, o, rfl, hb, ?_⟩, ?_, hJ3, hW'.trans hb4⟩
          · rw [HP.out]; simp [ES.pts, HXP.out]
          · have := HK.out; simp [ES.len] at this; omega
          · rw [show o + (k + 1) * 4 = o + k * 4 + 4 by omega]; exact hr
          · simp [ES.len] at hN' ⊢; omega
        case measure => simp [intOf]; omega
      · refine bodyPost_ret (results_none rfl _ _ _) rfl ?_
        refine ⟨⟨_, rfl⟩, .inr ⟨xs ++ [x], ⟨r.pts ++ (p.b.pts ++ p.e.pts), by simp [Pt.sub, HP.out, ES.pts, HXP.out]⟩, hJx3⟩⟩

/-- p.parts(): the part is boxed; the function value captures the box. -/
theorem parts_any (c0 : Bool) (c1 c3 : Int) (c2 : ByteArray) (A3 A4 A5 : Option Addr) (k3 k4 k5 cap3 cap4 cap5 : Nat) (w : World) :
    Calls Tryd.prog 53 #[.agg #[.bool c0, .int .i64 c1, .string c2, .int .i64 c3, .slice A3 k3 cap3, .slice A4 k4 cap4, .slice A5 k5 cap5]] w fun e w' =>
      e = .returned (.func (.func 68) #[] #[.pointer (some ⟨w.heap.size, 0, none⟩)]) ∧ w.alloc (.cells #[.bool c0, .int .i64 c1, .string c2, .int .i64 c3, .slice A3 k3 cap3, .slice A4 k4 cap4, .slice A5 k5 cap5] 109) = w' := by
  go_enter Tryd.func53, Tryd.ntmps53
  go_wp2
  go_ret
  exact ⟨rfl, rfl⟩

/-- An iterator that hands on the parts of l. -/
def SeqP (B : Nat) (w : World) (g : Nat) (lb : Array Value) (K : Nat) (l : List Pt) : Prop :=
  ∀ n, SeqStopsK Fence.wide n Tryd.prog g lb (fun x : PX B w K => #[x.v]) (Below B) (fun xs => xs.map (·.p) = l) (fun pre => pre.map (·.p) <+: l) l.length w

theorem parts_seq (B Bp : Nat) (w : World) (K : Nat) (p : Pt) (A3 A4 A5 : Option Addr) (cap3 cap4 cap5 : Nat) (hbox : BoxP w B Bp p A3 cap3 A4 cap4 A5 cap5) (hB0 : B ≤ w.heap.size) (hK : cntL p.sub ≤ K) :
    SeqP B w 68 #[.pointer (some ⟨Bp, 0, none⟩)] K p.sub := by
  intro n l J Jx W hW hJ _ hY h0
  exact parts1_in n B Bp w K l _ p A3 A4 A5 cap3 cap4 cap5 hbox hB0 J Jx hJ (fun m pre x W1 hj hl => YieldAt.wide m (hY pre x W1 hj hl)) W (hW.mono hB0) h0 hK

/-- What p.parts() hands back, in a world in which p's own slices lie. -/
theorem parts_new (w : World) (B K : Nat) (p : Pt) (A3 A4 A5 : Option Addr) (cap3 cap4 cap5 : Nat) (hB : B ≤ w.heap.size) (h3 : EV B w (.slice A3 p.l.len cap3) p.l) (h4 : SV B w (.slice A4 p.b.len cap4) p.b) (h5 : SV B w (.slice A5 p.e.len cap5) p.e) (hK : cntL p.sub ≤ K) (o : Obj)
    (ho : o = .cells #[.bool p.st, .int .i64 p.op, .string p.s, .int .i64 p.n, .slice A3 p.l.len cap3, .slice A4 p.b.len cap4, .slice A5 p.e.len cap5] 109) :
    SeqP (w.heap.size + 1) (w.alloc o) 68 #[.pointer (some ⟨w.heap.size, 0, none⟩)] K p.sub := by
  subst ho
  have hb : Below B w (w.alloc (.cells #[.bool p.st, .int .i64 p.op, .string p.s, .int .i64 p.n, .slice A3 p.l.len cap3, .slice A4 p.b.len cap4, .slice A5 p.e.len cap5] 109)) := (Below.refl _ _).alloc hB _
  refine parts_seq _ w.heap.size _ K p A3 A4 A5 cap3 cap4 cap5 ⟨by omega, by rw [cell_new]; rfl, by rw [cell_new]; rfl, by rw [cell_new]; rfl, h3.below hb (by omega), h4.below hb (by omega), h5.below hb (by omega)⟩ (by simp) hK

end Go.Proofs.YtahclmofioiibaaDoor
