/-
  Programs in memory; outer: what stands in no other part; Depth, Size.
-/
import Derived.Test.YtahclmofioiibaaDoorTreeD
namespace Go.Proofs.YtahclmofioiibaaDoor
open Go Go.RowKit Go.Shelf

attribute [local go_sem] Oper.semAt_some wide_fn wide_depth round_fn round_depth

/-- A function; a program. -/
structure Fn where
  s : ByteArray
  ps : List ByteArray
  b : SS
structure Pg where
  fs : List Fn
  m : SS

/-- Texts lie one behind the other. -/
def PsIn (W : World) : List ByteArray → Nat → Nat → Prop
  | [] => fun _ _ => True
  | s :: r => fun b o => W.cell? ⟨b, o, none⟩ = some (.string s) ∧ s.size ≤ 9223372036854775807 ∧ PsIn W r b (o + 1)
/-- Functions lie one behind the other. -/
def FsIn (B : Nat) (W : World) : List Fn → Nat → Nat → Prop
  | [] => fun _ _ => True
  | f :: r => fun b o => W.cell? ⟨b, o, none⟩ = some (.string f.s) ∧ (∃ v, W.cell? ⟨b, o + 1, none⟩ = some v ∧ RowV (PsIn W f.ps) B f.ps.length v) ∧
      (∃ v, W.cell? ⟨b, o + 2, none⟩ = some v ∧ SV B W v f.b) ∧ f.s.size ≤ 9223372036854775807 ∧ FsIn B W r b (o + 3)
abbrev FV (B : Nat) (W : World) (v : Value) (l : List Fn) : Prop := RowV (FsIn B W l) B l.length v

theorem PsIn.below {B : Nat} {W W' : World} (h : Below B W W') : ∀ {l : List ByteArray} {b o : Nat}, b < B → PsIn W l b o → PsIn W' l b o
  | [], _, _, _, _ => trivial
  | _ :: _, b, o, hb, ⟨h0, h1, hr⟩ => ⟨(h.cell (p := ⟨b, o, none⟩) hb).trans h0, h1, PsIn.below h hb hr⟩
theorem FsIn.below {B B' : Nat} {W W' : World} (h : Below B W W') (hB : B ≤ B') : ∀ {l : List Fn} {b o : Nat}, b < B → FsIn B W l b o → FsIn B' W' l b o
  | [], _, _, _, _ => trivial
  | _ :: _, b, o, hb, ⟨h0, ⟨v, h1, hp⟩, ⟨v', h2, hs⟩, h3, hr⟩ =>
    ⟨(h.cell (p := ⟨b, o, none⟩) hb).trans h0, ⟨v, (h.cell (p := ⟨b, o + 1, none⟩) hb).trans h1, hp.imp hB fun _ _ hb' hq => PsIn.below h hb' hq⟩,
      ⟨v', (h.cell (p := ⟨b, o + 2, none⟩) hb).trans h2, hs.below h hB⟩, h3, FsIn.below h hB hb hr⟩
theorem FV.below {B B' : Nat} {W W' : World} {v : Value} {l : List Fn} (hv : FV B W v l) (h : Below B W W') (hB : B ≤ B') : FV B' W' v l := RowV.imp hv hB fun _ _ hb hp => FsIn.below h hB hb hp

def fsPts : List Fn → List Pt
  | [] => []
  | f :: r => f.b.pts ++ fsPts r
def Pg.pts (p : Pg) : List Pt := fsPts p.fs ++ p.m.pts

/-- A program's value. -/
def PgV (B : Nat) (W : World) (v : Value) (p : Pg) : Prop :=
  ∃ A cap A' cap', v = .agg #[.slice A p.fs.length cap, .slice A' p.m.len cap'] ∧ FV B W (.slice A p.fs.length cap) p.fs ∧ SV B W (.slice A' p.m.len cap') p.m
theorem PgV.below {B B' : Nat} {W W' : World} {v : Value} {p : Pg} (hv : PgV B W v p) (h : Below B W W') (hB : B ≤ B') : PgV B' W' v p := by
  obtain ⟨A, cap, A', cap', e, h1, h2⟩ := hv
  exact ⟨A, cap, A', cap', e, h1.below h hB, h2.below h hB⟩

/-- A program's box. -/
structure BoxG (w : World) (B Bp : Nat) (p : Pg) (A : Option Addr) (cap : Nat) (A' : Option Addr) (cap' : Nat) : Prop where
  lt : Bp < B
  c0 : w.cell? ⟨Bp, 0, none⟩ = some (.slice A p.fs.length cap)
  c1 : w.cell? ⟨Bp, 1, none⟩ = some (.slice A' p.m.len cap')
  h0 : FV B w (.slice A p.fs.length cap) p.fs
  h1 : SV B w (.slice A' p.m.len cap') p.m

def OutRel (B : Nat) (w0 : World) (K len : Nat) (J : List (PX B w0 K) → World → Prop) (A : Option Addr) (p : Pg) (i : Value) (wr : World) : Prop :=
  ∃ (k : Nat) (xs : List (PX B w0 K)) (r : List Fn), i = .int .i64 k ∧ fsPts p.fs = xs.map (·.p) ++ fsPts r ∧ k + r.length = len ∧ cntL (fsPts r) ≤ K ∧ (0 < r.length → ∃ b o, A = some ⟨b, o, none⟩ ∧ b < B ∧ FsIn B w0 r b (o + k * 3)) ∧ J xs wr ∧ Below B w0 wr

set_option maxRecDepth 100000 in
set_option maxHeartbeats 4000000 in
theorem outer1_in (n B Bp : Nat) (w0 : World) (K l BJ : Nat) (p : Pg) (A A' : Option Addr) (cap cap' : Nat) (hbox : BoxG w0 B Bp p A cap A' cap') (hB0 : B ≤ w0.heap.size)
    (J Jx : List (PX B w0 K) → World → Prop) (hJa : AbidesFrom BJ J) (hY : Rounds B w0 K l p.pts.length J Jx) (W : World) (hW : Below B w0 W) (hJ : J [] W) (hK : cntL p.pts ≤ K) :
    CallsIn Fence.wide n Tryd.prog 54 #[.func (.yield l) #[] #[], .pointer (some ⟨Bp, 0, none⟩)] W (AllPost B w0 K J Jx p.pts) := by
  obtain ⟨N, hN⟩ : ∃ N, p.pts.length = N := ⟨_, rfl⟩
  rw [hN] at hY
  have hN' : (fsPts p.fs).length + p.m.len = N := by rw [← hN]; simp [Pg.pts, SS.pts_len]
  have hKK : cntL (fsPts p.fs) ≤ K ∧ p.m.cnt ≤ K := by simp [Pg.pts, cntL_append, SS.cntL] at hK; omega
  clear hN hK
  obtain ⟨hlt, cc0, cc1, h0, h1⟩ := hbox
  obtain ⟨A1, cap1, e1, hc1, hc2, hrow⟩ := id h0
  injection e1 with e2 e3 e4
  subst e2 e4
  clear e3
  obtain ⟨len, hlen⟩ : ∃ len, p.fs.length = len := ⟨_, rfl⟩
  rw [hlen] at hc1 hrow cc0
  have e0 := (hW.cell (p := ⟨Bp, 0, none⟩) hlt).trans cc0
  have HL := Lib.hid hlen; clear hlen
  have HN := Lib.hid hN'; clear hN'
  refine callsIn_of_wp Tryd.func54 rfl trivial ?_ rfl
  simp only [Tryd.ntmps54, List.size_toArray, List.length_cons, List.length_nil, Nat.reduceAdd, Nat.reduceSub, Array.replicate_succ, Array.replicate_zero, List.push_toArray, List.append_toArray, List.nil_append, List.cons_append]
  gi_wp2
  gi_loopw [8] (fun i wr => OutRel B w0 K len J A p i wr) (fun i _ => len - (intOf i).toNat)
  case atStart =>
    exact ⟨0, [], p.fs, rfl, rfl, by have := HL.out; omega, hKK.1, by simpa [HL.out] using hrow, hJ, hW⟩
  case round =>
    obtain ⟨k, xs, r, rfl, hp, hk, hrK, hrow', hJ', hW'⟩ := hrel
    have hpl : xs.length + (fsPts r).length + p.m.len = N := by
      have := congrArg List.length hp
      simp at this
      have := HN.out
      omega
    cases r with
    | nil =>
      have hk0 : k = len := by simpa using hk
      subst hk0
      clear hk hrow hrow'
      have e1 := (hW'.cell (p := ⟨Bp, 1, none⟩) hlt).trans cc1
      have H1 := hand_in (n - 1) B w0 K l N BJ J Jx hJa hY A' cap' p.m xs wr h1 hB0 hKK.2 hW' hJ' (by simp [fsPts] at hpl; omega)
      have HP := Lib.hid hp; clear hp
      clear cc0 cc1 e0 hpl
      gi_wp2_with (gi_at_call 55; refine H1.mono ?_; clear H1; rintro e W3 (⟨rfl, zs, hzs, hJ3, hb3⟩ | ⟨rfl, q, hq, hx⟩))
      · go_end0
        exact ⟨⟨_, rfl⟩, .inl ⟨xs ++ zs, by simp [Pg.pts, HP.out, hzs, fsPts], hJ3⟩⟩
      · go_end0
        obtain ⟨t, ht⟩ := hq
        exact ⟨⟨_, rfl⟩, .inr ⟨xs ++ q, ⟨t, by simp [Pg.pts, HP.out, ← ht, fsPts]⟩, hx⟩⟩
    | cons f r =>
      obtain ⟨b, o, rfl, hb, c0, ⟨v1, c1, h1'⟩, ⟨v2, c2, h2'⟩, h6, hr⟩ := hrow' (by simp)
      clear hrow hrow'
      obtain ⟨A6, cap6, rfl, _⟩ := id h1'
      obtain ⟨A7, cap7, rfl, _⟩ := id h2'
      have hlt2 : k < len := by simp at hk; omega
      have d0 := (hW'.cell (p := ⟨b, o + k * 3, none⟩) hb).trans c0
      have d1 := (hW'.cell (p := ⟨b, o + k * 3 + 1, none⟩) hb).trans c1
      have d2 := (hW'.cell (p := ⟨b, o + k * 3 + 2, none⟩) hb).trans c2
      clear c0 c1 c2 cc0 cc1 e0
      have hcnt : f.b.cnt ≤ K ∧ cntL (fsPts r) ≤ K := by simp only [fsPts, cntL_append, SS.cntL] at hrK; omega
      have hsz := hW'.size
      have HH := fun o => hand_in (n - 1) B w0 K l N BJ J Jx hJa hY A7 cap7 f.b xs (wr.alloc o) h2' hB0 hcnt.1 (hW'.trans ((Below.refl _ _).alloc (by omega) _)) (abides_below hJa hJ' ((Below.refl _ _).alloc (Nat.le_refl _) _)) (by simp [fsPts, SS.pts_len] at hpl; omega)
      have HP := Lib.hid hp; clear hp
      have HK := Lib.hid hk; clear hk
      have HPL := Lib.hid hpl; clear hpl
      gi_wp2_with (gi_at_call 55; refine (HH _).mono ?_; clear HH; rintro e W3 (⟨rfl, zs, hzs, hJ3, hb3⟩ | ⟨rfl, q, hq, hx⟩))
      · go_roundw
        case rel =>
          have hb4 : Below B wr W3 := ((Below.refl _ _).alloc (by omega) _).trans hb3
          refine ⟨k + 1, xs ++ zs, r, by go_num, ?_, ?_, hcnt.2, fun h => ⟨b, o, rfl, hb, ?_⟩, hJ3, hW'.trans hb4⟩
          · rw [HP.out]; simp [fsPts, hzs]
          · have := HK.out; simp at this; omega
          · rw [show o + (k + 1) * 3 = o + k * 3 + 3 by omega]; exact hr
        case measure => simp [intOf]; omega
      · refine bodyPost_ret (results_none rfl _ _ _) rfl ?_
        obtain ⟨t, ht⟩ := hq
        exact ⟨⟨_, rfl⟩, .inr ⟨xs ++ q, ⟨t ++ (fsPts r ++ p.m.pts), by simp [Pg.pts, HP.out, fsPts, ← ht]⟩, hx⟩⟩

theorem outer_any (A A' : Option Addr) (k cap k' cap' : Nat) (w : World) :
    Calls Tryd.prog 34 #[.agg #[.slice A k cap, .slice A' k' cap']] w fun e w' =>
      e = .returned (.func (.func 54) #[] #[.pointer (some ⟨w.heap.size, 0, none⟩)]) ∧ w.alloc (.cells #[.slice A k cap, .slice A' k' cap'] 25) = w' := by
  go_enter Tryd.func34, Tryd.ntmps34
  go_wp2
  go_ret
  exact ⟨rfl, rfl⟩

/-- What outer(p) hands back. -/
theorem outer_new (w : World) (B : Nat) (p : Pg) (A A' : Option Addr) (cap cap' : Nat) (hB : B ≤ w.heap.size) (h0 : FV B w (.slice A p.fs.length cap) p.fs) (h1 : SV B w (.slice A' p.m.len cap') p.m) (o : Obj)
    (ho : o = .cells #[.slice A p.fs.length cap, .slice A' p.m.len cap'] 25) :
    SeqP (w.alloc o).heap.size (w.alloc o) 54 #[.pointer (some ⟨w.heap.size, 0, none⟩)] (cntL p.pts) p.pts := by
  subst ho
  rw [World.size_alloc]
  have hb : Below B w (w.alloc (.cells #[.slice A p.fs.length cap, .slice A' p.m.len cap'] 25)) := (Below.refl _ _).alloc hB _
  intro n l J Jx W hW hJ _ hY h
  exact outer1_in n _ w.heap.size _ _ l _ p A A' cap cap' ⟨by omega, by rw [cell_new]; rfl, by rw [cell_new]; rfl, h0.below hb (by omega), h1.below hb (by omega)⟩ (by simp) J Jx hJ (fun m pre x W1 hj hl => YieldAt.wide m (hY pre x W1 hj hl)) W (hW.mono (by simp)) h (Nat.le_refl _)

theorem enters_outer : ∀ args w, (callFunc 54 args).run Tryd.prog w = .ok (.enter 54 args) w := enters_of Tryd.func54 (by kernel_rfl) rfl

set_option maxHeartbeats 1000000 in
theorem depth_any (v : Value) (p : Pg) (w : World) (B : Nat) (hB : B ≤ w.heap.size) (hv : PgV B w v p) :
    Calls Tryd.prog 35 #[v] w fun e w' => e = .returned (.int .i64 (deepL p.pts)) ∧ Below w.heap.size w w' := by
  obtain ⟨A, cap, A', cap', rfl, h0, h1⟩ := hv
  have HD := deepest_any _ _ _ _ _ enters_outer (outer_new (w.alloc (.cells #[.slice A p.fs.length cap, .slice A' p.m.len cap'] 25)) B p A A' cap cap' (by simp; omega) (h0.below ((Below.refl _ _).alloc hB _) (Nat.le_refl _)) (h1.below ((Below.refl _ _).alloc hB _) (Nat.le_refl _)) _ rfl)
  simp only [World.size_alloc] at HD
  clear h0 h1
  go_enter Tryd.func35, Tryd.ntmps35
  go_wp2_with (first
    | (go_at_call 34; ((with_reducible refine (outer_any _ _ _ _ _ _ _).mono ?_); rintro e w1 ⟨rfl, rfl⟩))
    | (go_at_call 56; ((with_reducible refine HD.mono ?_); rintro e w2 ⟨rfl, hb2⟩)))
  go_ret
  exact ⟨rfl, (((Below.refl _ _).alloc (Nat.le_refl _) _).alloc (by simp) _).trans (hb2.mono (by omega))⟩

end Go.Proofs.YtahclmofioiibaaDoor
