/-
  (*checker).statement; each over statements.
-/
import Derived.Test.YtacleafbjbhcgaaLbF
namespace Go.Proofs.Ytacleafbjbhcgaa
open Go Go.RowKit Go.Lib

/-- What statement does, at statements whose parts hold fewer than K. -/
def StHas (K : Nat) : Prop := ∀ (op n : Int) (s : ByteArray) (v vb ve : Value) (l : ES) (x y : SS) (B C M : Nat) (fs : List Fn) (w0 w : World) (nm : ByteArray) (t : Bool), x.cnt < K → y.cnt < K → EV B w0 v l → SV B w0 vb x → SV B w0 ve y → l.len * 56 ≤ 140737488351232 → l.thin → x.thin → y.thin → s.size ≤ 9223372036854775807 → nm.size ≤ 9223372036854775807 → Ck B C M fs w0 w nm t →
  Calls Try.prog 19 #[.pointer (some ⟨C, 0, none⟩), .agg #[.int .i64 op, .string s, .int .i64 n, v, vb, ve]] w fun e w' => e = .returned (.tuple #[]) ∧ Ck B C M fs w0 w' nm (t || (((l.tells fs || ownS (!greatB nm) op s l.secs) || x.tells fs (!greatB nm)) || y.tells fs (!greatB nm))) ∧ Gr C w w'

def EachRel (B C M : Nat) (fs : List Fn) (w0 W : World) (nm : ByteArray) (t : Bool) (K len : Nat) (A : Option Addr) (l : SS) (i : Value) (wr : World) : Prop :=
  ∃ (k : Nat) (r : SS) (t1 : Bool), i = .int .i64 k ∧ k + r.len = len ∧ r.cnt ≤ K ∧ r.thin ∧ (t || l.tells fs (!greatB nm)) = (t1 || r.tells fs (!greatB nm)) ∧ (0 < r.len → ∃ b o, A = some ⟨b, o, none⟩ ∧ b < B ∧ r.In B w0 b (o + k * 6)) ∧ Ck B C M fs w0 wr nm t1 ∧ Gr C W wr

theorem st_step4 (t a b c d e : Bool) : (t || ((((a || b) || c) || d) || e)) = ((t || (((a || b) || c) || d)) || e) := by simp only [Bool.or_assoc]

set_option maxRecDepth 100000 in
set_option maxHeartbeats 4000000 in
theorem each_st (K : Nat) (hst : StHas K) (A : Option Addr) (cap : Nat) (l : SS) (B C M : Nat) (fs : List Fn) (w0 W : World) (nm : ByteArray) (t : Bool) (hK : l.cnt ≤ K) (hv : SV B w0 (.slice A l.len cap) l) (ht : l.thin) (hn : nm.size ≤ 9223372036854775807) (hck : Ck B C M fs w0 W nm t) :
    Calls Try.prog 18 #[.slice A l.len cap, .func (.func 19) #[.pointer (some ⟨C, 0, none⟩)] #[]] W fun e W' => e = .returned (.tuple #[]) ∧ Ck B C M fs w0 W' nm (t || l.tells fs (!greatB nm)) ∧ Gr C W W' := by
  obtain ⟨A1, cap1, e1, hc1, hc2, hrow⟩ := hv
  injection e1 with e2 e3 e4
  subst e2 e4
  clear e3
  obtain ⟨len, hlen⟩ : ∃ len, l.len = len := ⟨_, rfl⟩
  rw [hlen] at hc1 hrow ⊢
  have HL := Lib.hid hlen; clear hlen
  have HC := Lib.hid hck
  have hCl := hck.lt
  clear hck
  go_enter Try.func18, Try.ntmps18
  go_wp2
  go_loopw [8] (fun i wr => EachRel B C M fs w0 W nm t K len A l i wr) (fun i _ => len - (intOf i).toNat)
  case atStart => exact ⟨0, l, t, rfl, by have := HL.out; omega, hK, ht, rfl, by simpa [HL.out] using hrow, HC.out, Gr.refl C W⟩
  case round =>
    obtain ⟨k, r, t1, rfl, hk, hrK, hrt, htold, hr1, hck1, hg1⟩ := hrel
    have HT := Lib.hid htold; clear htold
    cases r with
    | nil =>
      have hk0 : k = len := by simpa [SS.len] using hk
      subst hk0
      clear hk hrow hr1
      have HCK := Lib.hid hck1; clear hck1
      go_wp2
      go_end0
      exact ⟨rfl, HCK.out.said (by rw [HT.out, SS.tells, Bool.or_false]), hg1⟩
    | cons op s n l1 x y r =>
      obtain ⟨b, o, rfl, hb, c0, c1, c2, ⟨v3, c3, h3⟩, ⟨v4, c4, h4⟩, ⟨v5, c5, h5⟩, h6, hr⟩ := hr1 (by simp [SS.len])
      clear hrow hr1
      have hlt : k < len := by simp [SS.len] at hk; omega
      have HK := Lib.hid hk; clear hk
      have d0 := (hck1.base.cell (p := ⟨b, o + k * 6, none⟩) hb).trans c0
      have d1 := (hck1.base.cell (p := ⟨b, o + k * 6 + 1, none⟩) hb).trans c1
      have d2 := (hck1.base.cell (p := ⟨b, o + k * 6 + 2, none⟩) hb).trans c2
      have d3 := (hck1.base.cell (p := ⟨b, o + k * 6 + 3, none⟩) hb).trans c3
      have d4 := (hck1.base.cell (p := ⟨b, o + k * 6 + 4, none⟩) hb).trans c4
      have d5 := (hck1.base.cell (p := ⟨b, o + k * 6 + 5, none⟩) hb).trans c5
      clear c0 c1 c2 c3 c4 c5
      obtain ⟨⟨hth1, hth2, _, _⟩, hth3, hth4, hth5, hth6⟩ := hrt
      have hcnt : x.cnt < K ∧ y.cnt < K ∧ r.cnt ≤ K := by simp only [SS.cnt] at hrK; omega
      have HE := Lib.hid (fun bx => hst op n s v3 v4 v5 l1 x y B C M fs w0 (wr.alloc bx) nm t1 hcnt.1 hcnt.2.1 h3 h4 h5 hth2 hth3 hth4 hth5 h6.2.2 hn (hck1.alloc bx))
      obtain ⟨A3, cap3, rfl, _⟩ := id h3
      obtain ⟨A4, cap4, rfl, _⟩ := id h4
      obtain ⟨A5, cap5, rfl, _⟩ := id h5
      have HG1 := Lib.hid hg1
      clear h3 h4 h5 hg1 hck1
      go_wp2_with (go_at_call 19; ((with_reducible refine (HE.out _).mono ?_); rintro e w2 ⟨rfl, hck2, hg2⟩))
      go_roundw
      case rel => exact ⟨k + 1, r, _, by go_num, by have := HK.out; simp [SS.len] at this; omega, hcnt.2.2, hth6, by rw [HT.out, SS.tells]; exact st_step4 _ _ _ _ _ _, fun _ => ⟨b, o, rfl, hb, by rw [show o + (k + 1) * 6 = o + k * 6 + 6 by omega]; exact hr⟩, hck2, (HG1.out.alloc _).trans hg2⟩
      case measure => simp [intOf]; omega

theorem box6 {W : World} {k : Nat} {a b c d e f : Value} {t : TypeId} (h : W.heap[k]? = some (.cells #[a, b, c, d, e, f] t)) : W.cell? ⟨k, 0, none⟩ = some a ∧ W.cell? ⟨k, 1, none⟩ = some b ∧ W.cell? ⟨k, 2, none⟩ = some c ∧ W.cell? ⟨k, 3, none⟩ = some d ∧ W.cell? ⟨k, 4, none⟩ = some e ∧ W.cell? ⟨k, 5, none⟩ = some f :=
  ⟨(box_cell h 0).trans rfl, (box_cell h 1).trans rfl, (box_cell h 2).trans rfl, (box_cell h 3).trans rfl, (box_cell h 4).trans rfl, (box_cell h 5).trans rfl⟩

set_option maxRecDepth 100000 in
set_option maxHeartbeats 4000000 in
theorem st_assign (K : Nat) (hst : StHas K) (op n : Int) (s : ByteArray) (v vb ve : Value) (l : ES) (x y : SS) (B C M : Nat) (fs : List Fn) (w0 w : World) (nm : ByteArray) (t : Bool) (hx : x.cnt < K + 1) (hy : y.cnt < K + 1) (hv : EV B w0 v l) (hvb : SV B w0 vb x) (hve : SV B w0 ve y) (hth : l.len * 56 ≤ 140737488351232) (hthin : l.thin) (hxt : x.thin) (hyt : y.thin) (hs : s.size ≤ 9223372036854775807) (hn : nm.size ≤ 9223372036854775807) (hck : Ck B C M fs w0 w nm t) (h : op = 1) :
    Calls Try.prog 19 #[.pointer (some ⟨C, 0, none⟩), .agg #[.int .i64 op, .string s, .int .i64 n, v, vb, ve]] w fun e w' => e = .returned (.tuple #[]) ∧ Ck B C M fs w0 w' nm (t || (((l.tells fs || ownS (!greatB nm) op s l.secs) || x.tells fs (!greatB nm)) || y.tells fs (!greatB nm))) ∧ Gr C w w' := by
  obtain ⟨A, cap, rfl, _⟩ := id hv
  obtain ⟨A4, cap4, rfl, _⟩ := id hvb
  obtain ⟨A5, cap5, rfl, _⟩ := id hve
  have hCl := hck.lt
  have HS := Lib.hid (fun bx => secs_any A cap l B C M fs w0 (w.alloc bx) nm t hv hth hthin (hck.alloc bx))
  have HGA := Lib.hid (fun bx => (Gr.refl C w).alloc bx)
  have HEB := Lib.hid (fun wx tx (h : Ck B C M fs w0 wx nm tx) => each_st K hst A4 cap4 x B C M fs w0 wx nm tx (by omega) hvb hxt hn h)
  have HEE := Lib.hid (fun wx tx (h : Ck B C M fs w0 wx nm tx) => each_st K hst A5 cap5 y B C M fs w0 wx nm tx (by omega) hve hyt hn h)
  clear hst hv hvb hve hck
  subst h
  go_enter Try.func19, Try.ntmps19
  go_wp2_with (first
    | (go_at_call 23; ((with_reducible refine (HS.out _).mono ?_); rintro e w1 ⟨⟨v1, rfl, hb1⟩, hck1, hg1⟩; have HB1 := Lib.hid hb1; have HCK1 := Lib.hid hck1; have hbx := box_gr (heap_alloc_new w _) hg1 (by omega); obtain ⟨x0, x1, x2, x3, x4, x5⟩ := box6 hbx; have HX1 := Lib.hid hbx; have z1 := hck1.c1; clear hbx hb1 hck1))
    | (go_at_call 25; ((with_reducible refine (into_any HCK1.out HB1.out 0 0 rfl (by decide) s hs).mono ?_); rintro e w2 ⟨rfl, hck2, hg2⟩; have HCK2 := Lib.hid hck2; have hbx2 := box_gr HX1.out hg2 (by omega); obtain ⟨x0, x1, x2, x3, x4, x5⟩ := box6 hbx2; have HX2 := Lib.hid hbx2; clear hbx2 hck2))
    | (go_at_call 18; ((with_reducible refine (HEE.out w3 _ HCK3.out).mono ?_); rintro e w4 ⟨rfl, hck4, hg4⟩))
    | (go_at_call 18; ((with_reducible refine (HEB.out w2 _ HCK2.out).mono ?_); rintro e w3 ⟨rfl, hck3, hg3⟩; have HCK3 := Lib.hid hck3; have hbx3 := box_gr HX2.out hg3 (by omega); obtain ⟨x0, x1, x2, x3, x4, x5⟩ := box6 hbx3; clear hbx3 hck3)))
  go_end0
  exact ⟨rfl, hck4.said (by simp [ownS, Bool.or_assoc]), ((((HGA.out _).trans hg1).trans hg2).trans hg3).trans hg4⟩

set_option maxRecDepth 100000 in
set_option maxHeartbeats 4000000 in
theorem st_put (K : Nat) (hst : StHas K) (op n : Int) (s : ByteArray) (v vb ve : Value) (l : ES) (x y : SS) (B C M : Nat) (fs : List Fn) (w0 w : World) (nm : ByteArray) (t : Bool) (hx : x.cnt < K + 1) (hy : y.cnt < K + 1) (hv : EV B w0 v l) (hvb : SV B w0 vb x) (hve : SV B w0 ve y) (hth : l.len * 56 ≤ 140737488351232) (hthin : l.thin) (hxt : x.thin) (hyt : y.thin) (hs : s.size ≤ 9223372036854775807) (hn : nm.size ≤ 9223372036854775807) (hck : Ck B C M fs w0 w nm t) (h : op = 2) :
    Calls Try.prog 19 #[.pointer (some ⟨C, 0, none⟩), .agg #[.int .i64 op, .string s, .int .i64 n, v, vb, ve]] w fun e w' => e = .returned (.tuple #[]) ∧ Ck B C M fs w0 w' nm (t || (((l.tells fs || ownS (!greatB nm) op s l.secs) || x.tells fs (!greatB nm)) || y.tells fs (!greatB nm))) ∧ Gr C w w' := by
  obtain ⟨A, cap, rfl, _⟩ := id hv
  obtain ⟨A4, cap4, rfl, _⟩ := id hvb
  obtain ⟨A5, cap5, rfl, _⟩ := id hve
  have hCl := hck.lt
  have HS := Lib.hid (fun bx => secs_any A cap l B C M fs w0 (w.alloc bx) nm t hv hth hthin (hck.alloc bx))
  have HGA := Lib.hid (fun bx => (Gr.refl C w).alloc bx)
  have HEB := Lib.hid (fun wx tx (h : Ck B C M fs w0 wx nm tx) => each_st K hst A4 cap4 x B C M fs w0 wx nm tx (by omega) hvb hxt hn h)
  have HEE := Lib.hid (fun wx tx (h : Ck B C M fs w0 wx nm tx) => each_st K hst A5 cap5 y B C M fs w0 wx nm tx (by omega) hve hyt hn h)
  clear hst hv hvb hve hck
  subst h
  go_enter Try.func19, Try.ntmps19
  go_wp2_with (first
    | (go_at_call 23; ((with_reducible refine (HS.out _).mono ?_); rintro e w1 ⟨⟨v1, rfl, hb1⟩, hck1, hg1⟩; have HB1 := Lib.hid hb1; have HCK1 := Lib.hid hck1; have hbx := box_gr (heap_alloc_new w _) hg1 (by omega); obtain ⟨x0, x1, x2, x3, x4, x5⟩ := box6 hbx; have HX1 := Lib.hid hbx; have z1 := hck1.c1; clear hbx hb1 hck1))
    | (go_at_call 26; ((with_reducible refine (public_any HCK1.out HB1.out 0 0 rfl (by decide)).mono ?_); rintro e w2 ⟨rfl, hck2, hg2⟩; have HCK2 := Lib.hid hck2; have hbx2 := box_gr HX1.out hg2 (by omega); obtain ⟨x0, x1, x2, x3, x4, x5⟩ := box6 hbx2; have HX2 := Lib.hid hbx2; clear hbx2 hck2))
    | (go_at_call 25; ((with_reducible refine (into_any HCK2.out (HB1.out.gr hg2) 1 1 rfl (by decide) s hs).mono ?_); rintro e w3 ⟨rfl, hck3, hg3⟩; have HCK3 := Lib.hid hck3; have hbx3 := box_gr HX2.out hg3 (by omega); obtain ⟨x0, x1, x2, x3, x4, x5⟩ := box6 hbx3; have HX3 := Lib.hid hbx3; clear hbx3 hck3))
    | (go_at_call 18; ((with_reducible refine (HEE.out w4 _ HCK4.out).mono ?_); rintro e w5 ⟨rfl, hck5, hg5⟩))
    | (go_at_call 18; ((with_reducible refine (HEB.out w3 _ HCK3.out).mono ?_); rintro e w4 ⟨rfl, hck4, hg4⟩; have HCK4 := Lib.hid hck4; have hbx4 := box_gr HX3.out hg4 (by omega); obtain ⟨x0, x1, x2, x3, x4, x5⟩ := box6 hbx4; clear hbx4 hck4)))
  go_end0
  exact ⟨rfl, hck5.said (by simp [ownS, Bool.or_assoc]), (((((HGA.out _).trans hg1).trans hg2).trans hg3).trans hg4).trans hg5⟩

set_option maxRecDepth 100000 in
set_option maxHeartbeats 4000000 in
theorem st_ask (K : Nat) (hst : StHas K) (op n : Int) (s : ByteArray) (v vb ve : Value) (l : ES) (x y : SS) (B C M : Nat) (fs : List Fn) (w0 w : World) (nm : ByteArray) (t : Bool) (hx : x.cnt < K + 1) (hy : y.cnt < K + 1) (hv : EV B w0 v l) (hvb : SV B w0 vb x) (hve : SV B w0 ve y) (hth : l.len * 56 ≤ 140737488351232) (hthin : l.thin) (hxt : x.thin) (hyt : y.thin) (_hs : s.size ≤ 9223372036854775807) (hn : nm.size ≤ 9223372036854775807) (hck : Ck B C M fs w0 w nm t) (h : op = 5 ∨ op = 7 ∨ op = 8) :
    Calls Try.prog 19 #[.pointer (some ⟨C, 0, none⟩), .agg #[.int .i64 op, .string s, .int .i64 n, v, vb, ve]] w fun e w' => e = .returned (.tuple #[]) ∧ Ck B C M fs w0 w' nm (t || (((l.tells fs || ownS (!greatB nm) op s l.secs) || x.tells fs (!greatB nm)) || y.tells fs (!greatB nm))) ∧ Gr C w w' := by
  obtain ⟨A, cap, rfl, _⟩ := id hv
  obtain ⟨A4, cap4, rfl, _⟩ := id hvb
  obtain ⟨A5, cap5, rfl, _⟩ := id hve
  have hCl := hck.lt
  have HS := Lib.hid (fun bx => secs_any A cap l B C M fs w0 (w.alloc bx) nm t hv hth hthin (hck.alloc bx))
  have HGA := Lib.hid (fun bx => (Gr.refl C w).alloc bx)
  have HEB := Lib.hid (fun wx tx (h : Ck B C M fs w0 wx nm tx) => each_st K hst A4 cap4 x B C M fs w0 wx nm tx (by omega) hvb hxt hn h)
  have HEE := Lib.hid (fun wx tx (h : Ck B C M fs w0 wx nm tx) => each_st K hst A5 cap5 y B C M fs w0 wx nm tx (by omega) hve hyt hn h)
  clear hst hv hvb hve hck
  rcases h with rfl | rfl | rfl
  all_goals
    go_enter Try.func19, Try.ntmps19
    go_wp2_with (first
      | (go_at_call 23; ((with_reducible refine (HS.out _).mono ?_); rintro e w1 ⟨⟨v1, rfl, hb1⟩, hck1, hg1⟩; have HB1 := Lib.hid hb1; have HCK1 := Lib.hid hck1; have hbx := box_gr (heap_alloc_new w _) hg1 (by omega); obtain ⟨x0, x1, x2, x3, x4, x5⟩ := box6 hbx; have HX1 := Lib.hid hbx; have z1 := hck1.c1; clear hbx hb1 hck1))
      | (go_at_call 26; ((with_reducible refine (public_any HCK1.out HB1.out 0 0 rfl (by decide)).mono ?_); rintro e w2 ⟨rfl, hck2, hg2⟩; have HCK2 := Lib.hid hck2; have hbx2 := box_gr HX1.out hg2 (by omega); obtain ⟨x0, x1, x2, x3, x4, x5⟩ := box6 hbx2; have HX2 := Lib.hid hbx2; clear hbx2 hck2))
      | (go_at_call 18; ((with_reducible refine (HEE.out w3 _ HCK3.out).mono ?_); rintro e w4 ⟨rfl, hck4, hg4⟩))
      | (go_at_call 18; ((with_reducible refine (HEB.out w2 _ HCK2.out).mono ?_); rintro e w3 ⟨rfl, hck3, hg3⟩; have HCK3 := Lib.hid hck3; have hbx3 := box_gr HX2.out hg3 (by omega); obtain ⟨x0, x1, x2, x3, x4, x5⟩ := box6 hbx3; clear hbx3 hck3)))
    go_end0
    exact ⟨rfl, hck4.said (by simp [ownS, Bool.or_assoc]), ((((HGA.out _).trans hg1).trans hg2).trans hg3).trans hg4⟩

set_option maxRecDepth 100000 in
set_option maxHeartbeats 4000000 in
theorem st_return (K : Nat) (hst : StHas K) (op n : Int) (s : ByteArray) (v vb ve : Value) (l : ES) (x y : SS) (B C M : Nat) (fs : List Fn) (w0 w : World) (nm : ByteArray) (t : Bool) (hx : x.cnt < K + 1) (hy : y.cnt < K + 1) (hv : EV B w0 v l) (hvb : SV B w0 vb x) (hve : SV B w0 ve y) (hth : l.len * 56 ≤ 140737488351232) (hthin : l.thin) (hxt : x.thin) (hyt : y.thin) (_hs : s.size ≤ 9223372036854775807) (hn : nm.size ≤ 9223372036854775807) (hck : Ck B C M fs w0 w nm t) (h : op = 9) :
    Calls Try.prog 19 #[.pointer (some ⟨C, 0, none⟩), .agg #[.int .i64 op, .string s, .int .i64 n, v, vb, ve]] w fun e w' => e = .returned (.tuple #[]) ∧ Ck B C M fs w0 w' nm (t || (((l.tells fs || ownS (!greatB nm) op s l.secs) || x.tells fs (!greatB nm)) || y.tells fs (!greatB nm))) ∧ Gr C w w' := by
  obtain ⟨A, cap, rfl, _⟩ := id hv
  obtain ⟨A4, cap4, rfl, _⟩ := id hvb
  obtain ⟨A5, cap5, rfl, _⟩ := id hve
  have hCl := hck.lt
  have HS := Lib.hid (fun bx => secs_any A cap l B C M fs w0 (w.alloc bx) nm t hv hth hthin (hck.alloc bx))
  have HGA := Lib.hid (fun bx => (Gr.refl C w).alloc bx)
  have HEB := Lib.hid (fun wx tx (h : Ck B C M fs w0 wx nm tx) => each_st K hst A4 cap4 x B C M fs w0 wx nm tx (by omega) hvb hxt hn h)
  have HEE := Lib.hid (fun wx tx (h : Ck B C M fs w0 wx nm tx) => each_st K hst A5 cap5 y B C M fs w0 wx nm tx (by omega) hve hyt hn h)
  clear hst hv hvb hve hck
  subst h
  go_enter Try.func19, Try.ntmps19
  go_wp2_with (first
    | (go_at_call 23; ((with_reducible refine (HS.out _).mono ?_); rintro e w1 ⟨⟨v1, rfl, hb1⟩, hck1, hg1⟩; have HB1 := Lib.hid hb1; have HCK1 := Lib.hid hck1; have hbx := box_gr (heap_alloc_new w _) hg1 (by omega); obtain ⟨x0, x1, x2, x3, x4, x5⟩ := box6 hbx; have HX1 := Lib.hid hbx; have z1 := hck1.c1; clear hbx hb1 hck1))
    | (go_at_call 25; ((with_reducible refine (into_any HCK1.out HB1.out 0 0 rfl (by decide) nm hn).mono ?_); rintro e w2 ⟨rfl, hck2, hg2⟩; have HCK2 := Lib.hid hck2; have hbx2 := box_gr HX1.out hg2 (by omega); obtain ⟨x0, x1, x2, x3, x4, x5⟩ := box6 hbx2; have HX2 := Lib.hid hbx2; clear hbx2 hck2))
    | (go_at_call 18; ((with_reducible refine (HEE.out w3 _ HCK3.out).mono ?_); rintro e w4 ⟨rfl, hck4, hg4⟩))
    | (go_at_call 18; ((with_reducible refine (HEB.out w2 _ HCK2.out).mono ?_); rintro e w3 ⟨rfl, hck3, hg3⟩; have HCK3 := Lib.hid hck3; have hbx3 := box_gr HX2.out hg3 (by omega); obtain ⟨x0, x1, x2, x3, x4, x5⟩ := box6 hbx3; clear hbx3 hck3)))
  go_end0
  exact ⟨rfl, hck4.said (by simp [ownS, Bool.or_assoc]), ((((HGA.out _).trans hg1).trans hg2).trans hg3).trans hg4⟩

set_option maxRecDepth 100000 in
set_option maxHeartbeats 4000000 in
theorem st_none (K : Nat) (hst : StHas K) (op n : Int) (s : ByteArray) (v vb ve : Value) (l : ES) (x y : SS) (B C M : Nat) (fs : List Fn) (w0 w : World) (nm : ByteArray) (t : Bool) (hx : x.cnt < K + 1) (hy : y.cnt < K + 1) (hv : EV B w0 v l) (hvb : SV B w0 vb x) (hve : SV B w0 ve y) (hth : l.len * 56 ≤ 140737488351232) (hthin : l.thin) (hxt : x.thin) (hyt : y.thin) (_hs : s.size ≤ 9223372036854775807) (hn : nm.size ≤ 9223372036854775807) (hck : Ck B C M fs w0 w nm t) (h1 : op ≠ 1) (h2 : op ≠ 2) (h5 : op ≠ 5) (h7 : op ≠ 7) (h8 : op ≠ 8) (h9 : op ≠ 9) :
    Calls Try.prog 19 #[.pointer (some ⟨C, 0, none⟩), .agg #[.int .i64 op, .string s, .int .i64 n, v, vb, ve]] w fun e w' => e = .returned (.tuple #[]) ∧ Ck B C M fs w0 w' nm (t || (((l.tells fs || ownS (!greatB nm) op s l.secs) || x.tells fs (!greatB nm)) || y.tells fs (!greatB nm))) ∧ Gr C w w' := by
  obtain ⟨A, cap, rfl, _⟩ := id hv
  obtain ⟨A4, cap4, rfl, _⟩ := id hvb
  obtain ⟨A5, cap5, rfl, _⟩ := id hve
  have hCl := hck.lt
  have HS := Lib.hid (fun bx => secs_any A cap l B C M fs w0 (w.alloc bx) nm t hv hth hthin (hck.alloc bx))
  have HGA := Lib.hid (fun bx => (Gr.refl C w).alloc bx)
  have HEB := Lib.hid (fun wx tx (h : Ck B C M fs w0 wx nm tx) => each_st K hst A4 cap4 x B C M fs w0 wx nm tx (by omega) hvb hxt hn h)
  have HEE := Lib.hid (fun wx tx (h : Ck B C M fs w0 wx nm tx) => each_st K hst A5 cap5 y B C M fs w0 wx nm tx (by omega) hve hyt hn h)
  clear hst hv hvb hve hck
  have b1 : (op == 1) = false := by simpa using h1
  have b2 : (op == 2) = false := by simpa using h2
  have b5 : (op == 5) = false := by simpa using h5
  have b7 : (op == 7) = false := by simpa using h7
  have b8 : (op == 8) = false := by simpa using h8
  have b9 : (op == 9) = false := by simpa using h9
  go_enter Try.func19, Try.ntmps19
  go_wp2_with (first
    | (go_at_call 23; ((with_reducible refine (HS.out _).mono ?_); rintro e w1 ⟨⟨v1, rfl, hb1⟩, hck1, hg1⟩; have HB1 := Lib.hid hb1; have HCK1 := Lib.hid hck1; have hbx := box_gr (heap_alloc_new w _) hg1 (by omega); obtain ⟨x0, x1, x2, x3, x4, x5⟩ := box6 hbx; have HX1 := Lib.hid hbx; have z1 := hck1.c1; clear hbx hb1 hck1))
    | (go_at_call 18; ((with_reducible refine (HEE.out w2 _ HCK2.out).mono ?_); rintro e w3 ⟨rfl, hck3, hg3⟩))
    | (go_at_call 18; ((with_reducible refine (HEB.out w1 _ HCK1.out).mono ?_); rintro e w2 ⟨rfl, hck2, hg2⟩; have HCK2 := Lib.hid hck2; have hbx2 := box_gr HX1.out hg2 (by omega); obtain ⟨x0, x1, x2, x3, x4, x5⟩ := box6 hbx2; clear hbx2 hck2)))
  go_end0
  exact ⟨rfl, hck3.said (by simp [ownS, Bool.or_assoc, h1, h2, h5, h7, h8, h9]), (((HGA.out _).trans hg1).trans hg2).trans hg3⟩

theorem st_step (K : Nat) (hst : StHas K) : StHas (K + 1) := by
  intro op n s v vb ve l x y B C M fs w0 w nm t hx hy hv hvb hve hth hthin hxt hyt hs hn hck
  by_cases h1 : op = 1
  · exact st_assign K hst op n s v vb ve l x y B C M fs w0 w nm t hx hy hv hvb hve hth hthin hxt hyt hs hn hck h1
  by_cases h2 : op = 2
  · exact st_put K hst op n s v vb ve l x y B C M fs w0 w nm t hx hy hv hvb hve hth hthin hxt hyt hs hn hck h2
  by_cases h5 : op = 5 ∨ op = 7 ∨ op = 8
  · exact st_ask K hst op n s v vb ve l x y B C M fs w0 w nm t hx hy hv hvb hve hth hthin hxt hyt hs hn hck h5
  by_cases h9 : op = 9
  · exact st_return K hst op n s v vb ve l x y B C M fs w0 w nm t hx hy hv hvb hve hth hthin hxt hyt hs hn hck h9
  · exact st_none K hst op n s v vb ve l x y B C M fs w0 w nm t hx hy hv hvb hve hth hthin hxt hyt hs hn hck h1 h2 (fun e => h5 (.inl e)) (fun e => h5 (.inr (.inl e))) (fun e => h5 (.inr (.inr e))) h9
theorem st_all : ∀ K, StHas K
  | 0 => fun _ _ _ _ _ _ _ _ _ _ _ _ _ _ _ _ _ h => absurd h (Nat.not_lt_zero _)
  | K + 1 => st_step K (st_all K)
/-- Statements, one behind the other. -/
theorem stmts_any (A : Option Addr) (cap : Nat) (l : SS) (B C M : Nat) (fs : List Fn) (w0 W : World) (nm : ByteArray) (t : Bool) (hv : SV B w0 (.slice A l.len cap) l) (ht : l.thin) (hn : nm.size ≤ 9223372036854775807) (hck : Ck B C M fs w0 W nm t) :
    Calls Try.prog 18 #[.slice A l.len cap, .func (.func 19) #[.pointer (some ⟨C, 0, none⟩)] #[]] W fun e W' => e = .returned (.tuple #[]) ∧ Ck B C M fs w0 W' nm (t || l.tells fs (!greatB nm)) ∧ Gr C W W' :=
  each_st l.cnt (st_all _) A cap l B C M fs w0 W nm t (Nat.le_refl _) hv ht hn hck
end Go.Proofs.Ytacleafbjbhcgaa
