/-
  (*checker).expression: what an expression tells, and whether it is secret.
-/
import Derived.Test.YtacleafbjbhcgaaLbD
import Derived.BigQuiet
namespace Go.Proofs.Ytacleafbjbhcgaa
open Go Go.RowKit Go.Lib

set_option maxHeartbeats 1000000 in
theorem bidx_any {C : Nat} {w : World} {v : Value} {ps : List Bool} (hp : BRow C w v ps) :
    Calls Try.prog 28 #[v, .bool true] w fun e w' => (∃ r : Int, e = .returned (.int .i64 r) ∧ decide (0 ≤ r) = ps.any id) ∧ w = w' := by
  obtain ⟨A, cap, rfl, h1, h2, h0⟩ := hp
  obtain ⟨len, hlen⟩ : ∃ len, ps.length = len := ⟨_, rfl⟩
  rw [hlen] at h1 h0 ⊢
  have HL := Lib.hid hlen; clear hlen
  go_enter Try.func28, Try.ntmps28
  go_wp2
  go_loop [8] (fun i => ∃ (k : Nat) (r : List Bool), i = .int .i64 k ∧ k + r.length = len ∧ ps.any id = r.any id ∧ ps.drop k = r) (fun i => len - (intOf i).toNat)
  case atStart => exact ⟨0, ps, rfl, by have := HL.out; omega, rfl, rfl⟩
  case round =>
    obtain ⟨k, r, rfl, hk, ho, hd⟩ := hrel
    have HO := Lib.hid ho; clear ho
    have HD := Lib.hid hd; clear hd
    cases r with
    | nil =>
      have hk0 : k = len := by simpa using hk
      subst hk0
      clear hk h0
      go_wp2
      go_ret
      exact ⟨⟨_, rfl, by rw [HO.out]; rfl⟩, rfl⟩
    | cons x r =>
      have hlt : k < len := by simp at hk; omega
      obtain ⟨b, rfl, hne, hb, hc⟩ := h0 (by omega)
      clear h0
      have hx : ps[k]? = some x := by
        have h := HD.out
        have e := congrArg (fun l => l[0]?) h
        simpa [List.getElem?_drop] using e
      have d0 := hc k x hx
      have HK := Lib.hid hk
      clear hk hc hx
      cases x with
      | true =>
        go_wp2
        go_ret
        exact ⟨⟨_, rfl, by rw [HO.out]; simp⟩, rfl⟩
      | false =>
        go_wp2
        go_round
        case rel => exact ⟨k + 1, r, by go_num, by have := HK.out; simp at this; omega, by rw [HO.out]; simp, by rw [← List.drop_drop, HD.out]; rfl⟩
        case measure => simp [intOf]; omega

set_option maxHeartbeats 1000000 in
theorem bhas_any {C : Nat} {w : World} {v : Value} {ps : List Bool} (hp : BRow C w v ps) :
    Calls Try.prog 27 #[v, .bool true] w fun e w' => e = .returned (.bool (ps.any id)) ∧ w = w' := by
  have HI := Lib.hid (bidx_any hp)
  obtain ⟨A, cap, rfl, _⟩ := id hp
  obtain ⟨len, hlen⟩ : ∃ len, ps.length = len := ⟨_, rfl⟩
  rw [hlen] at HI ⊢
  clear hp hlen
  go_enter Try.func27, Try.ntmps27
  go_wp2_with (go_at_call 28; ((with_reducible refine HI.out.mono ?_); rintro e w1 ⟨⟨r, rfl, hr⟩, rfl⟩))
  go_ret
  exact ⟨rfl, rfl⟩

theorem run_fn1 (w : World) (s : ByteArray) (A A' : Option Addr) (n cap n' cap' : Nat) : (Instr.field 31 (.agg #[.string s, .slice A n cap, .slice A' n' cap']) 1).run Try.prog w = .ok (.slice A n cap) w := by kernel_rfl
attribute [local go_sem high] run_fn1

/-- The box of an expression stays, whatever else is told. -/
theorem box_gr {C k : Nat} {W W' : World} {cs : Array Value} {t : TypeId} (h : W.heap[k]? = some (.cells cs t)) (hg : Gr C W W') (hne : k ≠ C) : W'.heap[k]? = some (.cells cs t) := (hg.block (lt_heap h) hne).trans h
theorem BRow.drewN {C : Nat} {W : World} {v : Value} {ps : List Bool} (h : BRow C W v ps) (q : Nat) : BRow C (W.drewN q) v ps := h

theorem box4 {W : World} {k : Nat} {a b c d : Value} {t : TypeId} (h : W.heap[k]? = some (.cells #[a, b, c, d] t)) : W.cell? ⟨k, 0, none⟩ = some a ∧ W.cell? ⟨k, 1, none⟩ = some b ∧ W.cell? ⟨k, 2, none⟩ = some c ∧ W.cell? ⟨k, 3, none⟩ = some d :=
  ⟨(box_cell h 0).trans rfl, (box_cell h 1).trans rfl, (box_cell h 2).trans rfl, (box_cell h 3).trans rfl⟩
theorem box4d {W : World} {k : Nat} {a b c d : Value} {t : TypeId} (h : W.heap[k]? = some (.cells #[a, b, c, d] t)) : W.drew.cell? ⟨k, 0, none⟩ = some a ∧ W.drew.cell? ⟨k, 1, none⟩ = some b ∧ W.drew.cell? ⟨k, 2, none⟩ = some c ∧ W.drew.cell? ⟨k, 3, none⟩ = some d := box4 h

set_option maxRecDepth 100000 in
set_option maxHeartbeats 4000000 in
theorem ex_pub0 (K : Nat) (hex : ExHas K) (op n : Int) (s : ByteArray) (v : Value) (l : ES) (B C M : Nat) (fs : List Fn) (w0 w : World) (nm : ByteArray) (t : Bool) (hK : l.cnt < K + 1) (hv : EV B w0 v l) (hth : l.len * 56 ≤ 140737488351232) (hthin : l.thin) (hs : s.size ≤ 9223372036854775807) (hck : Ck B C M fs w0 w nm t) (h4 : op = 4) :
    Calls Try.prog 24 #[.pointer (some ⟨C, 0, none⟩), .agg #[.int .i64 op, .int .i64 n, .string s, v]] w fun e w' => e = .returned (.bool (secB op s l.sec)) ∧ Ck B C M fs w0 w' nm (t || (l.tells fs || ownE fs op s l.secs)) ∧ Gr C w w' := by
  have hmx : Try.prog.follows .mixedOrders = true := by kernel_rfl
  obtain ⟨A, cap, rfl, _⟩ := id hv
  have hCl := hck.lt
  have HS := Lib.hid (fun bx => secrets_any K hex A cap l B C M fs w0 (w.alloc bx) nm t (by omega) hv hth hthin (hck.alloc bx))
  have HLS := Lib.hid (fun p w1 => lsecret_any op n s (.slice A l.len cap) p w1 hs)
  have HGA := Lib.hid (fun bx => (Gr.refl C w).alloc bx)
  clear hex hv hck
  subst h4
  go_enter Try.func24, Try.ntmps24
  go_wp2_with (first
    | (go_at_call 23; ((with_reducible refine (HS.out _).mono ?_); rintro e w1 ⟨⟨v1, rfl, hb1⟩, hck1, hg1⟩; have HB1 := Lib.hid hb1; have HP := Lib.hid (public_any hck1 hb1 0 0 rfl (by decide)); clear hck1; have hbx := box_gr (heap_alloc_new w _) hg1 (by omega); obtain ⟨x0, x1, x2, x3⟩ := box4 hbx; have HX := Lib.hid hbx; clear hbx hb1))
    | (go_at_call 26; ((with_reducible refine HP.out.mono ?_); rintro e w2 ⟨rfl, hck2, hg2⟩; have hbx2 := box_gr HX.out hg2 (by omega); obtain ⟨y0, y1, y2, y3⟩ := box4d hbx2; have HBH := Lib.hid (bhas_any (show BRow C w2.drew v1 l.secs from HB1.out.gr hg2.drew)); clear hbx2)))
  go_region_with (first
    | (go_at_call 27; ((with_reducible refine HBH.out.mono ?_); rintro e w4 ⟨rfl, rfl⟩))
    | (go_at_call 15; ((with_reducible refine (HLS.out _ _).mono ?_); rintro e w5 ⟨rfl, hb5⟩)))
  all_goals
    go_wp2
    go_ret
    exact ⟨rfl, (hck2.drew.below hb5).said (by simp [ownE, Bool.or_assoc]), ((((HGA.out _).trans hg1).trans hg2).drew).trans (Gr.of hb5)⟩

set_option maxRecDepth 100000 in
set_option maxHeartbeats 4000000 in
theorem ex_pub1 (K : Nat) (hex : ExHas K) (op n : Int) (s : ByteArray) (v : Value) (l : ES) (B C M : Nat) (fs : List Fn) (w0 w : World) (nm : ByteArray) (t : Bool) (hK : l.cnt < K + 1) (hv : EV B w0 v l) (hth : l.len * 56 ≤ 140737488351232) (hthin : l.thin) (hs : s.size ≤ 9223372036854775807) (hck : Ck B C M fs w0 w nm t) (h : op = 11 ∨ op = 12) :
    Calls Try.prog 24 #[.pointer (some ⟨C, 0, none⟩), .agg #[.int .i64 op, .int .i64 n, .string s, v]] w fun e w' => e = .returned (.bool (secB op s l.sec)) ∧ Ck B C M fs w0 w' nm (t || (l.tells fs || ownE fs op s l.secs)) ∧ Gr C w w' := by
  have hmx : Try.prog.follows .mixedOrders = true := by kernel_rfl
  obtain ⟨A, cap, rfl, _⟩ := id hv
  have hCl := hck.lt
  have HS := Lib.hid (fun bx => secrets_any K hex A cap l B C M fs w0 (w.alloc bx) nm t (by omega) hv hth hthin (hck.alloc bx))
  have HLS := Lib.hid (fun p w1 => lsecret_any op n s (.slice A l.len cap) p w1 hs)
  have HGA := Lib.hid (fun bx => (Gr.refl C w).alloc bx)
  clear hex hv hck
  rcases h with rfl | rfl
  all_goals
    go_enter Try.func24, Try.ntmps24
    go_wp2_with (first
      | (go_at_call 23; ((with_reducible refine (HS.out _).mono ?_); rintro e w1 ⟨⟨v1, rfl, hb1⟩, hck1, hg1⟩; have HB1 := Lib.hid hb1; have HP := Lib.hid (public_any hck1 hb1 1 1 rfl (by decide)); clear hck1; have hbx := box_gr (heap_alloc_new w _) hg1 (by omega); obtain ⟨x0, x1, x2, x3⟩ := box4 hbx; have HX := Lib.hid hbx; clear hbx hb1))
      | (go_at_call 26; ((with_reducible refine HP.out.mono ?_); rintro e w2 ⟨rfl, hck2, hg2⟩; have hbx2 := box_gr HX.out hg2 (by omega); obtain ⟨y0, y1, y2, y3⟩ := box4d hbx2; have HBH := Lib.hid (bhas_any (show BRow C w2.drew v1 l.secs from HB1.out.gr hg2.drew)); clear hbx2)))
    go_region_with (first
      | (go_at_call 27; ((with_reducible refine HBH.out.mono ?_); rintro e w4 ⟨rfl, rfl⟩))
      | (go_at_call 15; ((with_reducible refine (HLS.out _ _).mono ?_); rintro e w5 ⟨rfl, hb5⟩)))
    all_goals
      go_wp2
      go_ret
      exact ⟨rfl, (hck2.drew.below hb5).said (by simp [ownE, Bool.or_assoc]), ((((HGA.out _).trans hg1).trans hg2).drew).trans (Gr.of hb5)⟩

set_option maxRecDepth 100000 in
set_option maxHeartbeats 4000000 in
theorem ex_none (K : Nat) (hex : ExHas K) (op n : Int) (s : ByteArray) (v : Value) (l : ES) (B C M : Nat) (fs : List Fn) (w0 w : World) (nm : ByteArray) (t : Bool) (hK : l.cnt < K + 1) (hv : EV B w0 v l) (hth : l.len * 56 ≤ 140737488351232) (hthin : l.thin) (hs : s.size ≤ 9223372036854775807) (hck : Ck B C M fs w0 w nm t) (h4 : op ≠ 4) (h11 : op ≠ 11) (h12 : op ≠ 12) (h5 : op ≠ 5) :
    Calls Try.prog 24 #[.pointer (some ⟨C, 0, none⟩), .agg #[.int .i64 op, .int .i64 n, .string s, v]] w fun e w' => e = .returned (.bool (secB op s l.sec)) ∧ Ck B C M fs w0 w' nm (t || (l.tells fs || ownE fs op s l.secs)) ∧ Gr C w w' := by
  have hmx : Try.prog.follows .mixedOrders = true := by kernel_rfl
  obtain ⟨A, cap, rfl, _⟩ := id hv
  have hCl := hck.lt
  have HS := Lib.hid (fun bx => secrets_any K hex A cap l B C M fs w0 (w.alloc bx) nm t (by omega) hv hth hthin (hck.alloc bx))
  have HLS := Lib.hid (fun p w1 => lsecret_any op n s (.slice A l.len cap) p w1 hs)
  have HGA := Lib.hid (fun bx => (Gr.refl C w).alloc bx)
  clear hex hv hck
  go_enter Try.func24, Try.ntmps24
  go_wp2_with (
    (go_at_call 23; ((with_reducible refine (HS.out _).mono ?_); rintro e w1 ⟨⟨v1, rfl, hb1⟩, hck1, hg1⟩; have HB1 := Lib.hid hb1; have hck2 := Lib.hid hck1; clear hck1; have hbx := box_gr (heap_alloc_new w _) hg1 (by omega); obtain ⟨x0, x1, x2, x3⟩ := box4 hbx; have HX := Lib.hid hbx; obtain ⟨y0, y1, y2, y3⟩ := box4d hbx; have HBH := Lib.hid (bhas_any (show BRow C w1.drew v1 l.secs from hb1)); clear hbx hb1)))
  go_region_with (first
    | (go_at_call 27; ((with_reducible refine HBH.out.mono ?_); rintro e w4 ⟨rfl, rfl⟩))
    | (go_at_call 15; ((with_reducible refine (HLS.out _ _).mono ?_); rintro e w5 ⟨rfl, hb5⟩)))
  all_goals
    go_wp2
    go_ret
    exact ⟨rfl, (hck2.out.drew.below hb5).said (by simp [ownE, h4, h11, h12, h5]), (((HGA.out _).trans hg1).drew).trans (Gr.of hb5)⟩
end Go.Proofs.Ytacleafbjbhcgaa
