/-
  (*checker).expression at a call; at every expression.
-/
import Derived.Test.YtacleafbjbhcgaaLbE
namespace Go.Proofs.Ytacleafbjbhcgaa
open Go Go.RowKit Go.Lib
attribute [local go_sem high] run_fn1

theorem into_step (a g p b : Bool) : (a || ((!g && p) || b)) = ((a || (!g && p)) || b) := by cases a <;> cases g <;> cases p <;> cases b <;> rfl
theorem drewN_b (W : World) (q : Nat) : Below W.heap.size W (W.drewN q) := ⟨rfl, rfl, rfl, Nat.le_refl _, fun _ _ => rfl⟩
def CallRel (B C M : Nat) (fs : List Fn) (w0 w1 : World) (nm : ByteArray) (t0 : Bool) (len k0 : Nat) (Af : Option Addr) (v1 : Value) (secs : List Bool) (ps : List ByteArray) (bx : Obj) (i : Value) (wr : World) : Prop :=
  ∃ (k : Nat) (r : List ByteArray) (t1 : Bool), i = .int .i64 k ∧ k + r.length = len ∧ (t0 || intoP secs ps 0) = (t1 || intoP secs r k) ∧ (0 < r.length → ∃ b o, Af = some ⟨b, o, none⟩ ∧ b < B ∧ PsIn w0 r b (o + k)) ∧
    Ck B C M fs w0 wr nm t1 ∧ BRow C wr v1 secs ∧ Gr C w1 wr ∧ wr.heap[k0]? = some bx

set_option maxRecDepth 100000 in
set_option maxHeartbeats 4000000 in
theorem ex_call (K : Nat) (hex : ExHas K) (op n : Int) (s : ByteArray) (v : Value) (l : ES) (B C M : Nat) (fs : List Fn) (w0 w : World) (nm : ByteArray) (t : Bool) (hK : l.cnt < K + 1) (hv : EV B w0 v l) (hth : l.len * 56 ≤ 140737488351232) (hthin : l.thin) (hs : s.size ≤ 9223372036854775807) (hck : Ck B C M fs w0 w nm t) (h5 : op = 5) :
    Calls Try.prog 24 #[.pointer (some ⟨C, 0, none⟩), .agg #[.int .i64 op, .int .i64 n, .string s, v]] w fun e w' => e = .returned (.bool (secB op s l.sec)) ∧ Ck B C M fs w0 w' nm (t || (l.tells fs || ownE fs op s l.secs)) ∧ Gr C w w' := by
  have hmx : Try.prog.follows .mixedOrders = true := by kernel_rfl
  obtain ⟨A, cap, rfl, _⟩ := id hv
  have hCl := hck.lt
  have HS := Lib.hid (fun bx => secrets_any K hex A cap l B C M fs w0 (w.alloc bx) nm t (by omega) hv hth hthin (hck.alloc bx))
  have HLS := Lib.hid (fun p w1 => lsecret_any op n s (.slice A l.len cap) p w1 hs)
  have HGA := Lib.hid (fun bx => (Gr.refl C w).alloc bx)
  clear hex hv hck
  subst h5
  go_enter Try.func24, Try.ntmps24
  go_wp2_with (
      (go_at_call 23; ((with_reducible refine (HS.out _).mono ?_); rintro e w1 ⟨⟨v1, rfl, hb1⟩, hck1, hg1⟩; have HB1 := Lib.hid hb1; have HCK := Lib.hid hck1; obtain ⟨nm1, Af, capf, A2, n2, cap2, hlook, hps⟩ := hck1.map.look s hs; have d0 := hck1.c0; have hbx := box_gr (heap_alloc_new w _) hg1 (by omega); obtain ⟨x0, x1, x2, x3⟩ := box4 hbx; have HX := Lib.hid hbx; clear hbx hb1 hck1)))
  obtain ⟨Af', capf', e1, hf1, hf2, hf3⟩ := hps
  injection e1 with e2 e3 e4
  subst e2 e4
  clear e3
  obtain ⟨ps, hpsn⟩ : ∃ ps, findP fs s = ps := ⟨_, rfl⟩
  have HF := Lib.hid hpsn
  rw [hpsn] at hlook hf1 hf3
  clear hpsn
  obtain ⟨len, hlen⟩ : ∃ len, ps.length = len := ⟨_, rfl⟩
  rw [hlen] at hlook hf1 hf3
  have HL := Lib.hid hlen
  clear hlen
  have HF3 := Lib.hid hf3; clear hf3
  go_quiet (fail)
  go_wp2
  go_loopw [37] (fun i wr => CallRel B C M fs w0 w1 nm (t || l.tells fs) len w.heap.size Af v1 l.secs ps (.cells #[.int .i64 5, .int .i64 n, .string s, .slice A l.len cap] 37) i wr) (fun i _ => len - (intOf i).toNat)
  case atStart => exact ⟨0, ps, (t || l.tells fs), rfl, by have := HL.out; omega, rfl, by simpa [HL.out] using HF3.out, HCK.out.below (drewN_b _ _), HB1.out, Gr.of (drewN_b _ _), HX.out⟩
  case round =>
    obtain ⟨k, r, t1, rfl, hk, htold, hr1, hck1, hb1, hg2, hbx⟩ := hrel
    have HT := Lib.hid htold; clear htold
    cases r with
    | nil =>
      have hk0 : k = len := by simpa using hk
      subst hk0
      clear hk hr1
      obtain ⟨y0, y1, y2, y3⟩ := box4d hbx
      have HBH := Lib.hid (bhas_any (show BRow C wr.drew v1 l.secs from hb1))
      have HCK1 := Lib.hid hck1
      clear hbx hb1 hck1 HX x0 x1 x2 x3 d0 hlook
      go_wp2
      go_region_with (first
        | (go_at_call 27; ((with_reducible refine HBH.out.mono ?_); rintro e w4 ⟨rfl, rfl⟩))
        | (go_at_call 15; ((with_reducible refine (HLS.out _ _).mono ?_); rintro e w5 ⟨rfl, hb5⟩)))
      all_goals
        go_wp2
        go_ret
        refine ⟨rfl, (HCK1.out.drew.below hb5).said ?_, ((((HGA.out _).trans hg1).trans hg2).drew).trans (Gr.of hb5)⟩
        have h := HT.out
        rw [show intoP l.secs [] k = false from rfl, Bool.or_false] at h
        rw [← h, ownE, if_neg (by decide), if_neg (by decide), if_pos rfl, HF.out, Bool.or_assoc]
    | cons p r =>
      obtain ⟨b, o, rfl, hb, c0, hp, hr⟩ := hr1 (by simp)
      clear hr1
      have hlt : k < len := by simp at hk; omega
      have HK := Lib.hid hk; clear hk
      have e0 := (hck1.base.cell (p := ⟨b, o + k, none⟩) hb).trans c0
      have HI := Lib.hid (into_any hck1 hb1 k k rfl (by omega) p hp)
      have HB := Lib.hid hb1
      have HX2 := Lib.hid hbx
      clear c0 hck1 hb1 hbx HX x0 x1 x2 x3 d0 hlook
      go_wp2_with (go_at_call 25; ((with_reducible refine HI.out.mono ?_); rintro e w2 ⟨rfl, hck2, hg3⟩))
      go_roundw
      case rel =>
        refine ⟨k + 1, r, _, by go_num, by have := HK.out; simp at this; omega, ?_, fun _ => ⟨b, o, rfl, hb, by rw [show o + (k + 1) = o + k + 1 by omega]; exact hr⟩, hck2, HB.out.gr hg3, hg2.trans hg3, box_gr HX2.out hg3 (by omega)⟩
        rw [HT.out]
        exact into_step _ _ _ _
      case measure => simp [intOf]; omega

theorem ex_step (K : Nat) (hex : ExHas K) : ExHas (K + 1) := by
  intro op n s v l B C M fs w0 w nm t hK hv hth hthin hs hck
  by_cases h4 : op = 4
  · exact ex_pub0 K hex op n s v l B C M fs w0 w nm t hK hv hth hthin hs hck h4
  by_cases h11 : op = 11 ∨ op = 12
  · exact ex_pub1 K hex op n s v l B C M fs w0 w nm t hK hv hth hthin hs hck h11
  by_cases h5 : op = 5
  · exact ex_call K hex op n s v l B C M fs w0 w nm t hK hv hth hthin hs hck h5
  · exact ex_none K hex op n s v l B C M fs w0 w nm t hK hv hth hthin hs hck h4 (fun e => h11 (.inl e)) (fun e => h11 (.inr e)) h5
theorem ex_all : ∀ K, ExHas K
  | 0 => fun _ _ _ _ _ _ _ _ _ _ _ _ _ h => absurd h (Nat.not_lt_zero _)
  | K + 1 => ex_step K (ex_all K)
/-- Which expressions of a list are secret, and what they tell. -/
theorem secs_any (A : Option Addr) (cap : Nat) (l : ES) (B C M : Nat) (fs : List Fn) (w0 W : World) (nm : ByteArray) (t : Bool) (hv : EV B w0 (.slice A l.len cap) l) (hth : l.len * 56 ≤ 140737488351232) (ht : l.thin) (hck : Ck B C M fs w0 W nm t) :
    Calls Try.prog 23 #[.slice A l.len cap, .func (.func 24) #[.pointer (some ⟨C, 0, none⟩)] #[]] W fun e W' => (∃ v, e = .returned v ∧ BRow C W' v l.secs) ∧ Ck B C M fs w0 W' nm (t || l.tells fs) ∧ Gr C W W' :=
  secrets_any l.cnt (ex_all _) A cap l B C M fs w0 W nm t (Nat.le_refl _) hv hth ht hck
end Go.Proofs.Ytacleafbjbhcgaa
