/-
  label.Of: is an expression secret?
-/
import Derived.Test.YtacleafbjbhcgaaLbA
import Derived.Deep.RegionWith
namespace Go.Proofs.Ytacleafbjbhcgaa
open Go Go.RowKit Go.Lib

theorem ES.sec_cons (op n : Int) (s : ByteArray) (l r : ES) : (ES.cons op n s l r).sec = (secB op s l.sec || r.sec) := by
  unfold ES.sec
  rw [ES.secs, List.any_cons]
  rfl

theorem bcell {B : Nat} {W w1 : World} (hb : Below B W w1) : (∀ b o, b < B → w1.cell? ⟨b, o, none⟩ = W.cell? ⟨b, o, none⟩) ∧ (∀ b o, b < B → w1.frozen? ⟨b, o, none⟩ = W.frozen? ⟨b, o, none⟩) :=
  ⟨fun b o h => hb.cell (p := ⟨b, o, none⟩) h, fun b o h => hb.frozen (p := ⟨b, o, none⟩) h⟩
/-- What Of does, at expressions whose parts hold fewer than K. -/
def OfHas (K : Nat) : Prop := ∀ (op n : Int) (s : ByteArray) (v : Value) (l : ES) (B : Nat) (w : World), l.cnt < K → EV B w v l → B ≤ w.heap.size → s.size ≤ 9223372036854775807 →
  Calls Try.prog 10 #[.agg #[.int .i64 op, .int .i64 n, .string s, v]] w fun e w' => e = .returned (.bool (secB op s l.sec)) ∧ Below w.heap.size w w'

set_option maxRecDepth 100000 in
set_option maxHeartbeats 2000000 in
theorem idx_any (K : Nat) (hof : OfHas K) (A : Option Addr) (cap : Nat) (l : ES) (B : Nat) (w : World) (hK : l.cnt ≤ K) (hv : EV B w (.slice A l.len cap) l) (hB : B ≤ w.heap.size) :
    Calls Try.prog 21 #[.slice A l.len cap, .func (.func 10) #[] #[]] w fun e w' => (∃ r : Int, e = .returned (.int .i64 r) ∧ decide (0 ≤ r) = l.sec) ∧ Below w.heap.size w w' := by
  obtain ⟨A1, cap1, e1, hc1, hc2, hrow⟩ := hv
  injection e1 with e2 e3 e4
  subst e2 e4
  clear e3
  obtain ⟨len, hlen⟩ : ∃ len, l.len = len := ⟨_, rfl⟩
  rw [hlen] at hc1 hrow ⊢
  have HL := Lib.hid hlen; clear hlen
  go_enter Try.func21, Try.ntmps21
  go_wp2
  go_loopw [8] (fun i wr => ∃ (k : Nat) (r : ES), i = .int .i64 k ∧ k + r.len = len ∧ r.cnt ≤ K ∧ l.sec = r.sec ∧ (0 < r.len → ∃ b o, A = some ⟨b, o, none⟩ ∧ b < B ∧ r.In B w b (o + k * 4)) ∧ Below w.heap.size w wr) (fun i _ => len - (intOf i).toNat)
  case atStart => exact ⟨0, l, rfl, by have := HL.out; omega, hK, rfl, by simpa [HL.out] using hrow, Below.refl _ _⟩
  case round =>
    obtain ⟨k, r, rfl, hk, hrK, ho, hr1, hW⟩ := hrel
    have HO := Lib.hid ho; clear ho
    cases r with
    | nil =>
      have hk0 : k = len := by simpa [ES.len] using hk
      subst hk0
      clear hk hrow hr1
      go_wp2
      go_ret
      exact ⟨⟨_, rfl, by rw [HO.out]; rfl⟩, hW⟩
    | cons op n s l1 r =>
      obtain ⟨b, o, rfl, hb, c0, c1, c2, ⟨v3, c3, h3⟩, h4, hr⟩ := hr1 (by simp [ES.len])
      clear hrow hr1
      have hlt : k < len := by simp [ES.len] at hk; omega
      have HK := Lib.hid hk; clear hk
      have hbw : b < w.heap.size := by omega
      have d0 := (hW.cell (p := ⟨b, o + k * 4, none⟩) hbw).trans c0
      have d1 := (hW.cell (p := ⟨b, o + k * 4 + 1, none⟩) hbw).trans c1
      have d2 := (hW.cell (p := ⟨b, o + k * 4 + 2, none⟩) hbw).trans c2
      have d3 := (hW.cell (p := ⟨b, o + k * 4 + 3, none⟩) hbw).trans c3
      clear c0 c1 c2 c3
      have hcnt : l1.cnt < K ∧ r.cnt ≤ K := by simp only [ES.cnt] at hrK; omega
      have HF := Lib.hid (hof op n s v3 l1 B wr hcnt.1 (EV.below h3 (hW.mono hB) (Nat.le_refl _)) (Nat.le_trans hB hW.size) h4.2.2)
      obtain ⟨A3, cap3, rfl, _⟩ := id h3
      clear h3
      obtain ⟨q, hq⟩ : ∃ q, secB op s l1.sec = q := ⟨_, rfl⟩
      have HQ := Lib.hid hq
      rw [hq] at HF
      clear hq
      cases q with
      | true =>
        go_wp2_with (go_at_call 10; ((with_reducible refine HF.out.mono ?_); rintro e w1 ⟨rfl, hb1⟩))
        go_ret
        exact ⟨⟨_, rfl, by rw [HO.out, ES.sec_cons, HQ.out]; simp⟩, hW.trans (hb1.mono hW.size)⟩
      | false =>
        go_wp2_with (go_at_call 10; ((with_reducible refine HF.out.mono ?_); rintro e w1 ⟨rfl, hb1⟩))
        go_roundw
        case rel => exact ⟨k + 1, r, by go_num, by have := HK.out; simp [ES.len] at this; omega, hcnt.2, by rw [HO.out, ES.sec_cons, HQ.out]; rfl, fun _ => ⟨b, o, rfl, hb, by rw [show o + (k + 1) * 4 = o + k * 4 + 4 by omega]; exact hr⟩, hW.trans (hb1.mono hW.size)⟩
        case measure => simp [intOf]; omega

set_option maxHeartbeats 1000000 in
theorem has_any (K : Nat) (hof : OfHas K) (A : Option Addr) (cap : Nat) (l : ES) (B : Nat) (w : World) (hK : l.cnt ≤ K) (hv : EV B w (.slice A l.len cap) l) (hB : B ≤ w.heap.size) :
    Calls Try.prog 16 #[.slice A l.len cap, .func (.func 10) #[] #[]] w fun e w' => e = .returned (.bool l.sec) ∧ Below w.heap.size w w' := by
  have HI := Lib.hid (idx_any K hof A cap l B w hK hv hB)
  obtain ⟨len, hlen⟩ : ∃ len, l.len = len := ⟨_, rfl⟩
  rw [hlen] at HI ⊢
  clear hv hlen
  go_enter Try.func16, Try.ntmps16
  go_wp2_with (go_at_call 21; ((with_reducible refine HI.out.mono ?_); rintro e w1 ⟨⟨r, rfl, hr⟩, hb1⟩))
  go_ret
  exact ⟨rfl, hb1⟩

set_option maxRecDepth 100000 in
set_option maxHeartbeats 2000000 in
theorem of_step (K : Nat) (hof : OfHas K) : OfHas (K + 1) := by
  intro op n s v l B w hK hv hB hs
  have hmx : Try.prog.follows .mixedOrders = true := by kernel_rfl
  obtain ⟨A, cap, rfl, _⟩ := id hv
  have HH := Lib.hid (fun (w1 : World) (h1 : Below w.heap.size w w1) => has_any K hof A cap l B w1 (by omega) (hv.below (h1.mono hB) (Nat.le_refl _)) (Nat.le_trans hB h1.size))
  have HB := Lib.hid (fun o => (Below.refl w.heap.size w).alloc (Nat.le_refl _) o)
  have HS := Lib.hid (fun p w1 => lsecret_any op n s (.slice A l.len cap) p w1 hs)
  clear hof hv
  go_enter Try.func10, Try.ntmps10
  go_wp2
  go_region_with (first
    | (go_at_call 16; ((with_reducible refine (HH.out _ (by first | exact HB.out _ | exact (HB.out _).drew)).mono ?_); rintro e w1 ⟨rfl, hb1⟩; obtain ⟨hc1, hf1⟩ := bcell hb1; simp only [World.size_drew, World.size_alloc] at hc1 hf1))
    | (go_at_call 15; ((with_reducible refine (HS.out _ _).mono ?_); rintro e w2 ⟨rfl, hb2⟩)))
  all_goals
    go_wp2
    go_ret
    exact ⟨rfl, by first | exact (HB.out _).trans ((hb1.mono (by simp)).trans (hb2.mono (by have := hb1.size; simp at this; omega))) | exact ((HB.out _).drew).trans ((hb1.mono (by simp)).trans (hb2.mono (by have := hb1.size; simp at this; omega)))⟩

theorem of_all : ∀ K, OfHas K
  | 0 => fun _ _ _ _ _ _ _ h => absurd h (Nat.not_lt_zero _)
  | K + 1 => of_step K (of_all K)
/-- Of tells whether an expression is secret. -/
theorem of_any (op n : Int) (s : ByteArray) (v : Value) (l : ES) (B : Nat) (w : World) (hv : EV B w v l) (hB : B ≤ w.heap.size) (hs : s.size ≤ 9223372036854775807) :
    Calls Try.prog 10 #[.agg #[.int .i64 op, .int .i64 n, .string s, v]] w fun e w' => e = .returned (.bool (secB op s l.sec)) ∧ Below w.heap.size w w' :=
  of_all (l.cnt + 1) op n s v l B w (Nat.lt_succ_self _) hv hB hs
end Go.Proofs.Ytacleafbjbhcgaa
