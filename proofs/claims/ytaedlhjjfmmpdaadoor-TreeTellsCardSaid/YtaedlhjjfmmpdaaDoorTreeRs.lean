/-
  The document's own Deeper, more: of statements.
-/
import Derived.Test.YtaedlhjjfmmpdaaDoorTreeRq
import Derived.Lib.MinMax
namespace Go.Proofs.YtaedlhjjfmmpdaaDoor
open Go Go.RowKit Go.Shelf

theorem run_max3 {P : Program} (w : World) (ts : Array TypeId) (t : TypeId) (k k' k'' : IntKind) (x y z : Int) : (Builtin.max_ ts t #[.int k x, .int k' y, .int k'' z]).run P w = .ok (.int k (max x (max y z))) w := by
  have e : ∀ a b : Int, (if b > a then b else a) = max a b := fun a b => by rw [Int.max_def]; split <;> split <;> omega
  simp [Builtin.max_, Builtin.max2]
  rw [e, e, Int.max_assoc]
attribute [local go_sem high] run_max3

theorem EV.drew {B : Nat} {w : World} {v : Value} {l : ES} (h : EV B w v l) (hB : B ≤ w.heap.size) (n : Nat) : EV B (w.drewN n) v l := EV.below h ((drewN_below w n).mono hB) (Nat.le_refl _)
theorem SV.drew {B : Nat} {w : World} {v : Value} {l : SS} (h : SV B w v l) (hB : B ≤ w.heap.size) (n : Nat) : SV B (w.drewN n) v l := SV.below h ((drewN_below w n).mono hB) (Nat.le_refl _)

theorem wrap_add3 (a b c d : Nat) : wrap64 (wrap64 (wrap64 (wrap64 a + wrap64 b) + wrap64 c) + wrap64 d) = wrap64 ((a + (b + (c + d)) : Nat) : Int) := by
  rw [wrap_add a b, wrap_add _ c, wrap_add _ d]
  congr 1
  omega
theorem deep_step (m a b c d r : Int) (h : max m (max (wrap64 (1 + max a (max b c))) r) = d) : max (max m (wrap64 (1 + max a (max b c)))) r = d := by
  rw [← h, Int.max_assoc]

/-- A statement's lists, handed on to a world that has but drawn. -/
theorem drew_row {B : Nat} {w : World} {r : SS} {A : Option Addr} {k : Nat} {q : Nat} (hB : B ≤ w.heap.size) (h : 0 < r.len → ∃ b o, A = some ⟨b, o, none⟩ ∧ b < B ∧ r.In B w b (o + k * 6)) : 0 < r.len → ∃ b o, A = some ⟨b, o, none⟩ ∧ b < B ∧ r.In B (w.drewN q) b (o + k * 6) :=
  fun h0 => by
    obtain ⟨b, o, e, hb, hi⟩ := h h0
    exact ⟨b, o, e, hb, hi.below ((drewN_below w q).mono hB) (Nat.le_refl _) hb⟩

set_option maxRecDepth 100000 in
set_option maxHeartbeats 1000000 in
theorem rmore_any (K : Nat) : ∀ (l : SS) (A : Option Addr) (cap B : Nat) (w : World), l.cnt ≤ K → B ≤ w.heap.size → SV B w (.slice A l.len cap) l →
    Calls Tryd.prog 30 #[.slice A l.len cap] w fun e w' => e = .returned (.int .i64 (wrap64 l.cnt)) ∧ ∃ m, w' = w.drewN m := by
  induction K using Nat.strongRecOn with
  | ind K ih =>
    intro l A cap B w hK hB hv
    obtain ⟨A1, cap1, e1, hc1, hc2, hrow⟩ := hv
    injection e1 with e2 e3 e4
    subst e2 e4
    clear e3
    obtain ⟨len, hlen⟩ : ∃ len, l.len = len := ⟨_, rfl⟩
    rw [hlen] at hc1 hrow ⊢
    have HL := Lib.hid hlen; clear hlen
    go_enter Tryd.func30, Tryd.ntmps30
    go_wp2
    go_loopw [3, 4] (fun n i wr => ∃ (k : Nat) (r : SS) (m : Nat) (q : Nat), i = .int .i64 k ∧ n = .int .i64 (wrap64 m) ∧ m + r.inner = l.cnt ∧ k + r.len = len ∧ r.cnt ≤ K ∧ (0 < r.len → ∃ b o, A = some ⟨b, o, none⟩ ∧ b < B ∧ r.In B wr b (o + k * 6)) ∧ B ≤ wr.heap.size ∧ wr = w.drewN q) (fun _ i _ => len - (intOf i).toNat)
    case atStart => exact ⟨0, l, len, 0, rfl, by rw [wrap_small _ (by omega)], by rw [SS.cnt_inner l, HL.out], by have := HL.out; omega, hK, by simpa [HL.out] using hrow, hB, rfl⟩
    case round =>
      obtain ⟨k, r, m, q, rfl, rfl, ho, hk, hrK, hr1, hBr, hwr⟩ := hrel
      have HO := Lib.hid ho; clear ho
      have HWR := Lib.hid hwr; clear hwr
      cases r with
      | nil =>
        have hk0 : k = len := by simpa [SS.len] using hk
        subst hk0
        clear hk hrow hr1
        go_wp2
        go_ret
        exact ⟨ret_int (by rw [← HO.out]; rfl), q, HWR.out⟩
      | cons op s n l1 x y r =>
        obtain ⟨b, o, rfl, hb, c0, c1, c2, ⟨v3, c3, h3⟩, ⟨v4, c4, h4⟩, ⟨v5, c5, h5⟩, h6, hr⟩ := hr1 (by simp [SS.len])
        clear hrow hr1
        obtain ⟨A6, cap6, rfl, _⟩ := id h3
        obtain ⟨A7, cap7, rfl, _⟩ := id h4
        obtain ⟨A8, cap8, rfl, _⟩ := id h5
        have hlt : k < len := by simp [SS.len] at hk; omega
        have hltc : k < cap := by omega
        have HK := Lib.hid hk; clear hk
        have hcnt : (x.cnt < K ∧ y.cnt < K) ∧ r.cnt ≤ K := by simp only [SS.cnt] at hrK; omega
        have HM := fun n => rmany_any _ l1 A6 cap6 B (wr.drewN n) (Nat.le_refl _) (EV.drew h3 hBr n)
        have HX := fun n => ih _ hcnt.1.1 x A7 cap7 B (wr.drewN n) (Nat.le_refl _) hBr (SV.drew h4 hBr n)
        have HY := fun n => ih _ hcnt.1.2 y A8 cap8 B (wr.drewN n) (Nat.le_refl _) hBr (SV.drew h5 hBr n)
        clear ih h3 h4 h5
        have i0 : (0 : Int) ≤ (k : Int) := by omega
        have i1 : (k : Int) < (len : Int) := by omega
        have HA1 := Lib.hid (wrap_add3 m l1.cnt x.cnt y.cnt)
        go_wp2
        go_quiet (first
          | (go_at_call 47; with_reducible exact Calls.quiet_of_same ((HM _).mono fun _ _ ⟨h1, h2⟩ => ⟨h1, h2.symm⟩))
          | (go_at_call 30; with_reducible exact Calls.quiet_of (HX _))
          | (go_at_call 30; with_reducible exact Calls.quiet_of (HY _)))
        go_wp2
        go_roundw
        case rel => exact ⟨k + 1, r, m + (l1.cnt + (x.cnt + y.cnt)), _, by go_num, by rw [← HA1.out], by rw [← HO.out]; simp only [SS.inner]; omega, by have := HK.out; simp [SS.len] at this; omega, hcnt.2, drew_row hBr fun _ => ⟨b, o, rfl, hb, by rw [show o + (k + 1) * 6 = o + k * 6 + 6 by omega]; exact hr⟩, hBr, by rw [HWR.out, World.drewN_drewN]⟩
        case measure => simp [intOf]; omega

set_option maxRecDepth 100000 in
set_option maxHeartbeats 1000000 in
theorem rdeeper_any (K : Nat) : ∀ (l : SS) (A : Option Addr) (cap B : Nat) (w : World), l.cnt ≤ K → B ≤ w.heap.size → SV B w (.slice A l.len cap) l →
    Calls Tryd.prog 28 #[.slice A l.len cap] w fun e w' => e = .returned (.int .i64 (l.deep)) ∧ ∃ m, w' = w.drewN m := by
  induction K using Nat.strongRecOn with
  | ind K ih =>
    intro l A cap B w hK hB hv
    obtain ⟨A1, cap1, e1, hc1, hc2, hrow⟩ := hv
    injection e1 with e2 e3 e4
    subst e2 e4
    clear e3
    obtain ⟨len, hlen⟩ : ∃ len, l.len = len := ⟨_, rfl⟩
    rw [hlen] at hc1 hrow ⊢
    have HL := Lib.hid hlen; clear hlen
    go_enter Tryd.func28, Tryd.ntmps28
    go_wp2
    go_loopw [3, 4] (fun n i wr => ∃ (k : Nat) (r : SS) (m : Int) (q : Nat), i = .int .i64 k ∧ n = .int .i64 m ∧ max m r.deep = l.deep ∧ 0 ≤ m ∧ k + r.len = len ∧ r.cnt ≤ K ∧ (0 < r.len → ∃ b o, A = some ⟨b, o, none⟩ ∧ b < B ∧ r.In B wr b (o + k * 6)) ∧ B ≤ wr.heap.size ∧ wr = w.drewN q) (fun _ i _ => len - (intOf i).toNat)
    case atStart => exact ⟨0, l, 0, 0, rfl, rfl, by have := SS.deep_nn l; omega, by omega, by have := HL.out; omega, hK, by simpa [HL.out] using hrow, hB, rfl⟩
    case round =>
      obtain ⟨k, r, m, q, rfl, rfl, ho, hm, hk, hrK, hr1, hBr, hwr⟩ := hrel
      have HO := Lib.hid ho; clear ho
      have HWR := Lib.hid hwr; clear hwr
      cases r with
      | nil =>
        have hk0 : k = len := by simpa [SS.len] using hk
        subst hk0
        clear hk hrow hr1
        go_wp2
        go_ret
        exact ⟨ret_int (by rw [← HO.out]; simp only [SS.deep]; omega), q, HWR.out⟩
      | cons op s n l1 x y r =>
        obtain ⟨b, o, rfl, hb, c0, c1, c2, ⟨v3, c3, h3⟩, ⟨v4, c4, h4⟩, ⟨v5, c5, h5⟩, h6, hr⟩ := hr1 (by simp [SS.len])
        clear hrow hr1
        obtain ⟨A6, cap6, rfl, _⟩ := id h3
        obtain ⟨A7, cap7, rfl, _⟩ := id h4
        obtain ⟨A8, cap8, rfl, _⟩ := id h5
        have hlt : k < len := by simp [SS.len] at hk; omega
        have hltc : k < cap := by omega
        have HK := Lib.hid hk; clear hk
        have hcnt : (x.cnt < K ∧ y.cnt < K) ∧ r.cnt ≤ K := by simp only [SS.cnt] at hrK; omega
        have HM := fun n => rdeep_any _ l1 A6 cap6 B (wr.drewN n) (Nat.le_refl _) (EV.drew h3 hBr n)
        have HX := fun n => ih _ hcnt.1.1 x A7 cap7 B (wr.drewN n) (Nat.le_refl _) hBr (SV.drew h4 hBr n)
        have HY := fun n => ih _ hcnt.1.2 y A8 cap8 B (wr.drewN n) (Nat.le_refl _) hBr (SV.drew h5 hBr n)
        clear ih h3 h4 h5
        have i0 : (0 : Int) ≤ (k : Int) := by omega
        have i1 : (k : Int) < (len : Int) := by omega
        go_wp2
        go_quiet (first
          | (go_at_call 46; with_reducible exact Calls.quiet_of_same ((HM _).mono fun _ _ ⟨h1, h2⟩ => ⟨h1, h2.symm⟩))
          | (go_at_call 28; with_reducible exact Calls.quiet_of (HX _))
          | (go_at_call 28; with_reducible exact Calls.quiet_of (HY _)))
        go_wp2
        go_roundw
        case rel => exact ⟨k + 1, r, max m (wrap64 (1 + max l1.deep (max x.deep y.deep))), _, by go_num, rfl, deep_step _ _ _ _ _ _ HO.out, Int.le_trans hm (Int.le_max_left _ _), by have := HK.out; simp [SS.len] at this; omega, hcnt.2, drew_row hBr fun _ => ⟨b, o, rfl, hb, by rw [show o + (k + 1) * 6 = o + k * 6 + 6 by omega]; exact hr⟩, hBr, by rw [HWR.out, World.drewN_drewN]⟩
        case measure => simp [intOf]; omega

end Go.Proofs.YtaedlhjjfmmpdaaDoor
