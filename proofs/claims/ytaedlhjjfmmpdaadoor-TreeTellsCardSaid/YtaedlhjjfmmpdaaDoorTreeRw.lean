/-
  The document's own Alike, Same: rows of expressions, of statements.
-/
import Derived.Test.YtaedlhjjfmmpdaaDoorTreeRs
namespace Go.Proofs.YtaedlhjjfmmpdaaDoor
open Go Go.RowKit Go.Shelf

/-- A callee that draws, met behind a first region that drew. -/
theorem quiet_two {P : Program} {f : FuncId} {args : Array Value} {w : World} {n m : Nat} {v : Value}
    (h : Calls P f args (w.drewN (n + m)) fun e w' => e = .returned v ∧ ∃ m', w' = (w.drewN (n + m)).drewN m') : Calls P f args (w.drewN (n + m)) fun e w'' => e = .returned v ∧ ∃ m', w'' = w.drewN (n + m') :=
  h.mono fun _ _ ⟨he, m', hm⟩ => ⟨he, m + m', by rw [hm, World.drewN_drewN, Nat.add_assoc]⟩
theorem drew_rowE {B : Nat} {w : World} {r : ES} {A : Option Addr} {k : Nat} {q : Nat} (hB : B ≤ w.heap.size) (h : 0 < r.len → ∃ b o, A = some ⟨b, o, none⟩ ∧ b < B ∧ r.In B w b (o + k * 4)) : 0 < r.len → ∃ b o, A = some ⟨b, o, none⟩ ∧ b < B ∧ r.In B (w.drewN q) b (o + k * 4) :=
  fun h0 => by
    obtain ⟨b, o, e, hb, hi⟩ := h h0
    exact ⟨b, o, e, hb, hi.below ((drewN_below w q).mono hB) (Nat.le_refl _) hb⟩

set_option maxRecDepth 100000 in
set_option maxHeartbeats 4000000 in
theorem ralike_any (K : Nat) : ∀ (a a' : ES) (A A' : Option Addr) (cap cap' B : Nat) (w : World), a.cnt ≤ K → B ≤ w.heap.size → EV B w (.slice A a.len cap) a → EV B w (.slice A' a'.len cap') a' →
    Calls Tryd.prog 51 #[.slice A a.len cap, .slice A' a'.len cap'] w fun e w' => e = .returned (.bool (eqE a a')) ∧ ∃ m, w' = w.drewN m := by
  induction K using Nat.strongRecOn with
  | ind K ih =>
    intro a a' A A' cap cap' B w hK hB hv hv'
    obtain ⟨A1, cap1, e1, hc1, hc2, hrow⟩ := hv
    injection e1 with e2 e3 e4
    subst e2 e4
    clear e3
    obtain ⟨A1, cap1, e1, hc1', hc2', hrow'⟩ := hv'
    injection e1 with e2 e3 e4
    subst e2 e4
    clear e3
    obtain ⟨len, hlen⟩ : ∃ len, a.len = len := ⟨_, rfl⟩
    obtain ⟨len', hlen'⟩ : ∃ len, a'.len = len := ⟨_, rfl⟩
    by_cases hne : len = len'
    · subst hne
      rw [hlen] at hc1 hrow ⊢
      rw [hlen'] at hc1' hrow' ⊢
      have HL := Lib.hid hlen; clear hlen
      have HL' := Lib.hid hlen'; clear hlen'
      go_enter Tryd.func51, Tryd.ntmps51
      go_wp2
      go_loopw [5] (fun i wr => ∃ (k : Nat) (r r' : ES) (q : Nat), i = .int .i64 k ∧ k + r.len = len ∧ k + r'.len = len ∧ eqE a a' = eqE r r' ∧ r.cnt ≤ K ∧ (0 < r.len → ∃ b o, A = some ⟨b, o, none⟩ ∧ b < B ∧ r.In B wr b (o + k * 4)) ∧ (0 < r'.len → ∃ b o, A' = some ⟨b, o, none⟩ ∧ b < B ∧ r'.In B wr b (o + k * 4)) ∧ B ≤ wr.heap.size ∧ wr = w.drewN q) (fun i _ => len - (intOf i).toNat)
      case atStart => exact ⟨0, a, a', 0, rfl, by have := HL.out; omega, by have := HL'.out; omega, rfl, hK, by simpa [HL.out] using hrow, by simpa [HL'.out] using hrow', hB, rfl⟩
      case round =>
        obtain ⟨k, r, r', q, rfl, hk, hk', ho, hrK, hr1, hr2, hBr, hwr⟩ := hrel
        have HO := Lib.hid ho; clear ho
        have HWR := Lib.hid hwr; clear hwr
        cases r with
        | nil =>
          have hk0 : k = len := by simpa [ES.len] using hk
          subst hk0
          cases r' with
          | cons => simp [ES.len] at hk'
          | nil =>
            clear hk hk' hrow hrow' hr1 hr2
            go_wp2
            go_ret
            exact ⟨ret_bool (by rw [HO.out]; exact ((eqE_iff _ _).2 rfl).symm), q, HWR.out⟩
        | cons op n s l r =>
          cases r' with
          | nil => simp [ES.len] at hk hk'; omega
          | cons op' n' s' l' r' =>
            obtain ⟨b, o, rfl, hb, c0, c1, c2, ⟨v3, c3, h3⟩, h6, hr⟩ := hr1 (by simp [ES.len])
            obtain ⟨b', o', rfl, hb', c0', c1', c2', ⟨v3', c3', h3'⟩, h6', hr'⟩ := hr2 (by simp [ES.len])
            clear hrow hrow' hr1 hr2
            obtain ⟨A6, cap6, rfl, _⟩ := id h3
            obtain ⟨A7, cap7, rfl, _⟩ := id h3'
            have hlt : k < len := by simp [ES.len] at hk; omega
            have hltc : k < cap := by omega
            have hltc' : k < cap' := by omega
            have HK := Lib.hid hk; clear hk
            have HK' := Lib.hid hk'; clear hk'
            have hcnt : l.cnt < K ∧ r.cnt ≤ K := by simp only [ES.cnt] at hrK; omega
            have HX := fun n => ih _ hcnt.1 l l' A6 A7 cap6 cap7 B (wr.drewN n) (Nat.le_refl _) hBr (EV.drew h3 hBr n) (EV.drew h3' hBr n)
            clear ih h3 h3'
            have i0 : (0 : Int) ≤ (k : Int) := by omega
            have i1 : (k : Int) < (len : Int) := by omega
            have HC := Lib.hid (eqE_cons op n s l r op' n' s' l' r')
            obtain ⟨bl, hbl⟩ : ∃ bl, eqE l l' = bl := ⟨_, rfl⟩
            rw [hbl] at HX HC
            clear hbl
            cases q0 : (op == op') with
            | false =>
              have q0n : (op != op') = true := by rw [bne, q0]; rfl
              go_wp2
              go_quiet ((go_at_call 51; with_reducible exact Calls.quiet_of (HX _)))
              go_wp2
              go_quiet (fail)
              go_wp2
              go_ret
              exact ⟨ret_bool (by rw [HO.out, HC.out]; unfold eqT; simp [q0]), _, by rw [HWR.out]; simp only [World.drewN_drewN]; rfl⟩
            | true =>
              have q0n : (op != op') = false := by rw [bne, q0]; rfl
              cases q1 : (n == n') with
              | false =>
                have q1n : (n != n') = true := by rw [bne, q1]; rfl
                go_wp2
                go_quiet ((go_at_call 51; with_reducible exact Calls.quiet_of (HX _)))
                go_wp2
                go_quiet (fail)
                go_wp2
                go_ret
                exact ⟨ret_bool (by rw [HO.out, HC.out]; unfold eqT; simp [q0, q1]), _, by rw [HWR.out]; simp only [World.drewN_drewN]; rfl⟩
              | true =>
                have q1n : (n != n') = false := by rw [bne, q1]; rfl
                cases q2 : (s.toList == s'.toList) with
                | false =>
                  have q2n : (s.toList != s'.toList) = true := by rw [bne, q2]; rfl
                  go_wp2
                  go_quiet ((go_at_call 51; with_reducible exact Calls.quiet_of (HX _)))
                  go_wp2
                  go_quiet (fail)
                  go_wp2
                  go_ret
                  exact ⟨ret_bool (by rw [HO.out, HC.out]; unfold eqT; simp [q0, q1, q2]), _, by rw [HWR.out]; simp only [World.drewN_drewN]; rfl⟩
                | true =>
                  have q2n : (s.toList != s'.toList) = false := by rw [bne, q2]; rfl
                  cases bl with
                  | false =>
                    go_wp2
                    go_quiet ((go_at_call 51; with_reducible exact Calls.quiet_of (HX _)))
                    go_wp2
                    go_quiet (fail)
                    go_wp2
                    go_ret
                    exact ⟨ret_bool (by rw [HO.out, HC.out]; unfold eqT; simp [q0, q1, q2]), _, by rw [HWR.out]; simp only [World.drewN_drewN]; rfl⟩
                  | true =>
                    go_wp2
                    go_quiet ((go_at_call 51; with_reducible exact Calls.quiet_of (HX _)))
                    go_wp2
                    go_quiet (fail)
                    go_wp2
                    go_roundw
                    case rel => exact ⟨k + 1, r, r', _, by go_num, by have := HK.out; simp [ES.len] at this; omega, by have := HK'.out; simp [ES.len] at this; omega, by rw [HO.out, HC.out]; unfold eqT; simp [q0, q1, q2], hcnt.2, drew_rowE hBr fun _ => ⟨b, o, rfl, hb, by rw [show o + (k + 1) * 4 = o + k * 4 + 4 by omega]; exact hr⟩, drew_rowE hBr fun _ => ⟨b', o', rfl, hb', by rw [show o' + (k + 1) * 4 = o' + k * 4 + 4 by omega]; exact hr'⟩, hBr, by rw [HWR.out]; simp only [World.drewN_drewN]; rfl⟩
                    case measure => simp [intOf]; omega
    · have hE : eqE a a' = false := eqE_len (by omega)
      rw [hE, hlen, hlen']
      have hz : len ≤ 9223372036854775807 := by omega
      have hz' : len' ≤ 9223372036854775807 := by omega
      clear hrow hrow' ih hE
      go_enter Tryd.func51, Tryd.ntmps51
      go_wp2
      go_ret
      exact ⟨rfl, 0, rfl⟩

set_option maxRecDepth 100000 in
set_option maxHeartbeats 4000000 in
theorem rsame_any (K : Nat) : ∀ (a a' : SS) (A A' : Option Addr) (cap cap' B : Nat) (w : World), a.cnt ≤ K → B ≤ w.heap.size → SV B w (.slice A a.len cap) a → SV B w (.slice A' a'.len cap') a' →
    Calls Tryd.prog 35 #[.slice A a.len cap, .slice A' a'.len cap'] w fun e w' => e = .returned (.bool (eqS a a')) ∧ ∃ m, w' = w.drewN m := by
  induction K using Nat.strongRecOn with
  | ind K ih =>
    intro a a' A A' cap cap' B w hK hB hv hv'
    obtain ⟨A1, cap1, e1, hc1, hc2, hrow⟩ := hv
    injection e1 with e2 e3 e4
    subst e2 e4
    clear e3
    obtain ⟨A1, cap1, e1, hc1', hc2', hrow'⟩ := hv'
    injection e1 with e2 e3 e4
    subst e2 e4
    clear e3
    obtain ⟨len, hlen⟩ : ∃ len, a.len = len := ⟨_, rfl⟩
    obtain ⟨len', hlen'⟩ : ∃ len, a'.len = len := ⟨_, rfl⟩
    by_cases hne : len = len'
    · subst hne
      rw [hlen] at hc1 hrow ⊢
      rw [hlen'] at hc1' hrow' ⊢
      have HL := Lib.hid hlen; clear hlen
      have HL' := Lib.hid hlen'; clear hlen'
      go_enter Tryd.func35, Tryd.ntmps35
      go_wp2
      go_loopw [5] (fun i wr => ∃ (k : Nat) (r r' : SS) (q : Nat), i = .int .i64 k ∧ k + r.len = len ∧ k + r'.len = len ∧ eqS a a' = eqS r r' ∧ r.cnt ≤ K ∧ (0 < r.len → ∃ b o, A = some ⟨b, o, none⟩ ∧ b < B ∧ r.In B wr b (o + k * 6)) ∧ (0 < r'.len → ∃ b o, A' = some ⟨b, o, none⟩ ∧ b < B ∧ r'.In B wr b (o + k * 6)) ∧ B ≤ wr.heap.size ∧ wr = w.drewN q) (fun i _ => len - (intOf i).toNat)
      case atStart => exact ⟨0, a, a', 0, rfl, by have := HL.out; omega, by have := HL'.out; omega, rfl, hK, by simpa [HL.out] using hrow, by simpa [HL'.out] using hrow', hB, rfl⟩
      case round =>
        obtain ⟨k, r, r', q, rfl, hk, hk', ho, hrK, hr1, hr2, hBr, hwr⟩ := hrel
        have HO := Lib.hid ho; clear ho
        have HWR := Lib.hid hwr; clear hwr
        cases r with
        | nil =>
          have hk0 : k = len := by simpa [SS.len] using hk
          subst hk0
          cases r' with
          | cons => simp [SS.len] at hk'
          | nil =>
            clear hk hk' hrow hrow' hr1 hr2
            go_wp2
            go_ret
            exact ⟨ret_bool (by rw [HO.out]; exact ((eqS_iff _ _).2 rfl).symm), q, HWR.out⟩
        | cons op s n l x y r =>
          cases r' with
          | nil => simp [SS.len] at hk hk'; omega
          | cons op' s' n' l' x' y' r' =>
            obtain ⟨b, o, rfl, hb, c0, c1, c2, ⟨v3, c3, h3⟩, ⟨v4, c4, h4⟩, ⟨v5, c5, h5⟩, h6, hr⟩ := hr1 (by simp [SS.len])
            obtain ⟨b', o', rfl, hb', c0', c1', c2', ⟨v3', c3', h3'⟩, ⟨v4', c4', h4'⟩, ⟨v5', c5', h5'⟩, h6', hr'⟩ := hr2 (by simp [SS.len])
            clear hrow hrow' hr1 hr2
            obtain ⟨A6, cap6, rfl, _⟩ := id h3
            obtain ⟨A7, cap7, rfl, _⟩ := id h3'
            obtain ⟨A8, cap8, rfl, _⟩ := id h4
            obtain ⟨A9, cap9, rfl, _⟩ := id h4'
            obtain ⟨A10, cap10, rfl, _⟩ := id h5
            obtain ⟨A11, cap11, rfl, _⟩ := id h5'
            have hlt : k < len := by simp [SS.len] at hk; omega
            have hltc : k < cap := by omega
            have hltc' : k < cap' := by omega
            have HK := Lib.hid hk; clear hk
            have HK' := Lib.hid hk'; clear hk'
            have hcnt : (x.cnt < K ∧ y.cnt < K) ∧ r.cnt ≤ K := by simp only [SS.cnt] at hrK; omega
            have HM := fun n => ralike_any _ l l' A6 A7 cap6 cap7 B (wr.drewN n) (Nat.le_refl _) hBr (EV.drew h3 hBr n) (EV.drew h3' hBr n)
            have HX := fun n => ih _ hcnt.1.1 x x' A8 A9 cap8 cap9 B (wr.drewN n) (Nat.le_refl _) hBr (SV.drew h4 hBr n) (SV.drew h4' hBr n)
            have HY := fun n => ih _ hcnt.1.2 y y' A10 A11 cap10 cap11 B (wr.drewN n) (Nat.le_refl _) hBr (SV.drew h5 hBr n) (SV.drew h5' hBr n)
            clear ih h3 h3' h4 h4' h5 h5'
            have i0 : (0 : Int) ≤ (k : Int) := by omega
            have i1 : (k : Int) < (len : Int) := by omega
            have HC := Lib.hid (eqS_cons op s n l x y r op' s' n' l' x' y' r')
            obtain ⟨bl, hbl⟩ : ∃ bl, eqE l l' = bl := ⟨_, rfl⟩
            obtain ⟨bx, hbx⟩ : ∃ bx, eqS x x' = bx := ⟨_, rfl⟩
            obtain ⟨by', hby⟩ : ∃ by', eqS y y' = by' := ⟨_, rfl⟩
            rw [hbl] at HM HC
            rw [hbx] at HX HC
            rw [hby] at HY HC
            clear hbl hbx hby
            have HX2 := fun n m => HX (n + m)
            have HY2 := fun n m => HY (n + m)
            cases q0 : (op == op') with
            | false =>
              have q0n : (op != op') = true := by rw [bne, q0]; rfl
              go_wp2
              go_quiet ((go_at_call 51; with_reducible exact Calls.quiet_of (HM _)))
              go_wp2
              go_quiet (first | (go_at_call 35; with_reducible exact Calls.quiet_of (HX _)) | (go_at_call 35; with_reducible exact quiet_two (HX _)))
              go_wp2
              go_quiet (first | (go_at_call 35; with_reducible exact Calls.quiet_of (HY _)) | (go_at_call 35; with_reducible exact quiet_two (HY _)))
              go_wp2
              go_quiet (fail)
              go_wp2
              go_ret
              exact ⟨ret_bool (by rw [HO.out, HC.out]; unfold eqT; simp [q0]), _, by rw [HWR.out]; simp only [World.drewN_drewN]; rfl⟩
            | true =>
              have q0n : (op != op') = false := by rw [bne, q0]; rfl
              cases q1 : (n == n') with
              | false =>
                have q1n : (n != n') = true := by rw [bne, q1]; rfl
                go_wp2
                go_quiet ((go_at_call 51; with_reducible exact Calls.quiet_of (HM _)))
                go_wp2
                go_quiet (first | (go_at_call 35; with_reducible exact Calls.quiet_of (HX _)) | (go_at_call 35; with_reducible exact quiet_two (HX _)))
                go_wp2
                go_quiet (first | (go_at_call 35; with_reducible exact Calls.quiet_of (HY _)) | (go_at_call 35; with_reducible exact quiet_two (HY _)))
                go_wp2
                go_quiet (fail)
                go_wp2
                go_ret
                exact ⟨ret_bool (by rw [HO.out, HC.out]; unfold eqT; simp [q0, q1]), _, by rw [HWR.out]; simp only [World.drewN_drewN]; rfl⟩
              | true =>
                have q1n : (n != n') = false := by rw [bne, q1]; rfl
                cases q2 : (s.toList == s'.toList) with
                | false =>
                  have q2n : (s.toList != s'.toList) = true := by rw [bne, q2]; rfl
                  go_wp2
                  go_quiet ((go_at_call 51; with_reducible exact Calls.quiet_of (HM _)))
                  go_wp2
                  go_quiet (first | (go_at_call 35; with_reducible exact Calls.quiet_of (HX _)) | (go_at_call 35; with_reducible exact quiet_two (HX _)))
                  go_wp2
                  go_quiet (first | (go_at_call 35; with_reducible exact Calls.quiet_of (HY _)) | (go_at_call 35; with_reducible exact quiet_two (HY _)))
                  go_wp2
                  go_quiet (fail)
                  go_wp2
                  go_ret
                  exact ⟨ret_bool (by rw [HO.out, HC.out]; unfold eqT; simp [q0, q1, q2]), _, by rw [HWR.out]; simp only [World.drewN_drewN]; rfl⟩
                | true =>
                  have q2n : (s.toList != s'.toList) = false := by rw [bne, q2]; rfl
                  cases bl with
                  | false =>
                    go_wp2
                    go_quiet ((go_at_call 51; with_reducible exact Calls.quiet_of (HM _)))
                    go_wp2
                    go_quiet (first | (go_at_call 35; with_reducible exact Calls.quiet_of (HX _)) | (go_at_call 35; with_reducible exact quiet_two (HX _)))
                    go_wp2
                    go_quiet (first | (go_at_call 35; with_reducible exact Calls.quiet_of (HY _)) | (go_at_call 35; with_reducible exact quiet_two (HY _)))
                    go_wp2
                    go_quiet (fail)
                    go_wp2
                    go_ret
                    exact ⟨ret_bool (by rw [HO.out, HC.out]; unfold eqT; simp [q0, q1, q2]), _, by rw [HWR.out]; simp only [World.drewN_drewN]; rfl⟩
                  | true =>
                    cases bx with
                    | false =>
                      go_wp2
                      go_quiet ((go_at_call 51; with_reducible exact Calls.quiet_of (HM _)))
                      go_wp2
                      go_quiet (first | (go_at_call 35; with_reducible exact Calls.quiet_of (HX _)) | (go_at_call 35; with_reducible exact quiet_two (HX _)))
                      go_wp2
                      go_quiet (first | (go_at_call 35; with_reducible exact Calls.quiet_of (HY _)) | (go_at_call 35; with_reducible exact quiet_two (HY _)))
                      go_wp2
                      go_quiet (fail)
                      go_wp2
                      go_ret
                      exact ⟨ret_bool (by rw [HO.out, HC.out]; unfold eqT; simp [q0, q1, q2]), _, by rw [HWR.out]; simp only [World.drewN_drewN]; rfl⟩
                    | true =>
                      cases by' with
                      | false =>
                        go_wp2
                        go_quiet ((go_at_call 51; with_reducible exact Calls.quiet_of (HM _)))
                        go_wp2
                        go_quiet (first | (go_at_call 35; with_reducible exact Calls.quiet_of (HX _)) | (go_at_call 35; with_reducible exact quiet_two (HX _)))
                        go_wp2
                        go_quiet (first | (go_at_call 35; with_reducible exact Calls.quiet_of (HY _)) | (go_at_call 35; with_reducible exact quiet_two (HY _)))
                        go_wp2
                        go_quiet (fail)
                        go_wp2
                        go_ret
                        exact ⟨ret_bool (by rw [HO.out, HC.out]; unfold eqT; simp [q0, q1, q2]), _, by rw [HWR.out]; simp only [World.drewN_drewN]; rfl⟩
                      | true =>
                        go_wp2
                        go_quiet ((go_at_call 51; with_reducible exact Calls.quiet_of (HM _)))
                        go_wp2
                        go_quiet (first | (go_at_call 35; with_reducible exact Calls.quiet_of (HX _)) | (go_at_call 35; with_reducible exact quiet_two (HX _)))
                        go_wp2
                        go_quiet (first | (go_at_call 35; with_reducible exact Calls.quiet_of (HY _)) | (go_at_call 35; with_reducible exact quiet_two (HY _)))
                        go_wp2
                        go_quiet (fail)
                        go_wp2
                        go_roundw
                        case rel => exact ⟨k + 1, r, r', _, by go_num, by have := HK.out; simp [SS.len] at this; omega, by have := HK'.out; simp [SS.len] at this; omega, by rw [HO.out, HC.out]; unfold eqT; simp [q0, q1, q2], hcnt.2, drew_row hBr fun _ => ⟨b, o, rfl, hb, by rw [show o + (k + 1) * 6 = o + k * 6 + 6 by omega]; exact hr⟩, drew_row hBr fun _ => ⟨b', o', rfl, hb', by rw [show o' + (k + 1) * 6 = o' + k * 6 + 6 by omega]; exact hr'⟩, hBr, by rw [HWR.out]; simp only [World.drewN_drewN]; rfl⟩
                        case measure => simp [intOf]; omega
    · have hE : eqS a a' = false := eqS_len (by omega)
      rw [hE, hlen, hlen']
      have hz : len ≤ 9223372036854775807 := by omega
      have hz' : len' ≤ 9223372036854775807 := by omega
      clear hrow hrow' ih hE
      go_enter Tryd.func35, Tryd.ntmps35
      go_wp2
      go_ret
      exact ⟨rfl, 0, rfl⟩

end Go.Proofs.YtaedlhjjfmmpdaaDoor
