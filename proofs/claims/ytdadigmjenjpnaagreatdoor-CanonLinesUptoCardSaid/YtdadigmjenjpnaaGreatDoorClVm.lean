/-
  CanonLines: the statement's function, walked.
-/
import Derived.Test.YtdadigmjenjpnaaGreatDoorCq5
import Derived.Test.YtdadigmjenjpnaaGreatDoorClWm
import Derived.Test.YtdadigmjenjpnaaGreatDoorCdWm
namespace Go.Proofs.YtdadigmjenjpnaaGreatDoor
open Go Go.RowKit Go.Lib

def fbL : List Fn → Nat
  | [] => 0
  | f :: r => f.b.lns + fbL r
theorem fns_lns : ∀ l, fnsLns l = 2 * l.length + fbL l
  | [] => rfl
  | f :: r => by
    simp only [fnsLns, fbL, fns_lns r, List.length_cons]
    omega
theorem SS.lns_le : ∀ l : SS, l.lns ≤ 3 * l.cnt
  | .nil => Nat.le_refl _
  | .cons op s n l x y r => by
    have h1 := SS.lns_le x
    have h2 := SS.lns_le y
    have h3 := SS.lns_le r
    simp only [SS.lns, SS.cnt]
    split <;> split <;> omega
theorem fb_le : ∀ l : List Fn, fbL l ≤ 3 * cntL (fsPts l)
  | [] => Nat.le_refl _
  | f :: r => by
    have h1 := SS.lns_le f.b
    have h2 := fb_le r
    simp only [fbL, fsPts, cntL_append, SS.cntL]
    omega
theorem lnok_all (l : SS) : LNok l := lines_at l (lines_any l)

/-- What holds of where a text's going through stands. -/
structure LI (s : LnS) (pre : List UInt8) : Prop where
  n0 : 0 ≤ s.n
  n1 : s.n ≤ pre.length
  d0 : -(pre.length : Int) ≤ s.d
  d1 : s.d ≤ pre.length
  t0 : 0 ≤ s.tabs
  t1 : s.tabs ≤ pre.length
  last : s.st = false → ∃ q, pre = q ++ [s.prev]
theorem lstep_ways {p : UInt8} {n d t : Int} {b : Bool} {c : UInt8} {s : LnS} (h : lstep ⟨p, n, d, b, t⟩ c = some s) :
    (b = true ∧ c = 9 ∧ s = ⟨9, n, d, true, t + 1⟩) ∨ (b = true ∧ c = 125 ∧ t = d - 1 ∧ s = ⟨125, n, d - 1, false, t⟩) ∨ (b = true ∧ (c ≠ 9 ∧ c ≠ 125 ∧ c ≠ 10) ∧ t = d ∧ s = ⟨c, n, d, false, t⟩) ∨
    (b = false ∧ c ≠ 10 ∧ s = ⟨c, n, d, false, t⟩) ∨ (b = false ∧ c = 10 ∧ p = 123 ∧ s = ⟨10, n + 1, d + 1, true, 0⟩) ∨ (b = false ∧ c = 10 ∧ p ≠ 123 ∧ s = ⟨10, n + 1, d, true, 0⟩) := by
  cases b with
  | true =>
    by_cases h9 : c = 9
    · subst h9
      simp [lstep] at h
      exact .inl ⟨rfl, rfl, h.symm⟩
    · by_cases h1 : c = 125
      · subst h1
        by_cases ht : t = d - 1
        · simp [lstep, ht] at h
          exact .inr (.inl ⟨rfl, rfl, ht, by rw [← h, ht]⟩)
        · simp [lstep, ht] at h
      · by_cases h10 : c = 10
        · subst h10
          simp [lstep] at h
        · by_cases ht : t = d
          · simp [lstep, ht, h9, h1, h10] at h
            exact .inr (.inr (.inl ⟨rfl, ⟨h9, h1, h10⟩, ht, by rw [← h, ht]⟩))
          · simp [lstep, ht, h9, h1, h10] at h
  | false =>
    by_cases h10 : c = 10
    · subst h10
      by_cases hp : p = 123
      · simp [lstep, hp] at h
        exact .inr (.inr (.inr (.inr (.inl ⟨rfl, rfl, hp, h.symm⟩))))
      · simp [lstep, hp] at h
        exact .inr (.inr (.inr (.inr (.inr ⟨rfl, rfl, hp, h.symm⟩))))
    · simp [lstep, h10] at h
      exact .inr (.inr (.inr (.inl ⟨rfl, h10, h.symm⟩)))
theorem LI.step {p : UInt8} {n d t : Int} {b : Bool} {c : UInt8} {s : LnS} {pre : List UInt8} (hi : LI ⟨p, n, d, b, t⟩ pre) (h : lstep ⟨p, n, d, b, t⟩ c = some s) : LI s (pre ++ [c]) := by
  obtain ⟨n0, n1, d0, d1, t0, t1, _⟩ := hi
  simp only at n0 n1 d0 d1 t0 t1
  have e : ((pre ++ [c]).length : Int) = pre.length + 1 := by simp
  rcases lstep_ways h with ⟨_, rfl, rfl⟩ | ⟨_, rfl, _, rfl⟩ | ⟨_, _, _, rfl⟩ | ⟨_, _, rfl⟩ | ⟨_, rfl, _, rfl⟩ | ⟨_, rfl, _, rfl⟩
  all_goals
    refine ⟨?_, ?_, ?_, ?_, ?_, ?_, fun _ => ?_⟩
  all_goals first
    | exact ⟨pre, rfl⟩
    | (simp only [e]; omega)
    | contradiction

set_option maxHeartbeats 4000000 in
set_option maxRecDepth 100000 in
theorem canlines_walk (p : Pg) (A : Option Addr) (cap : Nat) (X : Option Addr) (capx : Nat) (W : World) (hF : FV W.heap.size W (.slice A p.fs.length cap) p.fs) (hM : SV W.heap.size W (.slice X p.m.len capx) p.m) (hc : cntL p.pts ≤ 1048576) (ht : TT W) :
    Calls Tryz.prog 6 #[.agg #[.slice A p.fs.length cap, .slice X p.m.len capx]] W fun e w' => e = .returned (.bool true) ∧ Below W.heap.size W w' := by
  have hpv : PgV W.heap.size W (.agg #[.slice A p.fs.length cap, .slice X p.m.len capx]) p := ⟨A, cap, X, capx, rfl, hF, hM⟩
  obtain ⟨nf, hnf⟩ : ∃ nf, p.fs.length = nf := ⟨_, rfl⟩
  obtain ⟨nm, hnm⟩ : ∃ nm, p.m.len = nm := ⟨_, rfl⟩
  rw [hnf, hnm] at hpv ⊢
  rw [hnm] at hM
  rw [hnf] at hF
  obtain ⟨w2, hw2⟩ : ∃ w2, W.alloc (.cells #[.slice A nf cap, .slice X nm capx] 25) = w2 := ⟨_, rfl⟩
  have b2 : Below W.heap.size W w2 := by rw [← hw2]; exact (Below.refl _ _).alloc (Nat.le_refl _) _
  have z2 : w2.heap.size = W.heap.size + 1 := by rw [← hw2]; simp
  have g2 : w2.heap[W.heap.size]? = some (.cells #[.slice A nf cap, .slice X nm capx] 25 (0, 0)) := by rw [← hw2]; exact heap_alloc_new W _
  have hS := shown5_fr w2 (ht.step b2)
  go_enter Tryz.func6, Tryz.ntmps6
  go_upto_region 2 with (go_at_call 10; ((with_reducible refine hS.mono ?_); clear hS; rintro e w3 ⟨rfl, c3⟩))
  have b3 : Below W.heap.size W w3 := b2.trans (c3.mono b2.size)
  have z3 : W.heap.size < w3.heap.size := by have := c3.size; omega
  have g3 := (c3.block _ (by omega)).trans g2
  have T3 := ht.step b3
  have HB := hid (fun w' (hb : Below w3.heap.size w3 w') => (⟨cells_at ((hb.block _ z3).trans g3) 0 rfl, cells_at ((hb.block _ z3).trans g3) 1 rfl⟩ : w'.cell? ⟨W.heap.size, 0, none⟩ = some (.slice A nf cap) ∧ w'.cell? ⟨W.heap.size, 1, none⟩ = some (.slice X nm capx)))
  have e0 := cells_at g3 0 rfl
  have e1 := cells_at g3 1 rfl
  have HR := hid (fun w' (hb : Below w3.heap.size w3 w') => right_any _ p w' W.heap.size (Nat.le_trans b3.size hb.size) (hpv.below (b3.trans (hb.mono b3.size)) (Nat.le_refl _)) (ht.step (b3.trans (hb.mono b3.size))).tree)
  have q3 := text_any_p p _ w3 W.heap.size b3.size (hpv.below b3 (Nat.le_refl _)) T3.tree T3.canon (by omega)
  by_cases hr : rightN p = 0
  · rw [hr] at HR
    obtain ⟨q1, q2, _⟩ := rightN_ok' hr
    unfold funcsB at q1
    simp only [Bool.and_eq_true, decide_eq_true_eq] at q1
    have hrun := run_pg p hr
    have hNle : (textP p).length ≤ 32000000000000 := by
      unfold textP
      rw [if_pos hr]
      exact txt_le hr hpv (by omega)
    obtain ⟨T, hT⟩ : ∃ T, textP p = T := ⟨_, rfl⟩
    rw [hT] at q3 hrun hNle
    obtain ⟨N, hN⟩ : ∃ N, T.length = N := ⟨_, rfl⟩
    obtain ⟨Z, hZ⟩ : ∃ Z : ByteArray, (⟨T.toArray⟩ : ByteArray) = Z := ⟨_, rfl⟩
    have hZs : Z.size = N := by rw [← hZ, ← hN]; simp [ByteArray.size]
    have hZl : Z.data.toList = T := by rw [← hZ]
    rw [hZ] at q3
    rw [hN] at hNle
    have hcc : fbL p.fs + p.m.lns ≤ 3 * 1048576 := by
      have i1 := fb_le p.fs
      have i2 := SS.lns_le p.m
      simp only [Pg.pts, cntL_append, SS.cntL] at hc
      omega
    rw [fns_lns, hnf] at hrun
    obtain ⟨lm, hlm⟩ : ∃ lm, p.m.lns = lm := ⟨_, rfl⟩
    rw [hlm] at hcc hrun
    obtain ⟨lf, hlf⟩ : ∃ lf, fbL p.fs = lf := ⟨_, rfl⟩
    rw [hlf] at hcc hrun
    have hf32 : nf ≤ 32 := by rw [← hnf]; exact q1.1
    clear hZ hT hc q1 q2
    go_upto_region 3 with (go_at_call 11; ((with_reducible refine q3.mono ?_); clear q3; rintro e w4 ⟨rfl, c4⟩))
    obtain ⟨r0, r1⟩ := HB.out w4 c4
    have q := HR.out w4 c4
    clear e0 e1
    go_upto_region 5 with (go_at_call 13; ((with_reducible refine q.mono ?_); clear q; rintro e w5 ⟨rfl, c5⟩))
    have c35 : Below w3.heap.size w3 w5 := c4.trans (c5.mono c4.size)
    have b5 := b3.trans (c35.mono b3.size)
    obtain ⟨s0, s1⟩ := HB.out w5 c35
    have hM5 : SV W.heap.size w5 (.slice X nm capx) p.m := SV.below hM b5 (Nat.le_refl _)
    have HX := fun n => lnok_all p.m W.heap.size (w5.drewN n) _ b5.size (SV.drewC hM5 b5.size n) (by omega)
    rw [hlm] at HX
    have k0 : IntKind.i64.wrap (2 * (nf : Int)) = 2 * (nf : Int) := IntWalk.i64_in _ (by omega)
    have k1 : IntKind.i64.wrap (2 * (nf : Int) + (lm : Int)) = 2 * (nf : Int) + (lm : Int) := IntWalk.i64_in _ (by omega)
    clear r0 r1 hM5
    go_quiet ((go_at_call 18; with_reducible exact Calls.quiet_of (HX _)))
    clear HX
    go_wp2
    have HL := hid (And.intro hnf hlf)
    clear hnf hlf
    go_loopw [5, 6] (fun n i wr => ∃ (j : Nat) (r : List Fn) (m q : Nat), n = .int .i64 m ∧ i = .int .i64 j ∧ j + r.length = nf ∧ m + fbL r = 2 * nf + lm + lf ∧
        (0 < r.length → ∃ b o, A = some ⟨b, o, none⟩ ∧ b < W.heap.size ∧ FsIn W.heap.size w5 r b (o + j * 3)) ∧ wr = w5.drewN q) (fun _ i _ => nf - (RowKit.intOf i).toNat)
    case atStart =>
      have hF5 := FV.below hF b5 (Nat.le_refl _)
      obtain ⟨A1, cap1, e1, _, _, hrow⟩ := hF5
      injection e1 with e2 e3 e4
      subst e2
      exact ⟨0, p.fs, 2 * nf + lm, _, by go_num, rfl, by have := HL.out.1; omega, by have := HL.out.2; omega, by simpa [HL.out.1] using hrow, rfl⟩
    case round =>
      obtain ⟨j, r, m, q, rfl, rfl, hj, hm, hr1, rfl⟩ := hrel
      have e0 : (w5.drewN q).cell? ⟨W.heap.size, 0, none⟩ = some (.slice A nf cap) := s0
      cases r with
      | nil =>
        have hj0 : j = nf := by simpa using hj
        subst hj0
        have hm0 : m = 2 * j + lm + lf := by simpa [fbL] using hm
        clear hj hm hr1 hF
        obtain ⟨M, hMt⟩ : ∃ M : Nat, 2 * j + lm + lf = M := ⟨_, rfl⟩
        have hMM : 2 * j + lf + lm = M := by omega
        rw [hMM] at hrun
        rw [hMt] at hm0
        subst hm0
        have hMb : m ≤ 4000000 := by omega
        obtain ⟨w6, hw6⟩ : ∃ w6, w5.drewN q = w6 := ⟨_, rfl⟩
        have c36 : Below w3.heap.size w3 w6 := by rw [← hw6]; exact below_drew c35 q
        rw [hw6] at e0 ⊢
        clear hMt hMM s0 s1 hw6
        go_wp2
        clear e0
        have HZ := hid hZl
        have HN := hid hN
        clear hZl hN
        go_loopw [7, 8, 9, 10, 11] (fun s7 s8 s9 s10 s11 wr => ∃ (pre r : List UInt8) (pv : UInt8) (n d t : Int) (b : Bool), pre ++ r = T ∧ lrun ⟨pv, n, d, b, t⟩ r = some ⟨10, (m : Int), 0, true, 0⟩ ∧ LI ⟨pv, n, d, b, t⟩ pre ∧
            s7 = .int .i64 n ∧ s8 = .int .i64 d ∧ s9 = .bool b ∧ s10 = .int .i64 t ∧ s11 = .int .i64 pre.length ∧ wr = w6) (fun _ _ _ _ s11 _ => N - (RowKit.intOf s11).toNat)
        case atStart => exact ⟨[], T, 10, 0, 0, 0, true, rfl, hrun, ⟨by decide, by decide, by decide, by decide, by decide, by decide, fun h => by cases h⟩, rfl, rfl, rfl, rfl, rfl, rfl⟩
        case round =>
          obtain ⟨pre, r, pv, n, d, t, b, hpr, hlr, hli, rfl, rfl, rfl, rfl, rfl, rfl⟩ := hrel
          obtain ⟨i, hi⟩ : ∃ i, pre.length = i := ⟨_, rfl⟩
          have hjN : i + r.length = N := by rw [← hi, ← HN.out, ← hpr, List.length_append]
          obtain ⟨n0, n1, d0, d1, t0, t1, hlast⟩ := id hli
          simp only at n0 n1 d0 d1 t0 t1 hlast
          rw [hi] at n1 d0 d1 t1
          rw [hi]
          cases r with
          | nil =>
            have hjn : i = N := by simpa using hjN
            subst hjn
            simp only [lrun, Option.some.injEq, LnS.mk.injEq] at hlr
            obtain ⟨_, rfl, rfl, rfl, rfl⟩ := hlr
            clear hlast hli hjN
            go_wp2
            go_ret
            exact ⟨rfl, b3.trans (c36.mono b3.size)⟩
          | cons c r =>
            have hlt : i < N := by simp at hjN; omega
            obtain ⟨s', hst, hlr'⟩ : ∃ s', lstep ⟨pv, n, d, b, t⟩ c = some s' ∧ lrun s' r = some ⟨10, (m : Int), 0, true, 0⟩ := by
              simp only [lrun] at hlr
              cases hs : lstep ⟨pv, n, d, b, t⟩ c with
              | none => rw [hs] at hlr; cases hlr
              | some s' => rw [hs] at hlr; exact ⟨s', rfl, hlr⟩
            have hli' := LI.step hli hst
            have hat : Z.data.toList = pre ++ c :: r := by rw [HZ.out, hpr]
            obtain ⟨cv, hcv⟩ : ∃ cv : Int, (c.toNat : Int) = cv := ⟨_, rfl⟩
            have hcb : ∀ k : UInt8, cv = (k.toNat : Int) ↔ c = k := fun k => ⟨fun h => UInt8.toNat_inj.1 (by omega), fun h => by rw [← hcv, h]⟩
            have hBj : ∀ h : i < Z.size, ((Z[i]'h).toNat : Int) = cv := by
              intro h
              have e : (Z[i]'h) = c := by
                show Z.data[i]'h = c
                have e1 : Z.data.toList[i]? = some c := by rw [hat, ← hi]; simp
                rw [Array.getElem?_toList, Array.getElem?_eq_getElem h] at e1
                exact Option.some.inj e1
              rw [e, hcv]
            have HP := hid (show (pre ++ [c]) ++ r = T ∧ (pre ++ [c]).length = i + 1 from ⟨by rw [← hpr]; simp, by rw [List.length_append, hi]; rfl⟩)
            have h9 := hcb 9
            have h10 := hcb 10
            have h125 := hcb 125
            rw [show ((9 : UInt8).toNat : Int) = 9 from rfl] at h9
            rw [show ((10 : UInt8).toNat : Int) = 10 from rfl] at h10
            rw [show ((125 : UInt8).toNat : Int) = 125 from rfl] at h125
            clear hcb hat hcv hpr hjN hli
            have HS := hid hlr'
            have HI := hid hli'
            have W1 := lstep_ways hst
            clear hlr' hli' hst hlr
            rcases W1 with ⟨rfl, rfl, rfl⟩ | ⟨rfl, rfl, rfl, rfl⟩ | ⟨rfl, ⟨g9, g125, g10⟩, rfl, rfl⟩ | ⟨rfl, g10, rfl⟩ | ⟨rfl, rfl, rfl, rfl⟩ | ⟨rfl, rfl, gp, rfl⟩
            · have hv : cv = 9 := h9.2 rfl
              clear h9 h10 h125
              subst hv
              go_wp2
              go_roundw
              case rel => exact ⟨pre ++ [_], r, _, _, _, _, _, HP.out.1, HS.out, HI.out, by go_num, by go_num, rfl, by go_num, by rw [HP.out.2]; go_num, trivial⟩
              case measure => simp [RowKit.intOf]; omega
            · have hv : cv = 125 := h125.2 rfl
              clear h9 h10 h125
              subst hv
              go_wp2
              go_roundw
              case rel => exact ⟨pre ++ [_], r, _, _, _, _, _, HP.out.1, HS.out, HI.out, by go_num, by go_num, rfl, by go_num, by rw [HP.out.2]; go_num, trivial⟩
              case measure => simp [RowKit.intOf]; omega
            · have v9 : (cv == 9) = false := by simpa using fun h => g9 (h9.1 h)
              have v10 : (cv == 10) = false := by simpa using fun h => g10 (h10.1 h)
              have v125 : (cv == 125) = false := by simpa using fun h => g125 (h125.1 h)
              clear h9 h10 h125
              go_wp2
              go_roundw
              case rel => exact ⟨pre ++ [_], r, _, _, _, _, _, HP.out.1, HS.out, HI.out, by go_num, by go_num, rfl, by go_num, by rw [HP.out.2]; go_num, trivial⟩
              case measure => simp [RowKit.intOf]; omega
            · have v10 : (cv == 10) = false := by simpa using fun h => g10 (h10.1 h)
              clear h9 h10 h125
              go_wp2
              go_roundw
              case rel => exact ⟨pre ++ [_], r, _, _, _, _, _, HP.out.1, HS.out, HI.out, by go_num, by go_num, rfl, by go_num, by rw [HP.out.2]; go_num, trivial⟩
              case measure => simp [RowKit.intOf]; omega
            · have hv : cv = 10 := h10.2 rfl
              clear h9 h10 h125
              subst hv
              obtain ⟨q0, hq0⟩ := hlast rfl
              obtain ⟨i0, hi0⟩ : ∃ i0, q0.length = i0 := ⟨_, rfl⟩
              have hii : i = i0 + 1 := by rw [← hi, hq0, List.length_append, hi0]; rfl
              have hBp : ∀ h : i0 < Z.size, ((Z[i0]'h).toNat : Int) = 123 := by
                intro h
                have e : (Z[i0]'h) = (123 : UInt8) := by
                  show Z.data[i0]'h = (123 : UInt8)
                  have e1 : Z.data.toList[i0]? = some (123 : UInt8) := by rw [HZ.out, ← HP.out.1, hq0, ← hi0]; simp
                  rw [Array.getElem?_toList, Array.getElem?_eq_getElem h] at e1
                  exact Option.some.inj e1
                rw [e]; rfl
              have hin : ((i : Int) - 1).toNat = i0 := by omega
              have hi1 : 1 ≤ i := by omega
              have hi2 : i0 < N := by omega
              have HQ := hid hii
              clear hii hq0 hi0 hlast
              go_wp2
              go_roundw
              case rel => exact ⟨pre ++ [_], r, _, _, _, _, _, HP.out.1, HS.out, HI.out, by go_num, by go_num, rfl, by go_num, by rw [HP.out.2]; go_num, trivial⟩
              case measure => simp [RowKit.intOf]; omega
            · have hv : cv = 10 := h10.2 rfl
              clear h9 h10 h125
              subst hv
              obtain ⟨pw, hpw⟩ : ∃ pw : Int, (pv.toNat : Int) = pw := ⟨_, rfl⟩
              have vp : (pw == 123) = false := by
                simp only [beq_eq_false_iff_ne, ne_eq]
                intro h
                exact gp (UInt8.toNat_inj.1 (by rw [show (123 : UInt8).toNat = 123 from rfl]; omega))
              obtain ⟨q0, hq0⟩ := hlast rfl
              obtain ⟨i0, hi0⟩ : ∃ i0, q0.length = i0 := ⟨_, rfl⟩
              have hii : i = i0 + 1 := by rw [← hi, hq0, List.length_append, hi0]; rfl
              have hBp : ∀ h : i0 < Z.size, ((Z[i0]'h).toNat : Int) = pw := by
                intro h
                have e : (Z[i0]'h) = pv := by
                  show Z.data[i0]'h = pv
                  have e1 : Z.data.toList[i0]? = some pv := by rw [HZ.out, ← HP.out.1, hq0, ← hi0]; simp
                  rw [Array.getElem?_toList, Array.getElem?_eq_getElem h] at e1
                  exact Option.some.inj e1
                rw [e, hpw]
              have hin : ((i : Int) - 1).toNat = i0 := by omega
              have hi1 : 1 ≤ i := by omega
              have hi2 : i0 < N := by omega
              have HQ := hid hii
              clear hii hq0 hi0 hlast
              go_wp2
              go_roundw
              case rel => exact ⟨pre ++ [_], r, _, _, _, _, _, HP.out.1, HS.out, HI.out, by go_num, by go_num, rfl, by go_num, by rw [HP.out.2]; go_num, trivial⟩
              case measure => simp [RowKit.intOf]; omega
      | cons f r =>
        obtain ⟨bo, o, rfl, hbo, c0, ⟨v1, c1, h1⟩, ⟨v2, c2, h2⟩, hs, hrr⟩ := hr1 (by simp)
        have hlt : j < nf := by simp at hj; omega
        obtain ⟨A7, cap7, rfl, _⟩ := id h2
        have d2 : (w5.drewN q).cell? ⟨bo, o + j * 3 + 2, none⟩ = some (.slice A7 f.b.len cap7) := c2
        obtain ⟨a, ha⟩ : ∃ a, f.b.lns = a := ⟨_, rfl⟩
        simp only [fbL, ha] at hm
        have hq := lnok_all f.b W.heap.size (w5.drewN q) _ b5.size (SV.drewC h2 b5.size q) (by omega)
        rw [ha] at hq
        obtain ⟨kb, hkb⟩ : ∃ kb, f.b.len = kb := ⟨_, rfl⟩
        rw [hkb] at hq d2
        obtain ⟨hc1, hc2⟩ : nf ≤ cap ∧ cap ≤ 9223372036854775807 := by
          obtain ⟨A1, cap1, e1, h1, h2, _⟩ := hF
          injection e1 with e2 e3 e4
          subst e4
          exact ⟨by have := HL.out.1; omega, h2⟩
        clear c0 c1 c2 h1 h2 hr1 ha hkb
        have HJ := hid hj; clear hj
        go_wp2_with (go_at_call 18; ((with_reducible refine hq.mono ?_); clear hq; rintro e w6 ⟨rfl, q6, rfl⟩))
        go_roundw
        case rel => exact ⟨j + 1, r, m + a, _, by go_num, by go_num, by have := HJ.out; simp at this; omega, by omega, fun _ => ⟨bo, o, rfl, hbo, by rw [show o + (j + 1) * 3 = o + j * 3 + 3 by omega]; exact hrr⟩, rfl⟩
        case measure => simp [RowKit.intOf]; omega
  · have hT : textP p = [] := by unfold textP; rw [if_neg hr]
    rw [hT] at q3
    rcases (rightN_cases p).resolve_left hr with h | h
    all_goals
      rw [h] at HR
      go_wp2_with (first
        | (go_at_call 11; ((with_reducible refine q3.mono ?_); clear q3; rintro e w4 ⟨rfl, c4⟩; obtain ⟨r0, r1⟩ := HB.out w4 c4; have q := HR.out w4 c4))
        | (go_at_call 13; ((with_reducible refine q.mono ?_); clear q; rintro e w5 ⟨rfl, c5⟩)))
      go_ret
      exact ⟨rfl, b3.trans ((c4.trans (c5.mono c4.size)).mono b3.size)⟩

end Go.Proofs.YtdadigmjenjpnaaGreatDoor
