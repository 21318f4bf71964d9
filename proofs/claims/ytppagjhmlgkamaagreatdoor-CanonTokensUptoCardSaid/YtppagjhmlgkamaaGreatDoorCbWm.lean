/-
  CanonTokens: the walk.
-/
import Derived.Test.YtppagjhmlgkamaaGreatDoorCq5
import Derived.Test.YtppagjhmlgkamaaGreatDoorCbVm
import Derived.Test.YtppagjhmlgkamaaGreatDoorTreeUm
import Derived.Test.YtppagjhmlgkamaaGreatDoorCnZm
import Derived.Laws.IdiomStrings
namespace Go.Proofs.YtppagjhmlgkamaaGreatDoor
open Go Go.RowKit Go.Lib

theorem run_bs (w : World) (s : ByteArray) : (convert 9 29 (.string s)).run Tryz.prog w = .ok (.slice (some ⟨w.heap.size, 0, none⟩) s.size (grownCap w s.size 0 5))
    (w.drew.alloc (.cells (bytesRow s (grownCap w s.size 0 5)) 5 ((bytesRow s (grownCap w s.size 0 5)).size, (bytesRow s (grownCap w s.size 0 5)).size + 1))) :=
  run_bytes_of_string w _ _ _ s Tryz.underlying9 Tryz.underlying29 Tryz.underlying5
theorem row_bs (w : World) (s : ByteArray) (c : Nat) {fz : Nat × Nat} : Row (w.drew.alloc (.cells (bytesRow s c) 5 fz)) (some ⟨w.heap.size, 0, none⟩) s.data.toList := by
  intro _
  refine ⟨w.heap.size, 0, rfl, by simp, fun i hi => ?_⟩
  have hi' : i < s.data.size := by simpa using hi
  rw [Nat.zero_add]
  refine (World.cell?_alloc_mark w.drew _ _ _ i).trans ((bytesRow_at s c i hi').trans ?_)
  unfold nth bv
  rw [List.getD_eq_getElem?_getD, List.getElem?_eq_getElem hi]
  simp
theorem below_bs (w : World) (o : Obj) : Below w.heap.size w (w.drew.alloc o) := Below.alloc (below_drw (Below.refl _ _)) (Nat.le_refl _) o
abbrev newB (w : World) (s : ByteArray) (z : Nat) : World := (w.alloc (.cells (bytesRow s (grownCap w z 0 5)) 5 ((bytesRow s (grownCap w z 0 5)).size, (bytesRow s (grownCap w z 0 5)).size + 1))).drew
theorem l_ok {s : ByteArray} {ts : List Tok} (ht : lexS 0 s.data.toList = .ok ts) (z : Nat) (hz : s.size = z) (hs : z ≤ 65536) (w : World) :
    Calls Tryz.prog 19 #[.slice (some ⟨w.heap.size, 0, none⟩) z (grownCap w z 0 5)] (newB w s z)
      fun e W' => ∃ g c, e = .returned (.tuple #[.slice (some ⟨g, 0, none⟩) (ts.length + 1) c, .int .i64 0, .int .i64 0]) ∧ Below w.heap.size w W' := by
  subst hz
  refine (lex_ok _ s.size _ _ _ ts _ (by simp) hs (grownCap_ge _ _ _ _) (row_bs w s _) ht rfl).mono ?_
  rintro e W' ⟨g, c, h1, _, _, _, h2⟩
  exact ⟨g, c, h1, (below_bs w _).trans (h2.mono (by simp))⟩
theorem l_big {s : ByteArray} (z : Nat) (hs : 65536 < (z : Int)) (w : World) :
    Calls Tryz.prog 19 #[.slice (some ⟨w.heap.size, 0, none⟩) z (grownCap w z 0 5)] (newB w s z)
      fun e W' => e = .returned (.tuple #[.slice none 0 0, .int .i64 0, .int .i64 1]) ∧ Below w.heap.size w W' := by
  refine (lex_big _ z _ _ hs).mono ?_
  rintro e W' ⟨h1, rfl⟩
  exact ⟨h1, below_bs w _⟩
def baL (l : List UInt8) : ByteArray := ⟨l.toArray⟩
theorem baL_size (a : List UInt8) : (baL a).size = a.length := by unfold baL; simp [ByteArray.size]
theorem baL_inj {a b : List UInt8} (h : baL a = baL b) : a = b := by
  unfold baL at h
  injection h with h
  have := congrArg Array.toList h
  simpa using this
theorem cells_two {w : World} {g : Nat} {a b : Value} {T : TypeId} {fr : Nat × Nat} (h : w.heap[g]? = some (.cells #[a, b] T fr)) : w.cell? ⟨g, 0, none⟩ = some a ∧ w.cell? ⟨g, 1, none⟩ = some b := ⟨cells_at h 0 rfl, cells_at h 1 rfl⟩


set_option maxHeartbeats 8000000 in
set_option maxRecDepth 100000 in

set_option maxHeartbeats 8000000 in
set_option maxRecDepth 100000 in

set_option maxHeartbeats 8000000 in
set_option maxRecDepth 100000 in
theorem toks_walk (p q : Pg) (A : Option Addr) (cap : Nat) (X : Option Addr) (capx : Nat) (A' : Option Addr) (cap' : Nat) (X' : Option Addr) (capx' : Nat) (W : World) (hF : FV W.heap.size W (.slice A p.fs.length cap) p.fs) (hM : SV W.heap.size W (.slice X p.m.len capx) p.m) (hF' : FV W.heap.size W (.slice A' q.fs.length cap') q.fs) (hM' : SV W.heap.size W (.slice X' q.m.len capx') q.m) (hc : cntL p.pts ≤ 1048576) (hc' : cntL q.pts ≤ 1048576) (ht : TT W) :
    Calls Tryz.prog 7 #[.agg #[.slice A p.fs.length cap, .slice X p.m.len capx], .agg #[.slice A' q.fs.length cap', .slice X' q.m.len capx']] W fun e w' => e = .returned (.bool true) ∧ Below W.heap.size W w' := by
  have hpv : PgV W.heap.size W (.agg #[.slice A p.fs.length cap, .slice X p.m.len capx]) p := ⟨A, cap, X, capx, rfl, hF, hM⟩
  have hqv : PgV W.heap.size W (.agg #[.slice A' q.fs.length cap', .slice X' q.m.len capx']) q := ⟨A', cap', X', capx', rfl, hF', hM'⟩
  obtain ⟨nf, hnf⟩ : ∃ nf, p.fs.length = nf := ⟨_, rfl⟩
  obtain ⟨nm, hnm⟩ : ∃ nm, p.m.len = nm := ⟨_, rfl⟩
  obtain ⟨nf', hnf'⟩ : ∃ nf, q.fs.length = nf := ⟨_, rfl⟩
  obtain ⟨nm', hnm'⟩ : ∃ nm, q.m.len = nm := ⟨_, rfl⟩
  rw [hnf, hnm] at hpv ⊢
  rw [hnf', hnm'] at hqv ⊢
  clear hF hM hF' hM' hnf hnm hnf' hnm'
  obtain ⟨w1, hw1⟩ : ∃ w1, W.alloc (.cells #[.slice A nf cap, .slice X nm capx] 25) = w1 := ⟨_, rfl⟩
  have b1 : Below W.heap.size W w1 := by rw [← hw1]; exact (Below.refl _ _).alloc (Nat.le_refl _) _
  have z1 : w1.heap.size = W.heap.size + 1 := by rw [← hw1]; simp
  have g1 : w1.heap[W.heap.size]? = some (.cells #[.slice A nf cap, .slice X nm capx] 25 (0, 0)) := by rw [← hw1]; exact heap_alloc_new W _
  obtain ⟨w2, hw2⟩ : ∃ w2, w1.alloc (.cells #[.slice A' nf' cap', .slice X' nm' capx'] 25) = w2 := ⟨_, rfl⟩
  have b12 : Below w1.heap.size w1 w2 := by rw [← hw2]; exact (Below.refl _ _).alloc (Nat.le_refl _) _
  have z2 : w2.heap.size = W.heap.size + 1 + 1 := by rw [← hw2]; simp [z1]
  have g2' : w2.heap[W.heap.size + 1]? = some (.cells #[.slice A' nf' cap', .slice X' nm' capx'] 25 (0, 0)) := by rw [← hw2, ← z1]; exact heap_alloc_new w1 _
  have g2 := (b12.block W.heap.size (by omega)).trans g1
  have b2 : Below W.heap.size W w2 := b1.trans (b12.mono (by omega))
  have hS := shown5_fr w2 (ht.step b2)
  go_enter Tryz.func7, Tryz.ntmps7
  go_upto_region 2 with (go_at_call 10; ((with_reducible refine hS.mono ?_); clear hS; rintro e w3 ⟨rfl, c3⟩))
  have b3 : Below W.heap.size W w3 := b2.trans (c3.mono b2.size)
  have s3 := c3.size
  have g3 := (c3.block W.heap.size (by omega)).trans g2
  have g3' := (c3.block (W.heap.size + 1) (by omega)).trans g2'
  have HB := hid (fun w' (hb : Below w3.heap.size w3 w') => cells_two ((hb.block W.heap.size (by omega)).trans g3))
  have HB' := hid (fun w' (hb : Below w3.heap.size w3 w') => cells_two ((hb.block (W.heap.size + 1) (by omega)).trans g3'))
  obtain ⟨e0, e1⟩ := cells_two g3
  obtain ⟨e2, e3⟩ := cells_two g3'
  have hR := right_any _ p w3 W.heap.size b3.size (hpv.below b3 (Nat.le_refl _)) (ht.step b3).tree
  have HR := hid (fun w' (hb : Below w3.heap.size w3 w') => right_any _ q w' W.heap.size (Nat.le_trans b3.size hb.size) (hqv.below (b3.trans (hb.mono b3.size)) (Nat.le_refl _)) (ht.step (b3.trans (hb.mono b3.size))).tree)
  clear g1 g2 g2' g3 g3' hw1 hw2 b12 z1
  by_cases hr : rightN p = 0
  · rw [hr] at hR
    by_cases hr' : rightN q = 0
    · rw [hr'] at HR
      have HT := hid (fun w' (hb : Below w3.heap.size w3 w') => text_any_p p _ w' W.heap.size (Nat.le_trans b3.size hb.size) (hpv.below (b3.trans (hb.mono b3.size)) (Nat.le_refl _)) (ht.step (b3.trans (hb.mono b3.size))).tree (ht.step (b3.trans (hb.mono b3.size))).canon (by omega))
      have HT' := hid (fun w' (hb : Below w3.heap.size w3 w') => text_any_p q _ w' W.heap.size (Nat.le_trans b3.size hb.size) (hqv.below (b3.trans (hb.mono b3.size)) (Nat.le_refl _)) (ht.step (b3.trans (hb.mono b3.size))).tree (ht.step (b3.trans (hb.mono b3.size))).canon (by omega))
      have HE := hid (fun w' (hb : Below w3.heap.size w3 w') => equal_any _ _ p q w' W.heap.size (Nat.le_trans b3.size hb.size) (hpv.below (b3.trans (hb.mono b3.size)) (Nat.le_refl _)) (hqv.below (b3.trans (hb.mono b3.size)) (Nat.le_refl _)))
      have e1' : textP p = p.txt := by unfold textP; rw [if_pos hr]
      have e2' : textP q = q.txt := by unfold textP; rw [if_pos hr']
      simp only [e1'] at HT
      simp only [e2'] at HT'
      obtain ⟨ts, hl, _⟩ := txt_lex hr
      obtain ⟨B, hB⟩ : ∃ B, baL p.txt = B := ⟨_, rfl⟩
      obtain ⟨B', hB'⟩ : ∃ B, baL q.txt = B := ⟨_, rfl⟩
      have hlB : lexS 0 B.data.toList = .ok ts := by rw [← hB]; exact hl
      have HTB := hid (fun w' (hb : Below w3.heap.size w3 w') => (hB ▸ HT.out w' hb : Calls Tryz.prog 11 #[.agg #[.slice A nf cap, .slice X nm capx]] w' fun e w'' => e = .returned (.string B) ∧ Below w'.heap.size w' w''))
      have HTB' := hid (fun w' (hb : Below w3.heap.size w3 w') => (hB' ▸ HT'.out w' hb : Calls Tryz.prog 11 #[.agg #[.slice A' nf' cap', .slice X' nm' capx']] w' fun e w'' => e = .returned (.string B') ∧ Below w'.heap.size w' w''))
      obtain ⟨E, hE⟩ : ∃ E, eqG p q = E := ⟨_, rfl⟩
      have hq : (B.toList == B'.toList) = E := by
        rw [← hE, Bool.eq_iff_iff, eqG_iff, beq_iff_eq, ByteArray.toList_eq, ByteArray.toList_eq, ← hB, ← hB']
        constructor
        · intro h
          exact txt_inj hr hr' (by omega) (by omega) h
        · rintro rfl
          rfl
      rw [hE] at HE
      have HQ := hid hq
      clear hB hB' hE hl HT HT' hr hr' hpv hqv e1' e2' hq
      go_upto_region 4 with (first
        | (go_at_call 13; ((with_reducible refine hR.mono ?_); clear hR; rintro e w4 ⟨rfl, c4⟩; obtain ⟨r2, r3⟩ := HB'.out w4 c4))
        | (go_at_call 13; ((with_reducible refine (HR.out w4 c4).mono ?_); rintro e w5 ⟨rfl, c5⟩)))
      have d5 : Below w3.heap.size w3 w5 := c4.trans (c5.mono c4.size)
      obtain ⟨s0, s1⟩ := HB.out w5 d5
      have hq1 := HTB.out w5 d5
      clear e0 e1 e2 e3 r2 r3
      go_upto_region 5 with (go_at_call 11; ((with_reducible refine hq1.mono ?_); clear hq1; rintro e w6 ⟨rfl, c6⟩))
      have d6 : Below w3.heap.size w3 w6 := d5.trans (c6.mono d5.size)
      obtain ⟨t2, t3⟩ := HB'.out w6 d6
      have hq1 := HTB'.out w6 d6
      clear s0 s1
      go_upto_region 6 with (go_at_call 11; ((with_reducible refine hq1.mono ?_); clear hq1; rintro e w7 ⟨rfl, c7⟩))
      have d7 : Below w3.heap.size w3 w7 := d6.trans (c7.mono d6.size)
      obtain ⟨u0, u1⟩ := HB.out w7 d7
      obtain ⟨u2, u3⟩ := HB'.out w7 d7
      have hq1 := HE.out w7 d7
      clear t2 t3
      have hqq := HQ.out
      have kb := run_bs
      have d7s := d7
      have HD7 := hid (b3.trans (d7.mono b3.size))
      by_cases hz : B.size ≤ 65536
      · have HL := hid (fun w => l_ok hlB B.size rfl hz w)
        obtain ⟨N, hN⟩ : ∃ N, ts.length + 1 = N := ⟨_, rfl⟩
        have hN1 : 1 ≤ N := by omega
        rw [hN] at HL
        have k1 : decide ((65536 : Int) < (B.size : Int)) = false := decide_eq_false (by omega)
        have k2 : decide ((1 : Int) ≤ (N : Int)) = true := decide_eq_true (by omega)
        clear hlB hN
        go_wp2_with (first
          | (go_at_call 15; ((with_reducible refine hq1.mono ?_); clear hq1; rintro e w8 ⟨rfl, c8⟩))
          | (go_at_call 19; ((with_reducible refine (HL.out _).mono ?_); rintro e w9 ⟨g, c, rfl, c9⟩)))
        go_ret
        exact ⟨rfl, HD7.out.trans ((c8.trans (c9.mono c8.size)).mono HD7.out.size)⟩
      · have HL := hid (fun w => l_big (s := B) B.size (by omega) w)
        have k1 : decide ((65536 : Int) < (B.size : Int)) = true := decide_eq_true (by omega)
        clear hlB
        go_wp2_with (first
          | (go_at_call 15; ((with_reducible refine hq1.mono ?_); clear hq1; rintro e w8 ⟨rfl, c8⟩))
          | (go_at_call 19; ((with_reducible refine (HL.out _).mono ?_); rintro e w9 ⟨rfl, c9⟩)))
        go_ret
        exact ⟨rfl, HD7.out.trans ((c8.trans (c9.mono c8.size)).mono HD7.out.size)⟩
    · obtain ⟨n, hn⟩ : ∃ n, rightN q = n := ⟨_, rfl⟩
      rw [hn] at HR hr'
      have k0 : (n == 0) = false := beq_eq_false_iff_ne.2 hr'
      have k1 : (n != 0) = true := bne_iff_ne.2 hr'
      clear hn hpv hqv hr
      go_wp2_with (first
        | (go_at_call 13; ((with_reducible refine hR.mono ?_); clear hR; rintro e w4 ⟨rfl, c4⟩; obtain ⟨r2, r3⟩ := HB'.out w4 c4))
        | (go_at_call 13; ((with_reducible refine (HR.out w4 c4).mono ?_); rintro e w5 ⟨rfl, c5⟩)))
      go_ret
      exact ⟨rfl, b3.trans ((c4.trans (c5.mono c4.size)).mono b3.size)⟩
  · obtain ⟨n, hn⟩ : ∃ n, rightN p = n := ⟨_, rfl⟩
    rw [hn] at hR hr
    have k0 : (n == 0) = false := beq_eq_false_iff_ne.2 hr
    have k1 : (n != 0) = true := bne_iff_ne.2 hr
    clear hn hpv hqv HR
    go_wp2_with (go_at_call 13; ((with_reducible refine hR.mono ?_); clear hR; rintro e w4 ⟨rfl, c4⟩))
    go_ret
    exact ⟨rfl, b3.trans (c4.mono b3.size)⟩
end Go.Proofs.YtppagjhmlgkamaaGreatDoor
