/-
  LabelDeep, walked.
-/
import Derived.Test.YthfcnnicpmkclaaLbL
import Derived.Test.YthfcnnicpmkclaaLbU
import Derived.Test.YthfcnnicpmkclaaReg
import Derived.Lib.MinMax
namespace Go.Proofs.Ythfcnnicpmkclaa
open Go Go.RowKit Go.Lib

abbrev nS : ByteArray := ⟨#[83]⟩
abbrev ns : ByteArray := ⟨#[115]⟩
abbrev nc : ByteArray := ⟨#[99]⟩
abbrev prS (s : ByteArray) : SS := .cons 5 no 0 (vr s) .nil .nil .nil
/-- A statement, so deep in bodies of If and While by turns. -/
def nest : Nat → SS → SS
  | 0, b => b
  | k + 1, b => .cons ((7 + k % 2 : Nat) : Int) no 0 (vr nc) (nest k b) .nil .nil
theorem nest_len (s : ByteArray) : ∀ k, (nest k (prS s)).len = 1
  | 0 => rfl
  | _ + 1 => rfl
theorem nest_tells (fs : List Fn) (b : SS) : ∀ k, (nest k b).tells fs true = b.tells fs true
  | 0 => rfl
  | k + 1 => by
    have h1 : (vr nc).tells fs = false := rfl
    have h2 : ownS true ((7 + k % 2 : Nat) : Int) no (vr nc).secs = false := by
      rcases Nat.mod_two_eq_zero_or_one k with h | h <;> rw [h] <;> rfl
    rw [nest, SS.tells, h1, h2, nest_tells fs b k]
    simp [SS.tells]
theorem nest_thin (s : ByteArray) (hs : s.size ≤ 100) : ∀ k, (nest k (prS s)).thin
  | 0 => ⟨⟨by decide, by simp [ES.len], by simp [SS.len], by simp [SS.len]⟩, ⟨⟨by omega, by simp [ES.len]⟩, trivial, trivial⟩, trivial, trivial, trivial⟩
  | k + 1 => ⟨⟨by decide, by simp [ES.len], by rw [nest_len]; decide, by simp [SS.len]⟩, ⟨⟨by decide, by simp [ES.len]⟩, trivial, trivial⟩, nest_thin s hs k, trivial, trivial⟩
theorem SS.app_tells (fs : List Fn) (pub : Bool) (m : SS) : ∀ l : SS, (l.app m).tells fs pub = (l.tells fs pub || m.tells fs pub)
  | .nil => by simp [SS.app, SS.tells]
  | .cons op s n l b e r => by rw [SS.app, SS.tells, SS.app_tells fs pub m r, SS.tells]; simp only [Bool.or_assoc]
theorem SS.app_thin {m : SS} (hm : m.thin) : ∀ {l : SS}, l.thin → (l.app m).thin
  | .nil, _ => hm
  | .cons _ _ _ _ _ _ _, ⟨h0, h1, h2, h3, hr⟩ => ⟨h0, h1, h2, h3, SS.app_thin hm hr⟩
theorem and_31 (n : Int) : ∃ N : Nat, bits BinOp.and IntKind.i64 n 31 = (N : Int) ∧ N ≤ 31 := by
  refine ⟨(BitVec.ofInt 64 n &&& BitVec.ofInt 64 31).toNat, ?_, ?_⟩
  · show IntKind.i64.wrap ((BitVec.ofInt 64 n &&& BitVec.ofInt 64 31).toNat : Int) = _
    have : (BitVec.ofInt 64 n &&& BitVec.ofInt 64 31).toNat ≤ 31 := by
      rw [BitVec.toNat_and]; exact Nat.and_le_right
    exact IntWalk.i64_in _ (by omega)
  · rw [BitVec.toNat_and]; exact Nat.and_le_right
theorem op_turn (k : Nat) : 7 + (k : Int) % 2 = ((7 + k % 2 : Nat) : Int) := by omega
abbrev nestO (op : Int) (g : Nat) (v : Value) : Obj := .cells #[.int .i64 op, .string no, .int .i64 0, .slice (some ⟨g, 0, none⟩) 1 1, v, .slice none 0 0] 42
theorem nest_step {W : World} {v : Value} {k : Nat} {s : ByteArray} (h : SV W.heap.size W v (nest k (prS s))) :
    SV ((W.alloc (nameO nc)).alloc (nestO ((7 + k % 2 : Nat) : Int) W.heap.size v)).heap.size ((W.alloc (nameO nc)).alloc (nestO ((7 + k % 2 : Nat) : Int) W.heap.size v)) (.slice (some ⟨W.heap.size + 1, 0, none⟩) 1 1) (nest (k + 1) (prS s)) := by
  have n1 := heap_alloc_new W (nameO nc)
  have n2 := heap_alloc_new (W.alloc (nameO nc)) (nestO ((7 + k % 2 : Nat) : Int) W.heap.size v)
  rw [World.size_alloc] at n2
  have hb : Below W.heap.size W ((W.alloc (nameO nc)).alloc (nestO ((7 + k % 2 : Nat) : Int) W.heap.size v)) := ((Below.refl _ _).alloc (Nat.le_refl _) _).alloc (by simp) _
  exact sv_one n2 (ev_one (old_at n1) (ev_nil _ _) (okE_of (by decide) (by decide) (by decide))) (SV.below h hb hb.size) (sv_nil _ _) (okE_of (by omega) (by decide) (by decide))
theorem print_made {W : World} (s : ByteArray) (hs : s.size ≤ 100) : SV ((W.alloc (nameO s)).alloc (stmtO 5 no W.heap.size)).heap.size ((W.alloc (nameO s)).alloc (stmtO 5 no W.heap.size)) (.slice (some ⟨W.heap.size + 1, 0, none⟩) 1 1) (prS s) := by
  have n1 := heap_alloc_new W (nameO s)
  have n2 := heap_alloc_new (W.alloc (nameO s)) (stmtO 5 no W.heap.size)
  rw [World.size_alloc] at n2
  exact main_one n2 (old_at n1) (ev_nil _ _) (okE_of (by decide) (by decide) (by decide)) (okE_of (by decide) (by decide) (by omega))
/-- What may be appended: a list that lies there, whatever is made beside it. -/
theorem sv_src {W : World} {A : Option Addr} {n cap : Nat} {l : SS} (h : SV W.heap.size W (.slice A n cap) l) : ∃ cs, n = l.len ∧ l.Cells W.heap.size W cs ∧ cs.length = n * 6 ∧ (A = none → n = 0) ∧ ∀ W', Below W.heap.size W W' → ∀ ad, A = some ad → ∀ j u, cs[j]? = some u → W'.cell? (ad.add j) = some u := by
  obtain ⟨hn, cs, hc, hq⟩ := sv_news h
  obtain ⟨A1, cap1, e, _, _, hr⟩ := h
  injection e with e1 e2 e3
  subst e1
  refine ⟨cs, hn, hc, by rw [hc.len, hn], fun e0 => ?_, fun W' hb ad e0 j u hu => ?_⟩
  · rcases Nat.eq_zero_or_pos l.len with h0 | h0
    · omega
    · obtain ⟨b, o, e4, _⟩ := hr h0
      rw [e0] at e4; cases e4
  · have h1 := hq ad e0 j u hu
    have hlt : (ad.add j).block < W.heap.size := World.block_lt_of_cell? W _ h1
    exact (hb.cell hlt).trans h1
/-- A program of two lists. -/
theorem pgv_of {B : Nat} {W : World} {A Am : Option Addr} {nf cap nm cm : Nat} {p : Pg} (hf : FV B W (.slice A nf cap) p.fs) (hm : SV B W (.slice Am nm cm) p.m) (h1 : p.fs.length = nf) (h2 : p.m.len = nm) : PgV B W (.agg #[.slice A nf cap, .slice Am nm cm]) p := by
  subst h1; subst h2
  exact ⟨A, cap, Am, cm, rfl, hf, hm⟩
theorem pgv_made {u W : World} {k nf nm : Nat} {A X Am : Option Addr} {cap cx cm : Nat} {p : Pg} {l : SS} {x y : Value} {cs1 cs2 : List Value} (hF : Fin2 u W 42 6 k x y (.slice X (nm + 1) cx) (nm + 1) (cs1 ++ cs2))
    (hp : PgV u.heap.size u (.agg #[.slice A nf cap, .slice Am nm cm]) p) (h1 : p.m.Cells u.heap.size u cs1) (h2 : l.Cells u.heap.size u cs2) (hn : p.m.len = nm) (hl : l.len = 1) :
    PgV W.heap.size W (.agg #[.slice A nf cap, .slice X (nm + 1) cx]) ⟨p.fs, p.m.app l⟩ := by
  obtain ⟨_, _, _, _, hown, _, hb⟩ := hF
  obtain ⟨A1, c1, A2, c2, e, hf, _⟩ := hp
  injection e with e
  injection e with e
  injection e with e1 e2
  rw [e1]
  have hlen : nm + 1 = (p.m.app l).len := by rw [SS.app_len, hn, hl]
  exact pgv_of (p := ⟨p.fs, p.m.app l⟩) (FV.below hf hb hb.size) (own_sv hown (SS.Cells.app (SS.Cells.below hb hb.size h2) (SS.Cells.below hb hb.size h1)) hlen) rfl hlen.symm

set_option maxRecDepth 100000 in
set_option maxHeartbeats 8000000 in
theorem deep_walk (v : Value) (p : Pg) (n0 : Int) (w : World) (hv : PgV w.heap.size w v p) (ht : p.thin) :
    Calls Try.prog 6 #[v, .int .i64 n0] w fun e w' => e = .returned (.bool true) ∧ Fr w w' := by
  have hmx : Try.prog.follows .mixedOrders = true := by kernel_rfl
  obtain ⟨i0, hi, hz0, hz1, hz2⟩ := info_parts stmtInfo
  obtain ⟨N, hN, hN31⟩ := and_31 n0
  have HN := Lib.hid hN; clear hN
  have hv0 := hv
  obtain ⟨A, cap, Am, cm, rfl, hf, hm⟩ := hv
  have ht3 : p.m.len * 104 ≤ 140737488351232 := ht.2.1
  have HM := Lib.hid hm
  have HFS := Lib.hid hf
  have HC := Lib.hid (fun wx (h : Below w.heap.size w wx) => check_any _ p wx wx w.heap.size (Below.refl _ _) h.size (hv0.below h (Nat.le_refl _)) ht)
  have HS := Lib.hid shown_fr
  have HA := Lib.hid (fun o => Fr.alloc (Fr.refl w) o)
  have HT := Lib.hid ht
  obtain ⟨nf, hnf⟩ : ∃ nf, p.fs.length = nf := ⟨_, rfl⟩
  obtain ⟨nm, hnm⟩ : ∃ nm, p.m.len = nm := ⟨_, rfl⟩
  rw [hnf, hnm] at HC ⊢
  rw [hnf] at HFS
  rw [hnm] at HM ht3
  have HNF := Lib.hid hnf
  have HNM := Lib.hid hnm
  clear hv0 hf hm hnf hnm ht
  obtain ⟨er, her⟩ : ∃ x, errOf p.tells = x := ⟨_, rfl⟩
  rw [her] at HC
  have HER := Lib.hid her
  clear her
  go_enter Try.func6, Try.ntmps6
  go_upto_region 3 with (go_at_call 10; ((with_reducible refine (HS.out _).mono ?_); rintro e w1 ⟨rfl, hf1⟩))
  rw [HN.out]
  have q0 := (hf1.block w.heap.size (by simp only [World.size_alloc]; omega)).trans (heap_alloc_new w _)
  have f1 : Below w.heap.size w w1 := (HA.out _).step hf1
  obtain ⟨x0, x1⟩ := box2 q0
  have HQ := Lib.hid q0
  have HF1 := Lib.hid f1
  clear hf1 q0 f1 HA HS HN
  go_upto_region 6 with (first
    | (go_at_call 11; ((with_reducible refine (HC.out _ HF1.out).mono ?_); rintro e w2 ⟨rfl, hb2⟩))
    | (go_at_call 18; ((with_reducible refine (name_any ⟨#[83]⟩ _).mono ?_); rintro e w3 ⟨rfl, hb3⟩))
    | (go_at_call 18; ((with_reducible refine (name_any ⟨#[115]⟩ _).mono ?_); rintro e w4 ⟨rfl, hb4⟩)))
  have P1 := print_made (W := w3) nS (by decide)
  have P2 := print_made (W := w4) ns (by decide)
  have hbB : Below w1.heap.size w1 ((w4.alloc (nameO ns)).alloc (stmtO 5 no w4.heap.size)) := by
    have s2 := hb2.size
    have s3 := hb3.size
    have s4 := hb4.size
    simp only [World.size_alloc] at s4
    exact (((hb2.trans (hb3.mono s2)).alloc (by omega) _).alloc (by simp only [World.size_alloc]; omega) _).trans (hb4.mono (by simp only [World.size_alloc]; omega)) |>.alloc (by omega) _ |>.alloc (by simp only [World.size_alloc]; omega) _
  have P1' : SV ((w4.alloc (nameO ns)).alloc (stmtO 5 no w4.heap.size)).heap.size ((w4.alloc (nameO ns)).alloc (stmtO 5 no w4.heap.size)) (.slice (some ⟨w3.heap.size + 1, 0, none⟩) 1 1) (prS nS) := by
    have hb5 : Below ((w3.alloc (nameO nS)).alloc (stmtO 5 no w3.heap.size)).heap.size ((w3.alloc (nameO nS)).alloc (stmtO 5 no w3.heap.size)) ((w4.alloc (nameO ns)).alloc (stmtO 5 no w4.heap.size)) := (hb4.alloc hb4.size _).alloc (Nat.le_trans hb4.size (by simp)) _
    exact SV.below P1 hb5 hb5.size
  obtain ⟨gb, hgb⟩ : ∃ g, w3.heap.size + 1 = g := ⟨_, rfl⟩
  rw [hgb] at P1' ⊢
  obtain ⟨wB, hwB⟩ : ∃ W, (w4.alloc (nameO ns)).alloc (stmtO 5 no w4.heap.size) = W := ⟨_, rfl⟩
  rw [hwB] at P1' P2 hbB ⊢
  obtain ⟨gg, hgg⟩ : ∃ g, w4.heap.size + 1 = g := ⟨_, rfl⟩
  rw [hgg] at P2 ⊢
  clear P1 hgb hwB hgg hb2 hb3 hb4 x0 x1
  have HP1 := Lib.hid P1'
  have HP2 := Lib.hid P2
  have HBB := Lib.hid hbB
  clear P1' P2 hbB
  go_wp2
  go_loopw [7, 8, 9] (fun vb vg i wr => ∃ (k g1 g2 : Nat), i = .int .i64 k ∧ k ≤ N ∧ vb = .slice (some ⟨g1, 0, none⟩) 1 1 ∧ vg = .slice (some ⟨g2, 0, none⟩) 1 1 ∧ SV wr.heap.size wr vb (nest k (prS nS)) ∧ SV wr.heap.size wr vg (nest k (prS ns)) ∧ Below w1.heap.size w1 wr) (fun _ _ i _ => N - (intOf i).toNat)
  case atStart => exact ⟨0, gb, gg, rfl, Nat.zero_le _, rfl, rfl, HP1.out, HP2.out, HBB.out⟩
  case round =>
    obtain ⟨k, g1, g2, rfl, hk, rfl, rfl, hvb, hvg, hbl⟩ := hrel
    have HVB := Lib.hid hvb
    have HVG := Lib.hid hvg
    have HBL := Lib.hid hbl
    clear hvb hvg hbl
    by_cases hkN : k < N
    · have HOP := Lib.hid (op_turn k)
      go_upto_region 10 with fail
      rw [HOP.out]
      go_wp2_with (first
        | (go_at_call 18; ((with_reducible refine (name_any ⟨#[99]⟩ wr).mono ?_); rintro e w5 ⟨rfl, hb5⟩))
        | (go_at_call 18; ((with_reducible refine (name_any ⟨#[99]⟩ _).mono ?_); rintro e w6 ⟨rfl, hb6⟩)))
      go_roundw
      case rel =>
        have h5 := nest_step (SV.below HVB.out hb5 hb5.size)
        have h6 := SV.below h5 hb6 hb6.size
        have s5 := hb5.size
        have hb56 : Below wr.heap.size wr w6 := ((hb5.alloc hb5.size _).alloc (by rw [World.size_alloc]; omega) _).trans (hb6.mono (by simp only [World.size_alloc]; omega))
        have h7 := nest_step (SV.below HVG.out hb56 hb56.size)
        have hb7 : Below w6.heap.size w6 ((w6.alloc (nameO nc)).alloc (nestO ((7 + k % 2 : Nat) : Int) w6.heap.size (.slice (some ⟨g2, 0, none⟩) 1 1))) := ((Below.refl _ _).alloc (Nat.le_refl _) _).alloc (by simp) _
        exact ⟨k + 1, _, _, by go_num, by omega, rfl, rfl, SV.below h6 hb7 hb7.size, h7, HBL.out.trans ((hb56.trans (hb7.mono hb56.size)).mono HBL.out.size)⟩
      case measure => simp [intOf]; omega
    · obtain rfl : k = N := by omega
      have hbw := HF1.out.trans (HBL.out.mono HF1.out.size)
      have hmr := SV.below HM.out hbw hbw.size
      have hfr := FV.below HFS.out hbw hbw.size
      obtain ⟨csM, hnM, hcM, hlM, hAM, hatM⟩ := sv_src hmr
      obtain ⟨csB, hnB, hcB, hlB, _, hatB⟩ := sv_src HVB.out
      have HBX := Lib.hid (fun W' (h : Below wr.heap.size wr W') => box2 ((h.block _ (lt_heap ((HBL.out.block _ (lt_heap HQ.out)).trans HQ.out))).trans ((HBL.out.block _ (lt_heap HQ.out)).trans HQ.out)))
      have HAM := Lib.hid hAM
      have HATM := Lib.hid hatM
      have HATB := Lib.hid hatB
      have HLM := Lib.hid hlM
      have HLB := Lib.hid hlB
      have HOM := Lib.hid hcM.one
      have HOB := Lib.hid hcB.one
      have HCM := Lib.hid hcM
      have HCB := Lib.hid hcB
      have HBW := Lib.hid hbw
      have HPV := Lib.hid (pgv_of hfr hmr HNF.out HNM.out)
      clear hAM hatM hatB hlM hlB hcM hcB hbw hmr hfr hnB hnM
      go_upto_region 12 with fail
      go_cut [11] (fun v wx => ∃ (k : Nat) (A2 : Option Addr) (c2 : Nat), v = .pointer (some ⟨k, 0, none⟩) ∧ Fin2 wr wx 42 6 k (.slice A nf cap) (.slice A2 (nm + 1) c2) (.slice A2 (nm + 1) c2) (nm + 1) (csM ++ csB))
      case first =>
        have hS0 : Below wr.heap.size wr wr.drew := belowD (Below.refl _ _)
        obtain ⟨W0, hW0⟩ : ∃ x, wr.drew = x := ⟨_, rfl⟩
        refine wp_region_late (fun w' => Below wr.heap.size wr w') 10 (by kernel_rfl) ?_
        rw [hW0] at hS0 ⊢
        clear hW0
        refine AnyL.take 0 (.pointer (some ⟨w.heap.size, 0, none⟩)) rfl (by kernel_rfl) (by kernel_rfl) (by kernel_rfl) (by kernel_rfl) (fun _ _ _ h => h) (Or.inl ⟨by rfl, ?_⟩) (by assumption) ?_
        · intro W' hSw
          obtain ⟨l0, l1⟩ := HBX.out W' hSw
          go_simp
        try simp only [Act.put, List.getElem_toArray, List.getElem_cons_zero, List.setIfInBounds_toArray, List.set_cons_zero, List.set_cons_succ]
        refine AnyL.take 1 (.slice A nf cap) rfl (by kernel_rfl) (by kernel_rfl) (by kernel_rfl) (by kernel_rfl) (fun _ _ _ h => h) (Or.inl ⟨by rfl, ?_⟩) (by assumption) ?_
        · intro W' hSw
          obtain ⟨l0, l1⟩ := HBX.out W' hSw
          go_simp
        try simp only [Act.put, List.getElem_toArray, List.getElem_cons_zero, List.getElem_cons_succ, List.setIfInBounds_toArray, List.set_cons_zero, List.set_cons_succ]
        refine AnyL.take 3 (.pointer (some ⟨w.heap.size, 1, none⟩)) rfl (by kernel_rfl) (by kernel_rfl) (by kernel_rfl) (by kernel_rfl) (fun _ _ _ h => h) (Or.inl ⟨by rfl, ?_⟩) (by assumption) ?_
        · intro W' hSw
          obtain ⟨l0, l1⟩ := HBX.out W' hSw
          go_simp
        try simp only [Act.put, List.getElem_toArray, List.getElem_cons_zero, List.getElem_cons_succ, List.setIfInBounds_toArray, List.set_cons_zero, List.set_cons_succ]
        refine AnyL.take 4 (.slice Am nm cm) rfl (by kernel_rfl) (by kernel_rfl) (by kernel_rfl) (by kernel_rfl) (fun _ _ _ h => h) (Or.inl ⟨by rfl, ?_⟩) (by assumption) ?_
        · intro W' hSw
          obtain ⟨l0, l1⟩ := HBX.out W' hSw
          go_simp
        try simp only [Act.put, List.getElem_toArray, List.getElem_cons_zero, List.getElem_cons_succ, List.setIfInBounds_toArray, List.set_cons_zero, List.set_cons_succ]
        refine AnyL.take 6 (.slice (some ⟨g1, 0, none⟩) 1 1) rfl (by kernel_rfl) (by kernel_rfl) (by kernel_rfl) (by kernel_rfl) (fun _ _ _ h => h) (Or.inl ⟨by rfl, ?_⟩) (by assumption) ?_
        · intro W' hSw
          obtain ⟨l0, l1⟩ := HBX.out W' hSw
          go_simp
        try simp only [Act.put, List.getElem_toArray, List.getElem_cons_zero, List.getElem_cons_succ, List.setIfInBounds_toArray, List.set_cons_zero, List.set_cons_succ]
        refine AnyL.both 2 9 (by kernel_rfl) rfl rfl (fun K hK => ?_) (fun K hK => ?_)
        · skip
          go_simp
          have ba1 := belowA hS0 (.cells #[] 42)
          have oa1 := made_in (e := 42) (size := 6) (rfl : W0.heap.size = W0.heap.size) hS0.size
          obtain ⟨Wa1, hwa1⟩ : ∃ x, W0.alloc (.cells #[] 42) = x := ⟨_, rfl⟩
          rw [hwa1] at ba1 oa1 ⊢
          clear hwa1
          obtain ⟨ga1, hga1⟩ : ∃ x, W0.heap.size = x := ⟨_, rfl⟩
          rw [hga1] at oa1 ⊢
          refine hK.out _ _ (fun _ => ba1) ?_
          clear hK K
          try simp only [Act.put, List.getElem_toArray, List.getElem_cons_zero, List.getElem_cons_succ, List.setIfInBounds_toArray, List.set_cons_zero, List.set_cons_succ]
          refine AnyL.both 5 9 (by kernel_rfl) rfl rfl (fun K hK => ?_) (fun K hK => ?_)
          · skip
            refine step_append_own rfl (.tmp 48) (.tmp 50) 23 rfl wr.heap.size 42 i0 _ 6 104 Try.underlying23 hi hz0 hz1 hz2 rfl (by decide) (.slice (some ⟨ga1, 0, none⟩) 0 0) (0) ([]) rfl oa1 Am nm cm csM rfl HAM.out HLM.out (HATM.out _ ba1) HOM.out (by unfold maxLen; omega) (by omega) ba1.size (fun va2 Wa2 oa2 ra2 => ?_)
            have ba2 := grown_below ba1 oa1 (Nat.le_refl _) ra2
            rw [Nat.zero_add, List.nil_append] at oa2
            obtain ⟨Xa2, ca2, rfl⟩ := own_form oa2
            refine hK.out _ _ (fun _ => ba2) ?_
            clear hK K
            try simp only [Act.put, List.getElem_toArray, List.getElem_cons_zero, List.getElem_cons_succ, List.setIfInBounds_toArray, List.set_cons_zero, List.set_cons_succ]
            refine AnyL.both 7 9 (by kernel_rfl) rfl rfl (fun K hK => ?_) (fun K hK => ?_)
            · skip
              refine step_append_own rfl (.tmp 51) (.tmp 52) 23 rfl wr.heap.size 42 i0 _ 6 104 Try.underlying23 hi hz0 hz1 hz2 rfl (by decide) (.slice Xa2 (nm) ca2) (nm) (csM) rfl oa2 (some ⟨g1, 0, none⟩) 1 1 csB rfl (fun h => by cases h) HLB.out (HATB.out _ ba2) HOB.out (by unfold maxLen; omega) (by omega) ba2.size (fun va3 Wa3 oa3 ra3 => ?_)
              have ba3 := grown_below ba2 oa2 (Nat.le_refl _) ra3
              obtain ⟨Xa3, ca3, rfl⟩ := own_form oa3
              refine hK.out _ _ (fun _ => ba3) ?_
              clear hK K
              try simp only [Act.put, List.getElem_toArray, List.getElem_cons_zero, List.getElem_cons_succ, List.setIfInBounds_toArray, List.set_cons_zero, List.set_cons_succ]
              refine AnyL.take 8 (.agg #[.slice A nf cap, .slice Xa3 (nm + 1) ca3]) rfl (by kernel_rfl) (by kernel_rfl) (by kernel_rfl) (by kernel_rfl) (fun _ _ _ h => h) (Or.inl ⟨by rfl, ?_⟩) (by assumption) ?_
              · intro W' hSw
                go_simp
              try simp only [Act.put, List.getElem_toArray, List.getElem_cons_zero, List.getElem_cons_succ, List.setIfInBounds_toArray, List.set_cons_zero, List.set_cons_succ]
              refine AnyL.next 9 (by kernel_rfl) rfl (fun K hK => ?_)
              go_simp
              have ba4 := belowA ba3 (.cells #[.slice none 0 0, .slice none 0 0] 25)
              have xa4 := heap_alloc_new Wa3 (.cells #[.slice none 0 0, .slice none 0 0] 25)
              have za4 := ba3.size
              have oa4 := oa3.alloc (.cells #[.slice none 0 0, .slice none 0 0] 25)
              obtain ⟨Wa4, hwa4⟩ : ∃ x, Wa3.alloc (.cells #[.slice none 0 0, .slice none 0 0] 25) = x := ⟨_, rfl⟩
              rw [hwa4] at ba4 xa4 oa4 ⊢
              clear hwa4
              obtain ⟨ga4, hga4⟩ : ∃ x, Wa3.heap.size = x := ⟨_, rfl⟩
              rw [hga4] at xa4 za4 ⊢
              refine hK.out _ _ (fun _ => ba4) ?_
              clear hK K
              try simp only [Act.put, List.getElem_toArray, List.getElem_cons_zero, List.getElem_cons_succ, List.setIfInBounds_toArray, List.set_cons_zero, List.set_cons_succ]
              refine AnyL.next 10 (by kernel_rfl) rfl (fun K hK => ?_)
              obtain ⟨y0, y1⟩ := box2 xa4
              have yf0 := box_frozen xa4 0
              have yf1 := box_frozen xa4 1
              go_simp
              have hF := fin_set (x := .slice A nf cap) (y := (.slice Xa3 (nm + 1) ca3)) ba4 za4 xa4 (by decide) oa4
              obtain ⟨w8, hw8⟩ : ∃ x, (Wa4.setCell ⟨ga4, 0, none⟩ (.slice A nf cap)).setCell ⟨ga4, 1, none⟩ (.slice Xa3 (nm + 1) ca3) = x := ⟨_, rfl⟩
              rw [hw8] at hF ⊢
              clear hw8
              refine hK.out _ _ (fun h => absurd rfl h) ?_
              clear hK K
              try simp only [Act.put, List.getElem_toArray, List.getElem_cons_zero, List.getElem_cons_succ, List.setIfInBounds_toArray, List.set_cons_zero, List.set_cons_succ]
              refine AnyL.done (by kernel_rfl) ?_
              go_wp2_with fail
              go_meet
              exact ⟨_, _, _, rfl, hF⟩
            · skip
              go_simp
              have ba5 := belowA ba2 (.cells #[.slice none 0 0, .slice none 0 0] 25)
              have xa5 := heap_alloc_new Wa2 (.cells #[.slice none 0 0, .slice none 0 0] 25)
              have za5 := ba2.size
              have oa5 := oa2.alloc (.cells #[.slice none 0 0, .slice none 0 0] 25)
              obtain ⟨Wa5, hwa5⟩ : ∃ x, Wa2.alloc (.cells #[.slice none 0 0, .slice none 0 0] 25) = x := ⟨_, rfl⟩
              rw [hwa5] at ba5 xa5 oa5 ⊢
              clear hwa5
              obtain ⟨ga5, hga5⟩ : ∃ x, Wa2.heap.size = x := ⟨_, rfl⟩
              rw [hga5] at xa5 za5 ⊢
              refine hK.out _ _ (fun _ => ba5) ?_
              clear hK K
              try simp only [Act.put, List.getElem_toArray, List.getElem_cons_zero, List.getElem_cons_succ, List.setIfInBounds_toArray, List.set_cons_zero, List.set_cons_succ]
              refine AnyL.next 7 (by kernel_rfl) rfl (fun K hK => ?_)
              refine step_append_own rfl (.tmp 51) (.tmp 52) 23 rfl wr.heap.size 42 i0 _ 6 104 Try.underlying23 hi hz0 hz1 hz2 rfl (by decide) (.slice Xa2 (nm) ca2) (nm) (csM) rfl oa5 (some ⟨g1, 0, none⟩) 1 1 csB rfl (fun h => by cases h) HLB.out (HATB.out _ ba5) HOB.out (by unfold maxLen; omega) (by omega) ba5.size (fun va6 Wa6 oa6 ra6 => ?_)
              have ba6 := grown_below ba5 oa5 (Nat.le_refl _) ra6
              have xa6 := blk_grown_own oa5 ra6 xa5 (by decide)
              obtain ⟨Xa6, ca6, rfl⟩ := own_form oa6
              refine hK.out _ _ (fun _ => ba6) ?_
              clear hK K
              try simp only [Act.put, List.getElem_toArray, List.getElem_cons_zero, List.getElem_cons_succ, List.setIfInBounds_toArray, List.set_cons_zero, List.set_cons_succ]
              refine AnyL.take 8 (.agg #[.slice A nf cap, .slice Xa6 (nm + 1) ca6]) rfl (by kernel_rfl) (by kernel_rfl) (by kernel_rfl) (by kernel_rfl) (fun _ _ _ h => h) (Or.inl ⟨by rfl, ?_⟩) (by assumption) ?_
              · intro W' hSw
                go_simp
              try simp only [Act.put, List.getElem_toArray, List.getElem_cons_zero, List.getElem_cons_succ, List.setIfInBounds_toArray, List.set_cons_zero, List.set_cons_succ]
              refine AnyL.next 10 (by kernel_rfl) rfl (fun K hK => ?_)
              obtain ⟨y0, y1⟩ := box2 xa6
              have yf0 := box_frozen xa6 0
              have yf1 := box_frozen xa6 1
              go_simp
              have hF := fin_set (x := .slice A nf cap) (y := (.slice Xa6 (nm + 1) ca6)) ba6 za5 xa6 (by decide) oa6
              obtain ⟨w8, hw8⟩ : ∃ x, (Wa6.setCell ⟨ga5, 0, none⟩ (.slice A nf cap)).setCell ⟨ga5, 1, none⟩ (.slice Xa6 (nm + 1) ca6) = x := ⟨_, rfl⟩
              rw [hw8] at hF ⊢
              clear hw8
              refine hK.out _ _ (fun h => absurd rfl h) ?_
              clear hK K
              try simp only [Act.put, List.getElem_toArray, List.getElem_cons_zero, List.getElem_cons_succ, List.setIfInBounds_toArray, List.set_cons_zero, List.set_cons_succ]
              refine AnyL.done (by kernel_rfl) ?_
              go_wp2_with fail
              go_meet
              exact ⟨_, _, _, rfl, hF⟩
          · skip
            go_simp
            have ba7 := belowA ba1 (.cells #[.slice none 0 0, .slice none 0 0] 25)
            have xa7 := heap_alloc_new Wa1 (.cells #[.slice none 0 0, .slice none 0 0] 25)
            have za7 := ba1.size
            have oa7 := oa1.alloc (.cells #[.slice none 0 0, .slice none 0 0] 25)
            obtain ⟨Wa7, hwa7⟩ : ∃ x, Wa1.alloc (.cells #[.slice none 0 0, .slice none 0 0] 25) = x := ⟨_, rfl⟩
            rw [hwa7] at ba7 xa7 oa7 ⊢
            clear hwa7
            obtain ⟨ga7, hga7⟩ : ∃ x, Wa1.heap.size = x := ⟨_, rfl⟩
            rw [hga7] at xa7 za7 ⊢
            refine hK.out _ _ (fun _ => ba7) ?_
            clear hK K
            try simp only [Act.put, List.getElem_toArray, List.getElem_cons_zero, List.getElem_cons_succ, List.setIfInBounds_toArray, List.set_cons_zero, List.set_cons_succ]
            refine AnyL.next 5 (by kernel_rfl) rfl (fun K hK => ?_)
            refine step_append_own rfl (.tmp 48) (.tmp 50) 23 rfl wr.heap.size 42 i0 _ 6 104 Try.underlying23 hi hz0 hz1 hz2 rfl (by decide) (.slice (some ⟨ga1, 0, none⟩) 0 0) (0) ([]) rfl oa7 Am nm cm csM rfl HAM.out HLM.out (HATM.out _ ba7) HOM.out (by unfold maxLen; omega) (by omega) ba7.size (fun va8 Wa8 oa8 ra8 => ?_)
            have ba8 := grown_below ba7 oa7 (Nat.le_refl _) ra8
            have xa8 := blk_grown_own oa7 ra8 xa7 (by decide)
            rw [Nat.zero_add, List.nil_append] at oa8
            obtain ⟨Xa8, ca8, rfl⟩ := own_form oa8
            refine hK.out _ _ (fun _ => ba8) ?_
            clear hK K
            try simp only [Act.put, List.getElem_toArray, List.getElem_cons_zero, List.getElem_cons_succ, List.setIfInBounds_toArray, List.set_cons_zero, List.set_cons_succ]
            refine AnyL.next 7 (by kernel_rfl) rfl (fun K hK => ?_)
            refine step_append_own rfl (.tmp 51) (.tmp 52) 23 rfl wr.heap.size 42 i0 _ 6 104 Try.underlying23 hi hz0 hz1 hz2 rfl (by decide) (.slice Xa8 (nm) ca8) (nm) (csM) rfl oa8 (some ⟨g1, 0, none⟩) 1 1 csB rfl (fun h => by cases h) HLB.out (HATB.out _ ba8) HOB.out (by unfold maxLen; omega) (by omega) ba8.size (fun va9 Wa9 oa9 ra9 => ?_)
            have ba9 := grown_below ba8 oa8 (Nat.le_refl _) ra9
            have xa9 := blk_grown_own oa8 ra9 xa8 (by decide)
            obtain ⟨Xa9, ca9, rfl⟩ := own_form oa9
            refine hK.out _ _ (fun _ => ba9) ?_
            clear hK K
            try simp only [Act.put, List.getElem_toArray, List.getElem_cons_zero, List.getElem_cons_succ, List.setIfInBounds_toArray, List.set_cons_zero, List.set_cons_succ]
            refine AnyL.take 8 (.agg #[.slice A nf cap, .slice Xa9 (nm + 1) ca9]) rfl (by kernel_rfl) (by kernel_rfl) (by kernel_rfl) (by kernel_rfl) (fun _ _ _ h => h) (Or.inl ⟨by rfl, ?_⟩) (by assumption) ?_
            · intro W' hSw
              go_simp
            try simp only [Act.put, List.getElem_toArray, List.getElem_cons_zero, List.getElem_cons_succ, List.setIfInBounds_toArray, List.set_cons_zero, List.set_cons_succ]
            refine AnyL.next 10 (by kernel_rfl) rfl (fun K hK => ?_)
            obtain ⟨y0, y1⟩ := box2 xa9
            have yf0 := box_frozen xa9 0
            have yf1 := box_frozen xa9 1
            go_simp
            have hF := fin_set (x := .slice A nf cap) (y := (.slice Xa9 (nm + 1) ca9)) ba9 za7 xa9 (by decide) oa9
            obtain ⟨w8, hw8⟩ : ∃ x, (Wa9.setCell ⟨ga7, 0, none⟩ (.slice A nf cap)).setCell ⟨ga7, 1, none⟩ (.slice Xa9 (nm + 1) ca9) = x := ⟨_, rfl⟩
            rw [hw8] at hF ⊢
            clear hw8
            refine hK.out _ _ (fun h => absurd rfl h) ?_
            clear hK K
            try simp only [Act.put, List.getElem_toArray, List.getElem_cons_zero, List.getElem_cons_succ, List.setIfInBounds_toArray, List.set_cons_zero, List.set_cons_succ]
            refine AnyL.done (by kernel_rfl) ?_
            go_wp2_with fail
            go_meet
            exact ⟨_, _, _, rfl, hF⟩
        · skip
          go_simp
          have ba10 := belowA hS0 (.cells #[.slice none 0 0, .slice none 0 0] 25)
          have xa10 := heap_alloc_new W0 (.cells #[.slice none 0 0, .slice none 0 0] 25)
          have za10 := hS0.size
          obtain ⟨Wa10, hwa10⟩ : ∃ x, W0.alloc (.cells #[.slice none 0 0, .slice none 0 0] 25) = x := ⟨_, rfl⟩
          rw [hwa10] at ba10 xa10 ⊢
          clear hwa10
          obtain ⟨ga10, hga10⟩ : ∃ x, W0.heap.size = x := ⟨_, rfl⟩
          rw [hga10] at xa10 za10 ⊢
          refine hK.out _ _ (fun _ => ba10) ?_
          clear hK K
          try simp only [Act.put, List.getElem_toArray, List.getElem_cons_zero, List.getElem_cons_succ, List.setIfInBounds_toArray, List.set_cons_zero, List.set_cons_succ]
          refine AnyL.next 2 (by kernel_rfl) rfl (fun K hK => ?_)
          go_simp
          have ba11 := belowA ba10 (.cells #[] 42)
          have oa11 := made_in (e := 42) (size := 6) (rfl : Wa10.heap.size = Wa10.heap.size) ba10.size
          have xa11 := blk_alloc xa10 (.cells #[] 42)
          obtain ⟨Wa11, hwa11⟩ : ∃ x, Wa10.alloc (.cells #[] 42) = x := ⟨_, rfl⟩
          rw [hwa11] at ba11 oa11 xa11 ⊢
          clear hwa11
          obtain ⟨ga11, hga11⟩ : ∃ x, Wa10.heap.size = x := ⟨_, rfl⟩
          rw [hga11] at oa11 ⊢
          refine hK.out _ _ (fun _ => ba11) ?_
          clear hK K
          try simp only [Act.put, List.getElem_toArray, List.getElem_cons_zero, List.getElem_cons_succ, List.setIfInBounds_toArray, List.set_cons_zero, List.set_cons_succ]
          refine AnyL.next 5 (by kernel_rfl) rfl (fun K hK => ?_)
          refine step_append_own rfl (.tmp 48) (.tmp 50) 23 rfl wr.heap.size 42 i0 _ 6 104 Try.underlying23 hi hz0 hz1 hz2 rfl (by decide) (.slice (some ⟨ga11, 0, none⟩) 0 0) (0) ([]) rfl oa11 Am nm cm csM rfl HAM.out HLM.out (HATM.out _ ba11) HOM.out (by unfold maxLen; omega) (by omega) ba11.size (fun va12 Wa12 oa12 ra12 => ?_)
          have ba12 := grown_below ba11 oa11 (Nat.le_refl _) ra12
          have xa12 := blk_grown_own oa11 ra12 xa11 (by decide)
          rw [Nat.zero_add, List.nil_append] at oa12
          obtain ⟨Xa12, ca12, rfl⟩ := own_form oa12
          refine hK.out _ _ (fun _ => ba12) ?_
          clear hK K
          try simp only [Act.put, List.getElem_toArray, List.getElem_cons_zero, List.getElem_cons_succ, List.setIfInBounds_toArray, List.set_cons_zero, List.set_cons_succ]
          refine AnyL.next 7 (by kernel_rfl) rfl (fun K hK => ?_)
          refine step_append_own rfl (.tmp 51) (.tmp 52) 23 rfl wr.heap.size 42 i0 _ 6 104 Try.underlying23 hi hz0 hz1 hz2 rfl (by decide) (.slice Xa12 (nm) ca12) (nm) (csM) rfl oa12 (some ⟨g1, 0, none⟩) 1 1 csB rfl (fun h => by cases h) HLB.out (HATB.out _ ba12) HOB.out (by unfold maxLen; omega) (by omega) ba12.size (fun va13 Wa13 oa13 ra13 => ?_)
          have ba13 := grown_below ba12 oa12 (Nat.le_refl _) ra13
          have xa13 := blk_grown_own oa12 ra13 xa12 (by decide)
          obtain ⟨Xa13, ca13, rfl⟩ := own_form oa13
          refine hK.out _ _ (fun _ => ba13) ?_
          clear hK K
          try simp only [Act.put, List.getElem_toArray, List.getElem_cons_zero, List.getElem_cons_succ, List.setIfInBounds_toArray, List.set_cons_zero, List.set_cons_succ]
          refine AnyL.take 8 (.agg #[.slice A nf cap, .slice Xa13 (nm + 1) ca13]) rfl (by kernel_rfl) (by kernel_rfl) (by kernel_rfl) (by kernel_rfl) (fun _ _ _ h => h) (Or.inl ⟨by rfl, ?_⟩) (by assumption) ?_
          · intro W' hSw
            go_simp
          try simp only [Act.put, List.getElem_toArray, List.getElem_cons_zero, List.getElem_cons_succ, List.setIfInBounds_toArray, List.set_cons_zero, List.set_cons_succ]
          refine AnyL.next 10 (by kernel_rfl) rfl (fun K hK => ?_)
          obtain ⟨y0, y1⟩ := box2 xa13
          have yf0 := box_frozen xa13 0
          have yf1 := box_frozen xa13 1
          go_simp
          have hF := fin_set (x := .slice A nf cap) (y := (.slice Xa13 (nm + 1) ca13)) ba13 za10 xa13 (by decide) oa13
          obtain ⟨w8, hw8⟩ : ∃ x, (Wa13.setCell ⟨ga10, 0, none⟩ (.slice A nf cap)).setCell ⟨ga10, 1, none⟩ (.slice Xa13 (nm + 1) ca13) = x := ⟨_, rfl⟩
          rw [hw8] at hF ⊢
          clear hw8
          refine hK.out _ _ (fun h => absurd rfl h) ?_
          clear hK K
          try simp only [Act.put, List.getElem_toArray, List.getElem_cons_zero, List.getElem_cons_succ, List.setIfInBounds_toArray, List.set_cons_zero, List.set_cons_succ]
          refine AnyL.done (by kernel_rfl) ?_
          go_wp2_with fail
          go_meet
          exact ⟨_, _, _, rfl, hF⟩
      case rest =>
        obtain ⟨kb, A2, c2, rfl, hF⟩ := hcut
        have hp1 := pgv_made hF HPV.out HCM.out HCB.out HNM.out (nest_len _ _)
        obtain ⟨_, hkb, yb0, yb1, _, _, e7⟩ := hF
        obtain ⟨wq, rfl⟩ : ∃ W, W = wc := ⟨_, rfl⟩
        have hbw := HBW.out.trans (e7.mono HBW.out.size)
        have hmr := SV.below HM.out hbw hbw.size
        have hfr := FV.below HFS.out hbw hbw.size
        have hgr := SV.below HVG.out e7 e7.size
        obtain ⟨csN, hnN, hcN, hlN, _, hatN⟩ := sv_src hmr
        obtain ⟨csG, hnG, hcG, hlG, _, hatG⟩ := sv_src hgr
        have HBX := Lib.hid (fun W' (h : Below wq.heap.size wq W') => HBX.out W' (e7.trans (h.mono e7.size)))
        have HATM := Lib.hid hatN
        have HATB := Lib.hid hatG
        have HLM := Lib.hid hlN
        have HLB := Lib.hid hlG
        have HOM := Lib.hid hcN.one
        have HOB := Lib.hid hcG.one
        have HCN := Lib.hid hcN
        have HCG := Lib.hid hcG
        have HBW := Lib.hid hbw
        have HPV := Lib.hid (pgv_of hfr hmr HNF.out HNM.out)
        have HP1 := Lib.hid hp1
        have HKB := Lib.hid hkb
        have HY0 := Lib.hid yb0
        have HY1 := Lib.hid yb1
        clear hatN hatG hlN hlG hcN hcG hbw hmr hfr hgr hnN hnG hp1 hkb yb0 yb1 e7
        go_upto_region 13 with fail
        go_cut [12] (fun v wx => ∃ (k : Nat) (A2 : Option Addr) (c2 : Nat), v = .pointer (some ⟨k, 0, none⟩) ∧ Fin2 wq wx 42 6 k (.slice A nf cap) (.slice A2 (nm + 1) c2) (.slice A2 (nm + 1) c2) (nm + 1) (csN ++ csG))
        case first =>
          have hS0 : Below wq.heap.size wq wq.drew := belowD (Below.refl _ _)
          obtain ⟨W0, hW0⟩ : ∃ x, wq.drew = x := ⟨_, rfl⟩
          refine wp_region_late (fun w' => Below wq.heap.size wq w') 10 (by kernel_rfl) ?_
          rw [hW0] at hS0 ⊢
          clear hW0
          refine AnyL.take 0 (.pointer (some ⟨w.heap.size, 0, none⟩)) rfl (by kernel_rfl) (by kernel_rfl) (by kernel_rfl) (by kernel_rfl) (fun _ _ _ h => h) (Or.inl ⟨by rfl, ?_⟩) (by assumption) ?_
          · intro W' hSw
            obtain ⟨l0, l1⟩ := HBX.out W' hSw
            go_simp
          try simp only [Act.put, List.getElem_toArray, List.getElem_cons_zero, List.setIfInBounds_toArray, List.set_cons_zero, List.set_cons_succ]
          refine AnyL.take 1 (.slice A nf cap) rfl (by kernel_rfl) (by kernel_rfl) (by kernel_rfl) (by kernel_rfl) (fun _ _ _ h => h) (Or.inl ⟨by rfl, ?_⟩) (by assumption) ?_
          · intro W' hSw
            obtain ⟨l0, l1⟩ := HBX.out W' hSw
            go_simp
          try simp only [Act.put, List.getElem_toArray, List.getElem_cons_zero, List.getElem_cons_succ, List.setIfInBounds_toArray, List.set_cons_zero, List.set_cons_succ]
          refine AnyL.take 3 (.pointer (some ⟨w.heap.size, 1, none⟩)) rfl (by kernel_rfl) (by kernel_rfl) (by kernel_rfl) (by kernel_rfl) (fun _ _ _ h => h) (Or.inl ⟨by rfl, ?_⟩) (by assumption) ?_
          · intro W' hSw
            obtain ⟨l0, l1⟩ := HBX.out W' hSw
            go_simp
          try simp only [Act.put, List.getElem_toArray, List.getElem_cons_zero, List.getElem_cons_succ, List.setIfInBounds_toArray, List.set_cons_zero, List.set_cons_succ]
          refine AnyL.take 4 (.slice Am nm cm) rfl (by kernel_rfl) (by kernel_rfl) (by kernel_rfl) (by kernel_rfl) (fun _ _ _ h => h) (Or.inl ⟨by rfl, ?_⟩) (by assumption) ?_
          · intro W' hSw
            obtain ⟨l0, l1⟩ := HBX.out W' hSw
            go_simp
          try simp only [Act.put, List.getElem_toArray, List.getElem_cons_zero, List.getElem_cons_succ, List.setIfInBounds_toArray, List.set_cons_zero, List.set_cons_succ]
          refine AnyL.take 6 (.slice (some ⟨g2, 0, none⟩) 1 1) rfl (by kernel_rfl) (by kernel_rfl) (by kernel_rfl) (by kernel_rfl) (fun _ _ _ h => h) (Or.inl ⟨by rfl, ?_⟩) (by assumption) ?_
          · intro W' hSw
            obtain ⟨l0, l1⟩ := HBX.out W' hSw
            go_simp
          try simp only [Act.put, List.getElem_toArray, List.getElem_cons_zero, List.getElem_cons_succ, List.setIfInBounds_toArray, List.set_cons_zero, List.set_cons_succ]
          refine AnyL.both 2 9 (by kernel_rfl) rfl rfl (fun K hK => ?_) (fun K hK => ?_)
          · skip
            go_simp
            have bb1 := belowA hS0 (.cells #[] 42)
            have ob1 := made_in (e := 42) (size := 6) (rfl : W0.heap.size = W0.heap.size) hS0.size
            obtain ⟨Wb1, hwb1⟩ : ∃ x, W0.alloc (.cells #[] 42) = x := ⟨_, rfl⟩
            rw [hwb1] at bb1 ob1 ⊢
            clear hwb1
            obtain ⟨gb1, hgb1⟩ : ∃ x, W0.heap.size = x := ⟨_, rfl⟩
            rw [hgb1] at ob1 ⊢
            refine hK.out _ _ (fun _ => bb1) ?_
            clear hK K
            try simp only [Act.put, List.getElem_toArray, List.getElem_cons_zero, List.getElem_cons_succ, List.setIfInBounds_toArray, List.set_cons_zero, List.set_cons_succ]
            refine AnyL.both 5 9 (by kernel_rfl) rfl rfl (fun K hK => ?_) (fun K hK => ?_)
            · skip
              refine step_append_own rfl (.tmp 57) (.tmp 59) 23 rfl wq.heap.size 42 i0 _ 6 104 Try.underlying23 hi hz0 hz1 hz2 rfl (by decide) (.slice (some ⟨gb1, 0, none⟩) 0 0) (0) ([]) rfl ob1 Am nm cm csN rfl HAM.out HLM.out (HATM.out _ bb1) HOM.out (by unfold maxLen; omega) (by omega) bb1.size (fun vb2 Wb2 ob2 rb2 => ?_)
              have bb2 := grown_below bb1 ob1 (Nat.le_refl _) rb2
              rw [Nat.zero_add, List.nil_append] at ob2
              obtain ⟨Xb2, cb2, rfl⟩ := own_form ob2
              refine hK.out _ _ (fun _ => bb2) ?_
              clear hK K
              try simp only [Act.put, List.getElem_toArray, List.getElem_cons_zero, List.getElem_cons_succ, List.setIfInBounds_toArray, List.set_cons_zero, List.set_cons_succ]
              refine AnyL.both 7 9 (by kernel_rfl) rfl rfl (fun K hK => ?_) (fun K hK => ?_)
              · skip
                refine step_append_own rfl (.tmp 60) (.tmp 61) 23 rfl wq.heap.size 42 i0 _ 6 104 Try.underlying23 hi hz0 hz1 hz2 rfl (by decide) (.slice Xb2 (nm) cb2) (nm) (csN) rfl ob2 (some ⟨g2, 0, none⟩) 1 1 csG rfl (fun h => by cases h) HLB.out (HATB.out _ bb2) HOB.out (by unfold maxLen; omega) (by omega) bb2.size (fun vb3 Wb3 ob3 rb3 => ?_)
                have bb3 := grown_below bb2 ob2 (Nat.le_refl _) rb3
                obtain ⟨Xb3, cb3, rfl⟩ := own_form ob3
                refine hK.out _ _ (fun _ => bb3) ?_
                clear hK K
                try simp only [Act.put, List.getElem_toArray, List.getElem_cons_zero, List.getElem_cons_succ, List.setIfInBounds_toArray, List.set_cons_zero, List.set_cons_succ]
                refine AnyL.take 8 (.agg #[.slice A nf cap, .slice Xb3 (nm + 1) cb3]) rfl (by kernel_rfl) (by kernel_rfl) (by kernel_rfl) (by kernel_rfl) (fun _ _ _ h => h) (Or.inl ⟨by rfl, ?_⟩) (by assumption) ?_
                · intro W' hSw
                  go_simp
                try simp only [Act.put, List.getElem_toArray, List.getElem_cons_zero, List.getElem_cons_succ, List.setIfInBounds_toArray, List.set_cons_zero, List.set_cons_succ]
                refine AnyL.next 9 (by kernel_rfl) rfl (fun K hK => ?_)
                go_simp
                have bb4 := belowA bb3 (.cells #[.slice none 0 0, .slice none 0 0] 25)
                have xb4 := heap_alloc_new Wb3 (.cells #[.slice none 0 0, .slice none 0 0] 25)
                have zb4 := bb3.size
                have ob4 := ob3.alloc (.cells #[.slice none 0 0, .slice none 0 0] 25)
                obtain ⟨Wb4, hwb4⟩ : ∃ x, Wb3.alloc (.cells #[.slice none 0 0, .slice none 0 0] 25) = x := ⟨_, rfl⟩
                rw [hwb4] at bb4 xb4 ob4 ⊢
                clear hwb4
                obtain ⟨gb4, hgb4⟩ : ∃ x, Wb3.heap.size = x := ⟨_, rfl⟩
                rw [hgb4] at xb4 zb4 ⊢
                refine hK.out _ _ (fun _ => bb4) ?_
                clear hK K
                try simp only [Act.put, List.getElem_toArray, List.getElem_cons_zero, List.getElem_cons_succ, List.setIfInBounds_toArray, List.set_cons_zero, List.set_cons_succ]
                refine AnyL.next 10 (by kernel_rfl) rfl (fun K hK => ?_)
                obtain ⟨y0, y1⟩ := box2 xb4
                have yf0 := box_frozen xb4 0
                have yf1 := box_frozen xb4 1
                go_simp
                have hF := fin_set (x := .slice A nf cap) (y := (.slice Xb3 (nm + 1) cb3)) bb4 zb4 xb4 (by decide) ob4
                obtain ⟨w8, hw8⟩ : ∃ x, (Wb4.setCell ⟨gb4, 0, none⟩ (.slice A nf cap)).setCell ⟨gb4, 1, none⟩ (.slice Xb3 (nm + 1) cb3) = x := ⟨_, rfl⟩
                rw [hw8] at hF ⊢
                clear hw8
                refine hK.out _ _ (fun h => absurd rfl h) ?_
                clear hK K
                try simp only [Act.put, List.getElem_toArray, List.getElem_cons_zero, List.getElem_cons_succ, List.setIfInBounds_toArray, List.set_cons_zero, List.set_cons_succ]
                refine AnyL.done (by kernel_rfl) ?_
                go_wp2_with fail
                go_meet
                exact ⟨_, _, _, rfl, hF⟩
              · skip
                go_simp
                have bb5 := belowA bb2 (.cells #[.slice none 0 0, .slice none 0 0] 25)
                have xb5 := heap_alloc_new Wb2 (.cells #[.slice none 0 0, .slice none 0 0] 25)
                have zb5 := bb2.size
                have ob5 := ob2.alloc (.cells #[.slice none 0 0, .slice none 0 0] 25)
                obtain ⟨Wb5, hwb5⟩ : ∃ x, Wb2.alloc (.cells #[.slice none 0 0, .slice none 0 0] 25) = x := ⟨_, rfl⟩
                rw [hwb5] at bb5 xb5 ob5 ⊢
                clear hwb5
                obtain ⟨gb5, hgb5⟩ : ∃ x, Wb2.heap.size = x := ⟨_, rfl⟩
                rw [hgb5] at xb5 zb5 ⊢
                refine hK.out _ _ (fun _ => bb5) ?_
                clear hK K
                try simp only [Act.put, List.getElem_toArray, List.getElem_cons_zero, List.getElem_cons_succ, List.setIfInBounds_toArray, List.set_cons_zero, List.set_cons_succ]
                refine AnyL.next 7 (by kernel_rfl) rfl (fun K hK => ?_)
                refine step_append_own rfl (.tmp 60) (.tmp 61) 23 rfl wq.heap.size 42 i0 _ 6 104 Try.underlying23 hi hz0 hz1 hz2 rfl (by decide) (.slice Xb2 (nm) cb2) (nm) (csN) rfl ob5 (some ⟨g2, 0, none⟩) 1 1 csG rfl (fun h => by cases h) HLB.out (HATB.out _ bb5) HOB.out (by unfold maxLen; omega) (by omega) bb5.size (fun vb6 Wb6 ob6 rb6 => ?_)
                have bb6 := grown_below bb5 ob5 (Nat.le_refl _) rb6
                have xb6 := blk_grown_own ob5 rb6 xb5 (by decide)
                obtain ⟨Xb6, cb6, rfl⟩ := own_form ob6
                refine hK.out _ _ (fun _ => bb6) ?_
                clear hK K
                try simp only [Act.put, List.getElem_toArray, List.getElem_cons_zero, List.getElem_cons_succ, List.setIfInBounds_toArray, List.set_cons_zero, List.set_cons_succ]
                refine AnyL.take 8 (.agg #[.slice A nf cap, .slice Xb6 (nm + 1) cb6]) rfl (by kernel_rfl) (by kernel_rfl) (by kernel_rfl) (by kernel_rfl) (fun _ _ _ h => h) (Or.inl ⟨by rfl, ?_⟩) (by assumption) ?_
                · intro W' hSw
                  go_simp
                try simp only [Act.put, List.getElem_toArray, List.getElem_cons_zero, List.getElem_cons_succ, List.setIfInBounds_toArray, List.set_cons_zero, List.set_cons_succ]
                refine AnyL.next 10 (by kernel_rfl) rfl (fun K hK => ?_)
                obtain ⟨y0, y1⟩ := box2 xb6
                have yf0 := box_frozen xb6 0
                have yf1 := box_frozen xb6 1
                go_simp
                have hF := fin_set (x := .slice A nf cap) (y := (.slice Xb6 (nm + 1) cb6)) bb6 zb5 xb6 (by decide) ob6
                obtain ⟨w8, hw8⟩ : ∃ x, (Wb6.setCell ⟨gb5, 0, none⟩ (.slice A nf cap)).setCell ⟨gb5, 1, none⟩ (.slice Xb6 (nm + 1) cb6) = x := ⟨_, rfl⟩
                rw [hw8] at hF ⊢
                clear hw8
                refine hK.out _ _ (fun h => absurd rfl h) ?_
                clear hK K
                try simp only [Act.put, List.getElem_toArray, List.getElem_cons_zero, List.getElem_cons_succ, List.setIfInBounds_toArray, List.set_cons_zero, List.set_cons_succ]
                refine AnyL.done (by kernel_rfl) ?_
                go_wp2_with fail
                go_meet
                exact ⟨_, _, _, rfl, hF⟩
            · skip
              go_simp
              have bb7 := belowA bb1 (.cells #[.slice none 0 0, .slice none 0 0] 25)
              have xb7 := heap_alloc_new Wb1 (.cells #[.slice none 0 0, .slice none 0 0] 25)
              have zb7 := bb1.size
              have ob7 := ob1.alloc (.cells #[.slice none 0 0, .slice none 0 0] 25)
              obtain ⟨Wb7, hwb7⟩ : ∃ x, Wb1.alloc (.cells #[.slice none 0 0, .slice none 0 0] 25) = x := ⟨_, rfl⟩
              rw [hwb7] at bb7 xb7 ob7 ⊢
              clear hwb7
              obtain ⟨gb7, hgb7⟩ : ∃ x, Wb1.heap.size = x := ⟨_, rfl⟩
              rw [hgb7] at xb7 zb7 ⊢
              refine hK.out _ _ (fun _ => bb7) ?_
              clear hK K
              try simp only [Act.put, List.getElem_toArray, List.getElem_cons_zero, List.getElem_cons_succ, List.setIfInBounds_toArray, List.set_cons_zero, List.set_cons_succ]
              refine AnyL.next 5 (by kernel_rfl) rfl (fun K hK => ?_)
              refine step_append_own rfl (.tmp 57) (.tmp 59) 23 rfl wq.heap.size 42 i0 _ 6 104 Try.underlying23 hi hz0 hz1 hz2 rfl (by decide) (.slice (some ⟨gb1, 0, none⟩) 0 0) (0) ([]) rfl ob7 Am nm cm csN rfl HAM.out HLM.out (HATM.out _ bb7) HOM.out (by unfold maxLen; omega) (by omega) bb7.size (fun vb8 Wb8 ob8 rb8 => ?_)
              have bb8 := grown_below bb7 ob7 (Nat.le_refl _) rb8
              have xb8 := blk_grown_own ob7 rb8 xb7 (by decide)
              rw [Nat.zero_add, List.nil_append] at ob8
              obtain ⟨Xb8, cb8, rfl⟩ := own_form ob8
              refine hK.out _ _ (fun _ => bb8) ?_
              clear hK K
              try simp only [Act.put, List.getElem_toArray, List.getElem_cons_zero, List.getElem_cons_succ, List.setIfInBounds_toArray, List.set_cons_zero, List.set_cons_succ]
              refine AnyL.next 7 (by kernel_rfl) rfl (fun K hK => ?_)
              refine step_append_own rfl (.tmp 60) (.tmp 61) 23 rfl wq.heap.size 42 i0 _ 6 104 Try.underlying23 hi hz0 hz1 hz2 rfl (by decide) (.slice Xb8 (nm) cb8) (nm) (csN) rfl ob8 (some ⟨g2, 0, none⟩) 1 1 csG rfl (fun h => by cases h) HLB.out (HATB.out _ bb8) HOB.out (by unfold maxLen; omega) (by omega) bb8.size (fun vb9 Wb9 ob9 rb9 => ?_)
              have bb9 := grown_below bb8 ob8 (Nat.le_refl _) rb9
              have xb9 := blk_grown_own ob8 rb9 xb8 (by decide)
              obtain ⟨Xb9, cb9, rfl⟩ := own_form ob9
              refine hK.out _ _ (fun _ => bb9) ?_
              clear hK K
              try simp only [Act.put, List.getElem_toArray, List.getElem_cons_zero, List.getElem_cons_succ, List.setIfInBounds_toArray, List.set_cons_zero, List.set_cons_succ]
              refine AnyL.take 8 (.agg #[.slice A nf cap, .slice Xb9 (nm + 1) cb9]) rfl (by kernel_rfl) (by kernel_rfl) (by kernel_rfl) (by kernel_rfl) (fun _ _ _ h => h) (Or.inl ⟨by rfl, ?_⟩) (by assumption) ?_
              · intro W' hSw
                go_simp
              try simp only [Act.put, List.getElem_toArray, List.getElem_cons_zero, List.getElem_cons_succ, List.setIfInBounds_toArray, List.set_cons_zero, List.set_cons_succ]
              refine AnyL.next 10 (by kernel_rfl) rfl (fun K hK => ?_)
              obtain ⟨y0, y1⟩ := box2 xb9
              have yf0 := box_frozen xb9 0
              have yf1 := box_frozen xb9 1
              go_simp
              have hF := fin_set (x := .slice A nf cap) (y := (.slice Xb9 (nm + 1) cb9)) bb9 zb7 xb9 (by decide) ob9
              obtain ⟨w8, hw8⟩ : ∃ x, (Wb9.setCell ⟨gb7, 0, none⟩ (.slice A nf cap)).setCell ⟨gb7, 1, none⟩ (.slice Xb9 (nm + 1) cb9) = x := ⟨_, rfl⟩
              rw [hw8] at hF ⊢
              clear hw8
              refine hK.out _ _ (fun h => absurd rfl h) ?_
              clear hK K
              try simp only [Act.put, List.getElem_toArray, List.getElem_cons_zero, List.getElem_cons_succ, List.setIfInBounds_toArray, List.set_cons_zero, List.set_cons_succ]
              refine AnyL.done (by kernel_rfl) ?_
              go_wp2_with fail
              go_meet
              exact ⟨_, _, _, rfl, hF⟩
          · skip
            go_simp
            have bb10 := belowA hS0 (.cells #[.slice none 0 0, .slice none 0 0] 25)
            have xb10 := heap_alloc_new W0 (.cells #[.slice none 0 0, .slice none 0 0] 25)
            have zb10 := hS0.size
            obtain ⟨Wb10, hwb10⟩ : ∃ x, W0.alloc (.cells #[.slice none 0 0, .slice none 0 0] 25) = x := ⟨_, rfl⟩
            rw [hwb10] at bb10 xb10 ⊢
            clear hwb10
            obtain ⟨gb10, hgb10⟩ : ∃ x, W0.heap.size = x := ⟨_, rfl⟩
            rw [hgb10] at xb10 zb10 ⊢
            refine hK.out _ _ (fun _ => bb10) ?_
            clear hK K
            try simp only [Act.put, List.getElem_toArray, List.getElem_cons_zero, List.getElem_cons_succ, List.setIfInBounds_toArray, List.set_cons_zero, List.set_cons_succ]
            refine AnyL.next 2 (by kernel_rfl) rfl (fun K hK => ?_)
            go_simp
            have bb11 := belowA bb10 (.cells #[] 42)
            have ob11 := made_in (e := 42) (size := 6) (rfl : Wb10.heap.size = Wb10.heap.size) bb10.size
            have xb11 := blk_alloc xb10 (.cells #[] 42)
            obtain ⟨Wb11, hwb11⟩ : ∃ x, Wb10.alloc (.cells #[] 42) = x := ⟨_, rfl⟩
            rw [hwb11] at bb11 ob11 xb11 ⊢
            clear hwb11
            obtain ⟨gb11, hgb11⟩ : ∃ x, Wb10.heap.size = x := ⟨_, rfl⟩
            rw [hgb11] at ob11 ⊢
            refine hK.out _ _ (fun _ => bb11) ?_
            clear hK K
            try simp only [Act.put, List.getElem_toArray, List.getElem_cons_zero, List.getElem_cons_succ, List.setIfInBounds_toArray, List.set_cons_zero, List.set_cons_succ]
            refine AnyL.next 5 (by kernel_rfl) rfl (fun K hK => ?_)
            refine step_append_own rfl (.tmp 57) (.tmp 59) 23 rfl wq.heap.size 42 i0 _ 6 104 Try.underlying23 hi hz0 hz1 hz2 rfl (by decide) (.slice (some ⟨gb11, 0, none⟩) 0 0) (0) ([]) rfl ob11 Am nm cm csN rfl HAM.out HLM.out (HATM.out _ bb11) HOM.out (by unfold maxLen; omega) (by omega) bb11.size (fun vb12 Wb12 ob12 rb12 => ?_)
            have bb12 := grown_below bb11 ob11 (Nat.le_refl _) rb12
            have xb12 := blk_grown_own ob11 rb12 xb11 (by decide)
            rw [Nat.zero_add, List.nil_append] at ob12
            obtain ⟨Xb12, cb12, rfl⟩ := own_form ob12
            refine hK.out _ _ (fun _ => bb12) ?_
            clear hK K
            try simp only [Act.put, List.getElem_toArray, List.getElem_cons_zero, List.getElem_cons_succ, List.setIfInBounds_toArray, List.set_cons_zero, List.set_cons_succ]
            refine AnyL.next 7 (by kernel_rfl) rfl (fun K hK => ?_)
            refine step_append_own rfl (.tmp 60) (.tmp 61) 23 rfl wq.heap.size 42 i0 _ 6 104 Try.underlying23 hi hz0 hz1 hz2 rfl (by decide) (.slice Xb12 (nm) cb12) (nm) (csN) rfl ob12 (some ⟨g2, 0, none⟩) 1 1 csG rfl (fun h => by cases h) HLB.out (HATB.out _ bb12) HOB.out (by unfold maxLen; omega) (by omega) bb12.size (fun vb13 Wb13 ob13 rb13 => ?_)
            have bb13 := grown_below bb12 ob12 (Nat.le_refl _) rb13
            have xb13 := blk_grown_own ob12 rb13 xb12 (by decide)
            obtain ⟨Xb13, cb13, rfl⟩ := own_form ob13
            refine hK.out _ _ (fun _ => bb13) ?_
            clear hK K
            try simp only [Act.put, List.getElem_toArray, List.getElem_cons_zero, List.getElem_cons_succ, List.setIfInBounds_toArray, List.set_cons_zero, List.set_cons_succ]
            refine AnyL.take 8 (.agg #[.slice A nf cap, .slice Xb13 (nm + 1) cb13]) rfl (by kernel_rfl) (by kernel_rfl) (by kernel_rfl) (by kernel_rfl) (fun _ _ _ h => h) (Or.inl ⟨by rfl, ?_⟩) (by assumption) ?_
            · intro W' hSw
              go_simp
            try simp only [Act.put, List.getElem_toArray, List.getElem_cons_zero, List.getElem_cons_succ, List.setIfInBounds_toArray, List.set_cons_zero, List.set_cons_succ]
            refine AnyL.next 10 (by kernel_rfl) rfl (fun K hK => ?_)
            obtain ⟨y0, y1⟩ := box2 xb13
            have yf0 := box_frozen xb13 0
            have yf1 := box_frozen xb13 1
            go_simp
            have hF := fin_set (x := .slice A nf cap) (y := (.slice Xb13 (nm + 1) cb13)) bb13 zb10 xb13 (by decide) ob13
            obtain ⟨w8, hw8⟩ : ∃ x, (Wb13.setCell ⟨gb10, 0, none⟩ (.slice A nf cap)).setCell ⟨gb10, 1, none⟩ (.slice Xb13 (nm + 1) cb13) = x := ⟨_, rfl⟩
            rw [hw8] at hF ⊢
            clear hw8
            refine hK.out _ _ (fun h => absurd rfl h) ?_
            clear hK K
            try simp only [Act.put, List.getElem_toArray, List.getElem_cons_zero, List.getElem_cons_succ, List.setIfInBounds_toArray, List.set_cons_zero, List.set_cons_succ]
            refine AnyL.done (by kernel_rfl) ?_
            go_wp2_with fail
            go_meet
            exact ⟨_, _, _, rfl, hF⟩
        case rest =>
          obtain ⟨kg, A3, c3, rfl, hG⟩ := hcut
          have hp2 := pgv_made hG HPV.out HCN.out HCG.out HNM.out (nest_len _ _)
          obtain ⟨_, hkg, z0, z1, _, _, e8⟩ := hG
          have y0 := (e8.cell (p := ⟨kb, 0, none⟩) HKB.out).trans HY0.out
          have y1 := (e8.cell (p := ⟨kb, 1, none⟩) HKB.out).trans HY1.out
          have HK := Lib.hid hkg
          have HZ0 := Lib.hid z0
          have HZ1 := Lib.hid z1
          have HBZ := Lib.hid (HBW.out.trans (e8.mono HBW.out.size))
          have tb : errOf (Pg.tells ⟨p.fs, p.m.app (nest k (prS nS))⟩) = 5 := by
            have : (prS nS).tells p.fs true = true := by simp [SS.tells, ES.tells, ES.secs, ownS, ownE, secB, greatB]
            rw [Pg.tells, SS.app_tells, nest_tells, this]; simp [errOf]
          have tg : errOf (Pg.tells ⟨p.fs, p.m.app (nest k (prS ns))⟩) = er := by
            have : (prS ns).tells p.fs true = false := by simp [SS.tells, ES.tells, ES.secs, ownS, ownE, secB, greatB]
            rw [Pg.tells, SS.app_tells, nest_tells, this, Bool.or_false, ← HER.out, Pg.tells]
          have HCB := Lib.hid (fun wx (h : Below wq.heap.size wq wx) => check_in _ _ wq wx wq.heap.size h h.size HP1.out HT.out.1.2 (SS.app_thin (nest_thin nS (by decide) k) HT.out.2.2))
          have HCG := Lib.hid (fun wx (h : Below wc.heap.size wc wx) => check_in _ _ wc wx wc.heap.size h h.size hp2 HT.out.1.2 (SS.app_thin (nest_thin ns (by decide) k) HT.out.2.2))
          rw [tb] at HCB
          rw [tg] at HCG
          have HE8 := Lib.hid e8
          clear tb tg hp2 hkg z0 z1 e8
          go_wp2_with (first
            | (go_at_call 11; ((with_reducible refine (HCB.out _ HE8.out).mono ?_); rintro e w8 ⟨rfl, hb8⟩; have u0 := (hb8.cell (p := ⟨kg, 0, none⟩) HK.out).trans HZ0.out; have u1 := (hb8.cell (p := ⟨kg, 1, none⟩) HK.out).trans HZ1.out))
            | (go_at_call 11; ((with_reducible refine (HCG.out _ hb8).mono ?_); rintro e w9 ⟨rfl, hb9⟩)))
          go_ret
          have r8 : Below w.heap.size w w8 := HBZ.out.trans (hb8.mono HBZ.out.size)
          exact ⟨rfl, Fr.step (Fr.refl w) (r8.trans (hb9.mono r8.size))⟩
end Go.Proofs.Ythfcnnicpmkclaa
