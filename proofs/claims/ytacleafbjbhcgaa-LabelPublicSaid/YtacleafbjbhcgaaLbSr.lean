/-
  LabelPublic: the walk.
-/
import Derived.Test.YtacleafbjbhcgaaLbSq
namespace Go.Proofs.Ytacleafbjbhcgaa
open Go Go.RowKit Go.Lib

/-- The outer loop: the functions that are made. -/
def SpRel (w wm : World) (A : Option Addr) (fs : List Fn) (vm : Value) (nf : Nat) (i : Value) (wr : World) : Prop :=
  ∃ (k : Nat) (pre r : List Fn) (X : Option Addr) (c : Nat) (cs : List Value), i = .int .i64 k ∧ pre.length = k ∧ fs = pre ++ r ∧ k + r.length = nf ∧ (0 < r.length → ∃ b o, A = some ⟨b, o, none⟩ ∧ b < w.heap.size ∧ FsIn w.heap.size w r b (o + k * 3)) ∧
    wr.heap[wm.heap.size]? = some (pgV2 (.slice X k c) vm) ∧ wr.ownsRow (wm.heap.size + 1) 31 3 (.slice X k c) k cs ∧ FsG (RobN (wm.heap.size + 1) (Value.ownBlock (.slice X k c)) wr) (RobS (wm.heap.size + 1) (Value.ownBlock (.slice X k c)) wr) (pre.map Fn.sm) cs ∧ Below wm.heap.size wm wr
/-- The inner loop: the parameters of one function. -/
def SqRel (w wo : World) (s : ByteArray) (A : Option Addr) (ps : List ByteArray) (np : Nat) (i : Value) (wi : World) : Prop :=
  ∃ (k : Nat) (pre r : List ByteArray) (X : Option Addr) (c : Nat), i = .int .i64 k ∧ pre.length = k ∧ ps = pre ++ r ∧ k + r.length = np ∧ (0 < r.length → ∃ b o, A = some ⟨b, o, none⟩ ∧ b < w.heap.size ∧ PsIn w r b (o + k)) ∧
    wi.heap[wo.heap.size]? = some (fnO s (.slice X k c) (.slice none 0 0)) ∧ wi.ownsRow (wo.heap.size + 1) 9 1 (.slice X k c) k ((pre.map vS).map Value.string) ∧ Below wo.heap.size wo wi

theorem small_70 (v : Value) (l : SS) (w : World) (hv : SV w.heap.size w v l) (h1 : l.len * 104 ≤ 140737488351232) (h2 : l.thin0) :
    Calls Try.prog 5 #[v, .int .i64 70] w fun e w' => (∃ v', e = .returned v' ∧ RobS w.heap.size none w' v' (l.sm 70)) ∧ Below w.heap.size w w' :=
  smallS_all (l.cnt + 1) v l 70 w (Nat.lt_succ_self _) hv h1 h2 (by decide)
set_option maxRecDepth 100000 in
set_option maxHeartbeats 8000000 in
theorem public_walk (v : Value) (p : Pg) (w : World) (hv : PgV w.heap.size w v p) (ht : p.thin0) :
    Calls Try.prog 3 #[v] w fun e w' => e = .returned (.bool true) ∧ Below w.heap.size w w' := by
  obtain ⟨A, cap, A', cap', rfl, hF, hM⟩ := hv
  obtain ⟨nf, hnf⟩ : ∃ n, p.fs.length = n := ⟨_, rfl⟩
  obtain ⟨nm, hnm⟩ : ∃ n, p.m.len = n := ⟨_, rfl⟩
  rw [hnf] at hF
  rw [hnm] at hM
  rw [hnf, hnm]
  obtain ⟨⟨htf, htF⟩, htm, htM⟩ := id ht
  obtain ⟨W1, hW1⟩ : ∃ W, w.alloc (.cells #[.slice A nf cap, .slice A' nm cap'] 25) = W := ⟨_, rfl⟩
  have hb1 : Below w.heap.size w W1 := by rw [← hW1]; exact (Below.refl _ _).alloc (Nat.le_refl _) _
  obtain ⟨n0, hn0⟩ : ∃ n, w.heap.size = n := ⟨_, rfl⟩
  have hbx1 : W1.heap[n0]? = some (.cells #[.slice A nf cap, .slice A' nm cap'] 25) := by rw [← hW1, ← hn0]; exact heap_alloc_new w _
  have hs1 : W1.heap.size = n0 + 1 := by rw [← hW1, World.size_alloc, hn0]
  have HB := Lib.hid (fun W' (h : Below W1.heap.size W1 W') => box2 ((h.block n0 (by omega)).trans hbx1))
  have HS := Lib.hid (shown_fr W1)
  have HB1 := Lib.hid hb1
  have HM := Lib.hid (fun W' (h : Below w.heap.size w W') => small_70 (.slice A' nm cap') p.m W' (hM.below h h.size) htm htM)
  have HTT := Lib.hid ht
  have HHM := Lib.hid hM
  obtain ⟨q0, q1⟩ := box2 hbx1
  have HFV := Lib.hid hF
  have HTF := Lib.hid htF
  have HNF := Lib.hid hnf
  have HNM := Lib.hid hnm
  rw [hnf] at htf
  clear hF hM ht htF htm htM hnf hnm hbx1
  go_enter Try.func3, Try.ntmps3
  go_upto_region 1 with fail
  try rw [hW1]
  try rw [hn0]
  have HN0 := Lib.hid hn0
  clear hW1 hn0
  go_upto_region 2 with (go_at_call 4; ((with_reducible refine HS.out.mono ?_); rintro e w2 ⟨rfl, b2⟩))
  have B2 : Below W1.heap.size W1 w2 := b2
  have lw2 : Below w.heap.size w w2 := HB1.out.trans (B2.mono HB1.out.size)
  have HMM := Lib.hid (HM.out w2 lw2)
  clear q0 q1 b2
  obtain ⟨q0, q1⟩ := HB.out w2 B2
  have HLW2 := Lib.hid lw2
  have HB2 := Lib.hid B2
  clear lw2 B2
  go_upto_region 3 with (go_at_call 5; ((with_reducible refine HMM.out.mono ?_); rintro e wm ⟨⟨vm, rfl, hrm⟩, hbm⟩; obtain ⟨Am, km, cm, rfl⟩ := hrm.sl))
  obtain ⟨W4, hW4⟩ : ∃ W, wm.alloc (pgV2 (.slice none 0 0) (.slice Am km cm)) = W := ⟨_, rfl⟩
  have b4 : W4.heap[wm.heap.size]? = some (pgV2 (.slice none 0 0) (.slice Am km cm)) := by rw [← hW4]; exact heap_alloc_new _ _
  have low4 : Below wm.heap.size wm W4 := by rw [← hW4]; exact (Below.refl _ _).alloc (Nat.le_refl _) _
  have lwm : Below w.heap.size w wm := HLW2.out.trans (hbm.mono HLW2.out.size)
  have l1m : Below W1.heap.size W1 wm := HB2.out.trans (hbm.mono HB2.out.size)
  have HBP := Lib.hid (fun W' (h : Below wm.heap.size wm W') => HB.out W' (l1m.trans (h.mono l1m.size)))
  have HLW := Lib.hid (fun W' (h : Below wm.heap.size wm W') => (lwm.trans (h.mono lwm.size) : Below w.heap.size w W'))
  have HRM := Lib.hid hrm
  have hmx : Try.prog.follows .mixedOrders = true := by kernel_rfl
  have sz0 : n0 < wm.heap.size := by have := l1m.size; omega
  have HST := Lib.hid (⟨0, [], p.fs, none, 0, [], rfl, rfl, rfl, by have := HNF.out; omega, fun h => by
    obtain ⟨A1, c1, e, _, _, hr⟩ := HFV.out
    injection e with e1 _ _
    subst e1
    rw [Nat.zero_mul]
    exact hr h, b4, World.ownsRow_nil _ _ _ _, rfl, low4⟩ : SpRel w wm A p.fs (.slice Am km cm) nf (.int .i64 0) W4)
  rw [hW4]
  clear hW4 b4 low4 lwm l1m hrm hbm q0 q1
  go_wp2
  go_loopw [5] (fun i wr => SpRel w wm A p.fs (.slice Am km cm) nf i wr) (fun i _ => nf - (RowKit.intOf i).toNat)
  case atStart => exact HST.out
  case round =>
    obtain ⟨k, pre, r, X, c, cs, rfl, hpk, hfs, hkr, hr1, hbx, hown, hcell, hlow⟩ := hrel
    obtain ⟨wo, rfl⟩ : ∃ W, W = wr := ⟨_, rfl⟩
    clear HST
    obtain ⟨q0, q1⟩ := HBP.out wo hlow
    have hlwo := HLW.out wo hlow
    by_cases hr0 : 0 < r.length
    · cases r with
      | nil => simp at hr0
      | cons f r =>
        obtain ⟨b, o, rfl, hb, d0, ⟨vp, d1, h1⟩, ⟨vb, d2, h2⟩, h3, hr⟩ := hr1 hr0
        obtain ⟨Ap, capp, rfl, hp2, hp3, hp4⟩ := id h1
        obtain ⟨Ab, capb, rfl, _⟩ := id h2
        obtain ⟨np, hnp⟩ : ∃ n, f.ps.length = n := ⟨_, rfl⟩
        obtain ⟨nb, hnb⟩ : ∃ n, f.b.len = n := ⟨_, rfl⟩
        obtain ⟨ts, tps, tpe, tbl, tb⟩ := HTF.out f (by rw [hfs]; simp)
        have hkf : k < nf := by simp only [List.length_cons] at hkr; omega
        have HC := Lib.hid (fun W' (h : Below w.heap.size w W') => (⟨(h.cell (p := ⟨b, o + k * 3, none⟩) hb).trans d0, hnp ▸ (h.cell (p := ⟨b, o + k * 3 + 1, none⟩) hb).trans d1, hnb ▸ (h.cell (p := ⟨b, o + k * 3 + 2, none⟩) hb).trans d2⟩ : W'.cell? ⟨b, o + k * 3, none⟩ = some (.string f.s) ∧ W'.cell? ⟨b, o + k * 3 + 1, none⟩ = some (.slice Ap np capp) ∧ W'.cell? ⟨b, o + k * 3 + 2, none⟩ = some (.slice Ab nb capb)))
        have HX := Lib.hid (fun (wz : World) (hz : Below w.heap.size w wz) => small_70 (.slice Ab nb capb) f.b wz (by rw [← hnb]; exact SV.below h2 hz hz.size) tbl tb)
        have HST2 := Lib.hid (fun (wc : World) (m2 : wc.heap[wo.heap.size]? = some (fnO (vS f.s) (.slice none 0 0) (.slice none 0 0))) (hx : Below wo.heap.size wo wc) => (⟨0, [], f.ps, none, 0, rfl, rfl, rfl, by omega, hp4, m2, World.ownsRow_nil _ _ _ _, hx⟩ : SqRel w wo (vS f.s) Ap f.ps np (.int .i64 0) wc))
        rw [hnp] at tps hp2
        obtain ⟨p0, p1, p2⟩ := HC.out wo hlwo
        have HBX := Lib.hid hbx
        have HO := Lib.hid hown
        have HCE := Lib.hid hcell
        have HLO := Lib.hid hlow
        have HPK := Lib.hid hpk
        have HFS := Lib.hid hfs
        have HKRO := Lib.hid hkr
        have HRF := Lib.hid hr
        have HH3 := Lib.hid h3
        have HTP := Lib.hid tpe
        have HNP := Lib.hid hnp
        have lwo := lt_heap hbx
        have snO : n0 < wo.heap.size := by omega
        clear hr1 d0 d1 d2 h1 h2 hr hbx hown hcell hlow hlwo hpk hfs hkr hr0 h3 tpe hnp hnb tbl tb hp4
        go_upto_region 7 with (go_at_call 6; ((with_reducible refine (small_any f.s _ ts).mono ?_); rintro e w5 ⟨rfl, rfl⟩))
        obtain ⟨W5, hW5⟩ : ∃ W, wo.alloc (fnO (vS f.s) (.slice none 0 0) (.slice none 0 0)) = W := ⟨_, rfl⟩
        have HS2 := Lib.hid (HST2.out W5 (by rw [← hW5]; exact heap_alloc_new _ _) (by rw [← hW5]; exact (Below.refl _ _).alloc (Nat.le_refl _) _))
        rw [hW5]
        clear hW5 HST2 p0 p1 p2 q0 q1
        go_wp2
        go_loopw [7] (fun i wi => SqRel w wo (vS f.s) Ap f.ps np i wi) (fun i _ => np - (RowKit.intOf i).toNat)
        case atStart => exact HS2.out
        case round =>
          obtain ⟨k2, pre2, rp, X2, c2, rfl, hpk2, hpp, HKR, hrp, hbx2, hown2, hlow2⟩ := hrel
          have low2m : Below wm.heap.size wm wr := HLO.out.trans (hlow2.mono HLO.out.size)
          obtain ⟨q0, q1⟩ := HBP.out wr low2m
          obtain ⟨p0, p1, p2⟩ := HC.out wr (HLW.out wr low2m)
          have lb2 := lt_heap hbx2
          by_cases hr2 : 0 < rp.length
          · cases rp with
            | nil => simp at hr2
            | cons t rp =>
              obtain ⟨b2, o2, rfl, hb2, g0, g1, hpr⟩ := hrp hr2
              have htz : t.size ≤ 140737488351232 := HTP.out t (by rw [hpp]; simp)
              have hk2 : k2 < np := by simp only [List.length_cons] at HKR; omega
              have KC := Lib.hid (fun (W' : World) (hs : W'.heap[wo.heap.size]? = some (fnO (vS f.s) (.slice X2 k2 c2) (.slice none 0 0)) ∧ Below wo.heap.size wo W') => (show W'.cell? ⟨wo.heap.size, 1, none⟩ = some (.slice X2 k2 c2) ∧ W'.cell? ⟨n0, 0, none⟩ = some (.slice (some ⟨b, o, none⟩) nf cap) ∧ W'.cell? ⟨b, o + k * 3 + 1, none⟩ = some (.slice (some ⟨b2, o2, none⟩) np capp) ∧ W'.cell? ⟨b2, o2 + k2, none⟩ = some (.string t) from by
                have hm : Below wm.heap.size wm W' := HLO.out.trans (hs.2.mono HLO.out.size)
                have hw := HLW.out W' hm
                exact ⟨(box3 hs.1).2.1, (HBP.out W' hm).1, (HC.out W' hw).2.1, (hw.cell (p := ⟨b2, o2 + k2, none⟩) hb2).trans g0⟩))
              obtain ⟨i0, hi, hz0, hz1, hz2⟩ := info_parts strInfo
              have HI := Lib.hid hi
              have HZ0 := Lib.hid hz0
              have HPP := Lib.hid hpp
              have HPR := Lib.hid hpr
              have hS0 : wr.drew.heap[wo.heap.size]? = some (fnO (vS f.s) (.slice X2 k2 c2) (.slice none 0 0)) ∧ Below wo.heap.size wo wr.drew := ⟨hbx2, belowD hlow2⟩
              have HO0 : Hid (wr.drew.ownsRow (wo.heap.size + 1) 9 1 (.slice X2 k2 c2) k2 ((pre2.map vS).map Value.string)) := Lib.hid (own_drew hown2)
              have hsB : wo.heap.size < wr.drew.heap.size := lb2
              clear hi hz0 hpp hpr g0 g1 hrp hbx2 hown2 hlow2 low2m hr2
              go_upto_region 10 with fail
              clear q0 q1 p0 p1 p2
              refine wp_region_late (fun W' => W'.heap[wo.heap.size]? = some (fnO (vS f.s) (.slice X2 k2 c2) (.slice none 0 0)) ∧ Below wo.heap.size wo W') 15 hmx ?_
              obtain ⟨W0, hW0⟩ : ∃ x, wr.drew = x := ⟨_, rfl⟩
              rw [hW0] at hS0 HO0 hsB ⊢
              clear hW0
              refine AnyL.take 0 (.pointer (some ⟨wo.heap.size, 1, none⟩)) rfl (by kernel_rfl) (by kernel_rfl) (by kernel_rfl) (by kernel_rfl) (fun _ _ _ h => h) (Or.inl ⟨by rfl, ?_⟩) (by assumption) ?_
              · intro W' hSw
                obtain ⟨l0, l1, l2, l3⟩ := KC.out W' hSw
                go_simp
              try simp only [Act.put, List.getElem_toArray, List.getElem_cons_zero, List.getElem_cons_succ, List.setIfInBounds_toArray, List.set_cons_zero, List.set_cons_succ]
              refine AnyL.take 1 (.slice X2 k2 c2) rfl (by kernel_rfl) (by kernel_rfl) (by kernel_rfl) (by kernel_rfl) (fun _ _ _ h => h) (Or.inl ⟨by rfl, ?_⟩) (by assumption) ?_
              · intro W' hSw
                obtain ⟨l0, l1, l2, l3⟩ := KC.out W' hSw
                go_simp
              try simp only [Act.put, List.getElem_toArray, List.getElem_cons_zero, List.getElem_cons_succ, List.setIfInBounds_toArray, List.set_cons_zero, List.set_cons_succ]
              refine AnyL.take 2 (.pointer (some ⟨n0, 0, none⟩)) rfl (by kernel_rfl) (by kernel_rfl) (by kernel_rfl) (by kernel_rfl) (fun _ _ _ h => h) (Or.inl ⟨by rfl, ?_⟩) (by assumption) ?_
              · intro W' hSw
                obtain ⟨l0, l1, l2, l3⟩ := KC.out W' hSw
                go_simp
              try simp only [Act.put, List.getElem_toArray, List.getElem_cons_zero, List.getElem_cons_succ, List.setIfInBounds_toArray, List.set_cons_zero, List.set_cons_succ]
              refine AnyL.take 3 (.slice (some ⟨b, o, none⟩) nf cap) rfl (by kernel_rfl) (by kernel_rfl) (by kernel_rfl) (by kernel_rfl) (fun _ _ _ h => h) (Or.inl ⟨by rfl, ?_⟩) (by assumption) ?_
              · intro W' hSw
                obtain ⟨l0, l1, l2, l3⟩ := KC.out W' hSw
                go_simp
              try simp only [Act.put, List.getElem_toArray, List.getElem_cons_zero, List.getElem_cons_succ, List.setIfInBounds_toArray, List.set_cons_zero, List.set_cons_succ]
              refine AnyL.take 4 (.int .i64 (k : Int)) rfl (by kernel_rfl) (by kernel_rfl) (by kernel_rfl) (by kernel_rfl) (fun _ _ _ h => h) (Or.inl ⟨by rfl, ?_⟩) (by assumption) ?_
              · intro W' hSw
                obtain ⟨l0, l1, l2, l3⟩ := KC.out W' hSw
                go_simp
              try simp only [Act.put, List.getElem_toArray, List.getElem_cons_zero, List.getElem_cons_succ, List.setIfInBounds_toArray, List.set_cons_zero, List.set_cons_succ]
              refine AnyL.take 5 (.pointer (some ⟨b, o + k * 3, none⟩)) rfl (by kernel_rfl) (by kernel_rfl) (by kernel_rfl) (by kernel_rfl) (fun _ _ _ h => h) (Or.inl ⟨by rfl, ?_⟩) (by assumption) ?_
              · intro W' hSw
                obtain ⟨l0, l1, l2, l3⟩ := KC.out W' hSw
                go_simp
              try simp only [Act.put, List.getElem_toArray, List.getElem_cons_zero, List.getElem_cons_succ, List.setIfInBounds_toArray, List.set_cons_zero, List.set_cons_succ]
              refine AnyL.take 6 (.pointer (some ⟨b, o + k * 3 + 1, none⟩)) rfl (by kernel_rfl) (by kernel_rfl) (by kernel_rfl) (by kernel_rfl) (fun _ _ _ h => h) (Or.inl ⟨by rfl, ?_⟩) (by assumption) ?_
              · intro W' hSw
                obtain ⟨l0, l1, l2, l3⟩ := KC.out W' hSw
                go_simp
              try simp only [Act.put, List.getElem_toArray, List.getElem_cons_zero, List.getElem_cons_succ, List.setIfInBounds_toArray, List.set_cons_zero, List.set_cons_succ]
              refine AnyL.take 7 (.slice (some ⟨b2, o2, none⟩) np capp) rfl (by kernel_rfl) (by kernel_rfl) (by kernel_rfl) (by kernel_rfl) (fun _ _ _ h => h) (Or.inl ⟨by rfl, ?_⟩) (by assumption) ?_
              · intro W' hSw
                obtain ⟨l0, l1, l2, l3⟩ := KC.out W' hSw
                go_simp
              try simp only [Act.put, List.getElem_toArray, List.getElem_cons_zero, List.getElem_cons_succ, List.setIfInBounds_toArray, List.set_cons_zero, List.set_cons_succ]
              refine AnyL.take 8 (.int .i64 (k2 : Int)) rfl (by kernel_rfl) (by kernel_rfl) (by kernel_rfl) (by kernel_rfl) (fun _ _ _ h => h) (Or.inl ⟨by rfl, ?_⟩) (by assumption) ?_
              · intro W' hSw
                obtain ⟨l0, l1, l2, l3⟩ := KC.out W' hSw
                go_simp
              try simp only [Act.put, List.getElem_toArray, List.getElem_cons_zero, List.getElem_cons_succ, List.setIfInBounds_toArray, List.set_cons_zero, List.set_cons_succ]
              refine AnyL.take 9 (.pointer (some ⟨b2, o2 + k2, none⟩)) rfl (by kernel_rfl) (by kernel_rfl) (by kernel_rfl) (by kernel_rfl) (fun _ _ _ h => h) (Or.inl ⟨by rfl, ?_⟩) (by assumption) ?_
              · intro W' hSw
                obtain ⟨l0, l1, l2, l3⟩ := KC.out W' hSw
                go_simp
              try simp only [Act.put, List.getElem_toArray, List.getElem_cons_zero, List.getElem_cons_succ, List.setIfInBounds_toArray, List.set_cons_zero, List.set_cons_succ]
              refine AnyL.take 10 (.string t) rfl (by kernel_rfl) (by kernel_rfl) (by kernel_rfl) (by kernel_rfl) (fun _ _ _ h => h) (Or.inl ⟨by rfl, ?_⟩) (by assumption) ?_
              · intro W' hSw
                obtain ⟨l0, l1, l2, l3⟩ := KC.out W' hSw
                go_simp
              try simp only [Act.put, List.getElem_toArray, List.getElem_cons_zero, List.getElem_cons_succ, List.setIfInBounds_toArray, List.set_cons_zero, List.set_cons_succ]
              refine AnyL.next 11 (by kernel_rfl) rfl (fun K hK => ?_)
              go_simp
              go_at_call 6
              refine (small_any t _ htz).mono ?_
              rintro e' w6 ⟨rfl, rfl⟩
              go_wp2_with fail
              refine hK.out _ _ (fun _ => hS0) ?_
              clear hK K
              try simp only [Act.put, List.getElem_toArray, List.getElem_cons_zero, List.getElem_cons_succ, List.setIfInBounds_toArray, List.set_cons_zero, List.set_cons_succ]
              refine AnyL.next 12 (by kernel_rfl) rfl (fun K hK => ?_)
              go_simp
              obtain ⟨W1', hw1'⟩ : ∃ x, W0.alloc (.cells #[.string (vS t)] 9) = x := ⟨_, rfl⟩
              have n1 : W1'.heap[W0.heap.size]? = some (.cells #[.string (vS t)] 9) := by rw [← hw1']; exact heap_alloc_new _ _
              have hS1 : W1'.heap[wo.heap.size]? = some (fnO (vS f.s) (.slice X2 k2 c2) (.slice none 0 0)) ∧ Below wo.heap.size wo W1' := by rw [← hw1']; exact ⟨blk_alloc hS0.1 _, hS0.2.alloc hS0.2.size _⟩
              have HO1 : Hid (W1'.ownsRow (wo.heap.size + 1) 9 1 (.slice X2 k2 c2) k2 ((pre2.map vS).map Value.string)) := Lib.hid (by rw [← hw1']; exact HO0.out.alloc _)
              have s1 : W1'.heap.size = W0.heap.size + 1 := by rw [← hw1', World.size_alloc]
              rw [hw1']
              clear hw1'
              refine hK.out _ _ (fun _ => hS1) ?_
              clear hK K
              try simp only [Act.put, List.getElem_toArray, List.getElem_cons_zero, List.getElem_cons_succ, List.setIfInBounds_toArray, List.set_cons_zero, List.set_cons_succ]
              refine AnyL.next 13 (by kernel_rfl) rfl (fun K hK => ?_)
              refine step_append_own (E := _) rfl _ _ 29 rfl (wo.heap.size + 1) 9 i0 _ 1 16 Try.underlying29 HI.out HZ0.out hz1 hz2 rfl (by decide) (.slice X2 k2 c2) k2 ((pre2.map vS).map Value.string) rfl HO1.out (some ⟨W0.heap.size, 0, none⟩) 1 1 [.string (vS t)] rfl (fun h => by cases h) rfl (blk_news n1) (fun u hu => by rw [List.mem_singleton.1 hu]; rfl) (by unfold maxLen; omega) (by omega) (by omega) ?_
              intro v2 w2' hown2 hg2
              have hS2 : w2'.heap[wo.heap.size]? = some (fnO (vS f.s) (.slice X2 k2 c2) (.slice none 0 0)) ∧ Below wo.heap.size wo w2' := ⟨blk_grown_own HO1.out hg2 hS1.1 (by decide), grown_below hS1.2 HO1.out (by omega) hg2⟩
              obtain ⟨X3, c3, rfl⟩ := own_form hown2
              have HO2 := Lib.hid hown2
              clear hown2 hg2
              refine hK.out _ _ (fun _ => hS2) ?_
              clear hK K
              try simp only [Act.put, List.getElem_toArray, List.getElem_cons_zero, List.getElem_cons_succ, List.setIfInBounds_toArray, List.set_cons_zero, List.set_cons_succ]
              refine AnyL.next 14 (by kernel_rfl) rfl (fun K hK => ?_)
              go_simp
              refine hK.out _ _ (fun _ => hS2) ?_
              clear hK K
              try simp only [Act.put, List.getElem_toArray, List.getElem_cons_zero, List.getElem_cons_succ, List.setIfInBounds_toArray, List.set_cons_zero, List.set_cons_succ]
              refine AnyL.next 15 (by kernel_rfl) rfl (fun K hK => ?_)
              have y5 := (box3 hS2.1).2.1
              have f5 := box_frozen hS2.1 1
              have lt5 := lt_heap hS2.1
              go_simp
              refine hK.out _ _ (fun h => absurd rfl h) ?_
              clear hK K
              try simp only [Act.put, List.getElem_toArray, List.getElem_cons_zero, List.getElem_cons_succ, List.setIfInBounds_toArray, List.set_cons_zero, List.set_cons_succ]
              refine AnyL.done (by kernel_rfl) ?_
              obtain ⟨W3, hW3⟩ : ∃ x, w2'.setCell ⟨wo.heap.size, 1, none⟩ (.slice X3 (k2 + 1) c3) = x := ⟨_, rfl⟩
              have hb3 : W3.heap[wo.heap.size]? = some (fnO (vS f.s) (.slice X3 (k2 + 1) c3) (.slice none 0 0)) := by rw [← hW3]; exact (heap_set hS2.1 1 _).trans rfl
              have hbel3 : Below wo.heap.size wo W3 := by rw [← hW3]; exact hS2.2.setCell (p := ⟨wo.heap.size, 1, none⟩) (Nat.le_refl _) _
              have HO3 : Hid (W3.ownsRow (wo.heap.size + 1) 9 1 (.slice X3 (k2 + 1) c3) (k2 + 1) (((pre2 ++ [t]).map vS).map Value.string)) := Lib.hid (by rw [← hW3, List.map_append, List.map_append]; exact own_set (a := ⟨wo.heap.size, 1, none⟩) HO2.out (own_ne HO2.out hS2.1 (by decide)) _)
              rw [hW3]
              clear hW3 y5 f5 lt5 hS2
              go_wp2
              go_roundw
              case rel => exact ⟨k2 + 1, pre2 ++ [t], rp, X3, c3, by go_num, by simp only [List.length_append, List.length_singleton]; omega, by rw [List.append_assoc]; exact HPP.out, by simp only [List.length_cons] at HKR ⊢; omega, fun _ => ⟨b2, o2, rfl, hb2, by rw [show o2 + (k2 + 1) = o2 + k2 + 1 by omega]; exact HPR.out⟩, hb3, HO3.out, hbel3⟩
              case measure => simp [RowKit.intOf]; omega
          · cases rp with
            | cons _ _ => simp at hr2
            | nil =>
              rw [List.append_nil] at hpp
              subst hpp
              have e2 : k2 = np := by simpa using HKR
              subst e2
              have i0 : decide ((k2 : Int) < (k2 : Int)) = false := decide_eq_false (by omega)
              have i0' : ¬ k2 < k2 := by omega
              have RN : RobN (wo.heap.size + 1) none wr (.slice X2 k2 c2) (f.ps.map vS) := rob_ownN hown2 (Nat.le_refl _) (fun s hs => by
                obtain ⟨t, htt, rfl⟩ := List.mem_map.1 hs
                have := HTP.out t htt
                rw [vS_size]; omega) (by rw [List.length_map]; exact hpk2.symm)
              have HRN := Lib.hid RN
              have HXX := Lib.hid (HX.out wr (HLW.out wr low2m))
              have HB3 := Lib.hid hbx2
              have HLO2 := Lib.hid hlow2
              clear hpk2 HKR hrp hbx2 hown2 hlow2 low2m RN hr2
              go_upto_region 12 with (go_at_call 5; ((with_reducible refine HXX.out.mono ?_); rintro e w6 ⟨⟨v6, rfl, hrx⟩, hb6⟩; obtain ⟨A6, k6, c6, rfl⟩ := hrx.sl; have q6 := (hb6.block _ lb2).trans HB3.out; have z6 := (box3 q6).2.2; have zf6 := box_frozen q6 2; have zl6 := lt_heap q6))
              obtain ⟨W7, hW7⟩ : ∃ W, w6.setCell ⟨wo.heap.size, 2, none⟩ (.slice A6 k6 c6) = W := ⟨_, rfl⟩
              have b7 : W7.heap[wo.heap.size]? = some (fnO (vS f.s) (.slice X2 k2 c2) (.slice A6 k6 c6)) := by rw [← hW7]; exact (heap_set q6 2 _).trans rfl
              have low7 : Below wo.heap.size wo W7 := by rw [← hW7]; exact (HLO2.out.trans (hb6.mono HLO2.out.size)).setCell (p := ⟨wo.heap.size, 2, none⟩) (Nat.le_refl _) _
              have far7 : ∀ b, b ≠ wo.heap.size → W7.heap[b]? = w6.heap[b]? := fun b hb => by rw [← hW7]; exact Below.heap_setCell _ _ _ _ (by simpa using hb)
              have sz7 : W7.heap.size = w6.heap.size := by rw [← hW7]; simp
              have bq7 := (low7.block wm.heap.size lwo).trans HBX.out
              obtain ⟨f0, f1, f2⟩ := box3 b7
              obtain ⟨e0, e1⟩ := box2 bq7
              have lf := lt_heap b7
              have OWN7 := Lib.hid (HO.out.kept (row := none) ⟨low7.os, low7.tape, low7.output, low7.size, fun q hq _ => low7.block q hq⟩ (by simp; exact Classical.em _))
              have hwm7 : wm.heap.size + 1 ≤ W7.heap.size := Nat.le_trans lwo low7.size
              have HBQ7 := Lib.hid bq7
              have HRX := Lib.hid hrx
              have HB6 := Lib.hid hb6
              have LOW7 := Lib.hid low7
              have FAR7 := Lib.hid far7
              have SZ7 := Lib.hid sz7
              rw [hW7]
              clear b7 bq7 hrx hb6 low7 far7 sz7 hW7 q6 z6 zf6 zl6 q0 q1 p0 p1 p2
              go_wp2_with (at_builtin; refine wp_app_fn rfl rfl (OWN7.out.alloc _) (by simp only [World.size_alloc]; omega) rfl rfl (heap_alloc_new _ _) ⟨⟨_, _, _, rfl⟩, ⟨_, _, _, rfl⟩⟩ (by omega) ?_; intro v11 w11 hown11 hg11 hat11; obtain ⟨X11, c11, rfl⟩ := own_form hown11; have q11 := blk_grown (old_at HBQ7.out) hg11 (fun e => by have := (HO.out.lt _ e.symm).1; omega); have z11 := (box2 q11).1; have zf11 := box_frozen q11 0; have zl11 := lt_heap q11)
              go_roundw
              case rel =>
                have low7 := LOW7.out
                have far7 := FAR7.out
                have sz7 := SZ7.out
                have hb6 := HB6.out
                have zz6 := hb6.size
                have ob : ∀ b, (Value.slice X k c).ownBlock = some b → wm.heap.size + 1 ≤ b ∧ b < wo.heap.size := fun b e => HO.out.lt b e
                have blk11 : ∀ b, b < W7.heap.size → some b ≠ (Value.slice X k c).ownBlock → w11.heap[b]? = W7.heap[b]? := fun b hb hne => (hg11.block b (by simp only [World.size_alloc]; omega) hne).trans (Below.heap_alloc _ _ _ hb)
                have s11 : W7.heap.size ≤ w11.heap.size := Nat.le_trans (by simp) hg11.size
                have new11 : ∀ b, (Value.slice X11 (k + 1) c11).ownBlock = some b → (Value.slice X k c).ownBlock = some b ∨ W7.heap.size ≤ b := fun b e => by
                  rcases hat11 with h | h
                  · exact Or.inl (h.symm.trans e)
                  · rw [h] at e; injection e with e; refine Or.inr ?_; (try simp only [World.size_alloc] at e); omega
                have hset : Below wm.heap.size w11 (w11.setCell ⟨wm.heap.size, 0, none⟩ (.slice X11 (k + 1) c11)) := Below.setCell (Below.refl wm.heap.size w11) (p := ⟨wm.heap.size, 0, none⟩) (Nat.le_refl _) _
                have hs12 : (w11.setCell ⟨wm.heap.size, 0, none⟩ (.slice X11 (k + 1) c11)).heap.size = w11.heap.size := by simp
                have blk12 : ∀ b, wm.heap.size + 1 ≤ b → (w11.setCell ⟨wm.heap.size, 0, none⟩ (.slice X11 (k + 1) c11)).heap[b]? = w11.heap[b]? := fun b hb => Below.heap_setCell _ _ _ _ (by simp only; omega)
                have s7 : wo.heap.size ≤ W7.heap.size := low7.size
                have hce := HCE.out.mono (fun v l (h : RobN _ _ _ v l) => h.step (W1 := w11.setCell ⟨wm.heap.size, 0, none⟩ (.slice X11 (k + 1) c11)) (g1 := (Value.slice X11 (k + 1) c11).ownBlock) (by rw [hs12]; exact Nat.le_trans s7 s11) (fun b h1 h2 h3 => (blk12 b h1).trans ((blk11 b (Nat.lt_of_lt_of_le h2 s7) h3).trans (low7.block b h2))) (fun b e => (new11 b e).imp_right fun h => Nat.le_trans s7 h)) (fun v l (h : RobS _ _ _ v l) => h.step (W1 := w11.setCell ⟨wm.heap.size, 0, none⟩ (.slice X11 (k + 1) c11)) (g1 := (Value.slice X11 (k + 1) c11).ownBlock) (by rw [hs12]; exact Nat.le_trans s7 s11) (fun b h1 h2 h3 => (blk12 b h1).trans ((blk11 b (Nat.lt_of_lt_of_le h2 s7) h3).trans (low7.block b h2))) (fun b e => (new11 b e).imp_right fun h => Nat.le_trans s7 h))
                have e9 : RobN (wo.heap.size + 1) none W7 (.slice X2 k2 c2) (f.ps.map vS) := HRN.out.step (by omega) (fun b h1 h2 _ => (far7 b (by omega)).trans (hb6.block b h2)) (fun b e => by cases e)
                have x9 : RobS wr.heap.size none W7 (.slice A6 k6 c6) (f.b.sm 70) := HRX.out.step (by omega) (fun b h1 h2 _ => far7 b (by omega)) (fun b e => by cases e)
                have e11 := (e9.new (lo := wm.heap.size + 1) (g := (Value.slice X k c).ownBlock) (by omega) (fun b e => by have := (ob b e).2; omega)).step (W1 := w11.setCell ⟨wm.heap.size, 0, none⟩ (.slice X11 (k + 1) c11)) (g1 := (Value.slice X11 (k + 1) c11).ownBlock) (by rw [hs12]; exact s11) (fun b h1 h2 h3 => (blk12 b h1).trans (blk11 b h2 h3)) new11
                have x11 := (x9.new (lo := wm.heap.size + 1) (g := (Value.slice X k c).ownBlock) (by omega) (fun b e => by have := (ob b e).2; omega)).step (W1 := w11.setCell ⟨wm.heap.size, 0, none⟩ (.slice X11 (k + 1) c11)) (g1 := (Value.slice X11 (k + 1) c11).ownBlock) (by rw [hs12]; exact s11) (fun b h1 h2 h3 => (blk12 b h1).trans (blk11 b h2 h3)) new11
                have hne11 : some wm.heap.size ≠ (Value.slice X11 (k + 1) c11).ownBlock := fun e => by have := (hown11.lt _ e.symm).1; omega
                have low11 : Below wm.heap.size wm w11 := ((HLO.out.trans (low7.mono (Nat.le_of_lt lwo))).alloc (by omega) _).grown hg11 (by simp only [World.size_alloc]; omega) (fun q e => by have := (ob q e).1; omega)
                refine ⟨k + 1, pre ++ [f], r, X11, c11, cs ++ [.string (vS f.s), .slice X2 k2 c2, .slice A6 k6 c6], by go_num, by rw [List.length_append, HPK.out]; rfl, by rw [List.append_assoc]; exact HFS.out, by have := HKRO.out; simp only [List.length_cons] at this; omega, fun _ => ⟨b, o, rfl, hb, by rw [show o + (k + 1) * 3 = o + k * 3 + 3 by omega]; exact HRF.out⟩, (heap_set q11 0 _).trans rfl, own_set hown11 hne11 _, ?_, low11.trans hset⟩
                rw [List.map_append]
                exact FsG.app (show FsG _ _ [f.sm] _ from ⟨_, _, [], rfl, e11, x11, ⟨⟨_, _, _, rfl⟩, ⟨_, _, _, rfl⟩⟩, by show (vS f.s).size ≤ _; rw [vS_size]; omega, rfl⟩) hce
              case measure => simp [RowKit.intOf]; omega
    · cases r with
      | cons _ _ => simp at hr0
      | nil =>
        rw [List.append_nil] at hfs
        have e2 : k = nf := by simpa using hkr
        subst e2
        have i0 : decide ((k : Int) < (k : Int)) = false := decide_eq_false (by omega)
        have i0' : ¬ k < k := by omega
        have hFVq : FV wo.heap.size wo (.slice X k c) p.sm.fs := by
          rw [show p.sm.fs = p.fs.map Fn.sm from rfl, hfs]
          exact own_fvG hown hcell (by rw [List.length_map]; exact hpk.symm)
        have hSVq : SV wo.heap.size wo (.slice Am km cm) p.sm.m := HRM.out wo hlow.size (fun b _ h2 _ => hlow.block b h2)
        have hml : km = p.sm.m.len := by
          obtain ⟨_, _, e, _⟩ := hSVq
          injection e with _ e _
        have hfl : k = p.sm.fs.length := by
          obtain ⟨_, _, e, _⟩ := hFVq
          injection e with _ e _
        have hq : PgV wo.heap.size wo (.agg #[.slice X k c, .slice Am km cm]) p.sm := by
          rw [hml] at hSVq
          rw [hfl] at hFVq
          exact ⟨X, c, Am, cm, by rw [← hml, ← hfl], hFVq, hSVq⟩
        have CK := check_in _ p.sm wo wo wo.heap.size (Below.refl _ _) (Nat.le_refl _) hq (Pg.sm_thin HTT.out).1 (Pg.sm_thin HTT.out).2
        rw [Pg.sm_tells] at CK
        have HCK := Lib.hid (show Calls Try.prog 7 #[.agg #[.slice X k c, .slice Am km cm]] wo fun e w' => e = .returned (.int .i64 0) ∧ Below wo.heap.size wo w' from CK)
        obtain ⟨e0, e1⟩ := box2 hbx
        have HLO := Lib.hid hlwo
        clear hFVq hSVq hq hml hfl CK hown hcell hlow hbx hlwo hpk hfs hkr hr0 hr1
        go_wp2_with (go_at_call 7; ((with_reducible refine HCK.out.mono ?_); rintro e w9 ⟨rfl, h9⟩))
        go_ret
        exact ⟨rfl, HLO.out.trans (h9.mono HLO.out.size)⟩
end Go.Proofs.Ytacleafbjbhcgaa
