/-
  Texts SqR SqT: put together.
-/
import Derived.Test.YtmhngbfpldiinaaDoorSqN
import Derived.Maps.AppendAt
import Derived.BigQuiet
/-
  ScopeRenamed, plainly: names are but names.
-/
namespace Go.Proofs.YtmhngbfpldiinaaDoor
open Go Go.RowKit Go.Lib

/-- A name of two letters. -/
def nm2 (c d : UInt8) : ByteArray := ⟨#[c]⟩ ++ ⟨#[d]⟩
theorem nm2_size (c d : UInt8) : (nm2 c d).size = 2 := by unfold nm2; rw [ByteArray.size_append]; rfl
theorem nm2_inj {c d e : UInt8} (h : nm2 c d = nm2 c e) : d = e := by
  have := congrArg (fun s : ByteArray => s.data.toList) h
  simpa [nm2, ByteArray.data_append] using this
/-- The letter of a number. -/
def ltr (b : UInt8) : UInt8 := UInt8.ofNat (97 + b.toNat % 26)
def inL (c : UInt8) (l : List UInt8) : List (Int × ByteArray × Int) := l.map fun b => (4, nm2 c (ltr b), 0)
/-- Each letter once, by where it comes first. -/
def once : List UInt8 → List UInt8 → List UInt8
  | acc, [] => acc
  | acc, b :: r => once (if ltr b ∈ acc then acc else acc ++ [ltr b]) r
theorem withN_map {c : UInt8} (acc : List UInt8) (d : UInt8) : withN (acc.map (nm2 c)) (nm2 c d) = (if d ∈ acc then acc else acc ++ [d]).map (nm2 c) := by
  unfold withN
  have e : nm2 c d ∈ acc.map (nm2 c) ↔ d ∈ acc := by
    rw [List.mem_map]
    constructor
    · rintro ⟨x, hx, e⟩; rw [← nm2_inj e]; exact hx
    · exact fun h => ⟨d, h, rfl⟩
  by_cases h : d ∈ acc
  · rw [if_pos (e.2 h), if_pos h]
  · rw [if_neg (fun x => h (e.1 x)), if_neg h, List.map_append]; rfl
theorem run_once (ar : ByteArray → Option Nat) (c : UInt8) : ∀ (l acc : List UInt8) (g : Gt), g.vs = acc.map (nm2 c) → g.run ar ((inL c l).flatMap fun x => stU x.1 x.2.1) = { g with vs := (once acc l).map (nm2 c) }
  | [], acc, g, h => by simp [inL, once, Gt.run, ← h]
  | b :: r, acc, g, h => by
    have e : ((inL c (b :: r)).flatMap fun x => stU x.1 x.2.1) = .var (nm2 c (ltr b)) :: ((inL c r).flatMap fun x => stU x.1 x.2.1) := by simp [inL, stU]
    rw [e]
    have e2 : g.run ar (.var (nm2 c (ltr b)) :: ((inL c r).flatMap fun x => stU x.1 x.2.1)) = ({ g with vs := withN g.vs (nm2 c (ltr b)) } : Gt).run ar ((inL c r).flatMap fun x => stU x.1 x.2.1) := rfl
    rw [e2, run_once ar c r (if ltr b ∈ acc then acc else acc ++ [ltr b]) _ (by show withN g.vs _ = _; rw [h, withN_map])]
    rfl
theorem once_nodup : ∀ (l acc : List UInt8), acc.Nodup → (once acc l).Nodup
  | [], _, h => h
  | b :: r, acc, h => by
    unfold once
    refine once_nodup r _ ?_
    split
    · exact h
    · rename_i hb
      rw [List.nodup_append]
      exact ⟨h, by simp, fun a ha b' hb' => by rw [List.mem_singleton] at hb'; subst hb'; exact fun e => hb (e ▸ ha)⟩
theorem once_len : ∀ (l acc : List UInt8), (once acc l).length ≤ acc.length + l.length
  | [], _ => by simp [once]
  | b :: r, acc => by
    unfold once
    by_cases h : ltr b ∈ acc
    · rw [if_pos h]
      have := once_len r acc
      simp only [List.length_cons]; omega
    · rw [if_neg h]
      have := once_len r (acc ++ [ltr b])
      simp only [List.length_cons, List.length_append, List.length_nil] at this ⊢; omega
theorem fit_u : ∀ b : Fin 256, fitP ⟨true, 4, nm2 117 (ltr (UInt8.ofNat b.val)), 0, .nil, .nil, .nil⟩ = true ∧ fitP ⟨true, 4, nm2 87 (ltr (UInt8.ofNat b.val)), 0, .nil, .nil, .nil⟩ = true := by decide +kernel
theorem fit_c (c : UInt8) (hc : c = 117 ∨ c = 87) (b : UInt8) : fitP ⟨true, 4, nm2 c (ltr b), 0, .nil, .nil, .nil⟩ = true := by
  have := fit_u ⟨b.toNat, b.toNat_lt⟩
  simp only [UInt8.ofNat_toNat] at this
  rcases hc with rfl | rfl
  · exact this.1
  · exact this.2
def pgR (c : UInt8) (l : List UInt8) : Pg := ⟨[], ssOf (inL c l)⟩
theorem rn_gFn (c : UInt8) (l : List UInt8) (ar : ByteArray → Option Nat) : gFn ar ⟨⟨#[]⟩, [], ssOf (inL c l)⟩ = ⟨(once [] l).map (nm2 c), [], [], true⟩ := by
  rw [gFn_def]
  show Gt.run ar { g0 with ok := true } (ssOf (inL c l)).us = _
  rw [ssOf_us, run_once ar c l [] _ rfl]
  rfl
theorem rn_err (c : UInt8) (hc : c = 117 ∨ c = 87) (l : List UInt8) (hl : l.length ≤ 60) : resErr (pgR c l) = 0 ∧ resP (pgR c l) = [⟨⟨#[]⟩, 0, (once [] l).map (nm2 c), []⟩] := by
  have hf : (ssOf (inL c l)).ok = true := by
    rw [ssOf_ok, List.all_eq_true]
    intro x hx
    obtain ⟨b, _, rfl⟩ := List.mem_map.1 hx
    exact fit_c c hc b
  have hr : rightN (pgR c l) = 0 := right_flat (.inl rfl) hf
  have hsc : scopes (pgR c l) = [⟨⟨#[]⟩, 0, (once [] l).map (nm2 c), []⟩] := by
    show [spFn _ ⟨⟨#[]⟩, [], ssOf (inL c l)⟩] = _
    unfold spFn
    rw [rn_gFn]
    rfl
  have he : resErr (pgR c l) = 0 := by
    rw [err_ok hr (by
      show (distinctN [] && (okFn _ ⟨⟨#[]⟩, [], ssOf (inL c l)⟩ && true)) = true
      unfold okFn
      rw [rn_gFn]
      rfl), hsc]
    have := once_len l []
    simp only [List.length_nil, Nat.zero_add] at this
    simp [Sp.full]
    omega
  refine ⟨he, ?_⟩
  unfold resP
  rw [if_pos he, hsc]
theorem slot_map (c : UInt8) : ∀ (l : List UInt8), l.Nodup → ∀ i (h : i < l.length), slotP (l.map (nm2 c)) (nm2 c l[i]) = (i : Int) := by
  intro l hl i h
  unfold slotP
  have hm : nm2 c l[i] ∈ l.map (nm2 c) := List.mem_map.2 ⟨_, List.getElem_mem h, rfl⟩
  rw [if_pos hm]
  have : (l.map (nm2 c)).findIdx (fun x => decide (x = nm2 c l[i])) = i := by
    rw [List.findIdx_map]
    have e : ((fun x => decide (x = nm2 c l[i])) ∘ nm2 c) = fun x => decide (x = l[i]) := by
      funext x
      by_cases hx : x = l[i]
      · simp [hx]
      · have : nm2 c x ≠ nm2 c l[i] := fun e => hx (nm2_inj e)
        simp [hx, this]
    rw [e, List.findIdx_eq h]
    refine ⟨by simp, fun j hj => ?_⟩
    simp only [decide_eq_false_iff_not]
    intro e
    exact List.pairwise_iff_getElem.1 hl j i (by omega) h hj e
  rw [this]
end Go.Proofs.YtmhngbfpldiinaaDoor

/-
  ScopeRenamed's walk.
-/
namespace Go.Proofs.YtmhngbfpldiinaaDoor
open Go Go.RowKit Go.Lib

theorem disj_symm {a b : Option Nat} (h : a = none ∨ a ≠ b) : b = none ∨ b ≠ a := by
  cases b with
  | none => exact .inl rfl
  | some x => exact .inr fun e => h.elim (fun h => by rw [h] at e; cases e) (fun h => h e.symm)
theorem disj_new {W : World} {base : Nat} {e : TypeId} {size n N : Nat} {vp vq v9 : Value} {xs : List Value} (h1 : W.ownsRow base e size vq n xs) (hD : vp.ownBlock = none ∨ vp.ownBlock ≠ vq.ownBlock) (hb : v9.ownBlock = vp.ownBlock ∨ v9.ownBlock = some N) (hN : W.heap.size ≤ N) : v9.ownBlock = none ∨ v9.ownBlock ≠ vq.ownBlock := by
  rcases hb with hb | hb
  · rw [hb]; exact hD
  · refine .inr fun e => ?_
    have := (h1.lt N (e.symm.trans hb)).2
    omega
theorem byte_at {W : World} {A : Option Addr} {l : List UInt8} (h : Row W A l) (h0 : 0 < l.length) : ∃ b o, A = some ⟨b, o, none⟩ ∧ b < W.heap.size ∧ ∀ i (hi : i < l.length), W.cell? ⟨b, o + i, none⟩ = some (.int .u8 (l[i].toNat : Int)) := by
  obtain ⟨b, o, e, hb, hc⟩ := h h0
  refine ⟨b, o, e, hb, fun i hi => ?_⟩
  rw [hc i hi]
  unfold nth bv
  rw [List.getD_eq_getElem?_getD, List.getElem?_eq_getElem hi]
  rfl
abbrev pgM0 (v : Value) : Obj := .cells #[.slice none 0 0, v] 25
def RnRel (bp N : Nat) (l : List UInt8) (w : World) (i : Value) (wr : World) : Prop :=
  ∃ (k : Nat) (vp vq : Value), i = .int .i64 k ∧ k ≤ N ∧ wr.heap[bp]? = some (pgM0 vp) ∧ wr.heap[bp + 1]? = some (pgM0 vq) ∧ wr.ownsRow (bp + 1 + 1) 45 6 vp k (cellsOf (inL 117 (l.take k))) ∧ wr.ownsRow (bp + 1 + 1) 45 6 vq k (cellsOf (inL 87 (l.take k))) ∧ (vp.ownBlock = none ∨ vp.ownBlock ≠ vq.ownBlock) ∧ Below w.heap.size w wr
theorem inL_snoc (c : UInt8) (l : List UInt8) (k : Nat) (h : k < l.length) : cellsOf (inL c (l.take (k + 1))) = cellsOf (inL c (l.take k)) ++ [.int .i64 4, .string (nm2 c (ltr l[k])), .int .i64 0, .slice none 0 0, .slice none 0 0, .slice none 0 0] := by
  rw [List.take_succ_eq_append_getElem h]
  unfold inL
  rw [List.map_append, cellsOf_app]
  rfl
theorem conv_1 (w : World) (c : UInt8) : (convert 47 9 (.slice (some ⟨w.heap.size, 0, none⟩) 1 1)).run Tryd.prog (w.alloc (.cells #[.int .u8 (c.toNat : Int)] 5)) = .ok (.string ⟨#[c]⟩) (w.alloc (.cells #[.int .u8 (c.toNat : Int)] 5)) :=
  run_convert_bytes_back (P := Tryd.prog) _ _ _ _ ⟨w.heap.size, 0, none⟩ 1 [c] Tryd.underlying47 Tryd.underlying5 Tryd.underlying9 (fun j hj => by
    obtain rfl : j = 0 := by simpa using hj
    exact (World.cell?_alloc_mark w _ _ _ 0))

theorem rn_set_at {W : World} {j k i : Nat} {o : Obj} {v : Value} (h : W.heap[j]? = some o) (hne : j ≠ k) : (W.setCell ⟨k, i, none⟩ v).heap[j]? = some o := (Below.heap_setCell W ⟨k, i, none⟩ v j hne).trans h
theorem ps_get {W : World} : ∀ (l : List ByteArray) (b o : Nat), PsIn W l b o → ∀ i (h : i < l.length), W.cell? ⟨b, o + i, none⟩ = some (.string l[i])
  | [], _, _, _, i, h => absurd h (Nat.not_lt_zero i)
  | x :: r, b, o, hp, i, h => by
    obtain ⟨h0, _, h2⟩ := hp
    cases i with
    | zero => exact h0
    | succ i =>
      have := ps_get r b (o + 1) h2 i (by simpa using h)
      rw [show o + 1 + i = o + (i + 1) by omega] at this
      exact this
theorem row_open {P : Nat → Nat → Prop} {B n k : Nat} {A : Option Addr} (h : RowV P B n (.slice A n k)) (h0 : 0 < n) : ∃ b o, A = some ⟨b, o, none⟩ ∧ b < B ∧ P b o := by
  obtain ⟨A', k', e, _, _, hp⟩ := h
  injection e with e1 e2 e3
  subst e1 e3
  exact hp h0
theorem nar_in (c : UInt8) (l : List UInt8) : nar3 (inL c l) := by
  intro x hx
  obtain ⟨b, _, rfl⟩ := List.mem_map.1 hx
  exact ⟨(by decide : I64 4), (by decide : I64 0), by show (nm2 c (ltr b)).size ≤ _; rw [nm2_size]; decide⟩
theorem rn_res (c : UInt8) (hc : c = 117 ∨ c = 87) (l L : List UInt8) (M : Nat) (hl : l.length ≤ 60) (hL : once [] l = L) (hM : L.length = M) (A : Option Addr) (k cp : Nat) (w : World) (ht : Tab w) (hs : SV w.heap.size w (.slice A k cp) (ssOf (inL c l))) :
    Calls Tryd.prog 11 #[.agg #[.slice none 0 0, .slice A k cp]] w fun e w' => ∃ b o q X y, e = .returned (.tuple #[.slice (some ⟨b, o, none⟩) 1 q, .int .i64 0]) ∧ b < w'.heap.size ∧ w'.cell? ⟨b, o + 2, none⟩ = some (.slice X M y) ∧ RowV (PsIn w' (L.map (nm2 c))) w'.heap.size M (.slice X M y) ∧ Below w.heap.size w w' := by
  subst hL hM
  have hR := resolve_p _ (pgR c l) w (pg_main hs) ht (by simp [Pg.pts, pgR, fsPts, SS.cntL, ssOf_cnt, inL]; omega)
  rw [(rn_err c hc l hl).1, (rn_err c hc l hl).2] at hR
  refine hR.mono ?_
  rintro e w7 ⟨v7, rfl, h7, hb7⟩
  obtain ⟨b7, o7, k7, rfl, hb8, p0, p1, ⟨va, p2, hva⟩, _⟩ := RowV.get (n := 0) h7
  obtain ⟨Aa, ca, rfl, _⟩ := id hva
  simp only [List.length_map] at p2 hva
  exact ⟨b7, o7, k7, Aa, ca, rfl, hb8, p2, hva, hb7⟩
theorem w_exF : ∀ b : Fin 256, (⟨#[87]⟩ : ByteArray) ++ (nm2 117 (UInt8.ofNat b.val)).extract 1 2 = nm2 87 (UInt8.ofNat b.val) := by decide +kernel
theorem w_ex (d : UInt8) : (⟨#[87]⟩ : ByteArray) ++ (nm2 117 d).extract 1 2 = nm2 87 d := by
  have := w_exF ⟨d.toNat, d.toNat_lt⟩
  simpa only [UInt8.ofNat_toNat] using this
theorem w_sz (d : UInt8) : ((nm2 117 d).extract 1 2).size = 1 := by
  rw [ByteArray.size_extract, nm2_size]; rfl

set_option maxRecDepth 100000 in
set_option maxHeartbeats 8000000 in
theorem renamed_walk (A : Option Addr) (n cap : Nat) (l : List UInt8) (w : World) (hn : l.length = n) (hcap : n ≤ cap) (hcm : cap ≤ 9223372036854775807) (hr : Row w A l) (ht : Tab w) : Calls Tryd.prog 9 #[.slice A n cap] w fun e w' => e = .returned (.bool true) ∧ Below w.heap.size w w' := by
  obtain ⟨N, hN⟩ : ∃ N, min n 60 = N := ⟨_, rfl⟩
  have HS := Lib.hid (shown6_any w ht)
  have HT := Lib.hid ht
  have HR := Lib.hid hr
  have HL := Lib.hid hn
  obtain ⟨i0, hi, hz0, hz1, hz2⟩ := info_parts stmtInfo
  have HI := Lib.hid hi
  have HZ0 := Lib.hid hz0
  have HN := Lib.hid hN
  clear ht hi hz0 hr hn hN
  go_enter Tryd.func9, Tryd.ntmps9
  go_upto_region 4 with (go_at_call 10; ((with_reducible refine HS.out.mono ?_); rintro e w1 ⟨rfl, h1⟩))
  obtain ⟨bp, hbp⟩ : ∃ b, w1.heap.size = b := ⟨_, rfl⟩
  obtain ⟨W, hW⟩ : ∃ W, (w1.alloc (pgM0 (.slice none 0 0))).alloc (pgM0 (.slice none 0 0)) = W := ⟨_, rfl⟩
  have n0 : W.heap[bp]? = some (pgM0 (.slice none 0 0)) := by rw [← hW]; exact blk_alloc (blk_new hbp) _
  have n1 : W.heap[bp + 1]? = some (pgM0 (.slice none 0 0)) := by rw [← hW]; exact blk_new (by simp [hbp])
  have hbW : Below w.heap.size w W := by rw [← hW]; exact (h1.alloc h1.size _).alloc (by have := h1.size; simp only [World.size_alloc]; omega) _
  have hwb : w.heap.size ≤ bp := by rw [← hbp]; exact h1.size
  rw [hbp, hW]
  have N0 := Lib.hid n0
  have N1 := Lib.hid n1
  have HBW := Lib.hid hbW
  clear hbp hW n0 n1 hbW h1
  go_wp2
  go_loopw [6, 7] (fun i s wr => RnRel bp N l w i wr) (fun i _ _ => N - (RowKit.intOf i).toNat)
  case atStart => exact ⟨0, _, _, rfl, Nat.zero_le _, N0.out, N1.out, ⟨rfl, .inl ⟨rfl, rfl⟩⟩, ⟨rfl, .inl ⟨rfl, rfl⟩⟩, .inl rfl, HBW.out⟩
  case round =>
    obtain ⟨k, vp, vq, rfl, hk, hbx, hby, hop, hoq, hD, hbel⟩ := hrel
    have HOP := Lib.hid hop
    have HOQ := Lib.hid hoq
    have HB := Lib.hid hbel
    have HBX := Lib.hid hbx
    have HBY := Lib.hid hby
    have HD := Lib.hid hD
    obtain ⟨Xp, cp, rfl⟩ := own_form hop
    obtain ⟨Xq, cq, rfl⟩ := own_form hoq
    have lbx := blk_lt hbx
    have lby := blk_lt hby
    have hNn : N ≤ n ∧ N ≤ 60 := by have := HN.out; omega
    clear hop hoq hbel hD
    by_cases hkN : k < N
    · have q1 : decide ((k : Int) < (n : Int)) = true := by simp; omega
      have q2 : decide ((k : Int) < 60) = true := by simp; omega
      have q3 : decide (k < n) = true := by simp; omega
      have q4 : decide (k < 60) = true := by simp; omega
      have HKN := Lib.hid hkN
      obtain ⟨bb, oo, rfl, hbb, hcell⟩ := byte_at HR.out (by have := HL.out; omega)
      have hkl : k < l.length := by have := HL.out; omega
      obtain ⟨b, hb⟩ : ∃ b, l[k] = b := ⟨_, rfl⟩
      have d0 : wr.cell? ⟨bb, oo + k, none⟩ = some (.int .u8 (b.toNat : Int)) := by
        have := (HB.out.cell (p := ⟨bb, oo + k, none⟩) hbb).trans (hcell k hkl)
        rwa [hb] at this
      have i0' : (0 : Int) ≤ (k : Int) := by omega
      have i1' : (k : Int) < (n : Int) := by omega
      clear hcell hbx hby
      obtain ⟨d, hd⟩ : ∃ d, ltr b = d := ⟨_, rfl⟩
      have e1 : 97 + (b.toNat : Int) % 26 = (d.toNat : Int) := by
        rw [← hd]
        unfold ltr
        rw [UInt8.toNat_ofNat']
        omega
      have hcv := fun wr => conv_1 wr d
      have hnmp : nm2 117 (ltr l[k]) = ⟨#[117]⟩ ++ ⟨#[d]⟩ := by rw [hb, hd]; rfl
      have hnmq : nm2 87 (ltr l[k]) = ⟨#[87]⟩ ++ ⟨#[d]⟩ := by rw [hb, hd]; rfl
      have HNP := Lib.hid hnmp
      have HNQ := Lib.hid hnmq
      clear hd hb hnmp hnmq
      obtain ⟨wA, hwA⟩ : ∃ W, (wr.alloc (.cells #[.int .u8 (d.toNat : Int)] 5)).alloc (.cells #[.int .i64 4, .string (⟨#[117]⟩ ++ ⟨#[d]⟩), .int .i64 0, .slice none 0 0, .slice none 0 0, .slice none 0 0] 45) = W := ⟨_, rfl⟩
      have p0 : Hid (wA.heap[bp]? = some (pgM0 (.slice Xp k cp))) := hid (by rw [← hwA]; exact blk_alloc (blk_alloc HBX.out _) _)
      have p1 : Hid (wA.heap[bp + 1]? = some (pgM0 (.slice Xq k cq))) := hid (by rw [← hwA]; exact blk_alloc (blk_alloc HBY.out _) _)
      have p2 : Hid (wA.heap[wr.heap.size + 1]? = some (.cells #[.int .i64 4, .string (⟨#[117]⟩ ++ ⟨#[d]⟩), .int .i64 0, .slice none 0 0, .slice none 0 0, .slice none 0 0] 45)) := hid (by rw [← hwA]; exact new2 _ _ _)
      have p3 : Hid (Below w.heap.size w wA) := hid (by rw [← hwA]; exact (HB.out.alloc HB.out.size _).alloc (by have := HB.out.size; simp only [World.size_alloc]; omega) _)
      have p4 : Hid (wA.ownsRow (bp + 1 + 1) 45 6 (.slice Xp k cp) k (cellsOf (inL 117 (l.take k)))) := hid (by rw [← hwA]; exact (HOP.out.alloc _).alloc _)
      have p5 : Hid (wA.ownsRow (bp + 1 + 1) 45 6 (.slice Xq k cq) k (cellsOf (inL 87 (l.take k)))) := hid (by rw [← hwA]; exact (HOQ.out.alloc _).alloc _)
      have p6 : bp + 1 < wA.heap.size := blk_lt p1.out
      have e0 : wr.cell? ⟨bp, 1, none⟩ = some (.slice Xp k cp) := (blk_cell HBX.out 1).trans rfl
      have nlt1 : ¬ (9223372036854775807 < (⟨#[117]⟩ : ByteArray).size + (⟨#[d]⟩ : ByteArray).size) := by show ¬ (9223372036854775807 < 1 + 1); omega
      have nlt2 : ¬ (9223372036854775807 < (⟨#[87]⟩ : ByteArray).size + (⟨#[d]⟩ : ByteArray).size) := by show ¬ (9223372036854775807 < 1 + 1); omega
      go_upto_region 9 with (at_builtin; refine wpList_append_own_at _ rfl _ _ 23 rfl (bp + 1 + 1) 45 i0 _ 6 104 Tryd.underlying23 HI.out HZ0.out hz1 hz2 rfl (by decide) _ k _ rfl p4.out ⟨wr.heap.size + 1, 0, none⟩ 1 1 [.int .i64 4, .string (⟨#[117]⟩ ++ ⟨#[d]⟩), .int .i64 0, .slice none 0 0, .slice none 0 0, .slice none 0 0] rfl rfl (blk_news p2.out _ rfl) (fun u hu => by (simp only [List.mem_cons, List.not_mem_nil, or_false] at hu; rcases hu with rfl | rfl | rfl | rfl | rfl | rfl <;> rfl)) (by unfold maxLen; omega) (by omega) (by omega) ?_; intro v9 w9 hown9 hg9 _ hblk9; have r0 := blk_grown_own p4.out hg9 p0.out (by decide); have r1 := blk_grown_own p4.out hg9 p1.out (by decide); have g0 : w9.cell? ⟨bp, 1, none⟩ = some (.slice Xp k cp) := (blk_cell r0 1).trans rfl; have g1 := blk_frozen r0 1; have g2 := blk_lt r0; have g3 := blk_lt r1; have r3 := p3.out.grown hg9 (by have := HB.out.size; omega) (fun q hq => by have := (p4.out.lt q hq).1; omega); have r5 := p5.out.kept hg9 (disj_symm HD.out); have r6 := disj_new p5.out HD.out hblk9 (Nat.le_refl _); obtain ⟨X9, c9, rfl⟩ := own_form hown9; have R0 := Lib.hid r0; have R1 := Lib.hid r1; have R3 := Lib.hid r3; have R4 := Lib.hid hown9; have R5 := Lib.hid r5; have R6 := Lib.hid r6; have s9 := hg9.size; clear r0 r1 r3 r5 r6 hown9 hg9 hblk9)
      obtain ⟨wB, hwB⟩ : ∃ W, w9.setCell ⟨bp, 1, none⟩ (.slice X9 (k + 1) c9) = W := ⟨_, rfl⟩
      have b0 : Hid (wB.heap[bp]? = some (pgM0 (.slice X9 (k + 1) c9))) := hid (by rw [← hwB]; exact blk_set R0.out 1 _)
      have b1 : Hid (wB.heap[bp + 1]? = some (pgM0 (.slice Xq k cq))) := hid (by rw [← hwB]; exact rn_set_at R1.out (by omega))
      have b2 : Hid (Below w.heap.size w wB) := hid (by rw [← hwB]; exact belowS R3.out hwb _)
      have b3 : Hid (wB.ownsRow (bp + 1 + 1) 45 6 (.slice X9 (k + 1) c9) (k + 1) _) := hid (by rw [← hwB]; exact own_set R4.out (own_ne R4.out R0.out (by decide)) _)
      have b4 : Hid (wB.ownsRow (bp + 1 + 1) 45 6 (.slice Xq k cq) k (cellsOf (inL 87 (l.take k)))) := hid (by rw [← hwB]; exact own_set R5.out (own_ne R5.out R0.out (by decide)) _)
      have e2 : wB.cell? ⟨bp + 1, 1, none⟩ = some (.slice Xq k cq) := (blk_cell b1.out 1).trans rfl
      have sB : bp + 1 + 1 ≤ wB.heap.size := blk_lt b1.out
      obtain ⟨wC, hwC⟩ : ∃ W, wB.alloc (.cells #[.int .i64 4, .string (⟨#[87]⟩ ++ ⟨#[d]⟩), .int .i64 0, .slice none 0 0, .slice none 0 0, .slice none 0 0] 45) = W := ⟨_, rfl⟩
      have c0 : Hid (wC.heap[bp]? = some (pgM0 (.slice X9 (k + 1) c9))) := hid (by rw [← hwC]; exact blk_alloc b0.out _)
      have c1 : Hid (wC.heap[bp + 1]? = some (pgM0 (.slice Xq k cq))) := hid (by rw [← hwC]; exact blk_alloc b1.out _)
      have c2 : Hid (wC.heap[wB.heap.size]? = some (.cells #[.int .i64 4, .string (⟨#[87]⟩ ++ ⟨#[d]⟩), .int .i64 0, .slice none 0 0, .slice none 0 0, .slice none 0 0] 45)) := hid (by rw [← hwC]; exact heap_alloc_new _ _)
      have c3 : Hid (Below w.heap.size w wC) := hid (by rw [← hwC]; exact b2.out.alloc b2.out.size _)
      have c4 : Hid (wC.ownsRow (bp + 1 + 1) 45 6 (.slice X9 (k + 1) c9) (k + 1) _) := hid (by rw [← hwC]; exact b3.out.alloc _)
      have c5 : Hid (wC.ownsRow (bp + 1 + 1) 45 6 (.slice Xq k cq) k (cellsOf (inL 87 (l.take k)))) := hid (by rw [← hwC]; exact b4.out.alloc _)
      have sC : wC.heap.size = wB.heap.size + 1 := by rw [← hwC, World.size_alloc]
      have HSC := Lib.hid sC
      rw [hwB]
      clear hwB g0 g1 g2 g3 R0 R1 R3 R4 R5 s9 p0 p1 p2 p3 p4 p5 p6 hwA e0 nlt1 b0 b1 b2 b3 b4 sC
      go_upto_region 6 with (at_builtin; refine wpList_append_own_at _ rfl _ _ 23 rfl (bp + 1 + 1) 45 i0 _ 6 104 Tryd.underlying23 HI.out HZ0.out hz1 hz2 rfl (by decide) _ k _ rfl c5.out ⟨wB.heap.size, 0, none⟩ 1 1 [.int .i64 4, .string (⟨#[87]⟩ ++ ⟨#[d]⟩), .int .i64 0, .slice none 0 0, .slice none 0 0, .slice none 0 0] rfl rfl (blk_news c2.out _ rfl) (fun u hu => by (simp only [List.mem_cons, List.not_mem_nil, or_false] at hu; rcases hu with rfl | rfl | rfl | rfl | rfl | rfl <;> rfl)) (by unfold maxLen; omega) (by omega) (by have := HSC.out; omega) ?_; intro v10 w10 hown10 hg10 _ hblk10; have r0 := blk_grown_own c5.out hg10 c0.out (by decide); have r1 := blk_grown_own c5.out hg10 c1.out (by decide); have g0 : w10.cell? ⟨bp + 1, 1, none⟩ = some (.slice Xq k cq) := (blk_cell r1 1).trans rfl; have g1 := blk_frozen r1 1; have g3 := blk_lt r1; have r3 := c3.out.grown hg10 (by have := HSC.out; omega) (fun q hq => by have := (c5.out.lt q hq).1; omega); have r5 := c4.out.kept hg10 R6.out; have r6 := disj_symm (disj_new c4.out (disj_symm R6.out) hblk10 (Nat.le_refl _)); obtain ⟨X10, c10, rfl⟩ := own_form hown10; have R0 := Lib.hid r0; have R1 := Lib.hid r1; have R3 := Lib.hid r3; have R4 := Lib.hid r5; have R5 := Lib.hid hown10; have R7 := Lib.hid r6; clear r0 r1 r3 r5 r6 hown10 hg10 hblk10)
      go_wp2
      go_roundw
      case rel => exact ⟨k + 1, _, _, by go_num, by have := HKN.out; omega, rn_set_at R0.out (by omega), blk_set R1.out 1 _, by rw [inL_snoc 117 l k hkl, HNP.out]; exact own_set R4.out (own_ne R4.out R1.out (by decide)) _, by rw [inL_snoc 87 l k hkl, HNQ.out]; exact own_set R5.out (own_ne R5.out R1.out (by decide)) _, R7.out, belowS R3.out (by omega) _⟩
      case measure => simp [RowKit.intOf]; omega
    · have hkN' : k = N := by omega
      clear hkN
      subst hkN'
      obtain ⟨L, hLL⟩ : ∃ L, once [] (l.take k) = L := ⟨_, rfl⟩
      obtain ⟨M, hM⟩ : ∃ M, L.length = M := ⟨_, rfl⟩
      have hnd : Hid L.Nodup := hid (by rw [← hLL]; exact once_nodup _ _ List.nodup_nil)
      have hlk : (l.take k).length = k := by rw [List.length_take]; have := HL.out; omega
      have hM60 : M ≤ 60 := by have := once_len (l.take k) []; rw [hLL, hM, hlk] at this; simp only [List.length_nil] at this; omega
      have hR1 := rn_res 117 (.inl rfl) (l.take k) L M (by omega) hLL hM Xp k cp wr (HT.out.below HB.out HT.out.1) (own_sv HOP.out (cells_of _ _ (nar_in _ _)) (by rw [ssOf_len]; unfold inL; rw [List.length_map, hlk]))
      have hR2 := fun w7 (h7 : Below wr.heap.size wr w7) => rn_res 87 (.inr rfl) (l.take k) L M (by omega) hLL hM Xq k cq w7 (HT.out.below (HB.out.trans (h7.mono HB.out.size)) HT.out.1) (SV.below (own_sv HOQ.out (cells_of _ _ (nar_in _ _)) (by rw [ssOf_len]; unfold inL; rw [List.length_map, hlk])) h7 h7.size)
      have HR1 := Lib.hid hR1
      have HR2 := Lib.hid hR2
      have HML := Lib.hid hM
      have c0 : wr.cell? ⟨bp, 0, none⟩ = some (.slice none 0 0) := (blk_cell hbx 0).trans rfl
      have c1 : wr.cell? ⟨bp, 1, none⟩ = some (.slice Xp k cp) := (blk_cell hbx 1).trans rfl
      have c2 : wr.cell? ⟨bp + 1, 0, none⟩ = some (.slice none 0 0) := (blk_cell hby 0).trans rfl
      have c3 : wr.cell? ⟨bp + 1, 1, none⟩ = some (.slice Xq k cq) := (blk_cell hby 1).trans rfl
      have hq : (decide ((k : Int) < (n : Int)) = false ∧ decide (k < n) = false) ∨ (decide ((k : Int) < (n : Int)) = true ∧ decide (k < n) = true ∧ decide ((k : Int) < 60) = false ∧ decide (k < 60) = false) := by
        have := HN.out
        simp only [decide_eq_true_eq, decide_eq_false_iff_not]
        omega
      clear hR1 hR2 hM hLL hbx hby hlk hk
      rcases hq with ⟨q1, q2⟩ | ⟨q1, q2, q3, q4⟩
      all_goals
        go_upto_region 11 with (go_at_call 11; ((with_reducible refine HR1.out.mono ?_); rintro e w7 ⟨b7, o7, q7, X7, y7, rfl, hl7, hc7, hv7, hb7⟩))
        have d2 := (hb7.cell (p := ⟨bp + 1, 0, none⟩) lby).trans c2
        have d3 := (hb7.cell (p := ⟨bp + 1, 1, none⟩) lby).trans c3
        have hr2 := HR2.out w7 hb7
        have HR := Lib.hid hr2
        have HC7 := Lib.hid hc7
        have HV7 := Lib.hid hv7
        have HB7 := Lib.hid hb7
        clear hr2 hc7 hv7 hb7 c0 c1 c2 c3
        go_upto_region 12 with (go_at_call 11; ((with_reducible refine HR.out.mono ?_); rintro e w8 ⟨b8, o8, q8, X8, y8, rfl, hl8, hc8, hv8, hb8⟩))
        have x2 := (hb8.cell (p := ⟨b7, o7 + 2, none⟩) hl7).trans HC7.out
        have hv9 := HV7.out.ps hb8 hb8.size
        have HV := Lib.hid hv9
        have HW := Lib.hid hv8
        have HC := Lib.hid hc8
        have HX := Lib.hid x2
        have hl9 : b7 < w8.heap.size := Nat.lt_of_lt_of_le hl7 hb8.size
        have hbw : Below w.heap.size w w8 := (HB.out.trans (HB7.out.mono HB.out.size)).trans (hb8.mono (Nat.le_trans HB.out.size HB7.out.size))
        have HBW := Lib.hid hbw
        clear hv9 hv8 hbw hb8 d2 d3
        go_quiet (fail)
        go_wp2
        go_loopw [12] (fun i W => ∃ j : Nat, i = .int .i64 j ∧ j ≤ M ∧ Below w8.heap.size w8 W) (fun i _ => M - (intOf i).toNat)
        case atStart => exact ⟨0, rfl, Nat.zero_le _, drewN_b _ _⟩
        case round =>
          obtain ⟨j, rfl, hj, hbl⟩ := hrel
          have HBL := Lib.hid hbl
          have y2 := (hbl.cell (p := ⟨b7, o7 + 2, none⟩) hl9).trans HX.out
          have y3 := (hbl.cell (p := ⟨b8, o8 + 2, none⟩) hl8).trans HC.out
          have m1 := Nat.lt_of_lt_of_le hl9 hbl.size
          have m2 := Nat.lt_of_lt_of_le hl8 hbl.size
          by_cases hjM : j < M
          · have r1 : decide ((j : Int) < (M : Int)) = true := by simp; omega
            have r2 : decide (j < M) = true := by simp; omega
            have r3 : (0 : Int) ≤ (j : Int) := by omega
            have r4 : (j : Int) < (M : Int) := by omega
            have hjL : j < L.length := by rw [HML.out]; exact hjM
            obtain ⟨d, hd⟩ : ∃ d, L[j] = d := ⟨_, rfl⟩
            obtain ⟨bx, ox, rfl, hbx, hpx⟩ := row_open HV.out (by omega)
            obtain ⟨by', oy, rfl, hby, hpy⟩ := row_open HW.out (by omega)
            have z1 := (hbl.cell (p := ⟨bx, ox + j, none⟩) hbx).trans (ps_get _ _ _ hpx j (by simpa using hjL))
            have z2 := (hbl.cell (p := ⟨by', oy + j, none⟩) hby).trans (ps_get _ _ _ hpy j (by simpa using hjL))
            rw [List.getElem_map, hd] at z1 z2
            have hsl := slot_map 87 L hnd.out j hjL
            rw [hd] at hsl
            have SL := Lib.hid (fun N' => (slot_lit (some ⟨by', oy, none⟩) y8 M (L.map (nm2 87)) (nm2 87 d) j hsl w8.heap.size w8 (wr.drewN N') (hbl.trans ((drewN_b _ _).mono hbl.size)) HW.out (by rw [List.length_map]; exact HML.out)).mono (fun e w' h => (⟨h.1, h.2.symm⟩ : e = .returned (.int .i64 j) ∧ w' = wr.drewN N')))
            have g1 := w_ex d
            have g2 := nm2_size 117 d
            have g3 := w_sz d
            clear hsl hpx hpy hd hbl
            go_wp2
            go_quiet ((go_at_call 12; with_reducible exact Calls.quiet_of_same (SL.out _)))
            go_wp2
            go_roundw
            case rel => exact ⟨j + 1, by go_num, by omega, HBL.out.trans ((drewN_b _ _).mono HBL.out.size)⟩
            case measure => simp [intOf]; omega
          · have r1 : decide ((j : Int) < (M : Int)) = false := by simp; omega
            have r2 : decide (j < M) = false := by simp; omega
            clear hbl
            go_wp2
            go_ret
            exact ⟨rfl, HBW.out.trans (HBL.out.mono HBW.out.size)⟩
end Go.Proofs.YtmhngbfpldiinaaDoor
