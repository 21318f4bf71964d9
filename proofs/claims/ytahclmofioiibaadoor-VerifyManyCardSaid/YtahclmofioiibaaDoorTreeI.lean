/-
  The iterators of package tree: ofExpr, ofStmt, hand; the closures of parts and outer.
-/
import Derived.Test.YtahclmofioiibaaDoorChecked
import Derived.Test.YtahclmofioiibaaDoorTreeP
import Derived.RangeFuncNested
import Derived.RangeFuncBound
import Derived.RangeFuncCalls
import Derived.RangeFuncLeaves
import Derived.Shelf.Abstract
import Derived.Shelf.RegionOpen
import Derived.WalkKit
import Derived.OwnWalkIn
import Derived.TacticsInMore
import Derived.LoopNIn
import Derived.LoopIn
import Derived.Lib.Hide
namespace Go.Proofs.YtahclmofioiibaaDoor
open Go Go.RowKit Go.Shelf

theorem wide_fn (f : FuncId) : Fence.wide.fn f = True := by simp [Fence.wide]
theorem wide_depth : Fence.wide.depth.isSome = false := rfl
theorem round_fn (l : Nat) (f : FuncId) : (Fence.wide.inRound l).fn f = True := by simp [Fence.wide, Fence.inRound]
theorem round_depth (l : Nat) : (Fence.wide.inRound l).depth.isSome = false := rfl
attribute [local go_sem] Oper.semAt_some wide_fn wide_depth round_fn round_depth

theorem bcell {B : Nat} {W w1 : World} (hb : Below B W w1) : (∀ b o, b < B → w1.cell? ⟨b, o, none⟩ = W.cell? ⟨b, o, none⟩) ∧ (∀ b o, b < B → w1.frozen? ⟨b, o, none⟩ = W.frozen? ⟨b, o, none⟩) :=
  ⟨fun b o h => hb.cell (p := ⟨b, o, none⟩) h, fun b o h => hb.frozen (p := ⟨b, o, none⟩) h⟩

set_option maxHeartbeats 1000000 in
theorem ofExpr_any (op n : Int) (s : ByteArray) (A : Option Addr) (k cap : Nat) (w : World) :
    Calls Tryd.prog 69 #[.agg #[.int .i64 op, .int .i64 n, .string s, .slice A k cap]] w fun e w' =>
      e = .returned (.agg #[.bool false, .int .i64 op, .string s, .int .i64 n, .slice A k cap, .slice none 0 0, .slice none 0 0]) ∧ Below w.heap.size w w' := by
  go_enter Tryd.func69, Tryd.ntmps69
  go_wp2
  refine bodyPost_ret (v := .agg #[.bool false, .int .i64 op, .string s, .int .i64 n, .slice A k cap, .slice none 0 0, .slice none 0 0]) (by simp [results, Tryd.results69, go_sem]) rfl ⟨rfl, ?_⟩
  exact ((Below.refl _ _).alloc (Nat.le_refl _) _).alloc (by simp) _

set_option maxHeartbeats 1000000 in
theorem ofStmt_any (op n : Int) (s : ByteArray) (A A' A'' : Option Addr) (k cap k' cap' k'' cap'' : Nat) (w : World) :
    Calls Tryd.prog 70 #[.agg #[.int .i64 op, .string s, .int .i64 n, .slice A k cap, .slice A' k' cap', .slice A'' k'' cap'']] w fun e w' =>
      e = .returned (.agg #[.bool true, .int .i64 op, .string s, .int .i64 n, .slice A k cap, .slice A' k' cap', .slice A'' k'' cap'']) ∧ Below w.heap.size w w' := by
  go_enter Tryd.func70, Tryd.ntmps70
  go_wp2
  refine bodyPost_ret (v := .agg #[.bool true, .int .i64 op, .string s, .int .i64 n, .slice A k cap, .slice A' k' cap', .slice A'' k'' cap'']) (by simp [results, Tryd.results70, go_sem]) rfl ⟨rfl, ?_⟩
  exact ((Below.refl _ _).alloc (Nat.le_refl _) _).alloc (by simp) _

/-- An element handed on: its value, what it is, and a bound on how much it holds. -/
structure PX (B : Nat) (w : World) (K : Nat) where
  v : Value
  p : Pt
  h : PV B w v p
  hk : p.cnt ≤ K

theorem room_wide (k : Nat) : Fence.wide.room k := fun d h => by cases h
theorem RoundIn.wide {m m' : Nat} {P : Program} {l : Nat} {f : FuncId} {tmps : Array Value} {assign body : Code} {w : World} {R : Ending → World → Prop}
    (h : RoundIn Fence.wide m P l f tmps assign body w R) : RoundIn Fence.wide m' P l f tmps assign body w R := ⟨h.1, fun c cs _ => h.2 c cs (room_wide _)⟩
theorem YieldAt.wide {m : Nat} (m' : Nat) {P : Program} {l : Nat} {args : Array Value} {W : World} {R : Ending → World → Prop} (h : YieldAt Fence.wide m P l args W R) : YieldAt Fence.wide m' P l args W R := by
  obtain ⟨fn, tmps, assign, body, hy, hR⟩ := h
  exact ⟨fn, tmps, assign, body, hy, RoundIn.wide hR⟩

/-- What a round of the caller's may do. -/
def Rounds (B : Nat) (w0 : World) (K l N : Nat) (J Jx : List (PX B w0 K) → World → Prop) : Prop :=
  ∀ m pre x W, J pre W → pre.length < N → YieldAt Fence.wide m Tryd.prog l #[x.v] W fun e W' =>
    (e = .returned (.bool true) ∧ J (pre ++ [x]) W' ∧ Below B W W') ∨ (e = .returned (.bool false) ∧ Jx (pre ++ [x]) W')

theorem abides_below {β : Type} {B : Nat} {J : β → World → Prop} (h : AbidesFrom B J) {s : β} {W W' : World} (hs : J s W) (hb : Below W.heap.size W W') : J s W' :=
  h s W W' none hs ⟨hb.os, hb.tape, hb.output, hb.size, fun k hk _ => hb.block k hk⟩ (fun r e => by cases e)

def HandRel (B : Nat) (w0 W : World) (K N len : Nat) (J : List (PX B w0 K) → World → Prop) (A : Option Addr) (s : SS) (pre : List (PX B w0 K)) (i : Value) (wr : World) : Prop :=
  ∃ (k : Nat) (xs : List (PX B w0 K)) (r : SS), i = .int .i64 k ∧ s.pts = xs.map (·.p) ++ r.pts ∧ k + r.len = len ∧ r.cnt ≤ K ∧ (0 < r.len → ∃ b o, A = some ⟨b, o, none⟩ ∧ b < B ∧ r.In B w0 b (o + k * 6)) ∧ pre.length + xs.length + r.len ≤ N ∧ J (pre ++ xs) wr ∧ Below B w0 wr ∧ Below B W wr
def HandPost (B : Nat) (w0 W : World) (K : Nat) (J Jx : List (PX B w0 K) → World → Prop) (l : List Pt) (pre : List (PX B w0 K)) (e : Ending) (W' : World) : Prop :=
  (e = .returned (.bool true) ∧ ∃ xs : List (PX B w0 K), xs.map (·.p) = l ∧ J (pre ++ xs) W' ∧ Below B W W') ∨ (e = .returned (.bool false) ∧ ∃ q : List (PX B w0 K), q.map (·.p) <+: l ∧ Jx (pre ++ q) W')

theorem hand_step {n B : Nat} {w0 wr w1 : World} {K l N : Nat} {J Jx : List (PX B w0 K) → World → Prop} (hY : Rounds B w0 K l N J Jx) {BJ : Nat} (hJa : AbidesFrom BJ J) {xs : List (PX B w0 K)} (hJ : J xs wr) (hb : Below wr.heap.size wr w1) (hN : xs.length < N) (x : PX B w0 K) :
    YieldAt Fence.wide n Tryd.prog l #[x.v] w1 fun e W' =>
    (e = .returned (.bool true) ∧ J (xs ++ [x]) W' ∧ Below B w1 W') ∨ (e = .returned (.bool false) ∧ Jx (xs ++ [x]) W') :=
  hY n xs x w1 (abides_below hJa hJ hb) hN

set_option maxRecDepth 100000 in
set_option maxHeartbeats 4000000 in
/-- hand: all have come, or a round has said 'no more'. -/
theorem hand_in (n B : Nat) (w0 : World) (K l N BJ : Nat) (J Jx : List (PX B w0 K) → World → Prop) (hJa : AbidesFrom BJ J) (hY : Rounds B w0 K l N J Jx)
    (A : Option Addr) (cap : Nat) (s : SS) (pre : List (PX B w0 K)) (W : World) (hs : SV B w0 (.slice A s.len cap) s) (hB0 : B ≤ w0.heap.size) (hK : s.cnt ≤ K) (hW : Below B w0 W) (hJ : J pre W) (hN : pre.length + s.len ≤ N) :
    CallsIn Fence.wide n Tryd.prog 55 #[.slice A s.len cap, .func (.yield l) #[] #[]] W (HandPost B w0 W K J Jx s.pts pre) := by
  obtain ⟨A', cap', e1, hc1, hc2, hrow⟩ := hs
  injection e1 with e2 e3 e4
  subst e2 e4
  clear e3
  obtain ⟨len, hlen⟩ : ∃ len, s.len = len := ⟨_, rfl⟩
  rw [hlen] at hc1 hrow hN ⊢
  have HL := Lib.hid hlen; clear hlen
  refine callsIn_of_wp Tryd.func55 rfl trivial ?_ rfl
  simp only [Tryd.ntmps55, List.size_toArray, List.length_cons, List.length_nil, Nat.reduceAdd, Nat.reduceSub, Array.replicate_succ, Array.replicate_zero, List.push_toArray, List.append_toArray, List.nil_append, List.cons_append]
  gi_wp2
  gi_loopw [9] (fun i wr => HandRel B w0 W K N len J A s pre i wr) (fun i _ => len - (intOf i).toNat)
  case atStart =>
    exact ⟨0, [], s, rfl, rfl, by have := HL.out; omega, hK, by simpa [HL.out] using hrow, by simp [HL.out]; omega, by simpa using hJ, hW, Below.refl _ _⟩
  case round =>
    obtain ⟨k, xs, r, rfl, hp, hk, hrK, hrow', hN', hJ', hW', hW''⟩ := hrel
    cases r with
    | nil =>
      have hk0 : k = len := by simpa [SS.len] using hk
      subst hk0
      clear hk hrow hrow'
      have HP := Lib.hid hp; clear hp
      gi_wp2
      go_ret
      exact .inl ⟨rfl, xs, by rw [HP.out]; simp [SS.pts], hJ', hW''⟩
    | cons op s1 n1 l1 b1 e1 r =>
      obtain ⟨b, o, rfl, hb, c0, c1, c2, ⟨v3, c3, h3⟩, ⟨v4, c4, h4⟩, ⟨v5, c5, h5⟩, h6, hr⟩ := hrow' (by simp [SS.len])
      clear hrow hrow'
      obtain ⟨A3, cap3, rfl, _⟩ := id h3
      obtain ⟨A4, cap4, rfl, _⟩ := id h4
      obtain ⟨A5, cap5, rfl, _⟩ := id h5
      have hlt : k < len := by simp [SS.len] at hk; omega
      have hN2 : (pre ++ xs).length < N := by simp [SS.len] at hN' ⊢; omega
      have d0 := (hW'.cell (p := ⟨b, o + k * 6, none⟩) hb).trans c0
      have d1 := (hW'.cell (p := ⟨b, o + k * 6 + 1, none⟩) hb).trans c1
      have d2 := (hW'.cell (p := ⟨b, o + k * 6 + 2, none⟩) hb).trans c2
      have d3 := (hW'.cell (p := ⟨b, o + k * 6 + 3, none⟩) hb).trans c3
      have d4 := (hW'.cell (p := ⟨b, o + k * 6 + 4, none⟩) hb).trans c4
      have d5 := (hW'.cell (p := ⟨b, o + k * 6 + 5, none⟩) hb).trans c5
      clear c0 c1 c2 c3 c4 c5
      have hcnt : (Pt.mk true op s1 n1 l1 b1 e1).cnt ≤ K ∧ r.cnt ≤ K := by simp only [SS.cnt, Pt.cnt] at hrK ⊢; omega
      obtain ⟨x, hxv, hxp⟩ : ∃ x : PX B w0 K, x.v = .agg #[.bool true, .int .i64 op, .string s1, .int .i64 n1, .slice A3 l1.len cap3, .slice A4 b1.len cap4, .slice A5 e1.len cap5] ∧ x.p = ⟨true, op, s1, n1, l1, b1, e1⟩ :=
        ⟨⟨_, ⟨true, op, s1, n1, l1, b1, e1⟩, ⟨_, _, _, rfl, h3, h4, h5, h6⟩, hcnt.1⟩, rfl, rfl⟩
      have HY := fun w1 (hb : Below wr.heap.size wr w1) => hand_step (n := n - 1) hY hJa hJ' hb hN2 x
      rw [hxv] at HY
      have HXP := Lib.hid hxp
      clear hxv hxp
      have HP := Lib.hid hp; clear hp
      have HK := Lib.hid hk; clear hk
      gi_wp2_with (first
        | (gi_at_call 70; refine (callsIn_wide.2 (ofStmt_any _ _ _ _ _ _ _ _ _ _ _ _ _)).mono ?_; rintro e w1 ⟨rfl, hb1⟩; have hb2 : Below wr.heap.size wr w1 := ((Below.refl _ _).alloc (Nat.le_refl _) _).trans (hb1.mono (by simp)); obtain ⟨fn, tmps, assign, body, hy, hR⟩ := HY w1 hb2)
        | (refine hR.mono ?_; clear hR; rintro e W3 (⟨rfl, hJ3, hb3⟩ | ⟨rfl, hJx3⟩)))
      · go_roundw
        case rel =>
          have hb4 : Below B wr W3 := (hb2.mono (by have := hW'.size; omega)).trans hb3
          refine ⟨k + 1, xs ++ [x], r, by go_num, ?_, ?_, hcnt.2, fun h => ⟨b, o, rfl, hb, ?_⟩, ?_, ?_, hW'.trans hb4, hW''.trans hb4⟩
          · rw [HP.out]; simp [SS.pts, HXP.out]
          · have := HK.out; simp [SS.len] at this; omega
          · rw [show o + (k + 1) * 6 = o + k * 6 + 6 by omega]; exact hr
          · simp [SS.len] at hN' ⊢; omega
          · simpa [List.append_assoc] using hJ3
        case measure => simp [intOf]; omega
      · go_ret
        refine .inr ⟨rfl, xs ++ [x], ⟨r.pts, by rw [HP.out]; simp [SS.pts, HXP.out]⟩, by simpa [List.append_assoc] using hJx3⟩

end Go.Proofs.YtahclmofioiibaaDoor
