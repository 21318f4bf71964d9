/-
  slices.Backward over functions: its iterator.
-/
import Derived.Test.YtacleafbjbhcgaaLbG
import Derived.RangeFuncNested
import Derived.RangeFuncBound
import Derived.RangeFuncCalls
import Derived.RangeFuncLeaves
import Derived.RangeFuncBox
import Derived.Shelf.Abstract
import Derived.OwnWalkIn
import Derived.TacticsInMore
import Derived.LoopNIn
import Derived.LoopIn
import Derived.Maps.OwnIn
namespace Go.Proofs.Ytacleafbjbhcgaa
open Go Go.RowKit Go.Lib Go.Shelf

theorem wide_fn (f : FuncId) : Fence.wide.fn f = True := by simp [Fence.wide]
theorem wide_depth : Fence.wide.depth.isSome = false := rfl
theorem round_fn (l : Nat) (f : FuncId) : (Fence.wide.inRound l).fn f = True := by simp [Fence.wide, Fence.inRound]
theorem round_depth (l : Nat) : (Fence.wide.inRound l).depth.isSome = false := rfl
attribute [local go_sem] Oper.semAt_some wide_fn wide_depth round_fn round_depth
theorem room_wide (k : Nat) : Fence.wide.room k := fun d h => by cases h
theorem RoundIn.wide {m m' : Nat} {P : Program} {l : Nat} {f : FuncId} {tmps : Array Value} {assign body : Code} {w : World} {R : Ending → World → Prop}
    (h : RoundIn Fence.wide m P l f tmps assign body w R) : RoundIn Fence.wide m' P l f tmps assign body w R := ⟨h.1, fun c cs _ => h.2 c cs (room_wide _)⟩
theorem YieldAt.wide {m : Nat} (m' : Nat) {P : Program} {l : Nat} {args : Array Value} {W : World} {R : Ending → World → Prop} (h : YieldAt Fence.wide m P l args W R) : YieldAt Fence.wide m' P l args W R := by
  obtain ⟨fn, tmps, assign, body, hy, hR⟩ := h
  exact ⟨fn, tmps, assign, body, hy, RoundIn.wide hR⟩

/-- A function handed on, with its place. -/
structure FX (B : Nat) (w : World) where
  z : Int
  f : Fn
  A : Option Addr
  cap : Nat
  A' : Option Addr
  cap' : Nat
  hp : RowV (PsIn w f.ps) B f.ps.length (.slice A f.ps.length cap)
  hb : SV B w (.slice A' f.b.len cap') f.b
  hs : f.s.size ≤ 9223372036854775807
def FX.v {B : Nat} {w : World} (x : FX B w) : Value := .agg #[.string x.f.s, .slice x.A x.f.ps.length x.cap, .slice x.A' x.f.b.len x.cap']

/-- What came in stands, and one block besides. -/
def Kq (B bx : Nat) (X Y : World) : Prop := Below B X Y ∧ (bx < X.heap.size → Y.heap[bx]? = X.heap[bx]?)
theorem Kq.refl (B bx : Nat) (X : World) : Kq B bx X X := ⟨Below.refl _ _, fun _ => rfl⟩
theorem Kq.trans {B bx : Nat} {X Y Z : World} (h : Kq B bx X Y) (k : Kq B bx Y Z) : Kq B bx X Z := ⟨h.1.trans k.1, fun hl => (k.2 (Nat.lt_of_lt_of_le hl h.1.size)).trans (h.2 hl)⟩
theorem Kq.put {B bx : Nat} {w : World} (hB : B ≤ w.heap.size) (hx : bx < w.heap.size) (W : World) (l : Nat) (o o' : Obj) (hl : w.heap.size ≤ l) (h : W.heap[l]? = some o) (h1 : o.isCells = false) (h2 : o.isWalk = false) : Kq B bx W (W.putObj l o') :=
  ⟨belowK_b hB W l o o' hl h h1 h2, fun hlt => World.putObj_heap_other (by omega)⟩

theorem FsIn.get {B : Nat} {W : World} : ∀ {l : List Fn} {b o i : Nat} {f : Fn}, FsIn B W l b o → l[i]? = some f → W.cell? ⟨b, o + i * 3, none⟩ = some (.string f.s) ∧ (∃ v, W.cell? ⟨b, o + i * 3 + 1, none⟩ = some v ∧ RowV (PsIn W f.ps) B f.ps.length v) ∧
    (∃ v, W.cell? ⟨b, o + i * 3 + 2, none⟩ = some v ∧ SV B W v f.b) ∧ f.s.size ≤ 9223372036854775807
  | [], _, _, _, _, _, h => by simp at h
  | g :: r, b, o, 0, f, ⟨h0, h1, h2, h3, _⟩, h => by
    have : g = f := by simpa using h
    subst this
    exact ⟨h0, h1, h2, h3⟩
  | g :: r, b, o, i + 1, f, ⟨_, _, _, _, hr⟩, h => by
    rw [show o + (i + 1) * 3 = o + 3 + i * 3 by omega]
    exact FsIn.get hr (by simpa using h)

def BackRel (B bx : Nat) (w00 w0 : World) (fs : List Fn) (J : List (FX B w00) → World → Prop) (i : Value) (wr : World) : Prop :=
  ∃ (z : Int) (k : Nat) (xs : List (FX B w00)), i = .int .i64 z ∧ Hid (z + 1 = k) ∧ -1 ≤ z ∧ z < fs.length ∧ xs.map (·.f) = (fs.drop k).reverse ∧ J xs wr ∧ Kq B bx w0 wr

set_option maxRecDepth 100000 in
set_option maxHeartbeats 4000000 in
theorem back1_in (n B bx : Nat) (w00 w0 : World) (h00 : Below B w00 w0) (l : Nat) (fs : List Fn) (A : Option Addr) (cap : Nat) (hbx : w0.heap[bx]? = some (.cells #[.slice A fs.length cap] 22)) (hv : FV B w00 (.slice A fs.length cap) fs)
    (J Jx : List (FX B w00) → World → Prop)
    (hY : ∀ m pre x W, J pre W → pre.length < fs.length → YieldAt Fence.wide m Try.prog l #[.int .i64 x.z, x.v] W fun e W' => (e = .returned (.bool true) ∧ J (pre ++ [x]) W' ∧ Kq B bx W W') ∨ (e = .returned (.bool false) ∧ Jx (pre ++ [x]) W'))
    (W : World) (hW : Kq B bx w0 W) (hJ : J [] W) :
    CallsIn Fence.wide n Try.prog 22 #[.func (.yield l) #[] #[], .pointer (some ⟨bx, 0, none⟩)] W fun e W' => (∃ v, e = .returned v) ∧ ((∃ xs : List (FX B w00), xs.map (·.f) = fs.reverse ∧ J xs W') ∨ (∃ pre : List (FX B w00), Jx pre W')) := by
  obtain ⟨A1, cap1, e1, hc1, hc2, hrow⟩ := hv
  injection e1 with e2 e3 e4
  subst e2 e4
  clear e3
  have hbl := lt_heap hbx
  have hcell := fun wr (h : Kq B bx w0 wr) => (box_cell ((h.2 hbl).trans hbx) 0).trans rfl
  have HC := Lib.hid hcell
  have e0 := hcell W hW
  clear hcell
  refine callsIn_of_wp Try.func22 rfl trivial ?_ rfl
  simp only [Try.ntmps22, List.size_toArray, List.length_cons, List.length_nil, Nat.reduceAdd, Nat.reduceSub, Array.replicate_succ, Array.replicate_zero, List.push_toArray, List.append_toArray, List.nil_append, List.cons_append]
  gi_wp2
  gi_loopw [3] (fun i wr => BackRel B bx w00 w0 fs J i wr) (fun i _ => (intOf i + 1).toNat)
  case atStart =>
    refine ⟨(fs.length : Int) - 1, fs.length, [], ?_, Lib.hid (by omega), by omega, by omega, by simp, hJ, hW⟩
    go_num
  case round =>
    obtain ⟨z, k, xs, rfl, hz, hz1, hz2, hxs, hJ', hW'⟩ := hrel
    have f0 := HC.out wr hW'
    clear e0
    by_cases h0 : 0 ≤ z
    · obtain ⟨i0, rfl⟩ := Int.eq_ofNat_of_zero_le h0
      have hi0 : i0 < fs.length := by omega
      obtain ⟨f, hf⟩ : ∃ f, fs[i0]? = some f := ⟨_, List.getElem?_eq_getElem hi0⟩
      obtain ⟨b, o, rfl, hb, hfs⟩ := hrow (by omega)
      obtain ⟨c0, ⟨v1, c1, h1⟩, ⟨v2, c2, h2⟩, h3⟩ := hfs.get hf
      obtain ⟨A6, cap6, rfl, _⟩ := id h1
      obtain ⟨A7, cap7, rfl, _⟩ := id h2
      have d0 := ((h00.trans hW'.1).cell (p := ⟨b, o + i0 * 3, none⟩) hb).trans c0
      have d1 := ((h00.trans hW'.1).cell (p := ⟨b, o + i0 * 3 + 1, none⟩) hb).trans c1
      have d2 := ((h00.trans hW'.1).cell (p := ⟨b, o + i0 * 3 + 2, none⟩) hb).trans c2
      obtain ⟨x, hxz, hxf, hxv⟩ : ∃ x : FX B w00, x.z = i0 ∧ x.f = f ∧ x.v = .agg #[.string f.s, .slice A6 f.ps.length cap6, .slice A7 f.b.len cap7] := ⟨⟨i0, f, A6, cap6, A7, cap7, h1, h2, h3⟩, rfl, rfl, rfl⟩
      have hki : i0 + 1 = k := by have := hz.out; omega
      have hxl : xs.length < fs.length := by
        have := congrArg List.length hxs
        simp at this
        omega
      have HY := hY (n - 1) xs x wr hJ' hxl
      rw [hxz, hxv] at HY
      obtain ⟨fn, tmps, assign, body, hy, hR⟩ := HY
      have HXF := Lib.hid hxf
      have HXS := Lib.hid hxs
      have HF := Lib.hid hf
      have HKI := Lib.hid hki
      clear c0 c1 c2 hxz hxf hxv hxs hf hrow hfs h1 h2 hz hki hY
      gi_wp2_with (refine hR.mono ?_; clear hR; rintro e W3 (⟨rfl, hJ3, hk3⟩ | ⟨rfl, hJx3⟩))
      · go_roundw
        case rel =>
          refine ⟨(i0 : Int) - 1, i0, xs ++ [x], by go_num, Lib.hid (by omega), by omega, by omega, ?_, hJ3, hW'.trans hk3⟩
          rw [List.map_append, HXS.out, ← HKI.out, List.drop_eq_getElem_cons hi0, List.reverse_cons, List.map_cons, List.map_nil, HXF.out]
          have e := HF.out
          rw [List.getElem?_eq_getElem hi0] at e
          rw [Option.some.inj e]
        case measure => simp [intOf]
      · refine bodyPost_ret (results_none rfl _ _ _) rfl ?_
        exact ⟨⟨_, rfl⟩, .inr ⟨_, hJx3⟩⟩
    · have hk0 : k = 0 := by have := hz.out; omega
      have HXS := Lib.hid hxs
      clear hxs hz hrow hY
      gi_wp2
      go_end0
      refine ⟨⟨_, rfl⟩, .inl ⟨xs, ?_, hJ'⟩⟩
      rw [HXS.out, hk0, List.drop_zero]
end Go.Proofs.Ytacleafbjbhcgaa
