/-
  byName: the map of functions, of several of one name the first.
-/
import Derived.Test.YtacleafbjbhcgaaLbH
namespace Go.Proofs.Ytacleafbjbhcgaa
open Go Go.RowKit Go.Lib Go.Shelf
attribute [local go_sem] Oper.semAt_some wide_fn wide_depth round_fn round_depth

/-- The map's datum when these have come. -/
def dOf {B : Nat} {w : World} (l : List (FX B w)) : DataW Value := l.foldl (fun D x => D.put (.string x.f.s.data.toList) (.held x.v)) (.map [])
theorem dOf_snoc {B : Nat} {w : World} (l : List (FX B w)) (x : FX B w) : dOf (l ++ [x]) = (dOf l).put (.string x.f.s.data.toList) (.held x.v) := by
  unfold dOf; rw [List.foldl_append]; rfl
theorem dOf_map {B : Nat} {w : World} (l : List (FX B w)) : Maps.IsMap (dOf l) := by
  unfold dOf
  suffices h : ∀ (D : DataW Value), Maps.IsMap D → Maps.IsMap (l.foldl (fun D x => D.put (.string x.f.s.data.toList) (.held x.v)) D) from h _ Maps.isMap_empty
  induction l with
  | nil => exact fun D h => h
  | cons x r ih => exact fun D h => ih _ (h.put _ _)
theorem bs_eq {s t : ByteArray} (h : s.data.toList = t.data.toList) : s = t := by
  obtain ⟨⟨l⟩⟩ := s
  obtain ⟨⟨m⟩⟩ := t
  simp at h
  rw [h]
theorem dOf_at {B : Nat} {w : World} (s : ByteArray) : ∀ (fs : List Fn) (l : List (FX B w)), l.map (·.f) = fs.reverse →
    ∃ nm vps A' n' cap', (dOf l).atKey (.string s.data.toList) (.held zeroF) = .held (.agg #[.string nm, vps, .slice A' n' cap']) ∧ RowV (PsIn w (findP fs s)) B (findP fs s).length vps
  | [], l, h => by
    obtain rfl : l = [] := by simpa using h
    exact ⟨_, _, _, _, _, rfl, none, 0, rfl, Nat.le_refl _, by decide, fun h => by simp [findP] at h⟩
  | f :: r, l, h => by
    rw [List.reverse_cons] at h
    obtain ⟨l', l2, rfl, h1, h2⟩ := List.map_eq_append_iff.1 h
    obtain ⟨x, rfl, hx⟩ : ∃ x, l2 = [x] ∧ x.f = f := by
      match l2, h2 with
      | [x], h2 => exact ⟨x, rfl, by simpa using h2⟩
    rw [dOf_snoc, findP]
    by_cases hs : f.s = s
    · rw [if_pos hs, hx, hs, Maps.atKey_put_same (dOf_map _) (by unfold WideAt.IsKeyLit; trivial)]
      exact ⟨_, _, _, _, _, rfl, by rw [← hx]; exact x.hp⟩
    · rw [if_neg hs, Maps.atKey_put_other (fun e => hs (by rw [hx] at e; injection e with e; exact (bs_eq e).symm))]
      exact dOf_at s r l' h1

theorem backward_any (A : Option Addr) (n cap : Nat) (w : World) :
    Calls Try.prog 17 #[.slice A n cap] w fun e w' => e = .returned (.func (.func 22) #[] #[.pointer (some ⟨w.heap.size, 0, none⟩)]) ∧ w.alloc (.cells #[.slice A n cap] 22) = w' := by
  go_enter Try.func17, Try.ntmps17
  go_wp2
  go_ret
  exact ⟨rfl, rfl⟩

theorem cells_own {β : Type} (B : Nat) (cs : Array Value) (t : TypeId) : Own (fun (_ : β) W => W.heap[B]? = some (.cells cs t (0, 0))) := fun s X Y row hs hg hrow =>
  (hg.block B (Array.getElem?_eq_some_iff.1 hs).1 (fun e' => by obtain ⟨o, ho, hc⟩ := hrow B e'.symm; rw [hs] at ho; cases ho; cases hc)).trans hs
def InvN (B : Nat) (w00 w : World) (pre : List (FX B w00)) (W : World) : Prop :=
  Boxed W (w.heap.size + 1) 44 (.map (some w.heap.size)) ∧ W.ownsMap Try.prog 9 RV w.heap.size pre.length (dOf pre) ∧ Below w.heap.size w W
theorem invN_own (B : Nat) (w00 w : World) (N : Nat) (hN : N = w.heap.size + 3) : OwnFrom N (InvN B w00 w) := fun s W W' row ⟨h1, h2, h3⟩ hg hr =>
  ⟨h1.kept hg (fun e => by have := (hr _ e.symm).1; omega), h2.kept hg (fun e => by have := (hr _ e.symm).1; omega), h3.grown hg h3.size (fun k e => by have := (hr k e).1; omega)⟩

set_option maxRecDepth 100000 in
set_option maxHeartbeats 4000000 in
theorem byname_any (B : Nat) (w00 w : World) (h00 : Below B w00 w) (hB : B ≤ w.heap.size) (fs : List Fn) (A : Option Addr) (cap : Nat) (hv : FV B w00 (.slice A fs.length cap) fs) :
    Calls Try.prog 12 #[.slice A fs.length cap] w fun e w' => e = .returned (.map (some w.heap.size)) ∧ Below w.heap.size w w' ∧ w.heap.size < w'.heap.size ∧ FMap B w.heap.size fs w00 w' := by
  have hmm := @run_makeMap Try.prog
  refine (callsIn_wide (n := 9)).1 ?_
  refine callsIn_of_wp_marks Try.func12 rfl trivial ?_ rfl
  simp only [Try.ntmps12, List.size_toArray, List.length_cons, List.length_nil, Nat.reduceAdd, Nat.reduceSub, Array.replicate_succ, Array.replicate_zero, List.push_toArray, List.append_toArray, List.nil_append, List.cons_append]
  gi_wp2_with (gi_at_call 17; ((with_reducible refine (callsIn_wide.2 (backward_any _ _ _ _)).mono ?_); rintro e w1 ⟨rfl, rfl⟩))
  obtain ⟨W2, hW2⟩ : ∃ W2, ((w.alloc (.map #[] 0)).alloc (.cells #[.map (some w.heap.size)] 44)).alloc (.cells #[.slice A fs.length cap] 22) = W2 := ⟨_, rfl⟩
  have hsz : W2.heap.size = w.heap.size + 3 := by rw [← hW2, World.size_alloc, World.size_alloc, World.size_alloc]
  have hbx : W2.heap[w.heap.size + 2]? = some (.cells #[.slice A fs.length cap] 22) := by
    rw [← hW2]
    have := heap_alloc_new ((w.alloc (.map #[] 0)).alloc (.cells #[.map (some w.heap.size)] 44)) (.cells #[.slice A fs.length cap] 22)
    simpa using this
  have hI0 : InvN B w00 w [] W2 := by
    rw [← hW2]
    refine ⟨Boxed.alloc ?_ _, ((World.ownsMap_made w _ _ _).alloc _).alloc _, ((((Below.refl _ w).alloc (Nat.le_refl _) _).alloc (by simp) _).alloc (by simp only [World.size_alloc]; omega) _)⟩
    have := Boxed.new (w.alloc (.map #[] 0)) 44 (.map (some w.heap.size))
    simpa using this
  have h02 : Below B w00 W2 := h00.trans (hI0.2.2.mono hB)
  rw [hW2]
  clear hW2
  refine wpIn_rangeFunc_ownH rfl (by decide) (gf := 22) (lb := #[.pointer (some ⟨w.heap.size + 2, 0, none⟩)]) rfl trivial (enters_of Try.func22 (by kernel_rfl) rfl)
    (encs := fun x : FX B w00 => #[.int .i64 x.z, x.v]) (Kp := Kq B (w.heap.size + 2)) (S := fun xs => xs.map (·.f) = fs.reverse) (Sp := fun _ => True) (N := fs.length) (w0 := W2)
    (fun l J Jx W hW _ _ hY h0 => (back1_in _ B (w.heap.size + 2) w00 W2 h02 l fs A cap hbx hv J Jx (fun m pre x W1 hj hl => YieldAt.wide m (hY pre x W1 hj hl)) W ⟨hW.mono (by omega), fun hl => hW.block _ hl⟩ h0).mono fun e W' h => ⟨h.1, h.2.imp id (fun ⟨p, hp⟩ => ⟨p, trivial, hp⟩)⟩)
    Kq.trans (Kq.put (by omega) (by omega)) (Below.refl _ _) (fun _ => rfl)
    (InvN B w00 w) (fun _ _ _ => False) (invN_own B w00 w _ hsz) (fun _ _ _ _ _ hs _ _ => hs) hI0
    (fun x a' W => ∃ Bx, w.heap.size + 2 ≤ Bx ∧ W.heap[Bx]? = some (.cells #[.string x.f.s, .slice x.A x.f.ps.length x.cap, .slice x.A' x.f.b.len x.cap'] 31 (0, 0)) ∧ a' = { tmps := #[.slice A fs.length cap, undef, .map none, .pointer (some ⟨w.heap.size + 1, 0, none⟩), undef, .pointer (some ⟨Bx, 0, none⟩), .map (some w.heap.size), .slice A fs.length cap, .func (.func 22) #[] #[.pointer (some ⟨w.heap.size + 2, 0, none⟩)], .int .i64 x.z, x.v, undef, undef, undef, undef, undef], defers := [] })
    (fun x a' _ X Y row hs hg hr => by
      obtain ⟨Bx, h1, h2, h3⟩ := hs
      exact ⟨Bx, h1, cells_own Bx _ _ () X Y row h2 hg (fun r e => (hr r e).2), h3⟩)
    ?assign ?body ?done ?stop
  case assign =>
    rintro l pre x W K hI hK
    have hK' := hK _ _ ((KeepsOthers.alloc _ (.cells #[.string x.f.s, .slice x.A x.f.ps.length x.cap, .slice x.A' x.f.b.len x.cap'] 31)).from _) ⟨(Below.refl _ W).alloc (Nat.le_trans hB hI.2.2.size) _, fun hl => Below.heap_alloc _ _ _ hl⟩ ((invN_own B w00 w _ rfl).alloc _ hI) ⟨W.heap.size, by have := hI.1.lt; omega, heap_alloc_new W _, rfl⟩
    clear hK
    obtain ⟨z, f, A1, c1, A2, c2, p1, p2, p3⟩ := x
    simp only [FX.v] at hK' ⊢
    gi_wp2
    exact hK'
  case body =>
    rintro l pre x a' W hl ⟨r, hr⟩ ⟨hbox, hmap, hbel⟩ ⟨Bx, hBx, hbx1, rfl⟩ hlt
    have o0 := hbox.cell
    have hsx := hbox.lt
    obtain ⟨z, f, A1, c1, A2, c2, p1, p2, p3⟩ := x
    simp only [FX.v] at hbx1 ⊢
    have x0 : W.cell? ⟨Bx, 0, none⟩ = some (.string f.s) := (box_cell hbx1 0).trans rfl
    have x1 : W.cell? ⟨Bx, 1, none⟩ = some (.slice A1 f.ps.length c1) := (box_cell hbx1 1).trans rfl
    have x2 : W.cell? ⟨Bx, 2, none⟩ = some (.slice A2 f.b.len c2) := (box_cell hbx1 2).trans rfl
    have HM := Lib.hid hmap
    have HB := Lib.hid hbel
    have HX := Lib.hid hbox
    obtain ⟨hv1, hv2⟩ : fs.length ≤ cap ∧ cap ≤ 9223372036854775807 := by
      obtain ⟨A1, cap1, e1, hc1, hc2, _⟩ := hv
      injection e1 with _ _ e4
      subst e4
      exact ⟨hc1, hc2⟩
    clear hmap hbel hbox hbx1
    gi_wp2_with (gi_at_mapUpdate; refine wpListIn_mapUpdate_own _ rfl _ _ _ 44 rfl 9 31 (Maps.string_keyed Try.underlying9) Try.underlying44 RV w.heap.size pre.length (dOf pre) rfl HM.out (by unfold maxLen; omega) _ _ (.string f.s.data.toList) rfl rfl (Go.WideMaps.keyOf_string_mk Try.underlying9 (by unfold maxLen; omega)) (.held (.agg #[.string f.s, .slice A1 f.ps.length c1, .slice A2 f.b.len c2])) [] rfl ?_; intro w3 hown3 hgrow3)
    refine ⟨KeepsFrom.of_grownBy hgrow3 (fun j e => by cases e; omega), ⟨(Below.refl B W).grown hgrow3 (Nat.le_trans hB HB.out.size) (fun k e => by cases e; exact hB), fun hl2 => World.grownBy.block hgrow3 _ hl2 (fun e => by injection e with e; omega)⟩, HX.out.kept hgrow3 (fun e => by injection e with e; omega), ?_, HB.out.grown hgrow3 HB.out.size (fun k e => by cases e; exact Nat.le_refl _)⟩
    rw [dOf_snoc, List.length_append]
    exact hown3
  case done =>
    rintro D xs W hD hxs ⟨hbox, hmap, hbel⟩ hK
    have o0 := hbox.cell
    have hsx := hbox.lt
    have HM := Lib.hid hmap
    have HB := Lib.hid hbel
    clear hmap hbel hbox
    gi_wp2
    refine ⟨by simp, .inl ⟨_, _, rfl, run_takeDeferred hK, ?_⟩⟩
    have hg := grownBy_putObj' W D (.deferred none)
    exact ⟨_, results_tmp rfl _ _ _, rfl, HB.out.grown hg HB.out.size (fun k e => by cases e; omega), by have := World.grownBy.size hg; omega, hB, xs.length, dOf xs, HM.out.kept hg (fun e => by injection e with e; omega), fun s => dOf_at s fs xs hxs⟩
  case stop =>
    rintro D c pre W _ _ h _
    exact h.elim
end Go.Proofs.Ytacleafbjbhcgaa
