/-
  Texts SpB SpC SpD SpE SpF: put together.
-/
import Derived.Test.YtnilklgnpfgieaaDoorSpA
/-
  What resolve keeps in memory while it walks (RIat); the closures for variables and arrays.
-/
namespace Go.Proofs.YtnilklgnpfgieaaDoor
open Go Go.RowKit Go.Lib

abbrev scO (nm : ByteArray) (np : Int) (vv va : Value) : Obj := .cells #[.string nm, .int .i64 np, vv, va] 54
abbrev varF (n : Nat) : Value := .func (.func 33) #[] #[.pointer (some ⟨n + 5, 0, none⟩), .pointer (some ⟨n + 3, 0, none⟩)]
abbrev arrF (n : Nat) : Value := .func (.func 35) #[] #[.pointer (some ⟨n + 5, 0, none⟩), .pointer (some ⟨n + 3, 0, none⟩)]
structure RIat (n : Nat) (w0 : World) (nm : ByteArray) (np : Int) (g : Gt) (c : Nat) (vv va : Value) (W : World) : Prop where
  base : Below n w0 W
  n0 : n ≤ w0.heap.size
  box : W.heap[n + 3]? = some (scO nm np vv va)
  rv : StO (n + 8) W vv g.vs
  rx : StO (n + 8) W va g.xs
  ap : ∀ k, ¬ (vv.ownBlock = some k ∧ va.ownBlock = some k)
  map : UMap (n + 4) (2 * c) g W
  seen : W.heap[n + 5]? = some (.cells #[.map (some (n + 4))] 94)
  fv : W.heap[n + 6]? = some (.cells #[varF n] 96)
  fa : W.heap[n + 7]? = some (.cells #[arrF n] 96)
  lv : g.vs.length ≤ c
  lx : g.xs.length ≤ c
def RI (n : Nat) (w0 : World) (nm : ByteArray) (np : Int) (g : Gt) (c : Nat) (W : World) : Prop := ∃ vv va, RIat n w0 nm np g c vv va W
/-- All that was there stays, but for two boxes and rows of texts. -/
def Kx (O R : Nat) (W W' : World) : Prop := W.heap.size ≤ W'.heap.size ∧ ∀ k cs t, t ≠ 9 → k ≠ O → k ≠ R → W.heap[k]? = some (.cells cs t) → W'.heap[k]? = some (.cells cs t)
theorem Kx.refl (O R : Nat) (W : World) : Kx O R W W := ⟨Nat.le_refl _, fun _ _ _ _ _ _ h => h⟩
theorem Kx.trans {O R : Nat} {W W' W'' : World} (h : Kx O R W W') (h' : Kx O R W' W'') : Kx O R W W'' := ⟨Nat.le_trans h.1 h'.1, fun k cs t ht ho hr hk => h'.2 k cs t ht ho hr (h.2 k cs t ht ho hr hk)⟩
theorem Kx.mono {O R : Nat} {W W' : World} (h : Kx O O W W') : Kx O R W W' := ⟨h.1, fun k cs t ht ho _ hk => h.2 k cs t ht ho ho hk⟩
theorem Kx.below {O R : Nat} {W W' : World} (hb : Below W.heap.size W W') : Kx O R W W' := ⟨hb.size, fun k _ _ _ _ _ hk => (hb.block k (blk_lt hk)).trans hk⟩
theorem grown_none {W W' : World} (hb : Below W.heap.size W W') : W.grownBy W' none := ⟨hb.os, hb.tape, hb.output, hb.size, fun k hk _ => hb.block k hk⟩

section
variable {n : Nat} {w0 W W' : World} {nm : ByteArray} {np : Int} {g : Gt} {c : Nat} {vv va : Value}
theorem RIat.sz (h : RIat n w0 nm np g c vv va W) : n + 8 ≤ W.heap.size := blk_lt h.fa
theorem UMap.kept {M : Nat} {row : Option Nat} (h : UMap M c g W) (hg : W.grownBy W' row) (hne : some M ≠ row) : UMap M c g W' := by
  obtain ⟨D, h1, h2⟩ := h
  exact ⟨D, h1.kept hg hne, h2⟩
theorem RIat.below (h : RIat n w0 nm np g c vv va W) (hb : Below W.heap.size W W') : RIat n w0 nm np g c vv va W' :=
  have hg := grown_none hb
  ⟨h.base.trans (hb.mono (by have := h.sz; omega)), h.n0, blk_grown h.box hg (by simp), h.rv.kept hg (Classical.em _), h.rx.kept hg (Classical.em _), h.ap, h.map.kept hg (by simp), blk_grown h.seen hg (by simp), blk_grown h.fv hg (by simp), blk_grown h.fa hg (by simp), h.lv, h.lx⟩
theorem RI.below (h : RI n w0 nm np g c W) (hb : Below W.heap.size W W') : RI n w0 nm np g c W' := by
  obtain ⟨vv, va, h⟩ := h
  exact ⟨vv, va, h.below hb⟩
theorem RI.alloc (h : RI n w0 nm np g c W) (o : Obj) : RI n w0 nm np g c (W.alloc o) := h.below ((Below.refl _ _).alloc (Nat.le_refl _) _)
theorem RI.sz (h : RI n w0 nm np g c W) : n + 8 ≤ W.heap.size := by
  obtain ⟨vv, va, h⟩ := h
  exact h.sz
theorem RI.more (h : RI n w0 nm np g c W) {d : Nat} (hd : c ≤ d) : RI n w0 nm np g d W := by
  obtain ⟨vv, va, h⟩ := h
  obtain ⟨D, h1, h2⟩ := h.map
  exact ⟨vv, va, h.base, h.n0, h.box, h.rv, h.rx, h.ap, ⟨D, h1.mono (by omega), h2⟩, h.seen, h.fv, h.fa, Nat.le_trans h.lv hd, Nat.le_trans h.lx hd⟩
theorem RI.base (h : RI n w0 nm np g c W) : Below n w0 W := by
  obtain ⟨vv, va, h⟩ := h
  exact h.base
end
theorem own_ne' {W : World} {base : Nat} {v : Value} {l : List ByteArray} {k : Nat} {cs : Array Value} {t : TypeId} (h : StO base W v l) (hk : W.heap[k]? = some (.cells cs t)) (ht : t ≠ 9) : some k ≠ v.ownBlock := own_ne h hk (Ne.symm ht)
theorem b01 (z : Int) (a b d : Bool) (hz : z = (if a = true then 1 else 0) + (if b = true then 2 else 0) + (if d = true then 4 else 0)) :
    bits BinOp.or IntKind.i64 z 1 = 1 + (if b = true then 2 else 0) + (if d = true then 4 else 0) ∧ bits BinOp.and IntKind.i64 z 1 = (if a = true then 1 else 0) ∧
    bits BinOp.or IntKind.i64 z 2 = (if a = true then 1 else 0) + 2 + (if d = true then 4 else 0) ∧ bits BinOp.and IntKind.i64 z 2 = (if b = true then 2 else 0) ∧
    bits BinOp.or IntKind.i64 z 4 = (if a = true then 1 else 0) + (if b = true then 2 else 0) + 4 ∧ bits BinOp.and IntKind.i64 z 4 = (if d = true then 4 else 0) := by
  subst hz
  cases a <;> cases b <;> cases d <;> decide
theorem withN_self (l : List ByteArray) (s : ByteArray) : s ∈ withN l s := withN_mem.2 (.inr rfl)
theorem withN_other {l : List ByteArray} {s x : ByteArray} (h : x ≠ s) : x ∈ withN l s ↔ x ∈ l := withN_mem.trans ⟨fun h' => h'.resolve_right h, .inl⟩
theorem Gt.bits_eq (g : Gt) (s : ByteArray) : g.bits s = (if decide (s ∈ g.vs) = true then 1 else 0) + (if decide (s ∈ g.xs) = true then 2 else 0) + (if decide (s ∈ g.ms) = true then 4 else 0) := by
  unfold Gt.bits; simp only [decide_eq_true_eq]
theorem bits_wf (g : Gt) (s : ByteArray) : (Lit.int .i64 (g.bits s)).wf = true := by
  unfold Gt.bits; split <;> split <;> split <;> decide
/-- The map behind a use. -/
theorem umap_put {M c z : Nat} {g g' : Gt} {s : ByteArray} {r : Int} {W' : World} {D : DataW Unit} (hm : Maps.IsMap D) (hD : ∀ s : ByteArray, D.atKey (.string s.data.toList) (.lit (.int .i64 0)) = .lit (.int .i64 (g.bits s))) (h1 : W'.ownsMap Tryd.prog 9 (plainElem Tryd.prog 3) M c (D.put (.string s.data.toList) (.lit (.int .i64 r)))) (hc : c ≤ z)
    (hr : r = g'.bits s) (ho : ∀ x, x ≠ s → g'.bits x = g.bits x) : UMap M z g' W' := by
  refine ⟨_, h1.mono hc, fun x => ?_⟩
  by_cases hx : x = s
  · subst hx
    rw [Maps.atKey_put_same hm (by unfold WideAt.IsKeyLit; trivial), hr]
  · rw [Maps.atKey_put_other (fun e => hx (by injection e with e; exact bs_eq e)), hD, ho x hx]

theorem bits_var (g : Gt) (s : ByteArray) : bits BinOp.or IntKind.i64 (g.bits s) 1 = Gt.bits { g with vs := withN g.vs s } s ∧ bits BinOp.and IntKind.i64 (g.bits s) 1 = (if s ∈ g.vs then 1 else 0) := by
  have h := b01 _ _ _ _ (g.bits_eq s)
  refine ⟨h.1.trans ?_, h.2.1.trans (by simp only [decide_eq_true_eq])⟩
  unfold Gt.bits
  simp only [withN_self, if_true, decide_eq_true_eq]
theorem bits_var_o (g : Gt) (s x : ByteArray) (h : x ≠ s) : Gt.bits { g with vs := withN g.vs s } x = g.bits x := by
  unfold Gt.bits
  simp only [withN_other h]
set_option maxHeartbeats 1000000 in
/-- A name that comes anew: what the walk has laid. -/
theorem RIat.var_new {n : Nat} {w0 w w1 w3 : World} {nm s : ByteArray} {np : Int} {g : Gt} {c : Nat} {vv va v' : Value} (h : RIat n w0 nm np g c vv va w) (hg1 : w.grownBy w1 (some (n + 4))) (hm : UMap (n + 4) (2 * (c + 1)) { g with vs := withN g.vs s } w1) (hs : ¬ s ∈ g.vs)
    (hg3 : (w1.alloc (strO s)).grownBy w3 vv.ownBlock) (ho : StO (n + 8) w3 v' (g.vs ++ [s])) (hat : v'.ownBlock = vv.ownBlock ∨ v'.ownBlock = some (w1.alloc (strO s)).heap.size) :
    RIat n w0 nm np { g with vs := withN g.vs s } (c + 1) v' va (w3.setCell ⟨n + 3, 2, none⟩ v') ∧ Kx (n + 3) (n + 3) w (w3.setCell ⟨n + 3, 2, none⟩ v') := by
  have hsz := h.sz
  have hw1 := World.grownBy.size hg1
  have hga : w1.grownBy (w1.alloc (strO s)) none := World.grownBy_alloc w1 _ none
  have hwn : withN g.vs s = g.vs ++ [s] := by unfold withN; rw [if_neg hs]
  have row1 : ∀ {v : Value} {l : List ByteArray}, StO (n + 8) w v l → StO (n + 8) (w1.alloc (strO s)) v l := fun hv => (hv.kept hg1 (.inr (fun e => by have := (hv.lt _ e).1; omega))).kept hga (Classical.em _)
  have r1 := row1 h.rv
  have r2 := row1 h.rx
  have blk1 : ∀ {k : Nat} {cs : Array Value} {t : TypeId}, w.heap[k]? = some (.cells cs t) → k ≠ n + 4 → (w1.alloc (strO s)).heap[k]? = some (.cells cs t) := fun hk hne => blk_grown (blk_grown hk hg1 (fun e => hne (Option.some.inj e))) hga (by simp)
  have blk3 : ∀ {k : Nat} {cs : Array Value} {t : TypeId}, w.heap[k]? = some (.cells cs t) → k ≠ n + 4 → t ≠ 9 → w3.heap[k]? = some (.cells cs t) := fun hk hne ht => blk_grown (blk1 hk hne) hg3 (own_ne' r1 (blk1 hk hne) ht)
  have set3 : ∀ {k : Nat} {o : Obj}, w3.heap[k]? = some o → k ≠ n + 3 → (w3.setCell ⟨n + 3, 2, none⟩ v').heap[k]? = some o := fun hk hne => (Below.heap_setCell _ _ _ _ (by simpa using hne)).trans hk
  have hlt1 : ∀ k, vv.ownBlock = some k → n + 8 ≤ k ∧ k < (w1.alloc (strO s)).heap.size := fun k e => by have := r1.lt k e; exact this
  have ne3 : ∀ k, k < n + 8 → some k ≠ vv.ownBlock := fun k hk e => by have := (hlt1 k e.symm).1; omega
  have box3 := blk3 h.box (by omega) (by decide)
  have neB : some (n + 3) ≠ v'.ownBlock := fun e => by have := (ho.lt _ e.symm).1; omega
  have neO : some (n + 3) ≠ va.ownBlock := fun e => by have := (r2.lt _ e.symm).1; omega
  have hsw : World.grownBy w3 (w3.setCell ⟨n + 3, 2, none⟩ v') (some (n + 3)) := ⟨rfl, rfl, rfl, by simp, fun k _ hk => Below.heap_setCell _ _ _ _ (fun e => hk (by rw [e]))⟩
  refine ⟨{ base := ?ba, n0 := h.n0, box := (blk_set box3 2 _).trans rfl, rv := ?mr, rx := ?ro, ap := ?ap, map := ?mp, seen := set3 (blk3 h.seen (by omega) (by decide)) (by omega), fv := set3 (blk3 h.fv (by omega) (by decide)) (by omega), fa := set3 (blk3 h.fa (by omega) (by decide)) (by omega), lv := ?lm, lx := Nat.le_succ_of_le h.lx }, ?k1, ?k2⟩
  case ba =>
    refine Below.setCell ?_ (p := ⟨n + 3, 2, none⟩) (by simp only; omega) _
    refine ((h.base.grown hg1 (by omega) (fun k e => by injection e with e; omega)).alloc (by omega) _).grown hg3 (by simp only [World.size_alloc]; omega) (fun k e => by have := (hlt1 k e).1; omega)
  case mr =>
    rw [hwn]; exact own_set (a := ⟨n + 3, 2, none⟩) ho neB _
  case ro =>
    refine own_set (a := ⟨n + 3, 2, none⟩) (r2.kept hg3 ?_) neO _
    cases h0 : va.ownBlock with
    | none => exact .inl rfl
    | some k => exact .inr fun e => h.ap k ⟨e.symm, h0⟩
  case ap =>
    intro k hk
    rcases hat with hat | hat
    · exact h.ap k ⟨hat ▸ hk.1, hk.2⟩
    · have h1 : va.ownBlock = some k := hk.2
      have h2 : v'.ownBlock = some k := hk.1
      rw [hat] at h2
      injection h2 with h2
      have := (r2.lt _ h1).2
      omega
  case mp =>
    exact UMap.kept (UMap.kept (UMap.kept hm hga (by simp)) hg3 (ne3 _ (by omega))) hsw (by simp)
  case lm =>
    show (withN g.vs s).length ≤ c + 1
    rw [hwn]; have := h.lv; simp; omega
  case k1 =>
    have h1 : w1.heap.size + 1 ≤ w3.heap.size := by have := World.grownBy.size hg3; simpa using this
    have h2 : (w3.setCell ⟨n + 3, 2, none⟩ v').heap.size = w3.heap.size := by simp
    rw [h2]; omega
  case k2 =>
    intro k cs t ht h1 _ hk
    refine set3 ?_ h1
    by_cases h4 : k = n + 4
    · exfalso
      obtain ⟨D, ⟨es, cl, hb, _⟩, _⟩ := h.map
      rw [h4, hb] at hk
      cases hk
    · exact blk3 hk h4 ht
/-- A name that was there: what the walk has laid. -/
theorem RIat.var_old {n : Nat} {w0 w w1 : World} {nm s : ByteArray} {np : Int} {g : Gt} {c : Nat} {vv va : Value} (h : RIat n w0 nm np g c vv va w) (hg1 : w.grownBy w1 (some (n + 4))) (hm : UMap (n + 4) (2 * (c + 1)) { g with vs := withN g.vs s } w1) (hs : s ∈ g.vs) :
    RIat n w0 nm np { g with vs := withN g.vs s } (c + 1) vv va w1 ∧ Kx (n + 3) (n + 3) w w1 := by
  have hsz := h.sz
  have hwn : withN g.vs s = g.vs := by unfold withN; rw [if_pos hs]
  have row1 : ∀ {v : Value} {l : List ByteArray}, StO (n + 8) w v l → StO (n + 8) w1 v l := fun hv => hv.kept hg1 (.inr (fun e => by have := (hv.lt _ e).1; omega))
  have blk1 : ∀ {k : Nat} {cs : Array Value} {t : TypeId}, w.heap[k]? = some (.cells cs t) → k ≠ n + 4 → w1.heap[k]? = some (.cells cs t) := fun hk hne => blk_grown hk hg1 (fun e => hne (Option.some.inj e))
  refine ⟨{ base := h.base.grown hg1 (by omega) (fun k e => by injection e with e; omega), n0 := h.n0, box := blk1 h.box (by omega), rv := ?mr, rx := row1 h.rx, ap := h.ap, map := hm, seen := blk1 h.seen (by omega), fv := blk1 h.fv (by omega), fa := blk1 h.fa (by omega), lv := ?lm, lx := Nat.le_succ_of_le h.lx }, World.grownBy.size hg1, fun k cs t _ _ _ hk => blk1 hk ?k4⟩
  case mr => rw [hwn]; exact row1 h.rv
  case lm =>
    show (withN g.vs s).length ≤ c + 1
    rw [hwn]; exact Nat.le_succ_of_le h.lv
  case k4 =>
    intro h4
    obtain ⟨D, ⟨es, cl, hb, _⟩, _⟩ := h.map
    rw [h4, hb] at hk
    cases hk
set_option maxRecDepth 100000 in
set_option maxHeartbeats 1000000 in
/-- The closure variable. -/
theorem variable_any (n : Nat) (w0 : World) (nm : ByteArray) (np : Int) (g : Gt) (c : Nat) (s : ByteArray) (w : World) (h : RI n w0 nm np g c w) (hs : s.size ≤ 9223372036854775807) (hc : c ≤ 90000000) :
    Calls Tryd.prog 33 #[.string s, .pointer (some ⟨n + 5, 0, none⟩), .pointer (some ⟨n + 3, 0, none⟩)] w fun e w' => e = .returned (.tuple #[]) ∧ RI n w0 nm np { g with vs := withN g.vs s } (c + 1) w' ∧ Kx (n + 3) (n + 3) w w' := by
  obtain ⟨vv, va, h⟩ := h
  obtain ⟨D, hD1, hD2⟩ := id h.map
  obtain ⟨b1, b2⟩ := bits_var g s
  have hF := ufirst_any (n + 4) (2 * c) D s 1 (g.bits s) _ _ w hD1 (hD2 s) b1 b2 hs (by omega) (bits_wf _ s)
  have hUm := Lib.hid fun (w1 : World) (h1 : w1.ownsMap Tryd.prog 9 (plainElem Tryd.prog 3) (n + 4) (2 * c + 1) (D.put (.string s.data.toList) (.lit (.int .i64 (Gt.bits { g with vs := withN g.vs s } s))))) => umap_put (z := 2 * (c + 1)) hD1.isMap hD2 h1 (by omega) rfl (bits_var_o g s)
  have s0 : w.cell? ⟨n + 5, 0, none⟩ = some (.map (some (n + 4))) := (blk_cell h.seen 0).trans rfl
  have hsz := h.sz
  have H := Lib.hid h
  clear hD1 hD2 b1 b2 h
  by_cases hm : s ∈ g.vs
  · rw [if_pos hm] at hF
    have HM := Lib.hid hm; clear hm
    have hF := Lib.hid hF
    go_enter Tryd.func33, Tryd.ntmps33
    go_wp2_with (go_at_call 34; ((with_reducible refine hF.out.mono ?_); rintro e w1 ⟨rfl, h1, h2⟩))
    go_end0
    have hh := H.out.var_old h2 (hUm.out w1 h1) HM.out
    exact ⟨rfl, ⟨_, _, hh.1⟩, hh.2⟩
  · rw [if_neg hm] at hF
    have HM := Lib.hid hm; clear hm
    have hF := Lib.hid hF
    have hlen : g.vs.length ≤ 100000000 := by have := H.out.lv; omega
    go_enter Tryd.func33, Tryd.ntmps33
    go_wp2_with (first
      | (go_at_call 34; ((with_reducible refine hF.out.mono ?_); rintro e w1 ⟨rfl, h1, h2⟩; have z0 := blk_grown H.out.box h2 (by simp); have z2 : w1.cell? ⟨n + 3, 2, none⟩ = some vv := (blk_cell z0 2).trans rfl; have s1 := World.grownBy.size h2; have hr1 := H.out.rv.kept h2 (.inr (fun e => by have := (H.out.rv.lt _ e).1; omega)); have HR := Lib.hid (hr1.kept (World.grownBy_alloc w1 (strO s) none) (Classical.em _)); clear hr1))
      | (at_builtin; refine wp_app_st rfl rfl HR.out (by simp only [World.size_alloc]; omega) rfl rfl (heap_alloc_new _ _) hlen ?_; intro v7 w7 hown7 hg7 hat7; obtain ⟨X7, c7, rfl⟩ := own_form hown7; have z7 := blk_grown (blk_alloc z0 (strO s)) hg7 (own_ne' HR.out (blk_alloc z0 (strO s)) (by decide)); have zf := blk_frozen z7 2; have zl7 := blk_lt z7; have z8 : w7.cell? ⟨n + 3, 2, none⟩ = some vv := (blk_cell z7 2).trans rfl))
    go_end0
    have hh := H.out.var_new h2 (hUm.out w1 h1) HM.out hg7 hown7 hat7
    rw [show (g.vs ++ [s]).length = g.vs.length + 1 by simp] at hh
    exact ⟨rfl, ⟨_, _, hh.1⟩, hh.2⟩

theorem bits_arr (g : Gt) (s : ByteArray) : bits BinOp.or IntKind.i64 (g.bits s) 2 = Gt.bits { g with xs := withN g.xs s } s ∧ bits BinOp.and IntKind.i64 (g.bits s) 2 = (if s ∈ g.xs then 2 else 0) := by
  have h := b01 _ _ _ _ (g.bits_eq s)
  refine ⟨h.2.2.1.trans ?_, h.2.2.2.1.trans (by simp only [decide_eq_true_eq])⟩
  unfold Gt.bits
  simp only [withN_self, if_true, decide_eq_true_eq]
theorem bits_arr_o (g : Gt) (s x : ByteArray) (h : x ≠ s) : Gt.bits { g with xs := withN g.xs s } x = g.bits x := by
  unfold Gt.bits
  simp only [withN_other h]
set_option maxHeartbeats 1000000 in
/-- A name that comes anew: what the walk has laid. -/
theorem RIat.arr_new {n : Nat} {w0 w w1 w3 : World} {nm s : ByteArray} {np : Int} {g : Gt} {c : Nat} {vv va v' : Value} (h : RIat n w0 nm np g c vv va w) (hg1 : w.grownBy w1 (some (n + 4))) (hm : UMap (n + 4) (2 * (c + 1)) { g with xs := withN g.xs s } w1) (hs : ¬ s ∈ g.xs)
    (hg3 : (w1.alloc (strO s)).grownBy w3 va.ownBlock) (ho : StO (n + 8) w3 v' (g.xs ++ [s])) (hat : v'.ownBlock = va.ownBlock ∨ v'.ownBlock = some (w1.alloc (strO s)).heap.size) :
    RIat n w0 nm np { g with xs := withN g.xs s } (c + 1) vv v' (w3.setCell ⟨n + 3, 3, none⟩ v') ∧ Kx (n + 3) (n + 3) w (w3.setCell ⟨n + 3, 3, none⟩ v') := by
  have hsz := h.sz
  have hw1 := World.grownBy.size hg1
  have hga : w1.grownBy (w1.alloc (strO s)) none := World.grownBy_alloc w1 _ none
  have hwn : withN g.xs s = g.xs ++ [s] := by unfold withN; rw [if_neg hs]
  have row1 : ∀ {v : Value} {l : List ByteArray}, StO (n + 8) w v l → StO (n + 8) (w1.alloc (strO s)) v l := fun hv => (hv.kept hg1 (.inr (fun e => by have := (hv.lt _ e).1; omega))).kept hga (Classical.em _)
  have r1 := row1 h.rx
  have r2 := row1 h.rv
  have blk1 : ∀ {k : Nat} {cs : Array Value} {t : TypeId}, w.heap[k]? = some (.cells cs t) → k ≠ n + 4 → (w1.alloc (strO s)).heap[k]? = some (.cells cs t) := fun hk hne => blk_grown (blk_grown hk hg1 (fun e => hne (Option.some.inj e))) hga (by simp)
  have blk3 : ∀ {k : Nat} {cs : Array Value} {t : TypeId}, w.heap[k]? = some (.cells cs t) → k ≠ n + 4 → t ≠ 9 → w3.heap[k]? = some (.cells cs t) := fun hk hne ht => blk_grown (blk1 hk hne) hg3 (own_ne' r1 (blk1 hk hne) ht)
  have set3 : ∀ {k : Nat} {o : Obj}, w3.heap[k]? = some o → k ≠ n + 3 → (w3.setCell ⟨n + 3, 3, none⟩ v').heap[k]? = some o := fun hk hne => (Below.heap_setCell _ _ _ _ (by simpa using hne)).trans hk
  have hlt1 : ∀ k, va.ownBlock = some k → n + 8 ≤ k ∧ k < (w1.alloc (strO s)).heap.size := fun k e => by have := r1.lt k e; exact this
  have ne3 : ∀ k, k < n + 8 → some k ≠ va.ownBlock := fun k hk e => by have := (hlt1 k e.symm).1; omega
  have box3 := blk3 h.box (by omega) (by decide)
  have neB : some (n + 3) ≠ v'.ownBlock := fun e => by have := (ho.lt _ e.symm).1; omega
  have neO : some (n + 3) ≠ vv.ownBlock := fun e => by have := (r2.lt _ e.symm).1; omega
  have hsw : World.grownBy w3 (w3.setCell ⟨n + 3, 3, none⟩ v') (some (n + 3)) := ⟨rfl, rfl, rfl, by simp, fun k _ hk => Below.heap_setCell _ _ _ _ (fun e => hk (by rw [e]))⟩
  refine ⟨{ base := ?ba, n0 := h.n0, box := (blk_set box3 3 _).trans rfl, rx := ?mr, rv := ?ro, ap := ?ap, map := ?mp, seen := set3 (blk3 h.seen (by omega) (by decide)) (by omega), fv := set3 (blk3 h.fv (by omega) (by decide)) (by omega), fa := set3 (blk3 h.fa (by omega) (by decide)) (by omega), lx := ?lm, lv := Nat.le_succ_of_le h.lv }, ?k1, ?k2⟩
  case ba =>
    refine Below.setCell ?_ (p := ⟨n + 3, 3, none⟩) (by simp only; omega) _
    refine ((h.base.grown hg1 (by omega) (fun k e => by injection e with e; omega)).alloc (by omega) _).grown hg3 (by simp only [World.size_alloc]; omega) (fun k e => by have := (hlt1 k e).1; omega)
  case mr =>
    rw [hwn]; exact own_set (a := ⟨n + 3, 3, none⟩) ho neB _
  case ro =>
    refine own_set (a := ⟨n + 3, 3, none⟩) (r2.kept hg3 ?_) neO _
    cases h0 : vv.ownBlock with
    | none => exact .inl rfl
    | some k => exact .inr fun e => h.ap k ⟨h0, e.symm⟩
  case ap =>
    intro k hk
    rcases hat with hat | hat
    · exact h.ap k ⟨hk.1, hat ▸ hk.2⟩
    · have h1 : vv.ownBlock = some k := hk.1
      have h2 : v'.ownBlock = some k := hk.2
      rw [hat] at h2
      injection h2 with h2
      have := (r2.lt _ h1).2
      omega
  case mp =>
    exact UMap.kept (UMap.kept (UMap.kept hm hga (by simp)) hg3 (ne3 _ (by omega))) hsw (by simp)
  case lm =>
    show (withN g.xs s).length ≤ c + 1
    rw [hwn]; have := h.lx; simp; omega
  case k1 =>
    have h1 : w1.heap.size + 1 ≤ w3.heap.size := by have := World.grownBy.size hg3; simpa using this
    have h2 : (w3.setCell ⟨n + 3, 3, none⟩ v').heap.size = w3.heap.size := by simp
    rw [h2]; omega
  case k2 =>
    intro k cs t ht h1 _ hk
    refine set3 ?_ h1
    by_cases h4 : k = n + 4
    · exfalso
      obtain ⟨D, ⟨es, cl, hb, _⟩, _⟩ := h.map
      rw [h4, hb] at hk
      cases hk
    · exact blk3 hk h4 ht
/-- A name that was there: what the walk has laid. -/
theorem RIat.arr_old {n : Nat} {w0 w w1 : World} {nm s : ByteArray} {np : Int} {g : Gt} {c : Nat} {vv va : Value} (h : RIat n w0 nm np g c vv va w) (hg1 : w.grownBy w1 (some (n + 4))) (hm : UMap (n + 4) (2 * (c + 1)) { g with xs := withN g.xs s } w1) (hs : s ∈ g.xs) :
    RIat n w0 nm np { g with xs := withN g.xs s } (c + 1) vv va w1 ∧ Kx (n + 3) (n + 3) w w1 := by
  have hsz := h.sz
  have hwn : withN g.xs s = g.xs := by unfold withN; rw [if_pos hs]
  have row1 : ∀ {v : Value} {l : List ByteArray}, StO (n + 8) w v l → StO (n + 8) w1 v l := fun hv => hv.kept hg1 (.inr (fun e => by have := (hv.lt _ e).1; omega))
  have blk1 : ∀ {k : Nat} {cs : Array Value} {t : TypeId}, w.heap[k]? = some (.cells cs t) → k ≠ n + 4 → w1.heap[k]? = some (.cells cs t) := fun hk hne => blk_grown hk hg1 (fun e => hne (Option.some.inj e))
  refine ⟨{ base := h.base.grown hg1 (by omega) (fun k e => by injection e with e; omega), n0 := h.n0, box := blk1 h.box (by omega), rx := ?mr, rv := row1 h.rv, ap := h.ap, map := hm, seen := blk1 h.seen (by omega), fv := blk1 h.fv (by omega), fa := blk1 h.fa (by omega), lx := ?lm, lv := Nat.le_succ_of_le h.lv }, World.grownBy.size hg1, fun k cs t _ _ _ hk => blk1 hk ?k4⟩
  case mr => rw [hwn]; exact row1 h.rx
  case lm =>
    show (withN g.xs s).length ≤ c + 1
    rw [hwn]; exact Nat.le_succ_of_le h.lx
  case k4 =>
    intro h4
    obtain ⟨D, ⟨es, cl, hb, _⟩, _⟩ := h.map
    rw [h4, hb] at hk
    cases hk
set_option maxRecDepth 100000 in
set_option maxHeartbeats 1000000 in
/-- The closure array. -/
theorem array_any (n : Nat) (w0 : World) (nm : ByteArray) (np : Int) (g : Gt) (c : Nat) (s : ByteArray) (w : World) (h : RI n w0 nm np g c w) (hs : s.size ≤ 9223372036854775807) (hc : c ≤ 90000000) :
    Calls Tryd.prog 35 #[.string s, .pointer (some ⟨n + 5, 0, none⟩), .pointer (some ⟨n + 3, 0, none⟩)] w fun e w' => e = .returned (.tuple #[]) ∧ RI n w0 nm np { g with xs := withN g.xs s } (c + 1) w' ∧ Kx (n + 3) (n + 3) w w' := by
  obtain ⟨vv, va, h⟩ := h
  obtain ⟨D, hD1, hD2⟩ := id h.map
  obtain ⟨b1, b2⟩ := bits_arr g s
  have hF := ufirst_any (n + 4) (2 * c) D s 2 (g.bits s) _ _ w hD1 (hD2 s) b1 b2 hs (by omega) (bits_wf _ s)
  have hUm := Lib.hid fun (w1 : World) (h1 : w1.ownsMap Tryd.prog 9 (plainElem Tryd.prog 3) (n + 4) (2 * c + 1) (D.put (.string s.data.toList) (.lit (.int .i64 (Gt.bits { g with xs := withN g.xs s } s))))) => umap_put (z := 2 * (c + 1)) hD1.isMap hD2 h1 (by omega) rfl (bits_arr_o g s)
  have s0 : w.cell? ⟨n + 5, 0, none⟩ = some (.map (some (n + 4))) := (blk_cell h.seen 0).trans rfl
  have hsz := h.sz
  have H := Lib.hid h
  clear hD1 hD2 b1 b2 h
  by_cases hm : s ∈ g.xs
  · rw [if_pos hm] at hF
    have HM := Lib.hid hm; clear hm
    have hF := Lib.hid hF
    go_enter Tryd.func35, Tryd.ntmps35
    go_wp2_with (go_at_call 34; ((with_reducible refine hF.out.mono ?_); rintro e w1 ⟨rfl, h1, h2⟩))
    go_end0
    have hh := H.out.arr_old h2 (hUm.out w1 h1) HM.out
    exact ⟨rfl, ⟨_, _, hh.1⟩, hh.2⟩
  · rw [if_neg hm] at hF
    have HM := Lib.hid hm; clear hm
    have hF := Lib.hid hF
    have hlen : g.xs.length ≤ 100000000 := by have := H.out.lx; omega
    go_enter Tryd.func35, Tryd.ntmps35
    go_wp2_with (first
      | (go_at_call 34; ((with_reducible refine hF.out.mono ?_); rintro e w1 ⟨rfl, h1, h2⟩; have z0 := blk_grown H.out.box h2 (by simp); have z2 : w1.cell? ⟨n + 3, 3, none⟩ = some va := (blk_cell z0 3).trans rfl; have s1 := World.grownBy.size h2; have hr1 := H.out.rx.kept h2 (.inr (fun e => by have := (H.out.rx.lt _ e).1; omega)); have HR := Lib.hid (hr1.kept (World.grownBy_alloc w1 (strO s) none) (Classical.em _)); clear hr1))
      | (at_builtin; refine wp_app_st rfl rfl HR.out (by simp only [World.size_alloc]; omega) rfl rfl (heap_alloc_new _ _) hlen ?_; intro v7 w7 hown7 hg7 hat7; obtain ⟨X7, c7, rfl⟩ := own_form hown7; have z7 := blk_grown (blk_alloc z0 (strO s)) hg7 (own_ne' HR.out (blk_alloc z0 (strO s)) (by decide)); have zf := blk_frozen z7 3; have zl7 := blk_lt z7; have z8 : w7.cell? ⟨n + 3, 3, none⟩ = some va := (blk_cell z7 3).trans rfl))
    go_end0
    have hh := H.out.arr_new h2 (hUm.out w1 h1) HM.out hg7 hown7 hat7
    rw [show (g.xs ++ [s]).length = g.xs.length + 1 by simp] at hh
    exact ⟨rfl, ⟨_, _, hh.1⟩, hh.2⟩

theorem bits_mk (g : Gt) (s : ByteArray) : bits BinOp.or IntKind.i64 (g.bits s) 4 = Gt.bits { g with ms := withN g.ms s } s ∧ bits BinOp.and IntKind.i64 (g.bits s) 4 = (if s ∈ g.ms then 4 else 0) := by
  have h := b01 _ _ _ _ (g.bits_eq s)
  refine ⟨h.2.2.2.2.1.trans ?_, h.2.2.2.2.2.trans (by simp only [decide_eq_true_eq])⟩
  unfold Gt.bits
  simp only [withN_self, if_true, decide_eq_true_eq]
theorem bits_mk_o (g : Gt) (s x : ByteArray) (h : x ≠ s) : Gt.bits { g with ms := withN g.ms s } x = g.bits x := by
  unfold Gt.bits
  simp only [withN_other h]
theorem RIat.mk_old {n : Nat} {w0 w w1 : World} {nm s : ByteArray} {np : Int} {g : Gt} {c : Nat} {vv va : Value} (h : RIat n w0 nm np g c vv va w) (hg1 : w.grownBy w1 (some (n + 4))) (hm : UMap (n + 4) (2 * (c + 1)) { g with ms := withN g.ms s } w1) :
    RIat n w0 nm np { g with ms := withN g.ms s } (c + 1) vv va w1 ∧ Kx (n + 3) (n + 3) w w1 := by
  have hsz := h.sz
  have row1 : ∀ {v : Value} {l : List ByteArray}, StO (n + 8) w v l → StO (n + 8) w1 v l := fun hv => hv.kept hg1 (.inr (fun e => by have := (hv.lt _ e).1; omega))
  have blk1 : ∀ {k : Nat} {cs : Array Value} {t : TypeId}, w.heap[k]? = some (.cells cs t) → k ≠ n + 4 → w1.heap[k]? = some (.cells cs t) := fun hk hne => blk_grown hk hg1 (fun e => hne (Option.some.inj e))
  refine ⟨{ base := h.base.grown hg1 (by omega) (fun k e => by injection e with e; omega), n0 := h.n0, box := blk1 h.box (by omega), rv := row1 h.rv, rx := row1 h.rx, ap := h.ap, map := hm, seen := blk1 h.seen (by omega), fv := blk1 h.fv (by omega), fa := blk1 h.fa (by omega), lv := Nat.le_succ_of_le h.lv, lx := Nat.le_succ_of_le h.lx }, World.grownBy.size hg1, fun k cs t _ _ _ hk => blk1 hk ?k4⟩
  case k4 =>
    intro h4
    obtain ⟨D, ⟨es, cl, hb, _⟩, _⟩ := h.map
    rw [h4, hb] at hk
    cases hk
end Go.Proofs.YtnilklgnpfgieaaDoor

/-
  The closures that walk hands statements and expressions to.
-/
namespace Go.Proofs.YtnilklgnpfgieaaDoor
open Go Go.RowKit Go.Lib

/-- The map of how many parameters functions have. -/
def AMap (M : Nat) (ar : ByteArray → Option Nat) (W : World) : Prop :=
  ∃ (N : Nat) (D : DataW Unit), W.ownsMap Tryd.prog 9 (plainElem Tryd.prog 3) M N D ∧ ∀ s : ByteArray, Maps.has D (.string s.data.toList) = (ar s).isSome ∧ D.atKey (.string s.data.toList) (.lit (.int .i64 0)) = .lit (.int .i64 ((ar s).getD 0))
theorem AMap.below {M B : Nat} {ar : ByteArray → Option Nat} {W W' : World} (h : AMap M ar W) (hM : M < B) (hb : Below B W W') : AMap M ar W' := by
  obtain ⟨N, D, ⟨es, cl, h1, h2⟩, h3⟩ := h
  exact ⟨N, D, ⟨es, cl, (hb.block M hM).trans h1, h2⟩, h3⟩
set_option maxRecDepth 100000 in
theorem AMap.look {M : Nat} {ar : ByteArray → Option Nat} {W : World} (h : AMap M ar W) (s : ByteArray) (hs : s.size ≤ 9223372036854775807) :
    (Instr.lookup 49 (.map (some M)) (.string s) true).run Tryd.prog W = .ok (.tuple #[.int .i64 ((ar s).getD 0 : Nat), .bool (ar s).isSome]) W := by
  obtain ⟨N, D, h1, h2⟩ := h
  obtain ⟨v, ps, hr, hv⟩ := h1.look_ok (Maps.string_keyed Tryd.underlying9) Tryd.underlying49 (zeroI _) (plainElem_int Tryd.underlying3 (by decide)) (Go.WideMaps.keyOf_string_mk Tryd.underlying9 (s := s) (by unfold maxLen; omega))
  obtain ⟨c, rfl, hc, _⟩ := plainElem_int_inv Tryd.underlying3 hv
  have hc := congrArg Prod.fst hc
  simp only [(h2 s).2] at hc
  injection hc with hc
  injection hc with _ hc
  rw [hr, (h2 s).1, hc]

/-- .. with the bool that says whether all is right, and the map of functions. -/
structure RJ (n : Nat) (w0 : World) (nm : ByteArray) (np : Int) (g : Gt) (c R M : Nat) (W : World) : Prop where
  ri : RI n w0 nm np g c W
  hR : n + 8 ≤ R
  ok : W.heap[R]? = some (.cells #[.bool g.ok] 4)
  ar : W.heap[n + 1]? = some (.cells #[.map (some M)] 49)
section
variable {n : Nat} {w0 W W' : World} {nm : ByteArray} {np : Int} {g : Gt} {c R M : Nat}
theorem RJ.below (h : RJ n w0 nm np g c R M W) (hb : Below W.heap.size W W') : RJ n w0 nm np g c R M W' :=
  ⟨h.ri.below hb, h.hR, blk_grown h.ok (grown_none hb) (by simp), blk_grown h.ar (grown_none hb) (by simp)⟩
theorem RJ.alloc (h : RJ n w0 nm np g c R M W) (o : Obj) : RJ n w0 nm np g c R M (W.alloc o) := h.below ((Below.refl _ _).alloc (Nat.le_refl _) _)
theorem RJ.step {g' : Gt} {d : Nat} (h : RJ n w0 nm np g c R M W) (h1 : RI n w0 nm np g' d W') (hk : Kx (n + 3) (n + 3) W W') (hg : g'.ok = g.ok) : RJ n w0 nm np g' d R M W' :=
  ⟨h1, h.hR, by rw [hg]; exact hk.2 _ _ _ (by decide) (by have := h.hR; omega) (by have := h.hR; omega) h.ok, hk.2 _ _ _ (by decide) (by omega) (by omega) h.ar⟩
theorem RJ.more (h : RJ n w0 nm np g c R M W) {d : Nat} (hd : c ≤ d) : RJ n w0 nm np g d R M W := ⟨h.ri.more hd, h.hR, h.ok, h.ar⟩
theorem RJ.set (h : RJ n w0 nm np g c R M W) (b : Bool) : RJ n w0 nm np { g with ok := b } c R M (W.setCell ⟨R, 0, none⟩ (.bool b)) ∧ Kx (n + 3) R W (W.setCell ⟨R, 0, none⟩ (.bool b)) := by
  obtain ⟨⟨vv, va, h⟩, hR, ok, ar⟩ := h
  have hsz := h.sz
  have hsw : World.grownBy W (W.setCell ⟨R, 0, none⟩ (.bool b)) (some R) := ⟨rfl, rfl, rfl, by simp, fun k _ hk => Below.heap_setCell _ _ _ _ (fun e => hk (by rw [e]))⟩
  have hb : ∀ {k : Nat} {o : Obj}, W.heap[k]? = some o → k ≠ R → (W.setCell ⟨R, 0, none⟩ (.bool b)).heap[k]? = some o := fun hk hne => blk_grown hk hsw (fun e => hne (Option.some.inj e))
  refine ⟨⟨⟨vv, va, h.base.setCell (p := ⟨R, 0, none⟩) (by simp only; omega) _, h.n0, hb h.box (by omega), own_set (a := ⟨R, 0, none⟩) h.rv (own_ne' h.rv ok (by decide)) _, own_set (a := ⟨R, 0, none⟩) h.rx (own_ne' h.rx ok (by decide)) _, h.ap, ?_, hb h.seen (by omega), hb h.fv (by omega), hb h.fa (by omega), h.lv, h.lx⟩, hR, (blk_set ok 0 _).trans rfl, hb ar (by omega)⟩, by simp, fun k cs t _ _ hr hk => hb hk hr⟩
  obtain ⟨D, h1, h2⟩ := h.map
  exact ⟨D, h1.kept hsw (fun e => by injection e with e; omega), h2⟩
end
abbrev stmtO (op : Int) (s : ByteArray) (m : Int) (vl vb ve : Value) : Obj := .cells #[.int .i64 op, .string s, .int .i64 m, vl, vb, ve] 37
abbrev exprO (op m : Int) (s : ByteArray) (vl : Value) : Obj := .cells #[.int .i64 op, .int .i64 m, .string s, vl] 35

set_option maxRecDepth 100000 in
set_option maxHeartbeats 4000000 in
/-- The closure for statements. -/
theorem stclo_any (n : Nat) (w0 : World) (nm : ByteArray) (np : Int) (g : Gt) (c R M : Nat) (ar : ByteArray → Option Nat) (op m : Int) (s : ByteArray) (A1 A2 A3 : Option Addr) (k1 c1 k2 c2 k3 c3 : Nat) (w : World) (h : RJ n w0 nm np g c R M w) (hs : s.size ≤ 9223372036854775807) (hc : c ≤ 80000000) :
    Calls Tryd.prog 37 #[.agg #[.int .i64 op, .string s, .int .i64 m, .slice A1 k1 c1, .slice A2 k2 c2, .slice A3 k3 c3], .pointer (some ⟨n + 6, 0, none⟩), .pointer (some ⟨n + 7, 0, none⟩), .pointer (some ⟨n + 5, 0, none⟩)] w fun e w' => e = .returned (.tuple #[]) ∧ RJ n w0 nm np (g.run ar (stU op s)) (c + 2) R M w' ∧ Kx (n + 3) R w w' := by
  have hsz := h.ri.sz
  obtain ⟨B, hB⟩ : ∃ B, stmtO op s m (.slice A1 k1 c1) (.slice A2 k2 c2) (.slice A3 k3 c3) = B := ⟨_, rfl⟩
  have hW : RJ n w0 nm np g c R M (w.alloc B) := h.alloc B
  have hk0 : Kx (n + 3) R w (w.alloc B) := Kx.below ((Below.refl _ _).alloc (Nat.le_refl _) _)
  have hnew : (w.alloc B).heap[w.heap.size]? = some B := heap_alloc_new w B
  obtain ⟨z6, z7⟩ : (w.alloc B).cell? ⟨n + 6, 0, none⟩ = some (varF n) ∧ (w.alloc B).cell? ⟨n + 7, 0, none⟩ = some (arrF n) := by
    obtain ⟨vv, va, hh⟩ := hW.ri
    exact ⟨(blk_cell hh.fv 0).trans rfl, (blk_cell hh.fa 0).trans rfl⟩
  have hV := Lib.hid (variable_any n w0 nm np g c s _ hW.ri hs (by omega))
  have hA := Lib.hid (array_any n w0 nm np g c s _ hW.ri hs (by omega))
  have HW := Lib.hid hW
  have HK := Lib.hid hk0
  have HN := Lib.hid hnew
  clear h hW hk0 hnew
  by_cases h14 : op = 1 ∨ op = 4
  · have hst : g.run ar (stU op s) = { g with vs := withN g.vs s } := by unfold stU; rw [if_pos h14]; rfl
    rw [hst]
    have HS := Lib.hid hst; clear hst HS
    rcases h14 with rfl | rfl
    all_goals
      subst hB
      go_enter Tryd.func37, Tryd.ntmps37
      go_wp2_with (go_at_call 33; ((with_reducible refine hV.out.mono ?_); rintro e w1 ⟨rfl, h1, h2⟩))
      go_end0
      exact ⟨rfl, (HW.out.step h1 h2 rfl).more (by omega), HK.out.trans h2.mono⟩
  by_cases h2' : op = 2
  · have hst : g.run ar (stU op s) = { g with xs := withN g.xs s } := by unfold stU; rw [if_neg h14, if_pos h2']; rfl
    rw [hst]
    clear hst h14
    subst h2'
    subst hB
    go_enter Tryd.func37, Tryd.ntmps37
    go_wp2_with (go_at_call 35; ((with_reducible refine hA.out.mono ?_); rintro e w1 ⟨rfl, h1, h2⟩))
    go_end0
    exact ⟨rfl, (HW.out.step h1 h2 rfl).more (by omega), HK.out.trans h2.mono⟩
  by_cases h3' : op = 3
  · have hst : g.run ar (stU op s) = { g with xs := withN g.xs s, ms := withN g.ms s } := by unfold stU; rw [if_neg h14, if_neg h2', if_pos h3']; rfl
    rw [hst]
    clear hst h14 h2'
    subst h3'
    subst hB
    go_enter Tryd.func37, Tryd.ntmps37
    go_wp2_with (first
      | (go_at_call 35; ((with_reducible refine hA.out.mono ?_); rintro e w1 ⟨rfl, h1, h2⟩; have q0 := h2.2 _ _ _ (by decide) (by omega) (by omega) HN.out; have q1 : w1.cell? ⟨w.heap.size, 1, none⟩ = some (.string s) := (blk_cell q0 1).trans rfl; obtain ⟨D, vv, va, hri, hD1, hD2, s5⟩ : ∃ (D : DataW Unit) (vv va : Value), RIat n w0 nm np { g with xs := withN g.xs s } (c + 1) vv va w1 ∧ w1.ownsMap Tryd.prog 9 (plainElem Tryd.prog 3) (n + 4) (2 * (c + 1)) D ∧ (∀ s' : ByteArray, D.atKey (.string s'.data.toList) (.lit (.int .i64 0)) = .lit (.int .i64 (Gt.bits { g with xs := withN g.xs s } s'))) ∧ w1.cell? ⟨n + 5, 0, none⟩ = some (.map (some (n + 4))) := (by obtain ⟨vv, va, hri⟩ := h1; obtain ⟨D, hD1, hD2⟩ := hri.map; exact ⟨D, vv, va, hri, hD1, hD2, (blk_cell hri.seen 0).trans rfl⟩); have HR := Lib.hid hri; have HD1 := Lib.hid hD1; have HD2 := Lib.hid hD2; clear hri hD1 hD2; obtain ⟨b1, b2⟩ := bits_mk { g with xs := withN g.xs s } s; have hF := Lib.hid (ufirst_any (n + 4) (2 * (c + 1)) D s 4 (Gt.bits { g with xs := withN g.xs s } s) _ _ w1 HD1.out (HD2.out s) b1 b2 hs (by omega) (bits_wf _ s)); clear b1 b2))
      | (go_at_call 34; ((with_reducible refine hF.out.mono ?_); rintro e w2 ⟨rfl, h3, h4⟩)))
    all_goals
      go_end0
      have hh := RIat.mk_old HR.out h4 (umap_put (z := 2 * (c + 1 + 1)) HD1.out.isMap HD2.out h3 (by omega) rfl (bits_mk_o { g with xs := withN g.xs s } s))
      exact ⟨rfl, HW.out.step ⟨_, _, hh.1⟩ (h2.trans hh.2) rfl, HK.out.trans (h2.trans hh.2).mono⟩
  · have hst : g.run ar (stU op s) = g := by unfold stU; rw [if_neg h14, if_neg h2', if_neg h3']; rfl
    rw [hst]
    clear hst
    have o1 : (op == 1) = false := by simp; omega
    have o4 : (op == 4) = false := by simp; omega
    have o2 : (op == 2) = false := by simp; omega
    have o3 : (op == 3) = false := by simp; omega
    clear h14 h2' h3'
    subst hB
    go_enter Tryd.func37, Tryd.ntmps37
    go_wp2
    go_end0
    exact ⟨rfl, HW.out.more (by omega), HK.out⟩
end Go.Proofs.YtnilklgnpfgieaaDoor

/-
  The closure that expressions are handed to; walkParts, walk.
-/
namespace Go.Proofs.YtnilklgnpfgieaaDoor
open Go Go.RowKit Go.Lib

set_option maxRecDepth 100000 in
set_option maxHeartbeats 4000000 in
/-- The closure for expressions. -/
theorem exclo_any (n : Nat) (w0 : World) (nm : ByteArray) (np : Int) (g : Gt) (c R M : Nat) (ar : ByteArray → Option Nat) (op m : Int) (s : ByteArray) (A1 : Option Addr) (k1 c1 : Nat) (w : World) (h : RJ n w0 nm np g c R M w) (hM : M < n) (har : AMap M ar w0) (hs : s.size ≤ 9223372036854775807) (hc : c ≤ 80000000) :
    Calls Tryd.prog 38 #[.agg #[.int .i64 op, .int .i64 m, .string s, .slice A1 k1 c1], .pointer (some ⟨n + 6, 0, none⟩), .pointer (some ⟨n + 7, 0, none⟩), .pointer (some ⟨n + 1, 0, none⟩), .pointer (some ⟨R, 0, none⟩)] w fun e w' => e = .returned (.tuple #[]) ∧ RJ n w0 nm np (g.run ar (exU op s k1)) (c + 2) R M w' ∧ Kx (n + 3) R w w' := by
  have hsz := h.ri.sz
  obtain ⟨B, hB⟩ : ∃ B, exprO op m s (.slice A1 k1 c1) = B := ⟨_, rfl⟩
  have hW : RJ n w0 nm np g c R M (w.alloc B) := h.alloc B
  have hk0 : Kx (n + 3) R w (w.alloc B) := Kx.below ((Below.refl _ _).alloc (Nat.le_refl _) _)
  obtain ⟨z6, z7⟩ : (w.alloc B).cell? ⟨n + 6, 0, none⟩ = some (varF n) ∧ (w.alloc B).cell? ⟨n + 7, 0, none⟩ = some (arrF n) := by
    obtain ⟨vv, va, hh⟩ := hW.ri
    exact ⟨(blk_cell hh.fv 0).trans rfl, (blk_cell hh.fa 0).trans rfl⟩
  have zR : (w.alloc B).cell? ⟨R, 0, none⟩ = some (.bool g.ok) := (blk_cell hW.ok 0).trans rfl
  have zA : (w.alloc B).cell? ⟨n + 1, 0, none⟩ = some (.map (some M)) := (blk_cell hW.ar 0).trans rfl
  have hlook := (har.below hM hW.ri.base).look s hs
  have fR := blk_frozen hW.ok 0
  have lR := blk_lt hW.ok
  have hV := Lib.hid (variable_any n w0 nm np g c s _ hW.ri hs (by omega))
  have hA := Lib.hid (array_any n w0 nm np g c s _ hW.ri hs (by omega))
  have HW := Lib.hid hW
  have HK := Lib.hid hk0
  have hRn := h.hR
  clear h hW hk0 har
  by_cases h2' : op = 2
  · have hst : g.run ar (exU op s k1) = { g with vs := withN g.vs s } := by unfold exU; rw [if_pos h2']; rfl
    rw [hst]
    clear hst hlook
    subst h2'
    subst hB
    go_enter Tryd.func38, Tryd.ntmps38
    go_wp2_with (go_at_call 33; ((with_reducible refine hV.out.mono ?_); rintro e w1 ⟨rfl, h1, h2⟩))
    go_end0
    exact ⟨rfl, (HW.out.step h1 h2 rfl).more (by omega), HK.out.trans h2.mono⟩
  by_cases h4' : op = 4
  · have hst : g.run ar (exU op s k1) = { g with xs := withN g.xs s } := by unfold exU; rw [if_neg h2', if_pos h4']; rfl
    rw [hst]
    clear hst hlook h2'
    subst h4'
    subst hB
    go_enter Tryd.func38, Tryd.ntmps38
    go_wp2_with (go_at_call 35; ((with_reducible refine hA.out.mono ?_); rintro e w1 ⟨rfl, h1, h2⟩))
    go_end0
    exact ⟨rfl, (HW.out.step h1 h2 rfl).more (by omega), HK.out.trans h2.mono⟩
  by_cases h5' : op = 5
  · have hst : g.run ar (exU op s k1) = { g with ok := g.ok && decide (ar s = some k1) } := by unfold exU; rw [if_neg h2', if_neg h4', if_pos h5']; rfl
    rw [hst]
    clear hst h2' h4' hV hA
    subst h5'
    obtain ⟨ok, hok⟩ : ∃ ok, g.ok = ok := ⟨_, rfl⟩
    rw [hok] at zR ⊢
    obtain ⟨r, hr⟩ : ∃ r, ar s = r := ⟨_, rfl⟩
    rw [hr] at hlook ⊢
    have HS := Lib.hid (HW.out.set (ok && decide (r = some k1)))
    clear hr hok
    obtain ⟨i, j, hj1, hj2, hv⟩ : ∃ (i : Bool) (j : Nat), r.isSome = i ∧ r.getD 0 = j ∧ decide (r = some k1) = (i && ((j : Int) == (k1 : Int))) := by
      refine ⟨_, _, rfl, rfl, ?_⟩
      cases r with
      | none => simp
      | some j => rw [Bool.eq_iff_iff]; simp [Int.ofNat_inj]
    rw [hj1, hj2] at hlook
    rw [hv] at HS ⊢
    clear hj1 hj2 hv
    subst hB
    cases ok <;> cases i
    all_goals
      go_enter Tryd.func38, Tryd.ntmps38
      go_wp2
      go_end0
      exact ⟨rfl, HS.out.1.more (by omega), HK.out.trans HS.out.2⟩
  · have hst : g.run ar (exU op s k1) = g := by unfold exU; rw [if_neg h2', if_neg h4', if_neg h5']; rfl
    rw [hst]
    clear hst hlook
    have o2 : (op == 2) = false := by simp; omega
    have o4 : (op == 4) = false := by simp; omega
    have o5 : (op == 5) = false := by simp; omega
    clear h2' h4' h5'
    subst hB
    go_enter Tryd.func38, Tryd.ntmps38
    go_wp2
    go_end0
    exact ⟨rfl, HW.out.more (by omega), HK.out⟩

abbrev stF (n : Nat) : Value := .func (.func 37) #[] #[.pointer (some ⟨n + 6, 0, none⟩), .pointer (some ⟨n + 7, 0, none⟩), .pointer (some ⟨n + 5, 0, none⟩)]
abbrev exF (n R : Nat) : Value := .func (.func 38) #[] #[.pointer (some ⟨n + 6, 0, none⟩), .pointer (some ⟨n + 7, 0, none⟩), .pointer (some ⟨n + 1, 0, none⟩), .pointer (some ⟨R, 0, none⟩)]
/-- What walkParts does, at expressions that hold fewer than K. -/
def WpHas (K : Nat) : Prop := ∀ (A : Option Addr) (cap : Nat) (l : ES) (n : Nat) (w0 : World) (nm : ByteArray) (np : Int) (g : Gt) (c R M : Nat) (ar : ByteArray → Option Nat) (W : World), l.cnt < K → EV n w0 (.slice A l.len cap) l → RJ n w0 nm np g c R M W → M < n → AMap M ar w0 → c + 2 * l.cnt ≤ 60000000 →
  Calls Tryd.prog 53 #[.slice A l.len cap, exF n R] W fun e W' => e = .returned (.tuple #[]) ∧ RJ n w0 nm np (g.run ar l.us) (c + 2 * l.cnt) R M W' ∧ Kx (n + 3) R W W'
def WpRel (n : Nat) (w0 : World) (nm : ByteArray) (np : Int) (g : Gt) (T R M : Nat) (ar : ByteArray → Option Nat) (W : World) (K len : Nat) (A : Option Addr) (l : ES) (i : Value) (wr : World) : Prop :=
  ∃ (k : Nat) (r : ES) (g1 : Gt) (c1 : Nat), i = .int .i64 k ∧ k + r.len = len ∧ r.cnt ≤ K ∧ g.run ar l.us = g1.run ar r.us ∧ c1 + 2 * r.cnt ≤ T ∧ (0 < r.len → ∃ b o, A = some ⟨b, o, none⟩ ∧ b < n ∧ r.In n w0 b (o + k * 4)) ∧ RJ n w0 nm np g1 c1 R M wr ∧ Kx (n + 3) R W wr

set_option maxRecDepth 100000 in
set_option maxHeartbeats 4000000 in
theorem wp_step (K : Nat) (hk : WpHas K) : WpHas (K + 1) := by
  intro A cap l n w0 nm np g c R M ar W hK hv hrj hM har hc
  obtain ⟨A1, cap1, e1, hc1, hc2, hrow⟩ := hv
  injection e1 with e2 e3 e4
  subst e2 e4
  clear e3
  obtain ⟨T, hT⟩ : ∃ T, c + 2 * l.cnt = T := ⟨_, rfl⟩
  have hT' : c + 2 * l.cnt ≤ T := by omega
  rw [hT] at hc ⊢
  clear hT
  obtain ⟨len, hlen⟩ : ∃ len, l.len = len := ⟨_, rfl⟩
  rw [hlen] at hc1 hrow ⊢
  have HL := Lib.hid hlen; clear hlen
  have HC := Lib.hid hrj
  have hsz0 := hrj.ri.sz
  have hRn := hrj.hR
  clear hrj
  go_enter Tryd.func53, Tryd.ntmps53
  go_wp2
  go_loopw [8] (fun i wr => WpRel n w0 nm np g T R M ar W K len A l i wr) (fun i _ => len - (intOf i).toNat)
  case atStart => exact ⟨0, l, g, c, rfl, by have := HL.out; omega, by omega, rfl, hT', by simpa [HL.out] using hrow, HC.out, Kx.refl _ _ _⟩
  case round =>
    obtain ⟨k, r, g1, c1, rfl, hkk, hrK, hrun, hcc, hr1, hrj1, hkx⟩ := hrel
    have HRU := Lib.hid hrun; clear hrun
    cases r with
    | nil =>
      have hk0 : k = len := by simpa [ES.len] using hkk
      subst hk0
      clear hkk hrow hr1
      have HJ := Lib.hid hrj1; clear hrj1
      go_wp2
      go_end0
      exact ⟨rfl, by rw [HRU.out]; exact HJ.out.more (by simp [ES.cnt] at hcc; omega), hkx⟩
    | cons op m s l1 r =>
      obtain ⟨b, o, rfl, hb, c0, c1', c2, ⟨v3, c3, h3⟩, h6, hr⟩ := hr1 (by simp [ES.len])
      clear hrow hr1
      obtain ⟨A3, cap3, rfl, _⟩ := id h3
      have hlt : k < len := by simp [ES.len] at hkk; omega
      have HKK := Lib.hid hkk; clear hkk
      have hbase := hrj1.ri.base
      have d0 := (hbase.cell (p := ⟨b, o + k * 4, none⟩) hb).trans c0
      have d1 := (hbase.cell (p := ⟨b, o + k * 4 + 1, none⟩) hb).trans c1'
      have d2 := (hbase.cell (p := ⟨b, o + k * 4 + 2, none⟩) hb).trans c2
      have d3 := (hbase.cell (p := ⟨b, o + k * 4 + 3, none⟩) hb).trans c3
      clear c0 c1' c2 c3
      have hcnt : l1.cnt < K ∧ r.cnt ≤ K ∧ c1 + 2 + 2 * l1.cnt + 2 * r.cnt ≤ T := by simp only [ES.cnt] at hrK hcc; omega
      have hz1 := hrj1.ri.sz
      have HE := Lib.hid (exclo_any n w0 nm np g1 c1 R M ar op m s A3 l1.len cap3 _ (hrj1.alloc (exprO op m s (.slice A3 l1.len cap3))) hM har h6.2.2 (by omega))
      have HKA : Kx (n + 3) R wr (wr.alloc (exprO op m s (.slice A3 l1.len cap3))) := Kx.below ((Below.refl _ _).alloc (Nat.le_refl _) _)
      have HN := Lib.hid (heap_alloc_new wr (exprO op m s (.slice A3 l1.len cap3)))
      have HKA := Lib.hid HKA
      have hlR := blk_lt hrj1.ok
      clear hrj1 hbase
      go_wp2_with (first
        | (go_at_call 38; ((with_reducible refine HE.out.mono ?_); rintro e w1 ⟨rfl, h1, h2⟩; have q0 := h2.2 _ _ _ (by decide) (by omega) (by omega) HN.out; have q3 : w1.cell? ⟨wr.heap.size, 3, none⟩ = some (.slice A3 l1.len cap3) := (blk_cell q0 3).trans rfl; have HP := Lib.hid (hk A3 cap3 l1 n w0 nm np _ _ R M ar w1 hcnt.1 h3 h1 hM har (by omega)); have H2 := Lib.hid h2; clear q0 h1 h2))
        | (go_at_call 53; ((with_reducible refine HP.out.mono ?_); rintro e w2 ⟨rfl, h4, h5⟩)))
      go_roundw
      case rel =>
        refine ⟨k + 1, r, _, _, by go_num, by have := HKK.out; simp [ES.len] at this; omega, hcnt.2.1, ?_, hcnt.2.2, fun _ => ⟨b, o, rfl, hb, by rw [show o + (k + 1) * 4 = o + k * 4 + 4 by omega]; exact hr⟩, h4, ((hkx.trans HKA.out).trans H2.out).trans h5⟩
        rw [HRU.out, ES.us, Gt.run_app, Gt.run_app]
      case measure => simp [intOf]; omega
theorem wp_all : ∀ K, WpHas K
  | 0 => fun _ _ _ _ _ _ _ _ _ _ _ _ _ h => absurd h (Nat.not_lt_zero _)
  | K + 1 => wp_step K (wp_all K)
end Go.Proofs.YtnilklgnpfgieaaDoor

/-
  walk: all that stands in a body.
-/
namespace Go.Proofs.YtnilklgnpfgieaaDoor
open Go Go.RowKit Go.Lib

/-- What walk does, at statements that hold fewer than K. -/
def WkHas (K : Nat) : Prop := ∀ (A : Option Addr) (cap : Nat) (l : SS) (n : Nat) (w0 : World) (nm : ByteArray) (np : Int) (g : Gt) (c R M : Nat) (ar : ByteArray → Option Nat) (W : World), l.cnt < K → SV n w0 (.slice A l.len cap) l → RJ n w0 nm np g c R M W → M < n → AMap M ar w0 → c + 2 * l.cnt ≤ 60000000 →
  Calls Tryd.prog 36 #[.slice A l.len cap, stF n, exF n R] W fun e W' => e = .returned (.tuple #[]) ∧ RJ n w0 nm np (g.run ar l.us) (c + 2 * l.cnt) R M W' ∧ Kx (n + 3) R W W'
def WkRel (n : Nat) (w0 : World) (nm : ByteArray) (np : Int) (g : Gt) (T R M : Nat) (ar : ByteArray → Option Nat) (W : World) (K len : Nat) (A : Option Addr) (l : SS) (i : Value) (wr : World) : Prop :=
  ∃ (k : Nat) (r : SS) (g1 : Gt) (c1 : Nat), i = .int .i64 k ∧ k + r.len = len ∧ r.cnt ≤ K ∧ g.run ar l.us = g1.run ar r.us ∧ c1 + 2 * r.cnt ≤ T ∧ (0 < r.len → ∃ b o, A = some ⟨b, o, none⟩ ∧ b < n ∧ r.In n w0 b (o + k * 6)) ∧ RJ n w0 nm np g1 c1 R M wr ∧ Kx (n + 3) R W wr

set_option maxRecDepth 100000 in
set_option maxHeartbeats 4000000 in
theorem wk_step (K : Nat) (hk : WkHas K) : WkHas (K + 1) := by
  intro A cap l n w0 nm np g c R M ar W hK hv hrj hM har hc
  obtain ⟨A1, cap1, e1, hc1, hc2, hrow⟩ := hv
  injection e1 with e2 e3 e4
  subst e2 e4
  clear e3
  obtain ⟨T, hT⟩ : ∃ T, c + 2 * l.cnt = T := ⟨_, rfl⟩
  have hT' : c + 2 * l.cnt ≤ T := by omega
  rw [hT] at hc ⊢
  clear hT
  obtain ⟨len, hlen⟩ : ∃ len, l.len = len := ⟨_, rfl⟩
  rw [hlen] at hc1 hrow ⊢
  have HL := Lib.hid hlen; clear hlen
  have HC := Lib.hid hrj
  have hsz0 := hrj.ri.sz
  have hRn := hrj.hR
  clear hrj
  go_enter Tryd.func36, Tryd.ntmps36
  go_wp2
  go_loopw [10] (fun i wr => WkRel n w0 nm np g T R M ar W K len A l i wr) (fun i _ => len - (intOf i).toNat)
  case atStart => exact ⟨0, l, g, c, rfl, by have := HL.out; omega, by omega, rfl, hT', by simpa [HL.out] using hrow, HC.out, Kx.refl _ _ _⟩
  case round =>
    obtain ⟨k, r, g1, c1, rfl, hkk, hrK, hrun, hcc, hr1, hrj1, hkx⟩ := hrel
    have HRU := Lib.hid hrun; clear hrun
    cases r with
    | nil =>
      have hk0 : k = len := by simpa [SS.len] using hkk
      subst hk0
      clear hkk hrow hr1
      have HJ := Lib.hid hrj1; clear hrj1
      go_wp2
      go_end0
      exact ⟨rfl, by rw [HRU.out]; exact HJ.out.more (by simp [SS.cnt] at hcc; omega), hkx⟩
    | cons op s m l1 x y r =>
      obtain ⟨b, o, rfl, hb, c0, c1', c2, ⟨v3, c3, h3⟩, ⟨v4, c4, h4⟩, ⟨v5, c5, h5⟩, h6, hr⟩ := hr1 (by simp [SS.len])
      clear hrow hr1
      obtain ⟨A3, cap3, rfl, _⟩ := id h3
      obtain ⟨A4, cap4, rfl, _⟩ := id h4
      obtain ⟨A5, cap5, rfl, _⟩ := id h5
      have hlt : k < len := by simp [SS.len] at hkk; omega
      have HKK := Lib.hid hkk; clear hkk
      have hbase := hrj1.ri.base
      have d0 := (hbase.cell (p := ⟨b, o + k * 6, none⟩) hb).trans c0
      have d1 := (hbase.cell (p := ⟨b, o + k * 6 + 1, none⟩) hb).trans c1'
      have d2 := (hbase.cell (p := ⟨b, o + k * 6 + 2, none⟩) hb).trans c2
      have d3 := (hbase.cell (p := ⟨b, o + k * 6 + 3, none⟩) hb).trans c3
      have d4 := (hbase.cell (p := ⟨b, o + k * 6 + 4, none⟩) hb).trans c4
      have d5 := (hbase.cell (p := ⟨b, o + k * 6 + 5, none⟩) hb).trans c5
      clear c0 c1' c2 c3 c4 c5
      have hcnt : x.cnt < K ∧ y.cnt < K ∧ r.cnt ≤ K ∧ c1 + 2 + 2 * l1.cnt + 2 * x.cnt + 2 * y.cnt + 2 * r.cnt ≤ T := by simp only [SS.cnt] at hrK hcc; omega
      have hz1 := hrj1.ri.sz
      obtain ⟨B, hB⟩ : ∃ B, stmtO op s m (.slice A3 l1.len cap3) (.slice A4 x.len cap4) (.slice A5 y.len cap5) = B := ⟨_, rfl⟩
      have HE := Lib.hid (stclo_any n w0 nm np g1 c1 R M ar op m s A3 A4 A5 l1.len cap3 x.len cap4 y.len cap5 _ (hrj1.alloc (stmtO op s m (.slice A3 l1.len cap3) (.slice A4 x.len cap4) (.slice A5 y.len cap5))) h6.2.2 (by omega))
      have HKA : Kx (n + 3) R wr (wr.alloc (stmtO op s m (.slice A3 l1.len cap3) (.slice A4 x.len cap4) (.slice A5 y.len cap5))) := Kx.below ((Below.refl _ _).alloc (Nat.le_refl _) _)
      have HN := Lib.hid (heap_alloc_new wr (stmtO op s m (.slice A3 l1.len cap3) (.slice A4 x.len cap4) (.slice A5 y.len cap5)))
      have HKA := Lib.hid HKA
      have hlR := blk_lt hrj1.ok
      clear hrj1 hbase hB
      go_wp2_with (first
        | (go_at_call 37; ((with_reducible refine HE.out.mono ?_); rintro e w1 ⟨rfl, h1, h2⟩; have q0 := h2.2 _ _ _ (by decide) (by omega) (by omega) HN.out; have q3 : w1.cell? ⟨wr.heap.size, 3, none⟩ = some (.slice A3 l1.len cap3) := (blk_cell q0 3).trans rfl; have HP := Lib.hid (wp_all _ A3 cap3 l1 n w0 nm np _ _ R M ar w1 (Nat.lt_succ_self _) h3 h1 hM har (by omega)); have H2 := Lib.hid h2; have Q0 := Lib.hid q0; clear q0 h1 h2))
        | (go_at_call 53; ((with_reducible refine HP.out.mono ?_); rintro e w2 ⟨rfl, h7, h8⟩; have q0 := h8.2 _ _ _ (by decide) (by omega) (by omega) Q0.out; have q4 : w2.cell? ⟨wr.heap.size, 4, none⟩ = some (.slice A4 x.len cap4) := (blk_cell q0 4).trans rfl; have HX := Lib.hid (hk A4 cap4 x n w0 nm np _ _ R M ar w2 hcnt.1 h4 h7 hM har (by omega)); have H8 := Lib.hid h8; have Q1 := Lib.hid q0; clear q0 h7 h8))
        | (go_at_call 36; first
            | ((with_reducible refine HX.out.mono ?_); rintro e w3 ⟨rfl, h9, h10⟩; have q0 := h10.2 _ _ _ (by decide) (by omega) (by omega) Q1.out; have q5 : w3.cell? ⟨wr.heap.size, 5, none⟩ = some (.slice A5 y.len cap5) := (blk_cell q0 5).trans rfl; have HY := Lib.hid (hk A5 cap5 y n w0 nm np _ _ R M ar w3 hcnt.2.1 h5 h9 hM har (by omega)); have H10 := Lib.hid h10; clear q0 h9 h10)
            | ((with_reducible refine HY.out.mono ?_); rintro e w4 ⟨rfl, h11, h12⟩)))
      go_roundw
      case rel =>
        refine ⟨k + 1, r, _, _, by go_num, by have := HKK.out; simp [SS.len] at this; omega, hcnt.2.2.1, ?_, hcnt.2.2.2, fun _ => ⟨b, o, rfl, hb, by rw [show o + (k + 1) * 6 = o + k * 6 + 6 by omega]; exact hr⟩, h11, ((((hkx.trans HKA.out).trans H2.out).trans H8.out).trans H10.out).trans h12⟩
        rw [HRU.out, SS.us, Gt.run_app, Gt.run_app, Gt.run_app, Gt.run_app]
      case measure => simp [intOf]; omega
theorem wk_all : ∀ K, WkHas K
  | 0 => fun _ _ _ _ _ _ _ _ _ _ _ _ _ h => absurd h (Nat.not_lt_zero _)
  | K + 1 => wk_step K (wk_all K)
end Go.Proofs.YtnilklgnpfgieaaDoor

/-
  uses.agree; what resolve lays ahead of its walks.
-/
namespace Go.Proofs.YtnilklgnpfgieaaDoor
open Go Go.RowKit Go.Lib

theorem agree_one (g : Gt) (s : ByteArray) (hs : s ∈ g.xs) : (g.bits s == 6) = (decide (s ∈ g.ms) && !decide (s ∈ g.vs)) := by
  unfold Gt.bits
  rw [if_pos hs]
  by_cases h1 : s ∈ g.vs <;> by_cases h2 : s ∈ g.ms <;> simp [h1, h2]

set_option maxRecDepth 100000 in
set_option maxHeartbeats 1000000 in
theorem agree_any (M c base : Nat) (g : Gt) (va : Value) (w : World) (hm : UMap M c g w) (hx : StO base w va g.xs) (hl : g.xs.length ≤ 100000000) (hsz : ∀ s, s ∈ g.xs → s.size ≤ 9223372036854775807) :
    Calls Tryd.prog 39 #[.map (some M), va] w fun e w' => e = .returned (.bool g.agree) ∧ w = w' := by
  obtain ⟨D, hD1, hD2⟩ := hm
  have hlook := fun s hs => umap_look hD1 s hs (hD2 s)
  have HLK := Lib.hid hlook; clear hlook hD1 hD2
  unfold Gt.agree
  obtain ⟨xs, hxs⟩ : ∃ xs, g.xs = xs := ⟨_, rfl⟩
  have hone : ∀ s, s ∈ xs → (g.bits s == 6) = (decide (s ∈ g.ms) && !decide (s ∈ g.vs)) := fun s h => agree_one g s (hxs ▸ h)
  rw [hxs] at hx hl hsz ⊢
  have HX := Lib.hid hxs; clear hxs HX
  have hrow : ∃ A cap, va = .slice A xs.length cap ∧ xs.length ≤ cap ∧ cap ≤ 9223372036854775807 ∧ (0 < xs.length → ∃ b, A = some ⟨b, 0, none⟩ ∧ ∀ i x, xs[i]? = some x → w.cell? ⟨b, i, none⟩ = some (.string x)) := by
    by_cases h0 : 0 < xs.length
    · obtain ⟨b, cap, rfl, h1, h2, _, h3⟩ := own_cells hx h0
      exact ⟨_, cap, rfl, h1, h2, fun _ => ⟨b, rfl, fun i x hi => h3 i _ (by rw [List.getElem?_map, hi]; rfl)⟩⟩
    · obtain ⟨A, cap, rfl⟩ := own_form hx
      rcases hx.2 with ⟨e, _⟩ | ⟨b, cap2, cur, e, _, _, h1, h2, _⟩
      · injection e with e1 e2 e3
        subst e3
        exact ⟨_, 0, rfl, by omega, by omega, fun h => absurd h h0⟩
      · injection e with e1 e2 e3
        subst e3
        exact ⟨_, cap, rfl, h1, by simp only [maxLen] at h2; omega, fun h => absurd h h0⟩
  obtain ⟨A, cap, rfl, hc1, hc2, hc3⟩ := hrow
  clear hx
  obtain ⟨len, hlen⟩ : ∃ len, xs.length = len := ⟨_, rfl⟩
  rw [hlen] at hc1 hc3 hl ⊢
  have HL := Lib.hid hlen; clear hlen
  go_enter Tryd.func39, Tryd.ntmps39
  go_wp2
  go_loop [9] (fun i => ∃ (k : Nat) (r : List ByteArray), i = .int .i64 k ∧ k + r.length = len ∧ xs.drop k = r ∧ (xs.all fun a => decide (a ∈ g.ms) && !decide (a ∈ g.vs)) = (r.all fun a => decide (a ∈ g.ms) && !decide (a ∈ g.vs))) (fun i => len - (intOf i).toNat)
  case atStart => exact ⟨0, xs, rfl, by have := HL.out; omega, rfl, rfl⟩
  case round =>
    obtain ⟨k, r, rfl, hk, hd, ho⟩ := hrel
    have HO := Lib.hid ho; clear ho
    have HD := Lib.hid hd; clear hd
    cases r with
    | nil =>
      have hk0 : k = len := by simpa using hk
      subst hk0
      clear hk hc3
      go_wp2
      go_ret
      exact ⟨by rw [HO.out]; rfl, rfl⟩
    | cons x r =>
      have hlt : k < len := by simp at hk; omega
      obtain ⟨b, rfl, hc⟩ := hc3 (by omega)
      clear hc3
      have hx : xs[k]? = some x := by
        have h := HD.out
        have e := congrArg (fun l => l[0]?) h
        simpa [List.getElem?_drop] using e
      have d0 := hc k x hx
      have hmem : x ∈ xs := List.mem_of_getElem? hx
      have hlk := HLK.out x (hsz x hmem)
      have hon := hone x hmem
      have HK := Lib.hid hk
      clear hk hc hx hone
      obtain ⟨z, hz⟩ : ∃ z, g.bits x = z := ⟨_, rfl⟩
      rw [hz] at hlk hon
      clear hz
      obtain ⟨y, hy⟩ : ∃ y, (decide (x ∈ g.ms) && !decide (x ∈ g.vs)) = y := ⟨_, rfl⟩
      rw [hy] at hon
      have HY := Lib.hid hy; clear hy
      cases y with
      | false =>
        have hon' : (z != 6) = true := by simp [bne, hon]
        go_wp2
        go_ret
        exact ⟨by rw [HO.out, List.all_cons, HY.out]; rfl, rfl⟩
      | true =>
        have hon' : (z != 6) = false := by simp [bne, hon]
        go_wp2
        go_round
        case rel => exact ⟨k + 1, r, by go_num, by have := HK.out; simp at this; omega, by rw [← List.drop_drop, HD.out]; rfl, by rw [HO.out, List.all_cons, HY.out, Bool.true_and]⟩
        case measure => simp [intOf]; omega
end Go.Proofs.YtnilklgnpfgieaaDoor

