/-
  Texts CpI CpJ CpK CpL: put together.
-/
import Derived.Test.YtnilklgnpfgieaaDoorCpH
import Derived.Test.YtnilklgnpfgieaaDoorCoE
/-
  A program's code, plainly, and in memory; ops of a right program are known.
-/
namespace Go.Proofs.YtnilklgnpfgieaaDoor
open Go Go.RowKit Go.Lib

/-- A function of the code. -/
structure Fc where
  s : ByteArray
  n : Nat
  v : Nat
  x : Nat
  L : List In3
def fcOf (s : Sp) (pl : ByteArray → Int) (b : SS) : Fc := ⟨s.s, s.n, s.vs.length, s.xs.length, fnL s pl b⟩
def fcP (p : Pg) (f : Fn) : Fc := fcOf (spFn (arF p.fs) f) (plOf (scopes p)) f.b
def cFns (p : Pg) : List Fc := (mainF p :: p.fs).map (fcP p)
def cmpP (p : Pg) : List Fc := if resErr p = 0 then cFns p else []
/-- The cells of functions whose instructions the call has written. -/
def FcC (base : Nat) (W : World) : List Fc → List Value → Prop
  | [] => fun cs => cs = []
  | f :: r => fun cs => ∃ vl rest, cs = .string f.s :: .int .i64 f.n :: .int .i64 f.v :: .int .i64 f.x :: vl :: rest ∧ W.ownsRow base 43 3 vl f.L.length (insV f.L) ∧ FcC base W r rest
theorem FcC.mono {base base' : Nat} {W W' : World} (h : ∀ v (l : List In3), W.ownsRow base 43 3 v l.length (insV l) → W'.ownsRow base' 43 3 v l.length (insV l)) : ∀ {l : List Fc} {cs : List Value}, FcC base W l cs → FcC base' W' l cs
  | [], _, hc => hc
  | _ :: _, _, ⟨vl, rest, e, h1, hr⟩ => ⟨vl, rest, e, h _ _ h1, FcC.mono h hr⟩
theorem FcC.app {base : Nat} {W : World} {s : List Fc} {ds : List Value} (hs : FcC base W s ds) : ∀ {l : List Fc} {cs : List Value}, FcC base W l cs → FcC base W (l ++ s) (cs ++ ds)
  | [], _, h => by rw [show _ = [] from h]; exact hs
  | _ :: _, _, ⟨vl, rest, e, h1, hr⟩ => by subst e; exact ⟨vl, _, rfl, h1, FcC.app hs hr⟩
theorem FcC.step {base : Nat} {W W' : World} {l : List Fc} {cs : List Value} (h : FcC base W l cs) (hb : Below W.heap.size W W') : FcC base W' l cs := h.mono fun _ _ h => h.kept (grown_none hb) (Classical.em _)
theorem FcC.grow {base : Nat} {W W' : World} {l : List Fc} {cs : List Value} {b' n : Nat} {v : Value} {xs : List Value} (h : FcC base W l cs) (hown : W.ownsRow b' 40 5 v n xs) (hg : W.grownBy W' v.ownBlock) : FcC base W' l cs := h.mono fun _ _ h => own_keep h hown (by decide) hg
theorem fcInfo : (Tryd.prog.info? 40).map (fun i => (i.zero, i.size, i.bytes)) = some (some (.agg #[.string ⟨#[]⟩, .int .i64 0, .int .i64 0, .int .i64 0, .slice none 0 0]), 5, 64) := by kernel_rfl

/-- Functions of code lie one behind the other. -/
def FcIn (B : Nat) (W : World) : List Fc → Nat → Nat → Prop
  | [] => fun _ _ => True
  | f :: r => fun b o => W.cell? ⟨b, o, none⟩ = some (.string f.s) ∧ W.cell? ⟨b, o + 1, none⟩ = some (.int .i64 f.n) ∧ W.cell? ⟨b, o + 2, none⟩ = some (.int .i64 f.v) ∧ W.cell? ⟨b, o + 3, none⟩ = some (.int .i64 f.x) ∧ (∃ v, W.cell? ⟨b, o + 4, none⟩ = some v ∧ InV B W v f.L) ∧ FcIn B W r b (o + 5)
abbrev FcV (B : Nat) (W : World) (v : Value) (l : List Fc) : Prop := RowV (FcIn B W l) B l.length v
theorem FcIn.below {B B' : Nat} {W W' : World} (h : Below B W W') (hB : B ≤ B') : ∀ {l : List Fc} {b o : Nat}, b < B → FcIn B W l b o → FcIn B' W' l b o
  | [], _, _, _, _ => trivial
  | _ :: _, b, o, hb, ⟨h0, h1, h2, h3, ⟨v, h4, hv⟩, hr⟩ =>
    ⟨(h.cell (p := ⟨b, o, none⟩) hb).trans h0, (h.cell (p := ⟨b, o + 1, none⟩) hb).trans h1, (h.cell (p := ⟨b, o + 2, none⟩) hb).trans h2, (h.cell (p := ⟨b, o + 3, none⟩) hb).trans h3, ⟨v, (h.cell (p := ⟨b, o + 4, none⟩) hb).trans h4, hv.below h hB⟩, FcIn.below h hB hb hr⟩
theorem FcV.below {B B' : Nat} {W W' : World} {v : Value} {l : List Fc} (hv : FcV B W v l) (h : Below B W W') (hB : B ≤ B') : FcV B' W' v l := RowV.imp hv hB fun _ _ hb hp => FcIn.below h hB hb hp
theorem ins_in {base : Nat} {W : World} {v : Value} {l : List In3} (h : W.ownsRow base 43 3 v l.length (insV l)) (hok : InsOk l) : InV W.heap.size W v l := by
  have hin : ∀ (l : List In3) (b o : Nat), InsOk l → (∀ j u, (insV l)[j]? = some u → W.cell? ⟨b, o + j, none⟩ = some u) → InsIn W l b o := by
    intro l
    induction l with
    | nil => intro b o _ _; trivial
    | cons x l ih =>
      obtain ⟨op, a, n⟩ := x
      intro b o h1 h2
      refine ⟨h2 0 _ rfl, h2 1 _ rfl, h2 2 _ rfl, h1 _ List.mem_cons_self, ih b (o + 3) (fun x hx => h1 x (List.mem_cons_of_mem _ hx)) fun j u hu => ?_⟩
      rw [show o + 3 + j = o + (j + 3) by omega]
      exact h2 (j + 3) u (by simpa [insV] using hu)
  by_cases h0 : 0 < l.length
  · obtain ⟨g, cap, rfl, h1, h2, h3, h4⟩ := own_cells h h0
    exact ⟨_, cap, rfl, h1, h2, fun _ => ⟨g, 0, rfl, h3, hin l g 0 hok fun j u hu => by rw [Nat.zero_add]; exact h4 j u hu⟩⟩
  · rcases h.2 with ⟨rfl, e⟩ | ⟨g, cap, cur, rfl, _, _, hnc, hcm, _⟩
    · exact ⟨none, 0, by rw [e], by omega, by omega, fun h => absurd h h0⟩
    · exact ⟨_, cap, rfl, hnc, by unfold maxLen at hcm; omega, fun h => absurd h h0⟩
theorem FcC.in_ {base : Nat} {W : World} : ∀ {l : List Fc} {cs : List Value} {b o : Nat}, (∀ f, f ∈ l → InsOk f.L) → FcC base W l cs → (∀ j u, cs[j]? = some u → W.cell? ⟨b, o + j, none⟩ = some u) → FcIn W.heap.size W l b o
  | [], _, _, _, _, _, _ => trivial
  | _ :: _, _, b, o, hok, ⟨vl, rest, e, h1, hr⟩, hq => by
    subst e
    exact ⟨hq 0 _ rfl, hq 1 _ rfl, hq 2 _ rfl, hq 3 _ rfl, ⟨vl, hq 4 _ rfl, ins_in h1 (hok _ List.mem_cons_self)⟩, FcC.in_ (fun f hf => hok f (List.mem_cons_of_mem _ hf)) hr fun j u hu => by
      rw [show o + 5 + j = o + (j + 5) by omega]
      exact hq (j + 5) u (by simpa using hu)⟩
theorem own_fc {W : World} {base base' e n : Nat} {v : Value} {l : List Fc} {cs : List Value} (h : W.ownsRow base e 5 v n cs) (hc : FcC base' W l cs) (hn : n = l.length) (hok : ∀ f, f ∈ l → InsOk f.L) : FcV W.heap.size W v l := by
  subst hn
  by_cases h0 : 0 < l.length
  · obtain ⟨g, cap, rfl, h1, h2, h3, h4⟩ := own_cells h h0
    exact ⟨_, cap, rfl, h1, h2, fun _ => ⟨g, 0, rfl, h3, hc.in_ hok fun j u hu => by rw [Nat.zero_add]; exact h4 j u hu⟩⟩
  · obtain ⟨A, cap, rfl⟩ := own_form h
    refine ⟨A, cap, rfl, ?_, ?_, fun h => absurd h h0⟩
    · rcases h.2 with ⟨e, _⟩ | ⟨g, cap, cur, e, _, _, hnc, hcm, _⟩
      · injection e with e1 e2 e3; omega
      · injection e with e1 e2 e3; omega
    · rcases h.2 with ⟨e, _⟩ | ⟨g, cap, cur, e, _, _, hnc, hcm, _⟩
      · injection e with e1 e2 e3; omega
      · injection e with e1 e2 e3; unfold maxLen at hcm; omega

/-- Ops of what is right are known. -/
theorem fit_op {st : Bool} {op n : Int} {s : ByteArray} {l : ES} {b e : SS} (h : fitP ⟨st, op, s, n, l, b, e⟩ = true) : (shOf st op).isSome = true := by
  unfold fitP fitQ at h
  simp only [Bool.and_eq_true] at h
  cases h0 : (shOf st op).isSome with
  | true => rfl
  | false => simp [h0] at h
theorem ES.ok_og : ∀ {l : ES}, l.ok = true → l.og
  | .nil, _ => trivial
  | .cons op n s l r, h => by
    simp only [ES.ok, Bool.and_eq_true] at h
    have h1 := fit_op h.1.1
    refine ⟨?_, ES.ok_og h.1.2, ES.ok_og h.2⟩
    unfold shOf at h1
    simp only [Bool.false_eq_true, if_false] at h1
    split at h1
    · assumption
    · cases h1
theorem SS.ok_og : ∀ {l : SS}, l.ok = true → l.og
  | .nil, _ => trivial
  | .cons op s n l b e r, h => by
    simp only [SS.ok, Bool.and_eq_true] at h
    have h1 := fit_op h.1.1
    refine ⟨?_, ES.ok_og h.1.2.1, SS.ok_og h.1.2.2.1, SS.ok_og h.1.2.2.2, SS.ok_og h.2⟩
    unfold shOf at h1
    simp only [if_true] at h1
    split at h1
    · assumption
    · cases h1
theorem right_og {p : Pg} (h : rightN p = 0) : p.m.og ∧ ∀ f, f ∈ p.fs → f.b.og := by
  unfold rightN at h
  split at h
  · rename_i h1
    simp only [Bool.and_eq_true] at h1
    have h2 := h1.2
    rw [Pg.pts, okL_append, Bool.and_eq_true, SS.okL] at h2
    refine ⟨SS.ok_og h2.2, ?_⟩
    have key : ∀ l : List Fn, okL (fsPts l) = true → ∀ f, f ∈ l → f.b.og := by
      intro l
      induction l with
      | nil => intro _ f hf; cases hf
      | cons x l ih =>
        intro h f hf
        rw [fsPts, okL_append, Bool.and_eq_true, SS.okL] at h
        rcases List.mem_cons.1 hf with rfl | hf
        · exact SS.ok_og h.1
        · exact ih h.2 f hf
    exact key _ h2.1
  · cases h
end Go.Proofs.YtnilklgnpfgieaaDoor

/-
  Instructions hold numbers that fit.
-/
namespace Go.Proofs.YtnilklgnpfgieaaDoor
open Go Go.RowKit Go.Lib

def ES.n64 : ES → Prop
  | .nil => True
  | .cons _ n _ l r => I64 n ∧ l.n64 ∧ r.n64
def SS.n64 : SS → Prop
  | .nil => True
  | .cons _ _ n l b e r => I64 n ∧ l.n64 ∧ b.n64 ∧ e.n64 ∧ r.n64
theorem ev_n64 {B : Nat} {W : World} : ∀ {l : ES} {v : Value}, EV B W v l → l.n64 := by
  have hin : ∀ {l : ES} {b o : Nat}, l.In B W b o → l.n64 := by
    intro l
    induction l with
    | nil => intro b o _; trivial
    | cons op m s l r ih1 ih2 =>
      intro b o h
      obtain ⟨_, _, _, ⟨v, _, hv⟩, h4, hr⟩ := h
      refine ⟨h4.2.1, ?_, ih2 hr⟩
      obtain ⟨A, cap, _, _, _, h3⟩ := hv
      cases l with
      | nil => trivial
      | cons op' m' s' l' r' =>
        obtain ⟨b', o', _, _, h5⟩ := h3 (by simp [ES.len])
        exact ih1 h5
  intro l v hv
  obtain ⟨A, cap, _, _, _, h3⟩ := hv
  cases l with
  | nil => trivial
  | cons op' m' s' l' r' =>
    obtain ⟨b', o', _, _, h5⟩ := h3 (by simp [ES.len])
    exact hin h5
theorem sv_n64 {B : Nat} {W : World} : ∀ {l : SS} {v : Value}, SV B W v l → l.n64 := by
  have hin : ∀ {l : SS} {b o : Nat}, l.In B W b o → l.n64 := by
    intro l
    induction l with
    | nil => intro b o _; trivial
    | cons op s m l x y r ih1 ih2 ih3 =>
      intro b o h
      obtain ⟨_, _, _, ⟨v, _, hv⟩, ⟨v', _, hx⟩, ⟨v'', _, hy⟩, h4, hr⟩ := h
      have sub : ∀ {l : SS} {v : Value}, (∀ {b o : Nat}, l.In B W b o → l.n64) → SV B W v l → l.n64 := by
        intro l v ih hv
        obtain ⟨A, cap, _, _, _, h3⟩ := hv
        cases l with
        | nil => trivial
        | cons op' m' s' l' x' y' r' =>
          obtain ⟨b', o', _, _, h5⟩ := h3 (by simp [SS.len])
          exact ih h5
      exact ⟨h4.2.1, ev_n64 hv, sub ih1 hx, sub ih2 hy, ih3 hr⟩
  intro l v hv
  obtain ⟨A, cap, _, _, _, h3⟩ := hv
  cases l with
  | nil => trivial
  | cons op' m' s' l' x' y' r' =>
    obtain ⟨b', o', _, _, h5⟩ := h3 (by simp [SS.len])
    exact hin h5
theorem insOk_app {a b : List In3} (ha : InsOk a) (hb : InsOk b) : InsOk (a ++ b) := fun x hx => (List.mem_append.1 hx).elim (ha x) (hb x)
theorem insOk_cons {x : In3} {b : List In3} (hx : I64 x.1 ∧ I64 x.2.1 ∧ I64 x.2.2) (hb : InsOk b) : InsOk (x :: b) := fun y hy => by
  rcases List.mem_cons.1 hy with rfl | hy
  · exact hx
  · exact hb y hy
theorem insOk_nil : InsOk [] := fun x hx => by cases hx
theorem slotP_ok {l : List ByteArray} (h : l.length ≤ 1000000) (x : ByteArray) : -1 ≤ slotP l x ∧ slotP l x ≤ 1000000 := by
  unfold slotP
  have h1 := List.findIdx_le_length (p := fun y => decide (y = x)) (xs := l)
  split <;> omega
theorem sameT_ok (k : Nat) : 0 ≤ sameT.getD k 0 ∧ sameT.getD k 0 ≤ 25 := by
  by_cases h : k < 17
  · have : ∀ k : Fin 17, 0 ≤ sameT.getD k.1 0 ∧ sameT.getD k.1 0 ≤ 25 := by decide
    exact this ⟨k, h⟩
  · rw [List.getD_eq_getElem?_getD, List.getElem?_eq_none (by simp [sameT]; omega)]
    decide
/-- What is small enough for all this. -/
structure Nar (s : Sp) (pl : ByteArray → Int) : Prop where
  vs : s.vs.length ≤ 1000000
  xs : s.xs.length ≤ 1000000
  pl : ∀ x, 0 ≤ pl x ∧ pl x ≤ 1000000
theorem mkI_ok {s : Sp} {pl : ByteArray → Int} (h : Nar s pl) (op m : Int) (x : ByteArray) (hm : I64 m) : I64 (mkI s pl op m x).1 ∧ I64 (mkI s pl op m x).2.1 ∧ I64 (mkI s pl op m x).2.2 := by
  have h1 := slotP_ok h.vs x
  have h2 := slotP_ok h.xs x
  have h3 := h.pl x
  have h4 := sameT_ok op.toNat
  unfold mkI
  unfold I64 at *
  split
  · simp only; omega
  split
  · simp only; omega
  split
  · simp only; omega
  split
  · simp only; omega
  · simp only; omega
theorem doI_ok {s : Sp} {pl : ByteArray → Int} (h : Nar s pl) (op m : Int) (x : ByteArray) (hm : I64 m) : I64 (doI s op m x).1 ∧ I64 (doI s op m x).2.1 ∧ I64 (doI s op m x).2.2 := by
  have h1 := slotP_ok h.vs x
  have h2 := slotP_ok h.xs x
  have h3 : 0 ≤ listP x ∧ listP x ≤ 1 := by unfold listP; split <;> omega
  unfold doI
  unfold I64 at *
  split
  · simp only; omega
  split
  · simp only; omega
  split
  · simp only; omega
  split
  · simp only; omega
  split
  · simp only; omega
  split
  · simp only; omega
  · simp only; omega
theorem cE_ok {s : Sp} {pl : ByteArray → Int} (h : Nar s pl) : ∀ l : ES, l.n64 → InsOk (cE s pl l)
  | .nil, _ => insOk_nil
  | .cons op m x l r, hn => insOk_app (cE_ok h l hn.2.1) (insOk_cons (mkI_ok h op m x hn.1) (cE_ok h r hn.2.2))
theorem cS_ok {s : Sp} {pl : ByteArray → Int} (h : Nar s pl) : ∀ (l : SS) (p : Nat), l.n64 → p + 3 * l.cnt ≤ 1000000000 → InsOk (cS s pl l p)
  | .nil, _, _, _ => insOk_nil
  | .cons op x m l b e r, p, hn, hp => by
    have hc := cE_ok h l hn.2.1
    have l1 := cE_len s pl l
    have l2 := cS_len s pl b (p + (cE s pl l).length + 1)
    simp only [SS.cnt] at hp
    have hB := cS_ok h b (p + (cE s pl l).length + 1) hn.2.2.1 (by omega)
    have l3 := stI_len p (cE s pl l) (cS s pl b (p + (cE s pl l).length + 1)) (cS s pl e) (doI s op m x) op (3 * e.cnt) (cS_len s pl e)
    have hr := cS_ok h r (p + (stI p (cE s pl l) (cS s pl b (p + (cE s pl l).length + 1)) (cS s pl e) (doI s op m x) op).length) hn.2.2.2.2 (by omega)
    have hd := doI_ok h op m x hn.1
    refine insOk_app ?_ hr
    have he := fun q (hq : q + 3 * e.cnt ≤ 1000000000) => cS_ok h e q hn.2.2.2.1 hq
    generalize hBn : cS s pl b (p + (cE s pl l).length + 1) = B at *
    have le := cS_len s pl e (p + (cE s pl l).length + 1 + B.length + 1)
    unfold stI
    split
    · refine insOk_app hc (insOk_cons ?_ (insOk_app hB (insOk_cons ?_ (he _ (by omega)))))
      · unfold I64; simp only; omega
      · unfold I64; simp only; omega
    split
    · refine insOk_app hc (insOk_cons ?_ (insOk_app hB (insOk_cons ?_ insOk_nil)))
      · unfold I64; simp only; omega
      · unfold I64; simp only; omega
    · exact insOk_app hc (insOk_cons hd insOk_nil)
theorem fnL_ok {s : Sp} {pl : ByteArray → Int} (h : Nar s pl) (b : SS) (hn : b.n64) (hc : 3 * b.cnt ≤ 1000000000) : InsOk (fnL s pl b) :=
  insOk_app (cS_ok h b 0 hn (by omega)) (insOk_cons (by unfold I64; decide) (insOk_cons (by unfold I64; decide) insOk_nil))
theorem plG_ok (s : ByteArray) : ∀ (l : List Sp) (k : Nat) (d : Int), 0 ≤ d ∧ d ≤ 1000 → k + l.length ≤ 1000 → 0 ≤ plG l k d s ∧ plG l k d s ≤ 1000
  | [], _, _, h, _ => h
  | x :: r, k, d, h, hk => by
    unfold plG
    refine plG_ok s r (k + 1) _ ?_ (by simp at hk; omega)
    simp only [List.length_cons] at hk
    split <;> omega
/-- A resolved program is that small. -/
theorem nar_of {p : Pg} (h : resErr p = 0) : rightN p = 0 ∧ ∀ f, f ∈ mainF p :: p.fs → Nar (spFn (arF p.fs) f) (plOf (scopes p)) := by
  have hr : rightN p = 0 := by
    by_cases h0 : rightN p = 0
    · exact h0
    · exact absurd ((err_right h0).symm.trans h) h0
  have h2 : (distinctN p.fs && (mainF p :: p.fs).all (okFn (arF p.fs))) = true := by
    cases h3 : (distinctN p.fs && (mainF p :: p.fs).all (okFn (arF p.fs))) with
    | true => rfl
    | false => rw [err_name hr h3] at h; cases h
  have h3 : (scopes p).any Sp.full = false := by
    rw [err_ok hr h2] at h
    cases h4 : (scopes p).any Sp.full with
    | false => rfl
    | true => rw [h4] at h; cases h
  refine ⟨hr, fun f hf => ?_⟩
  have h4 : Sp.full (spFn (arF p.fs) f) = false := by
    rw [List.any_eq_false] at h3
    have := h3 (spFn (arF p.fs) f) (List.mem_map_of_mem hf)
    simpa using this
  unfold Sp.full at h4
  simp only [Bool.or_eq_false_iff, decide_eq_false_iff_not] at h4
  refine ⟨by omega, by omega, fun x => ?_⟩
  have hl := (right_lims hr).1
  have := plG_ok x (scopes p) 0 0 (by omega) (by unfold scopes; simp; omega)
  unfold plOf
  omega
end Go.Proofs.YtnilklgnpfgieaaDoor

/-
  compile.Compile.
-/
namespace Go.Proofs.YtnilklgnpfgieaaDoor
open Go Go.RowKit Go.Lib

abbrev cdO (v : Value) : Obj := .cells #[v] 29
theorem fcv_nil (B : Nat) (W : World) (p : Pg) (h : resErr p ≠ 0) : FcV B W (.slice none 0 0) (cmpP p) := by
  unfold cmpP; rw [if_neg h]
  exact ⟨none, 0, rfl, Nat.le_refl _, by decide, fun h => by simp at h⟩
/-- A store of the code into its box. -/
theorem cd_end {w w3 : World} {r0 : Value} {b : Nat} (hx : w3.heap[b]? = some (.cells #[r0] 29)) (hb : Below w.heap.size w w3) (hbw : w.heap.size ≤ b) (v : Value) (W : World) (hW : w3.setCell ⟨b, 0, none⟩ v = W) :
    W.cell? ⟨b, 0, none⟩ = some v ∧ Below w.heap.size w W ∧ World.grownBy w3 W (some b) := by
  rw [← hW]
  exact ⟨(blk_cell ((blk_set hx 0 v).trans rfl) 0).trans rfl, hb.setCell (p := ⟨b, 0, none⟩) hbw v, ⟨rfl, rfl, rfl, by simp, fun k _ hk => Below.heap_setCell _ _ _ _ (fun e => hk (by rw [e]))⟩⟩

set_option maxRecDepth 100000 in
set_option maxHeartbeats 8000000 in
theorem compile_err (v : Value) (p : Pg) (w : World) (hv : PgV w.heap.size w v p) (ht : Tab w) (hc : cntL p.pts ≤ 10000000) (he : resErr p ≠ 0) :
    Calls Tryd.prog 5 #[v] w fun e w' => e = .returned (.tuple #[.agg #[.slice none 0 0], .int .i64 (resErr p)]) ∧ Below w.heap.size w w' := by
  obtain ⟨A, cap, A', cap', rfl, h0, h1⟩ := id hv
  obtain ⟨wa, hwa⟩ : ∃ wa, (w.alloc (pgO A p.fs.length cap A' p.m.len cap')).alloc (cdO (.slice none 0 0)) = wa := ⟨_, rfl⟩
  have hba : Below w.heap.size w wa := by rw [← hwa]; exact ((Below.refl _ _).alloc (Nat.le_refl _) _).alloc (by simp) _
  have hx0 : wa.heap[w.heap.size]? = some (pgO A p.fs.length cap A' p.m.len cap') := by rw [← hwa]; exact blk_alloc (heap_alloc_new _ _) _
  have hx1 : wa.heap[w.heap.size + 1]? = some (cdO (.slice none 0 0)) := by rw [← hwa]; exact new2 _ _ _
  have hR := resolve_p _ p wa (hv.below hba hba.size) (ht.below hba ht.1) hc
  obtain ⟨z, hz⟩ : ∃ z, resErr p = z := ⟨_, rfl⟩
  obtain ⟨nf, hnf⟩ : ∃ nf, p.fs.length = nf := ⟨_, rfl⟩
  rw [hz] at hR he ⊢
  rw [hnf] at hx0 hwa hR ⊢
  have e0 : (z != 0) = true := by simp [bne, he]
  have y0 : wa.cell? ⟨w.heap.size, 0, none⟩ = some (.slice A nf cap) := (blk_cell hx0 0).trans rfl
  have y1 : wa.cell? ⟨w.heap.size, 1, none⟩ = some (.slice A' p.m.len cap') := (blk_cell hx0 1).trans rfl
  have hl0 := blk_lt hx0
  have HWA := Lib.hid hwa
  have HR := Lib.hid hR
  have HB := Lib.hid hba
  have HX1 := Lib.hid hx1
  clear hwa hR hba hx1 hx0 hz hnf hv ht h0 h1 he
  go_enter Tryd.func5, Tryd.ntmps5
  go_upto_region 1 with fail
  rw [HWA.out]
  go_wp2_with (go_at_call 8; ((with_reducible refine HR.out.mono ?_); rintro e w2 ⟨v', rfl, ⟨A5, cap5, rfl, _⟩, h2⟩; have q1 := (h2.block _ (blk_lt HX1.out)).trans HX1.out; have t1 : w2.cell? ⟨w.heap.size + 1, 0, none⟩ = some (.slice none 0 0) := (blk_cell q1 0).trans rfl; have f1 := blk_frozen q1 0; have l1 := blk_lt q1; have Q1 := Lib.hid q1; have H2 := Lib.hid h2; clear q1 h2))
  obtain ⟨W, hW⟩ : ∃ W, w2.setCell ⟨w.heap.size + 1, 0, none⟩ (.slice none 0 0) = W := ⟨_, rfl⟩
  rw [hW]
  obtain ⟨g1, g2, _⟩ := cd_end Q1.out (HB.out.trans (H2.out.mono HB.out.size)) (Nat.le_succ _) _ _ hW
  clear hW
  refine bodyPost_ret (v := .tuple #[.agg #[.slice none 0 0], .int .i64 z]) ?_ rfl ⟨rfl, g2⟩
  rw [results_cell_tmp rfl]
  go_simp
end Go.Proofs.YtnilklgnpfgieaaDoor

/-
  compile.Compile, of what is resolved.
-/
namespace Go.Proofs.YtnilklgnpfgieaaDoor
open Go Go.RowKit Go.Lib

theorem SpsIn.at_ {B : Nat} {W : World} : ∀ {l : List Sp} {b o k : Nat} {s : Sp}, SpsIn B W l b o → l[k]? = some s → W.cell? ⟨b, o + k * 4, none⟩ = some (.string s.s) ∧ W.cell? ⟨b, o + k * 4 + 1, none⟩ = some (.int .i64 s.n) ∧ (∃ v, W.cell? ⟨b, o + k * 4 + 2, none⟩ = some v ∧ RowV (PsIn W s.vs) B s.vs.length v) ∧ (∃ v, W.cell? ⟨b, o + k * 4 + 3, none⟩ = some v ∧ RowV (PsIn W s.xs) B s.xs.length v)
  | x :: r, b, o, 0, s, h, e => by
    simp at e
    subst e
    obtain ⟨h0, h1, h2, h3, _, _⟩ := h
    simp only [Nat.zero_mul, Nat.add_zero]
    exact ⟨h0, h1, h2, h3⟩
  | x :: r, b, o, k + 1, s, h, e => by
    obtain ⟨_, _, _, _, _, hr⟩ := h
    have := SpsIn.at_ hr (k := k) (by simpa using e)
    rw [show o + (k + 1) * 4 = o + 4 + k * 4 by omega]
    exact this
theorem we_mk {B : Nat} {W0 W : World} {s : Sp} {vv va : Value} {M : Nat} {pl : ByteArray → Int} (hvv : RowV (PsIn W0 s.vs) B s.vs.length vv) (hva : RowV (PsIn W0 s.xs) B s.xs.length va) (hb : Below B W0 W) (hW : B ≤ W.heap.size) (hM : M < B) (hp : PMap M pl W0) (hg : 4 < B) (hs : SameAt W0) : WE W.heap.size W s vv va M pl :=
  ⟨hvv.imp hW fun _ _ hb' hq => PsIn.below hb hb' hq, hva.imp hW fun _ _ hb' hq => PsIn.below hb hb' hq, Nat.lt_of_lt_of_le hM hW, hp.below hM hb, Nat.lt_of_lt_of_le hg hW, hs.below hg hb⟩
/-- What stands while functions are compiled: scopes, functions, the map of places, the table. -/
structure CW (B : Nat) (W : World) (p : Pg) (A : Option Addr) (nf cap : Nat) (A5 : Option Addr) (c5 M : Nat) : Prop where
  le : B ≤ W.heap.size
  sp : SpV B W (.slice A5 (nf + 1) c5) (scopes p)
  fs : FV B W (.slice A nf cap) p.fs
  hM : M < B
  pm : PMap M (plOf (scopes p)) W
  hg : 4 < B
  sm : SameAt W
def CoRel (B : Nat) (W2 : World) (p : Pg) (nf : Nat) (A : Option Addr) (l i : Value) (wr : World) : Prop :=
  ∃ (k : Nat) (pre r : List Fn) (cs : List Value), i = .int .i64 k ∧ k + r.length = nf ∧ p.fs = pre ++ r ∧ pre.length = k ∧ (0 < r.length → ∃ b o, A = some ⟨b, o, none⟩ ∧ b < B ∧ FsIn B W2 r b (o + k * 3)) ∧
    wr.ownsRow B 40 5 l (k + 1) cs ∧ FcC B wr ((mainF p :: pre).map (fcP p)) cs ∧ Below B W2 wr

theorem fc_one {p : Pg} {f : Fn} {s : Sp} {kv kx base : Nat} {W : World} {vl : Value} (hs : spFn (arF p.fs) f = s) (hv : s.vs.length = kv) (hx : s.xs.length = kx) (ho : W.ownsRow base 43 3 vl (fnL s (plOf (scopes p)) f.b).length (insV (fnL s (plOf (scopes p)) f.b))) :
    FcC base W [fcP p f] [.string s.s, .int .i64 s.n, .int .i64 kv, .int .i64 kx, vl] := by
  subst hs hv hx
  exact ⟨vl, [], rfl, ho, rfl⟩
set_option maxRecDepth 100000 in
set_option maxHeartbeats 8000000 in
theorem compile_ok (v : Value) (p : Pg) (w : World) (hv : PgV w.heap.size w v p) (ht : Tab w) (hg : 4 < w.heap.size) (hsm : SameAt w) (hc : cntL p.pts ≤ 10000000) (he : resErr p = 0) :
    Calls Tryd.prog 5 #[v] w fun e w' => ∃ vf, e = .returned (.tuple #[.agg #[vf], .int .i64 0]) ∧ FcV w'.heap.size w' vf (cFns p) ∧ Below w.heap.size w w' := by
  obtain ⟨A, cap, A', cap', rfl, h0, h1⟩ := id hv
  obtain ⟨wa, hwa⟩ : ∃ wa, (w.alloc (pgO A p.fs.length cap A' p.m.len cap')).alloc (cdO (.slice none 0 0)) = wa := ⟨_, rfl⟩
  have hba : Below w.heap.size w wa := by rw [← hwa]; exact ((Below.refl _ _).alloc (Nat.le_refl _) _).alloc (by simp) _
  have hx0 : wa.heap[w.heap.size]? = some (pgO A p.fs.length cap A' p.m.len cap') := by rw [← hwa]; exact blk_alloc (heap_alloc_new _ _) _
  have hx1 : wa.heap[w.heap.size + 1]? = some (cdO (.slice none 0 0)) := by rw [← hwa]; exact new2 _ _ _
  have hR := resolve_p _ p wa (hv.below hba hba.size) (ht.below hba ht.1) hc
  obtain ⟨hr0, hnar⟩ := nar_of he
  obtain ⟨hogm, hogf⟩ := right_og hr0
  have hlim := right_lims hr0
  have hsl : (scopes p).length = p.fs.length + 1 := by unfold scopes; simp
  obtain ⟨nf, hnf⟩ : ∃ nf, p.fs.length = nf := ⟨_, rfl⟩
  have hnf32 : nf ≤ 32 := by rw [← hnf]; exact hlim.1
  unfold resP at hR
  rw [if_pos he, he] at hR
  rw [hnf] at hx0 hwa hR hsl
  have hcm : p.m.cnt ≤ 10000000 ∧ ∀ f, f ∈ p.fs → f.b.cnt ≤ 10000000 := by
    have hcc : cntL (fsPts p.fs) + p.m.cnt ≤ 10000000 := by simpa [Pg.pts, cntL_append, SS.cntL] using hc
    exact ⟨by omega, fun f hf => by have := cnt_mem hf; omega⟩
  have hokL : ∀ f, f ∈ cFns p → InsOk f.L := by
    intro g hgm
    obtain ⟨f, hf, rfl⟩ := List.mem_map.1 hgm
    have h64 : f.b.n64 ∧ f.b.cnt ≤ 10000000 := by
      rcases List.mem_cons.1 hf with rfl | hf
      · exact ⟨sv_n64 h1, hcm.1⟩
      · obtain ⟨_, _, _, _, _, h3⟩ := h0
        refine ⟨?_, hcm.2 f hf⟩
        have key : ∀ (l : List Fn) (b o : Nat), FsIn w.heap.size w l b o → ∀ f, f ∈ l → f.b.n64 := by
          intro l
          induction l with
          | nil => intro b o _ f hf; cases hf
          | cons x l ih =>
            intro b o h f hf
            obtain ⟨_, _, ⟨v, _, hs⟩, _, hr⟩ := h
            rcases List.mem_cons.1 hf with rfl | hf
            · exact sv_n64 hs
            · exact ih b (o + 3) hr f hf
        obtain ⟨b, o, _, _, h5⟩ := h3 (by have : 0 < p.fs.length := List.length_pos_of_mem hf; exact this)
        exact key _ b o h5 f hf
    exact fnL_ok (hnar f hf) f.b h64.1 (by omega)
  have y0 : wa.cell? ⟨w.heap.size, 0, none⟩ = some (.slice A nf cap) := (blk_cell hx0 0).trans rfl
  have y1 : wa.cell? ⟨w.heap.size, 1, none⟩ = some (.slice A' p.m.len cap') := (blk_cell hx0 1).trans rfl
  have hl0 := blk_lt hx0
  have hl1 := blk_lt hx1
  have HWA := Lib.hid hwa
  have HR := Lib.hid hR
  have HB := Lib.hid hba
  have HX1 := Lib.hid hx1
  have HX0 := Lib.hid hx0
  have HBY : Hid (∀ (w2 : World) (v' : Value), SpV w2.heap.size w2 v' (scopes p) → Calls Tryd.prog 9 #[v'] w2 fun e w' => e = .returned (.map (some w2.heap.size)) ∧ Below w2.heap.size w2 w' ∧ PMap w2.heap.size (plOf (scopes p)) w' ∧ w2.heap.size < w'.heap.size) := hid fun w2 v' h => byname_w _ v' (scopes p) w2 (Nat.le_refl _) h (by omega)
  have H0 := Lib.hid h0
  have H1 := Lib.hid h1
  have HNF := Lib.hid hnf
  have HOK := Lib.hid hokL
  have HOG := Lib.hid hogf
  have HOM := Lib.hid hogm
  have HCM := Lib.hid hcm
  have HSL := Lib.hid hsl
  have HSM := Lib.hid hsm
  rw [hnf]
  clear hwa hR hba hx1 hx0 hnf hv ht h0 h1 he hokL hogf hogm hcm hsl hsm hnar hlim hr0 hc
  go_enter Tryd.func5, Tryd.ntmps5
  go_upto_region 1 with fail
  rw [HWA.out]
  go_upto_region 5 with (first
    | (go_at_call 8; ((with_reducible refine HR.out.mono ?_); rintro e w2 ⟨v', rfl, hsp, h2⟩; have HSP := Lib.hid hsp; obtain ⟨A5, c5, rfl, q1, q2, q3⟩ := hsp; have HBN := Lib.hid (HBY.out w2 _ HSP.out); have H2 := Lib.hid h2; have s2 := h2.size; clear h2))
    | (go_at_call 9; ((with_reducible refine HBN.out.mono ?_); rintro e w3 ⟨rfl, h3, hpm, hlt3⟩; have HPM := Lib.hid hpm; have H3 := Lib.hid h3; have s3 := h3.size; clear h3 hpm)))
  have hch : Below w.heap.size w w3 := HB.out.trans (((H2.out.trans (H3.out.mono H2.out.size))).mono HB.out.size)
  have hsp3 := HSP.out.below H3.out H3.out.size
  rw [HSL.out] at hsp3 ⊢
  have hcw : CW w3.heap.size w3 p A nf cap A5 c5 w2.heap.size := ⟨Nat.le_refl _, hsp3, by have := H0.out.below hch hch.size; rwa [HNF.out] at this, hlt3, HPM.out, Nat.lt_of_lt_of_le hg hch.size, HSM.out.below hg hch⟩
  obtain ⟨M, hM⟩ : ∃ M, w2.heap.size = M := ⟨_, rfl⟩
  rw [hM] at hcw ⊢
  obtain ⟨b5, o5, rfl, hb5, hsps⟩ : ∃ b5 o5, A5 = some ⟨b5, o5, none⟩ ∧ b5 < w3.heap.size ∧ SpsIn w3.heap.size w3 (scopes p) b5 o5 := by
    obtain ⟨A6, c6, e, k1, k2, k3⟩ := hcw.sp
    injection e with e1 e2 e3
    subst e1
    exact k3 (by rw [HSL.out]; omega)
  obtain ⟨s0, hs0⟩ : ∃ s0, spFn (arF p.fs) (mainF p) = s0 := ⟨_, rfl⟩
  obtain ⟨k0, k1, ⟨v2, k2, r2⟩, ⟨v3, k3, r3⟩⟩ := SpsIn.at_ hsps (k := 0) (s := s0) (by rw [← hs0]; rfl)
  simp only [Nat.zero_mul, Nat.add_zero] at k0 k1 k2 k3
  obtain ⟨A2, cp2, rfl, _⟩ := id r2
  obtain ⟨A3, cp3, rfl, _⟩ := id r3
  obtain ⟨kv, hkv⟩ : ∃ kv, s0.vs.length = kv := ⟨_, rfl⟩
  obtain ⟨kx, hkx⟩ : ∃ kx, s0.xs.length = kx := ⟨_, rfl⟩
  have j0 : w3.drew.cell? ⟨b5, o5, none⟩ = some (.string s0.s) := k0
  have j1 : w3.drew.cell? ⟨b5, o5 + 1, none⟩ = some (.int .i64 s0.n) := k1
  have j2 : w3.drew.cell? ⟨b5, o5 + 2, none⟩ = some (.slice A2 kv cp2) := by rw [← hkv]; exact k2
  have j3 : w3.drew.cell? ⟨b5, o5 + 3, none⟩ = some (.slice A3 kx cp3) := by rw [← hkx]; exact k3
  have hd : Below w3.heap.size w3 w3.drew := belowD (Below.refl _ _)
  have y1' : w3.drew.cell? ⟨w.heap.size, 1, none⟩ = some (.slice A' p.m.len cap') := ((H2.out.trans (H3.out.mono H2.out.size)).cell (p := ⟨w.heap.size, 1, none⟩) hl0).trans y1
  have hwe := we_mk r2 r3 hd (Nat.le_refl _) hcw.hM hcw.pm hcw.hg hcw.sm
  have hF := function_w p.m A' cap' hwe (H1.out.below (hch.trans (hd.mono hch.size)) hch.size) HOM.out (by have := HCM.out.1; omega)
  rw [hkv, hkx] at hF
  have HF := Lib.hid hF
  have HCW := Lib.hid hcw
  have HSPS := Lib.hid hsps
  have HCH := Lib.hid hch
  have HS0 := Lib.hid hs0
  have HKV := Lib.hid hkv
  have HKX := Lib.hid hkx
  have HMM := Lib.hid hM
  have hw3 : w.heap.size < w3.heap.size := by have := HB.out.size; omega
  have lb5 : b5 < w3.drew.heap.size := hb5
  clear hF hcw hsps hch hs0 k0 k1 k2 k3 r2 r3 hwe hsp3 hkv hkx hd y0 y1
  go_still_tail 6, (by kernel_rfl)
  go_upto_region 6 with (go_at_call 10; ((with_reducible refine HF.out.mono ?_); rintro e w4 ⟨vl, rfl, ho4, h4⟩; obtain ⟨Xv, cv, rfl⟩ := own_form ho4; have HO4 := Lib.hid ho4; have H4 := Lib.hid h4; clear ho4 h4))
  obtain ⟨i0, hi, hz0, hz1, hz2⟩ := info_parts fcInfo
  obtain ⟨fl, hfl⟩ : ∃ fl, (fnL s0 (plOf (scopes p)) p.m).length = fl := ⟨_, rfl⟩
  rw [hfl]
  obtain ⟨w5, hw5⟩ : ∃ w5, w4.alloc (fcO s0.s s0.n kv kx (.slice Xv fl cv)) = w5 := ⟨_, rfl⟩
  rw [hw5]
  have hd3 : Below w3.heap.size w3 w3.drew := belowD (Below.refl _ _)
  have h34 : Below w3.heap.size w3 w4 := hd3.trans (H4.out.mono (Nat.le_refl _))
  have h35 : Below w3.heap.size w3 w5 := by rw [← hw5]; exact h34.alloc h34.size _
  have hown5 : w5.ownsRow w3.heap.size 40 5 (.slice (some ⟨w4.heap.size, 0, none⟩) 1 1) 1 [.string s0.s, .int .i64 s0.n, .int .i64 kv, .int .i64 kx, .slice Xv fl cv] := by
    rw [← hw5]
    exact World.ownsRow_lit w4 #[.string s0.s, .int .i64 s0.n, .int .i64 kv, .int .i64 kx, .slice Xv fl cv] 1 h34.size (by unfold maxLen; omega) rfl
  have hfc5 : FcC w3.heap.size w5 [fcP p (mainF p)] [.string s0.s, .int .i64 s0.n, .int .i64 kv, .int .i64 kx, .slice Xv fl cv] := by
    have h1 := HO4.out.kept (World.grownBy_alloc w4 (fcO s0.s s0.n kv kx (.slice Xv fl cv)) none) (Classical.em _)
    rw [hw5] at h1
    have h2 := fc_one HS0.out HKV.out HKX.out h1
    rwa [hfl] at h2
  have x5 : w5.cell? ⟨w.heap.size, 0, none⟩ = some (.slice A nf cap) := (h35.cell (p := ⟨w.heap.size, 0, none⟩) hw3).trans (((H2.out.trans (H3.out.mono H2.out.size)).cell (p := ⟨w.heap.size, 0, none⟩) hl0).trans ((blk_cell HX0.out 0).trans rfl))
  have h1c : w5.heap[w.heap.size + 1]? = some (cdO (.slice none 0 0)) := (h35.block _ (by have := HB.out.size; omega)).trans (((H2.out.trans (H3.out.mono H2.out.size)).block _ hl1).trans HX1.out)
  have HOW5 := Lib.hid hown5
  have HFC5 := Lib.hid hfc5
  have H35 := Lib.hid h35
  have H1C := Lib.hid h1c
  have HI := Lib.hid hi
  have HZ0 := Lib.hid hz0
  obtain ⟨_, _, eA, qa1, qa2, qa3⟩ := HCW.out.fs
  injection eA with ea1 ea2 ea3
  subst ea1 ea3
  clear ea2
  rw [HNF.out] at qa1 qa3
  have HQ3 := Lib.hid qa3
  clear hw5 hd3 h34 h35 hown5 hfc5 h1c hi hz0 qa3 j0 j1 j2 j3 y1'
  go_wp2
  go_loopw [7, 32] (fun l i wr => CoRel w3.heap.size w3 p nf A l i wr) (fun _ i _ => nf - (RowKit.intOf i).toNat)
  case atStart => exact ⟨0, [], p.fs, _, rfl, by have := HNF.out; omega, rfl, rfl, fun h => by have := HQ3.out (by have := HNF.out; omega); simpa using this, HOW5.out, HFC5.out, H35.out⟩
  case round =>
    obtain ⟨k, pre, r, cs, rfl, hkk, hfs, hpre, hr1, hown, hfc, hbel⟩ := hrel
    have HFS := Lib.hid hfs
    have HPR := Lib.hid hpre
    have HO := Lib.hid hown
    have HFC := Lib.hid hfc
    have HBL := Lib.hid hbel
    obtain ⟨X, cX, rfl⟩ := own_form hown
    cases r with
    | nil =>
      have hk0 : k = nf := by simpa using hkk
      subst hk0
      have hpe : pre = p.fs := by rw [HFS.out]; simp
      have h1w : wr.heap[w.heap.size + 1]? = some (cdO (.slice none 0 0)) := (hbel.block _ (by have := HB.out.size; omega)).trans (((H2.out.trans (H3.out.mono H2.out.size)).block _ hl1).trans HX1.out)
      have t1 : wr.cell? ⟨w.heap.size + 1, 0, none⟩ = some (.slice none 0 0) := (blk_cell h1w 0).trans rfl
      have f1 := blk_frozen h1w 0
      have l1 := blk_lt h1w
      have H1W := Lib.hid h1w
      have HPE := Lib.hid hpe
      have hne : some (w.heap.size + 1) ≠ (Value.slice X (k + 1) cX).ownBlock := own_ne hown h1w (by decide)
      have HNE := Lib.hid hne
      clear hkk hr1 hfs hpre hown hfc hbel hpe h1w hne
      go_wp2
      obtain ⟨W, hW⟩ : ∃ W, wr.setCell ⟨w.heap.size + 1, 0, none⟩ (.slice X (k + 1) cX) = W := ⟨_, rfl⟩
      obtain ⟨g1, g2, _⟩ := cd_end H1W.out (HCH.out.trans (HBL.out.mono HCH.out.size)) (Nat.le_succ _) _ _ hW
      have hown' : W.ownsRow w3.heap.size 40 5 (.slice X (k + 1) cX) (k + 1) cs := by rw [← hW]; exact own_set (a := ⟨_, 0, none⟩) HO.out HNE.out _
      have hfc' : FcC w3.heap.size W ((mainF p :: pre).map (fcP p)) cs := by rw [← hW]; exact HFC.out.mono fun _ _ h => own_set (a := ⟨_, 0, none⟩) h (own_ne h H1W.out (by decide)) _
      have hfin : FcV W.heap.size W (.slice X (k + 1) cX) (cFns p) := by
        have := own_fc hown' hfc' (by rw [List.length_map, List.length_cons, HPR.out]) (by rw [HPE.out]; exact HOK.out)
        rwa [HPE.out] at this
      rw [hW]
      clear hW hown' hfc'
      refine bodyPost_ret (v := .tuple #[.agg #[.slice X (k + 1) cX], .int .i64 0]) ?_ rfl ⟨_, rfl, hfin, g2⟩
      rw [results_cell_tmp rfl]
      go_simp
    | cons f r =>
      obtain ⟨b, o, rfl, hb, c0, ⟨v1, c1, h1⟩, ⟨v2, c2, h2⟩, h6, hr⟩ := hr1 (by simp)
      obtain ⟨A6, cap6, rfl, _⟩ := id h1
      obtain ⟨A7, cap7, rfl, _⟩ := id h2
      have hlt : k < nf := by simp at hkk; omega
      have HKK := Lib.hid hkk
      have d0 := (hbel.cell (p := ⟨b, o + k * 3, none⟩) hb).trans c0
      have d1 := (hbel.cell (p := ⟨b, o + k * 3 + 1, none⟩) hb).trans c1
      have d2 := (hbel.cell (p := ⟨b, o + k * 3 + 2, none⟩) hb).trans c2
      have hmem : f ∈ p.fs := by rw [hfs]; simp
      have hfk : p.fs[k]? = some f := by rw [hfs, ← hpre]; exact get_mid _ _ _
      obtain ⟨s1, hs1⟩ : ∃ s1, spFn (arF p.fs) f = s1 := ⟨_, rfl⟩
      obtain ⟨e0, e1, ⟨v4, e2, r2⟩, ⟨v5, e3, r3⟩⟩ := SpsIn.at_ HSPS.out (k := k + 1) (s := s1) (by rw [← hs1]; unfold scopes; simp [hfk])
      obtain ⟨A8, cp8, rfl, _⟩ := id r2
      obtain ⟨A9, cp9, rfl, _⟩ := id r3
      obtain ⟨kv1, hkv1⟩ : ∃ kv, s1.vs.length = kv := ⟨_, rfl⟩
      obtain ⟨kx1, hkx1⟩ : ∃ kx, s1.xs.length = kx := ⟨_, rfl⟩
      obtain ⟨wb, hwb⟩ : ∃ wb, wr.alloc (fnO f.s (.slice A6 f.ps.length cap6) (.slice A7 f.b.len cap7)) = wb := ⟨_, rfl⟩
      have hbb : Below wr.heap.size wr wb := by rw [← hwb]; exact (Below.refl _ _).alloc (Nat.le_refl _) _
      have h3b : Below w3.heap.size w3 wb := hbel.trans (hbb.mono hbel.size)
      have hxb : wb.heap[wr.heap.size]? = some (fnO f.s (.slice A6 f.ps.length cap6) (.slice A7 f.b.len cap7)) := by rw [← hwb]; exact heap_alloc_new _ _
      have h3d : Below w3.heap.size w3 wb.drew := h3b.trans (belowD (Below.refl _ _))
      have hS0 : Below w3.heap.size w3 wb.drew ∧ wb.drew.heap[wr.heap.size]? = some (fnO f.s (.slice A6 f.ps.length cap6) (.slice A7 f.b.len cap7)) := ⟨h3d, hxb⟩
      have KC : Hid (∀ W', (Below w3.heap.size w3 W' ∧ W'.heap[wr.heap.size]? = some (fnO f.s (.slice A6 f.ps.length cap6) (.slice A7 f.b.len cap7))) → W'.cell? ⟨b5, o5 + (k + 1) * 4, none⟩ = some (.string s1.s) ∧ W'.cell? ⟨b5, o5 + (k + 1) * 4 + 1, none⟩ = some (.int .i64 s1.n) ∧ W'.cell? ⟨b5, o5 + (k + 1) * 4 + 2, none⟩ = some (.slice A8 kv1 cp8) ∧ W'.cell? ⟨b5, o5 + (k + 1) * 4 + 3, none⟩ = some (.slice A9 kx1 cp9) ∧ W'.cell? ⟨wr.heap.size, 2, none⟩ = some (.slice A7 f.b.len cap7) ∧ b5 < W'.heap.size ∧ wr.heap.size < W'.heap.size) := hid fun W' h =>
        ⟨(h.1.cell (p := ⟨b5, _, none⟩) hb5).trans e0, (h.1.cell (p := ⟨b5, _, none⟩) hb5).trans e1, by rw [← hkv1]; exact (h.1.cell (p := ⟨b5, _, none⟩) hb5).trans e2, by rw [← hkx1]; exact (h.1.cell (p := ⟨b5, _, none⟩) hb5).trans e3, (blk_cell h.2 2).trans rfl, Nat.lt_of_lt_of_le hb5 h.1.size, blk_lt h.2⟩
      have hwe := we_mk r2 r3 h3d h3d.size HCW.out.hM HCW.out.pm HCW.out.hg HCW.out.sm
      have hF := function_w f.b A7 cap7 hwe (h2.below h3d h3d.size) (HOG.out f hmem) (by have := HCM.out.2 f hmem; omega)
      rw [hkv1, hkx1] at hF
      have HF1 := Lib.hid hF
      have HBB := Lib.hid hbb
      have H3D := Lib.hid h3d
      have HS1 := Lib.hid hs1
      have HKV1 := Lib.hid hkv1
      have HKX1 := Lib.hid hkx1
      have HWB := Lib.hid hwb
      have lwr : wr.heap.size < wb.drew.heap.size := blk_lt hxb
      clear hkk hfs hpre hown hfc hbel hmem hfk hs1 e0 e1 e2 e3 r2 r3 hkv1 hkx1 hbb h3b hxb h3d hwe hF c0 c1 c2 h1 h2 h6 hwb
      go_upto_region 9 with fail
      rw [HWB.out]
      have hwk : IntKind.i64.wrap ((k : Int) + 1) = (k : Int) + 1 := IntWalk.i64_in _ (by omega)
      have hb1 : 0 ≤ (k : Int) + 1 := by omega
      have hb2 : (k : Int) + 1 < ((nf + 1 : Nat) : Int) := by omega
      have hb2' : (k : Int) + 1 < (nf : Int) + 1 := by omega
      have hb3 : ((k : Int) + 1).toNat = k + 1 := by omega
      refine wp_region_held_drew (S := fun W' => Below w3.heap.size w3 W' ∧ W'.heap[wr.heap.size]? = some (fnO f.s (.slice A6 f.ps.length cap6) (.slice A7 f.b.len cap7))) (by kernel_rfl) hS0 (fun hHeld => ?_)
      refine wpAnyH_take (i := 0) (v := .slice X (k + 1) cX) rfl (by kernel_rfl) (by kernel_rfl) (by kernel_rfl) (fun _ _ _ h => h) (Or.inl ⟨by rfl, ?_⟩) (by assumption) ?_
      · intro W' hSw
        obtain ⟨j0, j1, j2, j3, j4, lb5', lwr⟩ := KC.out W' hSw
        go_simp
      try simp only [Act.put, List.getElem_toArray, List.getElem_cons_zero, List.setIfInBounds_toArray, List.set_cons_zero, List.set_cons_succ]
      refine wpAnyH_take (i := 1) (v := .slice (some ⟨b5, o5, none⟩) (nf + 1) c5) rfl (by kernel_rfl) (by kernel_rfl) (by kernel_rfl) (fun _ _ _ h => h) (Or.inl ⟨by rfl, ?_⟩) (by assumption) ?_
      · intro W' hSw
        obtain ⟨j0, j1, j2, j3, j4, lb5', lwr⟩ := KC.out W' hSw
        go_simp
      try simp only [Act.put, List.getElem_toArray, List.getElem_cons_zero, List.getElem_cons_succ, List.setIfInBounds_toArray, List.set_cons_zero, List.set_cons_succ]
      refine wpAnyH_take (i := 2) (v := .int .i64 k) rfl (by kernel_rfl) (by kernel_rfl) (by kernel_rfl) (fun _ _ _ h => h) (Or.inl ⟨by rfl, ?_⟩) (by assumption) ?_
      · intro W' hSw
        obtain ⟨j0, j1, j2, j3, j4, lb5', lwr⟩ := KC.out W' hSw
        go_simp
      try simp only [Act.put, List.getElem_toArray, List.getElem_cons_zero, List.getElem_cons_succ, List.setIfInBounds_toArray, List.set_cons_zero, List.set_cons_succ]
      refine wpAnyH_take (i := 3) (v := .int .i64 ((k : Int) + 1)) rfl (by kernel_rfl) (by kernel_rfl) (by kernel_rfl) (fun _ _ _ h => h) (Or.inl ⟨by rfl, ?_⟩) (by assumption) ?_
      · intro W' hSw
        obtain ⟨j0, j1, j2, j3, j4, lb5', lwr⟩ := KC.out W' hSw
        go_simp
      try simp only [Act.put, List.getElem_toArray, List.getElem_cons_zero, List.getElem_cons_succ, List.setIfInBounds_toArray, List.set_cons_zero, List.set_cons_succ]
      refine wpAnyH_take (i := 4) (v := .pointer (some ⟨b5, o5 + (k + 1) * 4, none⟩)) rfl (by kernel_rfl) (by kernel_rfl) (by kernel_rfl) (fun _ _ _ h => h) (Or.inl ⟨by rfl, ?_⟩) (by assumption) ?_
      · intro W' hSw
        obtain ⟨j0, j1, j2, j3, j4, lb5', lwr⟩ := KC.out W' hSw
        go_simp
      try simp only [Act.put, List.getElem_toArray, List.getElem_cons_zero, List.getElem_cons_succ, List.setIfInBounds_toArray, List.set_cons_zero, List.set_cons_succ]
      refine wpAnyH_take (i := 5) (v := .agg #[.string s1.s, .int .i64 s1.n, .slice A8 kv1 cp8, .slice A9 kx1 cp9]) rfl (by kernel_rfl) (by kernel_rfl) (by kernel_rfl) (fun _ _ _ h => h) (Or.inl ⟨by rfl, ?_⟩) (by assumption) ?_
      · intro W' hSw
        obtain ⟨j0, j1, j2, j3, j4, lb5', lwr⟩ := KC.out W' hSw
        go_simp
      try simp only [Act.put, List.getElem_toArray, List.getElem_cons_zero, List.getElem_cons_succ, List.setIfInBounds_toArray, List.set_cons_zero, List.set_cons_succ]
      refine wpAnyH_take (i := 6) (v := .map (some M)) rfl (by kernel_rfl) (by kernel_rfl) (by kernel_rfl) (fun _ _ _ h => h) (Or.inl ⟨by rfl, ?_⟩) (by assumption) ?_
      · intro W' hSw
        obtain ⟨j0, j1, j2, j3, j4, lb5', lwr⟩ := KC.out W' hSw
        go_simp
      try simp only [Act.put, List.getElem_toArray, List.getElem_cons_zero, List.getElem_cons_succ, List.setIfInBounds_toArray, List.set_cons_zero, List.set_cons_succ]
      refine wpAnyH_take (i := 7) (v := .pointer (some ⟨wr.heap.size, 2, none⟩)) rfl (by kernel_rfl) (by kernel_rfl) (by kernel_rfl) (fun _ _ _ h => h) (Or.inl ⟨by rfl, ?_⟩) (by assumption) ?_
      · intro W' hSw
        obtain ⟨j0, j1, j2, j3, j4, lb5', lwr⟩ := KC.out W' hSw
        go_simp
      try simp only [Act.put, List.getElem_toArray, List.getElem_cons_zero, List.getElem_cons_succ, List.setIfInBounds_toArray, List.set_cons_zero, List.set_cons_succ]
      refine wpAnyH_take (i := 8) (v := .slice A7 f.b.len cap7) rfl (by kernel_rfl) (by kernel_rfl) (by kernel_rfl) (fun _ _ _ h => h) (Or.inl ⟨by rfl, ?_⟩) (by assumption) ?_
      · intro W' hSw
        obtain ⟨j0, j1, j2, j3, j4, lb5', lwr⟩ := KC.out W' hSw
        go_simp
      try simp only [Act.put, List.getElem_toArray, List.getElem_cons_zero, List.getElem_cons_succ, List.setIfInBounds_toArray, List.set_cons_zero, List.set_cons_succ]
      refine wpAnyH_ready (rs := [9]) (by kernel_rfl) (by simp) ?_
      refine AllReadyH.cons rfl (fun K hK => ?_) AllReadyH.nil
      go_simp
      go_at_call 10
      refine HF1.out.mono ?_
      rintro e6 w6 ⟨vl6, rfl, ho6, h6⟩
      obtain ⟨X6, c6, rfl⟩ := own_form ho6
      go_wp2_with fail
      have hr6 : Below wr.heap.size wr w6 := HBB.out.trans ((belowD (Below.refl _ _)).trans h6 |>.mono HBB.out.size)
      have hS6 : Below w3.heap.size w3 w6 ∧ w6.heap[wr.heap.size]? = some (fnO f.s (.slice A6 f.ps.length cap6) (.slice A7 f.b.len cap7)) := ⟨H3D.out.trans (h6.mono H3D.out.size), (h6.block _ lwr).trans hS0.2⟩
      refine hK.out _ _ hS6 (fun _ => ?_)
      clear hK K
      try simp only [Act.put, List.getElem_toArray, List.getElem_cons_zero, List.getElem_cons_succ, List.setIfInBounds_toArray, List.set_cons_zero, List.set_cons_succ]
      obtain ⟨fl1, hfl1⟩ : ∃ fl, (fnL s1 (plOf (scopes p)) f.b).length = fl := ⟨_, rfl⟩
      obtain ⟨w7, hw7⟩ : ∃ w7, w6.alloc (fcO s1.s s1.n kv1 kx1 (.slice X6 fl1 c6)) = w7 := ⟨_, rfl⟩
      have hr7 : Below wr.heap.size wr w7 := by rw [← hw7]; exact hr6.alloc hr6.size _
      have ho7 := ho6.kept (World.grownBy_alloc w6 (fcO s1.s s1.n kv1 kx1 (.slice X6 fl1 c6)) none) (Classical.em _)
      rw [hw7] at ho7
      have hS7 : Below w3.heap.size w3 w7 ∧ w7.heap[wr.heap.size]? = some (fnO f.s (.slice A6 f.ps.length cap6) (.slice A7 f.b.len cap7)) := by rw [← hw7]; exact ⟨hS6.1.alloc hS6.1.size _, blk_alloc hS6.2 _⟩
      have hn7 : w7.heap[w6.heap.size]? = some (fcO s1.s s1.n kv1 kx1 (.slice X6 fl1 c6)) := by rw [← hw7]; exact heap_alloc_new _ _
      rw [hfl1]
      refine wpAnyH_ready (rs := [10]) (by kernel_rfl) (by simp) ?_
      refine AllReadyH.cons rfl (fun K hK => ?_) AllReadyH.nil
      go_simp
      refine hK.out _ _ hS7 (fun _ => ?_)
      clear hK K
      try simp only [Act.put, List.getElem_toArray, List.getElem_cons_zero, List.getElem_cons_succ, List.setIfInBounds_toArray, List.set_cons_zero, List.set_cons_succ]
      have hown7 := HO.out.kept (grown_none hr7) (Classical.em _)
      have hfc7 := HFC.out.step hr7
      have h1f := (fc_one HS1.out HKV1.out HKX1.out ho7).mono (base' := w3.heap.size) fun _ _ h => own_base h H3D.out.size
      rw [hfl1] at h1f
      refine wpAnyH_ready (rs := [11]) (by kernel_rfl) (by simp) ?_
      refine AllReadyH.cons rfl (fun K hK => ?_) AllReadyH.nil
      refine step_append_own (E := _) rfl _ _ 27 rfl w3.heap.size 40 i0 _ 5 64 Tryd.underlying27 HI.out HZ0.out hz1 hz2 rfl (by decide) (.slice X (k + 1) cX) (k + 1) cs rfl hown7 (some ⟨w6.heap.size, 0, none⟩) 1 1 [.string s1.s, .int .i64 s1.n, .int .i64 kv1, .int .i64 kx1, .slice X6 fl1 c6] rfl (fun h => by cases h) rfl (blk_news hn7) (fun u hu => by (simp only [List.mem_cons, List.not_mem_nil, or_false] at hu; rcases hu with rfl | rfl | rfl | rfl | rfl <;> rfl)) (by unfold maxLen; omega) (by omega) hS7.1.size ?_
      intro v8 w8 hown8 hg8
      have hS8 : Below w3.heap.size w3 w8 ∧ w8.heap[wr.heap.size]? = some (fnO f.s (.slice A6 f.ps.length cap6) (.slice A7 f.b.len cap7)) := ⟨hS7.1.grown hg8 hS7.1.size (fun q hq => (hown7.lt q hq).1), blk_grown hS7.2 hg8 (own_ne hown7 hS7.2 (by decide))⟩
      refine hK.out _ _ hS8 (fun _ => ?_)
      clear hK K
      try simp only [Act.put, List.getElem_toArray, List.getElem_cons_zero, List.getElem_cons_succ, List.setIfInBounds_toArray, List.set_cons_zero, List.set_cons_succ]
      refine wpAnyH_ready (rs := [12]) (by kernel_rfl) (by simp) ?_
      refine AllReadyH.cons rfl (fun K hK => ?_) AllReadyH.nil
      go_simp
      refine hK.out _ _ hS8 (fun _ => ?_)
      clear hK K
      try simp only [Act.put, List.getElem_toArray, List.getElem_cons_zero, List.getElem_cons_succ, List.setIfInBounds_toArray, List.set_cons_zero, List.set_cons_succ]
      refine wpAnyH_done (by kernel_rfl) ?_ _
      have HR1 := Lib.hid hr1
      have HFS8 := Lib.hid hown8
      have HG8 := Lib.hid hg8
      have HF7 := Lib.hid hfc7
      have H1F := Lib.hid h1f
      have HO7 := Lib.hid hown7
      have HS8 := Lib.hid hS8
      clear hS0 hS6 hS7 hS8 hr6 hr7 ho6 ho7 hn7 hw7 hown7 hfc7 h1f hown8 hg8 h6 hr1
      go_wp2
      go_roundw
      case rel =>
        refine ⟨k + 1, pre ++ [f], r, _, by go_num, by have := HKK.out; simp at this; omega, by rw [HFS.out]; simp, by simp [HPR.out], fun _ => ⟨b, o, rfl, hb, by rw [show o + (k + 1) * 3 = o + k * 3 + 3 by omega]; exact hr⟩, HFS8.out, ?_, HS8.out.1⟩
        rw [← List.cons_append, List.map_append]
        exact FcC.app (H1F.out.grow HO7.out HG8.out) (HF7.out.grow HO7.out HG8.out)
      case measure => simp [RowKit.intOf]; omega
end Go.Proofs.YtnilklgnpfgieaaDoor

