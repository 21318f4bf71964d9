/-
  Texts SqU SqV: put together.
-/
import Derived.Test.YtaajolemjgdfnaaDoorSqN
/-
  ScopeOnce, plainly: what a resolved program's scopes are.
-/
namespace Go.Proofs.YtaajolemjgdfnaaDoor
open Go Go.RowKit Go.Lib

theorem foldN_nodup : ∀ (l acc : List ByteArray), acc.Nodup → (l.foldl withN acc).Nodup
  | [], _, h => h
  | s :: l, _acc, h => foldN_nodup l _ (withN_nodup h s)
theorem foldN_len : ∀ (l acc : List ByteArray), (l.foldl withN acc).length ≤ acc.length + l.length
  | [], _ => by simp
  | s :: l, acc => by
    have := foldN_len l (withN acc s)
    have := withN_len acc s
    simp only [List.foldl_cons, List.length_cons]; omega
/-- All of them are there: the row is just theirs. -/
theorem foldN_full : ∀ (l acc : List ByteArray), (l.foldl withN acc).length = acc.length + l.length → l.foldl withN acc = acc ++ l
  | [], _, _ => by simp
  | s :: l, acc, h => by
    have h1 := foldN_len l (withN acc s)
    simp only [List.foldl_cons, List.length_cons] at h ⊢
    have h2 : withN acc s = acc ++ [s] := by
      by_cases hs : s ∈ acc
      · have e : withN acc s = acc := by unfold withN; rw [if_pos hs]
        rw [e] at h1 h
        omega
      · unfold withN; rw [if_neg hs]
    rw [foldN_full l (withN acc s) (by rw [h, h2]; simp; omega), h2]
    simp
theorem gPar_vs (ps : List ByteArray) : ∀ g : Gt, (ps.foldl (fun (g : Gt) s => { g with vs := withN g.vs s }) g).vs = ps.foldl withN g.vs ∧ (ps.foldl (fun (g : Gt) s => { g with vs := withN g.vs s }) g).xs = g.xs := by
  induction ps with
  | nil => exact fun g => ⟨rfl, rfl⟩
  | cons s r ih => exact fun g => ih { g with vs := withN g.vs s }
/-- What is gathered grows at its end; what has been found wrong stays so. -/
theorem run_grows (ar : ByteArray → Option Nat) : ∀ (l : List Us) (g : Gt), (∃ t, (g.run ar l).vs = g.vs ++ t) ∧ (g.vs.Nodup → (g.run ar l).vs.Nodup) ∧ (g.xs.Nodup → (g.run ar l).xs.Nodup) ∧ ((g.run ar l).ok = true → g.ok = true)
  | [], g => ⟨⟨[], by simp [Gt.run]⟩, id, id, id⟩
  | u :: l, g => by
    have e : g.run ar (u :: l) = (g.step ar u).run ar l := rfl
    rw [e]
    obtain ⟨⟨t, h1⟩, h2, h3, h4⟩ := run_grows ar l (g.step ar u)
    have hw : ∀ s, ∃ t, withN g.vs s = g.vs ++ t := fun s => by
      unfold withN
      split
      · exact ⟨[], by simp⟩
      · exact ⟨[s], rfl⟩
    cases u with
    | var s =>
      obtain ⟨t', ht⟩ := hw s
      exact ⟨⟨t' ++ t, by rw [h1]; show withN g.vs s ++ t = _; rw [ht, List.append_assoc]⟩, fun h => h2 (withN_nodup h s), h3, h4⟩
    | arr s => exact ⟨⟨t, h1⟩, h2, fun h => h3 (withN_nodup h s), h4⟩
    | mk s => exact ⟨⟨t, h1⟩, h2, fun h => h3 (withN_nodup h s), h4⟩
    | call s n => exact ⟨⟨t, h1⟩, h2, h3, fun h => by have := h4 h; simp only [Gt.step, Bool.and_eq_true] at this; exact this.1⟩
/-- A function's scope, where it is right. -/
theorem sp_once {ar : ByteArray → Option Nat} {f : Fn} (h : okFn ar f = true) : ((spFn ar f).vs ++ (spFn ar f).xs).Nodup ∧ (∃ t, (spFn ar f).vs = f.ps ++ t) := by
  unfold okFn at h
  rw [Bool.and_eq_true] at h
  obtain ⟨h1, h2⟩ := h
  have hg : gFn ar f = Gt.run ar { gPar f.ps with ok := decide ((gPar f.ps).vs.length = f.ps.length) } f.b.us := rfl
  obtain ⟨p1, p2⟩ := gPar_vs f.ps g0
  have p3 : (gPar f.ps).vs = f.ps.foldl withN [] := p1
  have p4 : (gPar f.ps).xs = [] := p2
  obtain ⟨⟨t, r1⟩, r2, r3, r4⟩ := run_grows ar f.b.us { gPar f.ps with ok := decide ((gPar f.ps).vs.length = f.ps.length) }
  rw [← hg] at r1 r2 r3 r4
  have hk := of_decide_eq_true (r4 h1)
  have hv : (gPar f.ps).vs = f.ps := by
    rw [p3] at hk ⊢
    rw [foldN_full _ _ (by rw [hk]; simp)]
    simp
  have v1 : (gFn ar f).vs.Nodup := r2 (by show (gPar f.ps).vs.Nodup; rw [p3]; exact foldN_nodup _ _ List.nodup_nil)
  have v2 : (gFn ar f).xs.Nodup := r3 (by show (gPar f.ps).xs.Nodup; rw [p4]; exact List.nodup_nil)
  refine ⟨?_, t, by show (gFn ar f).vs = _; rw [r1]; show (gPar f.ps).vs ++ t = _; rw [hv]⟩
  show ((gFn ar f).vs ++ (gFn ar f).xs).Nodup
  rw [List.nodup_append]
  refine ⟨v1, v2, fun a ha b hb e => ?_⟩
  subst e
  unfold Gt.agree at h2
  have := List.all_eq_true.1 h2 a hb
  simp only [Bool.and_eq_true, Bool.not_eq_true', decide_eq_true_eq, decide_eq_false_iff_not] at this
  exact this.2 ha
/-- A resolved program. -/
theorem res_once {p : Pg} (h : resErr p = 0) : rightN p = 0 ∧ resP p = scopes p ∧ (p.fs.map (·.s)).Nodup ∧ (∀ f, f ∈ mainF p :: p.fs → okFn (arF p.fs) f = true) ∧ (∀ s, s ∈ scopes p → s.vs.length ≤ 64 ∧ s.xs.length ≤ 64) := by
  have hp : resP p = scopes p := by unfold resP; rw [if_pos h]
  have hr : rightN p = 0 := Classical.byContradiction fun hn => hn (by rw [err_right hn] at h; exact h)
  have hd : (distinctN p.fs && (mainF p :: p.fs).all (okFn (arF p.fs))) = true := by
    cases hb : (distinctN p.fs && (mainF p :: p.fs).all (okFn (arF p.fs))) with
    | true => rfl
    | false => rw [err_name hr hb] at h; exact absurd h (by decide)
  rw [err_ok hr hd] at h
  rw [Bool.and_eq_true] at hd
  refine ⟨hr, hp, of_decide_eq_true hd.1, List.all_eq_true.1 hd.2, fun s hs => ?_⟩
  have hf : (scopes p).any Sp.full = false := by
    cases hb : (scopes p).any Sp.full with
    | false => rfl
    | true => rw [hb] at h; exact absurd h (by decide)
  have := List.any_eq_false.1 hf s hs
  simp only [Sp.full, Bool.or_eq_true, decide_eq_true_eq] at this
  omega

/-- A part that wants a name has one. -/
theorem fit_name {st : Bool} {op : Int} {s : ByteArray} {n : Int} {l : ES} {b e : SS} {sh : Sh} (hs : shOf st op = some sh) (hn : sh.name = true) (h : fitP ⟨st, op, s, n, l, b, e⟩ = true) : nameB s = true := by
  unfold fitP fitQ at h
  simp only [hs, Option.isSome_some, Option.getD_some, hn, namedB, if_true, Bool.true_and, Bool.and_eq_true] at h
  exact h.1
def goodU : Us → Bool
  | .var s => nameB s
  | .arr s => nameB s
  | .mk s => nameB s
  | .call _ _ => true
theorem ES.us_good : ∀ l : ES, l.ok = true → ∀ u ∈ l.us, goodU u = true
  | .nil, _, u, h => by cases h
  | .cons op n s l r, h, u, hu => by
    simp only [ES.ok, Bool.and_eq_true] at h
    obtain ⟨⟨hf, hl⟩, hr⟩ := h
    simp only [ES.us, List.mem_append] at hu
    rcases hu with hu | hu | hu
    · unfold exU at hu
      by_cases h2 : op = 2
      · subst h2
        simp at hu
        subst hu
        exact fit_name (sh := exprT.getD 2 sh0) rfl rfl hf
      · rw [if_neg h2] at hu
        by_cases h4 : op = 4
        · subst h4
          simp at hu
          subst hu
          exact fit_name (sh := exprT.getD 4 sh0) rfl rfl hf
        · rw [if_neg h4] at hu
          by_cases h5 : op = 5
          · rw [if_pos h5, List.mem_singleton] at hu
            subst hu
            rfl
          · rw [if_neg h5] at hu
            cases hu
    · exact ES.us_good l hl u hu
    · exact ES.us_good r hr u hu
theorem SS.us_good : ∀ l : SS, l.ok = true → ∀ u ∈ l.us, goodU u = true
  | .nil, _, u, h => by cases h
  | .cons op s n l b e r, h, u, hu => by
    simp only [SS.ok, Bool.and_eq_true] at h
    obtain ⟨⟨hf, hl, hb, he⟩, hr⟩ := h
    simp only [SS.us, List.mem_append] at hu
    rcases hu with hu | hu | hu | hu | hu
    · unfold stU at hu
      by_cases h1 : op = 1
      · subst h1
        simp at hu
        subst hu
        exact fit_name (sh := stmtT.getD 1 sh0) rfl rfl hf
      · by_cases h4 : op = 4
        · subst h4
          simp at hu
          subst hu
          exact fit_name (sh := stmtT.getD 4 sh0) rfl rfl hf
        · rw [if_neg (by omega)] at hu
          by_cases h2 : op = 2
          · subst h2
            simp at hu
            subst hu
            exact fit_name (sh := stmtT.getD 2 sh0) rfl rfl hf
          · rw [if_neg h2] at hu
            by_cases h3 : op = 3
            · subst h3
              simp at hu
              subst hu
              exact fit_name (sh := stmtT.getD 3 sh0) rfl rfl hf
            · rw [if_neg h3] at hu
              cases hu
    · exact ES.us_good l hl u hu
    · exact SS.us_good b hb u hu
    · exact SS.us_good e he u hu
    · exact SS.us_good r hr u hu
theorem withN_good {l : List ByteArray} {s : ByteArray} (h : ∀ x ∈ l, nameB x = true) (hs : nameB s = true) : ∀ x ∈ withN l s, nameB x = true := fun x hx => by
  rcases withN_mem.1 hx with h1 | h1
  · exact h x h1
  · rw [h1]; exact hs
theorem run_good (ar : ByteArray → Option Nat) : ∀ (us : List Us) (g : Gt), (∀ u ∈ us, goodU u = true) → (∀ s ∈ g.vs, nameB s = true) → (∀ s ∈ g.xs, nameB s = true) → (∀ s ∈ (g.run ar us).vs, nameB s = true) ∧ (∀ s ∈ (g.run ar us).xs, nameB s = true)
  | [], g, _, hv, hx => ⟨hv, hx⟩
  | u :: us, g, h, hv, hx => by
    have e : g.run ar (u :: us) = (g.step ar u).run ar us := rfl
    have hu := h u (List.mem_cons_self ..)
    rw [e]
    refine run_good ar us _ (fun x hx => h x (List.mem_cons_of_mem _ hx)) ?_ ?_
    · cases u with
      | var s => exact withN_good hv hu
      | arr s => exact hv
      | mk s => exact hv
      | call s n => exact hv
    · cases u with
      | var s => exact hx
      | arr s => exact withN_good hx hu
      | mk s => exact withN_good hx hu
      | call s n => exact hx
theorem foldN_good : ∀ (l acc : List ByteArray), (∀ x ∈ acc, nameB x = true) → (∀ x ∈ l, nameB x = true) → ∀ x ∈ l.foldl withN acc, nameB x = true
  | [], _, h, _ => h
  | s :: l, _, h, hl => foldN_good l _ (withN_good h (hl s (List.mem_cons_self ..))) fun x hx => hl x (List.mem_cons_of_mem _ hx)
theorem psOk_mem : ∀ {l : List ByteArray}, psOk l = true → ∀ x ∈ l, nameB x = true
  | [], _, x, h => by cases h
  | s :: l, h, x, hx => by
    simp only [psOk, Bool.and_eq_true] at h
    rcases List.mem_cons.1 hx with rfl | hx
    · exact h.1
    · exact psOk_mem h.2 x hx
theorem sp_good {ar : ByteArray → Option Nat} {f : Fn} (hp : psOk f.ps = true) (hb : f.b.ok = true) : ∀ s ∈ (spFn ar f).vs ++ (spFn ar f).xs, nameB s = true := by
  have hg : gFn ar f = Gt.run ar { gPar f.ps with ok := decide ((gPar f.ps).vs.length = f.ps.length) } f.b.us := rfl
  obtain ⟨p1, p2⟩ := gPar_vs f.ps g0
  have p3 : (gPar f.ps).vs = f.ps.foldl withN [] := p1
  have p4 : (gPar f.ps).xs = [] := p2
  obtain ⟨h1, h2⟩ := run_good ar f.b.us { gPar f.ps with ok := decide ((gPar f.ps).vs.length = f.ps.length) } (SS.us_good f.b hb) (by
    show ∀ s ∈ (gPar f.ps).vs, nameB s = true
    rw [p3]
    exact foldN_good _ _ (fun x h => by cases h) (psOk_mem hp)) (by
    show ∀ s ∈ (gPar f.ps).xs, nameB s = true
    rw [p4]
    exact fun x h => by cases h)
  rw [← hg] at h1 h2
  intro s hs
  rcases List.mem_append.1 hs with h | h
  · exact h1 s h
  · exact h2 s h
theorem fsOk_mem : ∀ {l : List Fn}, fsOk l = true → ∀ f ∈ l, nameB f.s = true ∧ psOk f.ps = true
  | [], _, x, h => by cases h
  | f :: l, h, x, hx => by
    simp only [fsOk, paramsB, Bool.and_eq_true] at h
    rcases List.mem_cons.1 hx with rfl | hx
    · exact ⟨h.1.1, h.1.2.2⟩
    · exact fsOk_mem h.2 x hx
theorem fsPts_ok : ∀ {l : List Fn}, okL (fsPts l) = true → ∀ f ∈ l, f.b.ok = true
  | [], _, x, h => by cases h
  | f :: l, h, x, hx => by
    rw [fsPts, okL_append, SS.okL, Bool.and_eq_true] at h
    rcases List.mem_cons.1 hx with rfl | hx
    · exact h.1
    · exact fsPts_ok h.2 x hx
theorem right_parts1 {p : Pg} (h : rightN p = 0) : (∀ f ∈ p.fs, nameB f.s = true ∧ psOk f.ps = true ∧ f.b.ok = true) ∧ p.m.ok = true := by
  unfold rightN at h
  by_cases hc : (funcsB p.fs && okL p.pts) = true
  · rw [Bool.and_eq_true, Pg.pts, okL_append, SS.okL, Bool.and_eq_true] at hc
    obtain ⟨h1, h2, h3⟩ := hc
    unfold funcsB at h1
    rw [Bool.and_eq_true] at h1
    exact ⟨fun f hf => ⟨(fsOk_mem h1.2 f hf).1, (fsOk_mem h1.2 f hf).2, fsPts_ok h2 f hf⟩, h3⟩
  · rw [if_neg hc] at h
    cases h
/-- Where a name of a list without doubles is. -/
theorem slotN_nodup : ∀ (l : List ByteArray) (k i : Nat) (s : ByteArray), l.Nodup → l[i]? = some s → slotN l s k = ((k + i : Nat) : Int)
  | [], _, _, _, _, h => by simp at h
  | x :: r, k, 0, s, _, h => by
    simp at h
    subst h
    simp [slotN]
  | x :: r, k, i + 1, s, hn, h => by
    obtain ⟨h1, h2⟩ := List.nodup_cons.1 hn
    have h3 : r[i]? = some s := by simpa using h
    unfold slotN
    rw [if_neg (fun (e : s = x) => h1 (e ▸ List.mem_of_getElem? h3)), slotN_nodup r (k + 1) i s h2 h3]
    congr 1
    omega
theorem findN_at : ∀ (r : List Sp) (k i : Nat) (s : ByteArray), 0 < k → (r.map (·.s)).Nodup → (r.map (·.s))[i]? = some s → findN r s k = ((k + i : Nat) : Int)
  | [], _, _, _, _, _, h => by simp at h
  | x :: r, k, 0, s, hk, _, h => by
    simp at h
    subst h
    simp [findN, hk]
  | x :: r, k, i + 1, s, hk, hn, h => by
    rw [List.map_cons] at hn h
    obtain ⟨h1, h2⟩ := List.nodup_cons.1 hn
    have h3 : (r.map (·.s))[i]? = some s := by simpa using h
    unfold findN
    rw [if_neg (fun (e : 0 < k ∧ x.s = s) => h1 (by rw [e.2]; exact List.mem_of_getElem? h3)), findN_at r (k + 1) i s (Nat.succ_pos _) h2 h3]
    congr 1
    omega
/-- All that is asked of a resolved program's scopes. -/
structure OkSp (p : Pg) (i : Nat) (s : Sp) : Prop where
  vs : s.vs.length ≤ 64
  xs : s.xs.length ≤ 64
  n : s.n ≤ s.vs.length
  each : ∀ (k : Nat) (x : ByteArray), (s.vs ++ s.xs)[k]? = some x → slotP (s.vs ++ s.xs) x = (k : Int) ∧ nameB x = true
  fn : ∀ f, 0 < i → p.fs[i - 1]? = some f → s.s = f.s ∧ s.n = f.ps.length ∧ s.vs.take f.ps.length = f.ps ∧ findN (scopes p) f.s 0 = (i : Int)
theorem once_ok {p : Pg} (h : resErr p = 0) : resP p = scopes p ∧ (∃ s r, scopes p = s :: r ∧ s.s = ⟨#[]⟩ ∧ s.n = 0 ∧ r.length = p.fs.length) ∧ ∀ (i : Nat) (s : Sp), (scopes p)[i]? = some s → OkSp p i s := by
  obtain ⟨h1, h2, h3, h4, h5⟩ := res_once h
  obtain ⟨g1, g2⟩ := right_parts1 h1
  refine ⟨h2, ⟨_, _, rfl, rfl, rfl, by simp⟩, fun i s hs => ?_⟩
  have hmem := List.mem_of_getElem? hs
  have hf0 : ∃ f, f ∈ mainF p :: p.fs ∧ (mainF p :: p.fs)[i]? = some f ∧ s = spFn (arF p.fs) f := by
    unfold scopes at hs
    rw [List.getElem?_map] at hs
    obtain ⟨f, e1, e2⟩ := Option.map_eq_some_iff.1 hs
    exact ⟨f, List.mem_of_getElem? e1, e1, e2.symm⟩
  obtain ⟨f, hf, hfi, rfl⟩ := hf0
  obtain ⟨k1, t, k2⟩ := sp_once (h4 f hf)
  have hgood : psOk f.ps = true ∧ f.b.ok = true := by
    rcases List.mem_cons.1 hf with rfl | hf
    · exact ⟨rfl, g2⟩
    · exact (g1 f hf).2
  have hn := sp_good (ar := arF p.fs) hgood.1 hgood.2
  refine ⟨(h5 _ hmem).1, (h5 _ hmem).2, by show f.ps.length ≤ _; rw [k2]; simp, fun k x hx => ⟨?_, hn x (List.mem_of_getElem? hx)⟩, fun f' hi hf' => ?_⟩
  · rw [slotP_eq, slotN_nodup _ 0 k x k1 hx, Nat.zero_add]
  · obtain ⟨j, rfl⟩ : ∃ j, i = j + 1 := ⟨i - 1, by omega⟩
    rw [Nat.add_sub_cancel] at hf'
    have e : f = f' := by
      rw [List.getElem?_cons_succ, hf'] at hfi
      exact (Option.some.inj hfi).symm
    subst e
    refine ⟨rfl, rfl, by rw [k2]; simp, ?_⟩
    have e1 : scopes p = spFn (arF p.fs) (mainF p) :: p.fs.map (spFn (arF p.fs)) := rfl
    have e2 : (p.fs.map (spFn (arF p.fs))).map (·.s) = p.fs.map (·.s) := by rw [List.map_map]; rfl
    rw [e1, findN, if_neg (fun h => absurd h.1 (Nat.lt_irrefl 0)), findN_at _ 1 j f.s (by decide) (by rw [e2]; exact h3) (by rw [e2, List.getElem?_map, hf']; rfl)]
    congr 1
    omega
end Go.Proofs.YtaajolemjgdfnaaDoor

/-
  ScopeApart, plainly: what a function's names are does not hang on other bodies.
-/
namespace Go.Proofs.YtaajolemjgdfnaaDoor
open Go Go.RowKit Go.Lib

def bareF (f : Fn) : Fn := ⟨f.s, f.ps, .nil⟩
/-- The same functions, some without their bodies. -/
inductive Like : List Fn → List Fn → Prop where
  | nil : Like [] []
  | same (f : Fn) {l l' : List Fn} : Like l l' → Like (f :: l) (f :: l')
  | bare (f : Fn) {l l' : List Fn} : Like l l' → Like (f :: l) (bareF f :: l')
theorem Like.refl : ∀ l : List Fn, Like l l
  | [] => .nil
  | f :: l => .same f (Like.refl l)
theorem Like.set : ∀ {l : List Fn} {j : Nat} {f : Fn}, l[j]? = some f → Like l (l.set j (bareF f))
  | [], _, _, h => by simp at h
  | g :: l, 0, f, h => by
    simp at h
    subst h
    exact .bare g (Like.refl l)
  | g :: l, j + 1, f, h => .same g (Like.set (by simpa using h))
theorem Like.names {l l' : List Fn} (h : Like l l') : l'.map (·.s) = l.map (·.s) := by
  induction h with
  | nil => rfl
  | same f _ ih => rw [List.map_cons, List.map_cons, ih]
  | bare f _ ih => rw [List.map_cons, List.map_cons, ih]; rfl
theorem Like.ar {l l' : List Fn} (h : Like l l') : arF l' = arF l := by
  funext s
  unfold arF
  suffices ∀ a : Option Nat, List.foldl (fun a (f : Fn) => if f.s = s then some f.ps.length else a) a l' = List.foldl (fun a (f : Fn) => if f.s = s then some f.ps.length else a) a l from this none
  induction h with
  | nil => exact fun a => rfl
  | same f _ ih => exact fun a => ih _
  | bare f _ ih => exact fun a => ih _
theorem Like.ok {l l' : List Fn} (h : Like l l') : fsOk l' = fsOk l ∧ l'.length = l.length := by
  induction h with
  | nil => exact ⟨rfl, rfl⟩
  | same f _ ih => exact ⟨by simp only [fsOk, ih.1], by simp [ih.2]⟩
  | bare f _ ih => exact ⟨by simp only [fsOk, ih.1, bareF], by simp [ih.2]⟩
theorem Like.pts {l l' : List Fn} (h : Like l l') : (okL (fsPts l) = true → okL (fsPts l') = true) ∧ deepL (fsPts l') ≤ deepL (fsPts l) := by
  induction h with
  | nil => exact ⟨id, Int.le_refl _⟩
  | same f _ ih =>
    refine ⟨fun h => ?_, ?_⟩
    · rw [fsPts, okL_append, Bool.and_eq_true] at h ⊢
      exact ⟨h.1, ih.1 h.2⟩
    · rw [fsPts, fsPts, deepL_append, deepL_append]
      have := ih.2
      omega
  | bare f _ ih =>
    refine ⟨fun h => ?_, ?_⟩
    · rw [fsPts, okL_append, Bool.and_eq_true] at h
      rw [fsPts, okL_append, Bool.and_eq_true]
      exact ⟨rfl, ih.1 h.2⟩
    · rw [fsPts, fsPts, deepL_append, deepL_append]
      have := ih.2
      have e : deepL (bareF f).b.pts = 0 := rfl
      have e3 := deepL_nn f.b.pts
      rw [e]
      exact Int.max_le.2 ⟨by omega, by omega⟩
theorem Like.mem {l l' : List Fn} (h : Like l l') : ∀ f' ∈ l', ∃ f ∈ l, f' = f ∨ f' = bareF f := by
  induction h with
  | nil => exact fun f' h => by cases h
  | same f _ ih =>
    intro f' hf
    rcases List.mem_cons.1 hf with rfl | hf
    · exact ⟨f', List.mem_cons_self .., .inl rfl⟩
    · obtain ⟨g, h1, h2⟩ := ih f' hf
      exact ⟨g, List.mem_cons_of_mem _ h1, h2⟩
  | bare f _ ih =>
    intro f' hf
    rcases List.mem_cons.1 hf with rfl | hf
    · exact ⟨f, List.mem_cons_self .., .inr rfl⟩
    · obtain ⟨g, h1, h2⟩ := ih f' hf
      exact ⟨g, List.mem_cons_of_mem _ h1, h2⟩
/-- A function without its body is right where it was, and has no more names. -/
theorem bare_ok {ar : ByteArray → Option Nat} {f : Fn} (h : okFn ar f = true) (hv : (spFn ar f).full = false) : okFn ar (bareF f) = true ∧ (spFn ar (bareF f)).full = false := by
  obtain ⟨-, t, ht⟩ := sp_once h
  unfold okFn at h
  rw [Bool.and_eq_true] at h
  have hg : gFn ar f = Gt.run ar { gPar f.ps with ok := decide ((gPar f.ps).vs.length = f.ps.length) } f.b.us := rfl
  obtain ⟨-, -, -, r4⟩ := run_grows ar f.b.us { gPar f.ps with ok := decide ((gPar f.ps).vs.length = f.ps.length) }
  rw [← hg] at r4
  have hk : decide ((gPar f.ps).vs.length = f.ps.length) = true := r4 h.1
  have hb : gFn ar (bareF f) = { gPar f.ps with ok := decide ((gPar f.ps).vs.length = f.ps.length) } := rfl
  obtain ⟨-, p2⟩ := gPar_vs f.ps g0
  have p4 : (gPar f.ps).xs = [] := p2
  refine ⟨?_, ?_⟩
  · unfold okFn
    rw [hb]
    unfold Gt.agree
    simp only [hk, p4]
    rfl
  · have e1 : (spFn ar (bareF f)).vs = (gPar f.ps).vs := rfl
    have e2 : (spFn ar (bareF f)).xs = [] := p4
    have h1 : (spFn ar f).vs.length ≤ 64 := by
      unfold Sp.full at hv
      rw [Bool.or_eq_false_iff] at hv
      have := of_decide_eq_false hv.1
      omega
    rw [ht, List.length_append] at h1
    have h2 := of_decide_eq_true hk
    unfold Sp.full
    rw [e1, e2, Bool.or_eq_false_iff]
    exact ⟨decide_eq_false (by omega), decide_eq_false (by simp)⟩
/-- What Resolve tells of the same functions, some without bodies, and another main. -/
theorem like_err {p : Pg} (h : resErr p = 0) {fs' : List Fn} (hl : Like p.fs fs') (m : SS) (hm : m.ok = true) (hd : m.deep ≤ 64) :
    resErr ⟨fs', m⟩ = if okFn (arF p.fs) ⟨⟨#[]⟩, [], m⟩ = true then (if (spFn (arF p.fs) ⟨⟨#[]⟩, [], m⟩).full = true then 10 else 0) else 4 := by
  obtain ⟨h1, h2, h3, h4, h5⟩ := res_once h
  have hr : rightN ⟨fs', m⟩ = 0 := by
    unfold rightN at h1 ⊢
    by_cases hc : (funcsB p.fs && okL p.pts) = true
    · rw [if_pos hc] at h1
      rw [Bool.and_eq_true, Pg.pts, okL_append, Bool.and_eq_true] at hc
      obtain ⟨c1, c2, c3⟩ := hc
      have c4 : ¬ 64 < deepL p.pts := fun h => by rw [if_pos h] at h1; cases h1
      rw [Pg.pts, deepL_append] at c4
      have e1 : (funcsB fs' && okL (Pg.pts ⟨fs', m⟩)) = true := by
        rw [Bool.and_eq_true, Pg.pts, okL_append, Bool.and_eq_true]
        refine ⟨?_, hl.pts.1 c2, by rw [SS.okL]; exact hm⟩
        unfold funcsB at c1 ⊢
        rw [hl.ok.1, hl.ok.2]
        exact c1
      have e2 : ¬ 64 < deepL (Pg.pts ⟨fs', m⟩) := by
        rw [show Pg.pts ⟨fs', m⟩ = fsPts fs' ++ m.pts from rfl, deepL_append, SS.deepL]
        have := hl.pts.2
        omega
      rw [if_pos e1, if_neg e2]
    · rw [if_neg hc] at h1
      cases h1
  have hall : ∀ f' ∈ fs', okFn (arF p.fs) f' = true ∧ (spFn (arF p.fs) f').full = false := fun f' hf' => by
    obtain ⟨f, hf, hff⟩ := hl.mem f' hf'
    have k1 := h4 f (List.mem_cons_of_mem _ hf)
    have k2 : (spFn (arF p.fs) f).full = false := by
      have := h5 (spFn (arF p.fs) f) (List.mem_map.2 ⟨f, List.mem_cons_of_mem _ hf, rfl⟩)
      unfold Sp.full
      rw [Bool.or_eq_false_iff]
      exact ⟨decide_eq_false (by omega), decide_eq_false (by omega)⟩
    rcases hff with rfl | rfl
    · exact ⟨k1, k2⟩
    · exact bare_ok k1 k2
  have hdn : distinctN fs' = true := by
    unfold distinctN
    rw [hl.names]
    exact decide_eq_true h3
  have hsc : scopes ⟨fs', m⟩ = spFn (arF p.fs) ⟨⟨#[]⟩, [], m⟩ :: fs'.map (spFn (arF p.fs)) := by
    unfold scopes
    rw [List.map_cons, show (Pg.fs ⟨fs', m⟩) = fs' from rfl, hl.ar]
    rfl
  have hnf : (fs'.map (spFn (arF p.fs))).any Sp.full = false := by
    rw [List.any_eq_false]
    intro s hs
    obtain ⟨f, hf, rfl⟩ := List.mem_map.1 hs
    rw [(hall f hf).2]
    decide
  have hoks : fs'.all (okFn (arF p.fs)) = true := List.all_eq_true.2 fun f hf => (hall f hf).1
  have hbig : (distinctN (Pg.fs ⟨fs', m⟩) && (mainF ⟨fs', m⟩ :: Pg.fs ⟨fs', m⟩).all (okFn (arF (Pg.fs ⟨fs', m⟩)))) = okFn (arF p.fs) ⟨⟨#[]⟩, [], m⟩ := by
    show (distinctN fs' && (mainF ⟨fs', m⟩ :: fs').all (okFn (arF fs'))) = _
    rw [hl.ar, hdn, List.all_cons, hoks, Bool.true_and, Bool.and_true]
    rfl
  cases hm1 : okFn (arF p.fs) ⟨⟨#[]⟩, [], m⟩ with
  | false =>
    rw [if_neg (by decide)]
    exact err_name hr (hbig.trans hm1)
  | true =>
    rw [if_pos rfl, err_ok hr (hbig.trans hm1), hsc, List.any_cons, hnf, Bool.or_false]
theorem like_scopes {p : Pg} {fs' : List Fn} (hl : Like p.fs fs') (m : SS) : scopes ⟨fs', m⟩ = spFn (arF p.fs) ⟨⟨#[]⟩, [], m⟩ :: fs'.map (spFn (arF p.fs)) := by
  unfold scopes
  rw [List.map_cons, show (Pg.fs ⟨fs', m⟩) = fs' from rfl, hl.ar]
  rfl
/-- Without the body of main, or of a function. -/
def cutP (p : Pg) : Nat → Pg
  | 0 => ⟨p.fs, .nil⟩
  | j + 1 => ⟨p.fs.set j (bareF (p.fs.getD j ⟨⟨#[]⟩, [], .nil⟩)), p.m⟩
theorem cut_like {p : Pg} : ∀ {i : Nat}, i ≤ p.fs.length → Like p.fs (cutP p i).fs
  | 0, _ => Like.refl _
  | j + 1, h => Like.set (by rw [List.getD_eq_getElem?_getD, List.getElem?_eq_getElem (by omega)]; rfl)
theorem main_deep {p : Pg} (h : resErr p = 0) : p.m.deep ≤ 64 := by
  have h1 := (res_once h).1
  unfold rightN at h1
  by_cases hc : (funcsB p.fs && okL p.pts) = true
  · rw [if_pos hc] at h1
    have c4 : ¬ 64 < deepL p.pts := fun h => by rw [if_pos h] at h1; cases h1
    rw [Pg.pts, deepL_append, SS.deepL] at c4
    omega
  · rw [if_neg hc] at h1
    cases h1
theorem cutP_ok {p : Pg} (h : resErr p = 0) {i : Nat} (hi : i ≤ p.fs.length) : resErr (cutP p i) = 0 ∧ (scopes (cutP p i)).length = (scopes p).length ∧ ∀ k, k ≠ i → (scopes (cutP p i))[k]? = (scopes p)[k]? := by
  obtain ⟨h1, h2, h3, h4, h5⟩ := res_once h
  have hmain : okFn (arF p.fs) (mainF p) = true ∧ (spFn (arF p.fs) (mainF p)).full = false := by
    refine ⟨h4 _ (List.mem_cons_self ..), ?_⟩
    have := h5 (spFn (arF p.fs) (mainF p)) (List.mem_map.2 ⟨_, List.mem_cons_self .., rfl⟩)
    unfold Sp.full
    rw [Bool.or_eq_false_iff]
    exact ⟨decide_eq_false (by omega), decide_eq_false (by omega)⟩
  cases i with
  | zero =>
    have e := like_err h (Like.refl p.fs) .nil rfl (by decide)
    refine ⟨e.trans rfl, by simp [scopes, cutP], fun k hk => ?_⟩
    obtain ⟨j, rfl⟩ : ∃ j, k = j + 1 := ⟨k - 1, by omega⟩
    rfl
  | succ j =>
    have hl := cut_like (p := p) hi
    have e := like_err h hl p.m (right_parts1 h1).2 (main_deep h)
    have hm1 : okFn (arF p.fs) ⟨⟨#[]⟩, [], p.m⟩ = true := hmain.1
    have hm2 : (spFn (arF p.fs) ⟨⟨#[]⟩, [], p.m⟩).full = false := hmain.2
    rw [if_pos hm1, hm2, if_neg (by decide)] at e
    have hs : scopes (cutP p (j + 1)) = spFn (arF p.fs) (mainF p) :: (cutP p (j + 1)).fs.map (spFn (arF p.fs)) := like_scopes hl p.m
    refine ⟨e, by rw [hs]; simp [scopes, cutP], fun k hk => ?_⟩
    rw [hs]
    cases k with
    | zero => rfl
    | succ k =>
      show ((p.fs.set j _).map (spFn (arF p.fs)))[k]? = (p.fs.map (spFn (arF p.fs)))[k]?
      rw [List.getElem?_map, List.getElem?_map, List.getElem?_set_ne (by omega)]
def nobody : ByteArray := ⟨#[110, 111, 98, 111, 100, 121, 95, 105, 115, 95, 99, 97, 108, 108, 101, 100, 95, 115, 111]⟩
def nothing : ByteArray := ⟨#[110, 111, 116, 104, 105, 110, 103, 95, 105, 115, 95, 99, 97, 108, 108, 101, 100, 95, 115, 111]⟩
def mG : SS := .cons 5 ⟨#[]⟩ 0 (.cons 5 0 nobody .nil .nil) .nil .nil .nil
def mH : SS := .cons 5 ⟨#[]⟩ 0 (.cons 4 0 nothing (.cons 3 0 ⟨#[]⟩ .nil .nil) .nil) .nil .nil .nil
theorem mG_ok : mG.ok = true ∧ mG.deep ≤ 64 := by decide +kernel
theorem mH_ok : mH.ok = true ∧ mH.deep ≤ 64 := by decide +kernel
theorem arF_mem : ∀ (fs : List Fn) (a : Option Nat) (s : ByteArray) (n : Nat), fs.foldl (fun a (f : Fn) => if f.s = s then some f.ps.length else a) a = some n → a = some n ∨ s ∈ fs.map (·.s)
  | [], a, s, n, h => .inl h
  | f :: r, a, s, n, h => by
    rcases arF_mem r _ s n h with h1 | h1
    · by_cases e : f.s = s
      · exact .inr (by rw [List.map_cons, ← e]; exact List.mem_cons_self ..)
      · simp only [e, if_false] at h1; exact .inl h1
    · exact .inr (by rw [List.map_cons]; exact List.mem_cons_of_mem _ h1)
theorem findN_pos : ∀ (r : List Sp) (k : Nat) (s : ByteArray), 0 < k → s ∈ r.map (·.s) → 0 < findN r s k
  | [], _, _, _, h => by cases h
  | x :: r, k, s, hk, h => by
    unfold findN
    by_cases e : x.s = s
    · rw [if_pos ⟨hk, e⟩]; omega
    · rw [if_neg fun h => e h.2]
      rw [List.map_cons] at h
      rcases List.mem_cons.1 h with h | h
      · exact absurd h.symm e
      · exact findN_pos r (k + 1) s (Nat.succ_pos _) h
theorem apart_g {p : Pg} (h : resErr p = 0) {fs' : List Fn} (hl : Like p.fs fs') : resErr ⟨fs', mG⟩ = 4 ∨ 0 < findN (scopes p) nobody 0 := by
  have e := like_err h hl mG mG_ok.1 mG_ok.2
  have hg : okFn (arF p.fs) ⟨⟨#[]⟩, [], mG⟩ = decide (arF p.fs nobody = some 0) := by
    show ((true && decide (arF p.fs nobody = some 0)) && true) = _
    rw [Bool.true_and, Bool.and_true]
  by_cases ha : arF p.fs nobody = some 0
  · right
    rcases arF_mem p.fs none nobody 0 ha with h1 | h1
    · cases h1
    · show 0 < findN (spFn (arF p.fs) (mainF p) :: p.fs.map (spFn (arF p.fs))) nobody 0
      rw [findN, if_neg (fun h => absurd h.1 (Nat.lt_irrefl 0))]
      exact findN_pos _ 1 _ (by decide) (by rw [List.map_map]; exact h1)
  · left
    rw [hg, decide_eq_false ha, if_neg (by decide)] at e
    exact e
theorem apart_h {p : Pg} (h : resErr p = 0) {fs' : List Fn} (hl : Like p.fs fs') : resErr ⟨fs', mH⟩ = 4 := by
  have e := like_err h hl mH mH_ok.1 mH_ok.2
  have hg : okFn (arF p.fs) ⟨⟨#[]⟩, [], mH⟩ = false := by
    show (true && Gt.agree ⟨[], [nothing], [], true⟩) = false
    rfl
  rw [hg, if_neg (by decide)] at e
  exact e
end Go.Proofs.YtaajolemjgdfnaaDoor

