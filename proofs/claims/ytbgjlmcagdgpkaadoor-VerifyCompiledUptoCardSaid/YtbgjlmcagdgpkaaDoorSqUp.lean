/-
  What a resolved program is, plainly: its names, its scopes.
-/
import Derived.Test.YtbgjlmcagdgpkaaDoorSpL
namespace Go.Proofs.YtbgjlmcagdgpkaaDoor
open Go Go.RowKit Go.Lib

theorem foldN_nodup : ∀ (l acc : List ByteArray), acc.Nodup → (l.foldl withN acc).Nodup
  | [], _, h => h
  | s :: l, _acc, h => foldN_nodup l _ (withN_nodup h s)
theorem foldN_len : ∀ (l acc : List ByteArray), (l.foldl withN acc).length ≤ acc.length + l.length
  | [], _ => by simp
  | s :: l, acc => by
    have := foldN_len l (withN acc s)
    have := withN_len acc s
    simp only [List.foldl_cons, List.length_cons]; omega
/-- All of them are there: the row is just theirs. -/
theorem foldN_full : ∀ (l acc : List ByteArray), (l.foldl withN acc).length = acc.length + l.length → l.foldl withN acc = acc ++ l
  | [], _, _ => by simp
  | s :: l, acc, h => by
    have h1 := foldN_len l (withN acc s)
    simp only [List.foldl_cons, List.length_cons] at h ⊢
    have h2 : withN acc s = acc ++ [s] := by
      by_cases hs : s ∈ acc
      · have e : withN acc s = acc := by unfold withN; rw [if_pos hs]
        rw [e] at h1 h
        omega
      · unfold withN; rw [if_neg hs]
    rw [foldN_full l (withN acc s) (by rw [h, h2]; simp; omega), h2]
    simp
theorem gPar_vs (ps : List ByteArray) : ∀ g : Gt, (ps.foldl (fun (g : Gt) s => { g with vs := withN g.vs s }) g).vs = ps.foldl withN g.vs ∧ (ps.foldl (fun (g : Gt) s => { g with vs := withN g.vs s }) g).xs = g.xs := by
  induction ps with
  | nil => exact fun g => ⟨rfl, rfl⟩
  | cons s r ih => exact fun g => ih { g with vs := withN g.vs s }
/-- What is gathered grows at its end; what has been found wrong stays so. -/
theorem run_grows (ar : ByteArray → Option Nat) : ∀ (l : List Us) (g : Gt), (∃ t, (g.run ar l).vs = g.vs ++ t) ∧ (g.vs.Nodup → (g.run ar l).vs.Nodup) ∧ (g.xs.Nodup → (g.run ar l).xs.Nodup) ∧ ((g.run ar l).ok = true → g.ok = true)
  | [], g => ⟨⟨[], by simp [Gt.run]⟩, id, id, id⟩
  | u :: l, g => by
    have e : g.run ar (u :: l) = (g.step ar u).run ar l := rfl
    rw [e]
    obtain ⟨⟨t, h1⟩, h2, h3, h4⟩ := run_grows ar l (g.step ar u)
    have hw : ∀ s, ∃ t, withN g.vs s = g.vs ++ t := fun s => by
      unfold withN
      split
      · exact ⟨[], by simp⟩
      · exact ⟨[s], rfl⟩
    cases u with
    | var s =>
      obtain ⟨t', ht⟩ := hw s
      exact ⟨⟨t' ++ t, by rw [h1]; show withN g.vs s ++ t = _; rw [ht, List.append_assoc]⟩, fun h => h2 (withN_nodup h s), h3, h4⟩
    | arr s => exact ⟨⟨t, h1⟩, h2, fun h => h3 (withN_nodup h s), h4⟩
    | mk s => exact ⟨⟨t, h1⟩, h2, fun h => h3 (withN_nodup h s), h4⟩
    | call s n => exact ⟨⟨t, h1⟩, h2, h3, fun h => by have := h4 h; simp only [Gt.step, Bool.and_eq_true] at this; exact this.1⟩
/-- A function's scope, where it is right. -/
theorem sp_once {ar : ByteArray → Option Nat} {f : Fn} (h : okFn ar f = true) : ((spFn ar f).vs ++ (spFn ar f).xs).Nodup ∧ (∃ t, (spFn ar f).vs = f.ps ++ t) := by
  unfold okFn at h
  rw [Bool.and_eq_true] at h
  obtain ⟨h1, h2⟩ := h
  have hg : gFn ar f = Gt.run ar { gPar f.ps with ok := decide ((gPar f.ps).vs.length = f.ps.length) } f.b.us := rfl
  obtain ⟨p1, p2⟩ := gPar_vs f.ps g0
  have p3 : (gPar f.ps).vs = f.ps.foldl withN [] := p1
  have p4 : (gPar f.ps).xs = [] := p2
  obtain ⟨⟨t, r1⟩, r2, r3, r4⟩ := run_grows ar f.b.us { gPar f.ps with ok := decide ((gPar f.ps).vs.length = f.ps.length) }
  rw [← hg] at r1 r2 r3 r4
  have hk := of_decide_eq_true (r4 h1)
  have hv : (gPar f.ps).vs = f.ps := by
    rw [p3] at hk ⊢
    rw [foldN_full _ _ (by rw [hk]; simp)]
    simp
  have v1 : (gFn ar f).vs.Nodup := r2 (by show (gPar f.ps).vs.Nodup; rw [p3]; exact foldN_nodup _ _ List.nodup_nil)
  have v2 : (gFn ar f).xs.Nodup := r3 (by show (gPar f.ps).xs.Nodup; rw [p4]; exact List.nodup_nil)
  refine ⟨?_, t, by show (gFn ar f).vs = _; rw [r1]; show (gPar f.ps).vs ++ t = _; rw [hv]⟩
  show ((gFn ar f).vs ++ (gFn ar f).xs).Nodup
  rw [List.nodup_append]
  refine ⟨v1, v2, fun a ha b hb e => ?_⟩
  subst e
  unfold Gt.agree at h2
  have := List.all_eq_true.1 h2 a hb
  simp only [Bool.and_eq_true, Bool.not_eq_true', decide_eq_true_eq, decide_eq_false_iff_not] at this
  exact this.2 ha
/-- A resolved program. -/
theorem res_once {p : Pg} (h : resErr p = 0) : rightN p = 0 ∧ resP p = scopes p ∧ (p.fs.map (·.s)).Nodup ∧ (∀ f, f ∈ mainF p :: p.fs → okFn (arF p.fs) f = true) ∧ (∀ s, s ∈ scopes p → s.vs.length ≤ 64 ∧ s.xs.length ≤ 64) := by
  have hp : resP p = scopes p := by unfold resP; rw [if_pos h]
  have hr : rightN p = 0 := Classical.byContradiction fun hn => hn (by rw [err_right hn] at h; exact h)
  have hd : (distinctN p.fs && (mainF p :: p.fs).all (okFn (arF p.fs))) = true := by
    cases hb : (distinctN p.fs && (mainF p :: p.fs).all (okFn (arF p.fs))) with
    | true => rfl
    | false => rw [err_name hr hb] at h; exact absurd h (by decide)
  rw [err_ok hr hd] at h
  rw [Bool.and_eq_true] at hd
  refine ⟨hr, hp, of_decide_eq_true hd.1, List.all_eq_true.1 hd.2, fun s hs => ?_⟩
  have hf : (scopes p).any Sp.full = false := by
    cases hb : (scopes p).any Sp.full with
    | false => rfl
    | true => rw [hb] at h; exact absurd h (by decide)
  have := List.any_eq_false.1 hf s hs
  simp only [Sp.full, Bool.or_eq_true, decide_eq_true_eq] at this
  omega

/-- A part that wants a name has one. -/
theorem fit_name {st : Bool} {op : Int} {s : ByteArray} {n : Int} {l : ES} {b e : SS} {sh : Sh} (hs : shOf st op = some sh) (hn : sh.name = true) (h : fitP ⟨st, op, s, n, l, b, e⟩ = true) : nameB s = true := by
  unfold fitP fitQ at h
  simp only [hs, Option.isSome_some, Option.getD_some, hn, namedB, if_true, Bool.true_and, Bool.and_eq_true] at h
  exact h.1
def goodU : Us → Bool
  | .var s => nameB s
  | .arr s => nameB s
  | .mk s => nameB s
  | .call _ _ => true
theorem ES.us_good : ∀ l : ES, l.ok = true → ∀ u ∈ l.us, goodU u = true
  | .nil, _, u, h => by cases h
  | .cons op n s l r, h, u, hu => by
    simp only [ES.ok, Bool.and_eq_true] at h
    obtain ⟨⟨hf, hl⟩, hr⟩ := h
    simp only [ES.us, List.mem_append] at hu
    rcases hu with hu | hu | hu
    · unfold exU at hu
      by_cases h2 : op = 2
      · subst h2
        simp at hu
        subst hu
        exact fit_name (sh := exprT.getD 2 sh0) rfl rfl hf
      · rw [if_neg h2] at hu
        by_cases h4 : op = 4
        · subst h4
          simp at hu
          subst hu
          exact fit_name (sh := exprT.getD 4 sh0) rfl rfl hf
        · rw [if_neg h4] at hu
          by_cases h5 : op = 5
          · rw [if_pos h5, List.mem_singleton] at hu
            subst hu
            rfl
          · rw [if_neg h5] at hu
            cases hu
    · exact ES.us_good l hl u hu
    · exact ES.us_good r hr u hu
theorem SS.us_good : ∀ l : SS, l.ok = true → ∀ u ∈ l.us, goodU u = true
  | .nil, _, u, h => by cases h
  | .cons op s n l b e r, h, u, hu => by
    simp only [SS.ok, Bool.and_eq_true] at h
    obtain ⟨⟨hf, hl, hb, he⟩, hr⟩ := h
    simp only [SS.us, List.mem_append] at hu
    rcases hu with hu | hu | hu | hu | hu
    · unfold stU at hu
      by_cases h1 : op = 1
      · subst h1
        simp at hu
        subst hu
        exact fit_name (sh := stmtT.getD 1 sh0) rfl rfl hf
      · by_cases h4 : op = 4
        · subst h4
          simp at hu
          subst hu
          exact fit_name (sh := stmtT.getD 4 sh0) rfl rfl hf
        · rw [if_neg (by omega)] at hu
          by_cases h2 : op = 2
          · subst h2
            simp at hu
            subst hu
            exact fit_name (sh := stmtT.getD 2 sh0) rfl rfl hf
          · rw [if_neg h2] at hu
            by_cases h3 : op = 3
            · subst h3
              simp at hu
              subst hu
              exact fit_name (sh := stmtT.getD 3 sh0) rfl rfl hf
            · rw [if_neg h3] at hu
              cases hu
    · exact ES.us_good l hl u hu
    · exact SS.us_good b hb u hu
    · exact SS.us_good e he u hu
    · exact SS.us_good r hr u hu
theorem withN_good {l : List ByteArray} {s : ByteArray} (h : ∀ x ∈ l, nameB x = true) (hs : nameB s = true) : ∀ x ∈ withN l s, nameB x = true := fun x hx => by
  rcases withN_mem.1 hx with h1 | h1
  · exact h x h1
  · rw [h1]; exact hs
theorem run_good (ar : ByteArray → Option Nat) : ∀ (us : List Us) (g : Gt), (∀ u ∈ us, goodU u = true) → (∀ s ∈ g.vs, nameB s = true) → (∀ s ∈ g.xs, nameB s = true) → (∀ s ∈ (g.run ar us).vs, nameB s = true) ∧ (∀ s ∈ (g.run ar us).xs, nameB s = true)
  | [], g, _, hv, hx => ⟨hv, hx⟩
  | u :: us, g, h, hv, hx => by
    have e : g.run ar (u :: us) = (g.step ar u).run ar us := rfl
    have hu := h u (List.mem_cons_self ..)
    rw [e]
    refine run_good ar us _ (fun x hx => h x (List.mem_cons_of_mem _ hx)) ?_ ?_
    · cases u with
      | var s => exact withN_good hv hu
      | arr s => exact hv
      | mk s => exact hv
      | call s n => exact hv
    · cases u with
      | var s => exact hx
      | arr s => exact withN_good hx hu
      | mk s => exact withN_good hx hu
      | call s n => exact hx
theorem foldN_good : ∀ (l acc : List ByteArray), (∀ x ∈ acc, nameB x = true) → (∀ x ∈ l, nameB x = true) → ∀ x ∈ l.foldl withN acc, nameB x = true
  | [], _, h, _ => h
  | s :: l, _, h, hl => foldN_good l _ (withN_good h (hl s (List.mem_cons_self ..))) fun x hx => hl x (List.mem_cons_of_mem _ hx)
theorem psOk_mem : ∀ {l : List ByteArray}, psOk l = true → ∀ x ∈ l, nameB x = true
  | [], _, x, h => by cases h
  | s :: l, h, x, hx => by
    simp only [psOk, Bool.and_eq_true] at h
    rcases List.mem_cons.1 hx with rfl | hx
    · exact h.1
    · exact psOk_mem h.2 x hx
theorem sp_good {ar : ByteArray → Option Nat} {f : Fn} (hp : psOk f.ps = true) (hb : f.b.ok = true) : ∀ s ∈ (spFn ar f).vs ++ (spFn ar f).xs, nameB s = true := by
  have hg : gFn ar f = Gt.run ar { gPar f.ps with ok := decide ((gPar f.ps).vs.length = f.ps.length) } f.b.us := rfl
  obtain ⟨p1, p2⟩ := gPar_vs f.ps g0
  have p3 : (gPar f.ps).vs = f.ps.foldl withN [] := p1
  have p4 : (gPar f.ps).xs = [] := p2
  obtain ⟨h1, h2⟩ := run_good ar f.b.us { gPar f.ps with ok := decide ((gPar f.ps).vs.length = f.ps.length) } (SS.us_good f.b hb) (by
    show ∀ s ∈ (gPar f.ps).vs, nameB s = true
    rw [p3]
    exact foldN_good _ _ (fun x h => by cases h) (psOk_mem hp)) (by
    show ∀ s ∈ (gPar f.ps).xs, nameB s = true
    rw [p4]
    exact fun x h => by cases h)
  rw [← hg] at h1 h2
  intro s hs
  rcases List.mem_append.1 hs with h | h
  · exact h1 s h
  · exact h2 s h
theorem fsOk_mem : ∀ {l : List Fn}, fsOk l = true → ∀ f ∈ l, nameB f.s = true ∧ psOk f.ps = true
  | [], _, x, h => by cases h
  | f :: l, h, x, hx => by
    simp only [fsOk, paramsB, Bool.and_eq_true] at h
    rcases List.mem_cons.1 hx with rfl | hx
    · exact ⟨h.1.1, h.1.2.2⟩
    · exact fsOk_mem h.2 x hx
theorem fsPts_ok : ∀ {l : List Fn}, okL (fsPts l) = true → ∀ f ∈ l, f.b.ok = true
  | [], _, x, h => by cases h
  | f :: l, h, x, hx => by
    rw [fsPts, okL_append, SS.okL, Bool.and_eq_true] at h
    rcases List.mem_cons.1 hx with rfl | hx
    · exact h.1
    · exact fsPts_ok h.2 x hx
theorem right_parts1 {p : Pg} (h : rightN p = 0) : (∀ f ∈ p.fs, nameB f.s = true ∧ psOk f.ps = true ∧ f.b.ok = true) ∧ p.m.ok = true := by
  unfold rightN at h
  by_cases hc : (funcsB p.fs && okL p.pts) = true
  · rw [Bool.and_eq_true, Pg.pts, okL_append, SS.okL, Bool.and_eq_true] at hc
    obtain ⟨h1, h2, h3⟩ := hc
    unfold funcsB at h1
    rw [Bool.and_eq_true] at h1
    exact ⟨fun f hf => ⟨(fsOk_mem h1.2 f hf).1, (fsOk_mem h1.2 f hf).2, fsPts_ok h2 f hf⟩, h3⟩
  · rw [if_neg hc] at h
    cases h
end Go.Proofs.YtbgjlmcagdgpkaaDoor
