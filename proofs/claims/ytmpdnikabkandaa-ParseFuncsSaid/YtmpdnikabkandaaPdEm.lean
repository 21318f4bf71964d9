/-
  ParseBefore, ParseBlanks, ParseRows, plain: what Parse tells of bytes with others behind, or with other bytes between their tokens.
-/
import Derived.Test.YtmpdnikabkandaaPq5
import Derived.Test.YtmpdnikabkandaaPdCm
namespace Go.Proofs.Ytmpdnikabkandaa
open Go

theorem kinds_ne {p : Nat} {l : List UInt8} {ts : List Tok} (h : lexS p l = .ok ts) : ∀ t ∈ ts, t.kind ≠ 4 := fun t ht => Nat.ne_of_lt ((lex_few _ p l ts (Nat.le_refl _) h).2 t ht)
theorem tl_of {l : List UInt8} {ts : List Tok} (h : lexS 0 l = .ok ts) : tl l = progT (ts.length + 2) (fin ts l.length) := by unfold tl; rw [h]
theorem tl_of_bad {l : List UInt8} {p : Nat} (h : lexS 0 l = .bad p) : tl l = .bad p 2 := by unfold tl; rw [h]
theorem fin_app (a b : List Tok) (n : Nat) : fin (a ++ b) n = a ++ fin b n := by unfold fin; rw [List.append_assoc]
theorem behind_toks {b more : List UInt8} {ts us : List Tok} (hb : lexS 0 b = .ok ts) (hm : lexS 0 more = .ok us) : lexS 0 (b ++ 10 :: more) = .ok (ts ++ us.map (Tok.far (b.length + 1))) := by
  rw [lex_behind hb, hm]; rfl
/-- What is wrong ahead of the end is wrong with other tokens behind. -/
theorem tl_before {b more : List UInt8} {ts us : List Tok} (hb : lexS 0 b = .ok ts) (hm : lexS 0 more = .ok us) {p c : Nat} (h : tl b = .bad p c) (hp : p ≠ b.length) (hc : c ≠ 3) : tl (b ++ 10 :: more) = .bad p c := by
  have h1 := tl_of (behind_toks hb hm)
  rw [fin_app] at h1
  have h2 := prog_be (ts.length + 2) ((ts ++ us.map (Tok.far (b.length + 1))).length + 2) (be_app (E := b.length) (U := fin (us.map (Tok.far (b.length + 1))) (b ++ 10 :: more).length) ts (kinds_ne hb))
  rw [← h1, ← tl_of hb, h] at h2
  rcases h2 with h2 | h2 | h2 | h2
  · exact absurd h2 (tl_ne _)
  · exact absurd h2 hp
  · exact absurd h2 hc
  · exact h2

/-- What lies ahead of what is told may be taken out. -/
theorem main_acc (n : Nat) : ∀ m (a l : List Sm) (ts : List Tok), mainT n m (a ++ l) ts = (mainT n m l ts).bind fun v r => .ok (a ++ v) r
  | 0, _, _, _ => rfl
  | m + 1, a, l, ts => by
    rw [mainT, mainT]
    split
    · rfl
    · cases outerT n 0 ts with
      | out => rfl
      | bad p c => rfl
      | ok t r =>
        show mainT n m (a ++ l ++ [t]) r = (mainT n m (l ++ [t]) r).bind _
        rw [List.append_assoc, main_acc n m a (l ++ [t]) r]
theorem funcs_few (n : Nat) : ∀ m l (ts : List Tok) v r, funcsT n m l ts = .ok v r → l.length ≤ v.length ∧ (isT ts [102, 117, 110, 99] = true → l.length < v.length)
  | 0, _, _, _, _, h => by cases h
  | m + 1, l, ts, v, r, h => by
    rw [funcsT] at h
    by_cases hf : isT ts [102, 117, 110, 99] = true
    · rw [if_pos hf] at h
      split at h
      · cases h
      · cases hx : funcT n ts with
        | out => rw [hx] at h; cases h
        | bad p c => rw [hx] at h; cases h
        | ok f r1 =>
          rw [hx] at h
          have := (funcs_few n m _ r1 v r h).1
          simp at this
          exact ⟨by omega, fun _ => by omega⟩
    · rw [if_neg hf] at h
      injection h with h1 h2
      subst h1
      exact ⟨Nat.le_refl _, fun h => absurd h hf⟩
theorem smSS_app : ∀ a b : List Sm, ∃ x, smSS (a ++ b) = x ∧ x.len = a.length + b.length
  | a, b => ⟨_, rfl, by
    have hl : ∀ l : List Sm, (smSS l).len = l.length := fun l => by
      induction l with
      | nil => rfl
      | cons t r ih => simp [smSS, toSS, SS.len, ih]
    rw [hl, List.length_append]⟩
theorem al_far (d n : Nat) : ∀ us : List Tok, (∀ t ∈ us, t.kind ≠ 4) → Al (fun p q => q = p + d) (fin us n) (fin (us.map (Tok.far d)) (n + d))
  | [], _ => .fin _ _ rfl
  | t :: us, h => .cons _ _ _ _ _ _ (h t (by simp)) rfl (al_far d n us fun x hx => h x (by simp [hx]))
theorem stmt_else (n o : Nat) {ts : List Tok} (h : isT ts [101, 108, 115, 101] = true) : ∃ p c, smT (n + 1) o ts = .bad p c := by
  have e : (hdT ts).text = [101, 108, 115, 101] := of_decide_eq_true h
  have ei : ∀ s, isT ts s = decide ([101, 108, 115, 101] = s) := fun s => by unfold isT; rw [e]
  refine ⟨(hdT ts).at_, 2, ?_⟩
  unfold smT storeT nameT
  rw [ei, ei, ei, ei, ei, ei, ei, e, show nameB (baT [101, 108, 115, 101]) = false by decide]
  rfl
/-- What two rows of bytes are, a line's end between: a program, and what is one without functions, or is wrong. -/
theorem tl_rows {a b : List UInt8} {q : Pg} {r : List Tok} (ha : tl a = .ok q r) :
    ∃ v : List Sm, q.m = smSS v ∧
    ((∀ q' r', tl b = .ok q' r' → q'.fs = [] → ∃ v' r'', q'.m = smSS v' ∧ tl (a ++ 10 :: b) = .ok ⟨q.fs, smSS (v ++ v')⟩ r'') ∧
     (∀ p c, tl b = .bad p c → (∀ ts, lexS 0 b = .ok ts → isT ts [102, 117, 110, 99] = false ∧ isT ts [101, 108, 115, 101] = false) → tl (a ++ 10 :: b) = .bad (p + (a.length + 1)) c)) := by
  cases hA : lexS 0 a with
  | bad p => rw [tl_of_bad hA] at ha; cases ha
  | ok ts =>
    rw [tl_of hA] at ha
    unfold progT at ha
    cases hfs : funcsT (ts.length + 2) (ts.length + 2) [] (fin ts a.length) with
    | out => rw [hfs] at ha; cases ha
    | bad p c => rw [hfs] at ha; cases ha
    | ok fs r1 =>
      rw [hfs] at ha
      have ha : ((mainT (ts.length + 2) (ts.length + 2) [] r1).bind fun m r => .ok (⟨fs, smSS m⟩ : Pg) r) = .ok q r := ha
      cases hmn : mainT (ts.length + 2) (ts.length + 2) [] r1 with
      | out => rw [hmn] at ha; cases ha
      | bad p c => rw [hmn] at ha; cases ha
      | ok v r2 =>
        rw [hmn] at ha
        have ha : PR.ok (⟨fs, smSS v⟩ : Pg) r2 = .ok q r := ha
        injection ha with ha1 ha2
        subst ha1 ha2
        refine ⟨v, rfl, ?_⟩
        cases hB : lexS 0 b with
        | bad p =>
          refine ⟨fun q' r' h => by (rw [tl_of_bad hB] at h; cases h), fun p' c h _ => ?_⟩
          rw [tl_of_bad hB] at h
          injection h with h1 h2
          subst h1 h2
          refine tl_of_bad ?_
          rw [lex_behind hA, hB]; rfl
        | ok us =>
          obtain ⟨d, hd⟩ : ∃ d, a.length + 1 = d := ⟨_, rfl⟩
          have hL : (a ++ 10 :: b).length = b.length + d := by rw [← hd]; simp; omega
          obtain ⟨n, hn⟩ : ∃ n, (ts ++ us.map (Tok.far d)).length + 2 = n := ⟨_, rfl⟩
          have h1 : tl (a ++ 10 :: b) = progT n (ts ++ fin (us.map (Tok.far d)) (b.length + d)) := by
            have := tl_of (behind_toks hA hB)
            rw [hd] at this
            rw [this, fin_app, hL, hn]
          have hal := al_far d b.length us (kinds_ne hB)
          have hT2 := hal.isT [101, 108, 115, 101]
          have hT1 := hal.isT [102, 117, 110, 99]
          /- goes on behind a's own -/
          have hgo : isT (fin us b.length) [101, 108, 115, 101] = false → isT (fin us b.length) [102, 117, 110, 99] = false →
              ∃ k, tl (a ++ 10 :: b) = (mainT n k v (fin (us.map (Tok.far d)) (b.length + d))).bind fun m r => .ok (⟨fs, smSS m⟩ : Pg) r := by
            intro he hf
            rw [he] at hT2
            rw [hf] at hT1
            have hbe := be_app (E := a.length) (U := fin (us.map (Tok.far d)) (b.length + d)) ts (kinds_ne hA)
            have hby := funcs_by hT2 hT1 (ts.length + 2) n (ts.length + 2) n [] _ _ hbe
            rw [hfs] at hby
            have hne : tl (a ++ 10 :: b) ≠ .out := tl_ne _
            rw [h1] at hne ⊢
            unfold progT at hne ⊢
            rcases hby with hby | ⟨r', hby, hr⟩
            · rw [hby] at hne; exact absurd rfl hne
            · rw [hby] at hne ⊢
              have hne : ((mainT n n [] r').bind fun m r => .ok (⟨fs, smSS m⟩ : Pg) r) ≠ .out := hne
              rcases main_by hT2 (ts.length + 2) n (ts.length + 2) n [] v r1 r' r2 hr hmn with h | ⟨k, h⟩
              · rw [h] at hne; exact absurd rfl hne
              · exact ⟨k, by show (mainT n n [] r').bind _ = _; rw [h]⟩
          /- b's own main -/
          have hbm : isT (fin us b.length) [102, 117, 110, 99] = false → tl b = (mainT (us.length + 2) (us.length + 2) [] (fin us b.length)).bind fun m r => .ok (⟨[], smSS m⟩ : Pg) r := by
            intro hf
            rw [tl_of hB]
            unfold progT
            rw [show funcsT (us.length + 2) (us.length + 2) [] (fin us b.length) = .ok [] (fin us b.length) by rw [funcsT, if_neg (by rw [hf]; exact Bool.false_ne_true)]]
            rfl
          have hsx : ∀ k, Sx (fun p q => q = p + d) (mainT (us.length + 2) (us.length + 2) [] (fin us b.length)) (mainT n k [] (fin (us.map (Tok.far d)) (b.length + d))) := fun k => main_al _ _ _ _ _ _ _ hal
          refine ⟨fun q' r' hb hq => ?_, fun p c hb hno => ?_⟩
          · have hf : isT (fin us b.length) [102, 117, 110, 99] = false := by
              cases hf : isT (fin us b.length) [102, 117, 110, 99] with
              | false => rfl
              | true =>
                rw [tl_of hB] at hb
                unfold progT at hb
                cases hx : funcsT (us.length + 2) (us.length + 2) [] (fin us b.length) with
                | out => rw [hx] at hb; cases hb
                | bad p c => rw [hx] at hb; cases hb
                | ok fs' r3 =>
                  have hl := (funcs_few _ _ _ _ _ _ hx).2 hf
                  rw [hx] at hb
                  have hb : ((mainT (us.length + 2) (us.length + 2) [] r3).bind fun m r => .ok (⟨fs', smSS m⟩ : Pg) r) = .ok q' r' := hb
                  cases hy : mainT (us.length + 2) (us.length + 2) [] r3 with
                  | out => rw [hy] at hb; cases hb
                  | bad p c => rw [hy] at hb; cases hb
                  | ok v3 r4 =>
                    rw [hy] at hb
                    have hb : PR.ok (⟨fs', smSS v3⟩ : Pg) r4 = .ok q' r' := hb
                    injection hb with hb1 _
                    subst hb1
                    have hq : fs' = [] := hq
                    subst hq
                    simp at hl
            have he : isT (fin us b.length) [101, 108, 115, 101] = false := by
              cases he : isT (fin us b.length) [101, 108, 115, 101] with
              | false => rfl
              | true =>
                rw [hbm hf] at hb
                obtain ⟨p, c, hs⟩ := stmt_else (us.length + 1) 0 he
                have hk : (hdT (fin us b.length)).kind ≠ 4 := by
                  cases us with
                  | nil => exact absurd he (Bool.eq_false_iff.1 (end_is (E := b.length) (by decide)))
                  | cons t us => exact kinds_ne hB t (by simp)
                rw [mainT, if_neg hk] at hb
                unfold outerT at hb
                rw [hs] at hb
                cases hb
            obtain ⟨k, hgo⟩ := hgo he hf
            rw [hbm hf] at hb
            have hs := hsx k
            cases hx : mainT (us.length + 2) (us.length + 2) [] (fin us b.length) with
            | out => rw [hx] at hb; cases hb
            | bad p c => rw [hx] at hb; cases hb
            | ok v' r3 =>
              rw [hx] at hb hs
              have hb : PR.ok (⟨[], smSS v'⟩ : Pg) r3 = .ok q' r' := hb
              injection hb with hb1 _
              subst hb1
              have hne : tl (a ++ 10 :: b) ≠ .out := tl_ne _
              rw [hgo, ← List.append_nil v, main_acc] at hne
              cases hy : mainT n k [] (fin (us.map (Tok.far d)) (b.length + d)) with
              | out => rw [hy] at hne; exact absurd rfl hne
              | bad p c => rw [hy] at hs; exact hs.elim
              | ok v'' r4 =>
                rw [hy] at hs
                obtain ⟨rfl, _⟩ := hs
                exact ⟨v', r4, rfl, by rw [hgo, ← List.append_nil v, main_acc, hy, List.append_nil]; rfl⟩
          · have hno2 : isT (fin us b.length) [102, 117, 110, 99] = false ∧ isT (fin us b.length) [101, 108, 115, 101] = false := by
              have := hno us rfl
              cases us with
              | nil => exact ⟨end_is (E := b.length) (by decide), end_is (E := b.length) (by decide)⟩
              | cons t us => exact this
            obtain ⟨hf, he⟩ := hno2
            obtain ⟨k, hgo⟩ := hgo he hf
            rw [hbm hf] at hb
            have hs := hsx k
            cases hx : mainT (us.length + 2) (us.length + 2) [] (fin us b.length) with
            | out => rw [hx] at hb; cases hb
            | ok v' r3 => rw [hx] at hb; cases hb
            | bad p' c' =>
              rw [hx] at hb hs
              have hb : PR.bad p' c' = (PR.bad p c : PR Pg) := hb
              injection hb with hb1 hb2
              subst hb1 hb2
              have hne : tl (a ++ 10 :: b) ≠ .out := tl_ne _
              rw [hgo, ← List.append_nil v, main_acc] at hne
              cases hy : mainT n k [] (fin (us.map (Tok.far d)) (b.length + d)) with
              | out => rw [hy] at hne; exact absurd rfl hne
              | ok v'' r4 => rw [hy] at hs; exact hs.elim
              | bad p'' c'' =>
                rw [hy] at hs
                obtain ⟨rfl, rfl⟩ := hs
                rw [hgo, ← List.append_nil v, main_acc, hy, hd]
                rfl

end Go.Proofs.Ytmpdnikabkandaa
