/-
  Package parse, plain: statements and functions that are read whole are read the same with anything behind that does not begin with 'else', or 'func'.
-/
import Derived.Test.YtmpdnikabkandaaPq5
import Derived.Test.YtmpdnikabkandaaPdBm
namespace Go.Proofs.Ytmpdnikabkandaa
open Go
section
variable {E : Nat} {U : List Tok} {α β : Type}
/-- At the end nothing is read. -/
def Eo (E : Nat) (x : PR α) : Prop := match x with
  | .out => True
  | .ok _ _ => False
  | .bad p c => p = E ∨ c = 3
theorem Eo.bind {x : PR α} {f : α → List Tok → PR β} (h : Eo E x) : Eo E (x.bind f) := by
  cases x with
  | out => trivial
  | ok v r => exact h.elim
  | bad p c => exact h
theorem Eo.en {x : PR α} (h : Eo E x) : En E x := by
  cases x with
  | out => trivial
  | ok v r => exact h.elim
  | bad p c => exact h
theorem want_eo {s : List UInt8} (hs : s ≠ []) : Eo E (wantT s [⟨4, [], E⟩]) := by unfold wantT; rw [end_is hs]; exact .inl rfl
theorem enter_eo {s : List UInt8} (hs : s ≠ []) (o : Nat) : Eo E (enterT s o [⟨4, [], E⟩]) := by unfold enterT; rw [end_is hs]; exact .inl rfl
theorem name_eo : Eo E (nameT [⟨4, [], E⟩]) := by unfold nameT; rw [if_neg (show ¬ nameB (baT (hdT [⟨4, [], E⟩]).text) = true by show ¬ nameB (baT []) = true; decide)]; exact .inl rfl
theorem block_eo (one : List Tok → PR Sm) (m o : Nat) : Eo E (blockT one m o [⟨4, [], E⟩]) := (enter_eo (by decide) o).bind
theorem stmt_eo : ∀ n o, Eo E (smT n o [⟨4, [], E⟩])
  | 0, _ => trivial
  | n + 1, o => by
    unfold smT
    rw [end_is (by decide), if_neg Bool.false_ne_true, end_is (by decide), if_neg Bool.false_ne_true, end_is (by decide), if_neg Bool.false_ne_true, end_is (by decide), if_neg Bool.false_ne_true, end_is (by decide), if_neg Bool.false_ne_true, end_is (by decide), if_neg Bool.false_ne_true, end_is (by decide), if_neg Bool.false_ne_true]
    unfold storeT
    exact (name_eo.bind).bind
theorem outer_eo (n o : Nat) : Eo E (outerT n o [⟨4, [], E⟩]) := (stmt_eo n o).bind
theorem body_eo {one : List Tok → PR Sm} (h1 : Eo E (one [⟨4, [], E⟩])) : ∀ m l, Eo E (bodyT one m l [⟨4, [], E⟩])
  | 0, _ => trivial
  | m + 1, l => by
    unfold bodyT
    rw [end_is (by decide), if_neg Bool.false_ne_true]
    exact h1.bind

/-- The same is told, at the end too. -/
def By (E : Nat) (U : List Tok) (x y : PR α) : Prop := y = .out ∨ match x with
  | .out => True
  | .ok v r => ∃ r', y = .ok v r' ∧ Be E U r r'
  | .bad p c => p = E ∨ c = 3 ∨ y = .bad p c
theorem By.bx {x y : PR α} (h : By E U x y) : Bx E U x y := by
  rcases h with h | h
  · exact .inl h
  · cases x with
    | out => exact .inr trivial
    | ok v r => exact .inr (.inr h)
    | bad p c => exact .inr h
theorem Eo.by' {x : PR α} (h : Eo E x) (y : PR α) : By E U x y := by
  refine .inr ?_
  cases x with
  | out => trivial
  | ok v r => exact h.elim
  | bad p c => exact h.elim .inl (fun h => .inr (.inl h))
theorem By.ok {v : α} {r r' : List Tok} (h : Be E U r r') : By E U (.ok v r) (.ok v r') := .inr ⟨r', rfl, h⟩
theorem By.bad {p c : Nat} : By E U (.bad p c : PR α) (.bad p c) := .inr (.inr (.inr rfl))
theorem By.out_r (x : PR α) : By E U x .out := .inl rfl
theorem By.out_l (y : PR α) : By E U .out y := .inr trivial
theorem By.bind {x y : PR α} {f g : α → List Tok → PR β} (h : By E U x y) (hf : ∀ v r r', Be E U r r' → By E U (f v r) (g v r')) : By E U (x.bind f) (y.bind g) := by
  rcases h with rfl | h
  · exact .inl rfl
  · cases x with
    | out => exact .inr trivial
    | ok v r =>
      obtain ⟨r', rfl, h⟩ := h
      exact hf v r r' h
    | bad p c =>
      rcases h with h | h | rfl
      · exact .inr (.inl h)
      · exact .inr (.inr (.inl h))
      · exact .inr (.inr (.inr rfl))
/-- What must go on behind its end. -/
theorem Bx.by' {x y : PR α} {f g : α → List Tok → PR β} (h : Bx E U x y) (he : ∀ v, Eo E (f v [⟨4, [], E⟩])) (hf : ∀ v r r', Be E U r r' → By E U (f v r) (g v r')) : By E U (x.bind f) (y.bind g) := by
  rcases h with rfl | h
  · exact .inl rfl
  · cases x with
    | out => exact .inr trivial
    | ok v r =>
      rcases h with rfl | ⟨r', rfl, h⟩
      · exact (he v).by' _
      · exact hf v r r' h
    | bad p c =>
      rcases h with h | h | rfl
      · exact .inr (.inl h)
      · exact .inr (.inr (.inl h))
      · exact .inr (.inr (.inr rfl))
theorem want_by {s : List UInt8} (hs : s ≠ []) {ts us : List Tok} (h : Be E U ts us) : By E U (wantT s ts) (wantT s us) := by
  rcases h.cases' with rfl | e
  · exact (want_eo hs).by' _
  · unfold wantT
    rw [show isT us s = isT ts s by unfold isT; rw [e], e]
    split
    · exact .ok (h.tail' (by assumption) hs)
    · exact .bad
theorem enter_by {s : List UInt8} (hs : s ≠ []) (o : Nat) {ts us : List Tok} (h : Be E U ts us) : By E U (enterT s o ts) (enterT s o us) := by
  rcases h.cases' with rfl | e
  · exact (enter_eo hs o).by' _
  · unfold enterT
    rw [show isT us s = isT ts s by unfold isT; rw [e], e]
    split
    · split
      · exact .bad
      · exact .ok (h.tail' (by assumption) hs)
    · exact .bad
theorem name_by {ts us : List Tok} (h : Be E U ts us) : By E U (nameT ts) (nameT us) := by
  rcases h.cases' with rfl | e
  · exact name_eo.by' _
  · unfold nameT
    rw [e]
    split
    · rename_i hn
      refine .ok (h.tail (.inr ?_))
      intro e
      rw [e] at hn
      exact absurd hn (by decide)
    · exact .bad
theorem semi_by {x y : PR Sm} (h : Bx E U x y) : By E U (semiT x) (semiT y) :=
  h.by' (fun _ => (want_eo (by decide)).bind) fun t r r' hr => (want_by (by decide) hr).bind fun _ r r' hr => .ok hr
theorem store_be (n n' o : Nat) {ts us : List Tok} (h : Be E U ts us) : Bx E U (storeT n o ts) (storeT n' o us) := by
  unfold storeT
  refine (name_be h).bind (fun s => ?_) fun s r r' hr => ?_
  · rw [end_is (by decide), if_neg Bool.false_ne_true]
    exact (want_en (by decide)).bind fun _ => (expr_en n 1 o (Nat.le_refl _)).bind fun e => rfl
  · rcases hr.cases' with rfl | e
    · rw [end_is (by decide), if_neg Bool.false_ne_true]
      refine En.bx ?_ _
      exact (want_en (by decide)).bind fun _ => (expr_en n 1 o (Nat.le_refl _)).bind fun e => rfl
    · rw [show isT r' [91] = isT r [91] by unfold isT; rw [e]]
      split
      · exact (within_be (fun l o hl => expr_en n l o hl) (fun l o ts us hl h => expr_be n n' l o ts us hl h) (by decide) (by decide) o hr).bind (fun _ => (want_en (by decide)).bind fun _ => (expr_en n 1 o (Nat.le_refl _)).bind fun e => rfl) fun i r r' hr =>
          (want_be (by decide) hr).bind (fun _ => (expr_en n 1 o (Nat.le_refl _)).bind fun e => rfl) fun _ r r' hr => (expr_be n n' 1 o r r' (Nat.le_refl _) hr).bind (fun _ => rfl) fun e r r' hr => .ok hr
      · exact (want_be (by decide) hr).bind (fun _ => (expr_en n 1 o (Nat.le_refl _)).bind fun e => rfl) fun _ r r' hr => (expr_be n n' 1 o r r' (Nat.le_refl _) hr).bind (fun _ => rfl) fun e r r' hr => .ok hr
theorem tell_be (n n' : Nat) (op : Int) (o : Nat) {ts us : List Tok} (h : Be E U ts us) : Bx E U (tellT n op o ts) (tellT n' op o us) :=
  (expr_be n n' 1 o ts us (Nat.le_refl _) h).bind (fun _ => rfl) fun _e _r _r' hr => .ok hr
theorem body_by {one one' : List Tok → PR Sm} (h0 : Eo E (one [⟨4, [], E⟩])) (h1 : ∀ ts us : List Tok, Be E U ts us → By E U (one ts) (one' us)) : ∀ m m' l (ts us : List Tok), Be E U ts us → By E U (bodyT one m l ts) (bodyT one' m' l us)
  | 0, _, _, _, _, _ => .out_l _
  | m + 1, 0, _, _, _, _ => .out_r _
  | m + 1, m' + 1, l, ts, us, h => by
    rcases h.cases' with rfl | e
    · exact (body_eo h0 _ _).by' _
    · unfold bodyT
      rw [show isT us [125] = isT ts [125] by unfold isT; rw [e]]
      split
      · exact (want_by (by decide) h).bind fun _ r r' hr => .ok hr
      · exact (h1 _ _ h).bind fun t r r' hr => body_by h0 h1 m m' _ r r' hr
theorem block_by {one one' : List Tok → PR Sm} (h0 : Eo E (one [⟨4, [], E⟩])) (h1 : ∀ ts us : List Tok, Be E U ts us → By E U (one ts) (one' us)) (m m' o : Nat) {ts us : List Tok} (h : Be E U ts us) : By E U (blockT one m o ts) (blockT one' m' o us) :=
  (enter_by (by decide) o h).bind fun _ r r' hr => body_by h0 h1 m m' [] r r' hr
theorem stmt_by (hU : isT U [101, 108, 115, 101] = false) : ∀ n n' o (ts us : List Tok), Be E U ts us → By E U (smT n o ts) (smT n' o us)
  | 0, _, _, _, _, _ => .out_l _
  | n + 1, 0, _, _, _, _ => .out_r _
  | n + 1, n' + 1, o, ts, us, h => by
    have hb : ∀ m m' o (ts us : List Tok), Be E U ts us → By E U (blockT (smT n (o + 1)) m o ts) (blockT (smT n' (o + 1)) m' o us) := fun m m' o ts us h => block_by (stmt_eo n (o + 1)) (fun ts us h => stmt_by hU n n' (o + 1) ts us h) m m' o h
    rcases h.cases' with rfl | e
    · exact (stmt_eo _ _).by' _
    · have ei : ∀ s, isT us s = isT ts s := fun s => by unfold isT; rw [e]
      unfold smT
      rw [ei, ei, ei, ei, ei, ei, ei]
      split
      · have ht := h.tail' (by assumption) (by decide)
        exact semi_by ((name_be ht).bind (fun s => (num_en _ _).bind fun _ => rfl) fun s r r' hr => (num_be _ _ hr).bind (fun _ => rfl) fun k r r' hr => .ok hr)
      · split
        · have ht := h.tail' (by assumption) (by decide)
          exact semi_by ((name_be ht).bind (fun s => rfl) fun s r r' hr => .ok hr)
        · split
          · exact semi_by (tell_be _ _ 5 o (h.tail' (by assumption) (by decide)))
          · split
            · exact semi_by (tell_be _ _ 6 o (h.tail' (by assumption) (by decide)))
            · split
              · exact semi_by (tell_be _ _ 9 o (h.tail' (by assumption) (by decide)))
              · split
                · refine (tell_be _ _ 7 o (h.tail' (by assumption) (by decide))).by' (fun _ => (block_eo _ _ _).bind) fun t r r' hr => (hb _ _ o r r' hr).bind fun b r r' hr => ?_
                  rcases hr.cases' with rfl | e
                  · rw [end_is (by decide), if_neg Bool.false_ne_true]
                    cases hr with
                    | fin => rw [hU, if_neg Bool.false_ne_true]; exact .ok .fin
                    | cons _ _ _ _ _ hk _ => exact absurd rfl hk
                  · rw [show isT r' [101, 108, 115, 101] = isT r [101, 108, 115, 101] by unfold isT; rw [e]]
                    split
                    · exact (hb _ _ o _ _ (hr.tail' (by assumption) (by decide))).bind fun c r r' hr => .ok hr
                    · exact .ok hr
                · split
                  · exact (tell_be _ _ 8 o (h.tail' (by assumption) (by decide))).by' (fun _ => (block_eo _ _ _).bind) fun t r r' hr => (hb _ _ o r r' hr).bind fun b r r' hr => .ok hr
                  · exact semi_by (store_be _ _ o h)
theorem outer_by (hU : isT U [101, 108, 115, 101] = false) (n n' o : Nat) {ts us : List Tok} (h : Be E U ts us) : By E U (outerT n o ts) (outerT n' o us) := by
  rcases h.cases' with rfl | e
  · exact (outer_eo _ _).by' _
  · refine (stmt_by hU n n' o ts us h).bind fun t r r' hr => ?_
    rw [e]
    split
    · exact .bad
    · exact .ok hr
theorem func_by (hU : isT U [101, 108, 115, 101] = false) (n n' : Nat) {ts us : List Tok} (h : Be E U ts us) : By E U (funcT n ts) (funcT n' us) :=
  (want_by (by decide) h).bind fun _ r r' hr => (name_by hr).bind fun s r r' hr => (several_be name_en (fun ts us h => name_be h) n n' 0 hr).by' (fun _ => (block_eo _ _ _).bind) fun ps r r' hr =>
    (block_by (outer_eo n 1) (fun ts us h => outer_by hU n n' 1 h) n n' 0 hr).bind fun b r r' hr => .ok hr
theorem funcs_by (hU : isT U [101, 108, 115, 101] = false) (hF : isT U [102, 117, 110, 99] = false) (n n' : Nat) : ∀ m m' l (ts us : List Tok), Be E U ts us → By E U (funcsT n m l ts) (funcsT n' m' l us)
  | 0, _, _, _, _, _ => .out_l _
  | m + 1, 0, _, _, _, _ => .out_r _
  | m + 1, m' + 1, l, ts, us, h => by
    unfold funcsT
    rcases h.cases' with rfl | e
    · rw [end_is (by decide), if_neg Bool.false_ne_true]
      cases h with
      | fin => rw [hF, if_neg Bool.false_ne_true]; exact .ok .fin
      | cons _ _ _ _ _ hk _ => exact absurd rfl hk
    · rw [show isT us [102, 117, 110, 99] = isT ts [102, 117, 110, 99] by unfold isT; rw [e], e]
      split
      · split
        · exact .bad
        · exact (func_by hU n n' h).bind fun f r r' hr => funcs_by hU hF n n' m m' _ r r' hr
      · exact .ok h
/-- Statements up to the end are read, and then it goes on behind them. -/
theorem main_by (hU : isT U [101, 108, 115, 101] = false) (n n' : Nat) : ∀ m m' l v (ts us rest : List Tok), Be E U ts us → mainT n m l ts = .ok v rest → mainT n' m' l us = .out ∨ ∃ k, mainT n' m' l us = mainT n' k v U
  | 0, _, _, _, _, _, _, _, h => by cases h
  | m + 1, 0, _, _, _, _, _, _, _ => .inl rfl
  | m + 1, m' + 1, l, v, ts, us, rest, h, ho => by
    rcases h with _ | ⟨k, s, p, ts, us, hk, h⟩
    · have e : mainT n (m + 1) l [⟨4, [], E⟩] = .ok l [⟨4, [], E⟩] := rfl
      rw [e] at ho
      injection ho with ho _
      exact .inr ⟨m' + 1, by rw [ho]⟩
    · have hb := outer_by hU n n' 0 (Be.cons k s p ts us hk h)
      rw [mainT, if_neg (show ¬ (hdT (⟨k, s, p⟩ :: ts)).kind = 4 from hk)] at ho
      have e1 : mainT n' (m' + 1) l (⟨k, s, p⟩ :: us) = (outerT n' 0 (⟨k, s, p⟩ :: us)).bind fun t r => mainT n' m' (l ++ [t]) r := by
        rw [mainT, if_neg (show ¬ (hdT (⟨k, s, p⟩ :: us)).kind = 4 from hk)]
      rw [e1]
      cases hx : outerT n 0 (⟨k, s, p⟩ :: ts) with
      | out => rw [hx] at ho; cases ho
      | bad p c => rw [hx] at ho; cases ho
      | ok t r =>
        rw [hx] at ho hb
        rcases hb with hb | ⟨r', hb, hr⟩
        · rw [hb]; exact .inl rfl
        · rw [hb]; exact main_by hU n n' m m' _ v r r' rest hr ho
theorem body_be {one one' : List Tok → PR Sm} (h0 : En E (one [⟨4, [], E⟩])) (h1 : ∀ ts us : List Tok, Be E U ts us → Bx E U (one ts) (one' us)) : ∀ m m' l (ts us : List Tok), Be E U ts us → Bx E U (bodyT one m l ts) (bodyT one' m' l us)
  | 0, _, _, _, _, _ => .out_l _
  | m + 1, 0, _, _, _, _ => .out_r _
  | m + 1, m' + 1, l, ts, us, h => by
    rcases h.cases' with rfl | e
    · exact (body_en h0 _ _).bx _
    · unfold bodyT
      rw [show isT us [125] = isT ts [125] by unfold isT; rw [e]]
      split
      · exact (want_be (by decide) h).bind (fun _ => rfl) fun _ r r' hr => .ok hr
      · exact (h1 _ _ h).bind (fun t => body_en h0 m _) fun t r r' hr => body_be h0 h1 m m' _ r r' hr
theorem block_be {one one' : List Tok → PR Sm} (h0 : En E (one [⟨4, [], E⟩])) (h1 : ∀ ts us : List Tok, Be E U ts us → Bx E U (one ts) (one' us)) (m m' o : Nat) {ts us : List Tok} (h : Be E U ts us) : Bx E U (blockT one m o ts) (blockT one' m' o us) :=
  (enter_be (by decide) o h).bind (fun _ => body_en h0 m []) fun _ r r' hr => body_be h0 h1 m m' [] r r' hr
theorem semi_be {x y : PR Sm} (h : Bx E U x y) : Bx E U (semiT x) (semiT y) :=
  h.bind (fun _ => (want_en (by decide)).bind fun _ => rfl) fun t r r' hr => (want_be (by decide) hr).bind (fun _ => rfl) fun _ r r' hr => .ok hr
theorem stmt_be : ∀ n n' o (ts us : List Tok), Be E U ts us → Bx E U (smT n o ts) (smT n' o us)
  | 0, _, _, _, _, _ => .out_l _
  | n + 1, 0, _, _, _, _ => .out_r _
  | n + 1, n' + 1, o, ts, us, h => by
    have h0 : ∀ o, En E (smT n o [⟨4, [], E⟩]) := fun o => stmt_en n o
    have hb : ∀ m m' o (ts us : List Tok), Be E U ts us → Bx E U (blockT (smT n (o + 1)) m o ts) (blockT (smT n' (o + 1)) m' o us) := fun m m' o ts us h => block_be (h0 _) (fun ts us h => stmt_be n n' (o + 1) ts us h) m m' o h
    have hbe : ∀ m o, En E (blockT (smT n (o + 1)) m o [⟨4, [], E⟩]) := fun m o => block_en (h0 _) m o
    rcases h.cases' with rfl | e
    · exact (stmt_en _ _).bx _
    · have ei : ∀ s, isT us s = isT ts s := fun s => by unfold isT; rw [e]
      have hie : ∀ (t : Sm) (b : List Sm), En E (if isT [⟨4, [], E⟩] [101, 108, 115, 101] = true then (blockT (smT n (o + 1)) (n + 1) o [⟨4, [], E⟩].tail).bind fun c r => .ok (⟨7, nilS, 0, t.l, smSS b, smSS c⟩ : Sm) r else .ok ⟨7, nilS, 0, t.l, smSS b, .nil⟩ [⟨4, [], E⟩]) := fun t b => by
        rw [end_is (by decide), if_neg Bool.false_ne_true]
        exact rfl
      unfold smT
      rw [ei, ei, ei, ei, ei, ei, ei]
      split
      · have ht := h.tail' (by assumption) (by decide)
        exact semi_be ((name_be ht).bind (fun s => (num_en _ _).bind fun _ => rfl) fun s r r' hr => (num_be _ _ hr).bind (fun _ => rfl) fun k r r' hr => .ok hr)
      · split
        · have ht := h.tail' (by assumption) (by decide)
          exact semi_be ((name_be ht).bind (fun s => rfl) fun s r r' hr => .ok hr)
        · split
          · exact semi_be (tell_be _ _ 5 o (h.tail' (by assumption) (by decide)))
          · split
            · exact semi_be (tell_be _ _ 6 o (h.tail' (by assumption) (by decide)))
            · split
              · exact semi_be (tell_be _ _ 9 o (h.tail' (by assumption) (by decide)))
              · split
                · refine (tell_be _ _ 7 o (h.tail' (by assumption) (by decide))).bind (fun t => (hbe _ o).bind fun b => hie t b) fun t r r' hr => (hb _ _ o r r' hr).bind (fun b => hie t b) fun b r r' hr => ?_
                  rcases hr.cases' with rfl | e
                  · exact (hie t b).bx _
                  · rw [show isT r' [101, 108, 115, 101] = isT r [101, 108, 115, 101] by unfold isT; rw [e]]
                    split
                    · exact (hb _ _ o _ _ (hr.tail' (by assumption) (by decide))).bind (fun _ => rfl) fun c r r' hr => .ok hr
                    · exact .ok hr
                · split
                  · exact (tell_be _ _ 8 o (h.tail' (by assumption) (by decide))).bind (fun t => (hbe _ o).bind fun b => rfl) fun t r r' hr => (hb _ _ o r r' hr).bind (fun _ => rfl) fun b r r' hr => .ok hr
                  · exact semi_be (store_be _ _ o h)
theorem outer_be (n n' o : Nat) {ts us : List Tok} (h : Be E U ts us) : Bx E U (outerT n o ts) (outerT n' o us) := by
  rcases h.cases' with rfl | e
  · exact (outer_en _ _).bx _
  · refine (stmt_be n n' o ts us h).bind (fun t => ?_) fun t r r' hr => ?_
    · split
      · exact .inr rfl
      · exact rfl
    · rw [e]
      split
      · exact .bad
      · exact .ok hr
theorem func_be (n n' : Nat) {ts us : List Tok} (h : Be E U ts us) : Bx E U (funcT n ts) (funcT n' us) :=
  have hb : En E (blockT (outerT n 1) n 0 [⟨4, [], E⟩]) := block_en (outer_en n 1) n 0
  have hp : En E (severalT nameT n 0 [⟨4, [], E⟩]) := several_en name_en n 0
  (want_be (by decide) h).bind (fun _ => name_en.bind fun s => hp.bind fun ps => hb.bind fun b => rfl) fun _ r r' hr => (name_be hr).bind (fun s => hp.bind fun ps => hb.bind fun b => rfl) fun s r r' hr =>
    (several_be name_en (fun ts us h => name_be h) n n' 0 hr).bind (fun ps => hb.bind fun b => rfl) fun ps r r' hr => (block_be (outer_en n 1) (fun ts us h => outer_be n n' 1 h) n n' 0 hr).bind (fun _ => rfl) fun b r r' hr => .ok hr
theorem funcs_be (n n' : Nat) : ∀ m m' l (ts us : List Tok), Be E U ts us → Bx E U (funcsT n m l ts) (funcsT n' m' l us)
  | 0, _, _, _, _, _ => .out_l _
  | m + 1, 0, _, _, _, _ => .out_r _
  | m + 1, m' + 1, l, ts, us, h => by
    rcases h.cases' with rfl | e
    · exact (funcs_en n _ _).bx _
    · unfold funcsT
      rw [show isT us [102, 117, 110, 99] = isT ts [102, 117, 110, 99] by unfold isT; rw [e], e]
      split
      · split
        · exact .bad
        · exact (func_be n n' h).bind (fun _ => funcs_en n m _) fun f r r' hr => funcs_be n n' m m' _ r r' hr
      · exact .ok h
theorem main_be (n n' : Nat) : ∀ m m' l (ts us : List Tok), Be E U ts us → Bx E U (mainT n m l ts) (mainT n' m' l us)
  | 0, _, _, _, _, _ => .out_l _
  | m + 1, 0, _, _, _, _ => .out_r _
  | m + 1, m' + 1, l, ts, us, h => by
    rcases h.cases' with rfl | e
    · exact (main_en n _ _).bx _
    · unfold mainT
      rw [e]
      split
      · exact .ok h
      · exact (outer_be n n' 0 h).bind (fun _ => main_en n _ _) fun t r r' hr => main_be n n' m m' _ r r' hr
theorem prog_be (n n' : Nat) {ts us : List Tok} (h : Be E U ts us) : Bx E U (progT n ts) (progT n' us) :=
  (funcs_be n n' n n' [] ts us h).bind (fun _ => (main_en n n []).bind fun _ => rfl) fun _fs r r' hr => (main_be n n' n n' [] r r' hr).bind (fun _ => rfl) fun _m _r _r' hr => .ok hr
end

/-- Tokens, and others behind. -/
theorem be_app {E : Nat} {U : List Tok} : ∀ ts : List Tok, (∀ t ∈ ts, t.kind ≠ 4) → Be E U (fin ts E) (ts ++ U)
  | [], _ => .fin
  | t :: ts, h => Be.cons _ _ _ _ _ (h t (by simp)) (be_app ts fun x hx => h x (by simp [hx]))
end Go.Proofs.Ytmpdnikabkandaa
