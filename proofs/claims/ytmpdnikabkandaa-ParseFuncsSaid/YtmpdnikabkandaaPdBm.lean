/-
  Package parse, plain: what is told does not hang on what is behind it, as long as its end is not come to.
-/
import Derived.Test.YtmpdnikabkandaaPq5
namespace Go.Proofs.Ytmpdnikabkandaa
open Go
/-- The same tokens, as far as the first ones go; their end stands at E. -/
inductive Be (E : Nat) (U : List Tok) : List Tok → List Tok → Prop
  | fin : Be E U [⟨4, [], E⟩] U
  | cons (k : Nat) (s : List UInt8) (p : Nat) (ts us : List Tok) : k ≠ 4 → Be E U ts us → Be E U (⟨k, s, p⟩ :: ts) (⟨k, s, p⟩ :: us)
section
variable {E : Nat} {U : List Tok} {α β : Type}
theorem Be.tail {ts us : List Tok} (h : Be E U ts us) (hn : (hdT ts).kind ≠ 4 ∨ (hdT ts).text ≠ []) : Be E U ts.tail us.tail := by
  cases h with
  | fin => exact absurd hn (by simp [hdT])
  | cons k s p ts us hk h1 => exact h1
theorem Be.tail' {ts us : List Tok} (h : Be E U ts us) {s : List UInt8} (hi : isT ts s = true) (hs : s ≠ []) : Be E U ts.tail us.tail :=
  h.tail (.inr (by rw [of_decide_eq_true hi]; exact hs))
/-- It is come to the end: what is told is told there. -/
def En (E : Nat) (x : PR α) : Prop := match x with
  | .out => True
  | .ok _ r => r = [⟨4, [], E⟩]
  | .bad p c => p = E ∨ c = 3
theorem En.bind {x : PR α} {f : α → List Tok → PR β} (h : En E x) (hf : ∀ v, En E (f v [⟨4, [], E⟩])) : En E (x.bind f) := by
  cases x with
  | out => trivial
  | ok v r => obtain rfl : r = [⟨4, [], E⟩] := h; exact hf v
  | bad p c => exact h
theorem end_is {s : List UInt8} (hs : s ≠ []) : isT [⟨4, [], E⟩] s = false := decide_eq_false fun e => hs e.symm
theorem want_en {s : List UInt8} (hs : s ≠ []) : En E (wantT s [⟨4, [], E⟩]) := by unfold wantT; rw [end_is hs]; exact .inl rfl
theorem enter_en {s : List UInt8} (hs : s ≠ []) (o : Nat) : En E (enterT s o [⟨4, [], E⟩]) := by unfold enterT; rw [end_is hs]; exact .inl rfl
theorem name_en : En E (nameT [⟨4, [], E⟩]) := by unfold nameT; rw [if_neg (show ¬ nameB (baT (hdT [⟨4, [], E⟩]).text) = true by show ¬ nameB (baT []) = true; decide)]; exact .inl rfl
theorem num_en (a b : Int) : En E (numT a b [⟨4, [], E⟩]) := .inl rfl
theorem more_en {one : List Tok → PR α} : ∀ m l, En E (moreT one m l [⟨4, [], E⟩])
  | 0, _ => trivial
  | m + 1, l => by
    unfold moreT
    rw [end_is (by decide), if_neg Bool.false_ne_true]
    exact (want_en (by decide)).bind fun _ => rfl
theorem several_en {one : List Tok → PR α} (h1 : En E (one [⟨4, [], E⟩])) (m o : Nat) : En E (severalT one m o [⟨4, [], E⟩]) := by
  unfold severalT
  refine (enter_en (by decide) o).bind fun _ => ?_
  rw [end_is (by decide), if_neg Bool.false_ne_true]
  exact h1.bind fun x => more_en m _
section
variable {ex : Nat → Nat → List Tok → PR Ex}
theorem within_en (h1 : ∀ l o, 1 ≤ l → En E (ex l o [⟨4, [], E⟩])) {a b : List UInt8} (ha : a ≠ []) (hb : b ≠ []) (o : Nat) : En E (withinT ex a b o [⟨4, [], E⟩]) :=
  (enter_en ha o).bind fun _ => (h1 1 (o + 1) (Nat.le_refl _)).bind fun _ => (want_en hb).bind fun _ => rfl
theorem named_en (_h1 : ∀ l o, 1 ≤ l → En E (ex l o [⟨4, [], E⟩])) (m o : Nat) : En E (namedT ex m o [⟨4, [], E⟩]) := by
  unfold namedT
  refine name_en.bind fun s => ?_
  rw [end_is (by decide), if_neg Bool.false_ne_true, end_is (by decide), if_neg Bool.false_ne_true]
  exact rfl
theorem single_en (h1 : ∀ l o, 1 ≤ l → En E (ex l o [⟨4, [], E⟩])) : ∀ m o, En E (singleT ex m o [⟨4, [], E⟩])
  | 0, _ => trivial
  | m + 1, o => by
    unfold singleT
    rw [end_is (by decide), if_neg Bool.false_ne_true, end_is (by decide), if_neg Bool.false_ne_true, end_is (by decide), if_neg Bool.false_ne_true, end_is (by decide), if_neg Bool.false_ne_true]
    rw [if_neg (show ¬ (hdT [⟨4, [], E⟩]).kind = 2 from (by decide : ¬ (4 : Nat) = 2))]
    exact named_en h1 _ o
theorem loop_en : ∀ m least e o, 1 ≤ least → En E (loopT ex m least e o [⟨4, [], E⟩])
  | 0, _, _, _, _ => trivial
  | m + 1, least, e, o, hl => by
    unfold loopT
    rw [if_pos (show (opT (hdT [⟨4, [], E⟩]).text).2 < least from Nat.lt_of_lt_of_le (show (opT []).2 < 1 by decide) hl)]
    exact rfl
end
theorem expr_en : ∀ n l o, 1 ≤ l → En E (exT n l o [⟨4, [], E⟩])
  | 0, _, _, _ => trivial
  | n + 1, l, o, hl => (single_en (fun l o hl => expr_en n l o hl) (n + 1) o).bind fun e => loop_en (n + 1) l e o hl
theorem body_en {one : List Tok → PR Sm} (h1 : En E (one [⟨4, [], E⟩])) : ∀ m l, En E (bodyT one m l [⟨4, [], E⟩])
  | 0, _ => trivial
  | m + 1, l => by
    unfold bodyT
    rw [end_is (by decide), if_neg Bool.false_ne_true]
    exact h1.bind fun t => body_en h1 m _
theorem block_en {one : List Tok → PR Sm} (h1 : En E (one [⟨4, [], E⟩])) (m o : Nat) : En E (blockT one m o [⟨4, [], E⟩]) := (enter_en (by decide) o).bind fun _ => body_en h1 m []
theorem tell_en (n : Nat) (op : Int) (o : Nat) : En E (tellT n op o [⟨4, [], E⟩]) := (expr_en n 1 o (Nat.le_refl _)).bind fun _e => rfl
theorem store_en (n o : Nat) : En E (storeT n o [⟨4, [], E⟩]) := by
  unfold storeT
  refine name_en.bind fun s => ?_
  rw [end_is (by decide), if_neg Bool.false_ne_true]
  exact (want_en (by decide)).bind fun _ => (expr_en n 1 o (Nat.le_refl _)).bind fun e => rfl
theorem semi_en {x : PR Sm} (h : En E x) : En E (semiT x) := h.bind fun t => (want_en (by decide)).bind fun _ => rfl
theorem stmt_en : ∀ n o, En E (smT n o [⟨4, [], E⟩])
  | 0, _ => trivial
  | n + 1, o => by
    unfold smT
    rw [end_is (by decide), if_neg Bool.false_ne_true, end_is (by decide), if_neg Bool.false_ne_true, end_is (by decide), if_neg Bool.false_ne_true, end_is (by decide), if_neg Bool.false_ne_true, end_is (by decide), if_neg Bool.false_ne_true, end_is (by decide), if_neg Bool.false_ne_true, end_is (by decide), if_neg Bool.false_ne_true]
    exact semi_en (store_en _ o)
theorem outer_en (n o : Nat) : En E (outerT n o [⟨4, [], E⟩]) := by
  refine (stmt_en n o).bind fun t => ?_
  split
  · exact .inr rfl
  · exact rfl
theorem func_en (n : Nat) : En E (funcT n [⟨4, [], E⟩]) :=
  (want_en (by decide)).bind fun _ => name_en.bind fun s => (several_en name_en n 0).bind fun ps => (block_en (outer_en n 1) n 0).bind fun b => rfl
theorem funcs_en (n : Nat) : ∀ m l, En E (funcsT n m l [⟨4, [], E⟩])
  | 0, _ => trivial
  | m + 1, l => by
    unfold funcsT
    rw [end_is (by decide), if_neg Bool.false_ne_true]
    exact rfl
theorem main_en (n : Nat) : ∀ m l, En E (mainT n m l [⟨4, [], E⟩])
  | 0, _ => trivial
  | _m + 1, _l => rfl

/-- The same is told, or it has come to the end. -/
def Bx (E : Nat) (U : List Tok) (x y : PR α) : Prop := y = .out ∨ match x with
  | .out => True
  | .ok v r => r = [⟨4, [], E⟩] ∨ ∃ r', y = .ok v r' ∧ Be E U r r'
  | .bad p c => p = E ∨ c = 3 ∨ y = .bad p c
theorem En.bx {x : PR α} (h : En E x) (y : PR α) : Bx E U x y := by
  refine .inr ?_
  cases x with
  | out => trivial
  | ok v r => exact .inl h
  | bad p c => exact h.elim .inl (fun h => .inr (.inl h))
theorem Bx.ok {v : α} {r r' : List Tok} (h : Be E U r r') : Bx E U (.ok v r) (.ok v r') := .inr (.inr ⟨r', rfl, h⟩)
theorem Bx.bad {p c : Nat} : Bx E U (.bad p c : PR α) (.bad p c) := .inr (.inr (.inr rfl))
theorem Bx.out_r (x : PR α) : Bx E U x .out := .inl rfl
theorem Bx.out_l (y : PR α) : Bx E U .out y := .inr trivial
theorem Bx.bind {x y : PR α} {f g : α → List Tok → PR β} (h : Bx E U x y) (he : ∀ v, En E (f v [⟨4, [], E⟩])) (hf : ∀ v r r', Be E U r r' → Bx E U (f v r) (g v r')) : Bx E U (x.bind f) (y.bind g) := by
  rcases h with rfl | h
  · exact .inl rfl
  · cases x with
    | out => exact .inr trivial
    | ok v r =>
      rcases h with rfl | ⟨r', rfl, h⟩
      · exact (he v).bx _
      · exact hf v r r' h
    | bad p c =>
      rcases h with h | h | rfl
      · exact .inr (.inl h)
      · exact .inr (.inr (.inl h))
      · exact .inr (.inr (.inr rfl))
/-- Two tokens' lists of which one is a beginning: at the end, or of one first token. -/
theorem Be.cases' {ts us : List Tok} (h : Be E U ts us) : ts = [⟨4, [], E⟩] ∨ hdT us = hdT ts := by cases h with
  | fin => exact .inl rfl
  | cons => exact .inr rfl
theorem want_be {s : List UInt8} (hs : s ≠ []) {ts us : List Tok} (h : Be E U ts us) : Bx E U (wantT s ts) (wantT s us) := by
  rcases h.cases' with rfl | e
  · exact (want_en hs).bx _
  · unfold wantT
    rw [show isT us s = isT ts s by unfold isT; rw [e], e]
    split
    · exact .ok (h.tail' (by assumption) hs)
    · exact .bad
theorem enter_be {s : List UInt8} (hs : s ≠ []) (o : Nat) {ts us : List Tok} (h : Be E U ts us) : Bx E U (enterT s o ts) (enterT s o us) := by
  rcases h.cases' with rfl | e
  · exact (enter_en hs o).bx _
  · unfold enterT
    rw [show isT us s = isT ts s by unfold isT; rw [e], e]
    split
    · split
      · exact .bad
      · exact .ok (h.tail' (by assumption) hs)
    · exact .bad
theorem name_be {ts us : List Tok} (h : Be E U ts us) : Bx E U (nameT ts) (nameT us) := by
  rcases h.cases' with rfl | e
  · exact name_en.bx _
  · unfold nameT
    rw [e]
    split
    · rename_i hn
      refine .ok (h.tail (.inr ?_))
      intro e
      rw [e] at hn
      exact absurd hn (by decide)
    · exact .bad
theorem num_be (a b : Int) {ts us : List Tok} (h : Be E U ts us) : Bx E U (numT a b ts) (numT a b us) := by
  rcases h.cases' with rfl | e
  · exact (num_en a b).bx _
  · unfold numT
    rw [e]
    split
    · split
      · split
        · exact .bad
        · exact .ok (h.tail (.inl (by omega)))
      · exact .bad
    · exact .bad
theorem more_be {one one' : List Tok → PR α} (h0 : En E (one [⟨4, [], E⟩])) (h1 : ∀ ts us : List Tok, Be E U ts us → Bx E U (one ts) (one' us)) : ∀ m m' l (ts us : List Tok), Be E U ts us → Bx E U (moreT one m l ts) (moreT one' m' l us)
  | 0, _, _, _, _, _ => .out_l _
  | m + 1, 0, l, ts, us, h => .out_r _
  | m + 1, m' + 1, l, ts, us, h => by
    rcases h.cases' with rfl | e
    · exact (more_en _ _).bx _
    · unfold moreT
      rw [show isT us [44] = isT ts [44] by unfold isT; rw [e]]
      split
      · have ht := h.tail' (s := [44]) (by assumption) (by decide)
        split
        · rcases ht.cases' with e2 | e2
          · rw [e2]; exact .inr (.inl rfl)
          · rw [e2]; exact .bad
        · exact (h1 _ _ ht).bind (fun v => more_en m _) fun x r r' hr => more_be h0 h1 m m' _ r r' hr
      · exact (want_be (by decide) h).bind (fun _ => rfl) fun _ r r' hr => .ok hr
theorem several_be {one one' : List Tok → PR α} (h0 : En E (one [⟨4, [], E⟩])) (h1 : ∀ ts us : List Tok, Be E U ts us → Bx E U (one ts) (one' us)) (m m' o : Nat) {ts us : List Tok} (h : Be E U ts us) : Bx E U (severalT one m o ts) (severalT one' m' o us) := by
  have hE : En E (severalT one m o [⟨4, [], E⟩]) := several_en h0 m o
  unfold severalT
  refine (enter_be (by decide) o h).bind (fun _ => ?_) fun _ r r' hr => ?_
  · rw [end_is (by decide), if_neg Bool.false_ne_true]
    exact h0.bind fun x => more_en m _
  · rcases hr.cases' with rfl | e
    · rw [end_is (by decide), if_neg Bool.false_ne_true]
      exact (h0.bind fun x => more_en m _).bx _
    · rw [show isT r' [41] = isT r [41] by unfold isT; rw [e]]
      split
      · exact (want_be (by decide) hr).bind (fun _ => rfl) fun _ r r' hr => .ok hr
      · exact (h1 _ _ hr).bind (fun x => more_en m _) fun x r r' hr => more_be h0 h1 m m' _ r r' hr
section
variable {ex ex' : Nat → Nat → List Tok → PR Ex}
theorem within_be (h0 : ∀ l o, 1 ≤ l → En E (ex l o [⟨4, [], E⟩])) (h1 : ∀ l o (ts us : List Tok), 1 ≤ l → Be E U ts us → Bx E U (ex l o ts) (ex' l o us)) {a b : List UInt8} (ha : a ≠ []) (hb : b ≠ []) (o : Nat) {ts us : List Tok} (h : Be E U ts us) : Bx E U (withinT ex a b o ts) (withinT ex' a b o us) :=
  (enter_be ha o h).bind (fun _ => (h0 1 (o + 1) (Nat.le_refl _)).bind fun _ => (want_en hb).bind fun _ => rfl) fun _ r r' hr => (h1 1 (o + 1) r r' (Nat.le_refl _) hr).bind (fun _ => (want_en hb).bind fun _ => rfl) fun _ _r _r' hr => (want_be hb hr).bind (fun _ => rfl) fun _ _ _ hr => .ok hr
theorem named_be (h0 : ∀ l o, 1 ≤ l → En E (ex l o [⟨4, [], E⟩])) (h1 : ∀ l o (ts us : List Tok), 1 ≤ l → Be E U ts us → Bx E U (ex l o ts) (ex' l o us)) (m m' o : Nat) {ts us : List Tok} (h : Be E U ts us) : Bx E U (namedT ex m o ts) (namedT ex' m' o us) := by
  unfold namedT
  refine (name_be h).bind (fun s => ?_) fun s r r' hr => ?_
  · rw [end_is (by decide), if_neg Bool.false_ne_true, end_is (by decide), if_neg Bool.false_ne_true]
    exact rfl
  · rcases hr.cases' with rfl | e
    · rw [end_is (by decide), if_neg Bool.false_ne_true, end_is (by decide), if_neg Bool.false_ne_true]
      exact .inr (.inl rfl)
    · rw [show isT r' [91] = isT r [91] by unfold isT; rw [e], show isT r' [40] = isT r [40] by unfold isT; rw [e]]
      split
      · exact (within_be h0 h1 (by decide) (by decide) o hr).bind (fun _ => rfl) fun e r r' hr => .ok hr
      · split
        · exact (several_be (h0 1 (o + 1) (Nat.le_refl _)) (fun ts us h => h1 1 (o + 1) ts us (Nat.le_refl _) h) m m' o hr).bind (fun _ => rfl) fun l r r' hr => .ok hr
        · exact .ok hr
theorem single_be (h0 : ∀ l o, 1 ≤ l → En E (ex l o [⟨4, [], E⟩])) (h1 : ∀ l o (ts us : List Tok), 1 ≤ l → Be E U ts us → Bx E U (ex l o ts) (ex' l o us)) : ∀ m m' o (ts us : List Tok), Be E U ts us → Bx E U (singleT ex m o ts) (singleT ex' m' o us)
  | 0, _, _, _, _, _ => .out_l _
  | m + 1, 0, _, _, _, _ => .out_r _
  | m + 1, m' + 1, o, ts, us, h => by
    rcases h.cases' with rfl | e
    · exact (single_en h0 _ _).bx _
    · have ei : ∀ s, isT us s = isT ts s := fun s => by unfold isT; rw [e]
      unfold singleT
      rw [ei, ei, ei, ei, e]
      split
      · exact (enter_be (by decide) o h).bind (fun _ => (single_en h0 m _).bind fun _ => rfl) fun _ r r' hr => (single_be h0 h1 m m' _ r r' hr).bind (fun _ => rfl) fun e r r' hr => .ok hr
      · split
        · exact (enter_be (by decide) o h).bind (fun _ => (single_en h0 m _).bind fun _ => rfl) fun _ r r' hr => (single_be h0 h1 m m' _ r r' hr).bind (fun _ => rfl) fun e r r' hr => .ok hr
        · split
          · exact within_be h0 h1 (by decide) (by decide) o h
          · split
            · exact .ok (h.tail' (by assumption) (by decide))
            · split
              · exact (num_be _ _ h).bind (fun _ => rfl) fun n r r' hr => .ok hr
              · exact named_be h0 h1 _ _ o h
theorem loop_be (h0 : ∀ l o, 1 ≤ l → En E (ex l o [⟨4, [], E⟩])) (h1 : ∀ l o (ts us : List Tok), 1 ≤ l → Be E U ts us → Bx E U (ex l o ts) (ex' l o us)) : ∀ m m' least e o (ts us : List Tok), 1 ≤ least → Be E U ts us → Bx E U (loopT ex m least e o ts) (loopT ex' m' least e o us)
  | 0, _, _, _, _, _, _, _, _ => .out_l _
  | m + 1, 0, _, _, _, _, _, _, _ => .out_r _
  | m + 1, m' + 1, least, e, o, ts, us, hl, h => by
    rcases h.cases' with rfl | eq
    · exact (loop_en _ _ _ _ hl).bx _
    · unfold loopT
      rw [eq]
      split
      · exact .ok h
      · rename_i hop
        exact (h1 _ o _ _ (by omega) (h.tail (.inr (op_ne hl hop)))).bind (fun _ => loop_en m least _ o hl) fun e2 r r' hr => loop_be h0 h1 m m' least _ o r r' hl hr
end
theorem expr_be : ∀ n n' l o (ts us : List Tok), 1 ≤ l → Be E U ts us → Bx E U (exT n l o ts) (exT n' l o us)
  | 0, _, _, _, _, _, _, _ => .out_l _
  | _n + 1, 0, _, _, _, _, _, _ => .out_r _
  | n + 1, n' + 1, l, o, ts, us, hl, h =>
    (single_be (fun l o hl => expr_en n l o hl) (fun l o ts us hl h => expr_be n n' l o ts us hl h) (n + 1) (n' + 1) o ts us h).bind (fun _e => loop_en _ _ _ _ hl) fun e r r' hr => loop_be (fun l o hl => expr_en n l o hl) (fun l o ts us hl h => expr_be n n' l o ts us hl h) (n + 1) (n' + 1) l e o r r' hl hr

end
end Go.Proofs.Ytmpdnikabkandaa
