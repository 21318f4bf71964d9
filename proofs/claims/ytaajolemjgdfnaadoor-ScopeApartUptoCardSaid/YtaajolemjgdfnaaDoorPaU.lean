/-
  Package parse, plain: what is read leaves fewer tokens, and the count of steps is enough.
-/
import Derived.Test.YtaajolemjgdfnaaDoorPaP
namespace Go.Proofs.YtaajolemjgdfnaaDoor
open Go
section
variable {α β : Type}
/-- What is left is no longer than k. -/
def Lq (k : Nat) (x : PR α) : Prop := match x with | .ok _ r => r.length ≤ k | .bad _ _ => True | .out => True
/-- It is told, and what is left is shorter than k. -/
def Fn' (k : Nat) (x : PR α) : Prop := match x with | .ok _ r => r.length < k | .bad _ _ => True | .out => False
theorem Lq.bind {k : Nat} {x : PR α} {f : α → List Tok → PR β} (h : Lq k x) (hf : ∀ v r, r.length ≤ k → Lq k (f v r)) : Lq k (x.bind f) := by
  cases x with
  | ok v r => exact hf v r h
  | bad p c => trivial
  | out => trivial
theorem Lq.mono {j k : Nat} {x : PR α} (h : Lq j x) (hk : j ≤ k) : Lq k x := by
  cases x with
  | ok v r => exact Nat.le_trans h hk
  | bad p c => trivial
  | out => trivial
theorem Fn'.bind {k : Nat} {x : PR α} {f : α → List Tok → PR β} (h : Fn' k x) (hf : ∀ v r, r.length < k → Fn' k (f v r)) : Fn' k (x.bind f) := by
  cases x with
  | ok v r => exact hf v r h
  | bad p c => trivial
  | out => exact h
theorem Fn'.mono {j k : Nat} {x : PR α} (h : Fn' j x) (hk : j ≤ k) : Fn' k x := by
  cases x with
  | ok v r => exact Nat.lt_of_lt_of_le h hk
  | bad p c => trivial
  | out => exact h
theorem Fn'.ne {k : Nat} {x : PR α} (h : Fn' k x) : x ≠ .out := by rintro rfl; exact h
theorem Fn'.le {k : Nat} {x : PR α} (h : Fn' k x) : Lq k x := by
  cases x with
  | ok v r => exact Nat.le_of_lt h
  | bad p c => trivial
  | out => trivial

theorem tail_lt {ts : List Tok} (h : ts ≠ []) : ts.tail.length < ts.length := by
  cases ts with
  | nil => exact absurd rfl h
  | cons t r => simp
theorem ts_ne {ts : List Tok} {s : List UInt8} (h : isT ts s = true) (hs : s ≠ []) : ts ≠ [] := by
  rintro rfl
  exact hs (of_decide_eq_true h).symm
theorem want_lq (s : List UInt8) (ts : List Tok) : Lq ts.length (wantT s ts) := by
  unfold wantT
  split
  · simp [Lq]
  · trivial
theorem enter_lq (s : List UInt8) (o : Nat) (ts : List Tok) : Lq ts.length (enterT s o ts) := by
  unfold enterT
  split
  · split
    · trivial
    · simp [Lq]
  · trivial
theorem name_lq (ts : List Tok) : Lq ts.length (nameT ts) := by
  unfold nameT
  split
  · simp [Lq]
  · trivial
theorem num_lq (a b : Int) (ts : List Tok) : Lq ts.length (numT a b ts) := by
  unfold numT
  split
  · split
    · split
      · trivial
      · simp [Lq]
    · trivial
  · trivial
theorem want_fn {s : List UInt8} (hs : s ≠ []) (ts : List Tok) : Fn' ts.length (wantT s ts) := by
  unfold wantT
  split
  · exact tail_lt (ts_ne (by assumption) hs)
  · trivial
theorem enter_fn {s : List UInt8} (hs : s ≠ []) (o : Nat) (ts : List Tok) : Fn' ts.length (enterT s o ts) := by
  unfold enterT
  split
  · split
    · trivial
    · exact tail_lt (ts_ne (by assumption) hs)
  · trivial
theorem name_fn (ts : List Tok) : Fn' ts.length (nameT ts) := by
  unfold nameT
  split
  · rename_i h
    refine tail_lt ?_
    rintro rfl
    revert h
    decide
  · trivial
theorem num_fn (a b : Int) (ts : List Tok) : Fn' ts.length (numT a b ts) := by
  unfold numT
  split
  · rename_i h
    have hne : ts ≠ [] := by
      rintro rfl
      simp [hdT] at h
    split
    · split
      · trivial
      · exact tail_lt hne
    · trivial
  · trivial

theorem more_lq {one : List Tok → PR α} (h1 : ∀ ts, Lq ts.length (one ts)) : ∀ m l ts, Lq ts.length (moreT one m l ts)
  | 0, _, _ => trivial
  | m + 1, l, ts => by
    unfold moreT
    split
    · split
      · trivial
      · refine ((h1 ts.tail).mono (by simp)).bind fun x r hr => (more_lq h1 m _ r).mono hr
    · exact (want_lq _ ts).bind fun _ r hr => hr
theorem several_lq {one : List Tok → PR α} (h1 : ∀ ts, Lq ts.length (one ts)) (m o : Nat) (ts : List Tok) : Lq ts.length (severalT one m o ts) := by
  unfold severalT
  refine (enter_lq _ o ts).bind fun _ r hr => ?_
  split
  · exact ((want_lq _ r).mono hr).bind fun _ r hr => hr
  · exact ((h1 r).mono hr).bind fun x r hr => (more_lq h1 m _ r).mono hr
theorem more_fn {one : List Tok → PR α} : ∀ m l (ts : List Tok), ts.length < m → (∀ r : List Tok, r.length < ts.length → Fn' r.length (one r)) → Fn' ts.length (moreT one m l ts)
  | 0, _, _, hm, _ => absurd hm (by omega)
  | m + 1, l, ts, hm, h1 => by
    unfold moreT
    split
    · rename_i hi
      have ht := tail_lt (ts_ne hi (by decide))
      split
      · trivial
      · refine ((h1 ts.tail ht).mono (by omega)).bind fun x r hr => (more_fn m _ r (by omega) fun r' h' => h1 r' (by omega)).mono (by omega)
    · exact (want_fn (by decide) ts).bind fun _ r hr => hr
theorem several_fn {one : List Tok → PR α} (m o : Nat) (ts : List Tok) (hm : ts.length ≤ m) (h1 : ∀ r : List Tok, r.length < ts.length → Fn' r.length (one r)) : Fn' ts.length (severalT one m o ts) := by
  unfold severalT
  refine (enter_fn (by decide) o ts).bind fun _ r hr => ?_
  split
  · exact ((want_fn (by decide) r).mono (by omega)).bind fun _ r hr => hr
  · exact ((h1 r hr).mono (by omega)).bind fun x r hr => (more_fn m _ r (by omega) fun r' h' => h1 r' (by omega)).mono (by omega)
end

section
variable {ex : Nat → Nat → List Tok → PR Ex}
theorem within_lq (h1 : ∀ l o ts, Lq ts.length (ex l o ts)) (a b : List UInt8) (o : Nat) (ts : List Tok) : Lq ts.length (withinT ex a b o ts) :=
  (enter_lq a o ts).bind fun _ r hr => ((h1 1 (o + 1) r).mono hr).bind fun _ r hr => ((want_lq b r).mono hr).bind fun _ _ hr => hr
theorem named_lq (h1 : ∀ l o ts, Lq ts.length (ex l o ts)) (m o : Nat) (ts : List Tok) : Lq ts.length (namedT ex m o ts) := by
  unfold namedT
  refine (name_lq ts).bind fun s r hr => ?_
  split
  · exact ((within_lq h1 _ _ o r).mono hr).bind fun _ _ hr => hr
  · split
    · exact ((several_lq (h1 1 (o + 1)) m o r).mono hr).bind fun _ _ hr => hr
    · exact hr
theorem single_lq (h1 : ∀ l o ts, Lq ts.length (ex l o ts)) : ∀ m o ts, Lq ts.length (singleT ex m o ts)
  | 0, _, _ => trivial
  | m + 1, o, ts => by
    unfold singleT
    split
    · exact (enter_lq _ o ts).bind fun _ r hr => ((single_lq h1 m _ r).mono hr).bind fun _ _ hr => hr
    · split
      · exact (enter_lq _ o ts).bind fun _ r hr => ((single_lq h1 m _ r).mono hr).bind fun _ _ hr => hr
      · split
        · exact within_lq h1 _ _ o ts
        · split
          · simp [Lq]
          · split
            · exact (num_lq _ _ ts).bind fun _ _ hr => hr
            · exact named_lq h1 _ o ts
theorem loop_lq (h1 : ∀ l o ts, Lq ts.length (ex l o ts)) : ∀ m least e o ts, Lq ts.length (loopT ex m least e o ts)
  | 0, _, _, _, _ => trivial
  | m + 1, least, e, o, ts => by
    unfold loopT
    split
    · exact Nat.le_refl _
    · exact ((h1 _ o ts.tail).mono (by simp)).bind fun _ r hr => (loop_lq h1 m _ _ o r).mono hr
theorem within_fn (a b : List UInt8) (ha : a ≠ []) (hb : b ≠ []) (o : Nat) (ts : List Tok) (h1 : ∀ l o (r : List Tok), 1 ≤ l → r.length < ts.length → Fn' r.length (ex l o r)) : Fn' ts.length (withinT ex a b o ts) :=
  (enter_fn ha o ts).bind fun _ r hr => ((h1 1 (o + 1) r (Nat.le_refl _) hr).mono (by omega)).bind fun _ r hr => ((want_fn hb r).mono (by omega)).bind fun _ _ hr => hr
theorem named_fn (m o : Nat) (ts : List Tok) (hm : ts.length ≤ m) (h1 : ∀ l o (r : List Tok), 1 ≤ l → r.length < ts.length → Fn' r.length (ex l o r)) : Fn' ts.length (namedT ex m o ts) := by
  unfold namedT
  refine (name_fn ts).bind fun s r hr => ?_
  split
  · exact ((within_fn [91] [93] (by decide) (by decide) o r fun l o r' hl h' => h1 l o r' hl (by omega)).mono (by omega)).bind fun _ _ hr => hr
  · split
    · exact ((several_fn m o r (by omega) fun r' h' => h1 1 (o + 1) r' (Nat.le_refl _) (by omega)).mono (by omega)).bind fun _ _ hr => hr
    · exact hr
theorem single_fn : ∀ m o (ts : List Tok), ts.length < m → (∀ l o (r : List Tok), 1 ≤ l → r.length < ts.length → Fn' r.length (ex l o r)) → Fn' ts.length (singleT ex m o ts)
  | 0, _, _, hm, _ => absurd hm (by omega)
  | m + 1, o, ts, hm, h1 => by
    unfold singleT
    split
    · exact (enter_fn (by decide) o ts).bind fun _ r hr => ((single_fn m _ r (by omega) fun l o r' hl h' => h1 l o r' hl (by omega)).mono (by omega)).bind fun _ _ hr => hr
    · split
      · exact (enter_fn (by decide) o ts).bind fun _ r hr => ((single_fn m _ r (by omega) fun l o r' hl h' => h1 l o r' hl (by omega)).mono (by omega)).bind fun _ _ hr => hr
      · split
        · exact within_fn [40] [41] (by decide) (by decide) o ts h1
        · split
          · exact tail_lt (ts_ne (ts := ts) (by assumption) (by decide))
          · split
            · exact (num_fn _ _ ts).bind fun _ _ hr => hr
            · exact named_fn _ o ts (by omega) h1
theorem loop_fn : ∀ m least e o (ts : List Tok), ts.length < m → 1 ≤ least → (∀ l o (r : List Tok), 1 ≤ l → r.length < ts.length → Fn' r.length (ex l o r)) → Fn' (ts.length + 1) (loopT ex m least e o ts)
  | 0, _, _, _, _, hm, _, _ => absurd hm (by omega)
  | m + 1, least, e, o, ts, hm, hl, h1 => by
    unfold loopT
    split
    · exact Nat.lt_succ_self _
    · rename_i hn
      have ht := tail_lt (ts := ts) (by
        rintro rfl
        refine hn (Nat.lt_of_lt_of_le ?_ hl)
        decide)
      exact ((h1 _ o ts.tail (by omega) ht).bind fun _ r hr => ((loop_fn m least _ o r (by omega) hl fun l o r' hl h' => h1 l o r' hl (by omega)).mono (by omega))).mono (by omega)
end

/-- An expression leaves fewer tokens. -/
theorem expr_lq : ∀ n l o ts, Lq ts.length (exT n l o ts)
  | 0, _, _, _ => trivial
  | n + 1, l, o, ts => (single_lq (expr_lq n) (n + 1) o ts).bind fun _ r hr => (loop_lq (expr_lq n) (n + 1) l _ o r).mono hr
theorem expr_fn : ∀ n l o (ts : List Tok), 1 ≤ l → ts.length < n → Fn' ts.length (exT n l o ts)
  | 0, _, _, _, _, hn => absurd hn (by omega)
  | n + 1, l, o, ts, hl, hn =>
    (single_fn (n + 1) o ts hn fun l o r hl hr => expr_fn n l o r hl (by omega)).bind fun _ r hr =>
      (loop_fn (n + 1) l _ o r (by omega) hl fun l o r' hl h' => expr_fn n l o r' hl (by omega)).mono (by omega)
theorem expr_left {n l o : Nat} {ts : List Tok} {v : Ex} {r : List Tok} (h : exT n l o ts = .ok v r) : r.length ≤ ts.length := by
  have h1 := expr_lq n l o ts
  rw [h] at h1
  exact h1

theorem body_fn {one : List Tok → PR Sm} : ∀ m l (ts : List Tok), ts.length < m → (∀ r : List Tok, r.length ≤ ts.length → Fn' r.length (one r)) → Fn' ts.length (bodyT one m l ts)
  | 0, _, _, hm, _ => absurd hm (by omega)
  | m + 1, l, ts, hm, h1 => by
    unfold bodyT
    split
    · exact (want_fn (by decide) ts).bind fun _ _ hr => hr
    · exact (h1 ts (Nat.le_refl _)).bind fun t r hr => (body_fn m _ r (by omega) fun r' h' => h1 r' (by omega)).mono (by omega)
theorem block_fn {one : List Tok → PR Sm} (m o : Nat) (ts : List Tok) (hm : ts.length ≤ m) (h1 : ∀ r : List Tok, r.length < ts.length → Fn' r.length (one r)) : Fn' ts.length (blockT one m o ts) :=
  (enter_fn (by decide) o ts).bind fun _ r hr => (body_fn m [] r (by omega) fun r' h' => h1 r' (by omega)).mono (by omega)
theorem tell_fn (n : Nat) (op : Int) (o : Nat) (ts : List Tok) (hn : ts.length < n) : Fn' ts.length (tellT n op o ts) :=
  (expr_fn n 1 o ts (Nat.le_refl _) hn).bind fun _ _ hr => hr
theorem store_fn (n o : Nat) (ts : List Tok) (hn : ts.length ≤ n) : Fn' ts.length (storeT n o ts) := by
  unfold storeT
  refine (name_fn ts).bind fun s r hr => ?_
  split
  · exact ((within_fn [91] [93] (by decide) (by decide) o r fun l o r' hl h' => expr_fn n l o r' hl (by omega)).mono (by omega)).bind fun _ r hr =>
      ((want_fn (by decide) r).mono (by omega)).bind fun _ r hr => ((expr_fn n 1 o r (Nat.le_refl _) (by omega)).mono (by omega)).bind fun _ _ hr => hr
  · exact ((want_fn (by decide) r).mono (by omega)).bind fun _ r hr => ((expr_fn n 1 o r (Nat.le_refl _) (by omega)).mono (by omega)).bind fun _ _ hr => hr
theorem semi_fn {k : Nat} {x : PR Sm} (h : Fn' k x) : Fn' k (semiT x) := h.bind fun t r hr => ((want_fn (by decide) r).mono (by omega)).bind fun _ _ hr => hr
theorem stmt_fn : ∀ n o (ts : List Tok), ts.length < n → Fn' ts.length (smT n o ts)
  | 0, _, _, hn => absurd hn (by omega)
  | n + 1, o, ts, hn => by
    unfold smT
    split
    · have ht := tail_lt (ts_ne (ts := ts) (by assumption) (by decide))
      exact semi_fn (((name_fn ts.tail).mono (by omega)).bind fun s r hr => ((num_fn 1 4096 r).mono (by omega)).bind fun _ _ hr => hr)
    · split
      · have ht := tail_lt (ts_ne (ts := ts) (by assumption) (by decide))
        exact semi_fn (((name_fn ts.tail).mono (by omega)).bind fun s r hr => hr)
      · split
        · have ht := tail_lt (ts_ne (ts := ts) (by assumption) (by decide))
          exact semi_fn ((tell_fn (n + 1) 5 o ts.tail (by omega)).mono (by omega))
        · split
          · have ht := tail_lt (ts_ne (ts := ts) (by assumption) (by decide))
            exact semi_fn ((tell_fn (n + 1) 6 o ts.tail (by omega)).mono (by omega))
          · split
            · have ht := tail_lt (ts_ne (ts := ts) (by assumption) (by decide))
              exact semi_fn ((tell_fn (n + 1) 9 o ts.tail (by omega)).mono (by omega))
            · split
              · have ht := tail_lt (ts_ne (ts := ts) (by assumption) (by decide))
                refine ((tell_fn (n + 1) 7 o ts.tail (by omega)).mono (by omega)).bind fun t r hr => ?_
                refine ((block_fn (n + 1) o r (by omega) fun r' h' => stmt_fn n (o + 1) r' (by omega)).mono (by omega)).bind fun b r hr => ?_
                split
                · have ht2 := tail_lt (ts_ne (ts := r) (by assumption) (by decide))
                  exact ((block_fn (n + 1) o r.tail (by omega) fun r' h' => stmt_fn n (o + 1) r' (by omega)).mono (by omega)).bind fun _ _ hr => hr
                · exact hr
              · split
                · have ht := tail_lt (ts_ne (ts := ts) (by assumption) (by decide))
                  refine ((tell_fn (n + 1) 8 o ts.tail (by omega)).mono (by omega)).bind fun t r hr => ?_
                  exact ((block_fn (n + 1) o r (by omega) fun r' h' => stmt_fn n (o + 1) r' (by omega)).mono (by omega)).bind fun b r hr => hr
                · exact semi_fn (store_fn (n + 1) o ts (by omega))
theorem outer_fn (n o : Nat) (ts : List Tok) (hn : ts.length < n) : Fn' ts.length (outerT n o ts) := by
  refine (stmt_fn n o ts hn).bind fun t r hr => ?_
  split
  · trivial
  · exact hr
theorem func_fn (n : Nat) (ts : List Tok) (hn : ts.length ≤ n) : Fn' ts.length (funcT n ts) :=
  (want_fn (by decide) ts).bind fun _ r hr => ((name_fn r).mono (by omega)).bind fun s r hr =>
    ((several_fn n 0 r (by omega) fun r' _ => name_fn r').mono (by omega)).bind fun ps r hr =>
      ((block_fn n 0 r (by omega) fun r' h' => outer_fn n 1 r' (by omega)).mono (by omega)).bind fun b r hr => hr
theorem funcs_fn (n : Nat) : ∀ m l (ts : List Tok), ts.length < m → ts.length ≤ n → Fn' (ts.length + 1) (funcsT n m l ts)
  | 0, _, _, hm, _ => absurd hm (by omega)
  | m + 1, l, ts, hm, hn => by
    unfold funcsT
    split
    · split
      · trivial
      · exact ((func_fn n ts hn).bind (k := ts.length) fun f r hr => (funcs_fn n m _ r (by omega) (by omega)).mono (by omega)).mono (by omega)
    · exact Nat.lt_succ_self _
theorem main_fn (n : Nat) : ∀ m l (ts : List Tok), ts.length < m → ts.length < n → Fn' (ts.length + 1) (mainT n m l ts)
  | 0, _, _, hm, _ => absurd hm (by omega)
  | m + 1, l, ts, hm, hn => by
    unfold mainT
    split
    · exact Nat.lt_succ_self _
    · exact ((outer_fn n 0 ts hn).bind (k := ts.length) fun t r hr => (main_fn n m _ r (by omega) (by omega)).mono (by omega)).mono (by omega)
/-- A program: the count of steps is enough when it is above the number of tokens. -/
theorem prog_fn (n : Nat) (ts : List Tok) (hn : ts.length < n) : progT n ts ≠ .out :=
  Fn'.ne (k := ts.length + 1) ((funcs_fn n n [] ts hn (by omega)).bind fun fs r hr => ((main_fn n n [] r (by omega) (by omega)).mono (by omega)).bind fun _ _ hr => hr)

end Go.Proofs.YtaajolemjgdfnaaDoor
