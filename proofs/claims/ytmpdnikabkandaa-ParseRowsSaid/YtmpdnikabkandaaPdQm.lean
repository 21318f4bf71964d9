/-
  Package parse, plain: what is wrong is told at a place that is there, and by one of four errors.
-/
import Derived.Test.YtmpdnikabkandaaPq5
namespace Go.Proofs.Ytmpdnikabkandaa
open Go
section
variable {α β : Type}
/-- What is left lies in the bytes; what is wrong lies there. -/
def Ct (N : Nat) (x : PR α) : Prop := match x with
  | .ok _ r => ∀ t ∈ r, t.at_ ≤ N
  | .bad k c => k ≤ N ∧ (c = 1 ∨ c = 2 ∨ c = 3 ∨ c = 10)
  | .out => True
theorem Ct.bind {N : Nat} {x : PR α} {f : α → List Tok → PR β} (h : Ct N x) (hf : ∀ v r, (∀ t ∈ r, t.at_ ≤ N) → Ct N (f v r)) : Ct N (x.bind f) := by
  cases x with
  | ok v r => exact hf v r h
  | bad k c => exact h
  | out => trivial
theorem at_tail {N : Nat} {ts : List Tok} (h : ∀ t ∈ ts, t.at_ ≤ N) : ∀ t ∈ ts.tail, t.at_ ≤ N := fun t ht => h t (List.mem_of_mem_tail ht)
theorem at_head {N : Nat} {ts : List Tok} (h : ∀ t ∈ ts, t.at_ ≤ N) : (hdT ts).at_ ≤ N := by
  cases ts with
  | nil => exact Nat.zero_le _
  | cons t r => exact h t (by simp)
theorem want_ct {N : Nat} (s : List UInt8) {ts : List Tok} (h : ∀ t ∈ ts, t.at_ ≤ N) : Ct N (wantT s ts) := by
  unfold wantT
  split
  · exact at_tail h
  · exact ⟨at_head h, by simp⟩
theorem enter_ct {N : Nat} (s : List UInt8) (o : Nat) {ts : List Tok} (h : ∀ t ∈ ts, t.at_ ≤ N) : Ct N (enterT s o ts) := by
  unfold enterT
  split
  · split
    · exact ⟨at_head h, by simp⟩
    · exact at_tail h
  · exact ⟨at_head h, by simp⟩
theorem name_ct {N : Nat} {ts : List Tok} (h : ∀ t ∈ ts, t.at_ ≤ N) : Ct N (nameT ts) := by
  unfold nameT
  split
  · exact at_tail h
  · exact ⟨at_head h, by simp⟩
theorem num_ct {N : Nat} (a b : Int) {ts : List Tok} (h : ∀ t ∈ ts, t.at_ ≤ N) : Ct N (numT a b ts) := by
  unfold numT
  split
  · split
    · split
      · exact ⟨at_head h, by simp⟩
      · exact at_tail h
    · exact ⟨at_head h, by simp⟩
  · exact ⟨at_head h, by simp⟩
theorem more_ct {N : Nat} {one : List Tok → PR α} (h1 : ∀ ts : List Tok, (∀ t ∈ ts, t.at_ ≤ N) → Ct N (one ts)) : ∀ m l (ts : List Tok), (∀ t ∈ ts, t.at_ ≤ N) → Ct N (moreT one m l ts)
  | 0, _, _, _ => trivial
  | m + 1, l, ts, h => by
    unfold moreT
    split
    · split
      · exact ⟨at_head (at_tail h), by simp⟩
      · exact (h1 _ (at_tail h)).bind fun x r hr => more_ct h1 m _ r hr
    · exact (want_ct _ h).bind fun _ r hr => hr
theorem several_ct {N : Nat} {one : List Tok → PR α} (h1 : ∀ ts : List Tok, (∀ t ∈ ts, t.at_ ≤ N) → Ct N (one ts)) (m o : Nat) {ts : List Tok} (h : ∀ t ∈ ts, t.at_ ≤ N) : Ct N (severalT one m o ts) := by
  unfold severalT
  refine (enter_ct _ o h).bind fun _ r hr => ?_
  split
  · exact (want_ct _ hr).bind fun _ r hr => hr
  · exact (h1 r hr).bind fun x r hr => more_ct h1 m _ r hr
end
section
variable {N : Nat} {ex : Nat → Nat → List Tok → PR Ex}
theorem within_ct (h1 : ∀ l o (ts : List Tok), (∀ t ∈ ts, t.at_ ≤ N) → Ct N (ex l o ts)) (a b : List UInt8) (o : Nat) {ts : List Tok} (h : ∀ t ∈ ts, t.at_ ≤ N) : Ct N (withinT ex a b o ts) :=
  (enter_ct a o h).bind fun _ r hr => (h1 1 (o + 1) r hr).bind fun _ _r hr => (want_ct b hr).bind fun _ _ hr => hr
theorem named_ct (h1 : ∀ l o (ts : List Tok), (∀ t ∈ ts, t.at_ ≤ N) → Ct N (ex l o ts)) (m o : Nat) {ts : List Tok} (h : ∀ t ∈ ts, t.at_ ≤ N) : Ct N (namedT ex m o ts) := by
  unfold namedT
  refine (name_ct h).bind fun s r hr => ?_
  split
  · exact (within_ct h1 _ _ o hr).bind fun e r hr => hr
  · split
    · exact (several_ct (h1 1 (o + 1)) m o hr).bind fun l r hr => hr
    · exact hr
theorem single_ct (h1 : ∀ l o (ts : List Tok), (∀ t ∈ ts, t.at_ ≤ N) → Ct N (ex l o ts)) : ∀ m o (ts : List Tok), (∀ t ∈ ts, t.at_ ≤ N) → Ct N (singleT ex m o ts)
  | 0, _, _, _ => trivial
  | m + 1, o, ts, h => by
    unfold singleT
    split
    · exact (enter_ct _ o h).bind fun _ r hr => (single_ct h1 m _ r hr).bind fun e r hr => hr
    · split
      · exact (enter_ct _ o h).bind fun _ r hr => (single_ct h1 m _ r hr).bind fun e r hr => hr
      · split
        · exact within_ct h1 _ _ o h
        · split
          · exact at_tail h
          · split
            · exact (num_ct _ _ h).bind fun n r hr => hr
            · exact named_ct h1 _ o h
theorem loop_ct (h1 : ∀ l o (ts : List Tok), (∀ t ∈ ts, t.at_ ≤ N) → Ct N (ex l o ts)) : ∀ m least e o (ts : List Tok), (∀ t ∈ ts, t.at_ ≤ N) → Ct N (loopT ex m least e o ts)
  | 0, _, _, _, _, _ => trivial
  | m + 1, least, e, o, ts, h => by
    unfold loopT
    split
    · exact h
    · exact (h1 _ o ts.tail (at_tail h)).bind fun e2 r hr => loop_ct h1 m least _ o r hr
end
theorem expr_ct {N : Nat} : ∀ n l o (ts : List Tok), (∀ t ∈ ts, t.at_ ≤ N) → Ct N (exT n l o ts)
  | 0, _, _, _, _ => trivial
  | n + 1, l, o, ts, h =>
    (single_ct (fun l o ts h => expr_ct n l o ts h) (n + 1) o ts h).bind fun e r hr => loop_ct (fun l o ts h => expr_ct n l o ts h) (n + 1) l e o r hr
theorem body_ct {N : Nat} {one : List Tok → PR Sm} (h1 : ∀ ts : List Tok, (∀ t ∈ ts, t.at_ ≤ N) → Ct N (one ts)) : ∀ m l (ts : List Tok), (∀ t ∈ ts, t.at_ ≤ N) → Ct N (bodyT one m l ts)
  | 0, _, _, _ => trivial
  | m + 1, l, ts, h => by
    unfold bodyT
    split
    · exact (want_ct _ h).bind fun _ r hr => hr
    · exact (h1 _ h).bind fun t r hr => body_ct h1 m _ r hr
theorem block_ct {N : Nat} {one : List Tok → PR Sm} (h1 : ∀ ts : List Tok, (∀ t ∈ ts, t.at_ ≤ N) → Ct N (one ts)) (m o : Nat) {ts : List Tok} (h : ∀ t ∈ ts, t.at_ ≤ N) : Ct N (blockT one m o ts) :=
  (enter_ct _ o h).bind fun _ r hr => body_ct h1 m [] r hr
theorem tell_ct {N : Nat} (n : Nat) (op : Int) (o : Nat) {ts : List Tok} (h : ∀ t ∈ ts, t.at_ ≤ N) : Ct N (tellT n op o ts) :=
  (expr_ct n 1 o ts h).bind fun _e _r hr => hr
theorem semi_ct {N : Nat} {x : PR Sm} (h : Ct N x) : Ct N (semiT x) := h.bind fun _t _r hr => (want_ct _ hr).bind fun _ _r hr => hr
theorem store_ct {N : Nat} (n o : Nat) {ts : List Tok} (h : ∀ t ∈ ts, t.at_ ≤ N) : Ct N (storeT n o ts) := by
  have he : ∀ l o (ts : List Tok), (∀ t ∈ ts, t.at_ ≤ N) → Ct N (exT n l o ts) := fun l o ts h => expr_ct n l o ts h
  unfold storeT
  refine (name_ct h).bind fun s r hr => ?_
  split
  · exact (within_ct he _ _ o hr).bind fun i r hr => (want_ct _ hr).bind fun _ r hr => (he 1 o r hr).bind fun e r hr => hr
  · exact (want_ct _ hr).bind fun _ r hr => (he 1 o r hr).bind fun e r hr => hr
theorem stmt_ct {N : Nat} : ∀ n o (ts : List Tok), (∀ t ∈ ts, t.at_ ≤ N) → Ct N (smT n o ts)
  | 0, _, _, _ => trivial
  | n + 1, o, ts, h => by
    have hb : ∀ m o (ts : List Tok), (∀ t ∈ ts, t.at_ ≤ N) → Ct N (blockT (smT n (o + 1)) m o ts) := fun m o ts h => block_ct (fun ts h => stmt_ct n (o + 1) ts h) m o h
    have ht := at_tail h
    unfold smT
    split
    · exact semi_ct ((name_ct ht).bind fun s r hr => (num_ct _ _ hr).bind fun k r hr => hr)
    · split
      · exact semi_ct ((name_ct ht).bind fun s r hr => hr)
      · split
        · exact semi_ct (tell_ct _ 5 o ht)
        · split
          · exact semi_ct (tell_ct _ 6 o ht)
          · split
            · exact semi_ct (tell_ct _ 9 o ht)
            · split
              · refine (tell_ct _ 7 o ht).bind fun t r hr => (hb _ o r hr).bind fun b r hr => ?_
                split
                · exact (hb _ o _ (at_tail hr)).bind fun c r hr => hr
                · exact hr
              · split
                · exact (tell_ct _ 8 o ht).bind fun t r hr => (hb _ o r hr).bind fun b r hr => hr
                · exact semi_ct (store_ct _ o h)
theorem outer_ct {N : Nat} (n o : Nat) {ts : List Tok} (h : ∀ t ∈ ts, t.at_ ≤ N) : Ct N (outerT n o ts) := by
  refine (stmt_ct n o ts h).bind fun t r hr => ?_
  split
  · exact ⟨at_head h, by simp⟩
  · exact hr
theorem func_ct {N : Nat} (n : Nat) {ts : List Tok} (h : ∀ t ∈ ts, t.at_ ≤ N) : Ct N (funcT n ts) :=
  (want_ct _ h).bind fun _ _r hr => (name_ct hr).bind fun _s _r hr => (several_ct (fun _ts h => name_ct h) n 0 hr).bind fun _ps _r hr => (block_ct (fun _ts h => outer_ct n 1 h) n 0 hr).bind fun _b _r hr => hr
theorem funcs_ct {N : Nat} (n : Nat) : ∀ m l (ts : List Tok), (∀ t ∈ ts, t.at_ ≤ N) → Ct N (funcsT n m l ts)
  | 0, _, _, _ => trivial
  | m + 1, l, ts, h => by
    unfold funcsT
    split
    · split
      · exact ⟨at_head h, by simp⟩
      · exact (func_ct n h).bind fun f r hr => funcs_ct n m _ r hr
    · exact h
theorem main_ct {N : Nat} (n : Nat) : ∀ m l (ts : List Tok), (∀ t ∈ ts, t.at_ ≤ N) → Ct N (mainT n m l ts)
  | 0, _, _, _ => trivial
  | m + 1, l, ts, h => by
    unfold mainT
    split
    · exact h
    · exact (outer_ct n 0 h).bind fun t r hr => main_ct n m _ r hr
theorem tl_ct (l : List UInt8) : Ct l.length (tl l) := by
  unfold tl
  cases h : lexS 0 l with
  | bad p => exact ⟨by have := bad_le l.length 0 l p (Nat.le_refl _) h; omega, by simp⟩
  | ok ts =>
    have h0 : ∀ t ∈ fin ts l.length, t.at_ ≤ l.length := fun t ht => by
      have := placed_all (placed_of h) t ht
      omega
    exact (funcs_ct _ _ [] _ h0).bind fun fs r hr => (main_ct _ _ [] r hr).bind fun m r hr => hr
theorem tl_code {l : List UInt8} {p c : Nat} (h : tl l = .bad p c) : p ≤ l.length ∧ (c = 1 ∨ c = 2 ∨ c = 3 ∨ c = 10) := by
  have := tl_ct l
  rw [h] at this
  exact this
end Go.Proofs.Ytmpdnikabkandaa
