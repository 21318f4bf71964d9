/-
  What parse tells has no more parts than there are tokens. Plain.
-/
import Derived.Test.YtppagjhmlgkamaaGreatDoorCq5
namespace Go.Proofs.YtppagjhmlgkamaaGreatDoor
open Go Go.RowKit

section
variable {α β : Type}
/-- What is told counts no more than the tokens that it took. -/
def Ct (k : Nat) (c : α → Nat) (x : PR α) : Prop := match x with | .ok v r => c v + r.length ≤ k | .bad _ _ => True | .out => True
theorem Ct.bind {j k : Nat} {c : α → Nat} {d : β → Nat} {x : PR α} {f : α → List Tok → PR β} (h : Ct j c x) (hf : ∀ v r, c v + r.length ≤ j → Ct k d (f v r)) : Ct k d (x.bind f) := by
  cases x with
  | ok v r => exact hf v r h
  | bad p c => trivial
  | out => trivial
def c1 {α : Type} (_ : α) : Nat := 1
theorem tail_c {ts : List Tok} (h : ts ≠ []) : ts.tail.length + 1 ≤ ts.length := tail_lt h
theorem want_c {s : List UInt8} (hs : s ≠ []) (ts : List Tok) : Ct ts.length c1 (wantT s ts) := by
  unfold wantT
  split
  · have := tail_c (ts_ne (ts := ts) (by assumption) hs)
    show 1 + ts.tail.length ≤ _
    omega
  · trivial
theorem enter_c {s : List UInt8} (hs : s ≠ []) (o : Nat) (ts : List Tok) : Ct ts.length c1 (enterT s o ts) := by
  unfold enterT
  split
  · split
    · trivial
    · have := tail_c (ts_ne (ts := ts) (by assumption) hs)
      show 1 + ts.tail.length ≤ _
      omega
  · trivial
theorem name_c (ts : List Tok) : Ct ts.length c1 (nameT ts) := by
  have := name_fn ts
  unfold nameT at this ⊢
  split
  · rename_i h
    rw [if_pos h] at this
    have h' : ts.tail.length < ts.length := this
    show 1 + ts.tail.length ≤ _
    omega
  · trivial
theorem num_c (a b : Int) (ts : List Tok) : Ct ts.length c1 (numT a b ts) := by
  have := num_fn a b ts
  cases hx : numT a b ts with
  | ok v r =>
    rw [hx] at this
    have h' : r.length < ts.length := this
    show 1 + r.length ≤ _
    omega
  | bad _ _ => trivial
  | out => trivial

def cL (c : α → Nat) : List α → Nat
  | [] => 0
  | x :: r => c x + cL c r
theorem cL_snoc (c : α → Nat) (x : α) : ∀ l : List α, cL c (l ++ [x]) = cL c l + c x
  | [] => by simp [cL]
  | y :: r => by rw [List.cons_append, cL, cL, cL_snoc c x r]; omega
theorem more_c {c : α → Nat} {one : List Tok → PR α} (h1 : ∀ ts, Ct ts.length c (one ts)) : ∀ m l ts, Ct (cL c l + ts.length) (cL c) (moreT one m l ts)
  | 0, _, _ => trivial
  | m + 1, l, ts => by
    unfold moreT
    split
    · split
      · trivial
      · refine (h1 ts.tail).bind fun x r hr => ?_
        have := more_c h1 m (l ++ [x]) r
        rw [cL_snoc] at this
        cases hx : moreT one m (l ++ [x]) r with
        | ok v z =>
          rw [hx] at this
          have h' : cL c v + z.length ≤ cL c l + c x + r.length := this
          have ht : ts.tail.length ≤ ts.length := by simp
          show cL c v + z.length ≤ _
          omega
        | bad _ _ => trivial
        | out => trivial
    · refine (want_c (by decide) ts).bind fun _ r hr => ?_
      have hr' : 1 + r.length ≤ ts.length := hr
      show cL c l + r.length ≤ _
      omega
theorem several_c {c : α → Nat} {one : List Tok → PR α} (h1 : ∀ ts, Ct ts.length c (one ts)) (m o : Nat) (ts : List Tok) : Ct ts.length (fun l => 1 + cL c l) (severalT one m o ts) := by
  unfold severalT
  refine (enter_c (by decide) o ts).bind fun _ r hr => ?_
  have hr' : 1 + r.length ≤ ts.length := hr
  split
  · refine (want_c (by decide) r).bind fun _ z hz => ?_
    have hz' : 1 + z.length ≤ r.length := hz
    show 1 + 0 + z.length ≤ _
    omega
  · refine (h1 r).bind fun x z hz => ?_
    have := more_c h1 m [x] z
    cases hx : moreT one m [x] z with
    | ok v y =>
      rw [hx] at this
      have h' : cL c v + y.length ≤ c x + 0 + z.length := this
      show 1 + cL c v + y.length ≤ _
      omega
    | bad _ _ => trivial
    | out => trivial
end

def cE (e : Ex) : Nat := 1 + e.l.cnt
theorem exES_cnt : ∀ l : List Ex, (exES l).cnt = cL cE l
  | [] => rfl
  | e :: r => by rw [exES, toES, ES.cnt, exES_cnt r, cL, cE]
section
variable {ex : Nat → Nat → List Tok → PR Ex}
theorem within_c (h1 : ∀ l o ts, 1 ≤ l → Ct ts.length cE (ex l o ts)) (a b : List UInt8) (ha : a ≠ []) (hb : b ≠ []) (o : Nat) (ts : List Tok) : Ct ts.length (fun e => 1 + cE e) (withinT ex a b o ts) :=
  (enter_c ha o ts).bind fun _ r hr => (h1 1 (o + 1) r (Nat.le_refl _)).bind fun e z hz => (want_c hb z).bind fun _ y hy => by
    have a1 : 1 + r.length ≤ ts.length := hr
    have a2 : 1 + y.length ≤ z.length := hy
    show 1 + cE e + y.length ≤ _
    omega
theorem named_c (h1 : ∀ l o ts, 1 ≤ l → Ct ts.length cE (ex l o ts)) (m o : Nat) (ts : List Tok) : Ct ts.length cE (namedT ex m o ts) := by
  unfold namedT
  refine (name_c ts).bind fun s r hr => ?_
  have a1 : 1 + r.length ≤ ts.length := hr
  split
  · refine (within_c h1 _ _ (by decide) (by decide) o r).bind fun e z hz => ?_
    have hz' : 1 + cE e + z.length ≤ r.length := hz
    show 1 + (toES e .nil).cnt + z.length ≤ _
    simp only [toES, ES.cnt]
    unfold cE at hz'
    omega
  · split
    · refine (several_c (fun ts => h1 1 (o + 1) ts (Nat.le_refl _)) m o r).bind fun l z hz => ?_
      have hz' : 1 + cL cE l + z.length ≤ r.length := hz
      show 1 + (exES l).cnt + z.length ≤ _
      rw [exES_cnt]
      omega
    · show 1 + 0 + r.length ≤ _
      omega
theorem single_c (h1 : ∀ l o ts, 1 ≤ l → Ct ts.length cE (ex l o ts)) : ∀ m o ts, Ct ts.length cE (singleT ex m o ts)
  | 0, _, _ => trivial
  | m + 1, o, ts => by
    have neg : ∀ (s : List UInt8) (op : Int), s ≠ [] → Ct ts.length cE ((enterT s o ts).bind fun _ r => (singleT ex m (o + 1) r).bind fun e r => .ok ⟨op, 0, nilS, toES e .nil⟩ r) := fun s op hs =>
      (enter_c hs o ts).bind fun _ r hr => (single_c h1 m _ r).bind fun e z hz => by
        have a1 : 1 + r.length ≤ ts.length := hr
        show 1 + (toES e .nil).cnt + z.length ≤ _
        simp only [toES, ES.cnt]
        unfold cE at hz
        omega
    unfold singleT
    split
    · exact neg _ _ (by decide)
    · split
      · exact neg _ _ (by decide)
      · split
        · have := within_c h1 [40] [41] (by decide) (by decide) o ts
          cases hx : withinT ex [40] [41] o ts with
          | ok v r =>
            rw [hx] at this
            have h' : 1 + cE v + r.length ≤ ts.length := this
            show cE v + r.length ≤ _
            omega
          | bad _ _ => trivial
          | out => trivial
        · split
          · have := tail_c (ts_ne (ts := ts) (by assumption) (by decide))
            show 1 + 0 + ts.tail.length ≤ _
            omega
          · split
            · refine (num_c _ _ ts).bind fun _ r hr => ?_
              have a1 : 1 + r.length ≤ ts.length := hr
              show 1 + 0 + r.length ≤ _
              omega
            · exact named_c h1 _ o ts
theorem loop_c (h1 : ∀ l o ts, 1 ≤ l → Ct ts.length cE (ex l o ts)) : ∀ m least e o ts, 1 ≤ least → Ct (cE e + ts.length) cE (loopT ex m least e o ts)
  | 0, _, _, _, _, _ => trivial
  | m + 1, least, e, o, ts, hl => by
    unfold loopT
    split
    · exact Nat.le_refl _
    · rename_i hn
      have ht := tail_c (ts := ts) (by
        rintro rfl
        refine hn (Nat.lt_of_lt_of_le ?_ hl)
        decide)
      refine (h1 _ o ts.tail (by omega)).bind fun e2 r hr => ?_
      have := loop_c h1 m least ⟨(opT (hdT ts).text).1, 0, nilS, toES e (toES e2 .nil)⟩ o r hl
      cases hx : loopT ex m least ⟨(opT (hdT ts).text).1, 0, nilS, toES e (toES e2 .nil)⟩ o r with
      | ok v z =>
        rw [hx] at this
        have h' : cE v + z.length ≤ 1 + (toES e (toES e2 .nil)).cnt + r.length := this
        show cE v + z.length ≤ _
        simp only [toES, ES.cnt] at h'
        unfold cE at hr ⊢
        unfold cE at h'
        omega
      | bad _ _ => trivial
      | out => trivial
end
theorem expr_c : ∀ n l o ts, 1 ≤ l → Ct ts.length cE (exT n l o ts)
  | 0, _, _, _, _ => trivial
  | n + 1, l, o, ts, hl => (single_c (expr_c n) (n + 1) o ts).bind fun e r hr => by
    have := loop_c (expr_c n) (n + 1) l e o r hl
    cases hx : loopT (exT n) (n + 1) l e o r with
    | ok v z =>
      rw [hx] at this
      have h' : cE v + z.length ≤ cE e + r.length := this
      show cE v + z.length ≤ _
      omega
    | bad _ _ => trivial
    | out => trivial

def cS (t : Sm) : Nat := 1 + (t.l.cnt + (t.x.cnt + t.y.cnt))
theorem smSS_cnt : ∀ l : List Sm, (smSS l).cnt = cL cS l
  | [] => rfl
  | t :: r => by rw [smSS, toSS, SS.cnt, smSS_cnt r, cL, cS]
theorem one_cnt (e : Ex) : (toES e .nil).cnt = cE e := by simp only [toES, ES.cnt, cE]; omega
theorem body_c {one : List Tok → PR Sm} (h1 : ∀ ts, Ct ts.length cS (one ts)) : ∀ m l ts, Ct (cL cS l + ts.length) (cL cS) (bodyT one m l ts)
  | 0, _, _ => trivial
  | m + 1, l, ts => by
    unfold bodyT
    split
    · refine (want_c (by decide) ts).bind fun _ r hr => ?_
      have hr' : 1 + r.length ≤ ts.length := hr
      show cL cS l + r.length ≤ _
      omega
    · refine (h1 ts).bind fun x r hr => ?_
      have := body_c h1 m (l ++ [x]) r
      rw [cL_snoc] at this
      cases hx : bodyT one m (l ++ [x]) r with
      | ok v z =>
        rw [hx] at this
        have h' : cL cS v + z.length ≤ cL cS l + cS x + r.length := this
        show cL cS v + z.length ≤ _
        omega
      | bad _ _ => trivial
      | out => trivial
theorem block_c {one : List Tok → PR Sm} (h1 : ∀ ts, Ct ts.length cS (one ts)) (m o : Nat) (ts : List Tok) : Ct ts.length (fun l => 1 + cL cS l) (blockT one m o ts) :=
  (enter_c (by decide) o ts).bind fun _ r hr => by
    have hr' : 1 + r.length ≤ ts.length := hr
    have := body_c h1 m [] r
    cases hx : bodyT one m [] r with
    | ok v z =>
      rw [hx] at this
      have h' : cL cS v + z.length ≤ 0 + r.length := this
      show 1 + cL cS v + z.length ≤ _
      omega
    | bad _ _ => trivial
    | out => trivial
theorem tell_c (n : Nat) (op : Int) (o : Nat) (ts : List Tok) : Ct ts.length (fun t : Sm => t.l.cnt) (tellT n op o ts) :=
  (expr_c n 1 o ts (Nat.le_refl _)).bind fun e r hr => by
    show (toES e .nil).cnt + r.length ≤ _
    rw [one_cnt]
    exact hr
theorem semi_c {k : Nat} {x : PR Sm} (h : Ct (k + 1) cS x) : Ct k cS (semiT x) := h.bind fun t r hr => (want_c (by decide) r).bind fun _ z hz => by
  have hz' : 1 + z.length ≤ r.length := hz
  show cS t + z.length ≤ _
  omega
theorem tell_s (n : Nat) (op : Int) (o : Nat) (ts : List Tok) : Ct (ts.length + 1) cS (tellT n op o ts) :=
  (expr_c n 1 o ts (Nat.le_refl _)).bind fun e r hr => by
    show 1 + ((toES e .nil).cnt + (0 + 0)) + r.length ≤ _
    rw [one_cnt]
    omega
theorem store_c (n o : Nat) (ts : List Tok) : Ct (ts.length + 1) cS (storeT n o ts) := by
  unfold storeT
  refine (name_c ts).bind fun s r hr => ?_
  have a1 : 1 + r.length ≤ ts.length := hr
  split
  · refine (within_c (expr_c n) _ _ (by decide) (by decide) o r).bind fun i z hz => (want_c (by decide) z).bind fun _ y hy => (expr_c n 1 o y (Nat.le_refl _)).bind fun e x hx => ?_
    have hz' : 1 + cE i + z.length ≤ r.length := hz
    have hy' : 1 + y.length ≤ z.length := hy
    show 1 + ((toES i (toES e .nil)).cnt + (0 + 0)) + x.length ≤ _
    have e1 : (toES i (toES e .nil)).cnt = cE i + cE e := by simp only [toES, ES.cnt, cE]; omega
    rw [e1]
    omega
  · refine (want_c (by decide) r).bind fun _ y hy => (expr_c n 1 o y (Nat.le_refl _)).bind fun e x hx => ?_
    have hy' : 1 + y.length ≤ r.length := hy
    show 1 + ((toES e .nil).cnt + (0 + 0)) + x.length ≤ _
    rw [one_cnt]
    omega
theorem Ct.le {α : Type} {j k : Nat} {c : α → Nat} {x : PR α} (h : Ct j c x) (hk : j ≤ k) : Ct k c x := by
  cases x with
  | ok v r => exact Nat.le_trans h hk
  | bad _ _ => trivial
  | out => trivial
theorem stmt_c : ∀ n o ts, Ct ts.length cS (smT n o ts)
  | 0, _, _ => trivial
  | n + 1, o, ts => by
    unfold smT
    split
    · have ht := tail_c (ts_ne (ts := ts) (by assumption) (by decide))
      refine semi_c ((name_c ts.tail).bind fun s r hr => (num_c 1 4096 r).bind fun k z hz => ?_)
      have a1 : 1 + r.length ≤ ts.tail.length := hr
      have a2 : 1 + z.length ≤ r.length := hz
      show 1 + (0 + (0 + 0)) + z.length ≤ _
      omega
    · split
      · have ht := tail_c (ts_ne (ts := ts) (by assumption) (by decide))
        refine semi_c ((name_c ts.tail).bind fun s r hr => ?_)
        have a1 : 1 + r.length ≤ ts.tail.length := hr
        show 1 + (0 + (0 + 0)) + r.length ≤ _
        omega
      · split
        · have ht := tail_c (ts_ne (ts := ts) (by assumption) (by decide))
          exact semi_c ((tell_s (n + 1) 5 o ts.tail).le (by omega))
        · split
          · have ht := tail_c (ts_ne (ts := ts) (by assumption) (by decide))
            exact semi_c ((tell_s (n + 1) 6 o ts.tail).le (by omega))
          · split
            · have ht := tail_c (ts_ne (ts := ts) (by assumption) (by decide))
              exact semi_c ((tell_s (n + 1) 9 o ts.tail).le (by omega))
            · split
              · have ht := tail_c (ts_ne (ts := ts) (by assumption) (by decide))
                refine (tell_c (n + 1) 7 o ts.tail).bind fun t r hr => (block_c (stmt_c n (o + 1)) (n + 1) o r).bind fun b z hz => ?_
                have hz' : 1 + cL cS b + z.length ≤ r.length := hz
                split
                · have ht2 := tail_c (ts_ne (ts := z) (by assumption) (by decide))
                  refine (block_c (stmt_c n (o + 1)) (n + 1) o z.tail).bind fun c y hy => ?_
                  have hy' : 1 + cL cS c + y.length ≤ z.tail.length := hy
                  show 1 + (t.l.cnt + ((smSS b).cnt + (smSS c).cnt)) + y.length ≤ _
                  rw [smSS_cnt, smSS_cnt]
                  omega
                · show 1 + (t.l.cnt + ((smSS b).cnt + 0)) + z.length ≤ _
                  rw [smSS_cnt]
                  omega
              · split
                · have ht := tail_c (ts_ne (ts := ts) (by assumption) (by decide))
                  refine (tell_c (n + 1) 8 o ts.tail).bind fun t r hr => (block_c (stmt_c n (o + 1)) (n + 1) o r).bind fun b z hz => ?_
                  have hz' : 1 + cL cS b + z.length ≤ r.length := hz
                  show 1 + (t.l.cnt + ((smSS b).cnt + 0)) + z.length ≤ _
                  rw [smSS_cnt]
                  omega
                · exact semi_c (store_c (n + 1) o ts)
theorem outer_c (n o : Nat) (ts : List Tok) : Ct ts.length cS (outerT n o ts) := by
  refine (stmt_c n o ts).bind fun t r hr => ?_
  split
  · trivial
  · exact hr
def cF (f : Fn) : Nat := f.b.cnt
theorem fsPts_cnt : ∀ l : List Fn, cntL (fsPts l) = cL cF l
  | [] => rfl
  | f :: r => by rw [fsPts, cntL_append, SS.cntL, fsPts_cnt r, cL, cF]
theorem func_c (n : Nat) (ts : List Tok) : Ct ts.length cF (funcT n ts) :=
  (want_c (by decide) ts).bind fun _ r hr => (name_c r).bind fun s z hz => (several_c name_c n 0 z).bind fun ps y hy => (block_c (outer_c n 1) n 0 y).bind fun b x hx => by
    have a1 : 1 + r.length ≤ ts.length := hr
    have a2 : 1 + z.length ≤ r.length := hz
    have a3 : 1 + cL c1 ps + y.length ≤ z.length := hy
    have a4 : 1 + cL cS b + x.length ≤ y.length := hx
    show (smSS b).cnt + x.length ≤ _
    rw [smSS_cnt]
    omega
theorem funcs_c (n : Nat) : ∀ m l ts, Ct (cL cF l + ts.length) (cL cF) (funcsT n m l ts)
  | 0, _, _ => trivial
  | m + 1, l, ts => by
    unfold funcsT
    split
    · split
      · trivial
      · refine (func_c n ts).bind fun f r hr => ?_
        have := funcs_c n m (l ++ [f]) r
        rw [cL_snoc] at this
        exact this.le (by omega)
    · exact Nat.le_refl _
theorem main_c (n : Nat) : ∀ m l ts, Ct (cL cS l + ts.length) (cL cS) (mainT n m l ts)
  | 0, _, _ => trivial
  | m + 1, l, ts => by
    unfold mainT
    split
    · exact Nat.le_refl _
    · refine (outer_c n 0 ts).bind fun t r hr => ?_
      have := main_c n m (l ++ [t]) r
      rw [cL_snoc] at this
      exact this.le (by omega)
theorem prog_c (n : Nat) (ts : List Tok) : Ct ts.length (fun p : Pg => cntL p.pts) (progT n ts) :=
  (funcs_c n n [] ts).bind fun fs r hr => (main_c n n [] r).bind fun m z hz => by
    have a1 : cL cF fs + r.length ≤ 0 + ts.length := hr
    have a2 : cL cS m + z.length ≤ 0 + r.length := hz
    show cntL (fsPts fs ++ (smSS m).pts) + z.length ≤ _
    rw [cntL_append, fsPts_cnt, SS.cntL, smSS_cnt]
    omega
end Go.Proofs.YtppagjhmlgkamaaGreatDoor
