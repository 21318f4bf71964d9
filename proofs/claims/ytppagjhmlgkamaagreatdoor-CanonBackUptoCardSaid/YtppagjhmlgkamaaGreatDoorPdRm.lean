/-
  Package parse, plain: what is parsed is right; what is wrong is told at a place that is there, and by one of four errors.
-/
import Derived.Test.YtppagjhmlgkamaaGreatDoorCq5
import Derived.Test.YtppagjhmlgkamaaGreatDoorTreeGm
namespace Go.Proofs.YtppagjhmlgkamaaGreatDoor
open Go
section
variable {α β : Type}
/-- What is told meets p, and what is left lies in the bytes; what is wrong lies there. -/
def Rt (N : Nat) (p : α → Prop) (x : PR α) : Prop := match x with
  | .ok v r => p v ∧ ∀ t ∈ r, t.at_ ≤ N
  | .bad k c => k ≤ N ∧ (c = 1 ∨ c = 2 ∨ c = 3 ∨ c = 10)
  | .out => True
theorem Rt.bind {N : Nat} {p : α → Prop} {q : β → Prop} {x : PR α} {f : α → List Tok → PR β} (h : Rt N p x) (hf : ∀ v r, p v → (∀ t ∈ r, t.at_ ≤ N) → Rt N q (f v r)) : Rt N q (x.bind f) := by
  cases x with
  | ok v r => exact hf v r h.1 h.2
  | bad k c => exact h
  | out => trivial
theorem in_tail {N : Nat} {ts : List Tok} (h : ∀ t ∈ ts, t.at_ ≤ N) : ∀ t ∈ ts.tail, t.at_ ≤ N := fun t ht => h t (List.mem_of_mem_tail ht)
theorem in_head {N : Nat} {ts : List Tok} (h : ∀ t ∈ ts, t.at_ ≤ N) : (hdT ts).at_ ≤ N := by
  cases ts with
  | nil => exact Nat.zero_le _
  | cons t r => exact h t (by simp)
theorem want_rt {N : Nat} (s : List UInt8) {ts : List Tok} (h : ∀ t ∈ ts, t.at_ ≤ N) : Rt N (fun _ => True) (wantT s ts) := by
  unfold wantT
  split
  · exact ⟨trivial, in_tail h⟩
  · exact ⟨in_head h, by simp⟩
theorem enter_rt {N : Nat} (s : List UInt8) (o : Nat) {ts : List Tok} (h : ∀ t ∈ ts, t.at_ ≤ N) : Rt N (fun _ => True) (enterT s o ts) := by
  unfold enterT
  split
  · split
    · exact ⟨in_head h, by simp⟩
    · exact ⟨trivial, in_tail h⟩
  · exact ⟨in_head h, by simp⟩
theorem name_rt {N : Nat} {ts : List Tok} (h : ∀ t ∈ ts, t.at_ ≤ N) : Rt N (fun s => nameB s = true) (nameT ts) := by
  unfold nameT
  split
  · exact ⟨by assumption, in_tail h⟩
  · exact ⟨in_head h, by simp⟩
theorem num_rt {N : Nat} (a b : Int) {ts : List Tok} (h : ∀ t ∈ ts, t.at_ ≤ N) : Rt N (fun n => a ≤ n ∧ n ≤ b) (numT a b ts) := by
  unfold numT
  split
  · split
    · split
      · exact ⟨in_head h, by simp⟩
      · exact ⟨by omega, in_tail h⟩
    · exact ⟨in_head h, by simp⟩
  · exact ⟨in_head h, by simp⟩
theorem more_rt {N : Nat} {p : α → Prop} {one : List Tok → PR α} (h1 : ∀ ts : List Tok, (∀ t ∈ ts, t.at_ ≤ N) → Rt N p (one ts)) : ∀ m l (ts : List Tok), (∀ t ∈ ts, t.at_ ≤ N) → l.length ≤ 8 → (∀ x ∈ l, p x) → Rt N (fun l => l.length ≤ 8 ∧ ∀ x ∈ l, p x) (moreT one m l ts)
  | 0, _, _, _, _, _ => trivial
  | m + 1, l, ts, h, hl, hp => by
    unfold moreT
    split
    · split
      · exact ⟨in_head (in_tail h), by simp⟩
      · refine (h1 _ (in_tail h)).bind fun x r hx hr => more_rt h1 m _ r hr (by simp; omega) fun y hy => ?_
        rcases List.mem_append.1 hy with hy | hy
        · exact hp y hy
        · rw [List.mem_singleton.1 hy]; exact hx
    · exact (want_rt _ h).bind fun _ r _ hr => ⟨⟨hl, hp⟩, hr⟩
theorem several_rt {N : Nat} {p : α → Prop} {one : List Tok → PR α} (h1 : ∀ ts : List Tok, (∀ t ∈ ts, t.at_ ≤ N) → Rt N p (one ts)) (m o : Nat) {ts : List Tok} (h : ∀ t ∈ ts, t.at_ ≤ N) : Rt N (fun l => l.length ≤ 8 ∧ ∀ x ∈ l, p x) (severalT one m o ts) := by
  unfold severalT
  refine (enter_rt _ o h).bind fun _ r _ hr => ?_
  split
  · exact (want_rt _ hr).bind fun _ r _ hr => ⟨⟨by simp, fun x hx => by cases hx⟩, hr⟩
  · exact (h1 r hr).bind fun x r hx hr => more_rt h1 m _ r hr (by simp) fun y hy => by rw [List.mem_singleton.1 hy]; exact hx
end

/-- An expression, a statement, that is right. -/
def ExOk (e : Ex) : Prop := (toES e .nil).ok = true
def SmOk (t : Sm) : Prop := (toSS t .nil).ok = true
theorem ok_cons (e : Ex) (r : ES) : (toES e r).ok = ((toES e .nil).ok && r.ok) := by simp [toES, ES.ok]
theorem sok_cons (t : Sm) (r : SS) : (toSS t r).ok = ((toSS t .nil).ok && r.ok) := by simp [toSS, SS.ok]
theorem exES_ok : ∀ l : List Ex, (∀ e ∈ l, ExOk e) → (exES l).ok = true
  | [], _ => rfl
  | e :: r, h => by rw [exES, ok_cons, h e (by simp), exES_ok r (fun x hx => h x (by simp [hx]))]; rfl
theorem smSS_ok : ∀ l : List Sm, (∀ e ∈ l, SmOk e) → (smSS l).ok = true
  | [], _ => rfl
  | e :: r, h => by rw [smSS, sok_cons, h e (by simp), smSS_ok r (fun x hx => h x (by simp [hx]))]; rfl
theorem nilS_is : nilS.toList = [] := by rw [ByteArray.toList_eq]; rfl
theorem fit0 (op n : Int) (s : ByteArray) (l : ES) : fitP ⟨false, op, s, n, l, .nil, .nil⟩ = fitQ (shOf false op).isSome ((shOf false op).getD sh0) s n l.len 0 0 := rfl

section
variable {N : Nat} {ex : Nat → Nat → List Tok → PR Ex}
theorem within_rt (h1 : ∀ l o (ts : List Tok), 1 ≤ l → (∀ t ∈ ts, t.at_ ≤ N) → Rt N ExOk (ex l o ts)) (a b : List UInt8) (o : Nat) {ts : List Tok} (h : ∀ t ∈ ts, t.at_ ≤ N) : Rt N ExOk (withinT ex a b o ts) :=
  (enter_rt a o h).bind fun _ r _ hr => (h1 1 (o + 1) r (Nat.le_refl _) hr).bind fun _ _r he hr => (want_rt b hr).bind fun _ _ _ hr => ⟨he, hr⟩
theorem named_rt (h1 : ∀ l o (ts : List Tok), 1 ≤ l → (∀ t ∈ ts, t.at_ ≤ N) → Rt N ExOk (ex l o ts)) (m o : Nat) {ts : List Tok} (h : ∀ t ∈ ts, t.at_ ≤ N) : Rt N ExOk (namedT ex m o ts) := by
  unfold namedT
  refine (name_rt h).bind fun s r hs hr => ?_
  split
  · refine (within_rt h1 _ _ o hr).bind fun e r he hr => ⟨?_, hr⟩
    have he : (toES e .nil).ok = true := he
    simp [ExOk, toES, ES.ok, fitP, shOf, exprT, fitQ, namedB, hs, ES.len, SS.len] at he ⊢
    exact he
  · split
    · refine (several_rt (fun ts h => h1 1 (o + 1) ts (Nat.le_refl _) h) m o hr).bind fun l r hl hr => ⟨?_, hr⟩
      have h2 := exES_ok l hl.2
      have h3 := hl.1
      simp [ExOk, toES, ES.ok, fitP, shOf, exprT, fitQ, namedB, hs, exES_len, SS.len, h2]
      omega
    · refine ⟨?_, hr⟩
      simp [ExOk, toES, ES.ok, fitP, shOf, exprT, fitQ, namedB, hs, ES.len, SS.len]
theorem single_rt (h1 : ∀ l o (ts : List Tok), 1 ≤ l → (∀ t ∈ ts, t.at_ ≤ N) → Rt N ExOk (ex l o ts)) : ∀ m o (ts : List Tok), (∀ t ∈ ts, t.at_ ≤ N) → Rt N ExOk (singleT ex m o ts)
  | 0, _, _, _ => trivial
  | m + 1, o, ts, h => by
    have hn := nilS_is
    unfold singleT
    split
    · refine (enter_rt _ o h).bind fun _ r _ hr => (single_rt h1 m _ r hr).bind fun e r he hr => ⟨?_, hr⟩
      have he : (toES e .nil).ok = true := he
      simp [ExOk, toES, ES.ok, fitP, shOf, exprT, fitQ, namedB, ES.len, SS.len] at he ⊢
      exact ⟨hn, he⟩
    · split
      · refine (enter_rt _ o h).bind fun _ r _ hr => (single_rt h1 m _ r hr).bind fun e r he hr => ⟨?_, hr⟩
        have he : (toES e .nil).ok = true := he
        simp [ExOk, toES, ES.ok, fitP, shOf, exprT, fitQ, namedB, ES.len, SS.len] at he ⊢
        exact ⟨hn, he⟩
      · split
        · exact within_rt h1 _ _ o h
        · split
          · refine ⟨?_, in_tail h⟩
            simp [ExOk, toES, ES.ok, fitP, shOf, exprT, fitQ, namedB, ES.len, SS.len]
            exact hn
          · split
            · refine (num_rt _ _ h).bind fun n r hb hr => ⟨?_, hr⟩
              simp [ExOk, toES, ES.ok, fitP, shOf, exprT, fitQ, namedB, ES.len, SS.len, hb.1, hb.2]
              exact hn
            · exact named_rt h1 _ o h
theorem op_two (l : List UInt8) {least : Nat} (hl : 1 ≤ least) (h : ¬ (opT l).2 < least) : (8 ≤ (opT l).1 ∧ (opT l).1 ≤ 16) := by
  unfold opT at h ⊢
  repeat' split at h
  all_goals first | (simp_all; done) | omega
theorem loop_rt (h1 : ∀ l o (ts : List Tok), 1 ≤ l → (∀ t ∈ ts, t.at_ ≤ N) → Rt N ExOk (ex l o ts)) : ∀ m least e o (ts : List Tok), 1 ≤ least → ExOk e → (∀ t ∈ ts, t.at_ ≤ N) → Rt N ExOk (loopT ex m least e o ts)
  | 0, _, _, _, _, _, _, _ => trivial
  | m + 1, least, e, o, ts, hl, he, h => by
    unfold loopT
    split
    · exact ⟨he, h⟩
    · rename_i hop
      have h8 := op_two _ hl hop
      refine (h1 _ o ts.tail (by omega) (in_tail h)).bind fun e2 r he2 hr => loop_rt h1 m least _ o r hl ?_ hr
      have hn := nilS_is
      obtain ⟨op, hopd⟩ : ∃ op, (opT (hdT ts).text).1 = op := ⟨_, rfl⟩
      rw [hopd] at h8 ⊢
      have h9 : op = 8 ∨ op = 9 ∨ op = 10 ∨ op = 11 ∨ op = 12 ∨ op = 13 ∨ op = 14 ∨ op = 15 ∨ op = 16 := by omega
      have he : (toES e .nil).ok = true := he
      have he2 : (toES e2 .nil).ok = true := he2
      show (ES.cons op 0 nilS (toES e (toES e2 .nil)) .nil).ok = true
      rw [ES.ok, ok_cons e, he, he2, fit0]
      clear hopd hop he he2
      rcases h9 with rfl | rfl | rfl | rfl | rfl | rfl | rfl | rfl | rfl
      all_goals
        simp [shOf, exprT, fitQ, namedB, toES, ES.len, ES.ok]
        exact hn
end
theorem expr_rt {N : Nat} : ∀ n l o (ts : List Tok), 1 ≤ l → (∀ t ∈ ts, t.at_ ≤ N) → Rt N ExOk (exT n l o ts)
  | 0, _, _, _, _, _ => trivial
  | n + 1, l, o, ts, hl, h =>
    (single_rt (fun l o ts hl h => expr_rt n l o ts hl h) (n + 1) o ts h).bind fun e r he hr => loop_rt (fun l o ts hl h => expr_rt n l o ts hl h) (n + 1) l e o r hl he hr

theorem fitS (op n : Int) (s : ByteArray) (l : ES) (b e : SS) : fitP ⟨true, op, s, n, l, b, e⟩ = fitQ (shOf true op).isSome ((shOf true op).getD sh0) s n l.len b.len e.len := rfl
theorem body_rt {N : Nat} {p : Sm → Prop} {one : List Tok → PR Sm} (h1 : ∀ ts : List Tok, (∀ t ∈ ts, t.at_ ≤ N) → Rt N p (one ts)) : ∀ m l (ts : List Tok), (∀ t ∈ ts, t.at_ ≤ N) → (∀ x ∈ l, p x) → Rt N (fun l => ∀ x ∈ l, p x) (bodyT one m l ts)
  | 0, _, _, _, _ => trivial
  | m + 1, l, ts, h, hl => by
    unfold bodyT
    split
    · exact (want_rt _ h).bind fun _ r _ hr => ⟨hl, hr⟩
    · refine (h1 _ h).bind fun t r ht hr => body_rt h1 m _ r hr fun y hy => ?_
      rcases List.mem_append.1 hy with hy | hy
      · exact hl y hy
      · rw [List.mem_singleton.1 hy]; exact ht
theorem block_rt {N : Nat} {p : Sm → Prop} {one : List Tok → PR Sm} (h1 : ∀ ts : List Tok, (∀ t ∈ ts, t.at_ ≤ N) → Rt N p (one ts)) (m o : Nat) {ts : List Tok} (h : ∀ t ∈ ts, t.at_ ≤ N) : Rt N (fun l => ∀ x ∈ l, p x) (blockT one m o ts) :=
  (enter_rt _ o h).bind fun _ r _ hr => body_rt h1 m [] r hr fun x hx => by cases hx
/-- What tell tells. -/
def TellOk (op : Int) (t : Sm) : Prop := t.op = op ∧ t.s = nilS ∧ t.n = 0 ∧ t.x = .nil ∧ t.y = .nil ∧ t.l.len = 1 ∧ t.l.ok = true
theorem tell_rt {N : Nat} (n : Nat) (op : Int) (o : Nat) {ts : List Tok} (h : ∀ t ∈ ts, t.at_ ≤ N) : Rt N (TellOk op) (tellT n op o ts) :=
  (expr_rt n 1 o ts (Nat.le_refl _) h).bind fun _e _r he hr => ⟨⟨rfl, rfl, rfl, rfl, rfl, rfl, he⟩, hr⟩
theorem semi_rt {N : Nat} {p : Sm → Prop} {x : PR Sm} (h : Rt N p x) : Rt N p (semiT x) :=
  h.bind fun _t _r ht hr => (want_rt _ hr).bind fun _ _r _ hr => ⟨ht, hr⟩
theorem Rt.imp {α : Type} {N : Nat} {p q : α → Prop} {x : PR α} (h : Rt N p x) (hi : ∀ v, p v → q v) : Rt N q x := by
  cases x with
  | ok v r => exact ⟨hi v h.1, h.2⟩
  | bad k c => exact h
  | out => trivial
theorem tell_plain {op : Int} (h : op = 5 ∨ op = 6 ∨ op = 9) (t : Sm) (ht : TellOk op t) : SmOk t := by
  obtain ⟨o, s, n, l, x, y⟩ := t
  obtain ⟨h1, h2, h3, h4, h5, h6, h7⟩ := ht
  dsimp only at h1 h2 h3 h4 h5 h6 h7
  subst h1 h2 h3 h4 h5
  have hn := nilS_is
  rcases h with rfl | rfl | rfl
  all_goals
    show (SS.cons _ nilS 0 l .nil .nil .nil).ok = true
    rw [SS.ok, h7, fitS, h6]
    simp [shOf, stmtT, fitQ, namedB, SS.len, SS.ok]
    exact hn
theorem block_ok {op : Int} (h : op = 7 ∨ op = 8) {l : ES} (hl : l.len = 1) (ho : l.ok = true) {b c : SS} (hb : b.ok = true) (hc : c.ok = true) (h8 : op = 8 → c = .nil) : SmOk ⟨op, nilS, 0, l, b, c⟩ := by
  have hn := nilS_is
  show (SS.cons _ nilS 0 l b c .nil).ok = true
  rcases h with rfl | rfl
  · rw [SS.ok, ho, hb, hc, fitS, hl]
    simp [shOf, stmtT, fitQ, namedB, SS.ok]
    exact hn
  · obtain rfl := h8 rfl
    rw [SS.ok, ho, hb, hc, fitS, hl]
    simp [shOf, stmtT, fitQ, namedB, SS.len]
    exact hn
theorem store_rt {N : Nat} (n o : Nat) {ts : List Tok} (h : ∀ t ∈ ts, t.at_ ≤ N) : Rt N SmOk (storeT n o ts) := by
  have he : ∀ l o (ts : List Tok), 1 ≤ l → (∀ t ∈ ts, t.at_ ≤ N) → Rt N ExOk (exT n l o ts) := fun l o ts hl h => expr_rt n l o ts hl h
  unfold storeT
  refine (name_rt h).bind fun s r hs hr => ?_
  split
  · refine (within_rt he _ _ o hr).bind fun i r hi hr => (want_rt _ hr).bind fun _ r _ hr => (he 1 o r (Nat.le_refl _) hr).bind fun e r hE hr => ⟨?_, hr⟩
    have hi : (toES i .nil).ok = true := hi
    have hE : (toES e .nil).ok = true := hE
    show (SS.cons 2 s 0 (toES i (toES e .nil)) .nil .nil .nil).ok = true
    rw [SS.ok, fitS, ok_cons i, hi, hE]
    simp [shOf, stmtT, fitQ, namedB, SS.len, SS.ok, hs, toES, ES.len]
  · refine (want_rt _ hr).bind fun _ r _ hr => (he 1 o r (Nat.le_refl _) hr).bind fun e r hE hr => ⟨?_, hr⟩
    have hE : (toES e .nil).ok = true := hE
    show (SS.cons 1 s 0 (toES e .nil) .nil .nil .nil).ok = true
    rw [SS.ok, fitS, hE]
    simp [shOf, stmtT, fitQ, namedB, SS.len, SS.ok, hs, toES, ES.len]
theorem stmt_rt {N : Nat} : ∀ n o (ts : List Tok), (∀ t ∈ ts, t.at_ ≤ N) → Rt N SmOk (smT n o ts)
  | 0, _, _, _ => trivial
  | n + 1, o, ts, h => by
    have hb : ∀ m o (ts : List Tok), (∀ t ∈ ts, t.at_ ≤ N) → Rt N (fun l => ∀ x ∈ l, SmOk x) (blockT (smT n (o + 1)) m o ts) := fun m o ts h => block_rt (fun ts h => stmt_rt n (o + 1) ts h) m o h
    have ht := in_tail h
    unfold smT
    split
    · refine semi_rt ((name_rt ht).bind fun s r hs hr => (num_rt _ _ hr).bind fun k r hk hr => ⟨?_, hr⟩)
      show (SS.cons 3 s k .nil .nil .nil .nil).ok = true
      rw [SS.ok, fitS]
      simp [shOf, stmtT, fitQ, namedB, SS.len, SS.ok, hs, ES.len, ES.ok, hk.1, hk.2]
    · split
      · refine semi_rt ((name_rt ht).bind fun s r hs hr => ⟨?_, hr⟩)
        show (SS.cons 4 s 0 .nil .nil .nil .nil).ok = true
        rw [SS.ok, fitS]
        simp [shOf, stmtT, fitQ, namedB, SS.len, SS.ok, hs, ES.len, ES.ok]
      · split
        · exact semi_rt ((tell_rt _ 5 o ht).imp (tell_plain (by simp)))
        · split
          · exact semi_rt ((tell_rt _ 6 o ht).imp (tell_plain (by simp)))
          · split
            · exact semi_rt ((tell_rt _ 9 o ht).imp (tell_plain (by simp)))
            · split
              · refine (tell_rt _ 7 o ht).bind fun t r hT hr => (hb _ o r hr).bind fun b r hB hr => ?_
                obtain ⟨_, _, _, _, _, h6, h7⟩ := hT
                split
                · exact (hb _ o _ (in_tail hr)).bind fun c r hC hr => ⟨block_ok (.inl rfl) h6 h7 (smSS_ok _ hB) (smSS_ok _ hC) (fun e => by cases e), hr⟩
                · exact ⟨block_ok (.inl rfl) h6 h7 (smSS_ok _ hB) rfl (fun _ => rfl), hr⟩
              · split
                · refine (tell_rt _ 8 o ht).bind fun t r hT hr => (hb _ o r hr).bind fun b r hB hr => ?_
                  obtain ⟨_, _, _, _, _, h6, h7⟩ := hT
                  exact ⟨block_ok (.inr rfl) h6 h7 (smSS_ok _ hB) rfl (fun _ => rfl), hr⟩
                · exact semi_rt (store_rt _ o h)
/-- A statement that is right, and no deeper than may be. -/
def SmIn (t : Sm) : Prop := SmOk t ∧ (toSS t .nil).deep ≤ 64
theorem outer_rt {N : Nat} (n o : Nat) {ts : List Tok} (h : ∀ t ∈ ts, t.at_ ≤ N) : Rt N SmIn (outerT n o ts) := by
  refine (stmt_rt n o ts h).bind fun t r hT hr => ?_
  split
  · exact ⟨in_head h, by simp⟩
  · exact ⟨⟨hT, by omega⟩, hr⟩
theorem deep_cons (t : Sm) (r : SS) : (toSS t r).deep = max (toSS t .nil).deep r.deep := by
  have h1 := SS.deep_nn r
  simp only [toSS, SS.deep]
  generalize RowKit.wrap64 (1 + max t.l.deep (max t.x.deep t.y.deep)) = k
  omega
theorem smSS_deep : ∀ l : List Sm, (∀ e ∈ l, SmIn e) → (smSS l).deep ≤ 64
  | [], _ => by decide
  | e :: r, h => by
    rw [smSS, deep_cons]
    have h1 := (h e (by simp)).2
    have h2 := smSS_deep r (fun x hx => h x (by simp [hx]))
    omega
/-- A function that is right. -/
def FnIn (f : Fn) : Prop := (nameB f.s && paramsB f.ps) = true ∧ f.b.ok = true ∧ f.b.deep ≤ 64
theorem psOk_all : ∀ l : List ByteArray, (∀ s ∈ l, nameB s = true) → psOk l = true
  | [], _ => rfl
  | s :: r, h => by rw [psOk, h s (by simp), psOk_all r (fun x hx => h x (by simp [hx]))]; rfl
theorem func_rt {N : Nat} (n : Nat) {ts : List Tok} (h : ∀ t ∈ ts, t.at_ ≤ N) : Rt N FnIn (funcT n ts) :=
  (want_rt _ h).bind fun _ r _ hr => (name_rt hr).bind fun s r hs hr => (several_rt (fun ts h => name_rt h) n 0 hr).bind fun ps r hp hr =>
    (block_rt (fun ts h => outer_rt n 1 h) n 0 hr).bind fun b r hb hr =>
      ⟨⟨by show (nameB s && paramsB ps) = true; rw [hs, paramsB, decide_eq_true hp.1, psOk_all ps hp.2]; rfl, smSS_ok b (fun e he => (hb e he).1), smSS_deep b hb⟩, hr⟩
theorem funcs_rt {N : Nat} (n : Nat) : ∀ m l (ts : List Tok), (∀ t ∈ ts, t.at_ ≤ N) → l.length ≤ 32 → (∀ f ∈ l, FnIn f) → Rt N (fun l => l.length ≤ 32 ∧ ∀ f ∈ l, FnIn f) (funcsT n m l ts)
  | 0, _, _, _, _, _ => trivial
  | m + 1, l, ts, h, hl, hp => by
    unfold funcsT
    split
    · split
      · exact ⟨in_head h, by simp⟩
      · refine (func_rt n h).bind fun f r hf hr => funcs_rt n m _ r hr (by simp; omega) fun y hy => ?_
        rcases List.mem_append.1 hy with hy | hy
        · exact hp y hy
        · rw [List.mem_singleton.1 hy]; exact hf
    · exact ⟨⟨hl, hp⟩, h⟩
theorem main_rt {N : Nat} (n : Nat) : ∀ m l (ts : List Tok), (∀ t ∈ ts, t.at_ ≤ N) → (∀ x ∈ l, SmIn x) → Rt N (fun l => ∀ x ∈ l, SmIn x) (mainT n m l ts)
  | 0, _, _, _, _ => trivial
  | m + 1, l, ts, h, hl => by
    unfold mainT
    split
    · exact ⟨hl, h⟩
    · refine (outer_rt n 0 h).bind fun t r ht hr => main_rt n m _ r hr fun y hy => ?_
      rcases List.mem_append.1 hy with hy | hy
      · exact hl y hy
      · rw [List.mem_singleton.1 hy]; exact ht
theorem fsOk_all : ∀ l : List Fn, (∀ f ∈ l, FnIn f) → fsOk l = true ∧ okL (fsPts l) = true ∧ deepL (fsPts l) ≤ 64
  | [], _ => ⟨rfl, rfl, by decide⟩
  | f :: r, h => by
    obtain ⟨h1, h2, h3⟩ := fsOk_all r (fun x hx => h x (by simp [hx]))
    obtain ⟨k1, k2, k3⟩ := h f (by simp)
    refine ⟨by rw [fsOk, k1, h1]; rfl, by rw [fsPts, okL_append, SS.okL, k2, h2]; rfl, ?_⟩
    rw [fsPts, deepL_append, SS.deepL]
    omega
theorem prog_rt {N : Nat} (n : Nat) {ts : List Tok} (h : ∀ t ∈ ts, t.at_ ≤ N) : Rt N (fun q => rightN q = 0) (progT n ts) :=
  (funcs_rt n n [] ts h (by simp) (fun f hf => by cases hf)).bind fun fs r hf hr => (main_rt n n [] r hr (fun f hf => by cases hf)).bind fun m r hm hr => by
    refine ⟨?_, hr⟩
    obtain ⟨h1, h2, h3⟩ := fsOk_all fs hf.2
    unfold rightN
    have ho : okL (Pg.pts ⟨fs, smSS m⟩) = true := by
      show okL (fsPts fs ++ (smSS m).pts) = true
      rw [okL_append, SS.okL, h2, smSS_ok m (fun e he => (hm e he).1)]; rfl
    have hd : deepL (Pg.pts ⟨fs, smSS m⟩) ≤ 64 := by
      show deepL (fsPts fs ++ (smSS m).pts) ≤ 64
      have := smSS_deep m hm
      rw [deepL_append, SS.deepL]
      omega
    rw [ho, show funcsB (Pg.fs ⟨fs, smSS m⟩) = true by show (decide (fs.length ≤ 32) && fsOk fs) = true; rw [decide_eq_true hf.1, h1]; rfl]
    simp
    omega
/-- What Parse tells is right; what is wrong is told at a place that is there. -/
theorem tl_right (l : List UInt8) : Rt l.length (fun q => rightN q = 0) (tl l) := by
  unfold tl
  cases h : lexS 0 l with
  | bad p => exact ⟨by have := bad_le l.length 0 l p (Nat.le_refl _) h; omega, by simp⟩
  | ok ts =>
    refine prog_rt _ fun t ht => ?_
    have := placed_all (placed_of h) t ht
    omega
end Go.Proofs.YtppagjhmlgkamaaGreatDoor
