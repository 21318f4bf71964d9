/-
  Texts VzA VzB: put together.
-/
import Derived.Test.YtbgjlmcagdgpkaaDoorVyP
import Derived.Test.YtbgjlmcagdgpkaaDoorCpH
import Derived.Test.YtbgjlmcagdgpkaaDoorSqUp
/-
  What a compiled body is when it is run through, plainly: each place has one depth; so its function is right.
-/
namespace Go.Proofs.YtbgjlmcagdgpkaaDoor
open Go Go.RowKit Go.Lib

/-- An instruction's place leads to a place, with a depth. -/
def goes (len : Nat) (δ : Nat → Option Int) (a b : Int) : Prop := 0 ≤ a ∧ a < len ∧ δ a.toNat = some b
/-- The instruction at place i, at depth d, is right, and all that it leads to have the depths that they have. -/
def OkI (all : List Fv) (v x : Int) (len : Nat) (δ : Nat → Option Int) (i : Nat) (c : Int × Int × Int) (d : Int) : Prop :=
  mayB v x all.length c.1 c.2.1 c.2.2 = true ∧ takesB all c.1 c.2.1 ≤ d ∧
    (if c.1 = 18 then True else if c.1 = 15 then goes len δ c.2.1 (d - takesB all c.1 c.2.1 + (kdOf c.1).leaves)
      else if c.1 = 16 then goes len δ c.2.1 (d - takesB all c.1 c.2.1 + (kdOf c.1).leaves) ∧ goes len δ ((i : Int) + 1) (d - takesB all c.1 c.2.1 + (kdOf c.1).leaves)
      else goes len δ ((i : Int) + 1) (d - takesB all c.1 c.2.1 + (kdOf c.1).leaves))
/-- Depths that are told of places: what was reached has them. -/
structure Snd (len : Nat) (δ : Nat → Option Int) (st : Vs) : Prop where
  dep : ∀ i d, look st.D i = some d → i < len ∧ δ i = some d
  que : ∀ q, q ∈ st.Q → ∃ d, look st.D q = some d
theorem Snd.reach {len : Nat} {δ : Nat → Option Int} {st : Vs} (h : Snd len δ st) {a b : Int} (g : goes len δ a b) : ∃ st', st.reach len a b = some st' ∧ Snd len δ st' := by
  obtain ⟨g0, g1, g2⟩ := g
  unfold Vs.reach
  rw [if_pos ⟨g0, g1⟩]
  cases h0 : look st.D a.toNat with
  | none =>
    refine ⟨_, rfl, fun i d hi => ?_, fun q hq => ?_⟩
    · simp only [look] at hi
      split at hi
      · rename_i e; subst e; injection hi with hi; subst hi; exact ⟨by omega, g2⟩
      · exact h.dep i d hi
    · simp only [List.mem_append, List.mem_singleton] at hq
      simp only [look]
      by_cases e : a.toNat = q
      · exact ⟨b, if_pos e⟩
      · rw [if_neg e]; exact h.que q (hq.resolve_right fun x => e x.symm)
  | some e =>
    have h1 := (h.dep _ _ h0).2
    rw [g2] at h1
    injection h1 with h1
    subst h1
    exact ⟨st, by simp, h⟩
theorem Snd.step {all : List Fv} {f : Fv} {δ : Nat → Option Int} (H : ∀ (i : Nat) c d, f.L[i]? = some c → δ i = some d → OkI all f.v f.x f.L.length δ i c d) {st : Vs} (h : Snd f.L.length δ st) {q : Nat} {d : Int} (hq : look st.D q = some d) :
    ∃ st', Vs.step all f st q = some st' ∧ Snd f.L.length δ st' := by
  obtain ⟨hl, hd⟩ := h.dep q d hq
  obtain ⟨c, hc⟩ : ∃ c, f.L[q]? = some c := ⟨_, List.getElem?_eq_getElem hl⟩
  obtain ⟨op, a, n⟩ := c
  obtain ⟨k1, k2, k3⟩ := H q _ d hc hd
  simp only at k1 k2 k3
  unfold Vs.step
  rw [hc, hq]
  simp only
  rw [if_pos ⟨k1, k2⟩]
  by_cases e18 : op = 18
  · rw [if_pos e18]; exact ⟨st, rfl, h⟩
  rw [if_neg e18] at k3 ⊢
  by_cases e15 : op = 15
  · rw [if_pos e15] at k3 ⊢; exact h.reach k3
  rw [if_neg e15] at k3 ⊢
  by_cases e16 : op = 16
  · rw [if_pos e16] at k3 ⊢
    obtain ⟨s1, r1, h1⟩ := h.reach k3.1
    obtain ⟨s2, r2, h2⟩ := h1.reach k3.2
    exact ⟨s2, by rw [r1]; exact r2, h2⟩
  · rw [if_neg e16] at k3 ⊢; exact h.reach k3
theorem runL_snd {all : List Fv} {f : Fv} {δ : Nat → Option Int} (H : ∀ (i : Nat) c d, f.L[i]? = some c → δ i = some d → OkI all f.v f.x f.L.length δ i c d) : ∀ (k : Nat) (st : Vs), Snd f.L.length δ st → runL all f k st = true
  | 0, _, _ => rfl
  | k + 1, ⟨D, []⟩, _ => rfl
  | k + 1, ⟨D, q :: Q⟩, h => by
    obtain ⟨d, hd⟩ := h.que q List.mem_cons_self
    have h1 : Snd f.L.length δ ⟨D, Q⟩ := ⟨h.dep, fun x hx => h.que x (List.mem_cons_of_mem _ hx)⟩
    obtain ⟨st', e, h2⟩ := Snd.step H h1 hd
    simp only [runL]
    rw [e]
    exact runL_snd H k st' h2
/-- Depths that are right at each place that has one, and 0 at the first place: the function is right. -/
theorem runs_snd {all : List Fv} {f : Fv} {δ : Nat → Option Int} (h0 : 0 < f.L.length) (hd : δ 0 = some 0) (H : ∀ (i : Nat) c d, f.L[i]? = some c → δ i = some d → OkI all f.v f.x f.L.length δ i c d) : runsB all f = true := by
  have hn : Snd f.L.length δ ⟨[], []⟩ := ⟨fun i d h => by simp [look] at h, fun q h => by simp at h⟩
  obtain ⟨st, e, h⟩ := hn.reach (a := 0) (b := 0) ⟨by omega, by omega, hd⟩
  unfold runsB
  rw [e]
  exact runL_snd H _ st h

/-- The depths read so from place p on. -/
def DRd (δ : Nat → Option Int) (p : Nat) (D : List Int) : Prop := ∀ (k : Nat) x, D[k]? = some x → δ (p + k) = some x
theorem DRd.left {δ : Nat → Option Int} {p : Nat} {A B : List Int} (h : DRd δ p (A ++ B)) : DRd δ p A := fun k x hk => h k x (by rw [List.getElem?_append_left (List.getElem?_eq_some_iff.1 hk).1]; exact hk)
theorem DRd.right {δ : Nat → Option Int} {p : Nat} {A B : List Int} (h : DRd δ p (A ++ B)) : DRd δ (p + A.length) B := fun k x hk => by
  have h1 := h (A.length + k) x (by rw [List.getElem?_append_right (Nat.le_add_right _ _)]; simpa using hk)
  rwa [Nat.add_assoc]
theorem DRd.head {δ : Nat → Option Int} {p : Nat} {x : Int} {A : List Int} (h : DRd δ p (x :: A)) : δ p = some x := h 0 x rfl
theorem DRd.app {δ : Nat → Option Int} {p : Nat} {A B : List Int} (h1 : DRd δ p A) (h2 : DRd δ (p + A.length) B) : DRd δ p (A ++ B) := fun k x hk => by
  by_cases e : k < A.length
  · rw [List.getElem?_append_left e] at hk; exact h1 k x hk
  · rw [List.getElem?_append_right (by omega)] at hk
    have := h2 _ x hk
    rwa [Nat.add_assoc, Nat.add_sub_cancel' (by omega)] at this
/-- A stretch of instructions from place p on is right at these depths. -/
def Seg (all : List Fv) (v x : Int) (len : Nat) (δ : Nat → Option Int) (p : Nat) (C : List (Int × Int × Int)) (D : List Int) : Prop :=
  ∀ (k : Nat) c d, C[k]? = some c → D[k]? = some d → OkI all v x len δ (p + k) c d
theorem Seg.nil {all : List Fv} {v x : Int} {len : Nat} {δ : Nat → Option Int} {p : Nat} {D : List Int} : Seg all v x len δ p [] D := fun k c d h _ => by simp at h
theorem Seg.cons {all : List Fv} {v x : Int} {len : Nat} {δ : Nat → Option Int} {p : Nat} {c : Int × Int × Int} {C : List (Int × Int × Int)} {d : Int} {D : List Int} (h0 : OkI all v x len δ p c d) (h : Seg all v x len δ (p + 1) C D) : Seg all v x len δ p (c :: C) (d :: D) := fun k c' d' hc hd => by
  cases k with
  | zero => simp only [List.getElem?_cons_zero, Option.some.injEq] at hc hd; subst hc; subst hd; exact h0
  | succ k =>
    simp only [List.getElem?_cons_succ] at hc hd
    have := h k c' d' hc hd
    rwa [show p + (k + 1) = p + 1 + k by omega]
theorem Seg.app {all : List Fv} {v x : Int} {len : Nat} {δ : Nat → Option Int} {p : Nat} {C1 C2 : List (Int × Int × Int)} {D1 D2 : List Int} (e : C1.length = D1.length) (h1 : Seg all v x len δ p C1 D1) (h2 : Seg all v x len δ (p + C1.length) C2 D2) : Seg all v x len δ p (C1 ++ C2) (D1 ++ D2) := fun k c d hc hd => by
  by_cases hk : k < C1.length
  · rw [List.getElem?_append_left hk] at hc
    rw [List.getElem?_append_left (by omega)] at hd
    exact h1 k c d hc hd
  · rw [List.getElem?_append_right (by omega)] at hc
    rw [List.getElem?_append_right (by omega), ← e] at hd
    have := h2 _ c d hc hd
    rwa [Nat.add_assoc, Nat.add_sub_cancel' (by omega)] at this

/-- The depths of an expressions' instructions, of a statement's. -/
def dE : ES → Int → List Int
  | .nil, _ => []
  | .cons _ _ _ l r, d => dE l d ++ ((d + l.len) :: dE r (d + 1))
def dI (c B E : List Int) (op k : Int) : List Int :=
  if op = 7 then c ++ (1 :: (B ++ (0 :: E))) else if op = 8 then c ++ (1 :: (B ++ [0])) else c ++ [k]
def dS : SS → List Int
  | .nil => []
  | .cons op _ _ l b e r => dI (dE l 0) (dS b) (dS e) op l.len ++ dS r
/-- An instruction that takes t, leaves one, and goes on. -/
def One (all : List Fv) (v x : Int) (c : Int × Int × Int) (t : Nat) : Prop := mayB v x all.length c.1 c.2.1 c.2.2 = true ∧ takesB all c.1 c.2.1 = t ∧ (kdOf c.1).leaves = 1 ∧ c.1 ≠ 18 ∧ c.1 ≠ 15 ∧ c.1 ≠ 16
/-- All instructions of expressions are such. -/
def ES.one (all : List Fv) (v x : Int) (s : Sp) (pl : ByteArray → Int) : ES → Prop
  | .nil => True
  | .cons op m y l r => One all v x (mkI s pl op m y) l.len ∧ l.one all v x s pl ∧ r.one all v x s pl
/-- An instruction that takes t, leaves none, and goes on or returns. -/
def Non (all : List Fv) (v x : Int) (c : Int × Int × Int) (t : Nat) : Prop := mayB v x all.length c.1 c.2.1 c.2.2 = true ∧ takesB all c.1 c.2.1 = t ∧ (kdOf c.1).leaves = 0 ∧ c.1 ≠ 15 ∧ c.1 ≠ 16
def SS.non (all : List Fv) (v x : Int) (s : Sp) (pl : ByteArray → Int) : SS → Prop
  | .nil => True
  | .cons op y m l b e r => (if op = 7 ∨ op = 8 then l.len = 1 else Non all v x (doI s op m y) l.len) ∧ l.one all v x s pl ∧ b.non all v x s pl ∧ e.non all v x s pl ∧ r.non all v x s pl
theorem dE_len (s : Sp) (pl : ByteArray → Int) : ∀ (l : ES) (d : Int), (cE s pl l).length = (dE l d).length
  | .nil, _ => rfl
  | .cons op m x l r, d => by simp [cE, dE, dE_len s pl l d, dE_len s pl r (d + 1)]
theorem dS_len (s : Sp) (pl : ByteArray → Int) : ∀ (l : SS) (p : Nat), (cS s pl l p).length = (dS l).length
  | .nil, _ => rfl
  | .cons op x m l b e r, p => by
    have h1 := dE_len s pl l 0
    have h2 := fun q => dS_len s pl b q
    have h3 := fun q => dS_len s pl e q
    simp only [cS, dS, List.length_append, dS_len s pl r]
    congr 1
    unfold stI dI
    split
    · simp only [List.length_append, List.length_cons, h1, h2, h3]
    split
    · simp only [List.length_append, List.length_cons, List.length_nil, h1, h2]
    · simp only [List.length_append, List.length_cons, List.length_nil, h1]
theorem next_ok {all : List Fv} {v x : Int} {len : Nat} {δ : Nat → Option Int} {i : Nat} {c : Int × Int × Int} {d b : Int} (h1 : mayB v x all.length c.1 c.2.1 c.2.2 = true) (h2 : takesB all c.1 c.2.1 ≤ d) (h3 : c.1 ≠ 15) (h4 : c.1 ≠ 16) (hb : d - takesB all c.1 c.2.1 + (kdOf c.1).leaves = b) (hg : δ (i + 1) = some b) (hL : i + 1 < len) : OkI all v x len δ i c d := by
  refine ⟨h1, h2, ?_⟩
  by_cases h5 : c.1 = 18
  · rw [if_pos h5]; trivial
  rw [if_neg h5, if_neg h3, if_neg h4, hb]
  exact ⟨by omega, by omega, by rw [show ((i : Int) + 1).toNat = i + 1 by omega]; exact hg⟩
theorem dE_head : ∀ (z : ES) (d : Int), ∃ R, dE z d ++ [d + z.len] = d :: R := by
  intro z
  induction z with
  | nil => intro d; exact ⟨[], by simp [dE, ES.len]⟩
  | cons o m y l r ihl ihr =>
    intro d
    obtain ⟨R, hR⟩ := ihl d
    cases hz : dE l d with
    | nil =>
      rw [hz] at hR
      simp only [List.nil_append, List.cons.injEq] at hR
      exact ⟨_, by simp only [dE, hz, List.nil_append, List.cons_append]; rw [hR.1]⟩
    | cons a t =>
      rw [hz] at hR
      simp only [List.cons_append, List.cons.injEq] at hR
      exact ⟨_, by simp only [dE, hz, List.cons_append]; rw [hR.1]⟩
theorem segE {all : List Fv} {v x : Int} {s : Sp} {pl : ByteArray → Int} {len : Nat} {δ : Nat → Option Int} (hδ : ∀ i d, δ i = some d → i < len) : ∀ (l : ES) (p : Nat) (d : Int), 0 ≤ d → l.one all v x s pl → DRd δ p (dE l d ++ [d + l.len]) → Seg all v x len δ p (cE s pl l) (dE l d)
  | .nil, _, _, _, _, _ => Seg.nil
  | .cons op m y l r, p, d, h0, h, hr => by
    obtain ⟨⟨g1, g2, g3, g4, g5, g6⟩, hl, hr'⟩ := h
    have e1 := dE_len s pl l d
    have hr1 : DRd δ p (dE l d ++ ([d + l.len] ++ (dE r (d + 1) ++ [d + 1 + r.len]))) := by
      have : ((d + (ES.cons op m y l r).len : Int)) = d + 1 + r.len := by simp only [ES.len]; omega
      rw [this] at hr
      simpa [dE] using hr
    have hA : DRd δ p (dE l d ++ [d + l.len]) := hr1.left.app (hr1.right.left)
    have hB : DRd δ (p + (dE l d).length + 1) (dE r (d + 1) ++ [d + 1 + r.len]) := hr1.right.right
    have hn : δ (p + (dE l d).length + 1) = some (d + 1) := by
      cases r with
      | nil => simpa [dE, ES.len] using hB.head
      | cons op2 m2 y2 l2 r2 =>
        obtain ⟨R, hR⟩ := dE_head (.cons op2 m2 y2 l2 r2) (d + 1)
        rw [hR] at hB
        exact hB.head
    refine Seg.app e1 (segE hδ l p d h0 hl hA) ?_
    refine Seg.cons ?_ ?_
    · refine next_ok g1 (by omega) g5 g6 (b := d + 1) (by rw [g2, g3]; omega) (by rw [e1]; exact hn) (by rw [e1]; exact hδ _ _ hn)
    · rw [e1]; exact segE hδ r _ (d + 1) (by omega) hr' hB
theorem dS_head {all : List Fv} {v x : Int} {s : Sp} {pl : ByteArray → Int} (l : SS) (h : l.non all v x s pl) : ∃ R, dS l ++ [0] = 0 :: R := by
  cases l with
  | nil => exact ⟨[], rfl⟩
  | cons op y m l b e r =>
    obtain ⟨R, hR⟩ := dE_head l 0
    have h1 := h.1
    simp only [dS, dI]
    by_cases e7 : op = 7
    · rw [if_pos (.inl e7)] at h1
      rw [if_pos e7]
      cases hz : dE l 0 with
      | nil => rw [hz, h1] at hR; simp at hR
      | cons a t => rw [hz] at hR; simp only [List.cons_append, List.cons.injEq] at hR ⊢; exact ⟨_, hR.1, rfl⟩
    rw [if_neg e7]
    by_cases e8 : op = 8
    · rw [if_pos (.inr e8)] at h1
      rw [if_pos e8]
      cases hz : dE l 0 with
      | nil => rw [hz, h1] at hR; simp at hR
      | cons a t => rw [hz] at hR; simp only [List.cons_append, List.cons.injEq] at hR ⊢; exact ⟨_, hR.1, rfl⟩
    · rw [if_neg e8]
      rw [Int.zero_add] at hR
      rw [hR]
      exact ⟨_, rfl⟩
theorem goes_of {len : Nat} {δ : Nat → Option Int} (hδ : ∀ i d, δ i = some d → i < len) {q : Nat} {b : Int} (h : δ q = some b) : goes len δ (q : Int) b := ⟨by omega, by have := hδ q b h; omega, by rw [Int.toNat_natCast]; exact h⟩
theorem segS {all : List Fv} {v x : Int} {s : Sp} {pl : ByteArray → Int} {len : Nat} {δ : Nat → Option Int} (hδ : ∀ i d, δ i = some d → i < len) : ∀ (l : SS) (p : Nat), l.non all v x s pl → DRd δ p (dS l ++ [0]) → Seg all v x len δ p (cS s pl l p) (dS l)
  | .nil, _, _, _ => Seg.nil
  | .cons op y m l b e r, p, h, hr => by
    obtain ⟨h0, hl, hb, he, hr'⟩ := h
    obtain ⟨R, hR⟩ := dS_head r hr'
    have e1 := dE_len s pl l 0
    have eb := fun q => dS_len s pl b q
    have ee := fun q => dS_len s pl e q
    have hr0 : DRd δ p (dI (dE l 0) (dS b) (dS e) op l.len ++ (dS r ++ [0])) := by simpa [dS] using hr
    have hr1 : DRd δ p (dI (dE l 0) (dS b) (dS e) op l.len ++ [0]) := by
      rw [hR] at hr0
      exact DRd.left (B := R) (by simpa using hr0)
    have hd1 : (stI p (cE s pl l) (cS s pl b (p + (cE s pl l).length + 1)) (cS s pl e) (doI s op m y) op).length = (dI (dE l 0) (dS b) (dS e) op l.len).length := by
      unfold stI dI
      split
      · simp only [List.length_append, List.length_cons, e1, eb, ee]
      split
      · simp only [List.length_append, List.length_cons, List.length_nil, e1, eb]
      · simp only [List.length_append, List.length_cons, List.length_nil, e1]
    simp only [cS, dS]
    refine Seg.app hd1 ?_ ?_
    · clear hr0 hr hR hd1
      unfold stI dI
      unfold dI at hr1
      by_cases e7 : op = 7
      · rw [if_pos (.inl e7)] at h0
        rw [if_pos e7] at hr1
        rw [if_pos e7, if_pos e7]
        have k1 : DRd δ p (dE l 0 ++ [0 + (l.len : Int)]) := by
          rw [h0]
          exact DRd.left (B := dS b ++ (0 :: dS e) ++ [0]) (by simpa using hr1)
        have k2 : DRd δ (p + (dE l 0).length) (1 :: (dS b ++ (0 :: (dS e ++ [0])))) := DRd.right (A := dE l 0) (by simpa using hr1)
        have k3 : DRd δ (p + (dE l 0).length + 1) (dS b ++ [0]) := DRd.left (B := dS e ++ [0]) (by simpa using DRd.right (A := [1]) k2)
        have k4 : DRd δ (p + (dE l 0).length + 1 + (dS b).length + 1) (dS e ++ [0]) := DRd.right (A := [0]) (DRd.right (A := dS b) (DRd.right (A := [1]) k2))
        have k5 : δ (p + (dE l 0).length + 1 + (dS b).length + 1 + (dS e).length) = some 0 := k4.right.head
        obtain ⟨Rb, hRb⟩ := dS_head b hb
        obtain ⟨Re, hRe⟩ := dS_head e he
        have k6 : δ (p + (dE l 0).length + 1) = some 0 := by have := k3; rw [hRb] at this; exact this.head
        have k7 : δ (p + (dE l 0).length + 1 + (dS b).length + 1) = some 0 := by have := k4; rw [hRe] at this; exact this.head
        rw [← e1] at k3 k4 k5 k6 k7
        rw [← eb (p + (cE s pl l).length + 1)] at k4 k5 k7
        refine Seg.app e1 (segE hδ l p 0 (by omega) hl k1) (Seg.cons ⟨rfl, by show (1 : Int) ≤ 1; omega, ?_⟩ (Seg.app (eb _) (segS hδ b _ hb k3) (Seg.cons ⟨rfl, by show (0 : Int) ≤ 0; omega, ?_⟩ (segS hδ e _ he k4))))
        · rw [if_neg (by show ¬ (16 : Int) = 18; decide), if_neg (by show ¬ (16 : Int) = 15; decide), if_pos rfl]
          exact ⟨goes_of hδ k7, goes_of hδ (q := p + (cE s pl l).length + 1) k6⟩
        · rw [if_neg (by show ¬ (15 : Int) = 18; decide), if_pos rfl]
          rw [← ee (p + (cE s pl l).length + 1 + (cS s pl b (p + (cE s pl l).length + 1)).length + 1)] at k5
          exact goes_of hδ k5
      rw [if_neg e7] at hr1
      rw [if_neg e7, if_neg e7]
      by_cases e8 : op = 8
      · rw [if_pos (.inr e8)] at h0
        rw [if_pos e8] at hr1
        rw [if_pos e8, if_pos e8]
        have k1 : DRd δ p (dE l 0 ++ [0 + (l.len : Int)]) := by
          rw [h0]
          exact DRd.left (B := dS b ++ [0] ++ [0]) (by simpa using hr1)
        have k2 : DRd δ (p + (dE l 0).length) (1 :: (dS b ++ (0 :: [0]))) := DRd.right (A := dE l 0) (by simpa using hr1)
        have k3 : DRd δ (p + (dE l 0).length + 1) (dS b ++ [0]) := DRd.left (B := [0]) (by simpa using DRd.right (A := [1]) k2)
        have k7 : δ (p + (dE l 0).length + 1 + (dS b).length + 1) = some 0 := DRd.head (A := []) (DRd.right (A := [0]) (DRd.right (A := dS b) (DRd.right (A := [1]) k2)))
        obtain ⟨Rb, hRb⟩ := dS_head b hb
        obtain ⟨Rl, hRl⟩ := dE_head l 0
        have k6 : δ (p + (dE l 0).length + 1) = some 0 := by have := k3; rw [hRb] at this; exact this.head
        have k0 : δ p = some 0 := by have := k1; rw [hRl] at this; exact this.head
        rw [← e1] at k3 k6 k7
        rw [← eb (p + (cE s pl l).length + 1)] at k7
        refine Seg.app e1 (segE hδ l p 0 (by omega) hl k1) (Seg.cons ⟨rfl, by show (1 : Int) ≤ 1; omega, ?_⟩ (Seg.app (eb _) (segS hδ b _ hb k3) (Seg.cons ⟨rfl, by show (0 : Int) ≤ 0; omega, ?_⟩ Seg.nil)))
        · rw [if_neg (by show ¬ (16 : Int) = 18; decide), if_neg (by show ¬ (16 : Int) = 15; decide), if_pos rfl]
          exact ⟨goes_of hδ k7, goes_of hδ (q := p + (cE s pl l).length + 1) k6⟩
        · rw [if_neg (by show ¬ (15 : Int) = 18; decide), if_pos rfl]
          exact goes_of hδ k0
      rw [if_neg (fun h => h.elim e7 e8)] at h0
      rw [if_neg e8] at hr1
      rw [if_neg e8, if_neg e8]
      obtain ⟨g1, g2, g3, g4, g5⟩ := h0
      have k1 : DRd δ p (dE l 0 ++ [0 + (l.len : Int)]) := by
        rw [Int.zero_add]
        exact hr1.left
      have k2 : δ (p + (dE l 0).length + 1) = some 0 := DRd.head (A := []) (DRd.right (A := [(l.len : Int)]) (DRd.right (A := dE l 0) (by simpa using hr1)))
      rw [← e1] at k2
      exact Seg.app e1 (segE hδ l p 0 (by omega) hl k1) (Seg.cons (next_ok g1 (by omega) g4 g5 (b := 0) (by rw [g2, g3]; omega) k2 (hδ _ _ k2)) Seg.nil)
    · have h2 := DRd.right hr0
      rw [← hd1] at h2
      exact segS hδ r _ hr' h2
/-- A body whose instructions are all such: the function is right. -/
theorem fnL_runs {all : List Fv} {f : Fv} {s : Sp} {pl : ByteArray → Int} {b : SS} (hb : b.non all f.v f.x s pl) (hL : f.L = fnL s pl b) : runsB all f = true := by
  have e := dS_len s pl b 0
  have hlen : f.L.length = (dS b ++ [0, 1]).length := by rw [hL]; simp [fnL, e]
  have hδ : ∀ (i : Nat) d, (fun i => (dS b ++ [0, 1])[i]?) i = some d → i < f.L.length := fun i d h => by rw [hlen]; exact (List.getElem?_eq_some_iff.1 h).1
  have hr : DRd (fun i => (dS b ++ [0, 1])[i]?) 0 (dS b ++ ([0] ++ [1])) := fun k x h => by simpa using h
  obtain ⟨R, hR⟩ := dS_head b hb
  have h1 : DRd (fun i => (dS b ++ [0, 1])[i]?) 0 (dS b ++ [0]) := DRd.left (B := [1]) (by simpa using hr)
  have h2 := hr.right
  have seg : Seg all f.v f.x f.L.length (fun i => (dS b ++ [0, 1])[i]?) 0 f.L (dS b ++ [0, 1]) := by
    have hs := segS hδ b 0 hb h1
    have h3 : (fun i => (dS b ++ [0, 1])[i]?) (0 + (cS s pl b 0).length + 1) = some 1 := by
      rw [e]
      exact DRd.head (A := []) (DRd.right (A := [0]) h2)
    have := Seg.app (C2 := [(1, 0, 0), (18, 0, 0)]) (D2 := [0, 1]) e hs (Seg.cons (next_ok rfl (by show (0 : Int) ≤ 0; omega) (by decide) (by decide) (b := 1) rfl h3 (hδ _ _ h3)) (Seg.cons ⟨rfl, by show (1 : Int) ≤ 1; omega, by rw [if_pos rfl]; trivial⟩ Seg.nil))
    rw [show cS s pl b 0 ++ [(1, 0, 0), (18, 0, 0)] = f.L by rw [hL]; rfl] at this
    exact this
  refine runs_snd (δ := fun i => (dS b ++ [0, 1])[i]?) (by rw [hlen]; simp) ?_ fun i c d hc hd => ?_
  · rw [hR] at h1; exact h1.head
  · have := seg i c d hc hd
    rwa [Nat.zero_add] at this
end Go.Proofs.YtbgjlmcagdgpkaaDoor

/-
  What was compiled is right, plainly (VerifyCompiled).
-/
namespace Go.Proofs.YtbgjlmcagdgpkaaDoor
open Go Go.RowKit Go.Lib

theorem run_xs (ar : ByteArray → Option Nat) : ∀ (l : List Us) (g : Gt) (s : ByteArray), s ∈ g.xs → s ∈ (g.run ar l).xs
  | [], _, _, h => h
  | u :: l, g, s, h => by
    have e : g.run ar (u :: l) = (g.step ar u).run ar l := rfl
    rw [e]
    refine run_xs ar l _ s ?_
    cases u with
    | var t => exact h
    | arr t => exact withN_mem.2 (.inl h)
    | mk t => exact withN_mem.2 (.inl h)
    | call t n => exact h
/-- What names are used so is gathered; what is called has so many parameters. -/
theorem run_mem (ar : ByteArray → Option Nat) : ∀ (l : List Us) (g : Gt), (g.run ar l).ok = true → ∀ u ∈ l, match u with
    | .var s => s ∈ (g.run ar l).vs
    | .arr s => s ∈ (g.run ar l).xs
    | .mk s => s ∈ (g.run ar l).xs
    | .call s n => ar s = some n
  | [], _, _, u, hu => by cases hu
  | u :: l, g, h, x, hx => by
    have e : g.run ar (u :: l) = (g.step ar u).run ar l := rfl
    rw [e] at h ⊢
    rcases List.mem_cons.1 hx with rfl | hx
    · obtain ⟨⟨t, h1⟩, _, _, h4⟩ := run_grows ar l (g.step ar x)
      cases x with
      | var s => rw [h1]; exact List.mem_append_left _ (withN_mem.2 (.inr rfl))
      | arr s => exact run_xs ar l _ s (withN_mem.2 (.inr rfl))
      | mk s => exact run_xs ar l _ s (withN_mem.2 (.inr rfl))
      | call s n =>
        have := h4 h
        simp only [Gt.step, Bool.and_eq_true, decide_eq_true_eq] at this
        exact this.2
    · exact run_mem ar l _ h x hx
/-- The function that a name calls, and its place. -/
theorem plG_ar (ar : ByteArray → Option Nat) (s : ByteArray) (n : Nat) : ∀ (fs : List Fn) (k : Nat) (a : Option Nat) (d : Int), fs.foldl (fun a f => if f.s = s then some f.ps.length else a) a = some n →
    (∃ (i : Nat) (f : Fn), fs[i]? = some f ∧ f.ps.length = n ∧ plG (fs.map (spFn ar)) k d s = ((k + i : Nat) : Int)) ∨ (a = some n ∧ plG (fs.map (spFn ar)) k d s = d)
  | [], _, _, _, h => .inr ⟨h, rfl⟩
  | f :: fs, k, a, d, h => by
    simp only [List.foldl_cons] at h
    have e : plG ((f :: fs).map (spFn ar)) k d s = plG (fs.map (spFn ar)) (k + 1) (if f.s = s then (k : Int) else d) s := rfl
    rw [e]
    rcases plG_ar ar s n fs (k + 1) _ (if f.s = s then (k : Int) else d) h with ⟨i, g, h1, h2, h3⟩ | ⟨h1, h2⟩
    · exact .inl ⟨i + 1, g, h1, h2, by rw [h3]; omega⟩
    · rw [h2]
      by_cases hs : f.s = s
      · rw [if_pos hs] at h1 ⊢
        injection h1 with h1
        exact .inl ⟨0, f, rfl, h1, rfl⟩
      · rw [if_neg hs] at h1 ⊢
        exact .inr ⟨h1, rfl⟩
/-- A function of the program as verify sees it. -/
def fvP (p : Pg) (f : Fn) : Fv := ⟨f.s, f.ps.length, (spFn (arF p.fs) f).vs.length, (spFn (arF p.fs) f).xs.length, fnL (spFn (arF p.fs) f) (plOf (scopes p)) f.b⟩
def fvs (p : Pg) : List Fv := (mainF p :: p.fs).map (fvP p)
theorem call_at {p : Pg} {s : ByteArray} {n : Nat} (h : arF p.fs s = some n) : 1 ≤ plOf (scopes p) s ∧ plOf (scopes p) s ≤ ((fvs p).length : Int) - 1 ∧ parAt (fvs p) (plOf (scopes p) s) = n := by
  have e : plOf (scopes p) s = plG (p.fs.map (spFn (arF p.fs))) 1 (if (mainF p).s = s then ((0 : Nat) : Int) else 0) s := rfl
  rcases plG_ar (arF p.fs) s n p.fs 1 none (if (mainF p).s = s then ((0 : Nat) : Int) else 0) h with ⟨i, f, h1, h2, h3⟩ | ⟨h1, _⟩
  · rw [e, h3]
    have hi := (List.getElem?_eq_some_iff.1 h1).1
    refine ⟨by omega, by simp [fvs]; omega, ?_⟩
    unfold parAt fvs
    have : ((1 + i : Nat) : Int).toNat = i + 1 := by omega
    rw [this, List.getElem?_map]
    show (((((mainF p :: p.fs)[i + 1]?).map (fvP p)).map Fv.n).getD 0 : Int) = n
    rw [List.getElem?_cons_succ, h1]
    show (f.ps.length : Int) = n
    rw [h2]
  · cases h1
/-- What a use asks of a scope. -/
def UOk (all : List Fv) (s : Sp) (pl : ByteArray → Int) : Us → Prop
  | .var y => y ∈ s.vs
  | .arr y => y ∈ s.xs
  | .mk y => y ∈ s.xs
  | .call y n => 1 ≤ pl y ∧ pl y ≤ (all.length : Int) - 1 ∧ parAt all (pl y) = n
theorem slotP_in {l : List ByteArray} {s : ByteArray} (h : s ∈ l) : inI (slotP l s) 0 ((l.length : Int) - 1) = true := by
  have : l.findIdx (fun x => decide (x = s)) < l.length := List.findIdx_lt_length_of_exists ⟨s, h, by simp⟩
  unfold slotP inI
  rw [if_pos h]
  simp only [Bool.and_eq_true, decide_eq_true_eq]
  omega
theorem one_of {all : List Fv} {s : Sp} {pl : ByteArray → Int} : ∀ l : ES, l.ok = true → (∀ u ∈ l.us, UOk all s pl u) → l.one all s.vs.length s.xs.length s pl
  | .nil, _, _ => trivial
  | .cons op m y l r, h, hu => by
    simp only [ES.ok, Bool.and_eq_true] at h
    obtain ⟨⟨h1, h2⟩, h3⟩ := h
    simp only [ES.us, List.mem_append] at hu
    refine ⟨?_, one_of l h2 fun u hx => hu u (.inr (.inl hx)), one_of r h3 fun u hx => hu u (.inr (.inr hx))⟩
    have hop : 1 ≤ op ∧ op ≤ 16 := by
      unfold fitP fitQ shOf at h1
      simp only [Bool.and_eq_true, Bool.false_eq_true, if_false] at h1
      have := h1.1
      split at this
      · assumption
      · cases this
    have hu0 := fun u hx => hu u (.inl hx)
    clear hu h2 h3
    have hc : op = 1 ∨ op = 2 ∨ op = 3 ∨ op = 4 ∨ op = 5 ∨ op = 6 ∨ op = 7 ∨ op = 8 ∨ op = 9 ∨ op = 10 ∨ op = 11 ∨ op = 12 ∨ op = 13 ∨ op = 14 ∨ op = 15 ∨ op = 16 := by omega
    rcases hc with rfl | rfl | rfl | rfl | rfl | rfl | rfl | rfl | rfl | rfl | rfl | rfl | rfl | rfl | rfl | rfl
    case inr.inl =>
      have hl : l.len = 0 := by simp [fitP, fitQ, shOf, exprT] at h1; omega
      have := hu0 (.var y) (by simp [exU])
      exact ⟨slotP_in this, by rw [hl]; rfl, rfl, by simp [mkI], by simp [mkI], by simp [mkI]⟩
    case inr.inr.inr.inl =>
      have hl : l.len = 1 := by simp [fitP, fitQ, shOf, exprT] at h1; omega
      have := hu0 (.arr y) (by simp [exU])
      exact ⟨slotP_in this, by rw [hl]; rfl, rfl, by simp [mkI], by simp [mkI], by simp [mkI]⟩
    case inr.inr.inr.inr.inl =>
      obtain ⟨c1, c2, c3⟩ := hu0 (.call y l.len) (by simp [exU])
      refine ⟨?_, c3, rfl, by simp [mkI], by simp [mkI], by simp [mkI]⟩
      show inI (pl y) 1 ((all.length : Int) - 1) = true
      unfold inI
      rw [decide_eq_true c1, decide_eq_true c2]
      rfl
    all_goals
      have hl := h1
      simp [fitP, fitQ, shOf, exprT] at hl
      exact ⟨rfl, by show ((_ : Nat) : Int) = _; simp [mkI, sameT, kdOf, knownB, kindT]; omega, rfl, by simp [mkI, sameT], by simp [mkI, sameT], by simp [mkI, sameT]⟩
theorem non_of {all : List Fv} {s : Sp} {pl : ByteArray → Int} : ∀ l : SS, l.ok = true → (∀ u ∈ l.us, UOk all s pl u) → l.non all s.vs.length s.xs.length s pl
  | .nil, _, _ => trivial
  | .cons op y m l b e r, h, hu => by
    simp only [SS.ok, Bool.and_eq_true] at h
    obtain ⟨⟨h1, h2, h3, h4⟩, h5⟩ := h
    simp only [SS.us, List.mem_append] at hu
    refine ⟨?_, one_of l h2 fun u hx => hu u (.inr (.inl hx)), non_of b h3 fun u hx => hu u (.inr (.inr (.inl hx))), non_of e h4 fun u hx => hu u (.inr (.inr (.inr (.inl hx)))), non_of r h5 fun u hx => hu u (.inr (.inr (.inr (.inr hx))))⟩
    have hop : 1 ≤ op ∧ op ≤ 9 := by
      unfold fitP fitQ shOf at h1
      simp only [Bool.and_eq_true, if_true] at h1
      have := h1.1
      split at this
      · assumption
      · cases this
    have hu0 := fun u hx => hu u (.inl hx)
    clear hu h2 h3 h4 h5
    have hc : op = 1 ∨ op = 2 ∨ op = 3 ∨ op = 4 ∨ op = 5 ∨ op = 6 ∨ op = 7 ∨ op = 8 ∨ op = 9 := by omega
    rcases hc with rfl | rfl | rfl | rfl | rfl | rfl | rfl | rfl | rfl
    all_goals have hl := h1
    all_goals simp [fitP, fitQ, shOf, stmtT] at hl
    · have := hu0 (.var y) (by simp [stU])
      rw [if_neg (by decide)]
      exact ⟨slotP_in this, by rw [show l.len = 1 by omega]; rfl, rfl, by simp [doI], by simp [doI]⟩
    · have := hu0 (.arr y) (by simp [stU])
      rw [if_neg (by decide)]
      exact ⟨slotP_in this, by rw [show l.len = 2 by omega]; rfl, rfl, by simp [doI], by simp [doI]⟩
    · have := hu0 (.mk y) (by simp [stU])
      rw [if_neg (by decide)]
      refine ⟨?_, by rw [show l.len = 0 by omega]; rfl, rfl, by simp [doI], by simp [doI]⟩
      show (inI (slotP s.xs y) 0 ((s.xs.length : Int) - 1) && inI m 1 4096) = true
      rw [slotP_in this]
      unfold inI
      simp only [Bool.true_and, Bool.and_eq_true, decide_eq_true_eq]
      omega
    · have := hu0 (.var y) (by simp [stU])
      rw [if_neg (by decide)]
      refine ⟨?_, by rw [show l.len = 0 by omega]; rfl, rfl, by simp [doI], by simp [doI]⟩
      show (inI (slotP s.vs y) 0 ((s.vs.length : Int) - 1) && inI (listP y) 0 1) = true
      rw [slotP_in this]
      unfold inI listP
      split <;> rfl
    · rw [if_neg (by decide)]
      exact ⟨rfl, by rw [show l.len = 1 by omega]; rfl, rfl, by simp [doI], by simp [doI]⟩
    · rw [if_neg (by decide)]
      exact ⟨rfl, by rw [show l.len = 1 by omega]; rfl, rfl, by simp [doI], by simp [doI]⟩
    · rw [if_pos (by decide)]; omega
    · rw [if_pos (by decide)]; omega
    · rw [if_neg (by decide)]
      exact ⟨rfl, by rw [show l.len = 1 by omega]; rfl, rfl, by simp [doI], by simp [doI]⟩
/-- What was compiled is right. -/
theorem fvs_right {p : Pg} (h : resErr p = 0) : codeErr (fvs p) = 0 := by
  obtain ⟨hr, _, _, hok, hfull⟩ := res_once h
  obtain ⟨q1, q2⟩ := right_parts1 hr
  have hfs : p.fs.length ≤ 32 ∧ ∀ f ∈ p.fs, f.ps.length ≤ 8 := by
    unfold rightN at hr
    by_cases hc : (funcsB p.fs && okL p.pts) = true
    · rw [Bool.and_eq_true] at hc
      have h1 := hc.1
      unfold funcsB at h1
      rw [Bool.and_eq_true, decide_eq_true_eq] at h1
      refine ⟨h1.1, ?_⟩
      have key : ∀ l : List Fn, fsOk l = true → ∀ f ∈ l, f.ps.length ≤ 8 := by
        intro l
        induction l with
        | nil => intro _ f hf; cases hf
        | cons g l ih =>
          intro hl f hf
          simp only [fsOk, Bool.and_eq_true, paramsB, decide_eq_true_eq] at hl
          rcases List.mem_cons.1 hf with rfl | hf
          · exact hl.1.2.1
          · exact ih hl.2 f hf
      exact key p.fs h1.2
    · rw [if_neg hc] at hr; cases hr
  have hall : ∀ f ∈ mainF p :: p.fs, f.b.ok = true ∧ f.ps.length ≤ 8 := fun f hf => by
    rcases List.mem_cons.1 hf with rfl | hf
    · exact ⟨q2, by simp [mainF]⟩
    · exact ⟨(q1 f hf).2.2, hfs.2 f hf⟩
  have hruns : ∀ f ∈ mainF p :: p.fs, runsB (fvs p) (fvP p f) = true := fun f hf => by
    refine fnL_runs (s := spFn (arF p.fs) f) (pl := plOf (scopes p)) (b := f.b) ?_ rfl
    refine non_of f.b (hall f hf).1 fun u hu => ?_
    have ho := hok f hf
    unfold okFn at ho
    rw [Bool.and_eq_true] at ho
    have hm := run_mem (arF p.fs) f.b.us { gPar f.ps with ok := decide ((gPar f.ps).vs.length = f.ps.length) } ho.1 u hu
    cases u with
    | var y => exact hm
    | arr y => exact hm
    | mk y => exact hm
    | call y n => exact call_at hm
  have hfit : ∀ f ∈ mainF p :: p.fs, unfitB (fvP p f) = false := fun f hf => by
    obtain ⟨_, t, ht⟩ := sp_once (hok f hf)
    have h1 := hfull (spFn (arF p.fs) f) (List.mem_map_of_mem hf)
    have h2 := (hall f hf).2
    have h3 : f.ps.length ≤ (spFn (arF p.fs) f).vs.length := by rw [ht]; simp
    unfold unfitB inI fvP
    simp only [Bool.or_eq_false_iff, Bool.not_eq_false', Bool.and_eq_true, decide_eq_true_eq]
    omega
  unfold codeErr
  rw [if_pos]
  unfold codeB sizedB
  simp only [Bool.and_eq_true, Bool.not_eq_true']
  refine ⟨⟨⟨?_, rfl⟩, ?_⟩, ?_⟩
  · have := hfs.1
    unfold inI fvs
    simp only [List.length_map, List.length_cons, Bool.and_eq_true, decide_eq_true_eq]
    omega
  · rw [List.any_eq_false]
    intro f hf
    obtain ⟨g, hg, rfl⟩ := List.mem_map.1 hf
    rw [hfit g hg]; decide
  · rw [List.all_eq_true]
    intro f hf
    obtain ⟨g, hg, rfl⟩ := List.mem_map.1 hf
    exact hruns g hg
end Go.Proofs.YtbgjlmcagdgpkaaDoor

