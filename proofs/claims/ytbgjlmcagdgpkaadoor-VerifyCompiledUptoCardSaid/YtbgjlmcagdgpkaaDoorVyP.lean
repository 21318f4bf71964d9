/-
  Which code may be run, plainly: the places that are reached, each with one depth.
-/
import Derived.Test.YtbgjlmcagdgpkaaDoorCoE
namespace Go.Proofs.YtbgjlmcagdgpkaaDoor
open Go Go.RowKit Go.Lib

/-- A function of any code. -/
structure Fv where
  s : ByteArray
  n : Int
  v : Int
  x : Int
  L : List (Int × Int × Int)
def inI (a lo hi : Int) : Bool := decide (lo ≤ a) && decide (a ≤ hi)
def unfitB (f : Fv) : Bool := !inI f.v 0 64 || !inI f.x 0 64 || !inI f.n 0 (min f.v 8)
def mainOk : List Fv → Bool
  | [] => false
  | f :: _ => f.n == 0
def sizedB (l : List Fv) : Bool := inI l.length 1 33 && mainOk l && !l.any unfitB
/-- The depth of a place that was reached. -/
def look : List (Nat × Int) → Nat → Option Int
  | [], _ => none
  | (k, d) :: r, i => if k = i then some d else look r i
/-- What was reached; who waits. -/
structure Vs where
  D : List (Nat × Int)
  Q : List Nat
def Vs.reach (len : Nat) (st : Vs) (a d : Int) : Option Vs :=
  if 0 ≤ a ∧ a < len then
    match look st.D a.toNat with
    | none => some ⟨(a.toNat, d) :: st.D, st.Q ++ [a.toNat]⟩
    | some e => if e = d then some st else none
  else none
def mayB (v x : Int) (k : Nat) (op a n : Int) : Bool :=
  if op = 2 ∨ op = 3 then inI a 0 (v - 1) else if op = 21 then inI a 0 (v - 1) && inI n 0 1 else if op = 22 then inI a 0 (x - 1) && inI n 1 4096
  else if op = 23 ∨ op = 24 then inI a 0 (x - 1) else if op = 17 then inI a 1 ((k : Int) - 1) else knownB op
def parAt (all : List Fv) (a : Int) : Int := ((all[a.toNat]?).map Fv.n).getD 0
def takesB (all : List Fv) (op a : Int) : Int := if op = 17 then parAt all a else ((kdOf op).takes : Int)
def Vs.step (all : List Fv) (f : Fv) (st : Vs) (i : Nat) : Option Vs :=
  match f.L[i]?, look st.D i with
  | some (op, a, n), some d =>
    if mayB f.v f.x all.length op a n = true ∧ takesB all op a ≤ d then
      let b := d - takesB all op a + (kdOf op).leaves
      if op = 18 then some st else if op = 15 then st.reach f.L.length a b
      else if op = 16 then (st.reach f.L.length a b).bind fun st => st.reach f.L.length ((i : Int) + 1) b
      else st.reach f.L.length ((i : Int) + 1) b
    else none
  | _, _ => none
def runL (all : List Fv) (f : Fv) : Nat → Vs → Bool
  | 0, _ => true
  | _ + 1, ⟨_, []⟩ => true
  | k + 1, ⟨D, q :: Q⟩ =>
    match Vs.step all f ⟨D, Q⟩ q with
    | none => false
    | some st => runL all f k st
def runsB (all : List Fv) (f : Fv) : Bool :=
  match Vs.reach f.L.length ⟨[], []⟩ 0 0 with
  | none => false
  | some st => runL all f (f.L.length + 1) st
def codeB (l : List Fv) : Bool := sizedB l && l.all (runsB l)
def codeErr (l : List Fv) : Int := if codeB l = true then 0 else 6

/-- How many places below n were not reached. -/
def free (D : List (Nat × Int)) : Nat → Nat
  | 0 => 0
  | n + 1 => free D n + (if look D n = none then 1 else 0)
theorem free_ge {k : Nat} {d : Int} {D : List (Nat × Int)} (n : Nat) (h : n ≤ k) : free ((k, d) :: D) n = free D n := by
  induction n with
  | zero => rfl
  | succ n ih =>
    have h1 : k ≠ n := by omega
    have h2 := ih (by omega)
    simp only [free, look, if_neg h1, h2]
theorem free_cons {k : Nat} {d : Int} {D : List (Nat × Int)} (h0 : look D k = none) (n : Nat) (h : k < n) : free ((k, d) :: D) n + 1 = free D n := by
  induction n with
  | zero => omega
  | succ n ih =>
    by_cases e : k = n
    · subst e
      simp only [free, look, h0, free_ge k (Nat.le_refl _)]
      simp
    · have h2 := ih (by omega)
      simp only [free, look, if_neg e]
      omega
/-- What holds of all that was reached, k of them taken. -/
structure VOk (len k : Nat) (st : Vs) : Prop where
  sum : st.D.length + free st.D len = len
  cnt : k + st.Q.length = st.D.length
  key : ∀ i d, look st.D i = some d → i < len
  dep : ∀ i d, look st.D i = some d → 0 ≤ d ∧ d < st.D.length
  que : ∀ q, q ∈ st.Q → ∃ d, look st.D q = some d
theorem VOk.nil (len : Nat) : VOk len 0 ⟨[], []⟩ := by
  refine ⟨?_, rfl, fun i d h => by simp [look] at h, fun i d h => by simp [look] at h, fun q h => by simp at h⟩
  have : ∀ n, free [] n = n := by
    intro n
    induction n with
    | zero => rfl
    | succ n ih => simp [free, look, ih]
  simp [this]
theorem VOk.room {len k : Nat} {st : Vs} (h : VOk len k st) {i : Nat} (hi : i < len) (h0 : look st.D i = none) : st.D.length < len := by
  have h1 := h.sum
  have := free_cons (d := 0) h0 len hi
  omega
theorem VOk.push {len k : Nat} {st : Vs} (h : VOk len k st) {i : Nat} {d : Int} (hi : i < len) (h0 : look st.D i = none) (hd : 0 ≤ d) (hl : d ≤ st.D.length) : VOk len k ⟨(i, d) :: st.D, st.Q ++ [i]⟩ := by
  refine ⟨?_, ?_, fun j e hj => ?_, fun j e hj => ?_, fun q hq => ?_⟩
  · have h1 := h.sum
    have := free_cons (d := d) h0 len hi
    simp only [List.length_cons]; omega
  · have := h.cnt
    simp only [List.length_cons, List.length_append, List.length_nil]; omega
  · simp only [look] at hj
    split at hj
    · rename_i e1; subst e1; exact hi
    · exact h.key j e hj
  · simp only [look] at hj
    simp only [List.length_cons]
    split at hj
    · injection hj with hj; subst hj; omega
    · have := h.dep j e hj; omega
  · simp only [List.mem_append, List.mem_singleton] at hq
    simp only [look]
    by_cases e : i = q
    · exact ⟨d, if_pos e⟩
    · rw [if_neg e]
      exact h.que q (hq.resolve_right fun x => e x.symm)
theorem VOk.pop {len k q : Nat} {D : List (Nat × Int)} {Q : List Nat} (h : VOk len k ⟨D, q :: Q⟩) : VOk len (k + 1) ⟨D, Q⟩ ∧ ∃ d, look D q = some d ∧ q < len ∧ 0 ≤ d ∧ d < D.length := by
  obtain ⟨d, hd⟩ := h.que q List.mem_cons_self
  refine ⟨⟨h.sum, ?_, h.key, h.dep, fun x hx => h.que x (List.mem_cons_of_mem _ hx)⟩, d, hd, h.key q d hd, h.dep q d hd⟩
  have := h.cnt
  simp at this ⊢
  omega
theorem VOk.reach {len k : Nat} {st st' : Vs} (h : VOk len k st) {a d : Int} (hd : 0 ≤ d) (hl : d ≤ st.D.length) (hr : st.reach len a d = some st') : VOk len k st' ∧ st.D.length ≤ st'.D.length := by
  unfold Vs.reach at hr
  split at hr
  · rename_i ha
    split at hr
    · rename_i h0
      injection hr with hr
      subst hr
      exact ⟨h.push (by omega) h0 hd hl, by simp⟩
    · split at hr
      · injection hr with hr; subst hr; exact ⟨h, Nat.le_refl _⟩
      · cases hr
  · cases hr
end Go.Proofs.YtbgjlmcagdgpkaaDoor
