/-
  step: one place that was reached.
-/
import Derived.Test.YtbgjlmcagdgpkaaDoorVyY
namespace Go.Proofs.YtbgjlmcagdgpkaaDoor
open Go Go.RowKit Go.Lib

theorem grown_blw {w w' : World} (h : Below w.heap.size w w') : w.grownBy w' none := ⟨h.os, h.tape, h.output, h.size, fun i hi _ => h.block i hi⟩
section
variable {B O M C : Nat} {w0 W W' : World} {s : ByteArray} {n v x : Int} {vl va : Value} {len k : Nat} {st : Vs}
theorem Wk.below (h : Wk B O M C w0 s n v x vl va len k st W) (hb : Below W.heap.size W W') : Wk B O M C w0 s n v x vl va len k st W' := by
  have lO := blk_lt h.box
  have lC := blk_lt h.chan
  have lM : M < W.heap.size := by obtain ⟨E, h1, _⟩ := h.map; exact h1.lt
  exact ⟨(hb.block O lO).trans h.box, h.map.kept (grown_blw hb) (by simp), (hb.block C lC).trans h.chan, h.bO, h.bM, h.bC, h.ne1, h.ne2, h.ne3, h.bel.trans (hb.mono (by have := h.bO; omega)), h.ok⟩
end
section
variable {B O M C : Nat} {w0 W : World} {s : ByteArray} {n v x : Int} {Al Aa : Option Addr} {cl na ca len k : Nat} {st : Vs}
theorem reach_any (a d : Int) (h : Wk B O M C w0 s n v x (.slice Al len cl) (.slice Aa na ca) len k st W) (hl : len ≤ 4611686018427387904) (h0 : 0 ≤ d) (hdl : d ≤ st.D.length) :
    Calls Tryd.prog 24 #[.pointer (some ⟨O, 0, none⟩), .int .i64 a, .int .i64 d] W fun e W' => e = .returned (.bool (st.reach len a d).isSome) ∧ Below B w0 W' ∧ ∀ st', st.reach len a d = some st' → Wk B O M C w0 s n v x (.slice Al len cl) (.slice Aa na ca) len k st' W' := by
  by_cases ha : 0 ≤ a ∧ a < len
  · obtain ⟨i, rfl⟩ : ∃ i : Nat, a = i := ⟨a.toNat, by omega⟩
    have hi : i < len := by omega
    cases hd : look st.D i with
    | none =>
      have e : st.reach len i d = some ⟨(i, d) :: st.D, st.Q ++ [i]⟩ := by
        unfold Vs.reach
        rw [if_pos ha, show (i : Int).toNat = i by omega, hd]
      refine (reach_new i d h hi hl hd h0 hdl).mono ?_
      rintro e' W' ⟨rfl, h'⟩
      exact ⟨by rw [e]; rfl, h'.bel, fun st' hs => by rw [e] at hs; injection hs with hs; subst hs; exact h'⟩
    | some e0 =>
      have e : st.reach len i d = if e0 = d then some st else none := by
        unfold Vs.reach
        rw [if_pos ha, show (i : Int).toNat = i by omega, hd]
      refine (reach_was i d e0 h hi hl hd).mono ?_
      rintro e' W' ⟨rfl, rfl⟩
      rw [e]
      by_cases hq : e0 = d
      · rw [if_pos hq]
        exact ⟨by simp [hq], h.bel, fun st' hs => by injection hs with hs; subst hs; exact h⟩
      · rw [if_neg hq]
        exact ⟨by simp [hq], h.bel, fun st' hs => by cases hs⟩
  · have e : st.reach len a d = none := by unfold Vs.reach; rw [if_neg ha]
    refine (reach_out a d h ha hl).mono ?_
    rintro e' W' ⟨rfl, h'⟩
    exact ⟨by rw [e]; rfl, h', fun st' hs => by rw [e] at hs; cases hs⟩
/-- All functions are of a size that may be. -/
def AllOk (all : List Fv) : Prop := all.length ≤ 33 ∧ ∀ g, g ∈ all → 0 ≤ g.n ∧ g.n ≤ 8
theorem takes_t {all : List Fv} (op a m : Int) (lo : Nat) (hA : AllOk all) (hn : all.length = na) (hm : mayB v x na op a m = true) (h : Wk B O M C w0 s n v x (.slice Al len cl) (.slice Aa na ca) len k st W) (hall : FvV B w0 (.slice Aa na ca) all) (ht : CT lo W) (_hB : B ≤ w0.heap.size) :
    (0 ≤ takesB all op a ∧ takesB all op a ≤ 8) ∧ Calls Tryd.prog 42 #[.pointer (some ⟨O, 0, none⟩), .agg #[.int .i64 op, .int .i64 a, .int .i64 m]] W fun e W' => e = .returned (.int .i64 (takesB all op a)) ∧ Below W.heap.size W W' := by
  by_cases h17 : op = 17
  · subst h17
    have h1 : 1 ≤ a ∧ a ≤ (na : Int) - 1 := by
      unfold mayB at hm
      simp [inI] at hm
      omega
    obtain ⟨i, rfl⟩ : ∃ i : Nat, a = i := ⟨a.toNat, by omega⟩
    have hi : i < all.length := by omega
    have hg : all[i]? = some all[i] := List.getElem?_eq_getElem hi
    have ht' : takesB all 17 i = all[i].n := by
      unfold takesB parAt
      rw [if_pos rfl, show (i : Int).toNat = i by omega, hg]
      rfl
    rw [ht']
    refine ⟨hA.2 _ (List.getElem_mem hi), ?_⟩
    subst hn
    obtain ⟨A1, c1, e1, _, _, h3⟩ := hall
    injection e1 with e1 e2 e3
    obtain ⟨b, o, ea, hb, hin⟩ := h3 (by omega)
    rw [ea] at e1
    subst e1
    obtain ⟨_, c1, _⟩ := hin.at_ hg
    exact takes_call i m _ b i rfl hi h.box ((h.bel.cell (p := ⟨b, o + i * 5 + 1, none⟩) hb).trans c1) (by have := h.bO; have := blk_lt h.box; omega)
  · have ht' : takesB all op a = (kdOf op).takes := by unfold takesB; rw [if_neg h17]
    rw [ht']
    have := (kd_ok op).1
    exact ⟨by omega, takes_no op a m lo h17 ht⟩
end
end Go.Proofs.YtbgjlmcagdgpkaaDoor
