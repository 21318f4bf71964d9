/-
  reach.
-/
import Derived.Test.YtbgjlmcagdgpkaaDoorVyW
namespace Go.Proofs.YtbgjlmcagdgpkaaDoor
open Go Go.RowKit Go.Lib Go.Conc

theorem chan_below {B c cap : Nat} {buf : Array Value} {cl : Bool} {s r : Nat} {tm : Bool} {w0 W : World} (h : Below B w0 W) (hc : B ≤ c) : Below B w0 (W.setChan c cap buf cl s r tm) := below_setChan h hc cap buf cl s r tm
theorem chan_other (w : World) (c c' cap : Nat) (buf : Array Value) (closed : Bool) (s r : Nat) (tm : Bool) (h : c ≠ c') : (w.setChan c cap buf closed s r tm).heap[c']? = w.heap[c']? := by
  simp [World.setChan, Array.getElem?_setIfInBounds_ne h]
theorem chan_same {w : World} {c cap : Nat} {buf : Array Value} {cl : Bool} {s r : Nat} {tm : Bool} {o : Obj} (h : w.heap[c]? = some o) : (w.setChan c cap buf cl s r tm).heap[c]? = some (.chan cap buf cl s r tm) :=
  heap_setChan w c cap buf cl s r tm (by
    rcases Nat.lt_or_ge c w.heap.size with h' | h'
    · exact h'
    · rw [Array.getElem?_eq_none h'] at h; cases h)
theorem chan_grown (w : World) (c cap : Nat) (buf : Array Value) (cl : Bool) (s r : Nat) (tm : Bool) : w.grownBy (w.setChan c cap buf cl s r tm) (some c) :=
  ⟨rfl, rfl, rfl, by simp [World.setChan], fun k _ hk => chan_other w c k cap buf cl s r tm (fun e => hk (by rw [e]))⟩

section
variable {B O M C : Nat} {w0 W : World} {s : ByteArray} {n v x : Int} {Al Aa : Option Addr} {cl na ca len k : Nat} {st : Vs}
set_option maxRecDepth 100000 in
set_option maxHeartbeats 2000000 in
theorem reach_out (a d : Int) (h : Wk B O M C w0 s n v x (.slice Al len cl) (.slice Aa na ca) len k st W) (ha : ¬ (0 ≤ a ∧ a < len)) (hl : len ≤ 4611686018427387904) :
    Calls Tryd.prog 24 #[.pointer (some ⟨O, 0, none⟩), .int .i64 a, .int .i64 d] W fun e W' => e = .returned (.bool false) ∧ Below B w0 W' := by
  have hbx := h.box
  have c4 : W.cell? ⟨O, 4, none⟩ = some (.slice Al len cl) := (blk_cell hbx 4).trans rfl
  have hin : inI a 0 ((len : Int) - 1) = false := by unfold inI; simp; omega
  have hw : IntKind.i64.wrap ((len : Int) - 1) = (len : Int) - 1 := IntWalk.i64_in _ (by omega)
  have HI := Lib.hid hin
  have HB := Lib.hid h.bel
  clear h hbx hin ha
  go_enter Tryd.func24, Tryd.ntmps24
  go_wp2_with (go_at_call 21; ((with_reducible refine (within_any _ _ _ _).mono ?_); rintro e w1 ⟨rfl, rfl⟩; rw [HI.out]))
  go_ret
  exact ⟨rfl, HB.out⟩
set_option maxRecDepth 100000 in
set_option maxHeartbeats 2000000 in
theorem reach_was (i : Nat) (d e0 : Int) (h : Wk B O M C w0 s n v x (.slice Al len cl) (.slice Aa na ca) len k st W) (hi : i < len) (hl : len ≤ 4611686018427387904) (hd : look st.D i = some e0) :
    Calls Tryd.prog 24 #[.pointer (some ⟨O, 0, none⟩), .int .i64 (i : Int), .int .i64 d] W fun e W' => e = .returned (.bool (e0 == d)) ∧ W' = W := by
  have hbx := h.box
  have c2 : W.cell? ⟨O, 6, none⟩ = some (.map (some M)) := (blk_cell hbx 6).trans rfl
  have c4 : W.cell? ⟨O, 4, none⟩ = some (.slice Al len cl) := (blk_cell hbx 4).trans rfl
  have hin : inI (i : Int) 0 ((len : Int) - 1) = true := by unfold inI; simp; omega
  have hw : IntKind.i64.wrap ((len : Int) - 1) = (len : Int) - 1 := IntWalk.i64_in _ (by omega)
  have hlk := h.map.look_ok i (by omega)
  rw [hd] at hlk
  simp only [Option.getD_some, Option.isSome_some] at hlk
  have HI := Lib.hid hin
  clear h hbx hin hd hi
  go_enter Tryd.func24, Tryd.ntmps24
  go_wp2_with (go_at_call 21; ((with_reducible refine (within_any _ _ _ _).mono ?_); rintro e w1 ⟨rfl, rfl⟩; rw [HI.out]))
  go_ret
  exact ⟨rfl, rfl⟩
set_option maxRecDepth 100000 in
set_option maxHeartbeats 2000000 in
theorem reach_new (i : Nat) (d : Int) (h : Wk B O M C w0 s n v x (.slice Al len cl) (.slice Aa na ca) len k st W) (hi : i < len) (hl : len ≤ 4611686018427387904) (hd : look st.D i = none) (h0 : 0 ≤ d) (hdl : d ≤ st.D.length) :
    Calls Tryd.prog 24 #[.pointer (some ⟨O, 0, none⟩), .int .i64 (i : Int), .int .i64 d] W fun e W' => e = .returned (.bool true) ∧ Wk B O M C w0 s n v x (.slice Al len cl) (.slice Aa na ca) len k ⟨(i, d) :: st.D, st.Q ++ [i]⟩ W' := by
  have hroom := h.ok.room hi hd
  have hcnt := h.ok.cnt
  have hbx := h.box
  have hch := h.chan
  obtain ⟨E, hE, hEat⟩ := h.map
  have hT := hE.tidy (Maps.int_keyed Tryd.underlying3)
  have c2 : W.cell? ⟨O, 6, none⟩ = some (.map (some M)) := (blk_cell hbx 6).trans rfl
  have c3 : W.cell? ⟨O, 7, none⟩ = some (.chan (some C)) := (blk_cell hbx 7).trans rfl
  have c4 : W.cell? ⟨O, 4, none⟩ = some (.slice Al len cl) := (blk_cell hbx 4).trans rfl
  have hin : inI (i : Int) 0 ((len : Int) - 1) = true := by unfold inI; simp; omega
  have hw : IntKind.i64.wrap ((len : Int) - 1) = (len : Int) - 1 := IntWalk.i64_in _ (by omega)
  have hlk := h.map.look_ok i (by omega)
  rw [hd] at hlk
  simp only [Option.getD_none, Option.isSome_none] at hlk
  have HI := Lib.hid hin
  have HH := Lib.hid h
  have HE := Lib.hid hE
  have HCH := Lib.hid hch
  have HBX := Lib.hid hbx
  have HT := Lib.hid hT
  have HEat := Lib.hid hEat
  have HD := Lib.hid hd
  have hwfd : (Lit.int .i64 d).wf = true := wf_of (by omega)
  have hkey : keyOf Tryd.prog 3 (.int .i64 (i : Int)) = some (.int .i64 (i : Int)) := Maps.keyOf_int_mk Tryd.underlying3 (a := (i : Int)) (wf_of (by omega))
  have hlt : st.D.length < maxLen := by unfold maxLen; omega
  have HW := Lib.hid hwfd
  have HK := Lib.hid hkey
  clear hbx hch hE hT hin hd h hEat hwfd hkey
  refine calls_of_at Tryd.func24 rfl ?_
  simp only [Tryd.ntmps24, List.size_toArray, List.length_cons, List.length_nil, Nat.reduceAdd, Nat.reduceSub, Array.replicate_succ,
     Array.replicate_zero, List.push_toArray, List.append_toArray, List.nil_append, List.cons_append]
  refine at_seq (at_wp ?_)
  go_wp2
  refine at_seq (at_wp ?_)
  go_wp2_with (go_at_call 21; ((with_reducible refine (within_any _ _ _ _).mono ?_); rintro e w1 ⟨rfl, rfl⟩; rw [HI.out]))
  refine at_seq (at_wp ?_)
  go_wp2
  refine at_seq ?_
  refine at_seq (at_wp ?_)
  go_wp2
  refine at_cond (t := true) rfl ?_
  simp only [if_true]
  refine at_seq (at_wp ?_)
  go_wp2_with (at_mapUpdate; refine wpList_mapUpdate_own _ rfl _ _ _ 69 rfl 3 3 (Maps.int_keyed Tryd.underlying3) Tryd.underlying69 (plainElem Tryd.prog 3) M st.D.length E rfl HE.out hlt _ _ (.int .i64 (i : Int)) rfl rfl HK.out (.lit (.int .i64 d)) [] (plainElem_int Tryd.underlying3 HW.out) ?_; intro w3 hown3 hgrow3)
  have hbO := blk_grown HBX.out hgrow3 (by simpa using HH.out.ne1)
  have hbC := blk_grown HCH.out hgrow3 (by simpa using Ne.symm HH.out.ne3)
  have e3 : w3.cell? ⟨O, 7, none⟩ = some (.chan (some C)) := (blk_cell hbO 7).trans rfl
  refine at_seq ?_
  refine at_region ?_
  refine (show Ops Tryd.prog _ _ _ [0, 1, 2, 3, 4, 5] _ _ from ?_)
  refine ops_val (v := .pointer (some ⟨O, 0, none⟩)) (w' := w3) rfl rfl (by go_simp) ?_
  refine ops_val (v := .pointer (some ⟨O, 0, none⟩)) (w' := w3) rfl rfl (by go_simp) ?_
  refine ops_val (v := .pointer (some ⟨O, 7, none⟩)) (w' := w3) rfl rfl (by go_simp) ?_
  refine ops_val (v := .chan (some C)) (w' := w3) rfl rfl (by go_simp) ?_
  refine ops_val (v := .int .i64 (i : Int)) (w' := w3) rfl rfl (by go_simp) ?_
  refine ops_send (callB_kind _) (v := .int .i64 (i : Int)) (z := .tuple #[]) (w' := w3) rfl rfl (by simp [go_sem, execOp, scase, Act.eval]) hbC (by simp; omega) ?_
  refine ops_nil ?_
  simp only [Exit.then]
  refine at_wp ?_
  go_wp2
  go_ret
  have hP := DMap.put hown3 HT.out HEat.out
  have hD : ((i, d) :: st.D).length = st.D.length + 1 := by simp
  refine ⟨rfl, ?_, ?_, ?_, HH.out.bO, HH.out.bM, HH.out.bC, HH.out.ne1, HH.out.ne2, HH.out.ne3, ?_, HH.out.ok.push hi HD.out h0 hdl⟩
  · exact (chan_other _ _ _ _ _ _ _ _ _ (Ne.symm HH.out.ne2)).trans hbO
  · rw [hD]
    exact hP.kept (chan_grown _ _ _ _ _ _ _ _) (by simpa using HH.out.ne3)
  · rw [hD, List.map_append]
    refine (chan_same hbC).trans ?_
    simp
  · exact chan_below (HH.out.bel.grown hgrow3 (Nat.le_trans (Nat.le_of_lt (Nat.lt_of_le_of_lt HH.out.bO (blk_lt HBX.out))) (Nat.le_refl _)) (fun q hq => by simp at hq; rw [← hq]; exact HH.out.bM)) HH.out.bC
end
end Go.Proofs.YtbgjlmcagdgpkaaDoor
