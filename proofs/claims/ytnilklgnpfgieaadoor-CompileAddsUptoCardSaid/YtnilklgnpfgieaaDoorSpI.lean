/-
  arities: how many parameters functions have, by name.
-/
import Derived.Test.YtnilklgnpfgieaaDoorSpH
namespace Go.Proofs.YtnilklgnpfgieaaDoor
open Go Go.RowKit Go.Lib

theorem arF_snoc (l : List Fn) (f : Fn) (s : ByteArray) : arF (l ++ [f]) s = if f.s = s then some f.ps.length else arF l s := by unfold arF; rw [List.foldl_append]; rfl
theorem arF_some (s : ByteArray) : ∀ (l r : List Fn), l.reverse = r → ((arF l s).isSome = true ↔ s ∈ l.map (·.s))
  | l, [], h => by
    obtain rfl : l = [] := by simpa using h
    simp [arF]
  | l, f :: r, h => by
    obtain ⟨l', rfl, hr⟩ : ∃ l', l = l' ++ [f] ∧ l'.reverse = r := ⟨r.reverse, by rw [← List.reverse_cons, ← h, List.reverse_reverse], by simp⟩
    rw [arF_snoc, List.map_append, List.mem_append]
    by_cases hs : f.s = s
    · rw [if_pos hs]; simp [hs]
    · rw [if_neg hs, arF_some s l' r hr]; simp [Ne.symm hs]
/-- The map's datum when these have come. -/
structure ArD (D : DataW Unit) (l : List Fn) : Prop where
  at_ : ∀ s : ByteArray, Maps.has D (.string s.data.toList) = (arF l s).isSome ∧ D.atKey (.string s.data.toList) (.lit (.int .i64 0)) = .lit (.int .i64 ((arF l s).getD 0))
  le : Maps.size D ≤ l.length
  eq : Maps.size D = l.length ↔ (l.map (·.s)).Nodup
theorem ArD.put {D : DataW Unit} {l : List Fn} (h : ArD D l) (ht : Maps.Tidy D) (f : Fn) (k : Int) (hk : k = f.ps.length) : ArD (D.put (.string f.s.data.toList) (.lit (.int .i64 k))) (l ++ [f]) := by
  have hkey : WideAt.IsKeyLit (.string f.s.data.toList) := by unfold WideAt.IsKeyLit; trivial
  have hsz := Maps.size_put (k := .string f.s.data.toList) ht (.lit (.int .i64 k))
  have hh := arF_some f.s l _ rfl
  have hhas := (h.at_ f.s).1
  subst hk
  refine ⟨fun s => ?_, ?_, ?_⟩
  · rw [arF_snoc]
    by_cases hs : f.s = s
    · subst hs
      rw [if_pos rfl, Maps.has_put_same ht.isMap hkey, Maps.atKey_put_same ht.isMap hkey]
      exact ⟨rfl, rfl⟩
    · have hne : (Lit.string s.data.toList) ≠ .string f.s.data.toList := fun e => hs (by injection e with e; exact (bs_eq e).symm)
      rw [if_neg hs, Maps.has_put_other hne, Maps.atKey_put_other hne]
      exact h.at_ s
  · rw [hsz]
    have := h.le
    split <;> simp <;> omega
  · rw [hsz, hhas, List.map_append, List.nodup_append, ← h.eq]
    have := h.le
    cases hb : (arF l f.s).isSome with
    | true =>
      have hm := hh.1 hb
      rw [if_pos rfl]
      constructor
      · intro e; simp at e; omega
      · rintro ⟨_, _, h3⟩
        exact absurd rfl (h3 f.s hm f.s (by simp))
    | false =>
      have hm : ¬ f.s ∈ l.map (·.s) := fun h' => by rw [hh.2 h'] at hb; cases hb
      rw [if_neg (by simp)]
      constructor
      · intro e
        simp at e
        refine ⟨e, by simp, fun a ha b hb e => ?_⟩
        subst e
        simp at hb
        subst hb
        exact hm ha
      · rintro ⟨h1, _⟩
        simp [h1]
theorem wf_nat (k : Nat) (h : k ≤ 9223372036854775807) : (Lit.int .i64 (k : Int)).wf = true := by
  have e1 : IntKind.i64.min = -9223372036854775808 := rfl
  have e2 : IntKind.i64.max = 9223372036854775807 := rfl
  simp [Lit.wf, e1, e2]
  omega
def ArRel (w : World) (n len : Nat) (A : Option Addr) (fs : List Fn) (i : Value) (wr : World) : Prop :=
  ∃ (k : Nat) (pre r : List Fn) (D : DataW Unit), i = .int .i64 k ∧ k + r.length = len ∧ fs = pre ++ r ∧ pre.length = k ∧ (0 < r.length → ∃ b o, A = some ⟨b, o, none⟩ ∧ b < n ∧ FsIn n w r b (o + k * 3)) ∧ wr.ownsMap Tryd.prog 9 (plainElem Tryd.prog 3) n k D ∧ ArD D pre ∧ Below n w wr ∧ n < wr.heap.size

set_option maxRecDepth 100000 in
set_option maxHeartbeats 4000000 in
theorem arities_any (A : Option Addr) (cap : Nat) (fs : List Fn) (w : World) (hv : FV w.heap.size w (.slice A fs.length cap) fs) (hl : fs.length ≤ 1000000) :
    Calls Tryd.prog 17 #[.slice A fs.length cap] w fun e w' => e = .returned (.tuple #[.map (some w.heap.size), .bool (distinctN fs)]) ∧ Below w.heap.size w w' ∧ AMap w.heap.size (arF fs) w' ∧ w.heap.size < w'.heap.size := by
  obtain ⟨A1, cap1, e1, hc1, hc2, hrow⟩ := hv
  injection e1 with e2 e3 e4
  subst e2 e4
  clear e3
  unfold distinctN
  obtain ⟨len, hlen⟩ : ∃ len, fs.length = len := ⟨_, rfl⟩
  rw [hlen] at hc1 hrow hl ⊢
  have HL := Lib.hid hlen; clear hlen
  obtain ⟨n, hn⟩ : ∃ n, w.heap.size = n := ⟨_, rfl⟩
  have hmm := @run_makeMap Tryd.prog
  obtain ⟨W1, hW1⟩ : ∃ W1, w.alloc (.map #[] 0) = W1 := ⟨_, rfl⟩
  have hm1 : W1.ownsMap Tryd.prog 9 (plainElem (H := Unit) Tryd.prog 3) n 0 (.map []) := by rw [← hW1, ← hn]; exact World.ownsMap_made w _ _ _
  have hb1 : Below n w W1 := by rw [← hW1]; exact (Below.refl n w).alloc (by omega) _
  have hs1 : n < W1.heap.size := by rw [← hW1, World.size_alloc]; omega
  go_enter Tryd.func17, Tryd.ntmps17
  go_wp2
  rw [hn] at hrow
  have HM1 := Lib.hid hm1
  have HW1 := Lib.hid hW1
  have HN := Lib.hid hn
  clear hm1 hW1 hmm
  go_loopw [10] (fun i wr => ArRel w n len A fs i wr) (fun i _ => len - (intOf i).toNat)
  case atStart =>
    refine ⟨0, [], fs, .map [], rfl, by have := HL.out; omega, rfl, rfl, by simpa [HL.out] using hrow, HM1.out, ⟨fun s => ⟨rfl, rfl⟩, Nat.le_refl _, ?_⟩, hb1, hs1⟩
    simp [Maps.size]
  case round =>
    obtain ⟨k, pre, r, D, rfl, hkk, hfs, hpre, hr1, hown, hD, hbel, hsz⟩ := hrel
    cases r with
    | nil =>
      have hk0 : k = len := by simpa using hkk
      subst hk0
      have hfin : (((Maps.size D : Nat) : Int) == (k : Int)) = decide (fs.map (·.s)).Nodup := by
        have h1 : fs = pre := by rw [hfs]; simp
        rw [Bool.eq_iff_iff, h1]
        simp only [beq_iff_eq, decide_eq_true_eq]
        rw [← hD.eq, hpre]
        exact Int.ofNat_inj
      have HA : Hid (AMap n (arF fs) wr) := Lib.hid ⟨k, D, hown, by rw [hfs]; simpa using hD.at_⟩
      obtain ⟨z, hz⟩ : ∃ z, Maps.size D = z := ⟨_, rfl⟩
      rw [hz] at hfin
      have HO := Lib.hid hown
      have HB := Lib.hid hbel
      have HZ := Lib.hid hz
      have HF := Lib.hid hfin
      clear hkk hrow hr1 hfs hpre hD hown hbel hz hfin
      go_wp2_with (first | (at_len; refine wpList_len_own _ rfl _ 49 rfl 9 3 Tryd.underlying49 (plainElem Tryd.prog 3) n k D rfl HO.out ?_; rw [HZ.out]) | go_in)
      exact bodyPost_ret (results_tmp2 rfl _ _ _) rfl ⟨by rw [← HF.out, HN.out]; rfl, by rw [HN.out]; exact HB.out, by rw [HN.out]; exact HA.out, by rw [HN.out]; exact hsz⟩
    | cons f r =>
      obtain ⟨b, o, rfl, hb, c0, ⟨v1, c1, h1⟩, ⟨v2, c2, h2⟩, h6, hr⟩ := hr1 (by simp)
      clear hrow hr1
      obtain ⟨A6, cap6, rfl, h61, h62, _⟩ := id h1
      obtain ⟨A7, cap7, rfl, h71, h72, _⟩ := id h2
      have hlt : k < len := by simp at hkk; omega
      have HKK := Lib.hid hkk; clear hkk
      have d0 := (hbel.cell (p := ⟨b, o + k * 3, none⟩) hb).trans c0
      have d1 := (hbel.cell (p := ⟨b, o + k * 3 + 1, none⟩) hb).trans c1
      have d2 := (hbel.cell (p := ⟨b, o + k * 3 + 2, none⟩) hb).trans c2
      clear c0 c1 c2
      obtain ⟨pl, hpl⟩ : ∃ pl, f.ps.length = pl := ⟨_, rfl⟩
      rw [hpl] at d1 h61
      have HP := Lib.hid (hD.put (hown.tidy (Maps.string_keyed Tryd.underlying9)) f pl (by rw [hpl]))
      have HO := Lib.hid hown
      have HB := Lib.hid hbel
      have HFS := Lib.hid hfs
      have HPR := Lib.hid hpre
      clear hown hbel hfs hpre hD
      go_wp2_with (at_mapUpdate; refine wpList_mapUpdate_own _ rfl _ _ _ 49 rfl 9 3 (Maps.string_keyed Tryd.underlying9) Tryd.underlying49 (plainElem Tryd.prog 3) n k D rfl (HO.out.alloc _) (by unfold maxLen; omega) _ _ (.string f.s.data.toList) rfl rfl (Go.WideMaps.keyOf_string_mk Tryd.underlying9 (by unfold maxLen; omega)) (.lit (.int .i64 pl)) [] (plainElem_int Tryd.underlying3 (wf_nat pl (by omega))) ?_; intro w3 hown3 hgrow3)
      go_roundw
      case rel =>
        refine ⟨k + 1, pre ++ [f], r, _, by go_num, by have := HKK.out; simp at this; omega, by rw [HFS.out]; simp, by simp [HPR.out], fun _ => ⟨b, o, rfl, hb, by rw [show o + (k + 1) * 3 = o + k * 3 + 3 by omega]; exact hr⟩, hown3, HP.out, (HB.out.alloc (by omega) _).grown hgrow3 (by simp only [World.size_alloc]; omega) (fun j e => by injection e with e; omega), ?_⟩
        have := World.grownBy.size hgrow3
        simp only [World.size_alloc] at this
        omega
      case measure => simp [intOf]; omega
end Go.Proofs.YtnilklgnpfgieaaDoor
