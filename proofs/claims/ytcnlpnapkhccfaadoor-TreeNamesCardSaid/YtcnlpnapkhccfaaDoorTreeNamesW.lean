/-
  TreeNames: the statement's function, walked.
-/
import Derived.Test.YtcnlpnapkhccfaaDoorTreeS
import Derived.Deep.DeepCutAuto
namespace Go.Proofs.YtcnlpnapkhccfaaDoor
open Go Go.RowKit Go.Lib

/-- The program of one Input. -/
def inputP (s : ByteArray) : Pg := ⟨[], .cons 4 s 0 .nil .nil .nil .nil⟩
theorem named_input (s : ByteArray) : rightN (inputP s) = if nameB s = true then 0 else 1 := by
  have h0 : deepL (inputP s).pts = 1 := by
    simp only [inputP, Pg.pts, fsPts, SS.pts, List.nil_append, deepL, Pt.deep, ES.deep, SS.deep]
    decide +kernel
  have h1 : okL (inputP s).pts = nameB s := by
    simp only [inputP, Pg.pts, fsPts, SS.pts, List.nil_append, okL, Pt.ok, ES.ok, SS.ok]
    simp [fitP, fitQ, shOf, stmtT, namedB, ES.len, SS.len]
  unfold rightN
  rw [h0, h1]
  simp [inputP, funcsB, fsOk]
theorem input_pg (W : World) (s : ByteArray) (hs : s.size ≤ 9223372036854775807) :
    PgV (W.heap.size + 1) (W.alloc (.cells #[.int .i64 4, .string s, .int .i64 0, .slice none 0 0, .slice none 0 0, .slice none 0 0] 38)) (.agg #[.slice none 0 0, .slice (some ⟨W.heap.size, 0, none⟩) 1 1]) (inputP s) := by
  have b := Blk.new W #[.int .i64 4, .string s, .int .i64 0, .slice none 0 0, .slice none 0 0, .slice none 0 0] 38
  have e := sv_one b (ev_nil _ _) (sv_nil _ _) (sv_nil _ _) ⟨i64_of (by decide), i64_of (by decide), hs⟩
  rw [World.size_alloc] at e
  exact ⟨none, 0, _, _, rfl, ⟨_, _, rfl, Nat.le_refl _, by decide, fun h => by simp [inputP] at h⟩, e⟩
theorem input_right (W : World) (s : ByteArray) (hs : s.size ≤ 9223372036854775807) (b : Bool) (hb : nameB s = b) (ht : Tab W) :
    Calls Tryd.prog 12 #[.agg #[.slice none 0 0, .slice (some ⟨W.heap.size, 0, none⟩) 1 1]] (W.alloc (.cells #[.int .i64 4, .string s, .int .i64 0, .slice none 0 0, .slice none 0 0, .slice none 0 0] 38)) fun e w' =>
      e = .returned (.int .i64 (if b = true then 0 else 1)) ∧ Below W.heap.size W w' := by
  have hA : Below W.heap.size W (W.alloc (.cells #[.int .i64 4, .string s, .int .i64 0, .slice none 0 0, .slice none 0 0, .slice none 0 0] 38)) := (Below.refl _ _).alloc (Nat.le_refl _) _
  exact (right_any _ _ _ _ (by simp) (input_pg W s hs) (ht.step hA)).mono fun _ _ ⟨he, hb'⟩ => ⟨by rw [he, named_input, hb], hA.trans (hb'.mono (by simp))⟩

theorem data_app (x y : ByteArray) : (x ++ y).data.toList = x.data.toList ++ y.data.toList := by simp
theorem size_app (x y : ByteArray) : (x ++ y).size = x.size + y.size := ByteArray.size_append
/-- What a name with a byte behind, or ahead, tells of the byte. -/
theorem name_behind {T : ByteArray} {C : UInt8} (h : nameB (T ++ ⟨#[C]⟩) = true) : inwB (bv C) = true ∧ (T ++ ⟨#[C]⟩).size ≤ 32 := by
  unfold nameB at h
  simp only [Bool.and_eq_true, decide_eq_true_eq, List.all_eq_true] at h
  refine ⟨h.1.2 C ?_, h.1.1.1.2⟩
  unfold bs
  rw [data_app]
  simp
theorem name_ahead {T : ByteArray} {C : UInt8} (h : nameB (⟨#[C]⟩ ++ T) = true) : letB (bv C) = true := by
  unfold nameB at h
  simp only [Bool.and_eq_true, decide_eq_true_eq] at h
  have h1 := h.1.1.2
  have e : nth (bs ((⟨#[C]⟩ : ByteArray) ++ T)) 0 = bv C := by
    unfold nth bs
    rw [data_app]
    simp
  rw [e] at h1
  exact h1

theorem name_size {T : ByteArray} (h : nameB T = true) : 1 ≤ T.size ∧ T.size ≤ 32 := by
  unfold nameB at h
  simp only [Bool.and_eq_true, decide_eq_true_eq] at h
  omega

theorem conv1 (wr : World) (z : Int) (c : UInt8) (hz : z = (c.toNat : Int)) :
    (convert 44 9 (.slice (some ⟨wr.heap.size, 0, none⟩) 1 1)).run Tryd.prog (wr.alloc (.cells #[.int .u8 z] 5)) = .ok (.string ⟨#[c]⟩) (wr.alloc (.cells #[.int .u8 z] 5)) := by
  have h := run_convert_bytes_back (P := Tryd.prog) (wr.alloc (.cells #[.int .u8 z] 5)) 44 9 5 ⟨wr.heap.size, 0, none⟩ 1 [c] Tryd.underlying44 Tryd.underlying5 Tryd.underlying9 (fun j hj => by
    have hj0 : j = 0 := by simpa using hj
    subst hj0
    subst hz
    simp [Addr.add])
  exact h

set_option maxRecDepth 100000 in
set_option maxHeartbeats 4000000 in
theorem names_no (s T : ByteArray) (C : UInt8) (w : World) (hcut : s.extract 0 (if (40 : Int) < (s.size : Int) then 40 else (s.size : Int)).toNat = T) (hs : s.size ≤ 9223372036854775807) (hT : T.size ≤ 40) (hn : nameB T = false) (ht : Tab w) :
    Calls Tryd.prog 7 #[.string s, .int .u8 (C.toNat : Int)] w fun e w' => e = .returned (.bool true) ∧ Below w.heap.size w w' := by
  have HI := fun W h => input_right W T (by omega) false hn h
  have HN := fun W => name_any T W (by omega)
  rw [hn] at HN
  simp only [if_neg (show ¬ (false = true) by decide)] at HI
  clear hn
  have h0 := Fr.refl w
  go_enter Tryd.func7, Tryd.ntmps7
  go_wp2_with (first
    | (go_at_call 11; ((with_reducible refine (shown_fr w _ ht h0).mono ?_); rintro e w1 ⟨rfl, h1⟩; have ht1 := ht.step h1))
    | (go_at_call 20; ((with_reducible refine (HN _).mono ?_); rintro e w2 ⟨rfl, rfl⟩))
    | (go_at_call 12; ((with_reducible refine (HI _ ht1).mono ?_); rintro e w3 ⟨rfl, hb3⟩)))
  all_goals
    go_ret
    exact ⟨rfl, h1.step hb3⟩

set_option maxRecDepth 100000 in
set_option maxHeartbeats 8000000 in
theorem names_yes (s T : ByteArray) (C : UInt8) (w : World) (hcut : s.extract 0 (if (40 : Int) < (s.size : Int) then 40 else (s.size : Int)).toNat = T) (hs : s.size ≤ 9223372036854775807) (hn : nameB T = true) (ht : Tab w) :
    Calls Tryd.prog 7 #[.string s, .int .u8 (C.toNat : Int)] w fun e w' => e = .returned (.bool true) ∧ Below w.heap.size w w' := by
  obtain ⟨z1, z32⟩ := name_size hn
  have zi1 : (1 : Int) ≤ (T.size : Int) := by omega
  have zi32 : (T.size : Int) ≤ 32 := by omega
  have HI := fun W h => input_right W T (by omega) true hn h
  have HN := fun W => name_any T W (by omega)
  have HB := fun W => name_any (T ++ ⟨#[C]⟩) W (by rw [size_app]; show T.size + 1 ≤ _; omega)
  have HA := fun W => name_any (⟨#[C]⟩ ++ T) W (by rw [size_app]; show 1 + T.size ≤ _; omega)
  rw [hn] at HN
  simp only [if_true] at HI
  clear hn
  have HNB := Lib.hid (@name_behind T C)
  have HNA := Lib.hid (@name_ahead T C)
  obtain ⟨N1, hN1⟩ : ∃ N1, nameB (T ++ ⟨#[C]⟩) = N1 := ⟨_, rfl⟩
  obtain ⟨N2, hN2⟩ : ∃ N2, nameB (⟨#[C]⟩ ++ T) = N2 := ⟨_, rfl⟩
  rw [hN1] at HB HNB
  rw [hN2] at HA HNA
  clear hN1 hN2
  have hcv : ∀ wr : World, (convert 44 9 (.slice (some ⟨wr.heap.size, 0, none⟩) 1 1)).run Tryd.prog (wr.alloc (.cells #[.int .u8 (C.toNat : Int)] 5)) = .ok (.string ⟨#[C]⟩) (wr.alloc (.cells #[.int .u8 (C.toNat : Int)] 5)) :=
    fun wr => conv1 wr (C.toNat : Int) C rfl
  have h0 := Fr.refl w
  have hx0 : (0 : Int) ≤ (C.toNat : Int) := by omega
  have hx1 : (C.toNat : Int) ≤ 255 := by have := C.toNat_lt; omega
  go_enter Tryd.func7, Tryd.ntmps7
  go_upto_region 6 with (first
    | (go_at_call 11; ((with_reducible refine (shown_fr w _ ht h0).mono ?_); rintro e w1 ⟨rfl, h1⟩; have ht1 := ht.step h1))
    | (go_at_call 20; ((with_reducible refine (HN _).mono ?_); rintro e w2 ⟨rfl, rfl⟩)))
  go_cut [0, 7] (fun a v wx => a = .string T ∧ v = .bool (inwB (C.toNat : Int)) ∧ Fr w wx)
  case first =>
    go_wp2_with fail
    all_goals
      go_meet
      refine ⟨rfl, congrArg Value.bool ?_, by first | exact h1 | exact Fr.alloc h1 _⟩
      rw [Bool.eq_iff_iff]
      simp [inwB, letB, digB]
      omega
  case rest =>
  obtain ⟨rfl, rfl, h2⟩ := hcut
  have ht2 := ht.step h2
  have h3 : ∀ o, Fr w (World.alloc _ o) := fun o => Fr.alloc h2 o
  have ht3 := fun o => ht.step (h3 o)
  have HF := Lib.hid h3
  have HT := Lib.hid ht3
  clear h3 ht3
  obtain ⟨b, hb⟩ : ∃ b, inwB (C.toNat : Int) = b := ⟨_, rfl⟩
  rw [hb]
  have HN1 : Hid (N1 = true → b = true ∧ (T ++ ⟨#[C]⟩ : ByteArray).size ≤ 32) := by
    intro h
    have := HNB.out h
    exact ⟨hb.symm.trans this.1, this.2⟩
  have HN2 : Hid (N2 = true → b = true ∧ ((C.toNat : Int) == 95) = false ∧ (57 : Int) < (C.toNat : Int)) := by
    intro h
    have h1 := HNA.out h
    have h2 : letB (C.toNat : Int) = true := h1
    refine ⟨by rw [← hb]; unfold inwB; rw [h2]; rfl, ?_⟩
    unfold letB at h2
    simp only [decide_eq_true_eq] at h2
    exact ⟨by rw [beq_eq_false_iff_ne]; omega, by omega⟩
  clear hb HNB HNA
  have HI2 := fun (W : World) (h : Fr w W) => HI W (ht.step h)
  clear HI
  have HI3 := fun o => HI2 _ (HF.out o)
  simp only [World.size_alloc] at HI3
  have c48 : N2 = true → decide ((48 : Int) ≤ (C.toNat : Int)) = true := fun h => by have := (HN2.out h).2.2; simp; omega
  have c57 : N2 = true → decide ((C.toNat : Int) ≤ 57) = false := fun h => by have := (HN2.out h).2.2; simp; omega
  have C48 := Lib.hid c48
  have C57 := Lib.hid c57
  clear c48 c57
  cases N1 with
  | true =>
    obtain ⟨rfl, z3⟩ := HN1.out rfl
    have z4 : (T.size : Int) + 1 ≤ 32 := by rw [size_app] at z3; have : (⟨#[C]⟩ : ByteArray).size = 1 := rfl; omega
    clear z3
    cases N2 with
    | true =>
      obtain ⟨_, y0, y1⟩ := HN2.out rfl
      have y2 := C48.out rfl
      have y3 := C57.out rfl
      clear HN1 HN2 C48 C57
      go_wp2_with (first
        | (go_at_call 20; ((with_reducible refine (HB _).mono ?_); rintro e w2 ⟨rfl, rfl⟩))
        | (go_at_call 20; ((with_reducible refine (HA _).mono ?_); rintro e w3 ⟨rfl, rfl⟩))
        | (go_at_call 12; ((with_reducible refine (HI3 _).mono ?_); rintro e w3 ⟨rfl, hb3⟩))
        | (go_at_call 12; ((with_reducible refine (HI2 _ h2).mono ?_); rintro e w3 ⟨rfl, hb3⟩)))
      all_goals
        go_ret
        exact ⟨rfl, (by first | exact h2.step hb3 | exact Fr.step (HF.out _) (hb3.mono (by simp)) | exact Fr.step (HF.out _) hb3)⟩
    | false =>
      clear HN1 HN2 C48 C57
      go_wp2_with (first
        | (go_at_call 20; ((with_reducible refine (HB _).mono ?_); rintro e w2 ⟨rfl, rfl⟩))
        | (go_at_call 20; ((with_reducible refine (HA _).mono ?_); rintro e w3 ⟨rfl, rfl⟩))
        | (go_at_call 12; ((with_reducible refine (HI3 _).mono ?_); rintro e w3 ⟨rfl, hb3⟩))
        | (go_at_call 12; ((with_reducible refine (HI2 _ h2).mono ?_); rintro e w3 ⟨rfl, hb3⟩)))
      all_goals
        go_ret
        exact ⟨rfl, (by first | exact h2.step hb3 | exact Fr.step (HF.out _) (hb3.mono (by simp)) | exact Fr.step (HF.out _) hb3)⟩
  | false =>
    cases N2 with
    | true =>
      obtain ⟨rfl, y0, y1⟩ := HN2.out rfl
      have y2 := C48.out rfl
      have y3 := C57.out rfl
      clear HN1 HN2 C48 C57
      go_wp2_with (first
        | (go_at_call 20; ((with_reducible refine (HB _).mono ?_); rintro e w2 ⟨rfl, rfl⟩))
        | (go_at_call 20; ((with_reducible refine (HA _).mono ?_); rintro e w3 ⟨rfl, rfl⟩))
        | (go_at_call 12; ((with_reducible refine (HI3 _).mono ?_); rintro e w3 ⟨rfl, hb3⟩))
        | (go_at_call 12; ((with_reducible refine (HI2 _ h2).mono ?_); rintro e w3 ⟨rfl, hb3⟩)))
      all_goals
        go_ret
        exact ⟨rfl, (by first | exact h2.step hb3 | exact Fr.step (HF.out _) (hb3.mono (by simp)) | exact Fr.step (HF.out _) hb3)⟩
    | false =>
      clear HN1 HN2 C48 C57
      go_wp2_with (first
        | (go_at_call 20; ((with_reducible refine (HB _).mono ?_); rintro e w2 ⟨rfl, rfl⟩))
        | (go_at_call 20; ((with_reducible refine (HA _).mono ?_); rintro e w3 ⟨rfl, rfl⟩))
        | (go_at_call 12; ((with_reducible refine (HI3 _).mono ?_); rintro e w3 ⟨rfl, hb3⟩))
        | (go_at_call 12; ((with_reducible refine (HI2 _ h2).mono ?_); rintro e w3 ⟨rfl, hb3⟩)))
      all_goals
        go_ret
        exact ⟨rfl, (by first | exact h2.step hb3 | exact Fr.step (HF.out _) (hb3.mono (by simp)) | exact Fr.step (HF.out _) hb3)⟩

theorem names_walk (s : ByteArray) (c : Int) (w : World) (hs : s.size ≤ 9223372036854775807) (h0 : 0 ≤ c) (h1 : c ≤ 255) (ht : Tab w) :
    Calls Tryd.prog 7 #[.string s, .int .u8 c] w fun e w' => e = .returned (.bool true) ∧ Below w.heap.size w w' := by
  obtain ⟨C, hC⟩ : ∃ C : UInt8, c = (C.toNat : Int) := ⟨UInt8.ofNat c.toNat, by rw [UInt8.toNat_ofNat']; omega⟩
  subst hC
  obtain ⟨T, hT⟩ : ∃ T, s.extract 0 (if (40 : Int) < (s.size : Int) then 40 else (s.size : Int)).toNat = T := ⟨_, rfl⟩
  have hz : T.size ≤ 40 := by rw [← hT, ByteArray.size_extract]; split <;> omega
  cases hn : nameB T with
  | true => exact names_yes s T C w hT hs hn ht
  | false => exact names_no s T C w hT hs hz hn ht

end Go.Proofs.YtcnlpnapkhccfaaDoor
