/-
  The document's own Name, of any text.
-/
import Derived.Test.YtaedlhjjfmmpdaaDoorTreeRn
import Derived.Test.YtaedlhjjfmmpdaaDoorTreeRl
import Derived.Test.YtaedlhjjfmmpdaaDoorTreeE
import Derived.Deep.DeepCutAuto
namespace Go.Proofs.YtaedlhjjfmmpdaaDoor
open Go Go.RowKit Go.Lib

set_option maxHeartbeats 1000000 in
theorem rlex_big (s : ByteArray) (w : World) (hs : 65536 < s.size) (hm : s.size ≤ 9223372036854775807) :
    Calls Tryd.prog 39 #[.string s] w fun e w' => e = .returned (.tuple #[.slice none 0 0, .int .i64 0, .int .i64 1]) ∧ w = w' := by
  have h1 : decide (65536 < (s.size : Int)) = true := decide_eq_true (by omega)
  go_enter Tryd.func39, Tryd.ntmps39
  go_wp2
  go_ret3
  exact ⟨rfl, rfl⟩

/-- The ten keywords. -/
def kws : List ByteArray := [⟨#[102, 117, 110, 99]⟩, ⟨#[97, 114, 114, 97, 121]⟩, ⟨#[105, 110, 112, 117, 116]⟩, ⟨#[112, 114, 105, 110, 116]⟩, ⟨#[107, 101, 101, 112]⟩, ⟨#[105, 102]⟩, ⟨#[101, 108, 115, 101]⟩, ⟨#[119, 104, 105, 108, 101]⟩, ⟨#[114, 101, 116, 117, 114, 110]⟩, ⟨#[99, 108, 111, 99, 107]⟩]
def kwAt (k : Nat) : ByteArray := kws.getD k ⟨#[]⟩
/-- None of the keywords from the k-th on. -/
def kwFrom (l : List UInt8) (k : Nat) : Bool := (kws.drop k).any fun t => t.toList == l
theorem kwFrom_0 (l : List UInt8) : kwFrom l 0 = kwL l := by
  have e : ∀ t : ByteArray, t.toList = t.data.toList := ByteArray.toList_eq
  unfold kwFrom kws kwL
  simp only [List.drop_zero, List.any_cons, List.any_nil, Bool.or_false, e]
  rw [Bool.eq_iff_iff]
  simp only [Bool.or_eq_true, beq_iff_eq]
  constructor
  · rintro (h | h | h | h | h | h | h | h | h | h) <;> simp [← h]
  · rintro (((((((((h | h) | h) | h) | h) | h) | h) | h) | h) | h) <;> simp [h]
theorem kwFrom_step (l : List UInt8) (k : Nat) (h : k < 10) : kwFrom l k = ((kwAt k).toList == l || kwFrom l (k + 1)) := by
  unfold kwFrom kwAt
  rw [List.drop_eq_getElem_cons (show k < kws.length from h), List.any_cons]
  congr 2
  rw [List.getD_eq_getElem?_getD, List.getElem?_eq_getElem (show k < kws.length from h)]
  rfl
theorem kwFrom_end (l : List UInt8) : kwFrom l 10 = false := rfl

/-- What Lex's answer means for a name. -/
theorem name_ans (s : ByteArray) (ts : List Tok) (h : lexS 0 (bs s) = .ok ts) : wordB (bs s) = true ↔ ∃ t, ts = [t] ∧ t.kind = 1 ∧ t.text = bs s := by
  constructor
  · intro hw
    have := word_toks hw
    rw [h] at this
    injection this with this
    exact ⟨_, this, rfl, rfl⟩
  · rintro ⟨⟨k, x, a⟩, rfl, h1, h2⟩
    simp only at h1 h2
    subst h1 h2
    exact toks_word h

theorem own_shape {w : World} {base e size n : Nat} {v : Value} {xs : List Value} (h : w.ownsRow base e size v n xs) (hn : 0 < n) : ∃ g cap, v = .slice (some ⟨g, 0, none⟩) n cap ∧ n ≤ cap ∧ g < w.heap.size ∧ ∀ m u, xs[m]? = some u → w.cell? ⟨g, m, none⟩ = some u := by
  rcases h.2 with ⟨rfl, rfl⟩ | ⟨g, cap, cur, rfl, hg, hh, hnc, hrest⟩
  · omega
  · refine ⟨g, cap, rfl, hnc, (h.lt g rfl).2, fun m u hu => ?_⟩
    have hc := h.cells (g := g) rfl m u hu
    rwa [show (⟨g, 0, none⟩ : Addr).add m = ⟨g, m, none⟩ by unfold Addr.add; split <;> simp_all] at hc

/-- What Name's last question is told. -/
theorem name_no (s : ByteArray) (h : kwL (bs s) = true ∨ wordB (bs s) = false) : nameB s = false := by
  rw [nameB_word]
  rcases h with h | h <;> rw [h] <;> simp
theorem word_bad (s : ByteArray) (h : ∀ ts, lexS 0 (bs s) = .ok ts → ¬ ∃ t, ts = [t] ∧ t.kind = 1 ∧ t.text = bs s) : wordB (bs s) = false := by
  cases hw : wordB (bs s) with
  | false => rfl
  | true =>
    have h1 := word_toks hw
    exact absurd ((name_ans s _ h1).1 hw) (h _ h1)
theorem word_big (s : ByteArray) (h : 32 < s.size) : wordB (bs s) = false := by
  unfold wordB
  rw [decide_eq_false (show ¬ (bs s).length ≤ 32 by rw [bs_length]; omega)]
  simp

set_option maxRecDepth 100000 in
set_option maxHeartbeats 2000000 in
theorem rname_any (s : ByteArray) (w : World) (hs : s.size ≤ 9223372036854775807) :
    Calls Tryd.prog 21 #[.string s] w fun e w' => e = .returned (.bool (nameB s)) ∧ Below w.heap.size w w' := by
  have hk0 : kwL (bs s) = kwFrom s.toList 0 := by rw [kwFrom_0, ByteArray.toList_eq]; rfl
  have HK0 := Lib.hid hk0; clear hk0
  obtain ⟨W1, hW1⟩ : ∃ W1, w.alloc (.cells #[.string ⟨#[102, 117, 110, 99]⟩, .string ⟨#[97, 114, 114, 97, 121]⟩, .string ⟨#[105, 110, 112, 117, 116]⟩, .string ⟨#[112, 114, 105, 110, 116]⟩, .string ⟨#[107, 101, 101, 112]⟩, .string ⟨#[105, 102]⟩, .string ⟨#[101, 108, 115, 101]⟩, .string ⟨#[119, 104, 105, 108, 101]⟩, .string ⟨#[114, 101, 116, 117, 114, 110]⟩, .string ⟨#[99, 108, 111, 99, 107]⟩] 9) = W1 := ⟨_, rfl⟩
  have hb1 : Below w.heap.size w W1 := by rw [← hW1]; exact (Below.refl _ _).alloc (Nat.le_refl _) _
  have hcell : ∀ k, k < 10 → W1.cell? ⟨w.heap.size, k, none⟩ = some (.string (kwAt k)) := by
    intro k hk
    rw [← hW1, cell_new]
    have hk' : k = 0 ∨ k = 1 ∨ k = 2 ∨ k = 3 ∨ k = 4 ∨ k = 5 ∨ k = 6 ∨ k = 7 ∨ k = 8 ∨ k = 9 := by omega
    rcases hk' with rfl | rfl | rfl | rfl | rfl | rfl | rfl | rfl | rfl | rfl <;> rfl
  have HC := Lib.hid hcell; clear hcell
  go_enter Tryd.func21, Tryd.ntmps21
  go_wp2
  clear hW1
  go_loop [4] (fun i => ∃ k : Nat, k ≤ 10 ∧ i = .int .i64 k ∧ kwL (bs s) = kwFrom s.toList k) (fun i => 10 - (intOf i).toNat)
  case atStart => exact ⟨0, by omega, rfl, HK0.out⟩
  case round =>
    obtain ⟨k, hk, rfl, ho⟩ := hrel
    have HO := Lib.hid ho; clear ho
    by_cases hlt : k < 10
    · have c0 := HC.out k hlt
      have HS := Lib.hid (kwFrom_step s.toList k hlt)
      obtain ⟨t, ht⟩ : ∃ t, kwAt k = t := ⟨_, rfl⟩
      rw [ht] at c0 HS
      clear ht
      cases hq : (t.toList == s.toList) with
      | true =>
        go_wp2
        go_ret
        exact ⟨ret_bool (name_no s (.inl (by rw [HO.out, HS.out, hq]; rfl))).symm, hb1⟩
      | false =>
        go_wp2
        go_round
        case rel => exact ⟨k + 1, by omega, by go_num, by rw [HO.out, HS.out, hq]; rfl⟩
        case measure => simp [intOf]; omega
    · obtain rfl : k = 10 := by omega
      have HN : Hid (nameB s = wordB (bs s)) := by show _ = _; rw [nameB_word, HO.out, kwFrom_end]; simp
      clear HO HC HK0
      by_cases hbig : s.size ≤ 65536
      · go_upto_region 8 with (go_at_call 39; ((with_reducible refine (rlex_any s _ hbig).mono ?_); rintro e w2 ⟨hb2, h2⟩; rcases h2 with ⟨p, hp, rfl⟩ | ⟨ts, v, hts, rfl, hown⟩))
        · go_wp2
          go_ret
          exact ⟨ret_bool (by rw [HN.out, word_bad s (fun ts h => by rw [hp] at h; cases h)]), hb1.trans (hb2.mono hb1.size)⟩
        · have HT := Lib.hid hts; clear hts
          have hbb : Below w.heap.size w w2 := hb1.trans (hb2.mono hb1.size)
          clear hb2
          obtain ⟨g, cap, rfl, hnc, hg, hcs⟩ := own_shape hown (by omega)
          have HCS := Lib.hid hcs; clear hcs hown
          obtain ⟨m, hm⟩ : ∃ m, ts.length + 1 = m := ⟨_, rfl⟩
          have hmz : ((ts.length : Int) + 1) = (m : Int) := by omega
          rw [hm] at hnc
          by_cases h2 : m = 2
          · obtain ⟨t, rfl⟩ : ∃ t, ts = [t] := by
              match ts, (show ts.length = 1 by omega) with
              | [t], _ => exact ⟨t, rfl⟩
            have c0 : w2.cell? ⟨g, 0, none⟩ = some (.int .i64 t.kind) := HCS.out 0 _ rfl
            have c1 : w2.cell? ⟨g, 1, none⟩ = some (.string ⟨t.text.toArray⟩) := HCS.out 1 _ rfl
            subst h2
            have HA := Lib.hid (name_ans s _ HT.out)
            clear hm hmz HCS HT
            obtain ⟨tk, htk⟩ : ∃ tk : Int, (t.kind : Int) = tk := ⟨_, rfl⟩
            obtain ⟨tt, htt⟩ : ∃ tt : ByteArray, ⟨t.text.toArray⟩ = tt := ⟨_, rfl⟩
            rw [htk] at c0
            rw [htt] at c1
            have HTK := Lib.hid htk; clear htk
            have HTT := Lib.hid htt; clear htt
            cases q1 : (tk == 1) with
            | false =>
              go_wp2
              go_ret
              exact ⟨ret_bool (by
                rw [HN.out]
                refine (Bool.eq_false_iff.2 fun hw => ?_).symm
                obtain ⟨t', h1, h2, _⟩ := HA.out.1 hw
                injection h1 with h1 _
                subst h1
                have := HTK.out
                rw [h2] at this
                subst this
                cases q1), hbb⟩
            | true =>
              cases q2 : (tt.toList == s.toList) with
              | false =>
                go_wp2
                go_ret
                exact ⟨ret_bool (by
                  rw [HN.out]
                  refine (Bool.eq_false_iff.2 fun hw => ?_).symm
                  obtain ⟨t', h1, _, h2⟩ := HA.out.1 hw
                  injection h1 with h1 _
                  subst h1
                  have := HTT.out
                  rw [h2] at this
                  rw [← this, ByteArray.toList_eq, ByteArray.toList_eq] at q2
                  simp [bs] at q2), hbb⟩
              | true =>
                go_wp2
                go_ret
                exact ⟨ret_bool (by
                  rw [HN.out]
                  refine (HA.out.2 ⟨t, rfl, ?_, ?_⟩).symm
                  · have := HTK.out
                    have q1' : tk = 1 := by simpa using q1
                    omega
                  · have h2 := (eqT_iff tt s).1 q2
                    have h3 := HTT.out
                    rw [h2] at h3
                    rw [← h3]
                    simp [bs]), hbb⟩
          · have hf : ((m : Int) == 2) = false := by rw [beq_eq_false_iff_ne]; omega
            have HM := Lib.hid hm; clear hm
            have HMZ := Lib.hid hmz; clear hmz
            simp only [HM.out]
            go_wp2
            go_ret
            exact ⟨ret_bool (by rw [HN.out, word_bad s (fun ts' h => by rw [HT.out] at h; injection h with h; subst h; rintro ⟨t, rfl, _⟩; have := HM.out; simp at this; omega)]), hbb⟩
      · go_wp2_with (go_at_call 39; ((with_reducible refine (rlex_big s _ (by omega) hs).mono ?_); rintro e w2 ⟨rfl, rfl⟩))
        go_ret
        exact ⟨ret_bool (by rw [HN.out, word_big s (by omega)]), hb1⟩

end Go.Proofs.YtaedlhjjfmmpdaaDoor
