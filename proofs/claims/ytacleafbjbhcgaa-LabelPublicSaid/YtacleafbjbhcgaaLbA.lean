/-
  Small contracts of layer 7: Secret, great, label.secret.
-/
import Derived.Test.YtacleafbjbhcgaaChecked
import Derived.Test.YtacleafbjbhcgaaLbP
import Derived.Lib.Hide
import Derived.BigQuiet
namespace Go.Proofs.Ytacleafbjbhcgaa
open Go Go.RowKit Go.Lib

theorem ret_bool {a b : Bool} (h : a = b) : Ending.returned (.bool a) = .returned (.bool b) := by rw [h]
theorem ret_int {k : IntKind} {a b : Int} (h : a = b) : Ending.returned (.int k a) = .returned (.int k b) := by rw [h]

theorem great_nil {s : ByteArray} (h : s.size = 0) : greatB s = false := by
  have : s.data.toList = [] := List.eq_nil_of_length_eq_zero (by simpa using h)
  unfold greatB; rw [this]
theorem great_at {s : ByteArray} (h : 0 < s.size) : greatB s = (decide (65 ≤ (s[0]'h).toNat) && decide ((s[0]'h).toNat ≤ 90)) := by
  obtain ⟨⟨l⟩⟩ := s
  cases l with
  | nil => exact absurd h (by decide)
  | cons c r => rfl
theorem size_ne {s : ByteArray} (h : 0 < s.size) : ¬ s.toList = [] := by
  rw [ByteArray.toList_eq]; intro e
  have h2 : s.size = s.data.toList.length := rfl
  rw [h2, e] at h; exact absurd h (by decide)
theorem size_nil {s : ByteArray} (h : s.size = 0) : s = (⟨#[]⟩ : ByteArray) := by
  obtain ⟨⟨l⟩⟩ := s
  cases l with
  | nil => rfl
  | cons c r => exact absurd h (by simp [ByteArray.size])

set_option maxHeartbeats 1000000 in
theorem secret_any (s : ByteArray) (w : World) (hs : s.size ≤ 9223372036854775807) :
    Calls Try.prog 20 #[.string s] w fun e w' => e = .returned (.bool (greatB s)) ∧ w = w' := by
  by_cases h : 0 < s.size
  · have h1 := size_ne h
    have H1 := Lib.hid (show s.toList.isEmpty = false by simpa using h1)
    have h2 := great_at h
    have HG := Lib.hid h2; clear h2
    go_enter Try.func20, Try.ntmps20
    go_wp2
    all_goals
      go_ret
      refine ⟨ret_bool ?_, rfl⟩
      rw [HG.out, Bool.eq_iff_iff]
      simp only [H1.out, Bool.not_false, Bool.true_and, Bool.and_eq_true, decide_eq_true_eq, Bool.false_eq_true, false_iff]
      first | omega | exact absurd ‹s.toList = []› h1
  · obtain rfl := size_nil (by omega : s.size = 0)
    go_enter Try.func20, Try.ntmps20
    go_wp2
    go_ret
    exact ⟨rfl, rfl⟩

set_option maxHeartbeats 1000000 in
theorem lsecret_any (op n : Int) (s : ByteArray) (v : Value) (p : Bool) (w : World) (hs : s.size ≤ 9223372036854775807) :
    Calls Try.prog 15 #[.agg #[.int .i64 op, .int .i64 n, .string s, v], .bool p] w fun e w' => e = .returned (.bool (secB op s p)) ∧ Below w.heap.size w w' := by
  have HS := Lib.hid (fun w1 => secret_any s w1 hs)
  have HB := Lib.hid (fun o => (Below.refl w.heap.size w).alloc (Nat.le_refl _) o)
  by_cases h5 : op = 5
  · subst h5
    go_enter Try.func15, Try.ntmps15
    go_wp2_with (go_at_call 20; ((with_reducible refine (HS.out _).mono ?_); rintro e w1 ⟨rfl, rfl⟩))
    go_ret
    exact ⟨ret_bool (by simp [secB]), HB.out _⟩
  · by_cases h24 : op = 2 ∨ op = 4
    · rcases h24 with rfl | rfl
      all_goals
        cases p
        all_goals
          go_enter Try.func15, Try.ntmps15
          go_wp2_with (go_at_call 20; ((with_reducible refine (HS.out _).mono ?_); rintro e w1 ⟨rfl, rfl⟩))
          go_ret
          exact ⟨ret_bool (by simp [secB]), HB.out _⟩
    · simp only [not_or] at h24
      obtain ⟨h2, h4⟩ := h24
      go_enter Try.func15, Try.ntmps15
      go_wp2
      go_ret
      exact ⟨ret_bool (by simp [secB, h5, h2, h4]), HB.out _⟩
end Go.Proofs.Ytacleafbjbhcgaa
