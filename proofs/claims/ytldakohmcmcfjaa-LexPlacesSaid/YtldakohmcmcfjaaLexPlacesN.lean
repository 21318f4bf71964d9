/-
  LexPlaces: no bytes; and all together.
-/
import Derived.Test.YtldakohmcmcfjaaLexPlacesW
namespace Go.Proofs.Ytldakohmcmcfjaa
open Go Go.RowKit Go.Lib

set_option maxHeartbeats 4000000 in
set_option maxRecDepth 100000 in
theorem places_nil (A : Option Addr) (cap : Nat) (w : World) (hm : cap ≤ 9223372036854775807) (hA : A = none → cap = 0) :
    Calls Try.prog 5 #[.slice A 0 cap] w fun e w' => e = .returned (.bool true) ∧ Fr w w' := by
  have hfr := Fr.refl w
  have HA := Lib.hid hA
  clear hA
  go_enter Try.func5, Try.ntmps5
  go_upto_region 2 with (go_at_call 10; ((with_reducible refine (shown_fr w _ (by assumption)).mono ?_); rintro e w1 ⟨rfl, h1⟩))
  go_cut [0] (fun s wx => s = .slice A 0 cap ∧ wx = w1)
  case first =>
    cases A with
    | none =>
      obtain rfl := HA.out rfl
      go_wp2_with fail
      all_goals (go_meet; exact ⟨rfl, rfl⟩)
    | some ad =>
      go_wp2_with fail
      all_goals (go_meet; exact ⟨rfl, rfl⟩)
  case rest =>
    obtain ⟨rfl, rfl⟩ := hcut
    go_wp2_with (go_at_call 11; ((with_reducible refine (lex_nil _ _ _).mono ?_); rintro e w2 ⟨g, c1, rfl, hg, hc1, ht1, hb2⟩; have h2 := h1.below hb2))
    go_loopw [7, 8, 9] (fun a c i wr => ∃ k : Nat, k ≤ 1 ∧ i = .int .i64 k ∧ a = .int .i64 0 ∧ c = .bool false ∧ Below w2.heap.size w2 wr) (fun _ _ i _ => 1 - (intOf i).toNat)
    case atStart => exact ⟨0, Nat.zero_le _, rfl, rfl, rfl, Below.refl _ _⟩
    case round =>
      obtain ⟨k, hk, rfl, rfl, rfl, hbk⟩ := hrel
      obtain ⟨y1, y2, y3⟩ := (ht1.past hbk).2 0 ⟨4, [], 0⟩ rfl
      have z1 : wr.cell? ⟨g, 0, none⟩ = some (.int .i64 4) := y1
      have z2 : wr.cell? ⟨g, 1, none⟩ = some (.string ⟨#[]⟩) := y2
      have z3 : wr.cell? ⟨g, 2, none⟩ = some (.int .i64 0) := y3
      clear y1 y2 y3
      by_cases hlt : k < 1
      · obtain rfl : k = 0 := by omega
        rw [show Value.int .i64 ((0 : Nat) : Int) = .int .i64 0 from rfl]
        have hcv := fun nq => conv_nil (wr.drewN nq)
        go_wp2_with fail
        go_quiet (fail)
        go_wp2_with fail
        go_loop [8, 10] (fun c kk => kk = .int .i64 0 ∧ c = .bool false) (fun _ kk => 0)
        case atStart => exact ⟨rfl, rfl⟩
        case round =>
          obtain ⟨rfl, rfl⟩ := hrel
          cases A with
          | none =>
            obtain rfl := HA.out rfl
            go_wp2_with fail
            go_quiet (fail)
            go_wp2_with fail
            go_quiet (fail)
            go_wp2
            go_roundw
            case rel => exact ⟨1, by omega, rfl, rfl, rfl, by first | exact hbk | (repeat (first | exact hbk | refine below_drew ?_ _))⟩
            case measure => simp [intOf]
          | some ad =>
            go_wp2_with fail
            go_quiet (fail)
            go_wp2_with fail
            go_quiet (fail)
            go_wp2
            go_roundw
            case rel => exact ⟨1, by omega, rfl, rfl, rfl, by first | exact hbk | (repeat (first | exact hbk | refine below_drew ?_ _))⟩
            case measure => simp [intOf]
      · obtain rfl : k = 1 := by omega
        rw [show Value.int .i64 ((1 : Nat) : Int) = .int .i64 1 from rfl]
        go_wp2
        go_ret
        exact ⟨rfl, h2.below hbk⟩

theorem places_walk (A : Option Addr) (n cap : Nat) (l : List UInt8) (w : World) (hn : l.length = n) (hcap : n ≤ cap) (hm : cap ≤ 9223372036854775807) (hr : Row w A l) (hA : A = none → cap = 0) :
    Calls Try.prog 5 #[.slice A n cap] w fun e w' => e = .returned (.bool true) ∧ Fr w w' := by
  by_cases hl : 0 < l.length
  · obtain ⟨b, o, rfl, hb, hc⟩ := hr hl
    cases hp : lexS 0 (l.take (min n 2000)) with
    | bad p => exact places_bad _ n cap _ p l w hn hcap hm hr rfl hp
    | ok ts =>
      have := toks_le l.length.succ 0 (l.take (min n 2000)) ts (by rw [List.length_take]; omega) hp
      rw [List.length_take] at this
      exact places_ok b o n cap _ _ l ts w hn hcap hm hr rfl hp rfl (by omega)
  · obtain rfl : n = 0 := by omega
    exact places_nil A cap w hm hA

end Go.Proofs.Ytldakohmcmcfjaa
