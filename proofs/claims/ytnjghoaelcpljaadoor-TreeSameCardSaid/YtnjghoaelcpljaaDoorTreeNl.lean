/-
  A program that came in: a slice without an array has no room.
-/
import Derived.Test.YtnjghoaelcpljaaDoorTreeBk
namespace Go.Proofs.YtnjghoaelcpljaaDoor
open Go Go.ChangeShapes Go.WideShapes Go.ChangeAt Go.RowKit Go.Deep

section
variable {H : Type} {enc : TypeId × Value → H} {W : World} {sp : Nat → Bool} {held : Bool}

theorem slice_nil {t e : TypeId} {fuel A n cap} {x : DataW H × List MemPlace} (ht : Tryd.prog.underlying t = some (.slice e)) (h : DataW.trod enc Tryd.prog W 0 sp held fuel t [.slice A n cap] = some x) : A = none → cap = 0 := by
  rcases DataW.trod_slice ht h with ⟨h1, _⟩ | ⟨a, len, cap', elems, rest, k, _, h1, h2, _, _, _, hlen, _⟩
  · injection h1 with h1 _
    injection h1 with h1 h2 h3
    exact fun _ => h3
  · injection h1 with h1 _
    injection h1 with h1 h2' h3
    exact fun h => by rw [h1] at h; cases h
theorem prog_nils {A A' : Option Addr} {n cap n' cap' : Nat} {d : DataW H} {p : List MemPlace} {base : Nat} (hv : Value.okWide Tryd.prog W .any base 25 (.agg #[.slice A n cap, .slice A' n' cap']))
    (h : DataW.Trod enc Tryd.prog W 0 sp held 25 (.agg #[.slice A n cap, .slice A' n' cap']) d p) : (A = none → cap = 0) ∧ (A' = none → cap' = 0) := by
  obtain ⟨cs, e, hsz⟩ := okWide_struct Tryd.underlying25 hv
  clear e hsz
  obtain ⟨fuel, hf⟩ := h
  obtain ⟨xs, k, hk, hx, hlen, hxl, hf⟩ := DataW.trod_struct Tryd.underlying25 hf
  have hxl2 : xs.length = 2 := hxl
  have hcl : (Value.agg #[.slice A n cap, .slice A' n' cap']).cells.toList.length = 2 := rfl
  obtain ⟨v0, c0, t0⟩ := field_one (j := 0) (by omega) (show Tryd.prog.cellsOf 22 = 1 by kernel_rfl) ((hf 0 _ rfl).trans (List.getElem?_eq_getElem (by omega)))
  obtain ⟨v1, c1, t1⟩ := field_one (j := 1) (by omega) (show Tryd.prog.cellsOf 23 = 1 by kernel_rfl) ((hf 1 _ rfl).trans (List.getElem?_eq_getElem (by omega)))
  have e0 : Value.slice A n cap = v0 := Option.some.inj c0
  have e1 : Value.slice A' n' cap' = v1 := Option.some.inj c1
  subst e0 e1
  exact ⟨slice_nil Tryd.underlying22 t0, slice_nil Tryd.underlying23 t1⟩

end
end Go.Proofs.YtnjghoaelcpljaaDoor
