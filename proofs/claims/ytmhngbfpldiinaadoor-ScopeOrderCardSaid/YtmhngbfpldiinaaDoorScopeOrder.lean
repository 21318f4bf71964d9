/-
  ScopeOrder: for every row of bytes the statement's function tells true, and its arguments stay.
  Conditions: the two listed tables of package tree are as the program's text lays them (the card ties that).
-/
import Derived.Test.YtmhngbfpldiinaaDoorTreeBk
import Derived.Test.YtmhngbfpldiinaaDoorCards
import Derived.Test.YtmhngbfpldiinaaDoorTie
import Derived.Test.YtmhngbfpldiinaaDoorSqQ
namespace Go.Proofs.YtmhngbfpldiinaaDoor
open Go Go.ChangeShapes Go.WideShapes Go.ChangeAt Go.RowKit
open Go.ChangeMaps (open_string shut_string)

theorem cellsByte : Tryd.prog.cellsOf 5 = 1 := by kernel_rfl
theorem u8_wf {n : Int} (h : (Lit.int .u8 n).wf = true) : 0 ≤ n ∧ n ≤ 255 := by
  have h1 : IntKind.u8.min = 0 := rfl
  have h2 : IntKind.u8.max = 255 := rfl
  simp only [Lit.wf, Bool.and_eq_true, decide_eq_true_eq] at h
  omega

/-- A slice of bytes that came in is a row of some bytes. -/
theorem open_row {H : Type} {enc : TypeId × Value → H} {W : World} {A : Option Addr} {len cap : Nat} {d : DataW H} {p : List MemPlace}
    (h : DataW.Trod enc Tryd.prog W 0 (fun _ => true) true 47 (.slice A len cap) d p) : ∃ l : List UInt8, l.length = len ∧ len ≤ cap ∧ cap ≤ 9223372036854775807 ∧ Row W A l ∧ (A = none → cap = 0) := by
  obtain ⟨fuel, hf⟩ := h
  rcases open_ints Tryd.underlying47 Tryd.underlying5 cellsByte hf with ⟨h1, _⟩ | ⟨a, len', cap', zs, h1, _, hlc, hcm, hz, _, hcell, hwf⟩
  · have e : Value.slice A len cap = .slice none 0 0 := by simpa [Value.cells] using h1
    injection e with e1 e2 e3
    subst e1 e2 e3
    exact ⟨[], rfl, Nat.le_refl _, by decide, fun h0 => by simp at h0, fun _ => rfl⟩
  · have e : Value.slice A len cap = .slice (some a) len' cap' := by simpa [Value.cells] using h1
    injection e with e1 e2 e3
    subst e1 e2 e3
    simp only [if_true] at hz
    refine ⟨(zs.take len).map fun n => UInt8.ofNat n.toNat, by simp; omega, hlc, by unfold maxLen at hcm; omega, fun h0 => ?_, fun h => by cases h⟩
    have hl : ((zs.take len).map fun n => UInt8.ofNat n.toNat).length = len := by simp; omega
    rw [hl] at h0
    obtain ⟨b, off, rfl, hc⟩ := ints_at hcell (by omega)
    refine ⟨b, off, rfl, lt_of_cell (hc 0 (by omega)), fun i hi => ?_⟩
    rw [hl] at hi
    have hiz : i < zs.length := by omega
    rw [hc i hiz]
    have hw := u8_wf (hwf (zs[i]) (List.getElem_mem hiz))
    congr 2
    unfold nth bv
    rw [List.getD_eq_getElem?_getD, List.getD_eq_getElem?_getD, List.getElem?_map, List.getElem?_take_of_lt hi, List.getElem?_eq_getElem hiz]
    simp only [Option.getD_some, Option.map_some]
    rw [UInt8.toNat_ofNat']
    omega

set_option maxRecDepth 100000 in
theorem scopeOrder_lifted (os : Os) (started : os.Started) (H : Type) (enc : TypeId × Value → H) :
    ReturnsInHanded {} Tryd.checked os 6 .any (fun w args => (Rows.scopeOrderSpec.pre enc Tryd.prog Tryd.f6 [] false w args ∧ laidMetH Tryd.prog laid2 w) ∧ sizedMet enc Tryd.prog Tryd.f6 (OpenSpec.ofChange Rows.scopeOrderSpec) false w args)
      (Rows.scopeOrderSpec.post enc Tryd.prog Tryd.f6 false true false false) := by
  refine returnsInHanded_of_change_and (C := Tryd.checked) (X := fun w _ => laidMetH Tryd.prog laid2 w) (fun _ _ _ hh h => h.of_heap hh) own started (by kernel_rfl) Tryd.func6
    (ChangeSpec.witness_shaped (enc := enc) (C := Tryd.checked) (os := os) (X := fun w _ => laidMetH Tryd.prog laid2 w) false (World.doorLaid Tryd.prog 44 os) #[.slice none 0 0] 8 rfl (World.shaped_of_RefB (by kernel_rfl) (by kernel_rfl)) (by kernel_rfl) (by kernel_rfl) (by kernel_rfl) (door_met os _)) ?_
  intro W base args ds gs before hval0 hW _ hsz0 hL _
  clear hsz0
  have hval : ∀ (j : Nat) t v, Tryd.f6.params[j]? = some t → args[j]? = some v → Value.okWide Tryd.prog W .any base t v := hval0
  have hW' := hW
  obtain ⟨p, q, hA0, hV, rfl, _, _⟩ := hW
  have hA : DataW.TrodAll enc Tryd.prog W 0 (fun _ => true) true Tryd.f6.params.toList args.toList ds p := hA0
  rw [Tryd.params6] at hA hval
  obtain ⟨v0, d0, rfl, rfl, h0⟩ := trodAll_one hA
  obtain ⟨rfl, rfl⟩ := trodVars_none hV
  obtain ⟨a0, len0, cap0, rfl⟩ := okWide_slice Tryd.underlying47 (hval 0 47 v0 rfl rfl)
  obtain ⟨l0, hl0, hlc0, hcm0, hrow0, _⟩ := open_row h0
  clear hA0 hval0
  simp only [List.append_nil] at hW'
  have hlt0 : ∀ x ∈ p, x.block < W.heap.size := fun x hx => hW'.lt x (by simp [hx])
  refine ((order_walk a0 len0 cap0 l0 W hl0 hlc0 hcm0 hrow0 (tab_of_laid hL))).mono fun e W' ⟨he, hnx⟩ => ?_
  subst he
  refine ⟨_, rfl, _, _, _, [], p, [], hW', ?_, ?_, rfl, Below.frame hnx _, fun h => by cases h⟩
  · exact trodAll_mk1 (shut_bool Tryd.underlying4 _)
  · exact trodAll_mk1 (Below.trod laidOut (by kernel_rfl) (of_decide_eq_true (by kernel_rfl)) h0 hnx hlt0)

theorem scopeOrder_holds : Rows.ScopeOrderSaid :=
  OpenClaim.holds_of_wide 6 Tryd.f6 rfl rfl rfl rfl rfl rfl rfl ⟨rfl, rfl, rfl, rfl, rfl⟩ rfl rfl rfl rfl rfl (by kernel_rfl) Tryd.func6 (by kernel_rfl)
    (of_decide_eq_true (by kernel_rfl)) (by unfold Func.isWrapper; first | (rw [if_pos (by decide +kernel)]; kernel_rfl) | (rw [if_neg (by decide +kernel)]; exact ⟨rfl, rfl⟩))
    (fun os started H enc _ => scopeOrder_lifted os started H enc)

theorem scopeOrder_card : Rows.ScopeOrderCardSaid :=
  Claim7.holds_tied_plain_at .later [] [.data, .data] true Rows.scopeOrderCard.stood.harness true
    scopeOrder_holds (fun _ h => by cases h) (by kernel_rfl) (fun _ h => by cases h) scopeOrder_row_tie rfl ⟨rfl, rfl⟩ (by kernel_rfl) rfl
    (fun f fn hf hfn => by
      obtain rfl : f = 6 := Option.some.inj ((show Tryd.prog.funcNamed Rows.scopeOrderRow.func = some 6 by kernel_rfl).symm.trans hf) |>.symm
      obtain rfl : fn = Tryd.f6 := (Option.some.inj (Tryd.func6.symm.trans hfn)).symm
      exact ⟨by kernel_rfl, fun j t hjt => by
        rw [Tryd.params6] at hjt
        have h3 : t = 47 := by
          have hm := Array.mem_of_getElem? hjt
          simp at hm
          first | omega | (rcases hm with rfl | rfl <;> simp) | (rcases hm with rfl | rfl <;> decide)
        rcases h3 with rfl
        exact (show Tryd.prog.wantsStandIn 47 = false by kernel_rfl)⟩)
    (by kernel_rfl)

end Go.Proofs.YtmhngbfpldiinaaDoor
