/-
  A program that came in: its slices, and how long its first function's name may be.
-/
import Derived.Test.YtnjghoaelcpljaaDoorTreeAz
import Derived.Test.YtnjghoaelcpljaaDoorTreeNl
namespace Go.Proofs.YtnjghoaelcpljaaDoor
open Go Go.ChangeShapes Go.WideShapes Go.ChangeAt Go.RowKit Go.Deep

section
variable {H : Type} {enc : TypeId × Value → H} {W : World} {sp : Nat → Bool} {held : Bool}

theorem weights_all {P : Program} {e : TypeId} : ∀ {l : List (DataW H)} {j : Nat} {d : DataW H}, l[j]? = some d → ∀ n ∈ d.weights P e, n ∈ DataW.weightsAll P e l
  | [], _, _, h, _, _ => by simp at h
  | d :: r, 0, _, h, n, hn => by
    simp at h
    subst h
    simp only [DataW.weightsAll, List.mem_append]
    exact .inl hn
  | d :: r, j + 1, _, h, n, hn => by
    simp only [DataW.weightsAll, List.mem_append]
    exact .inr (weights_all (j := j) (by simpa using h) n hn)

theorem fs_first {fuel n cap b o : Nat} {x : DataW H × List MemPlace} {s : ByteArray} (h : DataW.trod enc Tryd.prog W 0 sp held fuel 22 [.slice (some ⟨b, o, none⟩) n cap] = some x) (hn : 0 < n)
    (hw : ∀ m ∈ x.1.weights Tryd.prog 22, m ≤ reachBytes) (hc : W.cell? ⟨b, o, none⟩ = some (.string s)) : s.size ≤ reachBytes := by
  have hu := Tryd.underlying22
  rcases DataW.trod_slice hu h with ⟨h1, _⟩ | ⟨a, len, cap', elems, rest, k, _, h1, h2, _, _, _, hlen, hel, _⟩
  · cases h1
  · injection h1 with h1 _
    injection h1 with h1 h2' h3
    injection h1 with h1
    subst h1 h2' h3
    have h4 := hel 0 hn
    rw [List.getElem?_eq_getElem (by omega)] at h4
    obtain ⟨cs', h5, h6⟩ := Option.bind_eq_some_iff.1 h4
    obtain ⟨_, h7, h8⟩ := World.cells?_some h5
    have h3c : Tryd.prog.cellsOf 35 = 3 := by kernel_rfl
    rw [h3c] at h7
    obtain ⟨xs, k', hk, hx, hll, hxl, hf⟩ := DataW.trod_struct Tryd.underlying35 h6
    have hxl3 : xs.length = 3 := hxl
    obtain ⟨v0, c0, t0⟩ := field_one (j := 0) (by omega) (show Tryd.prog.cellsOf 9 = 1 by kernel_rfl) ((hf 0 _ rfl).trans (List.getElem?_eq_getElem (by omega)))
    have h9 := h8 0 (by omega)
    have e0 : ((⟨b, o, none⟩ : Addr).add (0 * Tryd.prog.cellsOf 35)).add 0 = ⟨b, o, none⟩ := by
      simp [Addr.add]
    rw [e0, hc, c0] at h9
    have e1 := Option.some.inj h9
    subst e1
    obtain ⟨s', e2, ex, _⟩ := DataW.trod_string Tryd.underlying9 t0
    injection e2 with e2 _
    injection e2 with e2
    subst e2
    have hd : (elems.map (·.1))[0]? = some (elems[0]'(by omega)).1 := by rw [List.getElem?_map, List.getElem?_eq_getElem (by omega)]; rfl
    have ht0 : (xs.map (·.1))[0]? = some (xs[0]'(by omega)).1 := by rw [List.getElem?_map, List.getElem?_eq_getElem (by omega)]; rfl
    refine hw s.size ?_
    rw [h2]
    simp only [DataW.weights, hu]
    refine List.mem_cons_of_mem _ (List.mem_append.2 (.inl (weights_all hd _ ?_)))
    have hy : (elems[0]'(by omega)).1 = .agg (xs.map (·.1)) := congrArg Prod.fst hx
    have hus : Tryd.prog.underlying 35 = some (.struct _) := Tryd.underlying35
    rw [hy]
    simp only [DataW.weights, hus]
    refine DataW.weights_mem_each (j := 0) (t := 9) rfl ht0 _ ?_
    have hz : (xs[0]'(by omega)).1 = .lit (.string s.data.toList) := congrArg Prod.fst ex
    rw [hz]
    simp [DataW.weights]

/-- A program that came in: its two slices. -/
theorem open_prog3 {v : Value} {d : DataW H} {p : List MemPlace} {base : Nat} (hv : Value.okWide Tryd.prog W .any base 25 v) (h : DataW.Trod enc Tryd.prog W 0 sp held 25 v d p)
    (hw : ∀ n ∈ d.weights Tryd.prog 25, n ≤ reachBytes) :
    ∃ (pg : Pg) (A : Option Addr) (cap : Nat) (A' : Option Addr) (cap' : Nat), v = .agg #[.slice A pg.fs.length cap, .slice A' pg.m.len cap'] ∧ FV W.heap.size W (.slice A pg.fs.length cap) pg.fs ∧ SV W.heap.size W (.slice A' pg.m.len cap') pg.m ∧ (A = none → cap = 0) ∧ (A' = none → cap' = 0) ∧ pg.fs.length * 64 ≤ reachBytes ∧ pg.m.len * 104 ≤ reachBytes ∧
      (∀ b o s, A = some ⟨b, o, none⟩ → 0 < pg.fs.length → W.cell? ⟨b, o, none⟩ = some (.string s) → s.size ≤ reachBytes) := by
  obtain ⟨cs, rfl, hsz⟩ := okWide_struct Tryd.underlying25 hv
  have hsz2 : cs.size = 2 := hsz.trans (by kernel_rfl)
  obtain ⟨fuel, hf⟩ := h
  obtain ⟨xs, k, hk, hx, hlen, hxl, hf⟩ := DataW.trod_struct Tryd.underlying25 hf
  have hxl2 : xs.length = 2 := hxl
  have hcl : (Value.agg cs).cells.toList.length = 2 := hlen.trans (by kernel_rfl)
  obtain ⟨v0, c0, t0⟩ := field_one (j := 0) (by omega) (show Tryd.prog.cellsOf 22 = 1 by kernel_rfl) ((hf 0 _ rfl).trans (List.getElem?_eq_getElem (by omega)))
  obtain ⟨v1, c1, t1⟩ := field_one (j := 1) (by omega) (show Tryd.prog.cellsOf 23 = 1 by kernel_rfl) ((hf 1 _ rfl).trans (List.getElem?_eq_getElem (by omega)))
  obtain ⟨v, fs, e, w0⟩ := fs_open t0
  injection e with e _
  subst e
  obtain ⟨v, m, e, w1⟩ := ss_open k t1
  injection e with e _
  subst e
  obtain ⟨A, cap, rfl, _⟩ := id w0
  obtain ⟨A', cap', rfl, _⟩ := id w1
  have hcs : cs = #[.slice A fs.length cap, .slice A' m.len cap'] := by
    apply Array.ext'
    have h0 : cs.toList[0]? = some (.slice A fs.length cap) := c0
    have h1 : cs.toList[1]? = some (.slice A' m.len cap') := c1
    have hl : cs.toList.length = 2 := by simpa using hsz2
    match hh : cs.toList, hl with
    | [a, b], _ =>
      rw [hh] at h0 h1
      simp at h0 h1
      simp [h0, h1]
  have hd : d = .agg (xs.map (·.1)) := congrArg Prod.fst hx
  have hww : ∀ n ∈ DataW.weightsEach Tryd.prog [22, 23] (xs.map (·.1)), n ≤ reachBytes := by
    intro n hn
    refine hw n ?_
    rw [hd]
    have hu : Tryd.prog.underlying 25 = some (.struct _) := Tryd.underlying25
    simp only [DataW.weights, hu]
    exact hn
  have hw0 := fun n hn => hww n (DataW.weights_mem_each (j := 0) (t := 22) rfl (by rw [List.getElem?_map, List.getElem?_eq_getElem (by omega)]; rfl) n hn)
  have s0 := slice_size Tryd.underlying22 t0 hw0
  have s1 := slice_size Tryd.underlying23 t1 (fun n hn => hww n (DataW.weights_mem_each (j := 1) rfl (by rw [List.getElem?_map, List.getElem?_eq_getElem (by omega)]; rfl) n hn))
  rw [show Tryd.prog.bytesOf 35 = 64 by kernel_rfl] at s0
  rw [show Tryd.prog.bytesOf 38 = 104 by kernel_rfl] at s1
  exact ⟨⟨fs, m⟩, A, cap, A', cap', by rw [hcs], w0, w1, s0.1, s1.1, s0.2, s1.2, fun b o s e hn hc => by subst e; exact fs_first t0 hn hw0 hc⟩

end
end Go.Proofs.YtnjghoaelcpljaaDoor
