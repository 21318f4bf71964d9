/-
  Programs and statements that came in, with what the rows say of their sizes.
-/
import Derived.Test.YtnjghoaelcpljaaDoorTreeA
namespace Go.Proofs.YtnjghoaelcpljaaDoor
open Go Go.ChangeShapes Go.WideShapes Go.ChangeAt Go.RowKit Go.Deep

section
variable {H : Type} {enc : TypeId × Value → H} {W : World} {sp : Nat → Bool} {held : Bool}

theorem slice_size {t e : TypeId} {fuel A n cap} {x : DataW H × List MemPlace} (ht : Tryd.prog.underlying t = some (.slice e)) (h : DataW.trod enc Tryd.prog W 0 sp held fuel t [.slice A n cap] = some x)
    (hw : ∀ m ∈ x.1.weights Tryd.prog t, m ≤ reachBytes) : (A = none → cap = 0) ∧ n * Tryd.prog.bytesOf e ≤ reachBytes := by
  rcases DataW.trod_slice ht h with ⟨h1, _⟩ | ⟨a, len, cap', elems, rest, k, _, h1, h2, _, _, _, hlen, _⟩
  · injection h1 with h1 _
    injection h1 with h1 h2 h3
    subst h1 h2 h3
    exact ⟨fun _ => rfl, by simp⟩
  · injection h1 with h1 _
    injection h1 with h1 h2' h3
    subst h1 h2' h3
    refine ⟨fun h => (by cases h), ?_⟩
    have := hw ((elems.length + rest.length) * Tryd.prog.bytesOf e) (by rw [h2]; simp [DataW.weights, ht])
    rw [← hlen]
    exact Nat.le_trans (Nat.mul_le_mul_right _ (Nat.le_add_right _ _)) this

/-- A program that came in: its two slices. -/
theorem open_prog2 {v : Value} {d : DataW H} {p : List MemPlace} {base : Nat} (hv : Value.okWide Tryd.prog W .any base 25 v) (h : DataW.Trod enc Tryd.prog W 0 sp held 25 v d p)
    (hw : ∀ n ∈ d.weights Tryd.prog 25, n ≤ reachBytes) :
    ∃ (pg : Pg) (A : Option Addr) (cap : Nat) (A' : Option Addr) (cap' : Nat), v = .agg #[.slice A pg.fs.length cap, .slice A' pg.m.len cap'] ∧ PgV W.heap.size W v pg ∧ (A = none → cap = 0) ∧ (A' = none → cap' = 0) ∧ pg.fs.length * 64 ≤ reachBytes ∧ pg.m.len * 104 ≤ reachBytes := by
  obtain ⟨cs, rfl, hsz⟩ := okWide_struct Tryd.underlying25 hv
  have hsz2 : cs.size = 2 := hsz.trans (by kernel_rfl)
  obtain ⟨fuel, hf⟩ := h
  obtain ⟨xs, k, hk, hx, hlen, hxl, hf⟩ := DataW.trod_struct Tryd.underlying25 hf
  have hxl2 : xs.length = 2 := hxl
  have hcl : (Value.agg cs).cells.toList.length = 2 := hlen.trans (by kernel_rfl)
  obtain ⟨v0, c0, t0⟩ := field_one (j := 0) (by omega) (show Tryd.prog.cellsOf 22 = 1 by kernel_rfl) ((hf 0 _ rfl).trans (List.getElem?_eq_getElem (by omega)))
  obtain ⟨v1, c1, t1⟩ := field_one (j := 1) (by omega) (show Tryd.prog.cellsOf 23 = 1 by kernel_rfl) ((hf 1 _ rfl).trans (List.getElem?_eq_getElem (by omega)))
  obtain ⟨v, fs, e, w0⟩ := fs_open t0
  injection e with e _
  subst e
  obtain ⟨v, m, e, w1⟩ := ss_open k t1
  injection e with e _
  subst e
  obtain ⟨A, cap, rfl, _⟩ := id w0
  obtain ⟨A', cap', rfl, _⟩ := id w1
  have hcs : cs = #[.slice A fs.length cap, .slice A' m.len cap'] := by
    apply Array.ext'
    have h0 : cs.toList[0]? = some (.slice A fs.length cap) := c0
    have h1 : cs.toList[1]? = some (.slice A' m.len cap') := c1
    have hl : cs.toList.length = 2 := by simpa using hsz2
    match hh : cs.toList, hl with
    | [a, b], _ =>
      rw [hh] at h0 h1
      simp at h0 h1
      simp [h0, h1]
  have hd : d = .agg (xs.map (·.1)) := congrArg Prod.fst hx
  have hww : ∀ n ∈ DataW.weightsEach Tryd.prog [22, 23] (xs.map (·.1)), n ≤ reachBytes := by
    intro n hn
    refine hw n ?_
    rw [hd]
    have hu : Tryd.prog.underlying 25 = some (.struct _) := Tryd.underlying25
    simp only [DataW.weights, hu]
    exact hn
  have s0 := slice_size Tryd.underlying22 t0 (fun n hn => hww n (DataW.weights_mem_each (j := 0) rfl (by rw [List.getElem?_map, List.getElem?_eq_getElem (by omega)]; rfl) n hn))
  have s1 := slice_size Tryd.underlying23 t1 (fun n hn => hww n (DataW.weights_mem_each (j := 1) rfl (by rw [List.getElem?_map, List.getElem?_eq_getElem (by omega)]; rfl) n hn))
  rw [show Tryd.prog.bytesOf 35 = 64 by kernel_rfl] at s0
  rw [show Tryd.prog.bytesOf 38 = 104 by kernel_rfl] at s1
  exact ⟨⟨fs, m⟩, A, cap, A', cap', by rw [hcs], ⟨A, cap, A', cap', by rw [hcs], w0, w1⟩, s0.1, s1.1, s0.2, s1.2⟩

/-- A statement that came in. -/
theorem open_stmt {v : Value} {d : DataW H} {p : List MemPlace} {base : Nat} (hv : Value.okWide Tryd.prog W .any base 38 v) (h : DataW.Trod enc Tryd.prog W 0 sp held 38 v d p) :
    ∃ op s n vl l vx x vy y, v = .agg #[.int .i64 op, .string s, .int .i64 n, vl, vx, vy] ∧ EV W.heap.size W vl l ∧ SV W.heap.size W vx x ∧ SV W.heap.size W vy y ∧ (I64 op ∧ I64 n ∧ s.size ≤ 9223372036854775807) := by
  obtain ⟨cs, rfl, hsz⟩ := okWide_struct Tryd.underlying38 hv
  obtain ⟨fuel, hf⟩ := h
  obtain ⟨op, s, n, vl, l, vx, x, vy, y, e, h1, h2, h3, h4⟩ := stmt_open (fun m _ => ss_open m) hf
  refine ⟨op, s, n, vl, l, vx, x, vy, y, ?_, h1, h2, h3, h4⟩
  have e' : cs.toList = [.int .i64 op, .string s, .int .i64 n, vl, vx, vy] := e
  rw [show cs = #[.int .i64 op, .string s, .int .i64 n, vl, vx, vy] from Array.ext' e']

end
end Go.Proofs.YtnjghoaelcpljaaDoor
