/-
  resolve: what it lays ahead of its walks; names of a program are no longer than texts may be.
-/
import Derived.Test.YtnilklgnpfgieaaDoorSpF
import Derived.Laws.EntriesVeiled
namespace Go.Proofs.YtnilklgnpfgieaaDoor
open Go Go.RowKit Go.Lib

/-- A use's name. -/
def Us.nm : Us → ByteArray
  | .var s => s
  | .arr s => s
  | .mk s => s
  | .call s _ => s
theorem exU_nm {op : Int} {s : ByteArray} {k : Nat} {u : Us} (h : u ∈ exU op s k) : u.nm = s := by
  unfold exU at h
  split at h
  · rw [List.mem_singleton.1 h]; rfl
  split at h
  · rw [List.mem_singleton.1 h]; rfl
  split at h
  · rw [List.mem_singleton.1 h]; rfl
  · cases h
theorem stU_nm {op : Int} {s : ByteArray} {u : Us} (h : u ∈ stU op s) : u.nm = s := by
  unfold stU at h
  split at h
  · rw [List.mem_singleton.1 h]; rfl
  split at h
  · rw [List.mem_singleton.1 h]; rfl
  split at h
  · rw [List.mem_singleton.1 h]; rfl
  · cases h
theorem ev_us {B : Nat} {W : World} : ∀ {l : ES} {v : Value}, EV B W v l → ∀ u ∈ l.us, u.nm.size ≤ 9223372036854775807 := by
  have hin : ∀ {l : ES} {b o : Nat}, l.In B W b o → ∀ u ∈ l.us, u.nm.size ≤ 9223372036854775807 := by
    intro l
    induction l with
    | nil => intro b o _ u hu; cases hu
    | cons op m s l r ih1 ih2 =>
      intro b o h u hu
      obtain ⟨_, _, _, ⟨v, _, hv⟩, h4, hr⟩ := h
      rw [ES.us] at hu
      rcases List.mem_append.1 hu with h1 | h1
      · rw [exU_nm h1]; exact h4.2.2
      rcases List.mem_append.1 h1 with h2 | h2
      · obtain ⟨A, cap, _, _, _, h3⟩ := hv
        cases l with
        | nil => cases h2
        | cons op' m' s' l' r' =>
          obtain ⟨b', o', _, _, h5⟩ := h3 (by simp [ES.len])
          exact ih1 h5 u h2
      · exact ih2 hr u h2
  intro l v hv
  obtain ⟨A, cap, _, _, _, h3⟩ := hv
  cases l with
  | nil => intro u hu; cases hu
  | cons op' m' s' l' r' =>
    obtain ⟨b', o', _, _, h5⟩ := h3 (by simp [ES.len])
    exact hin h5
theorem sv_us {B : Nat} {W : World} : ∀ {l : SS} {v : Value}, SV B W v l → ∀ u ∈ l.us, u.nm.size ≤ 9223372036854775807 := by
  have hin : ∀ {l : SS} {b o : Nat}, l.In B W b o → ∀ u ∈ l.us, u.nm.size ≤ 9223372036854775807 := by
    intro l
    induction l with
    | nil => intro b o _ u hu; cases hu
    | cons op s m l x y r ih1 ih2 ih3 =>
      intro b o h u hu
      obtain ⟨_, _, _, ⟨v, _, hv⟩, ⟨v', _, hx⟩, ⟨v'', _, hy⟩, h4, hr⟩ := h
      have sub : ∀ {l : SS} {v : Value}, (∀ {b o : Nat}, l.In B W b o → ∀ u ∈ l.us, u.nm.size ≤ 9223372036854775807) → SV B W v l → ∀ u ∈ l.us, u.nm.size ≤ 9223372036854775807 := by
        intro l v ih hv
        obtain ⟨A, cap, _, _, _, h3⟩ := hv
        cases l with
        | nil => intro u hu; cases hu
        | cons op' m' s' l' x' y' r' =>
          obtain ⟨b', o', _, _, h5⟩ := h3 (by simp [SS.len])
          exact ih h5
      rw [SS.us] at hu
      rcases List.mem_append.1 hu with h1 | h1
      · rw [stU_nm h1]; exact h4.2.2
      rcases List.mem_append.1 h1 with h2 | h2
      · exact ev_us hv u h2
      rcases List.mem_append.1 h2 with h3 | h3
      · exact sub ih1 hx u h3
      rcases List.mem_append.1 h3 with h5 | h5
      · exact sub ih2 hy u h5
      · exact ih3 hr u h5
  intro l v hv
  obtain ⟨A, cap, _, _, _, h3⟩ := hv
  cases l with
  | nil => intro u hu; cases hu
  | cons op' m' s' l' x' y' r' =>
    obtain ⟨b', o', _, _, h5⟩ := h3 (by simp [SS.len])
    exact hin h5
/-- Where names come from. -/
theorem Gt.step_mem {ar : ByteArray → Option Nat} {g : Gt} {u : Us} {s : ByteArray} (h : s ∈ (g.step ar u).vs ∨ s ∈ (g.step ar u).xs ∨ s ∈ (g.step ar u).ms) : (s ∈ g.vs ∨ s ∈ g.xs ∨ s ∈ g.ms) ∨ u.nm = s := by
  cases u with
  | var x =>
    rcases h with h | h | h
    · rcases withN_mem.1 h with h | rfl
      · exact .inl (.inl h)
      · exact .inr rfl
    · exact .inl (.inr (.inl h))
    · exact .inl (.inr (.inr h))
  | arr x =>
    rcases h with h | h | h
    · exact .inl (.inl h)
    · rcases withN_mem.1 h with h | rfl
      · exact .inl (.inr (.inl h))
      · exact .inr rfl
    · exact .inl (.inr (.inr h))
  | mk x =>
    rcases h with h | h | h
    · exact .inl (.inl h)
    · rcases withN_mem.1 h with h | rfl
      · exact .inl (.inr (.inl h))
      · exact .inr rfl
    · rcases withN_mem.1 h with h | rfl
      · exact .inl (.inr (.inr h))
      · exact .inr rfl
  | call x k => exact .inl h
theorem Gt.run_mem {ar : ByteArray → Option Nat} {s : ByteArray} : ∀ (l : List Us) {g : Gt}, (s ∈ (g.run ar l).vs ∨ s ∈ (g.run ar l).xs ∨ s ∈ (g.run ar l).ms) → (s ∈ g.vs ∨ s ∈ g.xs ∨ s ∈ g.ms) ∨ ∃ u ∈ l, u.nm = s
  | [], g, h => .inl h
  | u :: l, g, h => by
    rcases Gt.run_mem l (g := g.step ar u) h with h | ⟨u', hu, e⟩
    · rcases Gt.step_mem h with h | h
      · exact .inl h
      · exact .inr ⟨u, List.mem_cons_self, h⟩
    · exact .inr ⟨u', List.mem_cons_of_mem _ hu, e⟩
def gParF (ps : List ByteArray) (g : Gt) : Gt := ps.foldl (fun g s => { g with vs := withN g.vs s }) g
theorem gParF_mem {s : ByteArray} : ∀ (ps : List ByteArray) {g : Gt}, s ∈ (gParF ps g).vs → s ∈ g.vs ∨ s ∈ ps
  | [], g, h => .inl h
  | p :: ps, g, h => by
    rcases gParF_mem ps (g := { g with vs := withN g.vs p }) h with h | h
    · rcases withN_mem.1 h with h | rfl
      · exact .inl h
      · exact .inr List.mem_cons_self
    · exact .inr (List.mem_cons_of_mem _ h)
theorem gParF_xs : ∀ (ps : List ByteArray) (g : Gt), (gParF ps g).xs = g.xs ∧ (gParF ps g).ms = g.ms ∧ (gParF ps g).ok = g.ok
  | [], _g => ⟨rfl, rfl, rfl⟩
  | p :: ps, g => gParF_xs ps { g with vs := withN g.vs p }

/-- What lies there when the walks begin. -/
def w8 (w : World) (n : Nat) (nm : ByteArray) (np : Int) (vp vb : Value) (M : Nat) : World :=
  (((((((w.alloc (.cells #[.string nm, vp, vb] 56)).alloc (.cells #[.map (some M)] 49)).alloc (scO ⟨#[]⟩ 0 (.slice none 0 0) (.slice none 0 0))).alloc (scO nm np (.slice none 0 0) (.slice none 0 0))).alloc (.map #[] 0)).alloc (.cells #[.map (some (n + 4))] 94)).alloc (.cells #[varF n] 96)).alloc (.cells #[arrF n] 96)
theorem new_at {W : World} {k : Nat} (h : W.heap.size = k) (o : Obj) : (W.alloc o).heap[k]? = some o ∧ (W.alloc o).heap.size = k + 1 := ⟨blk_new h, by rw [World.size_alloc, h]⟩
theorem Gt.bits0 (s : ByteArray) : g0.bits s = 0 := by unfold Gt.bits g0; simp
theorem w8_ri {w : World} {n : Nat} (hn : w.heap.size = n) (nm : ByteArray) (np : Int) (vp vb : Value) (M : Nat) :
    RI n w nm np g0 0 (w8 w n nm np vp vb M) ∧ (w8 w n nm np vp vb M).heap[n]? = some (.cells #[.string nm, vp, vb] 56) ∧ (w8 w n nm np vp vb M).heap[n + 1]? = some (.cells #[.map (some M)] 49) ∧ (w8 w n nm np vp vb M).heap[n + 2]? = some (scO ⟨#[]⟩ 0 (.slice none 0 0) (.slice none 0 0)) ∧ (w8 w n nm np vp vb M).heap.size = n + 8 := by
  unfold w8
  have hb0 : Below n w w := Below.refl _ _
  have a1 := new_at hn (.cells #[.string nm, vp, vb] 56)
  have hb1 := hb0.alloc (by omega) (.cells #[.string nm, vp, vb] 56)
  generalize w.alloc (.cells #[.string nm, vp, vb] 56) = w1 at *
  have a2 := new_at a1.2 (.cells #[.map (some M)] 49)
  have b1 := blk_alloc a1.1 (.cells #[.map (some M)] 49)
  have hb2 := hb1.alloc (by omega) (.cells #[.map (some M)] 49)
  generalize w1.alloc (.cells #[.map (some M)] 49) = w2 at *
  have a3 := new_at a2.2 (scO ⟨#[]⟩ 0 (.slice none 0 0) (.slice none 0 0))
  have b1 := blk_alloc b1 (scO ⟨#[]⟩ 0 (.slice none 0 0) (.slice none 0 0))
  have b2 := blk_alloc a2.1 (scO ⟨#[]⟩ 0 (.slice none 0 0) (.slice none 0 0))
  have hb3 := hb2.alloc (by omega) (scO ⟨#[]⟩ 0 (.slice none 0 0) (.slice none 0 0))
  generalize w2.alloc (scO ⟨#[]⟩ 0 (.slice none 0 0) (.slice none 0 0)) = w3 at *
  have a4 := new_at a3.2 (scO nm np (.slice none 0 0) (.slice none 0 0))
  have b1 := blk_alloc b1 (scO nm np (.slice none 0 0) (.slice none 0 0))
  have b2 := blk_alloc b2 (scO nm np (.slice none 0 0) (.slice none 0 0))
  have b3 := blk_alloc a3.1 (scO nm np (.slice none 0 0) (.slice none 0 0))
  have hb4 := hb3.alloc (by omega) (scO nm np (.slice none 0 0) (.slice none 0 0))
  generalize w3.alloc (scO nm np (.slice none 0 0) (.slice none 0 0)) = w4 at *
  have m5 := World.ownsMap_made (H := Unit) w4 Tryd.prog 9 (plainElem Tryd.prog 3)
  rw [a4.2] at m5
  have a5 := new_at a4.2 (.map #[] 0)
  have b1 := blk_alloc b1 (.map #[] 0)
  have b2 := blk_alloc b2 (.map #[] 0)
  have b3 := blk_alloc b3 (.map #[] 0)
  have b4 := blk_alloc a4.1 (.map #[] 0)
  have hb5 := hb4.alloc (by omega) (.map #[] 0)
  generalize w4.alloc (.map #[] 0) = w5 at *
  have a6 := new_at a5.2 (.cells #[.map (some (n + 4))] 94)
  have b1 := blk_alloc b1 (.cells #[.map (some (n + 4))] 94)
  have b2 := blk_alloc b2 (.cells #[.map (some (n + 4))] 94)
  have b3 := blk_alloc b3 (.cells #[.map (some (n + 4))] 94)
  have b4 := blk_alloc b4 (.cells #[.map (some (n + 4))] 94)
  have m6 := m5.alloc (.cells #[.map (some (n + 4))] 94)
  have hb6 := hb5.alloc (by omega) (.cells #[.map (some (n + 4))] 94)
  generalize w5.alloc (.cells #[.map (some (n + 4))] 94) = w6 at *
  have a7 := new_at a6.2 (.cells #[varF n] 96)
  have b1 := blk_alloc b1 (.cells #[varF n] 96)
  have b2 := blk_alloc b2 (.cells #[varF n] 96)
  have b3 := blk_alloc b3 (.cells #[varF n] 96)
  have b4 := blk_alloc b4 (.cells #[varF n] 96)
  have b6 := blk_alloc a6.1 (.cells #[varF n] 96)
  have m7 := m6.alloc (.cells #[varF n] 96)
  have hb7 := hb6.alloc (by omega) (.cells #[varF n] 96)
  generalize w6.alloc (.cells #[varF n] 96) = w7 at *
  have a8 := new_at a7.2 (.cells #[arrF n] 96)
  have b1 := blk_alloc b1 (.cells #[arrF n] 96)
  have b2 := blk_alloc b2 (.cells #[arrF n] 96)
  have b3 := blk_alloc b3 (.cells #[arrF n] 96)
  have b4 := blk_alloc b4 (.cells #[arrF n] 96)
  have b6 := blk_alloc b6 (.cells #[arrF n] 96)
  have b7 := blk_alloc a7.1 (.cells #[arrF n] 96)
  have m8 := m7.alloc (.cells #[arrF n] 96)
  have hb8 := hb7.alloc (by omega) (.cells #[arrF n] 96)
  generalize w7.alloc (.cells #[arrF n] 96) = w8 at *
  refine ⟨⟨.slice none 0 0, .slice none 0 0, { base := hb8, n0 := by omega, box := b4, rv := ⟨rfl, .inl ⟨rfl, rfl⟩⟩, rx := ⟨rfl, .inl ⟨rfl, rfl⟩⟩, ap := fun k h => (by cases h.1), map := ⟨.map [], m8, fun s => ?_⟩, seen := b6, fv := b7, fa := a8.1, lv := Nat.le_refl _, lx := Nat.le_refl _ }⟩, b1, b2, b3, a8.2⟩
  rw [Gt.bits0]
  rfl
end Go.Proofs.YtnilklgnpfgieaaDoor
