/-
  What holds while TreeSame's copy is made, whatever has come up.
-/
import Derived.Test.YtnjghoaelcpljaaDoorTreeCh
import Derived.Test.YtnjghoaelcpljaaDoorInv
namespace Go.Proofs.YtnjghoaelcpljaaDoor
open Go Go.RowKit Go.Lib

/-- Which operations have come up. -/
def ld (a : Array Bool) (j : Nat) : Bool := a.getD j false
def up (l : Nat → Bool) (i : Nat) : Nat → Bool := fun j => if j = i then true else l j
theorem ld_set (a : Array Bool) (i : Nat) (h : i < a.size) : ld (a.setIfInBounds i true) = up (ld a) i := by
  funext j
  unfold ld up
  simp only [Array.getD_eq_getD_getElem?, Array.getElem?_setIfInBounds]
  by_cases e : i = j
  · subst e
    simp [h]
  · simp [e, Ne.symm e]
theorem ld_new (n j : Nat) : ld (Array.replicate n false) j = false := by
  unfold ld
  rw [Array.getD_eq_getD_getElem?, Array.getElem?_replicate]
  split <;> rfl
theorem ld_false {a : Array Bool} {j : Nat} (h : a.getD j true = false) : ld a j = false ∧ j < a.size := by
  unfold ld
  rw [Array.getD_eq_getD_getElem?] at h
  rw [Array.getD_eq_getD_getElem?]
  rcases Nat.lt_or_ge j a.size with hl | hl
  · rw [Array.getElem?_eq_getElem hl] at h ⊢
    exact ⟨by simpa using h, hl⟩
  · rw [Array.getElem?_eq_none hl] at h
    simp at h
theorem ld_true {a : Array Bool} {j : Nat} (h : a.getD j true = true) (hj : j < a.size) : ld a j = true := by
  unfold ld
  rw [Array.getD_eq_getD_getElem?] at h ⊢
  rw [Array.getElem?_eq_getElem hj] at h ⊢
  simpa using h

structure Inv2 (w1 : World) (g : Nat) (A : Option Addr) (nF cap : Nat) (csF : List Value) (X : Option Addr) (nM capx : Nat) (csM : List Value) (l : Nat → Bool) (s8 s12 s13 s14 s15 s16 s17 s18 s19 s20 : Value) (w : World) : Prop where
  below : Below w1.heap.size w1 w
  p13 : l 1 = true → s13 = .pointer (some ⟨g, 0, none⟩)
  p14 : l 2 = true → s14 = .slice A nF cap
  p17 : l 5 = true → s17 = .pointer (some ⟨g, 1, none⟩)
  p18 : l 6 = true → s18 = .slice X nM capx
  f0 : l 0 = true → l 3 = false → w.ownsRow w1.heap.size 35 3 s12 0 []
  f1 : l 3 = true → w.ownsRow w1.heap.size 35 3 s15 nF csF
  m0 : l 4 = true → l 7 = false → w.ownsRow w1.heap.size 38 6 s16 0 []
  m1 : l 7 = true → w.ownsRow w1.heap.size 38 6 s19 nM csM
  b20 : l 8 = true → s20 = .agg #[s15, s19]
  box : l 9 = true → l 10 = false → ∃ k, s8 = .pointer (some ⟨k, 0, none⟩) ∧ w1.heap.size ≤ k ∧ w.heap[k]? = some (.cells #[.slice none 0 0, .slice none 0 0] 25)
  fin : l 10 = true → ∃ k A2 cap2 A3 cap3, s8 = .pointer (some ⟨k, 0, none⟩) ∧ Fin3 w1 w k 35 3 (.slice A3 nF cap3) nF csF 38 6 (.slice A2 nM cap2) nM csM
  dep8 : l 8 = true → l 3 = true ∧ l 7 = true
  last : l 10 = true → ∀ j, j < 10 → l j = true
theorem Inv2.s1 {w1 : World} {g : Nat} {A : Option Addr} {nF cap : Nat} {csF : List Value} {X : Option Addr} {nM capx : Nat} {csM : List Value} {l : Nat → Bool} {s8 s12 s13 s14 s15 s16 s17 s18 s19 s20 : Value} {w : World} (h : Inv2 w1 g A nF cap csF X nM capx csM l s8 s12 s13 s14 s15 s16 s17 s18 s19 s20 w) (hl : l 1 = false) : Inv2 w1 g A nF cap csF X nM capx csM (up l 1) s8 s12 (.pointer (some ⟨g, 0, none⟩)) s14 s15 s16 s17 s18 s19 s20 w := by
  have h10 : l 10 = false := by
    cases h10 : l 10 with
    | false => rfl
    | true => rw [h.last h10 1 (by decide)] at hl; cases hl
  exact {
    below := h.below
    p13 := fun _ => rfl
    p14 := by simpa [up] using h.p14
    p17 := by simpa [up] using h.p17
    p18 := by simpa [up] using h.p18
    f0 := by simpa [up] using h.f0
    f1 := by simpa [up] using h.f1
    m0 := by simpa [up] using h.m0
    m1 := by simpa [up] using h.m1
    b20 := by simpa [up] using h.b20
    box := by simpa [up] using h.box
    fin := fun e => absurd e (by simp [up, h10])
    dep8 := fun e => by
      have := h.dep8 (by simpa [up] using e)
      simp [up, this.1, this.2]
    last := fun e => absurd e (by simp [up, h10])
  }
theorem Inv2.s2 {w1 : World} {g : Nat} {A : Option Addr} {nF cap : Nat} {csF : List Value} {X : Option Addr} {nM capx : Nat} {csM : List Value} {l : Nat → Bool} {s8 s12 s13 s14 s15 s16 s17 s18 s19 s20 : Value} {w : World} (h : Inv2 w1 g A nF cap csF X nM capx csM l s8 s12 s13 s14 s15 s16 s17 s18 s19 s20 w) (hl : l 2 = false) : Inv2 w1 g A nF cap csF X nM capx csM (up l 2) s8 s12 s13 (.slice A nF cap) s15 s16 s17 s18 s19 s20 w := by
  have h10 : l 10 = false := by
    cases h10 : l 10 with
    | false => rfl
    | true => rw [h.last h10 2 (by decide)] at hl; cases hl
  exact {
    below := h.below
    p13 := by simpa [up] using h.p13
    p14 := fun _ => rfl
    p17 := by simpa [up] using h.p17
    p18 := by simpa [up] using h.p18
    f0 := by simpa [up] using h.f0
    f1 := by simpa [up] using h.f1
    m0 := by simpa [up] using h.m0
    m1 := by simpa [up] using h.m1
    b20 := by simpa [up] using h.b20
    box := by simpa [up] using h.box
    fin := fun e => absurd e (by simp [up, h10])
    dep8 := fun e => by
      have := h.dep8 (by simpa [up] using e)
      simp [up, this.1, this.2]
    last := fun e => absurd e (by simp [up, h10])
  }
theorem Inv2.s5 {w1 : World} {g : Nat} {A : Option Addr} {nF cap : Nat} {csF : List Value} {X : Option Addr} {nM capx : Nat} {csM : List Value} {l : Nat → Bool} {s8 s12 s13 s14 s15 s16 s17 s18 s19 s20 : Value} {w : World} (h : Inv2 w1 g A nF cap csF X nM capx csM l s8 s12 s13 s14 s15 s16 s17 s18 s19 s20 w) (hl : l 5 = false) : Inv2 w1 g A nF cap csF X nM capx csM (up l 5) s8 s12 s13 s14 s15 s16 (.pointer (some ⟨g, 1, none⟩)) s18 s19 s20 w := by
  have h10 : l 10 = false := by
    cases h10 : l 10 with
    | false => rfl
    | true => rw [h.last h10 5 (by decide)] at hl; cases hl
  exact {
    below := h.below
    p13 := by simpa [up] using h.p13
    p14 := by simpa [up] using h.p14
    p17 := fun _ => rfl
    p18 := by simpa [up] using h.p18
    f0 := by simpa [up] using h.f0
    f1 := by simpa [up] using h.f1
    m0 := by simpa [up] using h.m0
    m1 := by simpa [up] using h.m1
    b20 := by simpa [up] using h.b20
    box := by simpa [up] using h.box
    fin := fun e => absurd e (by simp [up, h10])
    dep8 := fun e => by
      have := h.dep8 (by simpa [up] using e)
      simp [up, this.1, this.2]
    last := fun e => absurd e (by simp [up, h10])
  }
theorem Inv2.s6 {w1 : World} {g : Nat} {A : Option Addr} {nF cap : Nat} {csF : List Value} {X : Option Addr} {nM capx : Nat} {csM : List Value} {l : Nat → Bool} {s8 s12 s13 s14 s15 s16 s17 s18 s19 s20 : Value} {w : World} (h : Inv2 w1 g A nF cap csF X nM capx csM l s8 s12 s13 s14 s15 s16 s17 s18 s19 s20 w) (hl : l 6 = false) : Inv2 w1 g A nF cap csF X nM capx csM (up l 6) s8 s12 s13 s14 s15 s16 s17 (.slice X nM capx) s19 s20 w := by
  have h10 : l 10 = false := by
    cases h10 : l 10 with
    | false => rfl
    | true => rw [h.last h10 6 (by decide)] at hl; cases hl
  exact {
    below := h.below
    p13 := by simpa [up] using h.p13
    p14 := by simpa [up] using h.p14
    p17 := by simpa [up] using h.p17
    p18 := fun _ => rfl
    f0 := by simpa [up] using h.f0
    f1 := by simpa [up] using h.f1
    m0 := by simpa [up] using h.m0
    m1 := by simpa [up] using h.m1
    b20 := by simpa [up] using h.b20
    box := by simpa [up] using h.box
    fin := fun e => absurd e (by simp [up, h10])
    dep8 := fun e => by
      have := h.dep8 (by simpa [up] using e)
      simp [up, this.1, this.2]
    last := fun e => absurd e (by simp [up, h10])
  }
theorem Inv2.s8 {w1 : World} {g : Nat} {A : Option Addr} {nF cap : Nat} {csF : List Value} {X : Option Addr} {nM capx : Nat} {csM : List Value} {l : Nat → Bool} {s8 s12 s13 s14 s15 s16 s17 s18 s19 s20 : Value} {w : World} (h : Inv2 w1 g A nF cap csF X nM capx csM l s8 s12 s13 s14 s15 s16 s17 s18 s19 s20 w) (hl : l 8 = false) (h3 : l 3 = true) (h7 : l 7 = true) : Inv2 w1 g A nF cap csF X nM capx csM (up l 8) s8 s12 s13 s14 s15 s16 s17 s18 s19 (.agg #[s15, s19]) w := by
  have h10 : l 10 = false := by
    cases h10 : l 10 with
    | false => rfl
    | true => rw [h.last h10 8 (by decide)] at hl; cases hl
  exact {
    below := h.below
    p13 := by simpa [up] using h.p13
    p14 := by simpa [up] using h.p14
    p17 := by simpa [up] using h.p17
    p18 := by simpa [up] using h.p18
    f0 := by simpa [up] using h.f0
    f1 := by simpa [up] using h.f1
    m0 := by simpa [up] using h.m0
    m1 := by simpa [up] using h.m1
    b20 := fun _ => rfl
    box := by simpa [up] using h.box
    fin := fun e => absurd e (by simp [up, h10])
    dep8 := fun _ => by simp [up, h3, h7]
    last := fun e => absurd e (by simp [up, h10])
  }
theorem Inv2.s0 {w1 : World} {g : Nat} {A : Option Addr} {nF cap : Nat} {csF : List Value} {X : Option Addr} {nM capx : Nat} {csM : List Value} {l : Nat → Bool} {s8 s12 s13 s14 s15 s16 s17 s18 s19 s20 : Value} {w : World} (h : Inv2 w1 g A nF cap csF X nM capx csM l s8 s12 s13 s14 s15 s16 s17 s18 s19 s20 w) (hl : l 0 = false) : Inv2 w1 g A nF cap csF X nM capx csM (up l 0) s8 (.slice (some ⟨w.heap.size, 0, none⟩) 0 0) s13 s14 s15 s16 s17 s18 s19 s20 (w.alloc (.cells #[] 35)) := by
  have h10 : l 10 = false := by
    cases h10 : l 10 with
    | false => rfl
    | true => rw [h.last h10 0 (by decide)] at hl; cases hl
  exact {
    below := h.below.alloc h.below.size _
    p13 := by simpa [up] using h.p13
    p14 := by simpa [up] using h.p14
    p17 := by simpa [up] using h.p17
    p18 := by simpa [up] using h.p18
    f0 := fun _ _ => made_in rfl h.below.size
    f1 := fun a => (h.f1 (by simpa [up] using a)).alloc _
    m0 := fun a b => (h.m0 (by simpa [up] using a) (by simpa [up] using b)).alloc _
    m1 := fun a => (h.m1 (by simpa [up] using a)).alloc _
    b20 := by simpa [up] using h.b20
    box := fun a b => by
      obtain ⟨k, h1, h2, h3⟩ := h.box (by simpa [up] using a) h10
      exact ⟨k, h1, h2, blk_alloc h3 _⟩
    fin := fun e => absurd e (by simp [up, h10])
    dep8 := fun e => by
      have := h.dep8 (by simpa [up] using e)
      simp [up, this.1, this.2]
    last := fun e => absurd e (by simp [up, h10])
  }
theorem Inv2.s4 {w1 : World} {g : Nat} {A : Option Addr} {nF cap : Nat} {csF : List Value} {X : Option Addr} {nM capx : Nat} {csM : List Value} {l : Nat → Bool} {s8 s12 s13 s14 s15 s16 s17 s18 s19 s20 : Value} {w : World} (h : Inv2 w1 g A nF cap csF X nM capx csM l s8 s12 s13 s14 s15 s16 s17 s18 s19 s20 w) (hl : l 4 = false) : Inv2 w1 g A nF cap csF X nM capx csM (up l 4) s8 s12 s13 s14 s15 (.slice (some ⟨w.heap.size, 0, none⟩) 0 0) s17 s18 s19 s20 (w.alloc (.cells #[] 38)) := by
  have h10 : l 10 = false := by
    cases h10 : l 10 with
    | false => rfl
    | true => rw [h.last h10 4 (by decide)] at hl; cases hl
  exact {
    below := h.below.alloc h.below.size _
    p13 := by simpa [up] using h.p13
    p14 := by simpa [up] using h.p14
    p17 := by simpa [up] using h.p17
    p18 := by simpa [up] using h.p18
    f0 := fun a b => (h.f0 (by simpa [up] using a) (by simpa [up] using b)).alloc _
    f1 := fun a => (h.f1 (by simpa [up] using a)).alloc _
    m0 := fun _ _ => made_in rfl h.below.size
    m1 := fun a => (h.m1 (by simpa [up] using a)).alloc _
    b20 := by simpa [up] using h.b20
    box := fun a b => by
      obtain ⟨k, h1, h2, h3⟩ := h.box (by simpa [up] using a) h10
      exact ⟨k, h1, h2, blk_alloc h3 _⟩
    fin := fun e => absurd e (by simp [up, h10])
    dep8 := fun e => by
      have := h.dep8 (by simpa [up] using e)
      simp [up, this.1, this.2]
    last := fun e => absurd e (by simp [up, h10])
  }
theorem Inv2.s9 {w1 : World} {g : Nat} {A : Option Addr} {nF cap : Nat} {csF : List Value} {X : Option Addr} {nM capx : Nat} {csM : List Value} {l : Nat → Bool} {s8 s12 s13 s14 s15 s16 s17 s18 s19 s20 : Value} {w : World} (h : Inv2 w1 g A nF cap csF X nM capx csM l s8 s12 s13 s14 s15 s16 s17 s18 s19 s20 w) (hl : l 9 = false) : Inv2 w1 g A nF cap csF X nM capx csM (up l 9) (.pointer (some ⟨w.heap.size, 0, none⟩)) s12 s13 s14 s15 s16 s17 s18 s19 s20 (w.alloc (.cells #[.slice none 0 0, .slice none 0 0] 25)) := by
  have h10 : l 10 = false := by
    cases h10 : l 10 with
    | false => rfl
    | true => rw [h.last h10 9 (by decide)] at hl; cases hl
  exact {
    below := h.below.alloc h.below.size _
    p13 := by simpa [up] using h.p13
    p14 := by simpa [up] using h.p14
    p17 := by simpa [up] using h.p17
    p18 := by simpa [up] using h.p18
    f0 := fun a b => (h.f0 (by simpa [up] using a) (by simpa [up] using b)).alloc _
    f1 := fun a => (h.f1 (by simpa [up] using a)).alloc _
    m0 := fun a b => (h.m0 (by simpa [up] using a) (by simpa [up] using b)).alloc _
    m1 := fun a => (h.m1 (by simpa [up] using a)).alloc _
    b20 := by simpa [up] using h.b20
    box := fun _ _ => ⟨w.heap.size, rfl, h.below.size, blk_new rfl⟩
    fin := fun e => absurd e (by simp [up, h10])
    dep8 := fun e => by
      have := h.dep8 (by simpa [up] using e)
      simp [up, this.1, this.2]
    last := fun e => absurd e (by simp [up, h10])
  }
theorem Inv2.s3 {w1 : World} {g : Nat} {A : Option Addr} {nF cap : Nat} {csF : List Value} {X : Option Addr} {nM capx : Nat} {csM : List Value} {l : Nat → Bool} {s8 s12 s13 s14 s15 s16 s17 s18 s19 s20 : Value} {w : World} (h : Inv2 w1 g A nF cap csF X nM capx csM l s8 s12 s13 s14 s15 s16 s17 s18 s19 s20 w) (hl : l 3 = false) (h0 : l 0 = true) (h8 : l 8 = false) {v : Value} {w' : World} (ho : w'.ownsRow w1.heap.size 35 3 v nF csF) (hg : w.grownBy w' s12.ownBlock) : Inv2 w1 g A nF cap csF X nM capx csM (up l 3) s8 s12 s13 s14 (v) s16 s17 s18 s19 s20 w' := by
  have h10 : l 10 = false := by
    cases h10 : l 10 with
    | false => rfl
    | true => rw [h.last h10 3 (by decide)] at hl; cases hl
  exact {
    below := grown_below h.below (h.f0 h0 hl) (Nat.le_refl _) hg
    p13 := by simpa [up] using h.p13
    p14 := by simpa [up] using h.p14
    p17 := by simpa [up] using h.p17
    p18 := by simpa [up] using h.p18
    f0 := fun _ e => by simp [up] at e
    f1 := fun _ => ho
    m0 := fun a b => own_keep (h.m0 (by simpa [up] using a) (by simpa [up] using b)) (h.f0 h0 hl) (by decide) hg
    m1 := fun a => own_keep (h.m1 (by simpa [up] using a)) (h.f0 h0 hl) (by decide) hg
    b20 := fun a => by simp [up, h8] at a
    box := fun a b => by
      obtain ⟨k, h1, h2, h3⟩ := h.box (by simpa [up] using a) h10
      exact ⟨k, h1, h2, blk_grown_own (h.f0 h0 hl) hg h3 (by decide)⟩
    fin := fun e => absurd e (by simp [up, h10])
    dep8 := fun e => by
      have := h.dep8 (by simpa [up] using e)
      simp [up, this.2]
    last := fun e => absurd e (by simp [up, h10])
  }
theorem Inv2.s7 {w1 : World} {g : Nat} {A : Option Addr} {nF cap : Nat} {csF : List Value} {X : Option Addr} {nM capx : Nat} {csM : List Value} {l : Nat → Bool} {s8 s12 s13 s14 s15 s16 s17 s18 s19 s20 : Value} {w : World} (h : Inv2 w1 g A nF cap csF X nM capx csM l s8 s12 s13 s14 s15 s16 s17 s18 s19 s20 w) (hl : l 7 = false) (h0 : l 4 = true) (h8 : l 8 = false) {v : Value} {w' : World} (ho : w'.ownsRow w1.heap.size 38 6 v nM csM) (hg : w.grownBy w' s16.ownBlock) : Inv2 w1 g A nF cap csF X nM capx csM (up l 7) s8 s12 s13 s14 s15 s16 s17 s18 (v) s20 w' := by
  have h10 : l 10 = false := by
    cases h10 : l 10 with
    | false => rfl
    | true => rw [h.last h10 7 (by decide)] at hl; cases hl
  exact {
    below := grown_below h.below (h.m0 h0 hl) (Nat.le_refl _) hg
    p13 := by simpa [up] using h.p13
    p14 := by simpa [up] using h.p14
    p17 := by simpa [up] using h.p17
    p18 := by simpa [up] using h.p18
    f0 := fun a b => own_keep (h.f0 (by simpa [up] using a) (by simpa [up] using b)) (h.m0 h0 hl) (by decide) hg
    f1 := fun a => own_keep (h.f1 (by simpa [up] using a)) (h.m0 h0 hl) (by decide) hg
    m0 := fun _ e => by simp [up] at e
    m1 := fun _ => ho
    b20 := fun a => by simp [up, h8] at a
    box := fun a b => by
      obtain ⟨k, h1, h2, h3⟩ := h.box (by simpa [up] using a) h10
      exact ⟨k, h1, h2, blk_grown_own (h.m0 h0 hl) hg h3 (by decide)⟩
    fin := fun e => absurd e (by simp [up, h10])
    dep8 := fun e => by
      have := h.dep8 (by simpa [up] using e)
      simp [up, this.1]
    last := fun e => absurd e (by simp [up, h10])
  }
theorem Inv2.s10 {w1 : World} {g : Nat} {A : Option Addr} {nF cap : Nat} {csF : List Value} {X : Option Addr} {nM capx : Nat} {csM : List Value} {l : Nat → Bool} {s8 s12 s13 s14 s15 s16 s17 s18 s19 s20 : Value} {w : World} (h : Inv2 w1 g A nF cap csF X nM capx csM l s8 s12 s13 s14 s15 s16 s17 s18 s19 s20 w) (hl : l 10 = false) (ha : ∀ j, j < 10 → l j = true) {k : Nat} (hk : s8 = .pointer (some ⟨k, 0, none⟩)) :
    Inv2 w1 g A nF cap csF X nM capx csM (up l 10) s8 s12 s13 s14 s15 s16 s17 s18 s19 s20 ((w.setCell ⟨k, 0, none⟩ s15).setCell ⟨k, 1, none⟩ s19) := by
  obtain ⟨k', h1, h2, h3⟩ := h.box (ha 9 (by decide)) hl
  rw [hk] at h1
  injection h1 with h1
  injection h1 with h1
  injection h1 with h1
  subst h1
  have o1 := h.f1 (ha 3 (by decide))
  have o2 := h.m1 (ha 7 (by decide))
  have hF := fin3_set h.below h2 h3 (by decide) (by decide) o1 o2
  obtain ⟨A3, cap3, e3⟩ := own_form o1
  obtain ⟨A2, cap2, e2⟩ := own_form o2
  obtain ⟨_, _, _, _, o1', o2', _, _, hb⟩ := id hF
  exact {
    below := hb
    p13 := by simpa [up] using h.p13
    p14 := by simpa [up] using h.p14
    p17 := by simpa [up] using h.p17
    p18 := by simpa [up] using h.p18
    f0 := fun _ e => by simp [up, ha 3 (by decide)] at e
    f1 := fun _ => o1'
    m0 := fun _ e => by simp [up, ha 7 (by decide)] at e
    m1 := fun _ => o2'
    b20 := by simpa [up] using h.b20
    box := fun _ e => by simp [up] at e
    fin := fun _ => ⟨k, A2, cap2, A3, cap3, hk, by rw [← e3, ← e2]; exact hF⟩
    dep8 := fun _ => by simp [up, ha 3 (by decide), ha 7 (by decide)]
    last := fun _ j hj => by
      unfold up
      split
      · rfl
      · exact ha j hj
  }
theorem Inv2.start {w1 : World} {g : Nat} {A : Option Addr} {nF cap : Nat} {csF : List Value} {X : Option Addr} {nM capx : Nat} {csM : List Value} {s8 s12 s13 s14 s15 s16 s17 s18 s19 s20 : Value} {w : World} (hb : Below w1.heap.size w1 w) (n : Nat) : Inv2 w1 g A nF cap csF X nM capx csM (ld (Array.replicate n false)) s8 s12 s13 s14 s15 s16 s17 s18 s19 s20 w where
  below := hb
  p13 := fun e => by rw [ld_new] at e; cases e
  p14 := fun e => by rw [ld_new] at e; cases e
  p17 := fun e => by rw [ld_new] at e; cases e
  p18 := fun e => by rw [ld_new] at e; cases e
  f0 := fun e => by rw [ld_new] at e; cases e
  f1 := fun e => by rw [ld_new] at e; cases e
  m0 := fun e => by rw [ld_new] at e; cases e
  m1 := fun e => by rw [ld_new] at e; cases e
  b20 := fun e => by rw [ld_new] at e; cases e
  box := fun e => by rw [ld_new] at e; cases e
  fin := fun e => by rw [ld_new] at e; cases e
  dep8 := fun e => by rw [ld_new] at e; cases e
  last := fun e => by rw [ld_new] at e; cases e

end Go.Proofs.YtnjghoaelcpljaaDoor
