/-
  What holds while a program is made of two, whatever has come up.
-/
import Derived.Test.YtppagjhmlgkamaaGreatDoorCz5
import Derived.Test.YtppagjhmlgkamaaGreatDoorCrAr
namespace Go.Proofs.YtppagjhmlgkamaaGreatDoor
open Go Go.RowKit Go.Lib

structure Inv3 (w1 : World) (g h : Nat) (A : Option Addr) (nF cap : Nat) (csF : List Value) (X : Option Addr) (nM capx : Nat) (csM : List Value) (A' : Option Addr) (nF' cap' : Nat) (csF' : List Value) (X' : Option Addr) (nM' capx' : Nat) (csM' : List Value) (l : Nat → Bool) (s10 s47 s48 s49 s50 s51 s52 s53 s54 s55 s56 s57 s58 s59 s60 s61 : Value) (w : World) : Prop where
  below : Below w1.heap.size w1 w
  p48 : l 1 = true → s48 = .pointer (some ⟨g, 0, none⟩)
  p49 : l 2 = true → s49 = .slice A nF cap
  p51 : l 4 = true → s51 = .pointer (some ⟨h, 0, none⟩)
  p52 : l 5 = true → s52 = .slice A' nF' cap'
  p55 : l 8 = true → s55 = .pointer (some ⟨g, 1, none⟩)
  p56 : l 9 = true → s56 = .slice X nM capx
  p58 : l 11 = true → s58 = .pointer (some ⟨h, 1, none⟩)
  p59 : l 12 = true → s59 = .slice X' nM' capx'
  f0 : l 0 = true → l 3 = false → w.ownsRow w1.heap.size 47 3 s47 0 []
  f1 : l 3 = true → l 6 = false → w.ownsRow w1.heap.size 47 3 s50 nF csF
  f2 : l 6 = true → w.ownsRow w1.heap.size 47 3 s53 (nF + nF') (csF ++ csF')
  m0 : l 7 = true → l 10 = false → w.ownsRow w1.heap.size 41 6 s54 0 []
  m1 : l 10 = true → l 13 = false → w.ownsRow w1.heap.size 41 6 s57 nM csM
  m2 : l 13 = true → w.ownsRow w1.heap.size 41 6 s60 (nM + nM') (csM ++ csM')
  b61 : l 14 = true → s61 = .agg #[s53, s60]
  box : l 15 = true → l 16 = false → ∃ k, s10 = .pointer (some ⟨k, 0, none⟩) ∧ w1.heap.size ≤ k ∧ w.heap[k]? = some (.cells #[.slice none 0 0, .slice none 0 0] 25)
  fin : l 16 = true → ∃ k A2 cap2 A3 cap3, s10 = .pointer (some ⟨k, 0, none⟩) ∧ Fin3 w1 w k 47 3 (.slice A3 (nF + nF') cap3) (nF + nF') (csF ++ csF') 41 6 (.slice A2 (nM + nM') cap2) (nM + nM') (csM ++ csM')
  d3 : l 3 = true → l 0 = true
  d6 : l 6 = true → l 3 = true
  d10 : l 10 = true → l 7 = true
  d13 : l 13 = true → l 10 = true
  d14 : l 14 = true → l 6 = true ∧ l 13 = true
  last : l 16 = true → ∀ j, j < 16 → l j = true
theorem Inv3.s1 {w1 : World} {g h : Nat} {A : Option Addr} {nF cap : Nat} {csF : List Value} {X : Option Addr} {nM capx : Nat} {csM : List Value} {A' : Option Addr} {nF' cap' : Nat} {csF' : List Value} {X' : Option Addr} {nM' capx' : Nat} {csM' : List Value} {l : Nat → Bool} {s10 s47 s48 s49 s50 s51 s52 s53 s54 s55 s56 s57 s58 s59 s60 s61 : Value} {w : World} (I : Inv3 w1 g h A nF cap csF X nM capx csM A' nF' cap' csF' X' nM' capx' csM' l s10 s47 s48 s49 s50 s51 s52 s53 s54 s55 s56 s57 s58 s59 s60 s61 w) (hl : l 1 = false) : Inv3 w1 g h A nF cap csF X nM capx csM A' nF' cap' csF' X' nM' capx' csM' (up l 1) s10 s47 (.pointer (some ⟨g, 0, none⟩)) s49 s50 s51 s52 s53 s54 s55 s56 s57 s58 s59 s60 s61 w := by
  have h16 : l 16 = false := by
    cases h16 : l 16 with
    | false => rfl
    | true => rw [I.last h16 1 (by decide)] at hl; cases hl
  exact {
    below := I.below
    p48 := fun _ => rfl
    p49 := by simpa [up] using I.p49
    p51 := by simpa [up] using I.p51
    p52 := by simpa [up] using I.p52
    p55 := by simpa [up] using I.p55
    p56 := by simpa [up] using I.p56
    p58 := by simpa [up] using I.p58
    p59 := by simpa [up] using I.p59
    f0 := by simpa [up] using I.f0
    f1 := by simpa [up] using I.f1
    f2 := by simpa [up] using I.f2
    m0 := by simpa [up] using I.m0
    m1 := by simpa [up] using I.m1
    m2 := by simpa [up] using I.m2
    b61 := by simpa [up] using I.b61
    box := by simpa [up] using I.box
    fin := fun e => absurd e (by simp [up, h16])
    d3 := fun e => by
      have := I.d3 (by simpa [up] using e)
      simp [up, this]
    d6 := fun e => by
      have := I.d6 (by simpa [up] using e)
      simp [up, this]
    d10 := fun e => by
      have := I.d10 (by simpa [up] using e)
      simp [up, this]
    d13 := fun e => by
      have := I.d13 (by simpa [up] using e)
      simp [up, this]
    d14 := fun e => by
      have := I.d14 (by simpa [up] using e)
      simp [up, this.1, this.2]
    last := fun e => absurd e (by simp [up, h16])
  }
theorem Inv3.s2 {w1 : World} {g h : Nat} {A : Option Addr} {nF cap : Nat} {csF : List Value} {X : Option Addr} {nM capx : Nat} {csM : List Value} {A' : Option Addr} {nF' cap' : Nat} {csF' : List Value} {X' : Option Addr} {nM' capx' : Nat} {csM' : List Value} {l : Nat → Bool} {s10 s47 s48 s49 s50 s51 s52 s53 s54 s55 s56 s57 s58 s59 s60 s61 : Value} {w : World} (I : Inv3 w1 g h A nF cap csF X nM capx csM A' nF' cap' csF' X' nM' capx' csM' l s10 s47 s48 s49 s50 s51 s52 s53 s54 s55 s56 s57 s58 s59 s60 s61 w) (hl : l 2 = false) : Inv3 w1 g h A nF cap csF X nM capx csM A' nF' cap' csF' X' nM' capx' csM' (up l 2) s10 s47 s48 (.slice A nF cap) s50 s51 s52 s53 s54 s55 s56 s57 s58 s59 s60 s61 w := by
  have h16 : l 16 = false := by
    cases h16 : l 16 with
    | false => rfl
    | true => rw [I.last h16 2 (by decide)] at hl; cases hl
  exact {
    below := I.below
    p48 := by simpa [up] using I.p48
    p49 := fun _ => rfl
    p51 := by simpa [up] using I.p51
    p52 := by simpa [up] using I.p52
    p55 := by simpa [up] using I.p55
    p56 := by simpa [up] using I.p56
    p58 := by simpa [up] using I.p58
    p59 := by simpa [up] using I.p59
    f0 := by simpa [up] using I.f0
    f1 := by simpa [up] using I.f1
    f2 := by simpa [up] using I.f2
    m0 := by simpa [up] using I.m0
    m1 := by simpa [up] using I.m1
    m2 := by simpa [up] using I.m2
    b61 := by simpa [up] using I.b61
    box := by simpa [up] using I.box
    fin := fun e => absurd e (by simp [up, h16])
    d3 := fun e => by
      have := I.d3 (by simpa [up] using e)
      simp [up, this]
    d6 := fun e => by
      have := I.d6 (by simpa [up] using e)
      simp [up, this]
    d10 := fun e => by
      have := I.d10 (by simpa [up] using e)
      simp [up, this]
    d13 := fun e => by
      have := I.d13 (by simpa [up] using e)
      simp [up, this]
    d14 := fun e => by
      have := I.d14 (by simpa [up] using e)
      simp [up, this.1, this.2]
    last := fun e => absurd e (by simp [up, h16])
  }
theorem Inv3.s4 {w1 : World} {g h : Nat} {A : Option Addr} {nF cap : Nat} {csF : List Value} {X : Option Addr} {nM capx : Nat} {csM : List Value} {A' : Option Addr} {nF' cap' : Nat} {csF' : List Value} {X' : Option Addr} {nM' capx' : Nat} {csM' : List Value} {l : Nat → Bool} {s10 s47 s48 s49 s50 s51 s52 s53 s54 s55 s56 s57 s58 s59 s60 s61 : Value} {w : World} (I : Inv3 w1 g h A nF cap csF X nM capx csM A' nF' cap' csF' X' nM' capx' csM' l s10 s47 s48 s49 s50 s51 s52 s53 s54 s55 s56 s57 s58 s59 s60 s61 w) (hl : l 4 = false) : Inv3 w1 g h A nF cap csF X nM capx csM A' nF' cap' csF' X' nM' capx' csM' (up l 4) s10 s47 s48 s49 s50 (.pointer (some ⟨h, 0, none⟩)) s52 s53 s54 s55 s56 s57 s58 s59 s60 s61 w := by
  have h16 : l 16 = false := by
    cases h16 : l 16 with
    | false => rfl
    | true => rw [I.last h16 4 (by decide)] at hl; cases hl
  exact {
    below := I.below
    p48 := by simpa [up] using I.p48
    p49 := by simpa [up] using I.p49
    p51 := fun _ => rfl
    p52 := by simpa [up] using I.p52
    p55 := by simpa [up] using I.p55
    p56 := by simpa [up] using I.p56
    p58 := by simpa [up] using I.p58
    p59 := by simpa [up] using I.p59
    f0 := by simpa [up] using I.f0
    f1 := by simpa [up] using I.f1
    f2 := by simpa [up] using I.f2
    m0 := by simpa [up] using I.m0
    m1 := by simpa [up] using I.m1
    m2 := by simpa [up] using I.m2
    b61 := by simpa [up] using I.b61
    box := by simpa [up] using I.box
    fin := fun e => absurd e (by simp [up, h16])
    d3 := fun e => by
      have := I.d3 (by simpa [up] using e)
      simp [up, this]
    d6 := fun e => by
      have := I.d6 (by simpa [up] using e)
      simp [up, this]
    d10 := fun e => by
      have := I.d10 (by simpa [up] using e)
      simp [up, this]
    d13 := fun e => by
      have := I.d13 (by simpa [up] using e)
      simp [up, this]
    d14 := fun e => by
      have := I.d14 (by simpa [up] using e)
      simp [up, this.1, this.2]
    last := fun e => absurd e (by simp [up, h16])
  }
theorem Inv3.s5 {w1 : World} {g h : Nat} {A : Option Addr} {nF cap : Nat} {csF : List Value} {X : Option Addr} {nM capx : Nat} {csM : List Value} {A' : Option Addr} {nF' cap' : Nat} {csF' : List Value} {X' : Option Addr} {nM' capx' : Nat} {csM' : List Value} {l : Nat → Bool} {s10 s47 s48 s49 s50 s51 s52 s53 s54 s55 s56 s57 s58 s59 s60 s61 : Value} {w : World} (I : Inv3 w1 g h A nF cap csF X nM capx csM A' nF' cap' csF' X' nM' capx' csM' l s10 s47 s48 s49 s50 s51 s52 s53 s54 s55 s56 s57 s58 s59 s60 s61 w) (hl : l 5 = false) : Inv3 w1 g h A nF cap csF X nM capx csM A' nF' cap' csF' X' nM' capx' csM' (up l 5) s10 s47 s48 s49 s50 s51 (.slice A' nF' cap') s53 s54 s55 s56 s57 s58 s59 s60 s61 w := by
  have h16 : l 16 = false := by
    cases h16 : l 16 with
    | false => rfl
    | true => rw [I.last h16 5 (by decide)] at hl; cases hl
  exact {
    below := I.below
    p48 := by simpa [up] using I.p48
    p49 := by simpa [up] using I.p49
    p51 := by simpa [up] using I.p51
    p52 := fun _ => rfl
    p55 := by simpa [up] using I.p55
    p56 := by simpa [up] using I.p56
    p58 := by simpa [up] using I.p58
    p59 := by simpa [up] using I.p59
    f0 := by simpa [up] using I.f0
    f1 := by simpa [up] using I.f1
    f2 := by simpa [up] using I.f2
    m0 := by simpa [up] using I.m0
    m1 := by simpa [up] using I.m1
    m2 := by simpa [up] using I.m2
    b61 := by simpa [up] using I.b61
    box := by simpa [up] using I.box
    fin := fun e => absurd e (by simp [up, h16])
    d3 := fun e => by
      have := I.d3 (by simpa [up] using e)
      simp [up, this]
    d6 := fun e => by
      have := I.d6 (by simpa [up] using e)
      simp [up, this]
    d10 := fun e => by
      have := I.d10 (by simpa [up] using e)
      simp [up, this]
    d13 := fun e => by
      have := I.d13 (by simpa [up] using e)
      simp [up, this]
    d14 := fun e => by
      have := I.d14 (by simpa [up] using e)
      simp [up, this.1, this.2]
    last := fun e => absurd e (by simp [up, h16])
  }
theorem Inv3.s8 {w1 : World} {g h : Nat} {A : Option Addr} {nF cap : Nat} {csF : List Value} {X : Option Addr} {nM capx : Nat} {csM : List Value} {A' : Option Addr} {nF' cap' : Nat} {csF' : List Value} {X' : Option Addr} {nM' capx' : Nat} {csM' : List Value} {l : Nat → Bool} {s10 s47 s48 s49 s50 s51 s52 s53 s54 s55 s56 s57 s58 s59 s60 s61 : Value} {w : World} (I : Inv3 w1 g h A nF cap csF X nM capx csM A' nF' cap' csF' X' nM' capx' csM' l s10 s47 s48 s49 s50 s51 s52 s53 s54 s55 s56 s57 s58 s59 s60 s61 w) (hl : l 8 = false) : Inv3 w1 g h A nF cap csF X nM capx csM A' nF' cap' csF' X' nM' capx' csM' (up l 8) s10 s47 s48 s49 s50 s51 s52 s53 s54 (.pointer (some ⟨g, 1, none⟩)) s56 s57 s58 s59 s60 s61 w := by
  have h16 : l 16 = false := by
    cases h16 : l 16 with
    | false => rfl
    | true => rw [I.last h16 8 (by decide)] at hl; cases hl
  exact {
    below := I.below
    p48 := by simpa [up] using I.p48
    p49 := by simpa [up] using I.p49
    p51 := by simpa [up] using I.p51
    p52 := by simpa [up] using I.p52
    p55 := fun _ => rfl
    p56 := by simpa [up] using I.p56
    p58 := by simpa [up] using I.p58
    p59 := by simpa [up] using I.p59
    f0 := by simpa [up] using I.f0
    f1 := by simpa [up] using I.f1
    f2 := by simpa [up] using I.f2
    m0 := by simpa [up] using I.m0
    m1 := by simpa [up] using I.m1
    m2 := by simpa [up] using I.m2
    b61 := by simpa [up] using I.b61
    box := by simpa [up] using I.box
    fin := fun e => absurd e (by simp [up, h16])
    d3 := fun e => by
      have := I.d3 (by simpa [up] using e)
      simp [up, this]
    d6 := fun e => by
      have := I.d6 (by simpa [up] using e)
      simp [up, this]
    d10 := fun e => by
      have := I.d10 (by simpa [up] using e)
      simp [up, this]
    d13 := fun e => by
      have := I.d13 (by simpa [up] using e)
      simp [up, this]
    d14 := fun e => by
      have := I.d14 (by simpa [up] using e)
      simp [up, this.1, this.2]
    last := fun e => absurd e (by simp [up, h16])
  }
theorem Inv3.s9 {w1 : World} {g h : Nat} {A : Option Addr} {nF cap : Nat} {csF : List Value} {X : Option Addr} {nM capx : Nat} {csM : List Value} {A' : Option Addr} {nF' cap' : Nat} {csF' : List Value} {X' : Option Addr} {nM' capx' : Nat} {csM' : List Value} {l : Nat → Bool} {s10 s47 s48 s49 s50 s51 s52 s53 s54 s55 s56 s57 s58 s59 s60 s61 : Value} {w : World} (I : Inv3 w1 g h A nF cap csF X nM capx csM A' nF' cap' csF' X' nM' capx' csM' l s10 s47 s48 s49 s50 s51 s52 s53 s54 s55 s56 s57 s58 s59 s60 s61 w) (hl : l 9 = false) : Inv3 w1 g h A nF cap csF X nM capx csM A' nF' cap' csF' X' nM' capx' csM' (up l 9) s10 s47 s48 s49 s50 s51 s52 s53 s54 s55 (.slice X nM capx) s57 s58 s59 s60 s61 w := by
  have h16 : l 16 = false := by
    cases h16 : l 16 with
    | false => rfl
    | true => rw [I.last h16 9 (by decide)] at hl; cases hl
  exact {
    below := I.below
    p48 := by simpa [up] using I.p48
    p49 := by simpa [up] using I.p49
    p51 := by simpa [up] using I.p51
    p52 := by simpa [up] using I.p52
    p55 := by simpa [up] using I.p55
    p56 := fun _ => rfl
    p58 := by simpa [up] using I.p58
    p59 := by simpa [up] using I.p59
    f0 := by simpa [up] using I.f0
    f1 := by simpa [up] using I.f1
    f2 := by simpa [up] using I.f2
    m0 := by simpa [up] using I.m0
    m1 := by simpa [up] using I.m1
    m2 := by simpa [up] using I.m2
    b61 := by simpa [up] using I.b61
    box := by simpa [up] using I.box
    fin := fun e => absurd e (by simp [up, h16])
    d3 := fun e => by
      have := I.d3 (by simpa [up] using e)
      simp [up, this]
    d6 := fun e => by
      have := I.d6 (by simpa [up] using e)
      simp [up, this]
    d10 := fun e => by
      have := I.d10 (by simpa [up] using e)
      simp [up, this]
    d13 := fun e => by
      have := I.d13 (by simpa [up] using e)
      simp [up, this]
    d14 := fun e => by
      have := I.d14 (by simpa [up] using e)
      simp [up, this.1, this.2]
    last := fun e => absurd e (by simp [up, h16])
  }
theorem Inv3.s11 {w1 : World} {g h : Nat} {A : Option Addr} {nF cap : Nat} {csF : List Value} {X : Option Addr} {nM capx : Nat} {csM : List Value} {A' : Option Addr} {nF' cap' : Nat} {csF' : List Value} {X' : Option Addr} {nM' capx' : Nat} {csM' : List Value} {l : Nat → Bool} {s10 s47 s48 s49 s50 s51 s52 s53 s54 s55 s56 s57 s58 s59 s60 s61 : Value} {w : World} (I : Inv3 w1 g h A nF cap csF X nM capx csM A' nF' cap' csF' X' nM' capx' csM' l s10 s47 s48 s49 s50 s51 s52 s53 s54 s55 s56 s57 s58 s59 s60 s61 w) (hl : l 11 = false) : Inv3 w1 g h A nF cap csF X nM capx csM A' nF' cap' csF' X' nM' capx' csM' (up l 11) s10 s47 s48 s49 s50 s51 s52 s53 s54 s55 s56 s57 (.pointer (some ⟨h, 1, none⟩)) s59 s60 s61 w := by
  have h16 : l 16 = false := by
    cases h16 : l 16 with
    | false => rfl
    | true => rw [I.last h16 11 (by decide)] at hl; cases hl
  exact {
    below := I.below
    p48 := by simpa [up] using I.p48
    p49 := by simpa [up] using I.p49
    p51 := by simpa [up] using I.p51
    p52 := by simpa [up] using I.p52
    p55 := by simpa [up] using I.p55
    p56 := by simpa [up] using I.p56
    p58 := fun _ => rfl
    p59 := by simpa [up] using I.p59
    f0 := by simpa [up] using I.f0
    f1 := by simpa [up] using I.f1
    f2 := by simpa [up] using I.f2
    m0 := by simpa [up] using I.m0
    m1 := by simpa [up] using I.m1
    m2 := by simpa [up] using I.m2
    b61 := by simpa [up] using I.b61
    box := by simpa [up] using I.box
    fin := fun e => absurd e (by simp [up, h16])
    d3 := fun e => by
      have := I.d3 (by simpa [up] using e)
      simp [up, this]
    d6 := fun e => by
      have := I.d6 (by simpa [up] using e)
      simp [up, this]
    d10 := fun e => by
      have := I.d10 (by simpa [up] using e)
      simp [up, this]
    d13 := fun e => by
      have := I.d13 (by simpa [up] using e)
      simp [up, this]
    d14 := fun e => by
      have := I.d14 (by simpa [up] using e)
      simp [up, this.1, this.2]
    last := fun e => absurd e (by simp [up, h16])
  }
theorem Inv3.s12 {w1 : World} {g h : Nat} {A : Option Addr} {nF cap : Nat} {csF : List Value} {X : Option Addr} {nM capx : Nat} {csM : List Value} {A' : Option Addr} {nF' cap' : Nat} {csF' : List Value} {X' : Option Addr} {nM' capx' : Nat} {csM' : List Value} {l : Nat → Bool} {s10 s47 s48 s49 s50 s51 s52 s53 s54 s55 s56 s57 s58 s59 s60 s61 : Value} {w : World} (I : Inv3 w1 g h A nF cap csF X nM capx csM A' nF' cap' csF' X' nM' capx' csM' l s10 s47 s48 s49 s50 s51 s52 s53 s54 s55 s56 s57 s58 s59 s60 s61 w) (hl : l 12 = false) : Inv3 w1 g h A nF cap csF X nM capx csM A' nF' cap' csF' X' nM' capx' csM' (up l 12) s10 s47 s48 s49 s50 s51 s52 s53 s54 s55 s56 s57 s58 (.slice X' nM' capx') s60 s61 w := by
  have h16 : l 16 = false := by
    cases h16 : l 16 with
    | false => rfl
    | true => rw [I.last h16 12 (by decide)] at hl; cases hl
  exact {
    below := I.below
    p48 := by simpa [up] using I.p48
    p49 := by simpa [up] using I.p49
    p51 := by simpa [up] using I.p51
    p52 := by simpa [up] using I.p52
    p55 := by simpa [up] using I.p55
    p56 := by simpa [up] using I.p56
    p58 := by simpa [up] using I.p58
    p59 := fun _ => rfl
    f0 := by simpa [up] using I.f0
    f1 := by simpa [up] using I.f1
    f2 := by simpa [up] using I.f2
    m0 := by simpa [up] using I.m0
    m1 := by simpa [up] using I.m1
    m2 := by simpa [up] using I.m2
    b61 := by simpa [up] using I.b61
    box := by simpa [up] using I.box
    fin := fun e => absurd e (by simp [up, h16])
    d3 := fun e => by
      have := I.d3 (by simpa [up] using e)
      simp [up, this]
    d6 := fun e => by
      have := I.d6 (by simpa [up] using e)
      simp [up, this]
    d10 := fun e => by
      have := I.d10 (by simpa [up] using e)
      simp [up, this]
    d13 := fun e => by
      have := I.d13 (by simpa [up] using e)
      simp [up, this]
    d14 := fun e => by
      have := I.d14 (by simpa [up] using e)
      simp [up, this.1, this.2]
    last := fun e => absurd e (by simp [up, h16])
  }
theorem Inv3.s14 {w1 : World} {g h : Nat} {A : Option Addr} {nF cap : Nat} {csF : List Value} {X : Option Addr} {nM capx : Nat} {csM : List Value} {A' : Option Addr} {nF' cap' : Nat} {csF' : List Value} {X' : Option Addr} {nM' capx' : Nat} {csM' : List Value} {l : Nat → Bool} {s10 s47 s48 s49 s50 s51 s52 s53 s54 s55 s56 s57 s58 s59 s60 s61 : Value} {w : World} (I : Inv3 w1 g h A nF cap csF X nM capx csM A' nF' cap' csF' X' nM' capx' csM' l s10 s47 s48 s49 s50 s51 s52 s53 s54 s55 s56 s57 s58 s59 s60 s61 w) (hl : l 14 = false) (h6 : l 6 = true) (h13 : l 13 = true) : Inv3 w1 g h A nF cap csF X nM capx csM A' nF' cap' csF' X' nM' capx' csM' (up l 14) s10 s47 s48 s49 s50 s51 s52 s53 s54 s55 s56 s57 s58 s59 s60 (.agg #[s53, s60]) w := by
  have h16 : l 16 = false := by
    cases h16 : l 16 with
    | false => rfl
    | true => rw [I.last h16 14 (by decide)] at hl; cases hl
  exact {
    below := I.below
    p48 := by simpa [up] using I.p48
    p49 := by simpa [up] using I.p49
    p51 := by simpa [up] using I.p51
    p52 := by simpa [up] using I.p52
    p55 := by simpa [up] using I.p55
    p56 := by simpa [up] using I.p56
    p58 := by simpa [up] using I.p58
    p59 := by simpa [up] using I.p59
    f0 := by simpa [up] using I.f0
    f1 := by simpa [up] using I.f1
    f2 := by simpa [up] using I.f2
    m0 := by simpa [up] using I.m0
    m1 := by simpa [up] using I.m1
    m2 := by simpa [up] using I.m2
    b61 := fun _ => rfl
    box := by simpa [up] using I.box
    fin := fun e => absurd e (by simp [up, h16])
    d3 := fun e => by
      have := I.d3 (by simpa [up] using e)
      simp [up, this]
    d6 := fun e => by
      have := I.d6 (by simpa [up] using e)
      simp [up, this]
    d10 := fun e => by
      have := I.d10 (by simpa [up] using e)
      simp [up, this]
    d13 := fun e => by
      have := I.d13 (by simpa [up] using e)
      simp [up, this]
    d14 := fun _ => by simp [up, h6, h13]
    last := fun e => absurd e (by simp [up, h16])
  }
theorem Inv3.s0 {w1 : World} {g h : Nat} {A : Option Addr} {nF cap : Nat} {csF : List Value} {X : Option Addr} {nM capx : Nat} {csM : List Value} {A' : Option Addr} {nF' cap' : Nat} {csF' : List Value} {X' : Option Addr} {nM' capx' : Nat} {csM' : List Value} {l : Nat → Bool} {s10 s47 s48 s49 s50 s51 s52 s53 s54 s55 s56 s57 s58 s59 s60 s61 : Value} {w : World} (I : Inv3 w1 g h A nF cap csF X nM capx csM A' nF' cap' csF' X' nM' capx' csM' l s10 s47 s48 s49 s50 s51 s52 s53 s54 s55 s56 s57 s58 s59 s60 s61 w) (hl : l 0 = false) : Inv3 w1 g h A nF cap csF X nM capx csM A' nF' cap' csF' X' nM' capx' csM' (up l 0) s10 (.slice (some ⟨w.heap.size, 0, none⟩) 0 0) s48 s49 s50 s51 s52 s53 s54 s55 s56 s57 s58 s59 s60 s61 (w.alloc (.cells #[] 47)) := by
  have h16 : l 16 = false := by
    cases h16 : l 16 with
    | false => rfl
    | true => rw [I.last h16 0 (by decide)] at hl; cases hl
  exact {
    below := I.below.alloc I.below.size _
    p48 := by simpa [up] using I.p48
    p49 := by simpa [up] using I.p49
    p51 := by simpa [up] using I.p51
    p52 := by simpa [up] using I.p52
    p55 := by simpa [up] using I.p55
    p56 := by simpa [up] using I.p56
    p58 := by simpa [up] using I.p58
    p59 := by simpa [up] using I.p59
    f0 := fun _ _ => made_in rfl I.below.size
    f1 := fun a b => (I.f1 (by simpa [up] using a) (by simpa [up] using b)).alloc _
    f2 := fun a => (I.f2 (by simpa [up] using a)).alloc _
    m0 := fun a b => (I.m0 (by simpa [up] using a) (by simpa [up] using b)).alloc _
    m1 := fun a b => (I.m1 (by simpa [up] using a) (by simpa [up] using b)).alloc _
    m2 := fun a => (I.m2 (by simpa [up] using a)).alloc _
    b61 := by simpa [up] using I.b61
    box := fun a b => by
      obtain ⟨k, x1, x2, x3⟩ := I.box (by simpa [up] using a) h16
      exact ⟨k, x1, x2, blk_alloc x3 _⟩
    fin := fun e => absurd e (by simp [up, h16])
    d3 := fun e => by
      have := I.d3 (by simpa [up] using e)
      simp [up]
    d6 := fun e => by
      have := I.d6 (by simpa [up] using e)
      simp [up, this]
    d10 := fun e => by
      have := I.d10 (by simpa [up] using e)
      simp [up, this]
    d13 := fun e => by
      have := I.d13 (by simpa [up] using e)
      simp [up, this]
    d14 := fun e => by
      have := I.d14 (by simpa [up] using e)
      simp [up, this.1, this.2]
    last := fun e => absurd e (by simp [up, h16])
  }
theorem Inv3.s7 {w1 : World} {g h : Nat} {A : Option Addr} {nF cap : Nat} {csF : List Value} {X : Option Addr} {nM capx : Nat} {csM : List Value} {A' : Option Addr} {nF' cap' : Nat} {csF' : List Value} {X' : Option Addr} {nM' capx' : Nat} {csM' : List Value} {l : Nat → Bool} {s10 s47 s48 s49 s50 s51 s52 s53 s54 s55 s56 s57 s58 s59 s60 s61 : Value} {w : World} (I : Inv3 w1 g h A nF cap csF X nM capx csM A' nF' cap' csF' X' nM' capx' csM' l s10 s47 s48 s49 s50 s51 s52 s53 s54 s55 s56 s57 s58 s59 s60 s61 w) (hl : l 7 = false) : Inv3 w1 g h A nF cap csF X nM capx csM A' nF' cap' csF' X' nM' capx' csM' (up l 7) s10 s47 s48 s49 s50 s51 s52 s53 (.slice (some ⟨w.heap.size, 0, none⟩) 0 0) s55 s56 s57 s58 s59 s60 s61 (w.alloc (.cells #[] 41)) := by
  have h16 : l 16 = false := by
    cases h16 : l 16 with
    | false => rfl
    | true => rw [I.last h16 7 (by decide)] at hl; cases hl
  exact {
    below := I.below.alloc I.below.size _
    p48 := by simpa [up] using I.p48
    p49 := by simpa [up] using I.p49
    p51 := by simpa [up] using I.p51
    p52 := by simpa [up] using I.p52
    p55 := by simpa [up] using I.p55
    p56 := by simpa [up] using I.p56
    p58 := by simpa [up] using I.p58
    p59 := by simpa [up] using I.p59
    f0 := fun a b => (I.f0 (by simpa [up] using a) (by simpa [up] using b)).alloc _
    f1 := fun a b => (I.f1 (by simpa [up] using a) (by simpa [up] using b)).alloc _
    f2 := fun a => (I.f2 (by simpa [up] using a)).alloc _
    m0 := fun _ _ => made_in rfl I.below.size
    m1 := fun a b => (I.m1 (by simpa [up] using a) (by simpa [up] using b)).alloc _
    m2 := fun a => (I.m2 (by simpa [up] using a)).alloc _
    b61 := by simpa [up] using I.b61
    box := fun a b => by
      obtain ⟨k, x1, x2, x3⟩ := I.box (by simpa [up] using a) h16
      exact ⟨k, x1, x2, blk_alloc x3 _⟩
    fin := fun e => absurd e (by simp [up, h16])
    d3 := fun e => by
      have := I.d3 (by simpa [up] using e)
      simp [up, this]
    d6 := fun e => by
      have := I.d6 (by simpa [up] using e)
      simp [up, this]
    d10 := fun e => by
      have := I.d10 (by simpa [up] using e)
      simp [up]
    d13 := fun e => by
      have := I.d13 (by simpa [up] using e)
      simp [up, this]
    d14 := fun e => by
      have := I.d14 (by simpa [up] using e)
      simp [up, this.1, this.2]
    last := fun e => absurd e (by simp [up, h16])
  }
theorem Inv3.s15 {w1 : World} {g h : Nat} {A : Option Addr} {nF cap : Nat} {csF : List Value} {X : Option Addr} {nM capx : Nat} {csM : List Value} {A' : Option Addr} {nF' cap' : Nat} {csF' : List Value} {X' : Option Addr} {nM' capx' : Nat} {csM' : List Value} {l : Nat → Bool} {s10 s47 s48 s49 s50 s51 s52 s53 s54 s55 s56 s57 s58 s59 s60 s61 : Value} {w : World} (I : Inv3 w1 g h A nF cap csF X nM capx csM A' nF' cap' csF' X' nM' capx' csM' l s10 s47 s48 s49 s50 s51 s52 s53 s54 s55 s56 s57 s58 s59 s60 s61 w) (hl : l 15 = false) : Inv3 w1 g h A nF cap csF X nM capx csM A' nF' cap' csF' X' nM' capx' csM' (up l 15) (.pointer (some ⟨w.heap.size, 0, none⟩)) s47 s48 s49 s50 s51 s52 s53 s54 s55 s56 s57 s58 s59 s60 s61 (w.alloc (.cells #[.slice none 0 0, .slice none 0 0] 25)) := by
  have h16 : l 16 = false := by
    cases h16 : l 16 with
    | false => rfl
    | true => rw [I.last h16 15 (by decide)] at hl; cases hl
  exact {
    below := I.below.alloc I.below.size _
    p48 := by simpa [up] using I.p48
    p49 := by simpa [up] using I.p49
    p51 := by simpa [up] using I.p51
    p52 := by simpa [up] using I.p52
    p55 := by simpa [up] using I.p55
    p56 := by simpa [up] using I.p56
    p58 := by simpa [up] using I.p58
    p59 := by simpa [up] using I.p59
    f0 := fun a b => (I.f0 (by simpa [up] using a) (by simpa [up] using b)).alloc _
    f1 := fun a b => (I.f1 (by simpa [up] using a) (by simpa [up] using b)).alloc _
    f2 := fun a => (I.f2 (by simpa [up] using a)).alloc _
    m0 := fun a b => (I.m0 (by simpa [up] using a) (by simpa [up] using b)).alloc _
    m1 := fun a b => (I.m1 (by simpa [up] using a) (by simpa [up] using b)).alloc _
    m2 := fun a => (I.m2 (by simpa [up] using a)).alloc _
    b61 := by simpa [up] using I.b61
    box := fun _ _ => ⟨w.heap.size, rfl, I.below.size, blk_new rfl⟩
    fin := fun e => absurd e (by simp [up, h16])
    d3 := fun e => by
      have := I.d3 (by simpa [up] using e)
      simp [up, this]
    d6 := fun e => by
      have := I.d6 (by simpa [up] using e)
      simp [up, this]
    d10 := fun e => by
      have := I.d10 (by simpa [up] using e)
      simp [up, this]
    d13 := fun e => by
      have := I.d13 (by simpa [up] using e)
      simp [up, this]
    d14 := fun e => by
      have := I.d14 (by simpa [up] using e)
      simp [up, this.1, this.2]
    last := fun e => absurd e (by simp [up, h16])
  }
theorem Inv3.s3 {w1 : World} {g h : Nat} {A : Option Addr} {nF cap : Nat} {csF : List Value} {X : Option Addr} {nM capx : Nat} {csM : List Value} {A' : Option Addr} {nF' cap' : Nat} {csF' : List Value} {X' : Option Addr} {nM' capx' : Nat} {csM' : List Value} {l : Nat → Bool} {s10 s47 s48 s49 s50 s51 s52 s53 s54 s55 s56 s57 s58 s59 s60 s61 : Value} {w : World} (I : Inv3 w1 g h A nF cap csF X nM capx csM A' nF' cap' csF' X' nM' capx' csM' l s10 s47 s48 s49 s50 s51 s52 s53 s54 s55 s56 s57 s58 s59 s60 s61 w) (hl : l 3 = false) (h0 : l 0 = true) (h6 : l 6 = false) (h14 : l 14 = false) {v : Value} {w' : World} (ho : w'.ownsRow w1.heap.size 47 3 v nF csF) (hg : w.grownBy w' s47.ownBlock) : Inv3 w1 g h A nF cap csF X nM capx csM A' nF' cap' csF' X' nM' capx' csM' (up l 3) s10 s47 s48 s49 (v) s51 s52 s53 s54 s55 s56 s57 s58 s59 s60 s61 w' := by
  have h16 : l 16 = false := by
    cases h16 : l 16 with
    | false => rfl
    | true => rw [I.last h16 3 (by decide)] at hl; cases hl
  exact {
    below := grown_below I.below (I.f0 h0 hl) (Nat.le_refl _) hg
    p48 := by simpa [up] using I.p48
    p49 := by simpa [up] using I.p49
    p51 := by simpa [up] using I.p51
    p52 := by simpa [up] using I.p52
    p55 := by simpa [up] using I.p55
    p56 := by simpa [up] using I.p56
    p58 := by simpa [up] using I.p58
    p59 := by simpa [up] using I.p59
    f0 := fun _ e => by simp [up] at e
    f1 := fun _ _ => ho
    f2 := fun a => by simp [up, h6] at a
    m0 := fun a b => own_keep (I.m0 (by simpa [up] using a) (by simpa [up] using b)) (I.f0 h0 hl) (by decide) hg
    m1 := fun a b => own_keep (I.m1 (by simpa [up] using a) (by simpa [up] using b)) (I.f0 h0 hl) (by decide) hg
    m2 := fun a => own_keep (I.m2 (by simpa [up] using a)) (I.f0 h0 hl) (by decide) hg
    b61 := fun a => by simp [up, h14] at a
    box := fun a b => by
      obtain ⟨k, x1, x2, x3⟩ := I.box (by simpa [up] using a) h16
      exact ⟨k, x1, x2, blk_grown_own (I.f0 h0 hl) hg x3 (by decide)⟩
    fin := fun e => absurd e (by simp [up, h16])
    d3 := fun _ => by simp [up, h0]
    d6 := fun e => by
      have := I.d6 (by simpa [up] using e)
      simp [up]
    d10 := fun e => by
      have := I.d10 (by simpa [up] using e)
      simp [up, this]
    d13 := fun e => by
      have := I.d13 (by simpa [up] using e)
      simp [up, this]
    d14 := fun e => by
      have := I.d14 (by simpa [up] using e)
      simp [up, this.1, this.2]
    last := fun e => absurd e (by simp [up, h16])
  }
theorem Inv3.s6 {w1 : World} {g h : Nat} {A : Option Addr} {nF cap : Nat} {csF : List Value} {X : Option Addr} {nM capx : Nat} {csM : List Value} {A' : Option Addr} {nF' cap' : Nat} {csF' : List Value} {X' : Option Addr} {nM' capx' : Nat} {csM' : List Value} {l : Nat → Bool} {s10 s47 s48 s49 s50 s51 s52 s53 s54 s55 s56 s57 s58 s59 s60 s61 : Value} {w : World} (I : Inv3 w1 g h A nF cap csF X nM capx csM A' nF' cap' csF' X' nM' capx' csM' l s10 s47 s48 s49 s50 s51 s52 s53 s54 s55 s56 s57 s58 s59 s60 s61 w) (hl : l 6 = false) (h3 : l 3 = true) (h14 : l 14 = false) {v : Value} {w' : World} (ho : w'.ownsRow w1.heap.size 47 3 v (nF + nF') (csF ++ csF')) (hg : w.grownBy w' s50.ownBlock) : Inv3 w1 g h A nF cap csF X nM capx csM A' nF' cap' csF' X' nM' capx' csM' (up l 6) s10 s47 s48 s49 s50 s51 s52 (v) s54 s55 s56 s57 s58 s59 s60 s61 w' := by
  have h16 : l 16 = false := by
    cases h16 : l 16 with
    | false => rfl
    | true => rw [I.last h16 6 (by decide)] at hl; cases hl
  exact {
    below := grown_below I.below (I.f1 h3 hl) (Nat.le_refl _) hg
    p48 := by simpa [up] using I.p48
    p49 := by simpa [up] using I.p49
    p51 := by simpa [up] using I.p51
    p52 := by simpa [up] using I.p52
    p55 := by simpa [up] using I.p55
    p56 := by simpa [up] using I.p56
    p58 := by simpa [up] using I.p58
    p59 := by simpa [up] using I.p59
    f0 := fun _ e => by simp [up, h3] at e
    f1 := fun _ e => by simp [up] at e
    f2 := fun _ => ho
    m0 := fun a b => own_keep (I.m0 (by simpa [up] using a) (by simpa [up] using b)) (I.f1 h3 hl) (by decide) hg
    m1 := fun a b => own_keep (I.m1 (by simpa [up] using a) (by simpa [up] using b)) (I.f1 h3 hl) (by decide) hg
    m2 := fun a => own_keep (I.m2 (by simpa [up] using a)) (I.f1 h3 hl) (by decide) hg
    b61 := fun a => by simp [up, h14] at a
    box := fun a b => by
      obtain ⟨k, x1, x2, x3⟩ := I.box (by simpa [up] using a) h16
      exact ⟨k, x1, x2, blk_grown_own (I.f1 h3 hl) hg x3 (by decide)⟩
    fin := fun e => absurd e (by simp [up, h16])
    d3 := fun e => by
      have := I.d3 (by simpa [up] using e)
      simp [up, this]
    d6 := fun _ => by simp [up, h3]
    d10 := fun e => by
      have := I.d10 (by simpa [up] using e)
      simp [up, this]
    d13 := fun e => by
      have := I.d13 (by simpa [up] using e)
      simp [up, this]
    d14 := fun e => by
      have := I.d14 (by simpa [up] using e)
      simp [up, this.2]
    last := fun e => absurd e (by simp [up, h16])
  }
theorem Inv3.s10 {w1 : World} {g h : Nat} {A : Option Addr} {nF cap : Nat} {csF : List Value} {X : Option Addr} {nM capx : Nat} {csM : List Value} {A' : Option Addr} {nF' cap' : Nat} {csF' : List Value} {X' : Option Addr} {nM' capx' : Nat} {csM' : List Value} {l : Nat → Bool} {s10 s47 s48 s49 s50 s51 s52 s53 s54 s55 s56 s57 s58 s59 s60 s61 : Value} {w : World} (I : Inv3 w1 g h A nF cap csF X nM capx csM A' nF' cap' csF' X' nM' capx' csM' l s10 s47 s48 s49 s50 s51 s52 s53 s54 s55 s56 s57 s58 s59 s60 s61 w) (hl : l 10 = false) (h7 : l 7 = true) (h13 : l 13 = false) (h14 : l 14 = false) {v : Value} {w' : World} (ho : w'.ownsRow w1.heap.size 41 6 v nM csM) (hg : w.grownBy w' s54.ownBlock) : Inv3 w1 g h A nF cap csF X nM capx csM A' nF' cap' csF' X' nM' capx' csM' (up l 10) s10 s47 s48 s49 s50 s51 s52 s53 s54 s55 s56 (v) s58 s59 s60 s61 w' := by
  have h16 : l 16 = false := by
    cases h16 : l 16 with
    | false => rfl
    | true => rw [I.last h16 10 (by decide)] at hl; cases hl
  exact {
    below := grown_below I.below (I.m0 h7 hl) (Nat.le_refl _) hg
    p48 := by simpa [up] using I.p48
    p49 := by simpa [up] using I.p49
    p51 := by simpa [up] using I.p51
    p52 := by simpa [up] using I.p52
    p55 := by simpa [up] using I.p55
    p56 := by simpa [up] using I.p56
    p58 := by simpa [up] using I.p58
    p59 := by simpa [up] using I.p59
    f0 := fun a b => own_keep (I.f0 (by simpa [up] using a) (by simpa [up] using b)) (I.m0 h7 hl) (by decide) hg
    f1 := fun a b => own_keep (I.f1 (by simpa [up] using a) (by simpa [up] using b)) (I.m0 h7 hl) (by decide) hg
    f2 := fun a => own_keep (I.f2 (by simpa [up] using a)) (I.m0 h7 hl) (by decide) hg
    m0 := fun _ e => by simp [up] at e
    m1 := fun _ _ => ho
    m2 := fun a => by simp [up, h13] at a
    b61 := fun a => by simp [up, h14] at a
    box := fun a b => by
      obtain ⟨k, x1, x2, x3⟩ := I.box (by simpa [up] using a) h16
      exact ⟨k, x1, x2, blk_grown_own (I.m0 h7 hl) hg x3 (by decide)⟩
    fin := fun e => absurd e (by simp [up, h16])
    d3 := fun e => by
      have := I.d3 (by simpa [up] using e)
      simp [up, this]
    d6 := fun e => by
      have := I.d6 (by simpa [up] using e)
      simp [up, this]
    d10 := fun _ => by simp [up, h7]
    d13 := fun e => by
      have := I.d13 (by simpa [up] using e)
      simp [up]
    d14 := fun e => by
      have := I.d14 (by simpa [up] using e)
      simp [up, this.1, this.2]
    last := fun e => absurd e (by simp [up, h16])
  }
theorem Inv3.s13 {w1 : World} {g h : Nat} {A : Option Addr} {nF cap : Nat} {csF : List Value} {X : Option Addr} {nM capx : Nat} {csM : List Value} {A' : Option Addr} {nF' cap' : Nat} {csF' : List Value} {X' : Option Addr} {nM' capx' : Nat} {csM' : List Value} {l : Nat → Bool} {s10 s47 s48 s49 s50 s51 s52 s53 s54 s55 s56 s57 s58 s59 s60 s61 : Value} {w : World} (I : Inv3 w1 g h A nF cap csF X nM capx csM A' nF' cap' csF' X' nM' capx' csM' l s10 s47 s48 s49 s50 s51 s52 s53 s54 s55 s56 s57 s58 s59 s60 s61 w) (hl : l 13 = false) (h10 : l 10 = true) (h14 : l 14 = false) {v : Value} {w' : World} (ho : w'.ownsRow w1.heap.size 41 6 v (nM + nM') (csM ++ csM')) (hg : w.grownBy w' s57.ownBlock) : Inv3 w1 g h A nF cap csF X nM capx csM A' nF' cap' csF' X' nM' capx' csM' (up l 13) s10 s47 s48 s49 s50 s51 s52 s53 s54 s55 s56 s57 s58 s59 (v) s61 w' := by
  have h16 : l 16 = false := by
    cases h16 : l 16 with
    | false => rfl
    | true => rw [I.last h16 13 (by decide)] at hl; cases hl
  exact {
    below := grown_below I.below (I.m1 h10 hl) (Nat.le_refl _) hg
    p48 := by simpa [up] using I.p48
    p49 := by simpa [up] using I.p49
    p51 := by simpa [up] using I.p51
    p52 := by simpa [up] using I.p52
    p55 := by simpa [up] using I.p55
    p56 := by simpa [up] using I.p56
    p58 := by simpa [up] using I.p58
    p59 := by simpa [up] using I.p59
    f0 := fun a b => own_keep (I.f0 (by simpa [up] using a) (by simpa [up] using b)) (I.m1 h10 hl) (by decide) hg
    f1 := fun a b => own_keep (I.f1 (by simpa [up] using a) (by simpa [up] using b)) (I.m1 h10 hl) (by decide) hg
    f2 := fun a => own_keep (I.f2 (by simpa [up] using a)) (I.m1 h10 hl) (by decide) hg
    m0 := fun _ e => by simp [up, h10] at e
    m1 := fun _ e => by simp [up] at e
    m2 := fun _ => ho
    b61 := fun a => by simp [up, h14] at a
    box := fun a b => by
      obtain ⟨k, x1, x2, x3⟩ := I.box (by simpa [up] using a) h16
      exact ⟨k, x1, x2, blk_grown_own (I.m1 h10 hl) hg x3 (by decide)⟩
    fin := fun e => absurd e (by simp [up, h16])
    d3 := fun e => by
      have := I.d3 (by simpa [up] using e)
      simp [up, this]
    d6 := fun e => by
      have := I.d6 (by simpa [up] using e)
      simp [up, this]
    d10 := fun e => by
      have := I.d10 (by simpa [up] using e)
      simp [up, this]
    d13 := fun _ => by simp [up, h10]
    d14 := fun e => by
      have := I.d14 (by simpa [up] using e)
      simp [up, this.1]
    last := fun e => absurd e (by simp [up, h16])
  }
theorem Inv3.s16 {w1 : World} {g h : Nat} {A : Option Addr} {nF cap : Nat} {csF : List Value} {X : Option Addr} {nM capx : Nat} {csM : List Value} {A' : Option Addr} {nF' cap' : Nat} {csF' : List Value} {X' : Option Addr} {nM' capx' : Nat} {csM' : List Value} {l : Nat → Bool} {s10 s47 s48 s49 s50 s51 s52 s53 s54 s55 s56 s57 s58 s59 s60 s61 : Value} {w : World} (I : Inv3 w1 g h A nF cap csF X nM capx csM A' nF' cap' csF' X' nM' capx' csM' l s10 s47 s48 s49 s50 s51 s52 s53 s54 s55 s56 s57 s58 s59 s60 s61 w) (hl : l 16 = false) (ha : ∀ j, j < 16 → l j = true) {k : Nat} (hk : s10 = .pointer (some ⟨k, 0, none⟩)) :
    Inv3 w1 g h A nF cap csF X nM capx csM A' nF' cap' csF' X' nM' capx' csM' (up l 16) s10 s47 s48 s49 s50 s51 s52 s53 s54 s55 s56 s57 s58 s59 s60 s61 ((w.setCell ⟨k, 0, none⟩ s53).setCell ⟨k, 1, none⟩ s60) := by
  obtain ⟨k', h1, h2, h3⟩ := I.box (ha 15 (by decide)) hl
  rw [hk] at h1
  injection h1 with h1
  injection h1 with h1
  injection h1 with h1
  subst h1
  have o1 := I.f2 (ha 6 (by decide))
  have o2 := I.m2 (ha 13 (by decide))
  have hF := fin3_set I.below h2 h3 (by decide) (by decide) o1 o2
  obtain ⟨A3, cap3, e3⟩ := own_form o1
  obtain ⟨A2, cap2, e2⟩ := own_form o2
  obtain ⟨_, _, _, _, o1', o2', _, _, hb⟩ := id hF
  have a3 := ha 3 (by decide)
  have a6 := ha 6 (by decide)
  have a10 := ha 10 (by decide)
  have a13 := ha 13 (by decide)
  exact {
    below := hb
    p48 := by simpa [up] using I.p48
    p49 := by simpa [up] using I.p49
    p51 := by simpa [up] using I.p51
    p52 := by simpa [up] using I.p52
    p55 := by simpa [up] using I.p55
    p56 := by simpa [up] using I.p56
    p58 := by simpa [up] using I.p58
    p59 := by simpa [up] using I.p59
    f0 := fun _ e => by simp [up, a3] at e
    f1 := fun _ e => by simp [up, a6] at e
    f2 := fun _ => o1'
    m0 := fun _ e => by simp [up, a10] at e
    m1 := fun _ e => by simp [up, a13] at e
    m2 := fun _ => o2'
    b61 := by simpa [up] using I.b61
    box := fun _ e => by simp [up] at e
    fin := fun _ => ⟨k, A2, cap2, A3, cap3, hk, by rw [← e3, ← e2]; exact hF⟩
    d3 := fun _ => by simp [up, ha 0 (by decide)]
    d6 := fun _ => by simp [up, a3]
    d10 := fun _ => by simp [up, ha 7 (by decide)]
    d13 := fun _ => by simp [up, a10]
    d14 := fun _ => by simp [up, a6, a13]
    last := fun _ j hj => by
      unfold up
      split
      · rfl
      · exact ha j hj
  }
theorem Inv3.start {w1 : World} {g h : Nat} {A : Option Addr} {nF cap : Nat} {csF : List Value} {X : Option Addr} {nM capx : Nat} {csM : List Value} {A' : Option Addr} {nF' cap' : Nat} {csF' : List Value} {X' : Option Addr} {nM' capx' : Nat} {csM' : List Value} {s10 s47 s48 s49 s50 s51 s52 s53 s54 s55 s56 s57 s58 s59 s60 s61 : Value} {w : World} (hb : Below w1.heap.size w1 w) (n : Nat) : Inv3 w1 g h A nF cap csF X nM capx csM A' nF' cap' csF' X' nM' capx' csM' (ld (Array.replicate n false)) s10 s47 s48 s49 s50 s51 s52 s53 s54 s55 s56 s57 s58 s59 s60 s61 w where
  below := hb
  p48 := fun e => by rw [ld_new] at e; cases e
  p49 := fun e => by rw [ld_new] at e; cases e
  p51 := fun e => by rw [ld_new] at e; cases e
  p52 := fun e => by rw [ld_new] at e; cases e
  p55 := fun e => by rw [ld_new] at e; cases e
  p56 := fun e => by rw [ld_new] at e; cases e
  p58 := fun e => by rw [ld_new] at e; cases e
  p59 := fun e => by rw [ld_new] at e; cases e
  f0 := fun e => by rw [ld_new] at e; cases e
  f1 := fun e => by rw [ld_new] at e; cases e
  f2 := fun e => by rw [ld_new] at e; cases e
  m0 := fun e => by rw [ld_new] at e; cases e
  m1 := fun e => by rw [ld_new] at e; cases e
  m2 := fun e => by rw [ld_new] at e; cases e
  b61 := fun e => by rw [ld_new] at e; cases e
  box := fun e => by rw [ld_new] at e; cases e
  fin := fun e => by rw [ld_new] at e; cases e
  d3 := fun e => by rw [ld_new] at e; cases e
  d6 := fun e => by rw [ld_new] at e; cases e
  d10 := fun e => by rw [ld_new] at e; cases e
  d13 := fun e => by rw [ld_new] at e; cases e
  d14 := fun e => by rw [ld_new] at e; cases e
  last := fun e => by rw [ld_new] at e; cases e

end Go.Proofs.YtppagjhmlgkamaaGreatDoor
