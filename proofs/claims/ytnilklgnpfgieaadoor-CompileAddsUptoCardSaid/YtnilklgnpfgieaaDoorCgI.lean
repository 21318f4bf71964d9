/-
  CompileAdds: what holds while a program with one statement more is made, whatever has come up.
-/
import Derived.Test.YtnilklgnpfgieaaDoorCgR
namespace Go.Proofs.YtnilklgnpfgieaaDoor
open Go Go.RowKit Go.Lib

def aEx (N : Int) : Value := .agg #[.int .i64 1, .int .i64 N, .string ⟨#[]⟩, .slice none 0 0]
abbrev aExO (N : Int) : Obj := .cells #[.int .i64 1, .int .i64 N, .string ⟨#[]⟩, .slice none 0 0] 35
def aSt (v : Value) : List Value := [.int .i64 5, .string ⟨#[]⟩, .int .i64 0, v, .slice none 0 0, .slice none 0 0]
abbrev aStO (v : Value) : Obj := .cells (aSt v).toArray 37
abbrev aPgO : Obj := .cells #[.slice none 0 0, .slice none 0 0] 25
/-- An append to a row of the call's own: where the grown row lies. -/
theorem step_append_lie {P : Program} {ops : Array Oper} {o : Oper} {a : Act} {w : World} {K : Act → World → Prop} {Q : Exit → Act → World → Prop} {E : Prop} (hgd : o.guard = none) (s x : Operand) (t : TypeId)
    (ho : o.op = .call { callee := .builtin .append, args := #[s, x], argTypes := #[t, t] })
    (base : Nat) (e : TypeId) (i : TypeInfo) (z : Value) (size bytes : Nat) (ht : P.underlying t = some (.slice e)) (hi : P.info? e = some i) (hz : i.zero = some z)
    (hsize : i.size = size) (hby : i.bytes = bytes) (hzs : z.cells.size = size) (hsz : 0 < size)
    (v : Value) (n : Nat) (xs : List Value) (hs : a.eval s = v) (hown : w.ownsRow base e size v n xs)
    (A : Option Addr) (m c : Nat) (news : List Value) (hx : a.eval x = .slice A m c) (hA : A = none → m = 0) (hl : news.length = m * size) (hnews : ∀ ad, A = some ad → ∀ j u, news[j]? = some u → w.cell? (ad.add j) = some u) (h1 : ∀ u ∈ news, u.oneCell' = true)
    (h63 : n + m ≤ maxLen) (hbytes : (n + m) * bytes ≤ 140737488355328) (hbase : base ≤ w.heap.size)
    (h : ∀ v' w', w'.ownsRow base e size v' (n + m) (xs ++ news) → w.grownBy w' v.ownBlock → (v'.ownBlock = v.ownBlock ∨ v'.ownBlock = some w.heap.size) → K (a.put o.dst v') w') :
    if Region.wanted o (yielded ops a.tmps) = true then Oper.wp P o a w K Q else E := by
  have hw : Region.wanted o (yielded ops a.tmps) = true := by simp [Region.wanted, hgd]
  rw [if_pos hw]
  cases A with
  | none =>
    obtain rfl := hA rfl
    have hrun := run_append_none_any (P := P) (c := c) (w := w) base t o.type e i size ht hi v n xs hown
    unfold Oper.wp
    simp [execOp, ho, resolve, invoke, builtin, hs, hx, hrun, Result.andThen]
    have e0 : news = [] := List.eq_nil_of_length_eq_zero (by rw [hl]; omega)
    subst e0
    exact h v w (by simpa using hown) ⟨rfl, rfl, rfl, Nat.le_refl _, fun _ _ _ => rfl⟩ (.inl rfl)
  | some ad =>
    obtain ⟨v', w', hrun, h2, h3, _, h5⟩ := run_append_own_at (P := P) (w := w) base t o.type e i z size bytes ht hi hz hsize hby hzs hsz v n xs hown ad m c news hl (hnews ad rfl) h1 h63 hbytes hbase
    unfold Oper.wp
    simp [execOp, ho, resolve, invoke, builtin, hs, hx, hrun, Result.andThen]
    exact h v' w' h2 h3 h5
theorem blk_far {W : World} {k j i : Nat} {o : Obj} (h : W.heap[k]? = some o) (hne : k ≠ j) (u : Value) : (W.setCell ⟨j, i, none⟩ u).heap[k]? = some o := (Below.heap_setCell W ⟨j, i, none⟩ u k hne).trans h
theorem blk_ne {W : World} {k j : Nat} {cs cs' : Array Value} {t t' : TypeId} (h : W.heap[k]? = some (.cells cs t)) (h' : W.heap[j]? = some (.cells cs' t')) (hne : t ≠ t') : k ≠ j := by
  rintro rfl
  rw [h] at h'
  injection h' with h'
  injection h' with _ h2 _
  exact hne h2

structure IvA (w1 : World) (g : Nat) (A : Option Addr) (nF cap : Nat) (X : Option Addr) (nM capx : Nat) (csM : List Value) (N : Int) (l : Nat → Bool) (s8 s26 s27 s28 s29 s30 s31 s32 s33 s34 s35 s36 s37 s38 : Value) (w : World) : Prop where
  below : Below w1.heap.size w1 w
  p26 : l 0 = true → s26 = .pointer (some ⟨g, 0, none⟩)
  p27 : l 1 = true → s27 = .slice A nF cap
  p29 : l 3 = true → s29 = .pointer (some ⟨g, 1, none⟩)
  p30 : l 4 = true → s30 = .slice X nM capx
  p32 : l 6 = true → s32 = .int .i64 N
  p33 : l 7 = true → s33 = aEx N
  p35 : l 9 = true → s35 = .agg (aSt s34).toArray
  p38 : l 12 = true → s38 = .agg #[s27, s37]
  m28 : l 2 = true → l 5 = false → w.ownsRow w1.heap.size 37 6 s28 0 []
  m31 : l 5 = true → l 11 = false → w.ownsRow w1.heap.size 37 6 s31 nM csM
  e34 : l 8 = true → ∃ kE, s34 = .slice (some ⟨kE, 0, none⟩) 1 1 ∧ w1.heap.size ≤ kE ∧ w.heap[kE]? = some (aExO N)
  k36 : l 10 = true → l 11 = false → ∃ kS, s36 = .slice (some ⟨kS, 0, none⟩) 1 1 ∧ w1.heap.size ≤ kS ∧ w.heap[kS]? = some (aStO s34) ∧ (l 2 = true → l 5 = false → some kS ≠ s28.ownBlock) ∧ (l 5 = true → some kS ≠ s31.ownBlock)
  m37 : l 11 = true → w.ownsRow w1.heap.size 37 6 s37 (nM + 1) (csM ++ aSt s34)
  box : l 13 = true → l 14 = false → ∃ k, s8 = .pointer (some ⟨k, 0, none⟩) ∧ w1.heap.size ≤ k ∧ w.heap[k]? = some aPgO
  fin : l 14 = true → ∃ k kE A2 cap2, s8 = .pointer (some ⟨k, 0, none⟩) ∧ s34 = .slice (some ⟨kE, 0, none⟩) 1 1 ∧ w1.heap.size ≤ kE ∧ w.heap[kE]? = some (aExO N) ∧ Fin2 w1 w 37 6 k (.slice A nF cap) (.slice A2 (nM + 1) cap2) (.slice A2 (nM + 1) cap2) (nM + 1) (csM ++ aSt s34)
  d5 : l 5 = true → l 2 = true
  d9 : l 9 = true → l 8 = true
  d10 : l 10 = true → l 9 = true
  d11 : l 11 = true → l 5 = true ∧ l 10 = true
  d12 : l 12 = true → l 1 = true ∧ l 11 = true
  last : l 14 = true → ∀ j, j < 14 → l j = true
theorem IvA.s0 {w1 : World} {g : Nat} {A : Option Addr} {nF cap : Nat} {X : Option Addr} {nM capx : Nat} {csM : List Value} {N : Int} {l : Nat → Bool} {s8 s26 s27 s28 s29 s30 s31 s32 s33 s34 s35 s36 s37 s38 : Value} {w : World} (I : IvA w1 g A nF cap X nM capx csM N l s8 s26 s27 s28 s29 s30 s31 s32 s33 s34 s35 s36 s37 s38 w) (hl : l 0 = false) : IvA w1 g A nF cap X nM capx csM N (up l 0) s8 (.pointer (some ⟨g, 0, none⟩)) s27 s28 s29 s30 s31 s32 s33 s34 s35 s36 s37 s38 w := by
  have h14 : l 14 = false := by
    cases h14 : l 14 with
    | false => rfl
    | true => rw [I.last h14 0 (by decide)] at hl; cases hl
  exact {
    below := I.below
    p26 := fun _ => rfl
    p27 := by simpa [up] using I.p27
    p29 := by simpa [up] using I.p29
    p30 := by simpa [up] using I.p30
    p32 := by simpa [up] using I.p32
    p33 := by simpa [up] using I.p33
    p35 := by simpa [up] using I.p35
    p38 := by simpa [up] using I.p38
    m28 := by simpa [up] using I.m28
    m31 := by simpa [up] using I.m31
    e34 := by simpa [up] using I.e34
    k36 := by simpa [up] using I.k36
    m37 := by simpa [up] using I.m37
    box := by simpa [up] using I.box
    fin := fun e => absurd e (by simp [up, h14])
    d5 := fun e => by
      have := I.d5 (by simpa [up] using e)
      simp [up, this]
    d9 := fun e => by
      have := I.d9 (by simpa [up] using e)
      simp [up, this]
    d10 := fun e => by
      have := I.d10 (by simpa [up] using e)
      simp [up, this]
    d11 := fun e => by
      have := I.d11 (by simpa [up] using e)
      simp [up, this]
    d12 := fun e => by
      have := I.d12 (by simpa [up] using e)
      simp [up, this]
    last := fun e => absurd e (by simp [up, h14])
  }
theorem IvA.s3 {w1 : World} {g : Nat} {A : Option Addr} {nF cap : Nat} {X : Option Addr} {nM capx : Nat} {csM : List Value} {N : Int} {l : Nat → Bool} {s8 s26 s27 s28 s29 s30 s31 s32 s33 s34 s35 s36 s37 s38 : Value} {w : World} (I : IvA w1 g A nF cap X nM capx csM N l s8 s26 s27 s28 s29 s30 s31 s32 s33 s34 s35 s36 s37 s38 w) (hl : l 3 = false) : IvA w1 g A nF cap X nM capx csM N (up l 3) s8 s26 s27 s28 (.pointer (some ⟨g, 1, none⟩)) s30 s31 s32 s33 s34 s35 s36 s37 s38 w := by
  have h14 : l 14 = false := by
    cases h14 : l 14 with
    | false => rfl
    | true => rw [I.last h14 3 (by decide)] at hl; cases hl
  exact {
    below := I.below
    p26 := by simpa [up] using I.p26
    p27 := by simpa [up] using I.p27
    p29 := fun _ => rfl
    p30 := by simpa [up] using I.p30
    p32 := by simpa [up] using I.p32
    p33 := by simpa [up] using I.p33
    p35 := by simpa [up] using I.p35
    p38 := by simpa [up] using I.p38
    m28 := by simpa [up] using I.m28
    m31 := by simpa [up] using I.m31
    e34 := by simpa [up] using I.e34
    k36 := by simpa [up] using I.k36
    m37 := by simpa [up] using I.m37
    box := by simpa [up] using I.box
    fin := fun e => absurd e (by simp [up, h14])
    d5 := fun e => by
      have := I.d5 (by simpa [up] using e)
      simp [up, this]
    d9 := fun e => by
      have := I.d9 (by simpa [up] using e)
      simp [up, this]
    d10 := fun e => by
      have := I.d10 (by simpa [up] using e)
      simp [up, this]
    d11 := fun e => by
      have := I.d11 (by simpa [up] using e)
      simp [up, this]
    d12 := fun e => by
      have := I.d12 (by simpa [up] using e)
      simp [up, this]
    last := fun e => absurd e (by simp [up, h14])
  }
theorem IvA.s4 {w1 : World} {g : Nat} {A : Option Addr} {nF cap : Nat} {X : Option Addr} {nM capx : Nat} {csM : List Value} {N : Int} {l : Nat → Bool} {s8 s26 s27 s28 s29 s30 s31 s32 s33 s34 s35 s36 s37 s38 : Value} {w : World} (I : IvA w1 g A nF cap X nM capx csM N l s8 s26 s27 s28 s29 s30 s31 s32 s33 s34 s35 s36 s37 s38 w) (hl : l 4 = false) : IvA w1 g A nF cap X nM capx csM N (up l 4) s8 s26 s27 s28 s29 (.slice X nM capx) s31 s32 s33 s34 s35 s36 s37 s38 w := by
  have h14 : l 14 = false := by
    cases h14 : l 14 with
    | false => rfl
    | true => rw [I.last h14 4 (by decide)] at hl; cases hl
  exact {
    below := I.below
    p26 := by simpa [up] using I.p26
    p27 := by simpa [up] using I.p27
    p29 := by simpa [up] using I.p29
    p30 := fun _ => rfl
    p32 := by simpa [up] using I.p32
    p33 := by simpa [up] using I.p33
    p35 := by simpa [up] using I.p35
    p38 := by simpa [up] using I.p38
    m28 := by simpa [up] using I.m28
    m31 := by simpa [up] using I.m31
    e34 := by simpa [up] using I.e34
    k36 := by simpa [up] using I.k36
    m37 := by simpa [up] using I.m37
    box := by simpa [up] using I.box
    fin := fun e => absurd e (by simp [up, h14])
    d5 := fun e => by
      have := I.d5 (by simpa [up] using e)
      simp [up, this]
    d9 := fun e => by
      have := I.d9 (by simpa [up] using e)
      simp [up, this]
    d10 := fun e => by
      have := I.d10 (by simpa [up] using e)
      simp [up, this]
    d11 := fun e => by
      have := I.d11 (by simpa [up] using e)
      simp [up, this]
    d12 := fun e => by
      have := I.d12 (by simpa [up] using e)
      simp [up, this]
    last := fun e => absurd e (by simp [up, h14])
  }
theorem IvA.s6 {w1 : World} {g : Nat} {A : Option Addr} {nF cap : Nat} {X : Option Addr} {nM capx : Nat} {csM : List Value} {N : Int} {l : Nat → Bool} {s8 s26 s27 s28 s29 s30 s31 s32 s33 s34 s35 s36 s37 s38 : Value} {w : World} (I : IvA w1 g A nF cap X nM capx csM N l s8 s26 s27 s28 s29 s30 s31 s32 s33 s34 s35 s36 s37 s38 w) (hl : l 6 = false) : IvA w1 g A nF cap X nM capx csM N (up l 6) s8 s26 s27 s28 s29 s30 s31 (.int .i64 N) s33 s34 s35 s36 s37 s38 w := by
  have h14 : l 14 = false := by
    cases h14 : l 14 with
    | false => rfl
    | true => rw [I.last h14 6 (by decide)] at hl; cases hl
  exact {
    below := I.below
    p26 := by simpa [up] using I.p26
    p27 := by simpa [up] using I.p27
    p29 := by simpa [up] using I.p29
    p30 := by simpa [up] using I.p30
    p32 := fun _ => rfl
    p33 := by simpa [up] using I.p33
    p35 := by simpa [up] using I.p35
    p38 := by simpa [up] using I.p38
    m28 := by simpa [up] using I.m28
    m31 := by simpa [up] using I.m31
    e34 := by simpa [up] using I.e34
    k36 := by simpa [up] using I.k36
    m37 := by simpa [up] using I.m37
    box := by simpa [up] using I.box
    fin := fun e => absurd e (by simp [up, h14])
    d5 := fun e => by
      have := I.d5 (by simpa [up] using e)
      simp [up, this]
    d9 := fun e => by
      have := I.d9 (by simpa [up] using e)
      simp [up, this]
    d10 := fun e => by
      have := I.d10 (by simpa [up] using e)
      simp [up, this]
    d11 := fun e => by
      have := I.d11 (by simpa [up] using e)
      simp [up, this]
    d12 := fun e => by
      have := I.d12 (by simpa [up] using e)
      simp [up, this]
    last := fun e => absurd e (by simp [up, h14])
  }
theorem IvA.s7 {w1 : World} {g : Nat} {A : Option Addr} {nF cap : Nat} {X : Option Addr} {nM capx : Nat} {csM : List Value} {N : Int} {l : Nat → Bool} {s8 s26 s27 s28 s29 s30 s31 s32 s33 s34 s35 s36 s37 s38 : Value} {w : World} (I : IvA w1 g A nF cap X nM capx csM N l s8 s26 s27 s28 s29 s30 s31 s32 s33 s34 s35 s36 s37 s38 w) (hl : l 7 = false) : IvA w1 g A nF cap X nM capx csM N (up l 7) s8 s26 s27 s28 s29 s30 s31 s32 (aEx N) s34 s35 s36 s37 s38 w := by
  have h14 : l 14 = false := by
    cases h14 : l 14 with
    | false => rfl
    | true => rw [I.last h14 7 (by decide)] at hl; cases hl
  exact {
    below := I.below
    p26 := by simpa [up] using I.p26
    p27 := by simpa [up] using I.p27
    p29 := by simpa [up] using I.p29
    p30 := by simpa [up] using I.p30
    p32 := by simpa [up] using I.p32
    p33 := fun _ => rfl
    p35 := by simpa [up] using I.p35
    p38 := by simpa [up] using I.p38
    m28 := by simpa [up] using I.m28
    m31 := by simpa [up] using I.m31
    e34 := by simpa [up] using I.e34
    k36 := by simpa [up] using I.k36
    m37 := by simpa [up] using I.m37
    box := by simpa [up] using I.box
    fin := fun e => absurd e (by simp [up, h14])
    d5 := fun e => by
      have := I.d5 (by simpa [up] using e)
      simp [up, this]
    d9 := fun e => by
      have := I.d9 (by simpa [up] using e)
      simp [up, this]
    d10 := fun e => by
      have := I.d10 (by simpa [up] using e)
      simp [up, this]
    d11 := fun e => by
      have := I.d11 (by simpa [up] using e)
      simp [up, this]
    d12 := fun e => by
      have := I.d12 (by simpa [up] using e)
      simp [up, this]
    last := fun e => absurd e (by simp [up, h14])
  }
theorem IvA.s1 {w1 : World} {g : Nat} {A : Option Addr} {nF cap : Nat} {X : Option Addr} {nM capx : Nat} {csM : List Value} {N : Int} {l : Nat → Bool} {s8 s26 s27 s28 s29 s30 s31 s32 s33 s34 s35 s36 s37 s38 : Value} {w : World} (I : IvA w1 g A nF cap X nM capx csM N l s8 s26 s27 s28 s29 s30 s31 s32 s33 s34 s35 s36 s37 s38 w) (hl : l 1 = false) (h12 : l 12 = false) : IvA w1 g A nF cap X nM capx csM N (up l 1) s8 s26 (.slice A nF cap) s28 s29 s30 s31 s32 s33 s34 s35 s36 s37 s38 w := by
  have h14 : l 14 = false := by
    cases h14 : l 14 with
    | false => rfl
    | true => rw [I.last h14 1 (by decide)] at hl; cases hl
  exact {
    below := I.below
    p26 := by simpa [up] using I.p26
    p27 := fun _ => rfl
    p29 := by simpa [up] using I.p29
    p30 := by simpa [up] using I.p30
    p32 := by simpa [up] using I.p32
    p33 := by simpa [up] using I.p33
    p35 := by simpa [up] using I.p35
    p38 := fun e => by simp [up, h12] at e
    m28 := by simpa [up] using I.m28
    m31 := by simpa [up] using I.m31
    e34 := by simpa [up] using I.e34
    k36 := by simpa [up] using I.k36
    m37 := by simpa [up] using I.m37
    box := by simpa [up] using I.box
    fin := fun e => absurd e (by simp [up, h14])
    d5 := fun e => by
      have := I.d5 (by simpa [up] using e)
      simp [up, this]
    d9 := fun e => by
      have := I.d9 (by simpa [up] using e)
      simp [up, this]
    d10 := fun e => by
      have := I.d10 (by simpa [up] using e)
      simp [up, this]
    d11 := fun e => by
      have := I.d11 (by simpa [up] using e)
      simp [up, this]
    d12 := fun e => by
      have := I.d12 (by simpa [up] using e)
      simp [up, this]
    last := fun e => absurd e (by simp [up, h14])
  }
theorem IvA.s9 {w1 : World} {g : Nat} {A : Option Addr} {nF cap : Nat} {X : Option Addr} {nM capx : Nat} {csM : List Value} {N : Int} {l : Nat → Bool} {s8 s26 s27 s28 s29 s30 s31 s32 s33 s34 s35 s36 s37 s38 : Value} {w : World} (I : IvA w1 g A nF cap X nM capx csM N l s8 s26 s27 s28 s29 s30 s31 s32 s33 s34 s35 s36 s37 s38 w) (hl : l 9 = false) (h8 : l 8 = true) : IvA w1 g A nF cap X nM capx csM N (up l 9) s8 s26 s27 s28 s29 s30 s31 s32 s33 s34 (.agg (aSt s34).toArray) s36 s37 s38 w := by
  have h14 : l 14 = false := by
    cases h14 : l 14 with
    | false => rfl
    | true => rw [I.last h14 9 (by decide)] at hl; cases hl
  exact {
    below := I.below
    p26 := by simpa [up] using I.p26
    p27 := by simpa [up] using I.p27
    p29 := by simpa [up] using I.p29
    p30 := by simpa [up] using I.p30
    p32 := by simpa [up] using I.p32
    p33 := by simpa [up] using I.p33
    p35 := fun _ => rfl
    p38 := by simpa [up] using I.p38
    m28 := by simpa [up] using I.m28
    m31 := by simpa [up] using I.m31
    e34 := by simpa [up] using I.e34
    k36 := by simpa [up] using I.k36
    m37 := by simpa [up] using I.m37
    box := by simpa [up] using I.box
    fin := fun e => absurd e (by simp [up, h14])
    d5 := fun e => by
      have := I.d5 (by simpa [up] using e)
      simp [up, this]
    d9 := fun _ => by simp [up, h8]
    d10 := fun e => by
      have := I.d10 (by simpa [up] using e)
      simp [up, this]
    d11 := fun e => by
      have := I.d11 (by simpa [up] using e)
      simp [up, this]
    d12 := fun e => by
      have := I.d12 (by simpa [up] using e)
      simp [up, this]
    last := fun e => absurd e (by simp [up, h14])
  }
theorem IvA.s12 {w1 : World} {g : Nat} {A : Option Addr} {nF cap : Nat} {X : Option Addr} {nM capx : Nat} {csM : List Value} {N : Int} {l : Nat → Bool} {s8 s26 s27 s28 s29 s30 s31 s32 s33 s34 s35 s36 s37 s38 : Value} {w : World} (I : IvA w1 g A nF cap X nM capx csM N l s8 s26 s27 s28 s29 s30 s31 s32 s33 s34 s35 s36 s37 s38 w) (hl : l 12 = false) (h1 : l 1 = true) (h11 : l 11 = true) : IvA w1 g A nF cap X nM capx csM N (up l 12) s8 s26 s27 s28 s29 s30 s31 s32 s33 s34 s35 s36 s37 (.agg #[s27, s37]) w := by
  have h14 : l 14 = false := by
    cases h14 : l 14 with
    | false => rfl
    | true => rw [I.last h14 12 (by decide)] at hl; cases hl
  exact {
    below := I.below
    p26 := by simpa [up] using I.p26
    p27 := by simpa [up] using I.p27
    p29 := by simpa [up] using I.p29
    p30 := by simpa [up] using I.p30
    p32 := by simpa [up] using I.p32
    p33 := by simpa [up] using I.p33
    p35 := by simpa [up] using I.p35
    p38 := fun _ => rfl
    m28 := by simpa [up] using I.m28
    m31 := by simpa [up] using I.m31
    e34 := by simpa [up] using I.e34
    k36 := by simpa [up] using I.k36
    m37 := by simpa [up] using I.m37
    box := by simpa [up] using I.box
    fin := fun e => absurd e (by simp [up, h14])
    d5 := fun e => by
      have := I.d5 (by simpa [up] using e)
      simp [up, this]
    d9 := fun e => by
      have := I.d9 (by simpa [up] using e)
      simp [up, this]
    d10 := fun e => by
      have := I.d10 (by simpa [up] using e)
      simp [up, this]
    d11 := fun e => by
      have := I.d11 (by simpa [up] using e)
      simp [up, this]
    d12 := fun _ => by simp [up, h1, h11]
    last := fun e => absurd e (by simp [up, h14])
  }
theorem IvA.s2 {w1 : World} {g : Nat} {A : Option Addr} {nF cap : Nat} {X : Option Addr} {nM capx : Nat} {csM : List Value} {N : Int} {l : Nat → Bool} {s8 s26 s27 s28 s29 s30 s31 s32 s33 s34 s35 s36 s37 s38 : Value} {w : World} (I : IvA w1 g A nF cap X nM capx csM N l s8 s26 s27 s28 s29 s30 s31 s32 s33 s34 s35 s36 s37 s38 w) (hl : l 2 = false) (h5 : l 5 = false) : IvA w1 g A nF cap X nM capx csM N (up l 2) s8 s26 s27 (.slice (some ⟨w.heap.size, 0, none⟩) 0 0) s29 s30 s31 s32 s33 s34 s35 s36 s37 s38 (w.alloc (.cells #[] 37)) := by
  have h14 : l 14 = false := by
    cases h14 : l 14 with
    | false => rfl
    | true => rw [I.last h14 2 (by decide)] at hl; cases hl
  exact {
    below := I.below.alloc I.below.size _
    p26 := by simpa [up] using I.p26
    p27 := by simpa [up] using I.p27
    p29 := by simpa [up] using I.p29
    p30 := by simpa [up] using I.p30
    p32 := by simpa [up] using I.p32
    p33 := by simpa [up] using I.p33
    p35 := by simpa [up] using I.p35
    p38 := by simpa [up] using I.p38
    m28 := fun _ _ => made_in rfl I.below.size
    m31 := fun a b => (I.m31 (by simpa [up] using a) (by simpa [up] using b)).alloc _
    e34 := fun a => by
      obtain ⟨k, x1, x2, x3⟩ := I.e34 (by simpa [up] using a)
      exact ⟨k, x1, x2, blk_alloc x3 _⟩
    k36 := fun a b => by
      obtain ⟨k, x1, x2, x3, x4, x5⟩ := I.k36 (by simpa [up] using a) (by simpa [up] using b)
      refine ⟨k, x1, x2, blk_alloc x3 _, fun _ _ e => ?_, by simpa [up] using x5⟩
      simp only [Value.ownBlock, Option.some.injEq] at e
      have := blk_lt x3
      omega
    m37 := fun a => (I.m37 (by simpa [up] using a)).alloc _
    box := fun a b => by
      obtain ⟨k, x1, x2, x3⟩ := I.box (by simpa [up] using a) h14
      exact ⟨k, x1, x2, blk_alloc x3 _⟩
    fin := fun e => absurd e (by simp [up, h14])
    d5 := fun e => by
      have := I.d5 (by simpa [up] using e)
      simp [up, this]
    d9 := fun e => by
      have := I.d9 (by simpa [up] using e)
      simp [up, this]
    d10 := fun e => by
      have := I.d10 (by simpa [up] using e)
      simp [up, this]
    d11 := fun e => by
      have := I.d11 (by simpa [up] using e)
      simp [up, this]
    d12 := fun e => by
      have := I.d12 (by simpa [up] using e)
      simp [up, this]
    last := fun e => absurd e (by simp [up, h14])
  }
theorem IvA.s8 {w1 : World} {g : Nat} {A : Option Addr} {nF cap : Nat} {X : Option Addr} {nM capx : Nat} {csM : List Value} {N : Int} {l : Nat → Bool} {s8 s26 s27 s28 s29 s30 s31 s32 s33 s34 s35 s36 s37 s38 : Value} {w : World} (I : IvA w1 g A nF cap X nM capx csM N l s8 s26 s27 s28 s29 s30 s31 s32 s33 s34 s35 s36 s37 s38 w) (hl : l 8 = false) (h9 : l 9 = false) (h10 : l 10 = false) (h11 : l 11 = false) : IvA w1 g A nF cap X nM capx csM N (up l 8) s8 s26 s27 s28 s29 s30 s31 s32 s33 (.slice (some ⟨w.heap.size, 0, none⟩) 1 1) s35 s36 s37 s38 (w.alloc (aExO N)) := by
  have h14 : l 14 = false := by
    cases h14 : l 14 with
    | false => rfl
    | true => rw [I.last h14 8 (by decide)] at hl; cases hl
  exact {
    below := I.below.alloc I.below.size _
    p26 := by simpa [up] using I.p26
    p27 := by simpa [up] using I.p27
    p29 := by simpa [up] using I.p29
    p30 := by simpa [up] using I.p30
    p32 := by simpa [up] using I.p32
    p33 := by simpa [up] using I.p33
    p35 := fun e => by simp [up, h9] at e
    p38 := by simpa [up] using I.p38
    m28 := fun a b => (I.m28 (by simpa [up] using a) (by simpa [up] using b)).alloc _
    m31 := fun a b => (I.m31 (by simpa [up] using a) (by simpa [up] using b)).alloc _
    e34 := fun _ => ⟨w.heap.size, rfl, I.below.size, blk_new rfl⟩
    k36 := fun e => by simp [up, h10] at e
    m37 := fun e => by simp [up, h11] at e
    box := fun a b => by
      obtain ⟨k, x1, x2, x3⟩ := I.box (by simpa [up] using a) h14
      exact ⟨k, x1, x2, blk_alloc x3 _⟩
    fin := fun e => absurd e (by simp [up, h14])
    d5 := fun e => by
      have := I.d5 (by simpa [up] using e)
      simp [up, this]
    d9 := fun e => by
      have := I.d9 (by simpa [up] using e)
      simp [up, this]
    d10 := fun e => by
      have := I.d10 (by simpa [up] using e)
      simp [up, this]
    d11 := fun e => by
      have := I.d11 (by simpa [up] using e)
      simp [up, this]
    d12 := fun e => by
      have := I.d12 (by simpa [up] using e)
      simp [up, this]
    last := fun e => absurd e (by simp [up, h14])
  }
theorem IvA.s10 {w1 : World} {g : Nat} {A : Option Addr} {nF cap : Nat} {X : Option Addr} {nM capx : Nat} {csM : List Value} {N : Int} {l : Nat → Bool} {s8 s26 s27 s28 s29 s30 s31 s32 s33 s34 s35 s36 s37 s38 : Value} {w : World} (I : IvA w1 g A nF cap X nM capx csM N l s8 s26 s27 s28 s29 s30 s31 s32 s33 s34 s35 s36 s37 s38 w) (hl : l 10 = false) (h9 : l 9 = true) : IvA w1 g A nF cap X nM capx csM N (up l 10) s8 s26 s27 s28 s29 s30 s31 s32 s33 s34 s35 (.slice (some ⟨w.heap.size, 0, none⟩) 1 1) s37 s38 (w.alloc (aStO s34)) := by
  have h14 : l 14 = false := by
    cases h14 : l 14 with
    | false => rfl
    | true => rw [I.last h14 10 (by decide)] at hl; cases hl
  exact {
    below := I.below.alloc I.below.size _
    p26 := by simpa [up] using I.p26
    p27 := by simpa [up] using I.p27
    p29 := by simpa [up] using I.p29
    p30 := by simpa [up] using I.p30
    p32 := by simpa [up] using I.p32
    p33 := by simpa [up] using I.p33
    p35 := by simpa [up] using I.p35
    p38 := by simpa [up] using I.p38
    m28 := fun a b => (I.m28 (by simpa [up] using a) (by simpa [up] using b)).alloc _
    m31 := fun a b => (I.m31 (by simpa [up] using a) (by simpa [up] using b)).alloc _
    e34 := fun a => by
      obtain ⟨k, x1, x2, x3⟩ := I.e34 (by simpa [up] using a)
      exact ⟨k, x1, x2, blk_alloc x3 _⟩
    k36 := fun _ b => by
      refine ⟨w.heap.size, rfl, I.below.size, blk_new rfl, fun c d e => ?_, fun c e => ?_⟩
      · exact absurd ((I.m28 (by simpa [up] using c) (by simpa [up] using d)).lt _ e.symm).2 (Nat.lt_irrefl _)
      · exact absurd ((I.m31 (by simpa [up] using c) (by simpa [up] using b)).lt _ e.symm).2 (Nat.lt_irrefl _)
    m37 := fun a => (I.m37 (by simpa [up] using a)).alloc _
    box := fun a b => by
      obtain ⟨k, x1, x2, x3⟩ := I.box (by simpa [up] using a) h14
      exact ⟨k, x1, x2, blk_alloc x3 _⟩
    fin := fun e => absurd e (by simp [up, h14])
    d5 := fun e => by
      have := I.d5 (by simpa [up] using e)
      simp [up, this]
    d9 := fun e => by
      have := I.d9 (by simpa [up] using e)
      simp [up, this]
    d10 := fun _ => by simp [up, h9]
    d11 := fun e => by
      have := I.d11 (by simpa [up] using e)
      simp [up, this]
    d12 := fun e => by
      have := I.d12 (by simpa [up] using e)
      simp [up, this]
    last := fun e => absurd e (by simp [up, h14])
  }
theorem IvA.s13 {w1 : World} {g : Nat} {A : Option Addr} {nF cap : Nat} {X : Option Addr} {nM capx : Nat} {csM : List Value} {N : Int} {l : Nat → Bool} {s8 s26 s27 s28 s29 s30 s31 s32 s33 s34 s35 s36 s37 s38 : Value} {w : World} (I : IvA w1 g A nF cap X nM capx csM N l s8 s26 s27 s28 s29 s30 s31 s32 s33 s34 s35 s36 s37 s38 w) (hl : l 13 = false) : IvA w1 g A nF cap X nM capx csM N (up l 13) (.pointer (some ⟨w.heap.size, 0, none⟩)) s26 s27 s28 s29 s30 s31 s32 s33 s34 s35 s36 s37 s38 (w.alloc aPgO) := by
  have h14 : l 14 = false := by
    cases h14 : l 14 with
    | false => rfl
    | true => rw [I.last h14 13 (by decide)] at hl; cases hl
  exact {
    below := I.below.alloc I.below.size _
    p26 := by simpa [up] using I.p26
    p27 := by simpa [up] using I.p27
    p29 := by simpa [up] using I.p29
    p30 := by simpa [up] using I.p30
    p32 := by simpa [up] using I.p32
    p33 := by simpa [up] using I.p33
    p35 := by simpa [up] using I.p35
    p38 := by simpa [up] using I.p38
    m28 := fun a b => (I.m28 (by simpa [up] using a) (by simpa [up] using b)).alloc _
    m31 := fun a b => (I.m31 (by simpa [up] using a) (by simpa [up] using b)).alloc _
    e34 := fun a => by
      obtain ⟨k, x1, x2, x3⟩ := I.e34 (by simpa [up] using a)
      exact ⟨k, x1, x2, blk_alloc x3 _⟩
    k36 := fun a b => by
      obtain ⟨k, x1, x2, x3, x4, x5⟩ := I.k36 (by simpa [up] using a) (by simpa [up] using b)
      exact ⟨k, x1, x2, blk_alloc x3 _, by simpa [up] using x4, by simpa [up] using x5⟩
    m37 := fun a => (I.m37 (by simpa [up] using a)).alloc _
    box := fun _ _ => ⟨w.heap.size, rfl, I.below.size, blk_new rfl⟩
    fin := fun e => absurd e (by simp [up, h14])
    d5 := fun e => by
      have := I.d5 (by simpa [up] using e)
      simp [up, this]
    d9 := fun e => by
      have := I.d9 (by simpa [up] using e)
      simp [up, this]
    d10 := fun e => by
      have := I.d10 (by simpa [up] using e)
      simp [up, this]
    d11 := fun e => by
      have := I.d11 (by simpa [up] using e)
      simp [up, this]
    d12 := fun e => by
      have := I.d12 (by simpa [up] using e)
      simp [up, this]
    last := fun e => absurd e (by simp [up, h14])
  }
theorem IvA.s5 {w1 : World} {g : Nat} {A : Option Addr} {nF cap : Nat} {X : Option Addr} {nM capx : Nat} {csM : List Value} {N : Int} {l : Nat → Bool} {s8 s26 s27 s28 s29 s30 s31 s32 s33 s34 s35 s36 s37 s38 : Value} {w : World} (I : IvA w1 g A nF cap X nM capx csM N l s8 s26 s27 s28 s29 s30 s31 s32 s33 s34 s35 s36 s37 s38 w) (hl : l 5 = false) (h2 : l 2 = true) (h11 : l 11 = false) {v : Value} {w' : World} (ho : w'.ownsRow w1.heap.size 37 6 v nM csM) (hg : w.grownBy w' s28.ownBlock) (hv : v.ownBlock = s28.ownBlock ∨ v.ownBlock = some w.heap.size) : IvA w1 g A nF cap X nM capx csM N (up l 5) s8 s26 s27 s28 s29 s30 (v) s32 s33 s34 s35 s36 s37 s38 w' := by
  have h14 : l 14 = false := by
    cases h14 : l 14 with
    | false => rfl
    | true => rw [I.last h14 5 (by decide)] at hl; cases hl
  exact {
    below := grown_below I.below (I.m28 h2 hl) (Nat.le_refl _) hg
    p26 := by simpa [up] using I.p26
    p27 := by simpa [up] using I.p27
    p29 := by simpa [up] using I.p29
    p30 := by simpa [up] using I.p30
    p32 := by simpa [up] using I.p32
    p33 := by simpa [up] using I.p33
    p35 := by simpa [up] using I.p35
    p38 := by simpa [up] using I.p38
    m28 := fun _ e => by simp [up] at e
    m31 := fun _ _ => ho
    e34 := fun a => by
      obtain ⟨k, x1, x2, x3⟩ := I.e34 (by simpa [up] using a)
      exact ⟨k, x1, x2, blk_grown_own (I.m28 h2 hl) hg x3 (by decide)⟩
    k36 := fun a b => by
      obtain ⟨k, x1, x2, x3, x4, x5⟩ := I.k36 (by simpa [up] using a) (by simpa [up] using b)
      refine ⟨k, x1, x2, blk_grown x3 hg (x4 h2 hl), fun _ e => by simp [up] at e, fun _ e => ?_⟩
      rcases hv with q | q
      · exact x4 h2 hl (e.trans q)
      · rw [q] at e
        injection e with e
        have := blk_lt x3
        omega
    m37 := fun e => by simp [up, h11] at e
    box := fun a b => by
      obtain ⟨k, x1, x2, x3⟩ := I.box (by simpa [up] using a) h14
      exact ⟨k, x1, x2, blk_grown_own (I.m28 h2 hl) hg x3 (by decide)⟩
    fin := fun e => absurd e (by simp [up, h14])
    d5 := fun _ => by simp [up, h2]
    d9 := fun e => by
      have := I.d9 (by simpa [up] using e)
      simp [up, this]
    d10 := fun e => by
      have := I.d10 (by simpa [up] using e)
      simp [up, this]
    d11 := fun e => by
      have := I.d11 (by simpa [up] using e)
      simp [up, this]
    d12 := fun e => by
      have := I.d12 (by simpa [up] using e)
      simp [up, this]
    last := fun e => absurd e (by simp [up, h14])
  }
theorem IvA.s11 {w1 : World} {g : Nat} {A : Option Addr} {nF cap : Nat} {X : Option Addr} {nM capx : Nat} {csM : List Value} {N : Int} {l : Nat → Bool} {s8 s26 s27 s28 s29 s30 s31 s32 s33 s34 s35 s36 s37 s38 : Value} {w : World} (I : IvA w1 g A nF cap X nM capx csM N l s8 s26 s27 s28 s29 s30 s31 s32 s33 s34 s35 s36 s37 s38 w) (hl : l 11 = false) (h5 : l 5 = true) (h10 : l 10 = true) (h12 : l 12 = false) {v : Value} {w' : World} (ho : w'.ownsRow w1.heap.size 37 6 v (nM + 1) (csM ++ aSt s34)) (hg : w.grownBy w' s31.ownBlock) : IvA w1 g A nF cap X nM capx csM N (up l 11) s8 s26 s27 s28 s29 s30 s31 s32 s33 s34 s35 s36 (v) s38 w' := by
  have h14 : l 14 = false := by
    cases h14 : l 14 with
    | false => rfl
    | true => rw [I.last h14 11 (by decide)] at hl; cases hl
  exact {
    below := grown_below I.below (I.m31 h5 hl) (Nat.le_refl _) hg
    p26 := by simpa [up] using I.p26
    p27 := by simpa [up] using I.p27
    p29 := by simpa [up] using I.p29
    p30 := by simpa [up] using I.p30
    p32 := by simpa [up] using I.p32
    p33 := by simpa [up] using I.p33
    p35 := by simpa [up] using I.p35
    p38 := fun e => by simp [up, h12] at e
    m28 := fun _ e => by simp [up, h5] at e
    m31 := fun _ e => by simp [up] at e
    e34 := fun a => by
      obtain ⟨k, x1, x2, x3⟩ := I.e34 (by simpa [up] using a)
      exact ⟨k, x1, x2, blk_grown_own (I.m31 h5 hl) hg x3 (by decide)⟩
    k36 := fun _ e => by simp [up] at e
    m37 := fun _ => ho
    box := fun a b => by
      obtain ⟨k, x1, x2, x3⟩ := I.box (by simpa [up] using a) h14
      exact ⟨k, x1, x2, blk_grown_own (I.m31 h5 hl) hg x3 (by decide)⟩
    fin := fun e => absurd e (by simp [up, h14])
    d5 := fun e => by
      have := I.d5 (by simpa [up] using e)
      simp [up, this]
    d9 := fun e => by
      have := I.d9 (by simpa [up] using e)
      simp [up, this]
    d10 := fun e => by
      have := I.d10 (by simpa [up] using e)
      simp [up, this]
    d11 := fun _ => by simp [up, h5, h10]
    d12 := fun e => by
      have := I.d12 (by simpa [up] using e)
      simp [up, this]
    last := fun e => absurd e (by simp [up, h14])
  }
theorem IvA.s14 {w1 : World} {g : Nat} {A : Option Addr} {nF cap : Nat} {X : Option Addr} {nM capx : Nat} {csM : List Value} {N : Int} {l : Nat → Bool} {s8 s26 s27 s28 s29 s30 s31 s32 s33 s34 s35 s36 s37 s38 : Value} {w : World} (I : IvA w1 g A nF cap X nM capx csM N l s8 s26 s27 s28 s29 s30 s31 s32 s33 s34 s35 s36 s37 s38 w) (hl : l 14 = false) (ha : ∀ j, j < 14 → l j = true) {k : Nat} (hk : s8 = .pointer (some ⟨k, 0, none⟩)) :
    IvA w1 g A nF cap X nM capx csM N (up l 14) s8 s26 s27 s28 s29 s30 s31 s32 s33 s34 s35 s36 s37 s38 ((w.setCell ⟨k, 0, none⟩ (.slice A nF cap)).setCell ⟨k, 1, none⟩ s37) := by
  obtain ⟨k', h1, h2, h3⟩ := I.box (ha 13 (by decide)) hl
  rw [hk] at h1
  injection h1 with h1
  injection h1 with h1
  injection h1 with h1
  subst h1
  have o2 := I.m37 (ha 11 (by decide))
  have hF := fin_set (x := .slice A nF cap) (y := s37) I.below h2 h3 (by decide) o2
  obtain ⟨A2, cap2, e2⟩ := own_form o2
  obtain ⟨kE, x1, x2, x3⟩ := I.e34 (ha 8 (by decide))
  have hne := blk_ne x3 h3 (by decide)
  have x4 := blk_far (i := 1) (blk_far (i := 0) x3 hne (.slice A nF cap)) hne s37
  obtain ⟨_, _, _, _, o2', _, hb⟩ := id hF
  have a5 := ha 5 (by decide)
  have a11 := ha 11 (by decide)
  exact {
    below := hb
    p26 := by simpa [up] using I.p26
    p27 := by simpa [up] using I.p27
    p29 := by simpa [up] using I.p29
    p30 := by simpa [up] using I.p30
    p32 := by simpa [up] using I.p32
    p33 := by simpa [up] using I.p33
    p35 := by simpa [up] using I.p35
    p38 := by simpa [up] using I.p38
    m28 := fun _ e => by simp [up, a5] at e
    m31 := fun _ e => by simp [up, a11] at e
    e34 := fun _ => ⟨kE, x1, x2, x4⟩
    k36 := fun _ e => by simp [up, a11] at e
    m37 := fun _ => o2'
    box := fun _ e => by simp [up] at e
    fin := fun _ => ⟨k, kE, A2, cap2, hk, x1, x2, x4, by rw [← e2]; exact hF⟩
    d5 := fun _ => by simp [up, ha 2 (by decide)]
    d9 := fun _ => by simp [up, ha 8 (by decide)]
    d10 := fun _ => by simp [up, ha 9 (by decide)]
    d11 := fun _ => by simp [up, a5, ha 10 (by decide)]
    d12 := fun _ => by simp [up, a11, ha 1 (by decide)]
    last := fun _ j hj => by
      unfold up
      split
      · rfl
      · exact ha j hj
  }
theorem IvA.start {w1 : World} {g : Nat} {A : Option Addr} {nF cap : Nat} {X : Option Addr} {nM capx : Nat} {csM : List Value} {N : Int} {s8 s26 s27 s28 s29 s30 s31 s32 s33 s34 s35 s36 s37 s38 : Value} {w : World} (hb : Below w1.heap.size w1 w) (n : Nat) : IvA w1 g A nF cap X nM capx csM N (ld (Array.replicate n false)) s8 s26 s27 s28 s29 s30 s31 s32 s33 s34 s35 s36 s37 s38 w where
  below := hb
  p26 := fun e => by rw [ld_new] at e; cases e
  p27 := fun e => by rw [ld_new] at e; cases e
  p29 := fun e => by rw [ld_new] at e; cases e
  p30 := fun e => by rw [ld_new] at e; cases e
  p32 := fun e => by rw [ld_new] at e; cases e
  p33 := fun e => by rw [ld_new] at e; cases e
  p35 := fun e => by rw [ld_new] at e; cases e
  p38 := fun e => by rw [ld_new] at e; cases e
  m28 := fun e => by rw [ld_new] at e; cases e
  m31 := fun e => by rw [ld_new] at e; cases e
  e34 := fun e => by rw [ld_new] at e; cases e
  k36 := fun e => by rw [ld_new] at e; cases e
  m37 := fun e => by rw [ld_new] at e; cases e
  box := fun e => by rw [ld_new] at e; cases e
  fin := fun e => by rw [ld_new] at e; cases e
  d5 := fun e => by rw [ld_new] at e; cases e
  d9 := fun e => by rw [ld_new] at e; cases e
  d10 := fun e => by rw [ld_new] at e; cases e
  d11 := fun e => by rw [ld_new] at e; cases e
  d12 := fun e => by rw [ld_new] at e; cases e
  last := fun e => by rw [ld_new] at e; cases e

end Go.Proofs.YtnilklgnpfgieaaDoor
