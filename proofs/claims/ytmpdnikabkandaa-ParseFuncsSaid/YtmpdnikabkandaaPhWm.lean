/-
  ParseFuncs: what the walk needs.
-/
import Derived.Test.YtmpdnikabkandaaPq5
import Derived.Test.YtmpdnikabkandaaPhNm
namespace Go.Proofs.Ytmpdnikabkandaa
open Go Go.RowKit Go.Lib

theorem baT_cat (a b : List UInt8) : baT a ++ baT b = baT (a ++ b) := ByteArray.ext (by rw [ByteArray.data_append]; exact Array.ext' (by simp [baT]))
theorem par_one {X : List UInt8} {k : Nat} (h : 0 < k) : (baT (X ++ parL k) ++ ⟨#[44]⟩ ++ ⟨#[112]⟩ ++ baT (dg k) : ByteArray) = baT (X ++ parL (k + 1)) := by
  show baT _ ++ baT [44] ++ baT [112] ++ baT (dg k) = _
  rw [baT_cat, baT_cat, baT_cat, parL, if_pos h]; simp
theorem par_zero {X : List UInt8} : (baT (X ++ parL 0) ++ ⟨#[112]⟩ ++ baT (dg 0) : ByteArray) = baT (X ++ parL (0 + 1)) := by
  show baT _ ++ baT [112] ++ baT (dg 0) = _
  rw [baT_cat, baT_cat]; simp [parL]
theorem arg_one {X : List UInt8} {k : Nat} (h : 0 < k) : (baT (X ++ argL k) ++ ⟨#[44]⟩ ++ ⟨#[49]⟩ : ByteArray) = baT (X ++ argL (k + 1)) := by
  show baT _ ++ baT [44] ++ baT [49] = _
  rw [baT_cat, baT_cat, argL, if_pos h]; simp
theorem arg_zero {X : List UInt8} : (baT (X ++ argL 0) ++ ⟨#[49]⟩ : ByteArray) = baT (X ++ argL (0 + 1)) := by
  show baT _ ++ baT [49] = _
  rw [baT_cat]; simp [argL]
theorem keepg_cells {lo : Nat} {W : World} {v : Value} {fs : List Fn} {op : Int} {s : ByteArray} {n op2 m : Int} {s2 : ByteArray} {l2 : ES} {x y : SS} (h : GV lo W v ⟨fs, .cons op s n (.cons op2 m s2 l2 .nil) x y .nil⟩) :
    ∃ Af cf bm om km bl ol kl X cx, v = .agg #[.slice Af fs.length cf, .slice (some ⟨bm, om, none⟩) 1 km] ∧ bm < W.heap.size ∧ bl < W.heap.size ∧ W.cell? ⟨bm, om + 3, none⟩ = some (.slice (some ⟨bl, ol, none⟩) 1 kl) ∧ W.cell? ⟨bl, ol + 3, none⟩ = some (.slice X l2.len cx) := by
  obtain ⟨A, c, A', c', rfl, hf, hm⟩ := h.pgv
  obtain ⟨bm, om, km, e2, hbm, _, _, _, ⟨vl, m3, hvl⟩, _⟩ := RowV.get (n := 0) hm
  obtain ⟨bl, ol, kl, rfl, hbl, _, _, _, ⟨vx, l3, hvx⟩, _⟩ := RowV.get (n := 0) hvl
  obtain ⟨X, cx, rfl, _⟩ := hvx
  rw [e2]
  exact ⟨A, c, bm, om, km, bl, ol, kl, X, cx, rfl, hbm, hbl, m3, l3⟩
/-- What stands ahead of a function's parameters. -/
def preL (m i : Nat) : List UInt8 := fnsL m 0 i ++ [102, 117, 110, 99, 32, 102] ++ dg i ++ [40]
theorem fn_open {m i : Nat} : (baT (fnsL m 0 i) ++ ⟨#[102, 117, 110, 99, 32, 102]⟩ ++ baT (dg i) ++ ⟨#[40]⟩ : ByteArray) = baT (preL m i ++ parL 0) := by
  show baT _ ++ baT [102, 117, 110, 99, 32, 102] ++ baT (dg i) ++ baT [40] = _
  rw [baT_cat, baT_cat, baT_cat, parL]; simp [preL]
theorem fn_shut {m i : Nat} : (baT (preL m i ++ parL m) ++ ⟨#[41, 123, 125]⟩ : ByteArray) = baT (fnsL m 0 (i + 1)) := by
  show baT _ ++ baT [41, 123, 125] = _
  rw [baT_cat, fnsL_snoc, Nat.zero_add]; simp [preL, fnC]
def preM (n m : Nat) : List UInt8 := fnsL m 0 n ++ [107, 101, 101, 112, 32, 103, 40]
theorem main_open {n m : Nat} : (baT (fnsL m 0 n) ++ ⟨#[107, 101, 101, 112, 32, 103, 40]⟩ : ByteArray) = baT (preM n m ++ argL 0) := by
  show baT _ ++ baT [107, 101, 101, 112, 32, 103, 40] = _
  rw [baT_cat, argL]; simp [preM]
theorem main_shut {n m a : Nat} : (baT (preM n m ++ argL a) ++ ⟨#[41, 59]⟩ : ByteArray) = baT (txL n m a) := by
  show baT _ ++ baT [41, 59] = _
  rw [baT_cat]; simp [preM, txL, mainC]
theorem dg_len {m : Nat} : (dg m).length ≤ 2 := by unfold dg; split <;> simp
theorem parL_len : ∀ k, (parL k).length ≤ 4 * k
  | 0 => by simp [parL]
  | k + 1 => by
    have := parL_len k
    have := dg_len (m := k)
    rw [parL]
    split <;> (simp; omega)
theorem argL_len : ∀ k, (argL k).length ≤ 2 * k
  | 0 => by simp [argL]
  | k + 1 => by
    have := argL_len k
    rw [argL]
    split <;> (simp; omega)
theorem fnC_len {i m : Nat} (hm : m < 13) : (fnC i m).length ≤ 59 := by
  have := parL_len m
  have := dg_len (m := i)
  unfold fnC
  simp
  omega
theorem fnsL_len {m : Nat} (hm : m < 13) : ∀ c i, (fnsL m i c).length ≤ c * 60
  | 0, i => by simp [fnsL]
  | c + 1, i => by
    have := fnsL_len hm c (i + 1)
    have := fnC_len (i := i) hm
    rw [fnsL]
    simp
    omega
theorem preL_len {m i : Nat} (hm : m < 13) (hi : i < 41) : (preL m i).length ≤ 2500 := by
  have := fnsL_len hm i 0
  have := dg_len (m := i)
  unfold preL
  simp
  omega
theorem preM_len {m n : Nat} (hm : m < 13) (hn : n < 41) : (preM n m).length ≤ 2500 := by
  have := fnsL_len hm n 0
  unfold preM
  simp
  omega
/-- What is too much first: ahead of a function; within one, behind so many parameters; at the end. -/
def S1 (m L i wv av : Nat) : Prop := (9 ≤ m → (i = 0 → wv = 0 ∧ av = 0) ∧ (1 ≤ i → wv = 10 ∧ av = 32)) ∧ (m ≤ 8 → (i ≤ 32 → wv = 0 ∧ av = 0) ∧ (33 ≤ i → wv = 10 ∧ av = L))
def S2 (m L i k wv av : Nat) : Prop := (9 ≤ m → (i = 0 ∧ k ≤ 8 → wv = 0 ∧ av = 0) ∧ (¬ (i = 0 ∧ k ≤ 8) → wv = 10 ∧ av = 32)) ∧ (m ≤ 8 → (i < 32 → wv = 0 ∧ av = 0) ∧ (32 ≤ i → wv = 10 ∧ av = L))
def S3 (n m L D k wv av : Nat) : Prop := (S1 m L n 10 av ∧ wv = 10) ∨ (S1 m L n 0 0 ∧ ((k ≤ 8 ∧ wv = 0 ∧ av = 0) ∨ (9 ≤ k ∧ wv = 10 ∧ av = D)))
theorem s12 {m L i wv av : Nat} (h : S1 m L i wv av) (hi : i ≠ 32 ∨ 9 ≤ m) : S2 m L i 0 wv av := by
  obtain ⟨h1, h2⟩ := h
  refine ⟨fun h => ?_, fun h => ?_⟩
  · obtain ⟨a, b⟩ := h1 h
    exact ⟨fun e => a e.1, fun e => b (by omega)⟩
  · obtain ⟨a, b⟩ := h2 h
    exact ⟨fun e => a (by omega), fun e => b (by omega)⟩
theorem s12' {m L : Nat} (hm : m ≤ 8) : S2 m L 32 0 10 L := ⟨fun h => by omega, fun _ => ⟨fun h => by omega, fun _ => ⟨rfl, rfl⟩⟩⟩
theorem s22 {m L i k wv av : Nat} (h : S2 m L i k wv av) (hk : k ≠ 8 ∨ wv ≠ 0 ∨ m ≤ 8) : S2 m L i (k + 1) wv av := by
  obtain ⟨h1, h2⟩ := h
  refine ⟨fun h => ?_, h2⟩
  obtain ⟨a, b⟩ := h1 h
  refine ⟨fun e => a ⟨e.1, by omega⟩, fun e => ?_⟩
  by_cases hc : i = 0 ∧ k ≤ 8
  · have := a hc
    omega
  · exact b hc
theorem s22' {m L i av : Nat} (h : S2 m L i 8 0 av) (hm : 8 < m) : i = 0 ∧ S2 m L i 9 10 32 := by
  have hi : i = 0 := by
    rcases Nat.eq_zero_or_pos i with e | e
    · exact e
    · have := (h.1 (by omega)).2 (by omega)
      omega
  exact ⟨hi, fun _ => ⟨fun e => by omega, fun _ => ⟨rfl, rfl⟩⟩, fun e => by omega⟩
theorem s21 {m L i wv av : Nat} (h : S2 m L i m wv av) : S1 m L (i + 1) wv av := by
  obtain ⟨h1, h2⟩ := h
  refine ⟨fun h => ⟨fun e => by omega, fun _ => (h1 h).2 (by omega)⟩, fun h => ⟨fun e => (h2 h).1 (by omega), fun e => (h2 h).2 (by omega)⟩⟩
theorem s13 {n m L D wv av : Nat} (h : S1 m L n wv av) : S3 n m L D 0 wv av := by
  have : (wv = 10) ∨ (wv = 0 ∧ av = 0) := by
    by_cases hm : 9 ≤ m
    · obtain ⟨a, b⟩ := h.1 hm
      rcases Nat.eq_zero_or_pos n with e | e
      · exact .inr (a e)
      · exact .inl (b e).1
    · obtain ⟨a, b⟩ := h.2 (by omega)
      by_cases e : n ≤ 32
      · exact .inr (a e)
      · exact .inl (b (by omega)).1
  rcases this with rfl | ⟨rfl, rfl⟩
  · exact .inl ⟨h, rfl⟩
  · exact .inr ⟨h, .inl ⟨by omega, rfl, rfl⟩⟩
theorem s33 {n m L D k wv av : Nat} (h : S3 n m L D k wv av) (hk : k ≠ 8 ∨ wv ≠ 0) : S3 n m L D (k + 1) wv av := by
  rcases h with h | ⟨h1, h⟩
  · exact .inl h
  · refine .inr ⟨h1, ?_⟩
    rcases h with ⟨a, b, c⟩ | ⟨a, b, c⟩
    · exact .inl ⟨by omega, b, c⟩
    · exact .inr ⟨by omega, b, c⟩
theorem s33' {n m L D av : Nat} (h : S3 n m L D 8 0 av) : S3 n m L D 9 10 D := by
  rcases h with ⟨_, h⟩ | ⟨h1, _⟩
  · cases h
  · exact .inr ⟨h1, .inr ⟨by omega, rfl, rfl⟩⟩
/-- What Parse tells, by what is too much first. -/
theorem s3_end {n m a wv av : Nat} (hn : n < 41) (hm : m < 13) (ha : a < 13) (h : S3 n m (fnsL m 0 32).length ((fnsL m 0 n).length + (7 + (argL 8).length + 1)) a wv av) :
    (wv = 10 ∧ tl (txL n m a) = .bad av 10) ∨ (wv = 0 ∧ ∃ fs op s k op2 k2 s2 l x y r, fs.length = n ∧ l.len = a ∧ tl (txL n m a) = .ok ⟨fs, .cons op s k (.cons op2 k2 s2 l .nil) x y .nil⟩ r) := by
  have hcase : (n = 0 ∨ (m ≤ 8 ∧ n ≤ 32)) ∨ (1 ≤ n ∧ 9 ≤ m) ∨ (m ≤ 8 ∧ 33 ≤ n) := by omega
  rcases hcase with hc | ⟨hc1, hc2⟩ | ⟨hc1, hc2⟩
  · have hno : ∀ x, ¬ S1 m (fnsL m 0 32).length n 10 x := fun x hs => by
      by_cases hm9 : 9 ≤ m
      · have := ((hs.1 hm9).1 (by omega)).1; omega
      · have := ((hs.2 (by omega)).1 (by omega)).1; omega
    rcases h with ⟨h, _⟩ | ⟨_, h⟩
    · exact absurd h (hno _)
    · rcases funcs_some (n := n) (m := m) (a := a) (by omega) hm (by omega) ha with ⟨h8, hx⟩ | ⟨h8, hx⟩
      · rcases h with ⟨_, rfl, _⟩ | ⟨h9, _, _⟩
        · exact .inr ⟨rfl, hx⟩
        · omega
      · rcases h with ⟨h9, _, _⟩ | ⟨_, rfl, rfl⟩
        · omega
        · exact .inl ⟨rfl, hx⟩
  · have hx := funcs_par (n := n) (m := m) (a := a) hc1 hn (by omega) hm ha
    rcases h with ⟨h, rfl⟩ | ⟨h, _⟩
    · obtain ⟨_, rfl⟩ := (h.1 hc2).2 hc1
      exact .inl ⟨rfl, hx⟩
    · have := ((h.1 hc2).2 hc1).1; omega
  · have hx := funcs_many (n := n) (m := m) (a := a) (by omega) hn (by omega) ha
    rcases h with ⟨h, rfl⟩ | ⟨h, _⟩
    · obtain ⟨_, rfl⟩ := (h.2 hc1).2 hc2
      exact .inl ⟨rfl, hx⟩
    · have := ((h.2 hc1).2 hc2).1; omega
theorem par8 : (parL 8).length = 23 := by decide
theorem pre0 (m : Nat) : (preL m 0).length = 8 := rfl
theorem tx_len {n m a : Nat} (hn : n < 41) (hm : m < 13) (ha : a < 13) : (txL n m a).length ≤ 3000 := by
  have h1 := fnsL_len hm n 0
  have h2 := argL_len a
  unfold txL mainC
  simp
  omega

end Go.Proofs.Ytmpdnikabkandaa
