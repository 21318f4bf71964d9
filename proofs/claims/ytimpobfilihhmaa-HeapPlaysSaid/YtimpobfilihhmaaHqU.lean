/-
  The document's own heap, plainly and its calls that read.
-/
import Derived.Test.YtimpobfilihhmaaHqS
namespace Go.Proofs.Ytimpobfilihhmaa
open Go Go.RowKit Go.Lib

/-- What was put: id, place, number. -/
abbrev Pt := Int × Int × Int
def ptV : List Pt → List Value
  | [] => []
  | (d, i, v) :: r => .int .i64 d :: .int .i64 i :: .int .i64 v :: ptV r
theorem ptV_len : ∀ l : List Pt, (ptV l).length = l.length * 3
  | [] => rfl
  | (_, _, _) :: r => by simp [ptV, ptV_len r]; omega
theorem ptV_app : ∀ a b : List Pt, ptV (a ++ b) = ptV a ++ ptV b
  | [], _ => rfl
  | (_, _, _) :: r, b => by simp [ptV, ptV_app r b]
theorem ptV_at : ∀ (l : List Pt) (k : Nat) (d i v : Int), l[k]? = some (d, i, v) → (ptV l)[k * 3]? = some (.int .i64 d) ∧ (ptV l)[k * 3 + 1]? = some (.int .i64 i) ∧ (ptV l)[k * 3 + 2]? = some (.int .i64 v)
  | [], k, _, _, _, h => by simp at h
  | (d', i', v') :: r, 0, d, i, v, h => by
    simp at h
    obtain ⟨rfl, rfl, rfl⟩ := h
    exact ⟨rfl, rfl, rfl⟩
  | (d', i', v') :: r, k + 1, d, i, v, h => by
    have := ptV_at r k d i v (by simpa using h)
    rw [show (k + 1) * 3 = k * 3 + 3 by omega]
    simpa [ptV] using this
theorem ptV_one : ∀ (l : List Pt), ∀ u ∈ ptV l, u.oneCell' = true
  | [], u, h => by cases h
  | (d, i, v) :: r, u, h => by
    simp only [ptV, List.mem_cons] at h
    rcases h with rfl | rfl | rfl | h
    · rfl
    · rfl
    · rfl
    · exact ptV_one r u h
theorem ptInfo : (Try.prog.info? 57).map (fun i => (i.zero, i.size, i.bytes)) = some (some (.agg #[.int .i64 0, .int .i64 0, .int .i64 0]), 3, 24) := by kernel_rfl
/-- What was put there last among the first k. -/
def fnd (P : List Pt) (d i : Int) : Nat → Int
  | 0 => 0
  | k + 1 => match P[k]? with
    | some (d', i', v) => if d' = d ∧ i' = i then v else fnd P d i k
    | none => fnd P d i k
theorem fnd_app (P : List Pt) (x : Pt) (d i : Int) : ∀ k, k ≤ P.length → fnd (P ++ [x]) d i k = fnd P d i k
  | 0, _ => rfl
  | k + 1, h => by
    unfold fnd
    rw [List.getElem?_append_left (by omega), fnd_app P x d i k (by omega)]
theorem fnd_put (P : List Pt) (d' i' v d i : Int) : fnd (P ++ [(d', i', v)]) d i (P.length + 1) = if d' = d ∧ i' = i then v else fnd P d i P.length := by
  rw [fnd, List.getElem?_append_right (Nat.le_refl _), Nat.sub_self]
  simp only [List.getElem?_cons_zero]
  rw [fnd_app P _ d i P.length (Nat.le_refl _)]
def sizes (A : List (List Int)) : List Int := A.map fun a => (a.length : Int)
theorem sizes_len (A : List (List Int)) : (sizes A).length = A.length := by simp [sizes]
theorem sizes_at {A : List (List Int)} {k : Nat} {a : List Int} (h : A[k]? = some a) : (sizes A)[k]? = some (a.length : Int) := by simp [sizes, h]

abbrev rfO (x : Int) (vz vp : Value) : Obj := .cells #[.int .i64 x, vz, vp] 30
/-- The document's heap, that has the arrays A. -/
structure RpI (F : List Nat) (g : Nat) (x : Int) (N : Nat) (A : List (List Int)) (W : World) : Prop where
  pos : ∀ a ∈ A, 1 ≤ a.length
  tot : A.flatten.length ≤ 1048576
  gF : g ∈ F
  lt : ∀ k ∈ F, k < W.heap.size
  row : ∃ vz vp P, W.heap[g]? = some (rfO x vz vp) ∧ W.ownsRow 0 2 1 vz A.length (i64V (sizes A)) ∧ W.ownsRow 0 57 3 vp P.length (ptV P) ∧ (∀ k, vz.ownBlock = some k → k ∈ F) ∧ (∀ k, vp.ownBlock = some k → k ∈ F) ∧ P.length ≤ N ∧ (∀ d i : Int, (A.length : Int) ≤ d → fnd P d i P.length = 0) ∧
    ∀ d i : Int, 0 ≤ i → i < ((arr A d).length : Int) → fnd P d i P.length = (arr A d).getD i.toNat 0
theorem RpI.keep {F G : List Nat} {g N : Nat} {x : Int} {A : List (List Int)} {W W' : World} (h : RpI F g x N A W) (hk : Kf G W W') (hd : ∀ k ∈ F, k ∉ G) : RpI F g x N A W' := by
  obtain ⟨vz, vp, P, h1, h2, h3, h4, h5, h6⟩ := h.row
  exact ⟨h.pos, h.tot, h.gF, fun k hk' => Nat.lt_of_lt_of_le (h.lt k hk') hk.size, vz, vp, P, (hk.block g (h.lt g h.gF) (hd g h.gF)).trans h1, own_kf h2 h4 hk hd, own_kf h3 h5 hk hd, h4, h5, h6⟩
theorem RpI.below {F : List Nat} {g N : Nat} {x : Int} {A : List (List Int)} {W W' : World} (h : RpI F g x N A W) (hk : Below W.heap.size W W') : RpI F g x N A W' := h.keep (Kf.of_below hk []) (fun _ _ => by simp)
theorem RpI.drewN {F : List Nat} {g N : Nat} {x : Int} {A : List (List Int)} {W : World} (h : RpI F g x N A W) (m : Nat) : RpI F g x N A (W.drewN m) := h.keep (Kf.drewN [] W m) (fun _ _ => by simp)

set_option maxRecDepth 100000 in
set_option maxHeartbeats 1000000 in
theorem rused_w {F : List Nat} {g N : Nat} {x : Int} {A : List (List Int)} {W : World} (h : RpI F g x N A W) : Calls Try.prog 18 #[.pointer (some ⟨g, 0, none⟩)] W fun e W' => e = .returned (.int .i64 (A.flatten.length : Int)) ∧ W' = W := by
  obtain ⟨vz, vp, P, h1, h2, -⟩ := h.row
  have HT := Lib.hid h.tot
  have HO := Lib.hid h2
  have HP := Lib.hid (len_tot A h.pos)
  obtain ⟨Xz, cz, rfl⟩ := own_form h2
  have c1 : W.cell? ⟨g, 1, none⟩ = some (.slice Xz A.length cz) := (blk_cell h1 1).trans rfl
  clear h1 h2 h
  obtain ⟨T, hT⟩ : ∃ T, A.flatten.length = T := ⟨_, rfl⟩
  obtain ⟨m, hm⟩ : ∃ m, A.length = m := ⟨_, rfl⟩
  have HTT := Lib.hid hT
  have HMM := Lib.hid hm
  rw [hT] at HT HP ⊢
  rw [hm] at HO c1 HP
  clear hT hm
  go_enter Try.func18, Try.ntmps18
  go_wp2
  go_loopw [3, 4] (fun n i wr => ∃ k : Nat, i = .int .i64 k ∧ k ≤ m ∧ n = .int .i64 (off A k : Nat) ∧ wr = W) (fun _ i _ => m - (RowKit.intOf i).toNat)
  case atStart => exact ⟨0, rfl, Nat.zero_le _, by rw [off_zero]; rfl, rfl⟩
  case round =>
    obtain ⟨k, rfl, hk, rfl, rfl⟩ := hrel
    by_cases hkm : k < m
    · obtain ⟨a, ha⟩ : ∃ a, A[k]? = some a := ⟨A[k]'(by rw [HMM.out]; exact hkm), List.getElem?_eq_getElem _⟩
      have hs := sizes_at ha
      have ho := off_succ A k a ha
      have hle := off_le A (k + 1)
      rw [HTT.out] at hle
      obtain ⟨b, c, e, -, hc1, -, hcell⟩ := own_cells HO.out (by omega)
      injection e with e1 e2 e3
      subst e1 e3
      have c2 := hcell k _ (i64V_at hs)
      have hT1 := HT.out
      have hmt : m ≤ 1048576 := by have := HP.out; omega
      clear ha hs hcell e2
      obtain ⟨n, hn⟩ : ∃ n, a.length = n := ⟨_, rfl⟩
      obtain ⟨o1, ho1⟩ : ∃ o1, off A k = o1 := ⟨_, rfl⟩
      rw [hn] at c2 ho
      rw [ho1] at ho ⊢
      rw [ho] at hle
      have HA := Lib.hid ho
      clear ho hn ho1
      have i0 : decide ((k : Int) < (m : Int)) = true := decide_eq_true (by omega)
      have w1 : IntKind.i64.wrap ((o1 : Int) + (n : Int)) = (o1 : Int) + (n : Int) := IntWalk.i64_in _ (by omega)
      go_wp2
      go_roundw
      case rel => exact ⟨k + 1, by go_num, hkm, by rw [HA.out]; go_num, trivial⟩
      case measure => simp [RowKit.intOf]; omega
    · obtain rfl : k = m := by omega
      have ho : off A k = T := by rw [← HTT.out]; unfold off; rw [← HMM.out, List.take_length]
      rw [ho]
      have i0 : decide ((k : Int) < (k : Int)) = false := by simp
      clear hkm ho
      go_wp2
      go_ret
      exact ⟨rfl, rfl⟩
end Go.Proofs.Ytimpobfilihhmaa
