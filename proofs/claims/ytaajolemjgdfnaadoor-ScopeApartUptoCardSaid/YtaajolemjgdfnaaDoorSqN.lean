/-
  Names by numbers; digits; what ScopeFull's loops keep.
-/
import Derived.Test.YtaajolemjgdfnaaDoorSqP
namespace Go.Proofs.YtaajolemjgdfnaaDoor
open Go Go.RowKit Go.Lib

theorem and_16 (n : Int) : ∃ N : Nat, bits BinOp.and IntKind.i64 n 65535 = (N : Int) ∧ N ≤ 65535 := by
  refine ⟨(BitVec.ofInt 64 n &&& BitVec.ofInt 64 65535).toNat, ?_, ?_⟩
  · show IntKind.i64.wrap ((BitVec.ofInt 64 n &&& BitVec.ofInt 64 65535).toNat : Int) = _
    have : (BitVec.ofInt 64 n &&& BitVec.ofInt 64 65535).toNat ≤ 65535 := by
      rw [BitVec.toNat_and]; exact Nat.and_le_right
    exact IntWalk.i64_in _ (by omega)
  · rw [BitVec.toNat_and]; exact Nat.and_le_right
/-- The name of a letter and two digits. -/
def nmC (c : UInt8) (k : Nat) : ByteArray := ⟨#[c]⟩ ++ ⟨#[UInt8.ofNat (48 + k / 10), UInt8.ofNat (48 + k % 10)]⟩
def nmL (c : UInt8) (k : Nat) : List ByteArray := (List.range k).map (nmC c)
def stL (c : UInt8) (op n : Int) (k : Nat) : List (Int × ByteArray × Int) := (nmL c k).map fun s => (op, s, n)
theorem nmL_len (c : UInt8) (k : Nat) : (nmL c k).length = k := by simp [nmL]
theorem stL_len (c : UInt8) (op n : Int) (k : Nat) : (stL c op n k).length = k := by simp [stL, nmL_len]
theorem stn_step (L : List (Int × ByteArray × Int)) (c : UInt8) (op n : Int) (k : Nat) : cellsOf (L ++ stL c op n (k + 1)) = cellsOf (L ++ stL c op n k) ++ [.int .i64 op, .string (nmC c k), .int .i64 n, .slice none 0 0, .slice none 0 0, .slice none 0 0] := by
  rw [show stL c op n (k + 1) = stL c op n k ++ [(op, nmC c k, n)] by simp [stL, nmL, List.range_succ], ← List.append_assoc, cellsOf_app]
  rfl
theorem inj_v : ∀ i j : Fin 100, nmC 118 i.val = nmC 118 j.val → i = j := by decide +kernel
theorem inj_x : ∀ i j : Fin 100, nmC 97 i.val = nmC 97 j.val → i = j := by decide +kernel
theorem fit_v : ∀ i : Fin 100, fitP ⟨true, 4, nmC 118 i.val, 0, .nil, .nil, .nil⟩ = true := by decide +kernel
theorem fit_x : ∀ i : Fin 100, fitP ⟨true, 3, nmC 97 i.val, 1, .nil, .nil, .nil⟩ = true := by decide +kernel
theorem nodup_nm {c : UInt8} (h : ∀ i j : Fin 100, nmC c i.val = nmC c j.val → i = j) {k : Nat} (hk : k ≤ 100) : (nmL c k).Nodup := by
  unfold nmL List.Nodup
  rw [List.pairwise_map]
  refine List.Pairwise.imp_of_mem ?_ (List.nodup_range (n := k))
  intro a b ha hb hab e
  rw [List.mem_range] at ha hb
  have := h ⟨a, by omega⟩ ⟨b, by omega⟩ e
  exact hab (by simpa using congrArg Fin.val this)
theorem names_ok {a b : Nat} (ha : a ≤ 100) (hb : b ≤ 100) : Names (nmL 118 a) (nmL 97 b) := by
  refine ⟨nodup_nm inj_v ha, nodup_nm inj_x hb, ?_, ?_, ?_⟩
  · intro s hx hv
    obtain ⟨i, _, rfl⟩ := List.mem_map.1 hx
    obtain ⟨j, _, e⟩ := List.mem_map.1 hv
    have := congrArg (fun s : ByteArray => s.data.toList.head?) e
    simp [nmC, ByteArray.data_append] at this
  · intro s hs
    obtain ⟨i, hi, rfl⟩ := List.mem_map.1 hs
    exact fit_v ⟨i, by rw [List.mem_range] at hi; omega⟩
  · intro s hs
    obtain ⟨i, hi, rfl⟩ := List.mem_map.1 hs
    exact fit_x ⟨i, by rw [List.mem_range] at hi; omega⟩
theorem nmC_size (c : UInt8) (k : Nat) : (nmC c k).size = 3 := by unfold nmC; rw [ByteArray.size_append]; rfl
theorem nar_st {op n : Int} (hop : I64 op) (hn : I64 n) (c : UInt8) (k : Nat) : nar3 (stL c op n k) := by
  intro x h
  obtain ⟨s, hs, rfl⟩ := List.mem_map.1 h
  obtain ⟨i, _, rfl⟩ := List.mem_map.1 hs
  exact ⟨hop, hn, by show (nmC c i).size ≤ _; rw [nmC_size]; decide⟩
theorem nar_vx (a b : Nat) : nar3 (stL 118 4 0 a ++ stL 97 3 1 b) := by
  intro x hx
  rcases List.mem_append.1 hx with h | h
  · exact nar_st ⟨by decide, by decide⟩ ⟨by decide, by decide⟩ 118 a x h
  · exact nar_st ⟨by decide, by decide⟩ ⟨by decide, by decide⟩ 97 b x h

theorem u8c {k : Nat} (h : k < 10) : ((48 : Int) + k) = ((UInt8.ofNat (48 + k)).toNat : Int) := by rw [UInt8.toNat_ofNat']; omega
theorem conv_2 (w : World) (c d : UInt8) : (convert 47 9 (.slice (some ⟨w.heap.size, 0, none⟩) 2 2)).run Tryd.prog (w.alloc (.cells #[.int .u8 (c.toNat : Int), .int .u8 (d.toNat : Int)] 5)) = .ok (.string ⟨#[c, d]⟩) (w.alloc (.cells #[.int .u8 (c.toNat : Int), .int .u8 (d.toNat : Int)] 5)) :=
  run_convert_bytes_back (P := Tryd.prog) _ _ _ _ ⟨w.heap.size, 0, none⟩ 2 [c, d] Tryd.underlying47 Tryd.underlying5 Tryd.underlying9 (fun j hj => by
    have hj' : j = 0 ∨ j = 1 := by simp at hj; omega
    rcases hj' with rfl | rfl
    · exact (World.cell?_alloc_mark w _ _ _ 0)
    · exact (World.cell?_alloc_mark w _ _ _ 1))
theorem u8w {k : Nat} (h : k < 10) : IntKind.u8.wrap (k : Int) = k := by rw [IntKind.wrap_u8]; omega
theorem u8w48 {k : Nat} (h : k < 10) : IntKind.u8.wrap (48 + (k : Int)) = 48 + k := by rw [IntKind.wrap_u8]; omega
theorem w64_small {a : Nat} (h : a < 1000) : wrap64 (a : Int) = a := by unfold wrap64; omega
theorem u8_mod (c : UInt8) : (c.toNat : Int) % 256 = c.toNat := by have := c.toNat_lt; omega

def FuRel (B0 N : Nat) (w : World) (L : List (Int × ByteArray × Int)) (c : UInt8) (op n : Int) (l i : Value) (wr : World) : Prop :=
  ∃ k : Nat, i = .int .i64 k ∧ k ≤ N ∧ wr.ownsRow B0 45 6 l (L.length + k) (cellsOf (L ++ stL c op n k)) ∧ Below w.heap.size w wr ∧ B0 ≤ wr.heap.size
theorem pg_main {B : Nat} {W : World} {A : Option Addr} {k c : Nat} {m : SS} (h : SV B W (.slice A k c) m) : PgV B W (.agg #[.slice none 0 0, .slice A k c]) ⟨[], m⟩ := by
  obtain ⟨_, _, e, h1⟩ := id h
  injection e with e1 e2 e3
  subst e1 e2 e3
  exact ⟨none, 0, A, c, rfl, fv_nought _ _, h⟩

end Go.Proofs.YtaajolemjgdfnaaDoor
