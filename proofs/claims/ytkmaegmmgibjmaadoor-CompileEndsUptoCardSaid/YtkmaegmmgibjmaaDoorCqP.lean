/-
  CompileDeep, plainly: so many times Neg of a number.
-/
import Derived.Test.YtkmaegmmgibjmaaDoorCpO
namespace Go.Proofs.YtkmaegmmgibjmaaDoor
open Go Go.RowKit Go.Lib

theorem and_16 (n : Int) : ∃ N : Nat, bits BinOp.and IntKind.i64 n 65535 = (N : Int) ∧ N ≤ 65535 := by
  refine ⟨(BitVec.ofInt 64 n &&& BitVec.ofInt 64 65535).toNat, ?_, ?_⟩
  · show IntKind.i64.wrap ((BitVec.ofInt 64 n &&& BitVec.ofInt 64 65535).toNat : Int) = _
    have : (BitVec.ofInt 64 n &&& BitVec.ofInt 64 65535).toNat ≤ 65535 := by
      rw [BitVec.toNat_and]; exact Nat.and_le_right
    exact IntWalk.i64_in _ (by omega)
  · rw [BitVec.toNat_and]; exact Nat.and_le_right
theorem and_62 (n : Int) : ∃ N : Nat, bits BinOp.and IntKind.i64 n 4611686018427387903 = (N : Int) ∧ N ≤ 4611686018427387903 := by
  refine ⟨(BitVec.ofInt 64 n &&& BitVec.ofInt 64 4611686018427387903).toNat, ?_, ?_⟩
  · show IntKind.i64.wrap ((BitVec.ofInt 64 n &&& BitVec.ofInt 64 4611686018427387903).toNat : Int) = _
    have : (BitVec.ofInt 64 n &&& BitVec.ofInt 64 4611686018427387903).toNat ≤ 4611686018427387903 := by
      rw [BitVec.toNat_and]; exact Nat.and_le_right
    exact IntWalk.i64_in _ (by omega)
  · rw [BitVec.toNat_and]; exact Nat.and_le_right

/-- So many times Neg of m. -/
def ngE (m : Nat) : Nat → ES
  | 0 => .cons 1 m noz .nil .nil
  | k + 1 => .cons 6 0 noz (ngE m k) .nil
def pD (m k : Nat) : Pg := ⟨[], .cons 6 noz 0 (ngE m k) .nil .nil .nil⟩
theorem ngE_len (m : Nat) : ∀ k, (ngE m k).len = 1
  | 0 => rfl
  | _ + 1 => rfl
theorem ngE_cnt (m : Nat) : ∀ k, (ngE m k).cnt = k + 1
  | 0 => rfl
  | k + 1 => by simp [ngE, ES.cnt, ngE_cnt m k]; omega
theorem ngE_us (m : Nat) : ∀ k, (ngE m k).us = []
  | 0 => rfl
  | k + 1 => by simp [ngE, ES.us, ngE_us m k, exU]
theorem ngE_ok (m : Nat) (hm : m ≤ 4611686018427387903) : ∀ k, (ngE m k).ok = true
  | 0 => by
    have h1 : ((m : Int) ≤ 9223372036854775807) := by omega
    have h2 : ((0 : Int) ≤ (m : Int)) := by omega
    simp [ngE, ES.ok, fitP, fitQ, shOf, exprT, namedB, sh0, ES.len, SS.len, noz, h1, h2]
  | k + 1 => by
    have h := ngE_ok m hm k
    simp [ngE, ES.ok, fitP, fitQ, shOf, exprT, namedB, sh0, ngE_len, SS.len, noz, h]
theorem ngE_deep (m : Nat) : ∀ k, k ≤ 70 → (ngE m k).deep = k + 1
  | 0, _ => by
    simp only [ngE, ES.deep]
    rw [wrap_def]
    omega
  | k + 1, hk => by
    have h := ngE_deep m k (by omega)
    simp only [ngE, ES.deep, h]
    rw [wrap_def]
    omega
theorem ngE_code (s : Sp) (pl : ByteArray → Int) (m : Nat) : ∀ k, cE s pl (ngE m k) = (1, 0, (m : Int)) :: List.replicate k (4, 0, 0)
  | 0 => rfl
  | k + 1 => by
    rw [ngE, cE, ngE_code s pl m k, List.replicate_succ']
    simp [cE, mkI, sameT]
theorem pD_us (m k : Nat) : (pD m k).m.us = [] := by simp [pD, SS.us, stU, ngE_us]
theorem pD_right (m k : Nat) (hm : m ≤ 4611686018427387903) (hk : k ≤ 60) : rightN (pD m k) = 0 := by
  have h1 : (funcsB (pD m k).fs && okL (pD m k).pts) = true := by
    rw [Pg.pts, okL_append, SS.okL]
    have h := ngE_ok m hm k
    simp [pD, funcsB, fsOk, fsPts, okL, SS.ok, fitP, fitQ, shOf, stmtT, namedB, sh0, ngE_len, SS.len, noz, h]
  have h2 : ¬ 64 < deepL (pD m k).pts := by
    rw [Pg.pts, deepL_append, SS.deepL]
    have h := ngE_deep m k (by omega)
    simp only [pD, fsPts, deepL, SS.deep, h]
    rw [wrap_def]
    omega
  unfold rightN
  rw [if_pos h1, if_neg h2]
theorem pD_gFn (m k : Nat) : gFn (arF (pD m k).fs) (mainF (pD m k)) = ⟨[], [], [], true⟩ := by
  rw [gFn_def]
  show Gt.run _ _ (pD m k).m.us = _
  rw [pD_us]
  rfl
theorem pD_sp (m k : Nat) : spFn (arF (pD m k).fs) (mainF (pD m k)) = ⟨noz, 0, [], []⟩ := by
  unfold spFn
  rw [pD_gFn]
  rfl
theorem pD_err (m k : Nat) (hm : m ≤ 4611686018427387903) (hk : k ≤ 60) : resErr (pD m k) = 0 := by
  have h1 : (distinctN (pD m k).fs && (mainF (pD m k) :: (pD m k).fs).all (okFn (arF (pD m k).fs))) = true := by
    have h2 : okFn (arF (pD m k).fs) (mainF (pD m k)) = true := by unfold okFn; rw [pD_gFn]; rfl
    rw [List.all_cons, h2]
    rfl
  rw [err_ok (pD_right m k hm hk) h1]
  have h3 : (scopes (pD m k)).any Sp.full = false := by
    unfold scopes
    rw [List.map_cons, pD_sp]
    rfl
  rw [h3]
  rfl
def lD (m k : Nat) : List In3 := (1, 0, (m : Int)) :: (List.replicate k (4, 0, 0) ++ [(20, 0, 0), (1, 0, 0), (18, 0, 0)])
theorem pD_cmp (m k : Nat) (hm : m ≤ 4611686018427387903) (hk : k ≤ 60) : cmpP (pD m k) = [⟨noz, 0, 0, 0, lD m k⟩] := by
  unfold cmpP
  rw [if_pos (pD_err m k hm hk)]
  unfold cFns
  rw [List.map_cons]
  unfold fcP fcOf
  rw [pD_sp]
  show [Fc.mk noz 0 0 0 (fnL _ _ (pD m k).m)] = _
  unfold fnL lD pD
  simp only [cS, stI, ngE_code]
  simp [doI]
theorem pD_cnt (m k : Nat) (hk : k ≤ 60) : cntL (pD m k).pts ≤ 10000000 := by
  rw [Pg.pts, cntL_append, SS.cntL]
  simp only [pD, fsPts, Go.Proofs.YtkmaegmmgibjmaaDoor.cntL, SS.cnt, ngE_cnt]
  omega
end Go.Proofs.YtkmaegmmgibjmaaDoor
