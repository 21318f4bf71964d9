/-
  LexBytes: at every byte the statement's function tells true. The classes of bytes, and the walk.
-/
import Derived.Test.YtldakohmcmcfjaaLexA
namespace Go.Proofs.Ytldakohmcmcfjaa
open Go Go.RowKit Go.Lib

/-- What is known of a byte of a class: letter, digit, blank, mark, '_'; and the tokens of it alone, behind a letter, and behind a digit. -/
structure Cls (c : UInt8) (L D B M U : Bool) (r1 r2 r3 : Res) : Prop where
  hL : letB (bv c) = L
  hD : digB (bv c) = D
  hB : (blkB (bv c) || bv c == 35) = B
  hM : hasB marksL (bv c) = M
  hU : (bv c == 95) = U
  h1 : lexF 1 0 [c] = r1
  h2 : lexF 2 0 [97, c] = r2
  h3 : lexF 2 0 [55, c] = r3
instance (c : UInt8) (L D B M U : Bool) (r1 r2 r3 : Res) : Decidable (Cls c L D B M U r1 r2 r3) :=
  decidable_of_iff (letB (bv c) = L ∧ digB (bv c) = D ∧ (blkB (bv c) || bv c == 35) = B ∧ hasB marksL (bv c) = M ∧ (bv c == 95) = U ∧ lexF 1 0 [c] = r1 ∧ lexF 2 0 [97, c] = r2 ∧ lexF 2 0 [55, c] = r3)
    ⟨fun ⟨a, b, d, e, f, g, h, i⟩ => ⟨a, b, d, e, f, g, h, i⟩, fun ⟨a, b, d, e, f, g, h, i⟩ => ⟨a, b, d, e, f, g, h, i⟩⟩
def AllCls (c : UInt8) : Prop :=
  Cls c true false false false false (.ok [⟨1, [c], 0⟩]) (.ok [⟨1, [97, c], 0⟩]) (.bad 1) ∨
  Cls c false true false false false (.ok [⟨2, [c], 0⟩]) (.ok [⟨1, [97, c], 0⟩]) (.ok [⟨2, [55, c], 0⟩]) ∨
  Cls c false false true false false (.ok []) (.ok [⟨1, [97], 0⟩]) (.ok [⟨2, [55], 0⟩]) ∨
  Cls c false false false true false (.ok [⟨3, [c], 0⟩]) (.ok [⟨1, [97], 0⟩, ⟨3, [c], 1⟩]) (.ok [⟨2, [55], 0⟩, ⟨3, [c], 1⟩]) ∨
  Cls c false false false false true (.bad 0) (.ok [⟨1, [97, c], 0⟩]) (.bad 1) ∨
  Cls c false false false false false (.bad 0) (.bad 1) (.bad 1)
instance (c : UInt8) : Decidable (AllCls c) := by unfold AllCls; infer_instance
theorem cls_fin : ∀ n : Fin 256, AllCls (UInt8.ofNat n.val) := by decide +kernel
theorem cls_all (c : UInt8) : AllCls c := by
  have h := cls_fin ⟨c.toNat, c.toNat_lt⟩
  have e : UInt8.ofNat c.toNat = c := by simp
  rw [show (⟨c.toNat, c.toNat_lt⟩ : Fin 256).val = c.toNat from rfl, e] at h
  exact h
theorem Cls.l1 {c : UInt8} {L D B M U : Bool} {r1 r2 r3 : Res} (h : Cls c L D B M U r1 r2 r3) : lexS 0 [c] = r1 := by rw [lexS_eq 1 0 [c] (by simp)]; exact h.h1
theorem Cls.l2 {c : UInt8} {L D B M U : Bool} {r1 r2 r3 : Res} (h : Cls c L D B M U r1 r2 r3) : lexS 0 [97, c] = r2 := by rw [lexS_eq 2 0 [97, c] (by simp)]; exact h.h2
theorem Cls.l3 {c : UInt8} {L D B M U : Bool} {r1 r2 r3 : Res} (h : Cls c L D B M U r1 r2 r3) : lexS 0 [55, c] = r3 := by rw [lexS_eq 2 0 [55, c] (by simp)]; exact h.h3

end Go.Proofs.Ytldakohmcmcfjaa
