/-
  CompileApart's walk.
-/
import Derived.Test.YtnilklgnpfgieaaDoorCfP
import Derived.Deep.RegionHeld3
import Derived.Test.YtnilklgnpfgieaaDoorCeA
import Derived.Deep.QuietTactic
import Derived.BigQuiet
namespace Go.Proofs.YtnilklgnpfgieaaDoor
open Go Go.RowKit Go.Lib

theorem FsIn.at_ {B : Nat} {W : World} : ∀ {l : List Fn} {b o k : Nat} {f : Fn}, FsIn B W l b o → l[k]? = some f → W.cell? ⟨b, o + k * 3, none⟩ = some (.string f.s) ∧ ∃ v, W.cell? ⟨b, o + k * 3 + 1, none⟩ = some v ∧ RowV (PsIn W f.ps) B f.ps.length v ∧ f.s.size ≤ 9223372036854775807
  | x :: r, b, o, 0, s, h, e => by
    simp at e
    subst e
    obtain ⟨h0, ⟨v, h1, h2⟩, _, h4, _⟩ := h
    simp only [Nat.zero_mul, Nat.add_zero]
    exact ⟨h0, v, h1, h2, h4⟩
  | x :: r, b, o, k + 1, s, h, e => by
    obtain ⟨_, _, _, _, hr⟩ := h
    have := FsIn.at_ hr (k := k) (by simpa using e)
    rw [show o + (k + 1) * 3 = o + 3 + k * 3 by omega]
    exact this
theorem bs_ne (T : ByteArray) : (T != T) = false := by unfold bne; rw [show (T == T) = true from beq_self_eq_true T.data]; rfl
abbrev lB : List In3 := [(1, 0, 0), (18, 0, 0)]
abbrev bT : ByteArray := ⟨#[48, 32, 112, 117, 115, 104, 32, 48, 10, 49, 32, 114, 101, 116, 117, 114, 110, 10]⟩
theorem text_at {w W : World} {L : List In3} {A : Option Addr} {cap : Nat} {T : ByteArray} (ht : TB w) (hb : Below w.heap.size w W) (hv : InV w.heap.size w (.slice A L.length cap) L) (h0 : 0 < L.length) (hl : L.length ≤ 10000000) (hT : (⟨(textT 0 L).toArray⟩ : ByteArray) = T) :
    Calls Tryd.prog 6 #[.slice A L.length cap] W fun e w' => e = .returned (.string T) ∧ Below w.heap.size w w' := by
  obtain ⟨A1, c1, e1, h1, h2, h3⟩ := id hv
  obtain ⟨b, q, _, _, hin⟩ := h3 h0
  have ht' := ht.step hb
  obtain ⟨lo, hct⟩ := ht'.ct
  refine (text_long L lo W A cap hct (hv.below hb hb.size) hin.ok hl).mono ?_
  rintro e w' ⟨rfl, h⟩
  exact ⟨by rw [hT], hb.trans (h.mono hb.size)⟩
/-- The rows of both codes at one function. -/
def ApRow (W : World) (g o g2 o2 i : Nat) (s : ByteArray) (np b q cv : Nat) : Prop :=
  W.cell? ⟨g, o + i * 5, none⟩ = some (.string s) ∧ W.cell? ⟨g, o + i * 5 + 1, none⟩ = some (.int .i64 np) ∧ W.cell? ⟨g2, o2 + i * 5, none⟩ = some (.string s) ∧ W.cell? ⟨g2, o2 + i * 5 + 1, none⟩ = some (.int .i64 np) ∧ W.cell? ⟨g2, o2 + i * 5 + 2, none⟩ = some (.int .i64 np) ∧
  W.cell? ⟨g2, o2 + i * 5 + 4, none⟩ = some (.slice (some ⟨b, q, none⟩) 2 cv)
theorem ApRow.step {W W' : World} {g o g2 o2 i : Nat} {s : ByteArray} {np b q cv : Nat} (h : ApRow W g o g2 o2 i s np b q cv) (hb : Below W.heap.size W W') (hg : g < W.heap.size) (hg2 : g2 < W.heap.size) : ApRow W' g o g2 o2 i s np b q cv := by
  obtain ⟨h0, h1, h2, h3, h4, h5⟩ := h
  exact ⟨(hb.cell (p := ⟨g, o + i * 5, none⟩) hg).trans h0, (hb.cell (p := ⟨g, o + i * 5 + 1, none⟩) hg).trans h1, (hb.cell (p := ⟨g2, o2 + i * 5, none⟩) hg2).trans h2, (hb.cell (p := ⟨g2, o2 + i * 5 + 1, none⟩) hg2).trans h3, (hb.cell (p := ⟨g2, o2 + i * 5 + 2, none⟩) hg2).trans h4, (hb.cell (p := ⟨g2, o2 + i * 5 + 4, none⟩) hg2).trans h5⟩
theorem ap_row {p : Pg} {W : World} {g o g2 o2 k : Nat} (he : resErr p = 0) (h1 : FcIn W.heap.size W (cFns p) g o) (h2 : FcIn W.heap.size W (cFns (barePg p)) g2 o2) (hk : k < p.fs.length) :
    ∃ s np b q cv, ApRow W g o g2 o2 (k + 1) s np b q cv ∧ InV W.heap.size W (.slice (some ⟨b, q, none⟩) 2 cv) lB := by
  obtain ⟨f, hf⟩ : ∃ f, p.fs[k]? = some f := ⟨_, List.getElem?_eq_getElem hk⟩
  have e1 : (cFns p)[k + 1]? = some (fcP p f) := by unfold cFns; rw [List.map_cons, List.getElem?_cons_succ, List.getElem?_map, hf]; rfl
  have e2 : (cFns (barePg p))[k + 1]? = some ⟨f.s, f.ps.length, f.ps.length, 0, lB⟩ := by rw [bare_cmp he, List.getElem?_cons_succ, List.getElem?_map, hf]; rfl
  obtain ⟨a0, a1, _⟩ := FcIn.at_ h1 e1
  obtain ⟨b0, b1, b2, _, v4, b4, hv4⟩ := FcIn.at_ h2 e2
  obtain ⟨A4, c4, rfl, k1, k2, k3⟩ := id hv4
  obtain ⟨b, q, rfl, hb, hin⟩ := k3 (by show (0 : Nat) < 2; decide)
  exact ⟨f.s, f.ps.length, b, q, c4, ⟨a0, a1, b0, b1, b2, b4⟩, hv4⟩
/-- What lies in q's box, and in its row, behind k rounds. -/
def ApRel (p : Pg) (w4 : World) (B nf nm cap' : Nat) (A' : Option Addr) (i : Value) (wr : World) : Prop :=
  ∃ (k : Nat) (X : Option Addr) (cX : Nat) (cs : List Value), i = .int .i64 k ∧ k ≤ nf ∧ wr.heap[B]? = some (pgO X k cX A' nm cap') ∧ wr.ownsRow (B + 1) 56 3 (.slice X k cX) k cs ∧ fsCells w4.heap.size w4 ((p.fs.take k).map bare) cs ∧ Below w4.heap.size w4 wr

end Go.Proofs.YtnilklgnpfgieaaDoor
