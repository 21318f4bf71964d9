/-
  TreeTells: the statement's function, walked.
-/
import Derived.Test.YtaedlhjjfmmpdaaDoorTreeS
import Derived.Test.YtaedlhjjfmmpdaaDoorTreeRr
import Derived.Test.YtaedlhjjfmmpdaaDoorTreeRx
import Derived.Deep.RegionHeld3
import Derived.Deep.DeepCutAuto
namespace Go.Proofs.YtaedlhjjfmmpdaaDoor
open Go Go.RowKit Go.Lib

/-- What stays through the great test: the two boxes, and all that was there. -/
def TS (W0 : World) (g : Nat) (a b c d : Value) (w : World) : Prop :=
  w.cell? ⟨g, 0, none⟩ = some a ∧ w.cell? ⟨g, 1, none⟩ = some b ∧ w.cell? ⟨g + 1, 0, none⟩ = some c ∧ w.cell? ⟨g + 1, 1, none⟩ = some d ∧ Below W0.heap.size W0 w
theorem TS.step {W0 : World} {g : Nat} {a b c d : Value} {w w' : World} (h : TS W0 g a b c d W0) (hg : g + 1 < W0.heap.size) (hb : Below W0.heap.size W0 w) (hb' : Below w.heap.size w w') : TS W0 g a b c d w' := by
  have hq := hb.trans (hb'.mono hb.size)
  obtain ⟨h0, h1, h2, h3, _⟩ := h
  exact ⟨(hq.cell (p := ⟨g, 0, none⟩) (show g < W0.heap.size by omega)).trans h0, (hq.cell (p := ⟨g, 1, none⟩) (show g < W0.heap.size by omega)).trans h1, (hq.cell (p := ⟨g + 1, 0, none⟩) hg).trans h2, (hq.cell (p := ⟨g + 1, 1, none⟩) hg).trans h3, hq⟩

set_option maxRecDepth 100000 in
set_option maxHeartbeats 4000000 in
theorem tells_walk (v v' : Value) (p q : Pg) (s : ByteArray) (w : World) (hv : PgV w.heap.size w v p) (hv' : PgV w.heap.size w v' q) (hs : s.size ≤ 9223372036854775807) (ht : Tab w) :
    Calls Tryd.prog 3 #[v, v', .string s] w fun e w' => e = .returned (.bool true) ∧ Below w.heap.size w w' := by
  have h0 := Fr.refl w
  obtain ⟨A, cap, X, capx, rfl, _⟩ := id hv
  obtain ⟨A', cap', X', capx', rfl, _⟩ := id hv'
  have hW : ∀ C C', Fr w ((w.alloc C).alloc C') := fun C C' => (h0.alloc C).alloc C'
  have HW := Lib.hid hW; clear hW
  have HT := Lib.hid (fun W (hb : Fr w W) => ht.step hb)
  clear ht
  obtain ⟨t, hst⟩ : ∃ t, s.extract 0 (min (s.size : Int) 100).toNat = t := ⟨_, rfl⟩
  have htz : t.size ≤ 9223372036854775807 := by rw [← hst, ByteArray.size_extract]; omega
  go_enter Tryd.func3, Tryd.ntmps3
  go_upto_region 3 with (go_at_call 11; ((with_reducible refine (shown_fr _ _ (HT.out _ (HW.out _ _)) (Fr.refl _)).mono ?_); rintro e w1 ⟨rfl, h1⟩))
  obtain ⟨g, hg⟩ : ∃ g, w.heap.size = g := ⟨_, rfl⟩
  have hz1 : g + 1 < w1.heap.size := by have := h1.size; simp at this; omega
  have b0 : w1.cell? ⟨g, 0, none⟩ = some (.slice A p.fs.length cap) := by
    rw [← hg]
    exact (h1.cell (p := ⟨w.heap.size, 0, none⟩) (show w.heap.size < _ by simp; omega)).trans (by rw [World.cell?_of_block (a := ⟨w.heap.size, 0, none⟩) (Below.heap_alloc _ _ _ (by simp)), cell_new]; rfl)
  have b1 : w1.cell? ⟨g, 1, none⟩ = some (.slice X p.m.len capx) := by
    rw [← hg]
    exact (h1.cell (p := ⟨w.heap.size, 1, none⟩) (show w.heap.size < _ by simp; omega)).trans (by rw [World.cell?_of_block (a := ⟨w.heap.size, 1, none⟩) (Below.heap_alloc _ _ _ (by simp)), cell_new]; rfl)
  have hn := cell_new (w.alloc (.cells #[.slice A p.fs.length cap, .slice X p.m.len capx] 25)) #[.slice A' q.fs.length cap', .slice X' q.m.len capx'] 25
  rw [World.size_alloc] at hn
  have b2 : w1.cell? ⟨g + 1, 0, none⟩ = some (.slice A' q.fs.length cap') := by
    rw [← hg]
    exact (h1.cell (p := ⟨w.heap.size + 1, 0, none⟩) (show w.heap.size + 1 < _ by simp)).trans (hn 0)
  have b3 : w1.cell? ⟨g + 1, 1, none⟩ = some (.slice X' q.m.len capx') := by
    rw [← hg]
    exact (h1.cell (p := ⟨w.heap.size + 1, 1, none⟩) (show w.heap.size + 1 < _ by simp)).trans (hn 1)
  have hF : Fr w w1 := (HW.out _ _).trans (Below.mono h1 (by simp; omega))
  have hB : w.heap.size ≤ w1.heap.size := hF.size
  have hv1 := hv.below hF (Nat.le_refl _)
  have hv1' := hv'.below hF (Nat.le_refl _)
  have hTS : TS w1 g (.slice A p.fs.length cap) (.slice X p.m.len capx) (.slice A' q.fs.length cap') (.slice X' q.m.len capx') w1 := ⟨b0, b1, b2, b3, Below.refl _ _⟩
  clear hv hv' hn
  have K : ∀ {f : FuncId} {args : Array Value} {r : Value}, (∀ W, Below w1.heap.size w1 W → Calls Tryd.prog f args W fun e w' => e = .returned r ∧ Below W.heap.size W w') → ∀ W, Below w1.heap.size w1 W → Calls Tryd.prog f args W fun e w' => e = .returned r ∧ TS w1 g (.slice A p.fs.length cap) (.slice X p.m.len capx) (.slice A' q.fs.length cap') (.slice X' q.m.len capx') w' :=
    fun h W hb => (h W hb).mono fun e w' ⟨he, hb'⟩ => ⟨he, hTS.step hz1 hb hb'⟩
  have P1 := fun W (hb : Below w1.heap.size w1 W) => hv1.below (hb.mono hB) (Nat.le_refl _)
  have Q1 := fun W (hb : Below w1.heap.size w1 W) => hv1'.below (hb.mono hB) (Nat.le_refl _)
  have HR := K fun W hb => right_any _ p W _ (Nat.le_trans hB hb.size) (P1 W hb) (HT.out W (hF.trans (hb.mono hB)))
  have HRr := K fun W hb => rright_any _ p W _ (Nat.le_trans hB hb.size) (P1 W hb)
  have HD := K fun W hb => depth_any _ p W _ (Nat.le_trans hB hb.size) (P1 W hb)
  have HDr := K fun W hb => rdepth_any _ p W _ (Nat.le_trans hB hb.size) (P1 W hb)
  have HS := K fun W hb => size_any _ p W _ (Nat.le_trans hB hb.size) (P1 W hb)
  have HSr := K fun W hb => rsize_any _ p W _ (Nat.le_trans hB hb.size) (P1 W hb)
  have HE := K fun W hb => equal_any _ _ p q W _ (Nat.le_trans hB hb.size) (P1 W hb) (Q1 W hb)
  have HEr := K fun W hb => requal_any _ _ p q W _ (Nat.le_trans hB hb.size) (P1 W hb) (Q1 W hb)
  have HEE := K fun W hb => equal_any _ _ p p W _ (Nat.le_trans hB hb.size) (P1 W hb) (P1 W hb)
  rw [show eqG p p = true from (eqG_iff _ _).2 rfl] at HEE
  have HN := K fun W _ => (name_any t W htz).mono fun e w' ⟨he, hw⟩ => ⟨he, by rw [hw]; exact Below.refl _ _⟩
  have HNr := K fun W _ => rname_any t W htz
  have F0 : Below w1.heap.size w1 w1.drew := ⟨rfl, rfl, rfl, Nat.le_refl _, fun _ _ => rfl⟩
  clear K P1 Q1 hv1 hv1' HT HW hst htz h1
  obtain ⟨rn, hrn⟩ : ∃ rn, rightN p = rn := ⟨_, rfl⟩
  obtain ⟨dn, hdn⟩ : ∃ dn, deepL p.pts = dn := ⟨_, rfl⟩
  obtain ⟨sn, hsn⟩ : ∃ sn, wrap64 (cntL p.pts) = sn := ⟨_, rfl⟩
  obtain ⟨eb, heb⟩ : ∃ eb, eqG p q = eb := ⟨_, rfl⟩
  obtain ⟨nb, hnb⟩ : ∃ nb, nameB t = nb := ⟨_, rfl⟩
  rw [hrn] at HR HRr
  rw [hdn] at HD HDr
  rw [hsn] at HS HSr
  rw [heb] at HE HEr
  rw [hnb] at HN HNr
  clear hrn hdn hsn heb hnb hTS
  simp only [hg]
  unfold TS at *
  go_region_held3 (fun w' => w'.cell? ⟨g, 0, none⟩ = some (.slice A p.fs.length cap) ∧ w'.cell? ⟨g, 1, none⟩ = some (.slice X p.m.len capx) ∧ w'.cell? ⟨g + 1, 0, none⟩ = some (.slice A' q.fs.length cap') ∧ w'.cell? ⟨g + 1, 1, none⟩ = some (.slice X' q.m.len capx') ∧ Below w1.heap.size w1 w')
    (first | exact ⟨by simpa using b0, by simpa using b1, by simpa using b2, by simpa using b3, F0⟩ | exact ⟨y0, y1, y2, y3, y4⟩ | go_keep)
    (first
      | (go_at_call 12; refine (HR _ (by assumption)).mono ?_; rintro e w2 ⟨rfl, y0, y1, y2, y3, y4⟩)
      | (go_at_call 13; refine (HRr _ (by assumption)).mono ?_; rintro e w2 ⟨rfl, y0, y1, y2, y3, y4⟩)
      | (go_at_call 14; refine (HD _ (by assumption)).mono ?_; rintro e w2 ⟨rfl, y0, y1, y2, y3, y4⟩)
      | (go_at_call 15; refine (HDr _ (by assumption)).mono ?_; rintro e w2 ⟨rfl, y0, y1, y2, y3, y4⟩)
      | (go_at_call 16; refine (HS _ (by assumption)).mono ?_; rintro e w2 ⟨rfl, y0, y1, y2, y3, y4⟩)
      | (go_at_call 17; refine (HSr _ (by assumption)).mono ?_; rintro e w2 ⟨rfl, y0, y1, y2, y3, y4⟩)
      | (go_at_call 19; refine (HEr _ (by assumption)).mono ?_; rintro e w2 ⟨rfl, y0, y1, y2, y3, y4⟩)
      | (go_at_call 18; with_reducible refine (HE _ (by assumption)).mono ?_; rintro e w2 ⟨rfl, y0, y1, y2, y3, y4⟩)
      | (go_at_call 18; with_reducible refine (HEE _ (by assumption)).mono ?_; rintro e w2 ⟨rfl, y0, y1, y2, y3, y4⟩)
      | (go_at_call 20; refine (HN _ (by assumption)).mono ?_; rintro e w2 ⟨rfl, y0, y1, y2, y3, y4⟩)
      | (go_at_call 21; refine (HNr _ (by assumption)).mono ?_; rintro e w2 ⟨rfl, y0, y1, y2, y3, y4⟩))
  go_wp2
  go_ret
  refine ⟨rfl, Below.trans hF (Below.mono ?_ hB)⟩
  assumption

end Go.Proofs.YtaedlhjjfmmpdaaDoor
