/-
  ParseBinds: what the walk needs.
-/
import Derived.Test.YtmpdnikabkandaaPq5
import Derived.Test.YtmpdnikabkandaaPgNm
import Derived.Test.YtmpdnikabkandaaTreeUm
namespace Go.Proofs.Ytmpdnikabkandaa
open Go Go.RowKit Go.Lib

theorem low6 (a : Int) : 0 ≤ bits BinOp.and IntKind.i64 a 63 ∧ bits BinOp.and IntKind.i64 a 63 ≤ 63 := by
  have e : bits BinOp.and IntKind.i64 a 63 = wrap64 ((pat a &&& pat 63 : Nat) : Int) := by
    show IntKind.i64.wrap ((BitVec.ofInt 64 a &&& BitVec.ofInt 64 63).toNat : Int) = _
    rw [BitVec.toNat_and, pat_toNat, pat_toNat, IntWalk.i64_left]
  have h : pat a &&& pat 63 ≤ 63 := Nat.and_le_right
  rw [e]
  unfold wrap64
  omega
theorem row_bb (w : World) (s : ByteArray) (c : Nat) {fz : Nat × Nat} : Row (w.alloc (.cells (bytesRow s c) 5 fz)) (some ⟨w.heap.size, 0, none⟩) s.data.toList := row_bs w s c
theorem Row.al2 {W : World} {A : Option Addr} {l : List UInt8} (h : Row W A l) (a : Obj) : Row (W.alloc a) A l := by
  intro h0
  obtain ⟨g, o, e, hl, hc⟩ := h h0
  exact ⟨g, o, e, by simp; omega, fun i hi => (World.cell?_alloc_lt _ _ _ hl).trans (hc i hi)⟩
abbrev OM : Obj := (.cells #[.string ⟨#[43]⟩, .string ⟨#[45]⟩, .string ⟨#[42]⟩, .string ⟨#[47]⟩, .string ⟨#[37]⟩, .string ⟨#[60]⟩, .string ⟨#[61, 61]⟩, .string ⟨#[38]⟩, .string ⟨#[124]⟩] 9)
theorem mk_cell (w : World) {a : Nat} (h : a < 9) : (w.alloc OM).cell? ⟨w.heap.size, a, none⟩ = some (.string (baT (mkB a))) := by
  rw [World.cell?_alloc_mark]
  have h5 : a = 0 ∨ a = 1 ∨ a = 2 ∨ a = 3 ∨ a = 4 ∨ a = 5 ∨ a = 6 ∨ a = 7 ∨ a = 8 := by omega
  rcases h5 with rfl | rfl | rfl | rfl | rfl | rfl | rfl | rfl | rfl <;> rfl
abbrev OL : Obj := (.cells #[.int .i64 4, .int .i64 4, .int .i64 5, .int .i64 5, .int .i64 5, .int .i64 3, .int .i64 3, .int .i64 2, .int .i64 1] 3)
theorem lv_cell (w : World) {a : Nat} (h : a < 9) : (w.alloc OL).cell? ⟨w.heap.size, a, none⟩ = some (.int .i64 (lv a)) := by
  rw [World.cell?_alloc_mark]
  have h5 : a = 0 ∨ a = 1 ∨ a = 2 ∨ a = 3 ∨ a = 4 ∨ a = 5 ∨ a = 6 ∨ a = 7 ∨ a = 8 := by omega
  rcases h5 with rfl | rfl | rfl | rfl | rfl | rfl | rfl | rfl | rfl <;> rfl
theorem bindsf_any (a : Nat) (ha : a < 9) (w : World) : Calls Try.prog 17 #[.int .i64 a] w fun e w' => e = .returned (.int .i64 (lv a)) ∧ Below w.heap.size w w' := by
  have hc := lv_cell w ha
  have h9 : (a : Int) < 9 := by omega
  clear ha
  go_enter Try.func17, Try.ntmps17
  go_wp2
  go_ret
  exact ⟨rfl, (Below.refl _ _).alloc (Nat.le_refl _) _⟩
theorem mk_size : ∀ a : Fin 9, (mkB a.val).length ≤ 2 := by decide
theorem dg_two {m : Nat} : (dg m).length ≤ 2 := by unfold dg; split <;> simp
theorem two_cells {W : World} {nb : Nat} {x y a b : Value} {t : TypeId} (h : W.heap[nb]? = some (.cells #[a, b] t)) : ((W.setCell ⟨nb, 0, none⟩ x).setCell ⟨nb, 1, none⟩ y).heap[nb]? = some (.cells #[x, y] t) := by
  simp [World.setCell, Array.getElem?_modify, h]
theorem kp_two {W : World} {nb lo : Nat} {x y : Value} (h : nb < lo) : Kp lo W ((W.setCell ⟨nb, 0, none⟩ x).setCell ⟨nb, 1, none⟩ y) := ⟨by simp, fun k hk _ => (Below.heap_setCell _ ⟨nb, 1, none⟩ _ _ (by simp only; omega)).trans (Below.heap_setCell _ ⟨nb, 0, none⟩ _ _ (by simp only; omega))⟩
/-- What a region has made. -/
def Made (u wx : World) (q : Pg) (p n e : Value) : Prop := ∃ nb F f G g, p = .pointer (some ⟨nb, 0, none⟩) ∧ n = .int .i64 0 ∧ e = .int .i64 0 ∧ wx.heap[nb]? = some (.cells #[.slice F 0 f, .slice G 1 g] 35) ∧ PgV wx.heap.size wx (.agg #[.slice F 0 f, .slice G 1 g]) q ∧ Below u.heap.size u wx
theorem p_gv {l : List UInt8} {e : Ex} {r : List Tok} (ht : tl l = .ok (pE e) r) (A : Option Addr) (n cap : Nat) (W : World) (hn : l.length = n) (hl : n ≤ 65536) (hcap : n ≤ cap) (hr : Row W A l) :
    Calls Try.prog 13 #[.slice A n cap] W fun e' W' => (∃ F f G g, e' = .returned (.tuple #[.agg #[.slice F 0 f, .slice G 1 g], .int .i64 0, .int .i64 0]) ∧ GV W.heap.size W' (.agg #[.slice F 0 f, .slice G 1 g]) (pE e)) ∧ Below W.heap.size W W' := by
  refine (p_ok ht A n cap W hn hl hcap hr).mono fun e' W' h3 => ?_
  obtain ⟨⟨v, h1, hv⟩, h2⟩ := h3
  obtain ⟨F, f, G, g, rfl, _, _⟩ := hv.pgv
  exact ⟨⟨F, f, G, g, h1, hv⟩, h2⟩

end Go.Proofs.Ytmpdnikabkandaa
