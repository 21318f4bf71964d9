/-
  The statements' own 'shown' of layer 3: it tells true, and nothing of what was there has turned.
-/
import Derived.Test.YtnjghoaelcpljaaDoorTreeG
import Derived.Test.YtnjghoaelcpljaaDoorTreeU
namespace Go.Proofs.YtnjghoaelcpljaaDoor
open Go Go.RowKit Go.Shelf

theorem one_any (n : Int) (w : World) :
    Calls Tryd.prog 22 #[.int .i64 n] w fun e w' => e = .returned (.agg #[.int .i64 1, .int .i64 n, .string ⟨#[]⟩, .slice none 0 0]) ∧ w.alloc (.cells #[.int .i64 1, .int .i64 n, .string ⟨#[]⟩, .slice none 0 0] 41) = w' := by
  go_enter Tryd.func22, Tryd.ntmps22
  go_wp2
  refine bodyPost_ret (v := .agg #[.int .i64 1, .int .i64 n, .string ⟨#[]⟩, .slice none 0 0]) (by simp [results, Tryd.results22, go_sem]) rfl ⟨rfl, rfl⟩

/-- A block holds these cells. -/
def Blk (W : World) (b : Nat) (cs : List Value) : Prop := b < W.heap.size ∧ ∀ i, i < cs.length → W.cell? ⟨b, i, none⟩ = cs[i]?
theorem Blk.new (w : World) (cs : Array Value) (t : TypeId) : Blk (w.alloc (.cells cs t)) w.heap.size cs.toList := ⟨by simp, fun i _ => by rw [cell_new]; simp⟩
theorem Blk.below {B : Nat} {W W' : World} {b : Nat} {cs : List Value} (h : Blk W b cs) (hb : Below B W W') (hB : b < B) : Blk W' b cs := ⟨Nat.lt_of_lt_of_le h.1 hb.size, fun i hi => (hb.cell (p := ⟨b, i, none⟩) hB).trans (h.2 i hi)⟩
theorem Blk.alloc {W : World} {b : Nat} {cs : List Value} (h : Blk W b cs) (o : Obj) : Blk (W.alloc o) b cs := h.below ((Below.refl _ _).alloc (Nat.le_refl _) o) h.1
theorem Blk.at {W : World} {b : Nat} {cs : List Value} (h : Blk W b cs) (i : Nat) (v : Value) (hi : cs[i]? = some v) : W.cell? ⟨b, i, none⟩ = some v := by
  have hl : i < cs.length := (List.getElem?_eq_some_iff.1 hi).1
  rw [h.2 i hl, hi]

/-- One expression in a block of its own; one statement. -/
theorem ev_one {W : World} {b : Nat} {op n : Int} {s : ByteArray} {v : Value} {l : ES} (h : Blk W b [.int .i64 op, .int .i64 n, .string s, v]) (hv : EV W.heap.size W v l) (hr : I64 op ∧ I64 n ∧ s.size ≤ 9223372036854775807) :
    EV W.heap.size W (.slice (some ⟨b, 0, none⟩) 1 1) (.cons op n s l .nil) :=
  ⟨_, _, rfl, Nat.le_refl _, by decide, fun _ => ⟨b, 0, rfl, h.1, h.at 0 _ rfl, h.at 1 _ rfl, h.at 2 _ rfl, ⟨v, h.at 3 _ rfl, hv⟩, hr, trivial⟩⟩
theorem sv_one {W : World} {b : Nat} {op n : Int} {s : ByteArray} {v x y : Value} {l : ES} {lx ly : SS} (h : Blk W b [.int .i64 op, .string s, .int .i64 n, v, x, y]) (hv : EV W.heap.size W v l) (hx : SV W.heap.size W x lx) (hy : SV W.heap.size W y ly) (hr : I64 op ∧ I64 n ∧ s.size ≤ 9223372036854775807) :
    SV W.heap.size W (.slice (some ⟨b, 0, none⟩) 1 1) (.cons op s n l lx ly .nil) :=
  ⟨_, _, rfl, Nat.le_refl _, by decide, fun _ => ⟨b, 0, rfl, h.1, h.at 0 _ rfl, h.at 1 _ rfl, h.at 2 _ rfl, ⟨v, h.at 3 _ rfl, hv⟩, ⟨x, h.at 4 _ rfl, hx⟩, ⟨y, h.at 5 _ rfl, hy⟩, hr, trivial⟩⟩

def num (n : Int) : ES := .cons 1 n ⟨#[]⟩ .nil .nil
def P1 : Pg := ⟨[⟨⟨#[102]⟩, [⟨#[97]⟩, ⟨#[66]⟩], .cons 9 ⟨#[]⟩ 0 (num 1) .nil .nil .nil⟩], .cons 8 ⟨#[]⟩ 0 (num 0) (.cons 1 ⟨#[120]⟩ 0 (.cons 6 0 ⟨#[]⟩ (num 2) .nil) .nil .nil .nil) .nil .nil⟩
def Q1 : Pg := ⟨[], .cons 1 ⟨#[105, 102]⟩ 0 (num 1) .nil .nil .nil⟩
def Z1 : Pg := ⟨[], .nil⟩
theorem i64_of {n : Int} (h : -1000 ≤ n ∧ n ≤ 1000) : I64 n := by unfold I64; omega

/-- Both programs, and their boxes. -/
structure PQ (W : World) (bp bq : Nat) (Af Am Aq : Option Addr) : Prop where
  c0 : W.cell? ⟨bp, 0, none⟩ = some (.slice Af 1 1)
  c1 : W.cell? ⟨bp, 1, none⟩ = some (.slice Am 1 1)
  d0 : W.cell? ⟨bq, 0, none⟩ = some (.slice none 0 0)
  d1 : W.cell? ⟨bq, 1, none⟩ = some (.slice Aq 1 1)
  hp : PgV W.heap.size W (.agg #[.slice Af 1 1, .slice Am 1 1]) P1
  hq : PgV W.heap.size W (.agg #[.slice none 0 0, .slice Aq 1 1]) Q1
  lp : bp < W.heap.size
  lq : bq < W.heap.size
theorem PQ.step {W W' : World} {bp bq : Nat} {Af Am Aq : Option Addr} (h : PQ W bp bq Af Am Aq) (hb : Below W.heap.size W W') : PQ W' bp bq Af Am Aq :=
  ⟨(hb.cell (p := ⟨bp, 0, none⟩) h.lp).trans h.c0, (hb.cell (p := ⟨bp, 1, none⟩) h.lp).trans h.c1, (hb.cell (p := ⟨bq, 0, none⟩) h.lq).trans h.d0, (hb.cell (p := ⟨bq, 1, none⟩) h.lq).trans h.d1,
    h.hp.below hb hb.size, h.hq.below hb hb.size, Nat.lt_of_lt_of_le h.lp hb.size, Nat.lt_of_lt_of_le h.lq hb.size⟩
theorem Tab.step {W W' : World} (h : Tab W) (hb : Below W.heap.size W W') : Tab W' := h.below hb h.1
/-- Nothing of w0 has turned. -/
def Fr (w0 w : World) : Prop := Below w0.heap.size w0 w
theorem Fr.refl (w : World) : Fr w w := Below.refl _ _
theorem Fr.step {w0 w w' : World} (h : Fr w0 w) (hb : Below w.heap.size w w') : Fr w0 w' := by
  unfold Fr at *
  exact h.trans (hb.mono h.size)
theorem Fr.alloc {w0 w : World} (h : Fr w0 w) (o : Obj) : Fr w0 (w.alloc o) := h.step ((Below.refl _ _).alloc (Nat.le_refl _) o)

set_option maxRecDepth 100000 in
set_option maxHeartbeats 2000000 in
theorem pq_chain (w : World) : PQ (((((((((((((((((w.alloc (.cells #[.string ⟨#[97]⟩, .string ⟨#[66]⟩] 9)).alloc (.cells #[.int .i64 1, .int .i64 1, .string ⟨#[]⟩, .slice none 0 0] 41)).alloc (.cells #[.int .i64 1, .int .i64 1, .string ⟨#[]⟩, .slice none 0 0] 41)).alloc (.cells #[.int .i64 9, .string ⟨#[]⟩, .int .i64 0, .slice (some ⟨w.heap.size + 1 + 1, 0, none⟩) 1 1, .slice none 0 0, .slice none 0 0] 38)).alloc (.cells #[.string ⟨#[102]⟩, .slice (some ⟨w.heap.size, 0, none⟩) 2 2, .slice (some ⟨w.heap.size + 1 + 1 + 1, 0, none⟩) 1 1] 35)).alloc (.cells #[.int .i64 1, .int .i64 0, .string ⟨#[]⟩, .slice none 0 0] 41)).alloc (.cells #[.int .i64 1, .int .i64 0, .string ⟨#[]⟩, .slice none 0 0] 41)).alloc (.cells #[.int .i64 1, .int .i64 2, .string ⟨#[]⟩, .slice none 0 0] 41)).alloc (.cells #[.int .i64 1, .int .i64 2, .string ⟨#[]⟩, .slice none 0 0] 41)).alloc (.cells #[.int .i64 6, .int .i64 0, .string ⟨#[]⟩, .slice (some ⟨w.heap.size + 1 + 1 + 1 + 1 + 1 + 1 + 1 + 1, 0, none⟩) 1 1] 41)).alloc (.cells #[.int .i64 1, .string ⟨#[120]⟩, .int .i64 0, .slice (some ⟨w.heap.size + 1 + 1 + 1 + 1 + 1 + 1 + 1 + 1 + 1, 0, none⟩) 1 1, .slice none 0 0, .slice none 0 0] 38)).alloc (.cells #[.int .i64 8, .string ⟨#[]⟩, .int .i64 0, .slice (some ⟨w.heap.size + 1 + 1 + 1 + 1 + 1 + 1, 0, none⟩) 1 1, .slice (some ⟨w.heap.size + 1 + 1 + 1 + 1 + 1 + 1 + 1 + 1 + 1 + 1, 0, none⟩) 1 1, .slice none 0 0] 38)).alloc (.cells #[.slice (some ⟨w.heap.size + 1 + 1 + 1 + 1, 0, none⟩) 1 1, .slice (some ⟨w.heap.size + 1 + 1 + 1 + 1 + 1 + 1 + 1 + 1 + 1 + 1 + 1, 0, none⟩) 1 1] 25)).alloc (.cells #[.int .i64 1, .int .i64 1, .string ⟨#[]⟩, .slice none 0 0] 41)).alloc (.cells #[.int .i64 1, .int .i64 1, .string ⟨#[]⟩, .slice none 0 0] 41)).alloc (.cells #[.int .i64 1, .string ⟨#[105, 102]⟩, .int .i64 0, .slice (some ⟨w.heap.size + 1 + 1 + 1 + 1 + 1 + 1 + 1 + 1 + 1 + 1 + 1 + 1 + 1 + 1, 0, none⟩) 1 1, .slice none 0 0, .slice none 0 0] 38)).alloc (.cells #[.slice none 0 0, .slice (some ⟨w.heap.size + 1 + 1 + 1 + 1 + 1 + 1 + 1 + 1 + 1 + 1 + 1 + 1 + 1 + 1 + 1, 0, none⟩) 1 1] 25)) (w.heap.size + 1 + 1 + 1 + 1 + 1 + 1 + 1 + 1 + 1 + 1 + 1 + 1) (w.heap.size + 1 + 1 + 1 + 1 + 1 + 1 + 1 + 1 + 1 + 1 + 1 + 1 + 1 + 1 + 1 + 1) (some ⟨w.heap.size + 1 + 1 + 1 + 1, 0, none⟩) (some ⟨w.heap.size + 1 + 1 + 1 + 1 + 1 + 1 + 1 + 1 + 1 + 1 + 1, 0, none⟩) (some ⟨w.heap.size + 1 + 1 + 1 + 1 + 1 + 1 + 1 + 1 + 1 + 1 + 1 + 1 + 1 + 1 + 1, 0, none⟩) := by
  have b0 := Blk.new w #[.string ⟨#[97]⟩, .string ⟨#[66]⟩] 9
  have b2 := Blk.new ((w.alloc (.cells #[.string ⟨#[97]⟩, .string ⟨#[66]⟩] 9)).alloc (.cells #[.int .i64 1, .int .i64 1, .string ⟨#[]⟩, .slice none 0 0] 41)) #[.int .i64 1, .int .i64 1, .string ⟨#[]⟩, .slice none 0 0] 41
  simp only [World.size_alloc] at b2
  have b3 := Blk.new (((w.alloc (.cells #[.string ⟨#[97]⟩, .string ⟨#[66]⟩] 9)).alloc (.cells #[.int .i64 1, .int .i64 1, .string ⟨#[]⟩, .slice none 0 0] 41)).alloc (.cells #[.int .i64 1, .int .i64 1, .string ⟨#[]⟩, .slice none 0 0] 41)) #[.int .i64 9, .string ⟨#[]⟩, .int .i64 0, .slice (some ⟨w.heap.size + 1 + 1, 0, none⟩) 1 1, .slice none 0 0, .slice none 0 0] 38
  simp only [World.size_alloc] at b3
  have b4 := Blk.new ((((w.alloc (.cells #[.string ⟨#[97]⟩, .string ⟨#[66]⟩] 9)).alloc (.cells #[.int .i64 1, .int .i64 1, .string ⟨#[]⟩, .slice none 0 0] 41)).alloc (.cells #[.int .i64 1, .int .i64 1, .string ⟨#[]⟩, .slice none 0 0] 41)).alloc (.cells #[.int .i64 9, .string ⟨#[]⟩, .int .i64 0, .slice (some ⟨w.heap.size + 1 + 1, 0, none⟩) 1 1, .slice none 0 0, .slice none 0 0] 38)) #[.string ⟨#[102]⟩, .slice (some ⟨w.heap.size, 0, none⟩) 2 2, .slice (some ⟨w.heap.size + 1 + 1 + 1, 0, none⟩) 1 1] 35
  simp only [World.size_alloc] at b4
  have b6 := Blk.new ((((((w.alloc (.cells #[.string ⟨#[97]⟩, .string ⟨#[66]⟩] 9)).alloc (.cells #[.int .i64 1, .int .i64 1, .string ⟨#[]⟩, .slice none 0 0] 41)).alloc (.cells #[.int .i64 1, .int .i64 1, .string ⟨#[]⟩, .slice none 0 0] 41)).alloc (.cells #[.int .i64 9, .string ⟨#[]⟩, .int .i64 0, .slice (some ⟨w.heap.size + 1 + 1, 0, none⟩) 1 1, .slice none 0 0, .slice none 0 0] 38)).alloc (.cells #[.string ⟨#[102]⟩, .slice (some ⟨w.heap.size, 0, none⟩) 2 2, .slice (some ⟨w.heap.size + 1 + 1 + 1, 0, none⟩) 1 1] 35)).alloc (.cells #[.int .i64 1, .int .i64 0, .string ⟨#[]⟩, .slice none 0 0] 41)) #[.int .i64 1, .int .i64 0, .string ⟨#[]⟩, .slice none 0 0] 41
  simp only [World.size_alloc] at b6
  have b8 := Blk.new ((((((((w.alloc (.cells #[.string ⟨#[97]⟩, .string ⟨#[66]⟩] 9)).alloc (.cells #[.int .i64 1, .int .i64 1, .string ⟨#[]⟩, .slice none 0 0] 41)).alloc (.cells #[.int .i64 1, .int .i64 1, .string ⟨#[]⟩, .slice none 0 0] 41)).alloc (.cells #[.int .i64 9, .string ⟨#[]⟩, .int .i64 0, .slice (some ⟨w.heap.size + 1 + 1, 0, none⟩) 1 1, .slice none 0 0, .slice none 0 0] 38)).alloc (.cells #[.string ⟨#[102]⟩, .slice (some ⟨w.heap.size, 0, none⟩) 2 2, .slice (some ⟨w.heap.size + 1 + 1 + 1, 0, none⟩) 1 1] 35)).alloc (.cells #[.int .i64 1, .int .i64 0, .string ⟨#[]⟩, .slice none 0 0] 41)).alloc (.cells #[.int .i64 1, .int .i64 0, .string ⟨#[]⟩, .slice none 0 0] 41)).alloc (.cells #[.int .i64 1, .int .i64 2, .string ⟨#[]⟩, .slice none 0 0] 41)) #[.int .i64 1, .int .i64 2, .string ⟨#[]⟩, .slice none 0 0] 41
  simp only [World.size_alloc] at b8
  have b9 := Blk.new (((((((((w.alloc (.cells #[.string ⟨#[97]⟩, .string ⟨#[66]⟩] 9)).alloc (.cells #[.int .i64 1, .int .i64 1, .string ⟨#[]⟩, .slice none 0 0] 41)).alloc (.cells #[.int .i64 1, .int .i64 1, .string ⟨#[]⟩, .slice none 0 0] 41)).alloc (.cells #[.int .i64 9, .string ⟨#[]⟩, .int .i64 0, .slice (some ⟨w.heap.size + 1 + 1, 0, none⟩) 1 1, .slice none 0 0, .slice none 0 0] 38)).alloc (.cells #[.string ⟨#[102]⟩, .slice (some ⟨w.heap.size, 0, none⟩) 2 2, .slice (some ⟨w.heap.size + 1 + 1 + 1, 0, none⟩) 1 1] 35)).alloc (.cells #[.int .i64 1, .int .i64 0, .string ⟨#[]⟩, .slice none 0 0] 41)).alloc (.cells #[.int .i64 1, .int .i64 0, .string ⟨#[]⟩, .slice none 0 0] 41)).alloc (.cells #[.int .i64 1, .int .i64 2, .string ⟨#[]⟩, .slice none 0 0] 41)).alloc (.cells #[.int .i64 1, .int .i64 2, .string ⟨#[]⟩, .slice none 0 0] 41)) #[.int .i64 6, .int .i64 0, .string ⟨#[]⟩, .slice (some ⟨w.heap.size + 1 + 1 + 1 + 1 + 1 + 1 + 1 + 1, 0, none⟩) 1 1] 41
  simp only [World.size_alloc] at b9
  have b10 := Blk.new ((((((((((w.alloc (.cells #[.string ⟨#[97]⟩, .string ⟨#[66]⟩] 9)).alloc (.cells #[.int .i64 1, .int .i64 1, .string ⟨#[]⟩, .slice none 0 0] 41)).alloc (.cells #[.int .i64 1, .int .i64 1, .string ⟨#[]⟩, .slice none 0 0] 41)).alloc (.cells #[.int .i64 9, .string ⟨#[]⟩, .int .i64 0, .slice (some ⟨w.heap.size + 1 + 1, 0, none⟩) 1 1, .slice none 0 0, .slice none 0 0] 38)).alloc (.cells #[.string ⟨#[102]⟩, .slice (some ⟨w.heap.size, 0, none⟩) 2 2, .slice (some ⟨w.heap.size + 1 + 1 + 1, 0, none⟩) 1 1] 35)).alloc (.cells #[.int .i64 1, .int .i64 0, .string ⟨#[]⟩, .slice none 0 0] 41)).alloc (.cells #[.int .i64 1, .int .i64 0, .string ⟨#[]⟩, .slice none 0 0] 41)).alloc (.cells #[.int .i64 1, .int .i64 2, .string ⟨#[]⟩, .slice none 0 0] 41)).alloc (.cells #[.int .i64 1, .int .i64 2, .string ⟨#[]⟩, .slice none 0 0] 41)).alloc (.cells #[.int .i64 6, .int .i64 0, .string ⟨#[]⟩, .slice (some ⟨w.heap.size + 1 + 1 + 1 + 1 + 1 + 1 + 1 + 1, 0, none⟩) 1 1] 41)) #[.int .i64 1, .string ⟨#[120]⟩, .int .i64 0, .slice (some ⟨w.heap.size + 1 + 1 + 1 + 1 + 1 + 1 + 1 + 1 + 1, 0, none⟩) 1 1, .slice none 0 0, .slice none 0 0] 38
  simp only [World.size_alloc] at b10
  have b11 := Blk.new (((((((((((w.alloc (.cells #[.string ⟨#[97]⟩, .string ⟨#[66]⟩] 9)).alloc (.cells #[.int .i64 1, .int .i64 1, .string ⟨#[]⟩, .slice none 0 0] 41)).alloc (.cells #[.int .i64 1, .int .i64 1, .string ⟨#[]⟩, .slice none 0 0] 41)).alloc (.cells #[.int .i64 9, .string ⟨#[]⟩, .int .i64 0, .slice (some ⟨w.heap.size + 1 + 1, 0, none⟩) 1 1, .slice none 0 0, .slice none 0 0] 38)).alloc (.cells #[.string ⟨#[102]⟩, .slice (some ⟨w.heap.size, 0, none⟩) 2 2, .slice (some ⟨w.heap.size + 1 + 1 + 1, 0, none⟩) 1 1] 35)).alloc (.cells #[.int .i64 1, .int .i64 0, .string ⟨#[]⟩, .slice none 0 0] 41)).alloc (.cells #[.int .i64 1, .int .i64 0, .string ⟨#[]⟩, .slice none 0 0] 41)).alloc (.cells #[.int .i64 1, .int .i64 2, .string ⟨#[]⟩, .slice none 0 0] 41)).alloc (.cells #[.int .i64 1, .int .i64 2, .string ⟨#[]⟩, .slice none 0 0] 41)).alloc (.cells #[.int .i64 6, .int .i64 0, .string ⟨#[]⟩, .slice (some ⟨w.heap.size + 1 + 1 + 1 + 1 + 1 + 1 + 1 + 1, 0, none⟩) 1 1] 41)).alloc (.cells #[.int .i64 1, .string ⟨#[120]⟩, .int .i64 0, .slice (some ⟨w.heap.size + 1 + 1 + 1 + 1 + 1 + 1 + 1 + 1 + 1, 0, none⟩) 1 1, .slice none 0 0, .slice none 0 0] 38)) #[.int .i64 8, .string ⟨#[]⟩, .int .i64 0, .slice (some ⟨w.heap.size + 1 + 1 + 1 + 1 + 1 + 1, 0, none⟩) 1 1, .slice (some ⟨w.heap.size + 1 + 1 + 1 + 1 + 1 + 1 + 1 + 1 + 1 + 1, 0, none⟩) 1 1, .slice none 0 0] 38
  simp only [World.size_alloc] at b11
  have b12 := Blk.new ((((((((((((w.alloc (.cells #[.string ⟨#[97]⟩, .string ⟨#[66]⟩] 9)).alloc (.cells #[.int .i64 1, .int .i64 1, .string ⟨#[]⟩, .slice none 0 0] 41)).alloc (.cells #[.int .i64 1, .int .i64 1, .string ⟨#[]⟩, .slice none 0 0] 41)).alloc (.cells #[.int .i64 9, .string ⟨#[]⟩, .int .i64 0, .slice (some ⟨w.heap.size + 1 + 1, 0, none⟩) 1 1, .slice none 0 0, .slice none 0 0] 38)).alloc (.cells #[.string ⟨#[102]⟩, .slice (some ⟨w.heap.size, 0, none⟩) 2 2, .slice (some ⟨w.heap.size + 1 + 1 + 1, 0, none⟩) 1 1] 35)).alloc (.cells #[.int .i64 1, .int .i64 0, .string ⟨#[]⟩, .slice none 0 0] 41)).alloc (.cells #[.int .i64 1, .int .i64 0, .string ⟨#[]⟩, .slice none 0 0] 41)).alloc (.cells #[.int .i64 1, .int .i64 2, .string ⟨#[]⟩, .slice none 0 0] 41)).alloc (.cells #[.int .i64 1, .int .i64 2, .string ⟨#[]⟩, .slice none 0 0] 41)).alloc (.cells #[.int .i64 6, .int .i64 0, .string ⟨#[]⟩, .slice (some ⟨w.heap.size + 1 + 1 + 1 + 1 + 1 + 1 + 1 + 1, 0, none⟩) 1 1] 41)).alloc (.cells #[.int .i64 1, .string ⟨#[120]⟩, .int .i64 0, .slice (some ⟨w.heap.size + 1 + 1 + 1 + 1 + 1 + 1 + 1 + 1 + 1, 0, none⟩) 1 1, .slice none 0 0, .slice none 0 0] 38)).alloc (.cells #[.int .i64 8, .string ⟨#[]⟩, .int .i64 0, .slice (some ⟨w.heap.size + 1 + 1 + 1 + 1 + 1 + 1, 0, none⟩) 1 1, .slice (some ⟨w.heap.size + 1 + 1 + 1 + 1 + 1 + 1 + 1 + 1 + 1 + 1, 0, none⟩) 1 1, .slice none 0 0] 38)) #[.slice (some ⟨w.heap.size + 1 + 1 + 1 + 1, 0, none⟩) 1 1, .slice (some ⟨w.heap.size + 1 + 1 + 1 + 1 + 1 + 1 + 1 + 1 + 1 + 1 + 1, 0, none⟩) 1 1] 25
  simp only [World.size_alloc] at b12
  have b14 := Blk.new ((((((((((((((w.alloc (.cells #[.string ⟨#[97]⟩, .string ⟨#[66]⟩] 9)).alloc (.cells #[.int .i64 1, .int .i64 1, .string ⟨#[]⟩, .slice none 0 0] 41)).alloc (.cells #[.int .i64 1, .int .i64 1, .string ⟨#[]⟩, .slice none 0 0] 41)).alloc (.cells #[.int .i64 9, .string ⟨#[]⟩, .int .i64 0, .slice (some ⟨w.heap.size + 1 + 1, 0, none⟩) 1 1, .slice none 0 0, .slice none 0 0] 38)).alloc (.cells #[.string ⟨#[102]⟩, .slice (some ⟨w.heap.size, 0, none⟩) 2 2, .slice (some ⟨w.heap.size + 1 + 1 + 1, 0, none⟩) 1 1] 35)).alloc (.cells #[.int .i64 1, .int .i64 0, .string ⟨#[]⟩, .slice none 0 0] 41)).alloc (.cells #[.int .i64 1, .int .i64 0, .string ⟨#[]⟩, .slice none 0 0] 41)).alloc (.cells #[.int .i64 1, .int .i64 2, .string ⟨#[]⟩, .slice none 0 0] 41)).alloc (.cells #[.int .i64 1, .int .i64 2, .string ⟨#[]⟩, .slice none 0 0] 41)).alloc (.cells #[.int .i64 6, .int .i64 0, .string ⟨#[]⟩, .slice (some ⟨w.heap.size + 1 + 1 + 1 + 1 + 1 + 1 + 1 + 1, 0, none⟩) 1 1] 41)).alloc (.cells #[.int .i64 1, .string ⟨#[120]⟩, .int .i64 0, .slice (some ⟨w.heap.size + 1 + 1 + 1 + 1 + 1 + 1 + 1 + 1 + 1, 0, none⟩) 1 1, .slice none 0 0, .slice none 0 0] 38)).alloc (.cells #[.int .i64 8, .string ⟨#[]⟩, .int .i64 0, .slice (some ⟨w.heap.size + 1 + 1 + 1 + 1 + 1 + 1, 0, none⟩) 1 1, .slice (some ⟨w.heap.size + 1 + 1 + 1 + 1 + 1 + 1 + 1 + 1 + 1 + 1, 0, none⟩) 1 1, .slice none 0 0] 38)).alloc (.cells #[.slice (some ⟨w.heap.size + 1 + 1 + 1 + 1, 0, none⟩) 1 1, .slice (some ⟨w.heap.size + 1 + 1 + 1 + 1 + 1 + 1 + 1 + 1 + 1 + 1 + 1, 0, none⟩) 1 1] 25)).alloc (.cells #[.int .i64 1, .int .i64 1, .string ⟨#[]⟩, .slice none 0 0] 41)) #[.int .i64 1, .int .i64 1, .string ⟨#[]⟩, .slice none 0 0] 41
  simp only [World.size_alloc] at b14
  have b15 := Blk.new (((((((((((((((w.alloc (.cells #[.string ⟨#[97]⟩, .string ⟨#[66]⟩] 9)).alloc (.cells #[.int .i64 1, .int .i64 1, .string ⟨#[]⟩, .slice none 0 0] 41)).alloc (.cells #[.int .i64 1, .int .i64 1, .string ⟨#[]⟩, .slice none 0 0] 41)).alloc (.cells #[.int .i64 9, .string ⟨#[]⟩, .int .i64 0, .slice (some ⟨w.heap.size + 1 + 1, 0, none⟩) 1 1, .slice none 0 0, .slice none 0 0] 38)).alloc (.cells #[.string ⟨#[102]⟩, .slice (some ⟨w.heap.size, 0, none⟩) 2 2, .slice (some ⟨w.heap.size + 1 + 1 + 1, 0, none⟩) 1 1] 35)).alloc (.cells #[.int .i64 1, .int .i64 0, .string ⟨#[]⟩, .slice none 0 0] 41)).alloc (.cells #[.int .i64 1, .int .i64 0, .string ⟨#[]⟩, .slice none 0 0] 41)).alloc (.cells #[.int .i64 1, .int .i64 2, .string ⟨#[]⟩, .slice none 0 0] 41)).alloc (.cells #[.int .i64 1, .int .i64 2, .string ⟨#[]⟩, .slice none 0 0] 41)).alloc (.cells #[.int .i64 6, .int .i64 0, .string ⟨#[]⟩, .slice (some ⟨w.heap.size + 1 + 1 + 1 + 1 + 1 + 1 + 1 + 1, 0, none⟩) 1 1] 41)).alloc (.cells #[.int .i64 1, .string ⟨#[120]⟩, .int .i64 0, .slice (some ⟨w.heap.size + 1 + 1 + 1 + 1 + 1 + 1 + 1 + 1 + 1, 0, none⟩) 1 1, .slice none 0 0, .slice none 0 0] 38)).alloc (.cells #[.int .i64 8, .string ⟨#[]⟩, .int .i64 0, .slice (some ⟨w.heap.size + 1 + 1 + 1 + 1 + 1 + 1, 0, none⟩) 1 1, .slice (some ⟨w.heap.size + 1 + 1 + 1 + 1 + 1 + 1 + 1 + 1 + 1 + 1, 0, none⟩) 1 1, .slice none 0 0] 38)).alloc (.cells #[.slice (some ⟨w.heap.size + 1 + 1 + 1 + 1, 0, none⟩) 1 1, .slice (some ⟨w.heap.size + 1 + 1 + 1 + 1 + 1 + 1 + 1 + 1 + 1 + 1 + 1, 0, none⟩) 1 1] 25)).alloc (.cells #[.int .i64 1, .int .i64 1, .string ⟨#[]⟩, .slice none 0 0] 41)).alloc (.cells #[.int .i64 1, .int .i64 1, .string ⟨#[]⟩, .slice none 0 0] 41)) #[.int .i64 1, .string ⟨#[105, 102]⟩, .int .i64 0, .slice (some ⟨w.heap.size + 1 + 1 + 1 + 1 + 1 + 1 + 1 + 1 + 1 + 1 + 1 + 1 + 1 + 1, 0, none⟩) 1 1, .slice none 0 0, .slice none 0 0] 38
  simp only [World.size_alloc] at b15
  have b16 := Blk.new ((((((((((((((((w.alloc (.cells #[.string ⟨#[97]⟩, .string ⟨#[66]⟩] 9)).alloc (.cells #[.int .i64 1, .int .i64 1, .string ⟨#[]⟩, .slice none 0 0] 41)).alloc (.cells #[.int .i64 1, .int .i64 1, .string ⟨#[]⟩, .slice none 0 0] 41)).alloc (.cells #[.int .i64 9, .string ⟨#[]⟩, .int .i64 0, .slice (some ⟨w.heap.size + 1 + 1, 0, none⟩) 1 1, .slice none 0 0, .slice none 0 0] 38)).alloc (.cells #[.string ⟨#[102]⟩, .slice (some ⟨w.heap.size, 0, none⟩) 2 2, .slice (some ⟨w.heap.size + 1 + 1 + 1, 0, none⟩) 1 1] 35)).alloc (.cells #[.int .i64 1, .int .i64 0, .string ⟨#[]⟩, .slice none 0 0] 41)).alloc (.cells #[.int .i64 1, .int .i64 0, .string ⟨#[]⟩, .slice none 0 0] 41)).alloc (.cells #[.int .i64 1, .int .i64 2, .string ⟨#[]⟩, .slice none 0 0] 41)).alloc (.cells #[.int .i64 1, .int .i64 2, .string ⟨#[]⟩, .slice none 0 0] 41)).alloc (.cells #[.int .i64 6, .int .i64 0, .string ⟨#[]⟩, .slice (some ⟨w.heap.size + 1 + 1 + 1 + 1 + 1 + 1 + 1 + 1, 0, none⟩) 1 1] 41)).alloc (.cells #[.int .i64 1, .string ⟨#[120]⟩, .int .i64 0, .slice (some ⟨w.heap.size + 1 + 1 + 1 + 1 + 1 + 1 + 1 + 1 + 1, 0, none⟩) 1 1, .slice none 0 0, .slice none 0 0] 38)).alloc (.cells #[.int .i64 8, .string ⟨#[]⟩, .int .i64 0, .slice (some ⟨w.heap.size + 1 + 1 + 1 + 1 + 1 + 1, 0, none⟩) 1 1, .slice (some ⟨w.heap.size + 1 + 1 + 1 + 1 + 1 + 1 + 1 + 1 + 1 + 1, 0, none⟩) 1 1, .slice none 0 0] 38)).alloc (.cells #[.slice (some ⟨w.heap.size + 1 + 1 + 1 + 1, 0, none⟩) 1 1, .slice (some ⟨w.heap.size + 1 + 1 + 1 + 1 + 1 + 1 + 1 + 1 + 1 + 1 + 1, 0, none⟩) 1 1] 25)).alloc (.cells #[.int .i64 1, .int .i64 1, .string ⟨#[]⟩, .slice none 0 0] 41)).alloc (.cells #[.int .i64 1, .int .i64 1, .string ⟨#[]⟩, .slice none 0 0] 41)).alloc (.cells #[.int .i64 1, .string ⟨#[105, 102]⟩, .int .i64 0, .slice (some ⟨w.heap.size + 1 + 1 + 1 + 1 + 1 + 1 + 1 + 1 + 1 + 1 + 1 + 1 + 1 + 1, 0, none⟩) 1 1, .slice none 0 0, .slice none 0 0] 38)) #[.slice none 0 0, .slice (some ⟨w.heap.size + 1 + 1 + 1 + 1 + 1 + 1 + 1 + 1 + 1 + 1 + 1 + 1 + 1 + 1 + 1, 0, none⟩) 1 1] 25
  simp only [World.size_alloc] at b16
  replace b0 := b0.alloc (.cells #[.int .i64 1, .int .i64 1, .string ⟨#[]⟩, .slice none 0 0] 41)
  replace b0 := b0.alloc (.cells #[.int .i64 1, .int .i64 1, .string ⟨#[]⟩, .slice none 0 0] 41)
  replace b0 := b0.alloc (.cells #[.int .i64 9, .string ⟨#[]⟩, .int .i64 0, .slice (some ⟨w.heap.size + 1 + 1, 0, none⟩) 1 1, .slice none 0 0, .slice none 0 0] 38)
  replace b2 := b2.alloc (.cells #[.int .i64 9, .string ⟨#[]⟩, .int .i64 0, .slice (some ⟨w.heap.size + 1 + 1, 0, none⟩) 1 1, .slice none 0 0, .slice none 0 0] 38)
  replace b0 := b0.alloc (.cells #[.string ⟨#[102]⟩, .slice (some ⟨w.heap.size, 0, none⟩) 2 2, .slice (some ⟨w.heap.size + 1 + 1 + 1, 0, none⟩) 1 1] 35)
  replace b2 := b2.alloc (.cells #[.string ⟨#[102]⟩, .slice (some ⟨w.heap.size, 0, none⟩) 2 2, .slice (some ⟨w.heap.size + 1 + 1 + 1, 0, none⟩) 1 1] 35)
  replace b3 := b3.alloc (.cells #[.string ⟨#[102]⟩, .slice (some ⟨w.heap.size, 0, none⟩) 2 2, .slice (some ⟨w.heap.size + 1 + 1 + 1, 0, none⟩) 1 1] 35)
  replace b0 := b0.alloc (.cells #[.int .i64 1, .int .i64 0, .string ⟨#[]⟩, .slice none 0 0] 41)
  replace b2 := b2.alloc (.cells #[.int .i64 1, .int .i64 0, .string ⟨#[]⟩, .slice none 0 0] 41)
  replace b3 := b3.alloc (.cells #[.int .i64 1, .int .i64 0, .string ⟨#[]⟩, .slice none 0 0] 41)
  replace b4 := b4.alloc (.cells #[.int .i64 1, .int .i64 0, .string ⟨#[]⟩, .slice none 0 0] 41)
  replace b0 := b0.alloc (.cells #[.int .i64 1, .int .i64 0, .string ⟨#[]⟩, .slice none 0 0] 41)
  replace b2 := b2.alloc (.cells #[.int .i64 1, .int .i64 0, .string ⟨#[]⟩, .slice none 0 0] 41)
  replace b3 := b3.alloc (.cells #[.int .i64 1, .int .i64 0, .string ⟨#[]⟩, .slice none 0 0] 41)
  replace b4 := b4.alloc (.cells #[.int .i64 1, .int .i64 0, .string ⟨#[]⟩, .slice none 0 0] 41)
  replace b0 := b0.alloc (.cells #[.int .i64 1, .int .i64 2, .string ⟨#[]⟩, .slice none 0 0] 41)
  replace b2 := b2.alloc (.cells #[.int .i64 1, .int .i64 2, .string ⟨#[]⟩, .slice none 0 0] 41)
  replace b3 := b3.alloc (.cells #[.int .i64 1, .int .i64 2, .string ⟨#[]⟩, .slice none 0 0] 41)
  replace b4 := b4.alloc (.cells #[.int .i64 1, .int .i64 2, .string ⟨#[]⟩, .slice none 0 0] 41)
  replace b6 := b6.alloc (.cells #[.int .i64 1, .int .i64 2, .string ⟨#[]⟩, .slice none 0 0] 41)
  replace b0 := b0.alloc (.cells #[.int .i64 1, .int .i64 2, .string ⟨#[]⟩, .slice none 0 0] 41)
  replace b2 := b2.alloc (.cells #[.int .i64 1, .int .i64 2, .string ⟨#[]⟩, .slice none 0 0] 41)
  replace b3 := b3.alloc (.cells #[.int .i64 1, .int .i64 2, .string ⟨#[]⟩, .slice none 0 0] 41)
  replace b4 := b4.alloc (.cells #[.int .i64 1, .int .i64 2, .string ⟨#[]⟩, .slice none 0 0] 41)
  replace b6 := b6.alloc (.cells #[.int .i64 1, .int .i64 2, .string ⟨#[]⟩, .slice none 0 0] 41)
  replace b0 := b0.alloc (.cells #[.int .i64 6, .int .i64 0, .string ⟨#[]⟩, .slice (some ⟨w.heap.size + 1 + 1 + 1 + 1 + 1 + 1 + 1 + 1, 0, none⟩) 1 1] 41)
  replace b2 := b2.alloc (.cells #[.int .i64 6, .int .i64 0, .string ⟨#[]⟩, .slice (some ⟨w.heap.size + 1 + 1 + 1 + 1 + 1 + 1 + 1 + 1, 0, none⟩) 1 1] 41)
  replace b3 := b3.alloc (.cells #[.int .i64 6, .int .i64 0, .string ⟨#[]⟩, .slice (some ⟨w.heap.size + 1 + 1 + 1 + 1 + 1 + 1 + 1 + 1, 0, none⟩) 1 1] 41)
  replace b4 := b4.alloc (.cells #[.int .i64 6, .int .i64 0, .string ⟨#[]⟩, .slice (some ⟨w.heap.size + 1 + 1 + 1 + 1 + 1 + 1 + 1 + 1, 0, none⟩) 1 1] 41)
  replace b6 := b6.alloc (.cells #[.int .i64 6, .int .i64 0, .string ⟨#[]⟩, .slice (some ⟨w.heap.size + 1 + 1 + 1 + 1 + 1 + 1 + 1 + 1, 0, none⟩) 1 1] 41)
  replace b8 := b8.alloc (.cells #[.int .i64 6, .int .i64 0, .string ⟨#[]⟩, .slice (some ⟨w.heap.size + 1 + 1 + 1 + 1 + 1 + 1 + 1 + 1, 0, none⟩) 1 1] 41)
  replace b0 := b0.alloc (.cells #[.int .i64 1, .string ⟨#[120]⟩, .int .i64 0, .slice (some ⟨w.heap.size + 1 + 1 + 1 + 1 + 1 + 1 + 1 + 1 + 1, 0, none⟩) 1 1, .slice none 0 0, .slice none 0 0] 38)
  replace b2 := b2.alloc (.cells #[.int .i64 1, .string ⟨#[120]⟩, .int .i64 0, .slice (some ⟨w.heap.size + 1 + 1 + 1 + 1 + 1 + 1 + 1 + 1 + 1, 0, none⟩) 1 1, .slice none 0 0, .slice none 0 0] 38)
  replace b3 := b3.alloc (.cells #[.int .i64 1, .string ⟨#[120]⟩, .int .i64 0, .slice (some ⟨w.heap.size + 1 + 1 + 1 + 1 + 1 + 1 + 1 + 1 + 1, 0, none⟩) 1 1, .slice none 0 0, .slice none 0 0] 38)
  replace b4 := b4.alloc (.cells #[.int .i64 1, .string ⟨#[120]⟩, .int .i64 0, .slice (some ⟨w.heap.size + 1 + 1 + 1 + 1 + 1 + 1 + 1 + 1 + 1, 0, none⟩) 1 1, .slice none 0 0, .slice none 0 0] 38)
  replace b6 := b6.alloc (.cells #[.int .i64 1, .string ⟨#[120]⟩, .int .i64 0, .slice (some ⟨w.heap.size + 1 + 1 + 1 + 1 + 1 + 1 + 1 + 1 + 1, 0, none⟩) 1 1, .slice none 0 0, .slice none 0 0] 38)
  replace b8 := b8.alloc (.cells #[.int .i64 1, .string ⟨#[120]⟩, .int .i64 0, .slice (some ⟨w.heap.size + 1 + 1 + 1 + 1 + 1 + 1 + 1 + 1 + 1, 0, none⟩) 1 1, .slice none 0 0, .slice none 0 0] 38)
  replace b9 := b9.alloc (.cells #[.int .i64 1, .string ⟨#[120]⟩, .int .i64 0, .slice (some ⟨w.heap.size + 1 + 1 + 1 + 1 + 1 + 1 + 1 + 1 + 1, 0, none⟩) 1 1, .slice none 0 0, .slice none 0 0] 38)
  replace b0 := b0.alloc (.cells #[.int .i64 8, .string ⟨#[]⟩, .int .i64 0, .slice (some ⟨w.heap.size + 1 + 1 + 1 + 1 + 1 + 1, 0, none⟩) 1 1, .slice (some ⟨w.heap.size + 1 + 1 + 1 + 1 + 1 + 1 + 1 + 1 + 1 + 1, 0, none⟩) 1 1, .slice none 0 0] 38)
  replace b2 := b2.alloc (.cells #[.int .i64 8, .string ⟨#[]⟩, .int .i64 0, .slice (some ⟨w.heap.size + 1 + 1 + 1 + 1 + 1 + 1, 0, none⟩) 1 1, .slice (some ⟨w.heap.size + 1 + 1 + 1 + 1 + 1 + 1 + 1 + 1 + 1 + 1, 0, none⟩) 1 1, .slice none 0 0] 38)
  replace b3 := b3.alloc (.cells #[.int .i64 8, .string ⟨#[]⟩, .int .i64 0, .slice (some ⟨w.heap.size + 1 + 1 + 1 + 1 + 1 + 1, 0, none⟩) 1 1, .slice (some ⟨w.heap.size + 1 + 1 + 1 + 1 + 1 + 1 + 1 + 1 + 1 + 1, 0, none⟩) 1 1, .slice none 0 0] 38)
  replace b4 := b4.alloc (.cells #[.int .i64 8, .string ⟨#[]⟩, .int .i64 0, .slice (some ⟨w.heap.size + 1 + 1 + 1 + 1 + 1 + 1, 0, none⟩) 1 1, .slice (some ⟨w.heap.size + 1 + 1 + 1 + 1 + 1 + 1 + 1 + 1 + 1 + 1, 0, none⟩) 1 1, .slice none 0 0] 38)
  replace b6 := b6.alloc (.cells #[.int .i64 8, .string ⟨#[]⟩, .int .i64 0, .slice (some ⟨w.heap.size + 1 + 1 + 1 + 1 + 1 + 1, 0, none⟩) 1 1, .slice (some ⟨w.heap.size + 1 + 1 + 1 + 1 + 1 + 1 + 1 + 1 + 1 + 1, 0, none⟩) 1 1, .slice none 0 0] 38)
  replace b8 := b8.alloc (.cells #[.int .i64 8, .string ⟨#[]⟩, .int .i64 0, .slice (some ⟨w.heap.size + 1 + 1 + 1 + 1 + 1 + 1, 0, none⟩) 1 1, .slice (some ⟨w.heap.size + 1 + 1 + 1 + 1 + 1 + 1 + 1 + 1 + 1 + 1, 0, none⟩) 1 1, .slice none 0 0] 38)
  replace b9 := b9.alloc (.cells #[.int .i64 8, .string ⟨#[]⟩, .int .i64 0, .slice (some ⟨w.heap.size + 1 + 1 + 1 + 1 + 1 + 1, 0, none⟩) 1 1, .slice (some ⟨w.heap.size + 1 + 1 + 1 + 1 + 1 + 1 + 1 + 1 + 1 + 1, 0, none⟩) 1 1, .slice none 0 0] 38)
  replace b10 := b10.alloc (.cells #[.int .i64 8, .string ⟨#[]⟩, .int .i64 0, .slice (some ⟨w.heap.size + 1 + 1 + 1 + 1 + 1 + 1, 0, none⟩) 1 1, .slice (some ⟨w.heap.size + 1 + 1 + 1 + 1 + 1 + 1 + 1 + 1 + 1 + 1, 0, none⟩) 1 1, .slice none 0 0] 38)
  replace b0 := b0.alloc (.cells #[.slice (some ⟨w.heap.size + 1 + 1 + 1 + 1, 0, none⟩) 1 1, .slice (some ⟨w.heap.size + 1 + 1 + 1 + 1 + 1 + 1 + 1 + 1 + 1 + 1 + 1, 0, none⟩) 1 1] 25)
  replace b2 := b2.alloc (.cells #[.slice (some ⟨w.heap.size + 1 + 1 + 1 + 1, 0, none⟩) 1 1, .slice (some ⟨w.heap.size + 1 + 1 + 1 + 1 + 1 + 1 + 1 + 1 + 1 + 1 + 1, 0, none⟩) 1 1] 25)
  replace b3 := b3.alloc (.cells #[.slice (some ⟨w.heap.size + 1 + 1 + 1 + 1, 0, none⟩) 1 1, .slice (some ⟨w.heap.size + 1 + 1 + 1 + 1 + 1 + 1 + 1 + 1 + 1 + 1 + 1, 0, none⟩) 1 1] 25)
  replace b4 := b4.alloc (.cells #[.slice (some ⟨w.heap.size + 1 + 1 + 1 + 1, 0, none⟩) 1 1, .slice (some ⟨w.heap.size + 1 + 1 + 1 + 1 + 1 + 1 + 1 + 1 + 1 + 1 + 1, 0, none⟩) 1 1] 25)
  replace b6 := b6.alloc (.cells #[.slice (some ⟨w.heap.size + 1 + 1 + 1 + 1, 0, none⟩) 1 1, .slice (some ⟨w.heap.size + 1 + 1 + 1 + 1 + 1 + 1 + 1 + 1 + 1 + 1 + 1, 0, none⟩) 1 1] 25)
  replace b8 := b8.alloc (.cells #[.slice (some ⟨w.heap.size + 1 + 1 + 1 + 1, 0, none⟩) 1 1, .slice (some ⟨w.heap.size + 1 + 1 + 1 + 1 + 1 + 1 + 1 + 1 + 1 + 1 + 1, 0, none⟩) 1 1] 25)
  replace b9 := b9.alloc (.cells #[.slice (some ⟨w.heap.size + 1 + 1 + 1 + 1, 0, none⟩) 1 1, .slice (some ⟨w.heap.size + 1 + 1 + 1 + 1 + 1 + 1 + 1 + 1 + 1 + 1 + 1, 0, none⟩) 1 1] 25)
  replace b10 := b10.alloc (.cells #[.slice (some ⟨w.heap.size + 1 + 1 + 1 + 1, 0, none⟩) 1 1, .slice (some ⟨w.heap.size + 1 + 1 + 1 + 1 + 1 + 1 + 1 + 1 + 1 + 1 + 1, 0, none⟩) 1 1] 25)
  replace b11 := b11.alloc (.cells #[.slice (some ⟨w.heap.size + 1 + 1 + 1 + 1, 0, none⟩) 1 1, .slice (some ⟨w.heap.size + 1 + 1 + 1 + 1 + 1 + 1 + 1 + 1 + 1 + 1 + 1, 0, none⟩) 1 1] 25)
  replace b0 := b0.alloc (.cells #[.int .i64 1, .int .i64 1, .string ⟨#[]⟩, .slice none 0 0] 41)
  replace b2 := b2.alloc (.cells #[.int .i64 1, .int .i64 1, .string ⟨#[]⟩, .slice none 0 0] 41)
  replace b3 := b3.alloc (.cells #[.int .i64 1, .int .i64 1, .string ⟨#[]⟩, .slice none 0 0] 41)
  replace b4 := b4.alloc (.cells #[.int .i64 1, .int .i64 1, .string ⟨#[]⟩, .slice none 0 0] 41)
  replace b6 := b6.alloc (.cells #[.int .i64 1, .int .i64 1, .string ⟨#[]⟩, .slice none 0 0] 41)
  replace b8 := b8.alloc (.cells #[.int .i64 1, .int .i64 1, .string ⟨#[]⟩, .slice none 0 0] 41)
  replace b9 := b9.alloc (.cells #[.int .i64 1, .int .i64 1, .string ⟨#[]⟩, .slice none 0 0] 41)
  replace b10 := b10.alloc (.cells #[.int .i64 1, .int .i64 1, .string ⟨#[]⟩, .slice none 0 0] 41)
  replace b11 := b11.alloc (.cells #[.int .i64 1, .int .i64 1, .string ⟨#[]⟩, .slice none 0 0] 41)
  replace b12 := b12.alloc (.cells #[.int .i64 1, .int .i64 1, .string ⟨#[]⟩, .slice none 0 0] 41)
  replace b0 := b0.alloc (.cells #[.int .i64 1, .int .i64 1, .string ⟨#[]⟩, .slice none 0 0] 41)
  replace b2 := b2.alloc (.cells #[.int .i64 1, .int .i64 1, .string ⟨#[]⟩, .slice none 0 0] 41)
  replace b3 := b3.alloc (.cells #[.int .i64 1, .int .i64 1, .string ⟨#[]⟩, .slice none 0 0] 41)
  replace b4 := b4.alloc (.cells #[.int .i64 1, .int .i64 1, .string ⟨#[]⟩, .slice none 0 0] 41)
  replace b6 := b6.alloc (.cells #[.int .i64 1, .int .i64 1, .string ⟨#[]⟩, .slice none 0 0] 41)
  replace b8 := b8.alloc (.cells #[.int .i64 1, .int .i64 1, .string ⟨#[]⟩, .slice none 0 0] 41)
  replace b9 := b9.alloc (.cells #[.int .i64 1, .int .i64 1, .string ⟨#[]⟩, .slice none 0 0] 41)
  replace b10 := b10.alloc (.cells #[.int .i64 1, .int .i64 1, .string ⟨#[]⟩, .slice none 0 0] 41)
  replace b11 := b11.alloc (.cells #[.int .i64 1, .int .i64 1, .string ⟨#[]⟩, .slice none 0 0] 41)
  replace b12 := b12.alloc (.cells #[.int .i64 1, .int .i64 1, .string ⟨#[]⟩, .slice none 0 0] 41)
  replace b0 := b0.alloc (.cells #[.int .i64 1, .string ⟨#[105, 102]⟩, .int .i64 0, .slice (some ⟨w.heap.size + 1 + 1 + 1 + 1 + 1 + 1 + 1 + 1 + 1 + 1 + 1 + 1 + 1 + 1, 0, none⟩) 1 1, .slice none 0 0, .slice none 0 0] 38)
  replace b2 := b2.alloc (.cells #[.int .i64 1, .string ⟨#[105, 102]⟩, .int .i64 0, .slice (some ⟨w.heap.size + 1 + 1 + 1 + 1 + 1 + 1 + 1 + 1 + 1 + 1 + 1 + 1 + 1 + 1, 0, none⟩) 1 1, .slice none 0 0, .slice none 0 0] 38)
  replace b3 := b3.alloc (.cells #[.int .i64 1, .string ⟨#[105, 102]⟩, .int .i64 0, .slice (some ⟨w.heap.size + 1 + 1 + 1 + 1 + 1 + 1 + 1 + 1 + 1 + 1 + 1 + 1 + 1 + 1, 0, none⟩) 1 1, .slice none 0 0, .slice none 0 0] 38)
  replace b4 := b4.alloc (.cells #[.int .i64 1, .string ⟨#[105, 102]⟩, .int .i64 0, .slice (some ⟨w.heap.size + 1 + 1 + 1 + 1 + 1 + 1 + 1 + 1 + 1 + 1 + 1 + 1 + 1 + 1, 0, none⟩) 1 1, .slice none 0 0, .slice none 0 0] 38)
  replace b6 := b6.alloc (.cells #[.int .i64 1, .string ⟨#[105, 102]⟩, .int .i64 0, .slice (some ⟨w.heap.size + 1 + 1 + 1 + 1 + 1 + 1 + 1 + 1 + 1 + 1 + 1 + 1 + 1 + 1, 0, none⟩) 1 1, .slice none 0 0, .slice none 0 0] 38)
  replace b8 := b8.alloc (.cells #[.int .i64 1, .string ⟨#[105, 102]⟩, .int .i64 0, .slice (some ⟨w.heap.size + 1 + 1 + 1 + 1 + 1 + 1 + 1 + 1 + 1 + 1 + 1 + 1 + 1 + 1, 0, none⟩) 1 1, .slice none 0 0, .slice none 0 0] 38)
  replace b9 := b9.alloc (.cells #[.int .i64 1, .string ⟨#[105, 102]⟩, .int .i64 0, .slice (some ⟨w.heap.size + 1 + 1 + 1 + 1 + 1 + 1 + 1 + 1 + 1 + 1 + 1 + 1 + 1 + 1, 0, none⟩) 1 1, .slice none 0 0, .slice none 0 0] 38)
  replace b10 := b10.alloc (.cells #[.int .i64 1, .string ⟨#[105, 102]⟩, .int .i64 0, .slice (some ⟨w.heap.size + 1 + 1 + 1 + 1 + 1 + 1 + 1 + 1 + 1 + 1 + 1 + 1 + 1 + 1, 0, none⟩) 1 1, .slice none 0 0, .slice none 0 0] 38)
  replace b11 := b11.alloc (.cells #[.int .i64 1, .string ⟨#[105, 102]⟩, .int .i64 0, .slice (some ⟨w.heap.size + 1 + 1 + 1 + 1 + 1 + 1 + 1 + 1 + 1 + 1 + 1 + 1 + 1 + 1, 0, none⟩) 1 1, .slice none 0 0, .slice none 0 0] 38)
  replace b12 := b12.alloc (.cells #[.int .i64 1, .string ⟨#[105, 102]⟩, .int .i64 0, .slice (some ⟨w.heap.size + 1 + 1 + 1 + 1 + 1 + 1 + 1 + 1 + 1 + 1 + 1 + 1 + 1 + 1, 0, none⟩) 1 1, .slice none 0 0, .slice none 0 0] 38)
  replace b14 := b14.alloc (.cells #[.int .i64 1, .string ⟨#[105, 102]⟩, .int .i64 0, .slice (some ⟨w.heap.size + 1 + 1 + 1 + 1 + 1 + 1 + 1 + 1 + 1 + 1 + 1 + 1 + 1 + 1, 0, none⟩) 1 1, .slice none 0 0, .slice none 0 0] 38)
  replace b0 := b0.alloc (.cells #[.slice none 0 0, .slice (some ⟨w.heap.size + 1 + 1 + 1 + 1 + 1 + 1 + 1 + 1 + 1 + 1 + 1 + 1 + 1 + 1 + 1, 0, none⟩) 1 1] 25)
  replace b2 := b2.alloc (.cells #[.slice none 0 0, .slice (some ⟨w.heap.size + 1 + 1 + 1 + 1 + 1 + 1 + 1 + 1 + 1 + 1 + 1 + 1 + 1 + 1 + 1, 0, none⟩) 1 1] 25)
  replace b3 := b3.alloc (.cells #[.slice none 0 0, .slice (some ⟨w.heap.size + 1 + 1 + 1 + 1 + 1 + 1 + 1 + 1 + 1 + 1 + 1 + 1 + 1 + 1 + 1, 0, none⟩) 1 1] 25)
  replace b4 := b4.alloc (.cells #[.slice none 0 0, .slice (some ⟨w.heap.size + 1 + 1 + 1 + 1 + 1 + 1 + 1 + 1 + 1 + 1 + 1 + 1 + 1 + 1 + 1, 0, none⟩) 1 1] 25)
  replace b6 := b6.alloc (.cells #[.slice none 0 0, .slice (some ⟨w.heap.size + 1 + 1 + 1 + 1 + 1 + 1 + 1 + 1 + 1 + 1 + 1 + 1 + 1 + 1 + 1, 0, none⟩) 1 1] 25)
  replace b8 := b8.alloc (.cells #[.slice none 0 0, .slice (some ⟨w.heap.size + 1 + 1 + 1 + 1 + 1 + 1 + 1 + 1 + 1 + 1 + 1 + 1 + 1 + 1 + 1, 0, none⟩) 1 1] 25)
  replace b9 := b9.alloc (.cells #[.slice none 0 0, .slice (some ⟨w.heap.size + 1 + 1 + 1 + 1 + 1 + 1 + 1 + 1 + 1 + 1 + 1 + 1 + 1 + 1 + 1, 0, none⟩) 1 1] 25)
  replace b10 := b10.alloc (.cells #[.slice none 0 0, .slice (some ⟨w.heap.size + 1 + 1 + 1 + 1 + 1 + 1 + 1 + 1 + 1 + 1 + 1 + 1 + 1 + 1 + 1, 0, none⟩) 1 1] 25)
  replace b11 := b11.alloc (.cells #[.slice none 0 0, .slice (some ⟨w.heap.size + 1 + 1 + 1 + 1 + 1 + 1 + 1 + 1 + 1 + 1 + 1 + 1 + 1 + 1 + 1, 0, none⟩) 1 1] 25)
  replace b12 := b12.alloc (.cells #[.slice none 0 0, .slice (some ⟨w.heap.size + 1 + 1 + 1 + 1 + 1 + 1 + 1 + 1 + 1 + 1 + 1 + 1 + 1 + 1 + 1, 0, none⟩) 1 1] 25)
  replace b14 := b14.alloc (.cells #[.slice none 0 0, .slice (some ⟨w.heap.size + 1 + 1 + 1 + 1 + 1 + 1 + 1 + 1 + 1 + 1 + 1 + 1 + 1 + 1 + 1, 0, none⟩) 1 1] 25)
  replace b15 := b15.alloc (.cells #[.slice none 0 0, .slice (some ⟨w.heap.size + 1 + 1 + 1 + 1 + 1 + 1 + 1 + 1 + 1 + 1 + 1 + 1 + 1 + 1 + 1, 0, none⟩) 1 1] 25)
  obtain ⟨W, hW⟩ : ∃ W, (((((((((((((((((w.alloc (.cells #[.string ⟨#[97]⟩, .string ⟨#[66]⟩] 9)).alloc (.cells #[.int .i64 1, .int .i64 1, .string ⟨#[]⟩, .slice none 0 0] 41)).alloc (.cells #[.int .i64 1, .int .i64 1, .string ⟨#[]⟩, .slice none 0 0] 41)).alloc (.cells #[.int .i64 9, .string ⟨#[]⟩, .int .i64 0, .slice (some ⟨w.heap.size + 1 + 1, 0, none⟩) 1 1, .slice none 0 0, .slice none 0 0] 38)).alloc (.cells #[.string ⟨#[102]⟩, .slice (some ⟨w.heap.size, 0, none⟩) 2 2, .slice (some ⟨w.heap.size + 1 + 1 + 1, 0, none⟩) 1 1] 35)).alloc (.cells #[.int .i64 1, .int .i64 0, .string ⟨#[]⟩, .slice none 0 0] 41)).alloc (.cells #[.int .i64 1, .int .i64 0, .string ⟨#[]⟩, .slice none 0 0] 41)).alloc (.cells #[.int .i64 1, .int .i64 2, .string ⟨#[]⟩, .slice none 0 0] 41)).alloc (.cells #[.int .i64 1, .int .i64 2, .string ⟨#[]⟩, .slice none 0 0] 41)).alloc (.cells #[.int .i64 6, .int .i64 0, .string ⟨#[]⟩, .slice (some ⟨w.heap.size + 1 + 1 + 1 + 1 + 1 + 1 + 1 + 1, 0, none⟩) 1 1] 41)).alloc (.cells #[.int .i64 1, .string ⟨#[120]⟩, .int .i64 0, .slice (some ⟨w.heap.size + 1 + 1 + 1 + 1 + 1 + 1 + 1 + 1 + 1, 0, none⟩) 1 1, .slice none 0 0, .slice none 0 0] 38)).alloc (.cells #[.int .i64 8, .string ⟨#[]⟩, .int .i64 0, .slice (some ⟨w.heap.size + 1 + 1 + 1 + 1 + 1 + 1, 0, none⟩) 1 1, .slice (some ⟨w.heap.size + 1 + 1 + 1 + 1 + 1 + 1 + 1 + 1 + 1 + 1, 0, none⟩) 1 1, .slice none 0 0] 38)).alloc (.cells #[.slice (some ⟨w.heap.size + 1 + 1 + 1 + 1, 0, none⟩) 1 1, .slice (some ⟨w.heap.size + 1 + 1 + 1 + 1 + 1 + 1 + 1 + 1 + 1 + 1 + 1, 0, none⟩) 1 1] 25)).alloc (.cells #[.int .i64 1, .int .i64 1, .string ⟨#[]⟩, .slice none 0 0] 41)).alloc (.cells #[.int .i64 1, .int .i64 1, .string ⟨#[]⟩, .slice none 0 0] 41)).alloc (.cells #[.int .i64 1, .string ⟨#[105, 102]⟩, .int .i64 0, .slice (some ⟨w.heap.size + 1 + 1 + 1 + 1 + 1 + 1 + 1 + 1 + 1 + 1 + 1 + 1 + 1 + 1, 0, none⟩) 1 1, .slice none 0 0, .slice none 0 0] 38)).alloc (.cells #[.slice none 0 0, .slice (some ⟨w.heap.size + 1 + 1 + 1 + 1 + 1 + 1 + 1 + 1 + 1 + 1 + 1 + 1 + 1 + 1 + 1, 0, none⟩) 1 1] 25)) = W := ⟨_, rfl⟩
  rw [hW] at b0 b2 b3 b4 b6 b8 b9 b10 b11 b12 b14 b15 b16 ⊢
  clear hW
  have e2 := ev_one b2 (ev_nil _ _) ⟨i64_of (by decide), i64_of (by decide), by decide⟩
  have e6 := ev_one b6 (ev_nil _ _) ⟨i64_of (by decide), i64_of (by decide), by decide⟩
  have e8 := ev_one b8 (ev_nil _ _) ⟨i64_of (by decide), i64_of (by decide), by decide⟩
  have e9 := ev_one b9 e8 ⟨i64_of (by decide), i64_of (by decide), by decide⟩
  have e14 := ev_one b14 (ev_nil _ _) ⟨i64_of (by decide), i64_of (by decide), by decide⟩
  have s3 := sv_one b3 e2 (sv_nil _ _) (sv_nil _ _) ⟨i64_of (by decide), i64_of (by decide), by decide⟩
  have s10 := sv_one b10 e9 (sv_nil _ _) (sv_nil _ _) ⟨i64_of (by decide), i64_of (by decide), by decide⟩
  have s11 := sv_one b11 e6 s10 (sv_nil _ _) ⟨i64_of (by decide), i64_of (by decide), by decide⟩
  have s15 := sv_one b15 e14 (sv_nil _ _) (sv_nil _ _) ⟨i64_of (by decide), i64_of (by decide), by decide⟩
  refine ⟨b12.at 0 _ rfl, b12.at 1 _ rfl, b16.at 0 _ rfl, b16.at 1 _ rfl, ⟨_, _, _, _, rfl, ?_, s11⟩, ⟨_, _, _, _, rfl, ⟨_, _, rfl, Nat.le_refl _, by decide, fun h => by simp [Q1] at h⟩, s15⟩, b12.1, b16.1⟩
  exact ⟨_, _, rfl, Nat.le_refl _, by decide, fun _ => ⟨_, 0, rfl, b4.1, b4.at 0 _ rfl, ⟨_, b4.at 1 _ rfl, _, _, rfl, Nat.le_refl _, by decide, fun _ => ⟨_, 0, rfl, b0.1, b0.at 0 _ rfl, by decide, b0.at 1 _ rfl, by decide, trivial⟩⟩, ⟨_, b4.at 2 _ rfl, s3⟩, by decide, trivial⟩⟩

theorem p1_right : rightN P1 = 0 := by decide +kernel
theorem p1_deep : deepL P1.pts = 4 := by decide +kernel
theorem p1_cnt : wrap64 (cntL P1.pts) = 7 := by decide +kernel
theorem q1_right : rightN Q1 = 1 := by decide +kernel
theorem z1_right : rightN Z1 = 0 := by decide +kernel
theorem pq_same : eqG P1 P1 = true := (eqG_iff _ _).2 rfl
theorem pq_other : eqG P1 Q1 = false := by
  cases h : eqG P1 Q1 with
  | false => rfl
  | true =>
    have := congrArg (fun p => p.fs.length) ((eqG_iff _ _).1 h)
    simp [P1, Q1] at this

section
variable {W : World} {bp bq : Nat} {Af Am Aq : Option Addr}
theorem sh_right (h : PQ W bp bq Af Am Aq) (ht : Tab W) : Calls Tryd.prog 12 #[.agg #[.slice Af 1 1, .slice Am 1 1]] W fun e w' => e = .returned (.int .i64 0) ∧ Below W.heap.size W w' :=
  (right_any _ P1 W _ (Nat.le_refl _) h.hp ht).mono fun _ _ ⟨he, hb⟩ => ⟨by rw [he, p1_right], hb⟩
theorem sh_deep (h : PQ W bp bq Af Am Aq) : Calls Tryd.prog 14 #[.agg #[.slice Af 1 1, .slice Am 1 1]] W fun e w' => e = .returned (.int .i64 4) ∧ Below W.heap.size W w' :=
  (depth_any _ P1 W _ (Nat.le_refl _) h.hp).mono fun _ _ ⟨he, hb⟩ => ⟨by rw [he, p1_deep], hb⟩
theorem sh_size (h : PQ W bp bq Af Am Aq) : Calls Tryd.prog 16 #[.agg #[.slice Af 1 1, .slice Am 1 1]] W fun e w' => e = .returned (.int .i64 7) ∧ Below W.heap.size W w' :=
  (size_any _ P1 W _ (Nat.le_refl _) h.hp).mono fun _ _ ⟨he, hb⟩ => ⟨by rw [he, p1_cnt], hb⟩
theorem sh_wrong (h : PQ W bp bq Af Am Aq) (ht : Tab W) : Calls Tryd.prog 12 #[.agg #[.slice none 0 0, .slice Aq 1 1]] W fun e w' => e = .returned (.int .i64 1) ∧ Below W.heap.size W w' :=
  (right_any _ Q1 W _ (Nat.le_refl _) h.hq ht).mono fun _ _ ⟨he, hb⟩ => ⟨by rw [he, q1_right], hb⟩
theorem sh_same (h : PQ W bp bq Af Am Aq) : Calls Tryd.prog 18 #[.agg #[.slice Af 1 1, .slice Am 1 1], .agg #[.slice Af 1 1, .slice Am 1 1]] W fun e w' => e = .returned (.bool true) ∧ Below W.heap.size W w' :=
  (equal_any _ _ P1 P1 W _ (Nat.le_refl _) h.hp h.hp).mono fun _ _ ⟨he, hb⟩ => ⟨by rw [he, pq_same], hb⟩
theorem sh_other (h : PQ W bp bq Af Am Aq) : Calls Tryd.prog 18 #[.agg #[.slice Af 1 1, .slice Am 1 1], .agg #[.slice none 0 0, .slice Aq 1 1]] W fun e w' => e = .returned (.bool false) ∧ Below W.heap.size W w' :=
  (equal_any _ _ P1 Q1 W _ (Nat.le_refl _) h.hp h.hq).mono fun _ _ ⟨he, hb⟩ => ⟨by rw [he, pq_other], hb⟩
theorem z1_pg (W : World) : PgV W.heap.size W (.agg #[.slice none 0 0, .slice none 0 0]) Z1 :=
  ⟨none, 0, none, 0, rfl, ⟨_, _, rfl, Nat.le_refl _, by decide, fun h => by simp [Z1] at h⟩, sv_nil _ _⟩
theorem sh_none (ht : Tab W) : Calls Tryd.prog 12 #[.agg #[.slice none 0 0, .slice none 0 0]] W fun e w' => e = .returned (.int .i64 0) ∧ Below W.heap.size W w' :=
  (right_any _ Z1 W _ (Nat.le_refl _) (z1_pg W) ht).mono fun _ _ ⟨he, hb⟩ => ⟨by rw [he, z1_right], hb⟩
end
theorem sh_n1 (w : World) : Calls Tryd.prog 20 #[.string ⟨#[97, 95, 49]⟩] w fun e w' => e = .returned (.bool true) ∧ w = w' :=
  (name_any _ w (by decide)).mono fun _ _ ⟨he, hb⟩ => ⟨by rw [he, show nameB ⟨#[97, 95, 49]⟩ = true by decide +kernel], hb⟩
theorem sh_n2 (w : World) : Calls Tryd.prog 20 #[.string ⟨#[99, 108, 111, 99, 107]⟩] w fun e w' => e = .returned (.bool false) ∧ w = w' :=
  (name_any _ w (by decide)).mono fun _ _ ⟨he, hb⟩ => ⟨by rw [he, show nameB ⟨#[99, 108, 111, 99, 107]⟩ = false by decide +kernel], hb⟩
theorem sh_n3 (w : World) : Calls Tryd.prog 20 #[.string ⟨#[95, 97]⟩] w fun e w' => e = .returned (.bool false) ∧ w = w' :=
  (name_any _ w (by decide)).mono fun _ _ ⟨he, hb⟩ => ⟨by rw [he, show nameB ⟨#[95, 97]⟩ = false by decide +kernel], hb⟩
theorem sh_n4 (w : World) : Calls Tryd.prog 20 #[.string ⟨#[]⟩] w fun e w' => e = .returned (.bool false) ∧ w = w' :=
  (name_any _ w (by decide)).mono fun _ _ ⟨he, hb⟩ => ⟨by rw [he, show nameB ⟨#[]⟩ = false by decide +kernel], hb⟩

set_option maxRecDepth 100000 in
set_option maxHeartbeats 8000000 in
/-- 'shown' tells true, from w0. -/
theorem shown_fr (w0 w : World) (ht : Tab w) (h : Fr w0 w) :
    Calls Tryd.prog 11 #[] w fun e w' => e = .returned (.bool true) ∧ Fr w0 w' := by
  have HPQ := pq_chain w
  have HFR := (((((((((((((((((h.alloc (.cells #[.string ⟨#[97]⟩, .string ⟨#[66]⟩] 9)).alloc (.cells #[.int .i64 1, .int .i64 1, .string ⟨#[]⟩, .slice none 0 0] 41)).alloc (.cells #[.int .i64 1, .int .i64 1, .string ⟨#[]⟩, .slice none 0 0] 41)).alloc (.cells #[.int .i64 9, .string ⟨#[]⟩, .int .i64 0, .slice (some ⟨w.heap.size + 1 + 1, 0, none⟩) 1 1, .slice none 0 0, .slice none 0 0] 38)).alloc (.cells #[.string ⟨#[102]⟩, .slice (some ⟨w.heap.size, 0, none⟩) 2 2, .slice (some ⟨w.heap.size + 1 + 1 + 1, 0, none⟩) 1 1] 35)).alloc (.cells #[.int .i64 1, .int .i64 0, .string ⟨#[]⟩, .slice none 0 0] 41)).alloc (.cells #[.int .i64 1, .int .i64 0, .string ⟨#[]⟩, .slice none 0 0] 41)).alloc (.cells #[.int .i64 1, .int .i64 2, .string ⟨#[]⟩, .slice none 0 0] 41)).alloc (.cells #[.int .i64 1, .int .i64 2, .string ⟨#[]⟩, .slice none 0 0] 41)).alloc (.cells #[.int .i64 6, .int .i64 0, .string ⟨#[]⟩, .slice (some ⟨w.heap.size + 1 + 1 + 1 + 1 + 1 + 1 + 1 + 1, 0, none⟩) 1 1] 41)).alloc (.cells #[.int .i64 1, .string ⟨#[120]⟩, .int .i64 0, .slice (some ⟨w.heap.size + 1 + 1 + 1 + 1 + 1 + 1 + 1 + 1 + 1, 0, none⟩) 1 1, .slice none 0 0, .slice none 0 0] 38)).alloc (.cells #[.int .i64 8, .string ⟨#[]⟩, .int .i64 0, .slice (some ⟨w.heap.size + 1 + 1 + 1 + 1 + 1 + 1, 0, none⟩) 1 1, .slice (some ⟨w.heap.size + 1 + 1 + 1 + 1 + 1 + 1 + 1 + 1 + 1 + 1, 0, none⟩) 1 1, .slice none 0 0] 38)).alloc (.cells #[.slice (some ⟨w.heap.size + 1 + 1 + 1 + 1, 0, none⟩) 1 1, .slice (some ⟨w.heap.size + 1 + 1 + 1 + 1 + 1 + 1 + 1 + 1 + 1 + 1 + 1, 0, none⟩) 1 1] 25)).alloc (.cells #[.int .i64 1, .int .i64 1, .string ⟨#[]⟩, .slice none 0 0] 41)).alloc (.cells #[.int .i64 1, .int .i64 1, .string ⟨#[]⟩, .slice none 0 0] 41)).alloc (.cells #[.int .i64 1, .string ⟨#[105, 102]⟩, .int .i64 0, .slice (some ⟨w.heap.size + 1 + 1 + 1 + 1 + 1 + 1 + 1 + 1 + 1 + 1 + 1 + 1 + 1 + 1, 0, none⟩) 1 1, .slice none 0 0, .slice none 0 0] 38)).alloc (.cells #[.slice none 0 0, .slice (some ⟨w.heap.size + 1 + 1 + 1 + 1 + 1 + 1 + 1 + 1 + 1 + 1 + 1 + 1 + 1 + 1 + 1, 0, none⟩) 1 1] 25))
  have HTB := ht.step ((((((((((((((((((Below.refl w.heap.size w).alloc (Nat.le_refl _) (.cells #[.string ⟨#[97]⟩, .string ⟨#[66]⟩] 9)).alloc (by simp only [World.size_alloc]; omega) (.cells #[.int .i64 1, .int .i64 1, .string ⟨#[]⟩, .slice none 0 0] 41)).alloc (by simp only [World.size_alloc]; omega) (.cells #[.int .i64 1, .int .i64 1, .string ⟨#[]⟩, .slice none 0 0] 41)).alloc (by simp only [World.size_alloc]; omega) (.cells #[.int .i64 9, .string ⟨#[]⟩, .int .i64 0, .slice (some ⟨w.heap.size + 1 + 1, 0, none⟩) 1 1, .slice none 0 0, .slice none 0 0] 38)).alloc (by simp only [World.size_alloc]; omega) (.cells #[.string ⟨#[102]⟩, .slice (some ⟨w.heap.size, 0, none⟩) 2 2, .slice (some ⟨w.heap.size + 1 + 1 + 1, 0, none⟩) 1 1] 35)).alloc (by simp only [World.size_alloc]; omega) (.cells #[.int .i64 1, .int .i64 0, .string ⟨#[]⟩, .slice none 0 0] 41)).alloc (by simp only [World.size_alloc]; omega) (.cells #[.int .i64 1, .int .i64 0, .string ⟨#[]⟩, .slice none 0 0] 41)).alloc (by simp only [World.size_alloc]; omega) (.cells #[.int .i64 1, .int .i64 2, .string ⟨#[]⟩, .slice none 0 0] 41)).alloc (by simp only [World.size_alloc]; omega) (.cells #[.int .i64 1, .int .i64 2, .string ⟨#[]⟩, .slice none 0 0] 41)).alloc (by simp only [World.size_alloc]; omega) (.cells #[.int .i64 6, .int .i64 0, .string ⟨#[]⟩, .slice (some ⟨w.heap.size + 1 + 1 + 1 + 1 + 1 + 1 + 1 + 1, 0, none⟩) 1 1] 41)).alloc (by simp only [World.size_alloc]; omega) (.cells #[.int .i64 1, .string ⟨#[120]⟩, .int .i64 0, .slice (some ⟨w.heap.size + 1 + 1 + 1 + 1 + 1 + 1 + 1 + 1 + 1, 0, none⟩) 1 1, .slice none 0 0, .slice none 0 0] 38)).alloc (by simp only [World.size_alloc]; omega) (.cells #[.int .i64 8, .string ⟨#[]⟩, .int .i64 0, .slice (some ⟨w.heap.size + 1 + 1 + 1 + 1 + 1 + 1, 0, none⟩) 1 1, .slice (some ⟨w.heap.size + 1 + 1 + 1 + 1 + 1 + 1 + 1 + 1 + 1 + 1, 0, none⟩) 1 1, .slice none 0 0] 38)).alloc (by simp only [World.size_alloc]; omega) (.cells #[.slice (some ⟨w.heap.size + 1 + 1 + 1 + 1, 0, none⟩) 1 1, .slice (some ⟨w.heap.size + 1 + 1 + 1 + 1 + 1 + 1 + 1 + 1 + 1 + 1 + 1, 0, none⟩) 1 1] 25)).alloc (by simp only [World.size_alloc]; omega) (.cells #[.int .i64 1, .int .i64 1, .string ⟨#[]⟩, .slice none 0 0] 41)).alloc (by simp only [World.size_alloc]; omega) (.cells #[.int .i64 1, .int .i64 1, .string ⟨#[]⟩, .slice none 0 0] 41)).alloc (by simp only [World.size_alloc]; omega) (.cells #[.int .i64 1, .string ⟨#[105, 102]⟩, .int .i64 0, .slice (some ⟨w.heap.size + 1 + 1 + 1 + 1 + 1 + 1 + 1 + 1 + 1 + 1 + 1 + 1 + 1 + 1, 0, none⟩) 1 1, .slice none 0 0, .slice none 0 0] 38)).alloc (by simp only [World.size_alloc]; omega) (.cells #[.slice none 0 0, .slice (some ⟨w.heap.size + 1 + 1 + 1 + 1 + 1 + 1 + 1 + 1 + 1 + 1 + 1 + 1 + 1 + 1 + 1, 0, none⟩) 1 1] 25))
  clear ht h
  go_enter Tryd.func11, Tryd.ntmps11
  go_wp2_with (first
    | (go_at_call 22; ((with_reducible refine (one_any _ _).mono ?_); rintro e w1 ⟨rfl, rfl⟩))
    | (go_at_call 12; ((with_reducible refine (sh_right (by assumption) (by assumption)).mono ?_); rintro e w1 ⟨rfl, hb⟩; have hpq := PQ.step (by assumption) hb; have htb := Tab.step (by assumption) hb; have hfr := Fr.step (by assumption) hb; obtain ⟨x0, x1, x2, x3, _, _, _, _⟩ := id hpq))
    | (go_at_call 12; ((with_reducible refine (sh_wrong (by assumption) (by assumption)).mono ?_); rintro e w1 ⟨rfl, hb⟩; have hpq := PQ.step (by assumption) hb; have htb := Tab.step (by assumption) hb; have hfr := Fr.step (by assumption) hb; obtain ⟨x0, x1, x2, x3, _, _, _, _⟩ := id hpq))
    | (go_at_call 12; ((with_reducible refine (sh_none (by assumption)).mono ?_); rintro e w1 ⟨rfl, hb⟩; have hpq := PQ.step (by assumption) hb; have htb := Tab.step (by assumption) hb; have hfr := Fr.step (by assumption) hb; obtain ⟨x0, x1, x2, x3, _, _, _, _⟩ := id hpq))
    | (go_at_call 14; ((with_reducible refine (sh_deep (by assumption)).mono ?_); rintro e w1 ⟨rfl, hb⟩; have hpq := PQ.step (by assumption) hb; have htb := Tab.step (by assumption) hb; have hfr := Fr.step (by assumption) hb; obtain ⟨x0, x1, x2, x3, _, _, _, _⟩ := id hpq))
    | (go_at_call 16; ((with_reducible refine (sh_size (by assumption)).mono ?_); rintro e w1 ⟨rfl, hb⟩; have hpq := PQ.step (by assumption) hb; have htb := Tab.step (by assumption) hb; have hfr := Fr.step (by assumption) hb; obtain ⟨x0, x1, x2, x3, _, _, _, _⟩ := id hpq))
    | (go_at_call 18; ((with_reducible refine (sh_same (by assumption)).mono ?_); rintro e w1 ⟨rfl, hb⟩; have hpq := PQ.step (by assumption) hb; have htb := Tab.step (by assumption) hb; have hfr := Fr.step (by assumption) hb; obtain ⟨x0, x1, x2, x3, _, _, _, _⟩ := id hpq))
    | (go_at_call 18; ((with_reducible refine (sh_other (by assumption)).mono ?_); rintro e w1 ⟨rfl, hb⟩; have hpq := PQ.step (by assumption) hb; have htb := Tab.step (by assumption) hb; have hfr := Fr.step (by assumption) hb; obtain ⟨x0, x1, x2, x3, _, _, _, _⟩ := id hpq))
    | (go_at_call 20; ((with_reducible refine (sh_n1 _).mono ?_); rintro e w1 ⟨rfl, rfl⟩))
    | (go_at_call 20; ((with_reducible refine (sh_n2 _).mono ?_); rintro e w1 ⟨rfl, rfl⟩))
    | (go_at_call 20; ((with_reducible refine (sh_n3 _).mono ?_); rintro e w1 ⟨rfl, rfl⟩))
    | (go_at_call 20; ((with_reducible refine (sh_n4 _).mono ?_); rintro e w1 ⟨rfl, rfl⟩)))
  go_ret
  exact ⟨rfl, by assumption⟩

end Go.Proofs.YtnjghoaelcpljaaDoor
