/-
  ScopeKinds: a name that is a variable, an array, or a function, here and there.
-/
import Derived.Test.YtmhngbfpldiinaaDoorSqN
import Derived.OrdersHeld
namespace Go.Proofs.YtmhngbfpldiinaaDoor
open Go Go.RowKit Go.Lib

def ko : Nat → Int
  | 0 => 4
  | 1 => 3
  | _ => 6
def ks : Nat → ByteArray
  | 0 => ⟨#[113]⟩
  | 1 => ⟨#[113]⟩
  | _ => ⟨#[]⟩
def kn : Nat → Int
  | 1 => 1
  | _ => 0
def kE : Nat → ES
  | 0 => .nil
  | 1 => .nil
  | _ => .cons 5 0 ⟨#[113]⟩ .nil .nil
def kA (n : Nat) : Nat → Option Addr
  | 0 => none
  | 1 => none
  | _ => some ⟨n, 0, none⟩
def kz : Nat → Nat
  | 0 => 0
  | 1 => 0
  | _ => 1
def kS (t : Nat) (r : SS) : SS := .cons (ko t) (ks t) (kn t) (kE t) .nil .nil r
def pgA (h t : Nat) : Pg := ⟨[⟨⟨#[113]⟩, [], .nil⟩, ⟨⟨#[102]⟩, [], kS t .nil⟩], kS h .nil⟩
def pgB (h t : Nat) : Pg := ⟨[⟨⟨#[113]⟩, [], .nil⟩, ⟨⟨#[102]⟩, [], .nil⟩], kS h (kS t .nil)⟩
theorem pgAB_err : ∀ h t : Fin 3, resErr (pgA h.val t.val) = 0 ∧ resErr (pgB h.val t.val) = (if h.val + t.val = 1 then 4 else 0) ∧ cntL (pgA h.val t.val).pts ≤ 10000000 ∧ cntL (pgB h.val t.val).pts ≤ 10000000 := by decide +kernel
abbrev kcO : Obj := .cells #[.int .i64 5, .int .i64 0, .string ⟨#[113]⟩, .slice none 0 0] 43
abbrev kdO (n : Nat) : Obj := .cells #[.int .i64 4, .string ⟨#[113]⟩, .int .i64 0, .slice none 0 0, .slice none 0 0, .slice none 0 0, .int .i64 3, .string ⟨#[113]⟩, .int .i64 1, .slice none 0 0, .slice none 0 0, .slice none 0 0, .int .i64 6, .string ⟨#[]⟩, .int .i64 0, .slice (some ⟨n, 0, none⟩) 1 1, .slice none 0 0, .slice none 0 0] 45
abbrev k2O (n h t : Nat) : Obj := .cells #[.int .i64 (ko h), .string (ks h), .int .i64 (kn h), .slice (kA n h) (kz h) (kz h), .slice none 0 0, .slice none 0 0, .int .i64 (ko t), .string (ks t), .int .i64 (kn t), .slice (kA n t) (kz t) (kz t), .slice none 0 0, .slice none 0 0] 45
/-- The six cells of a kind. -/
def KAt (W : World) (kb o n t : Nat) : Prop := W.cell? ⟨kb, o, none⟩ = some (.int .i64 (ko t)) ∧ W.cell? ⟨kb, o + 1, none⟩ = some (.string (ks t)) ∧ W.cell? ⟨kb, o + 2, none⟩ = some (.int .i64 (kn t)) ∧ W.cell? ⟨kb, o + 3, none⟩ = some (.slice (kA n t) (kz t) (kz t)) ∧ W.cell? ⟨kb, o + 4, none⟩ = some (.slice none 0 0) ∧ W.cell? ⟨kb, o + 5, none⟩ = some (.slice none 0 0)
theorem k_at {W : World} {kb n : Nat} (hk : W.heap[kb]? = some (kdO n)) : ∀ t, t < 3 → KAt W kb (t * 6) n t
  | 0, _ => ⟨(blk_cell hk 0).trans rfl, (blk_cell hk 1).trans rfl, (blk_cell hk 2).trans rfl, (blk_cell hk 3).trans rfl, (blk_cell hk 4).trans rfl, (blk_cell hk 5).trans rfl⟩
  | 1, _ => ⟨(blk_cell hk 6).trans rfl, (blk_cell hk 7).trans rfl, (blk_cell hk 8).trans rfl, (blk_cell hk 9).trans rfl, (blk_cell hk 10).trans rfl, (blk_cell hk 11).trans rfl⟩
  | 2, _ => ⟨(blk_cell hk 12).trans rfl, (blk_cell hk 13).trans rfl, (blk_cell hk 14).trans rfl, (blk_cell hk 15).trans rfl, (blk_cell hk 16).trans rfl, (blk_cell hk 17).trans rfl⟩
  | t + 3, h => absurd h (by omega)
theorem k_in {W : World} {kb n o t B : Nat} (h : KAt W kb o n t) (ht : t < 3) (hn : W.heap[n]? = some kcO) (hB : n < B) (r : SS) (hr : r.In B W kb (o + 6)) : (kS t r).In B W kb o := by
  obtain ⟨h0, h1, h2, h3, h4, h5⟩ := h
  refine ⟨h0, h1, h2, ⟨_, h3, ?_⟩, ⟨_, h4, sv_nought _ _⟩, ⟨_, h5, sv_nought _ _⟩, ?_, hr⟩
  · match t, ht with
    | 0, _ => exact ev_nought _ _
    | 1, _ => exact ev_nought _ _
    | 2, _ => exact ⟨_, 1, rfl, Nat.le_refl _, by decide, fun _ => ⟨n, 0, rfl, hB, (blk_cell hn 0).trans rfl, (blk_cell hn 1).trans rfl, (blk_cell hn 2).trans rfl, ⟨_, (blk_cell hn 3).trans rfl, ev_nought _ _⟩, ⟨by decide, by decide, by show (⟨#[113]⟩ : ByteArray).size ≤ _; decide⟩, trivial⟩⟩
  · match t, ht with
    | 0, _ => exact ⟨by decide, by decide, by show (⟨#[113]⟩ : ByteArray).size ≤ _; decide⟩
    | 1, _ => exact ⟨by decide, by decide, by show (⟨#[113]⟩ : ByteArray).size ≤ _; decide⟩
    | 2, _ => exact ⟨by decide, by decide, by show (⟨#[]⟩ : ByteArray).size ≤ _; decide⟩
theorem k2_at {W : World} {b n h t : Nat} (hk : W.heap[b]? = some (k2O n h t)) : KAt W b 0 n h ∧ KAt W b 6 n t :=
  ⟨⟨(blk_cell hk 0).trans rfl, (blk_cell hk 1).trans rfl, (blk_cell hk 2).trans rfl, (blk_cell hk 3).trans rfl, (blk_cell hk 4).trans rfl, (blk_cell hk 5).trans rfl⟩,
   ⟨(blk_cell hk 6).trans rfl, (blk_cell hk 7).trans rfl, (blk_cell hk 8).trans rfl, (blk_cell hk 9).trans rfl, (blk_cell hk 10).trans rfl, (blk_cell hk 11).trans rfl⟩⟩
theorem k_set_at {W : World} {j k i : Nat} {o : Obj} {v : Value} (h : W.heap[j]? = some o) (hne : j ≠ k) : (W.setCell ⟨k, i, none⟩ v).heap[j]? = some o := (Below.heap_setCell W ⟨k, i, none⟩ v j hne).trans h
theorem k_set2 {W : World} {b : Nat} {c0 c1 : Value} {T : TypeId} (x0 x1 : Value) (h : W.heap[b]? = some (.cells #[c0, c1] T)) : ((W.setCell ⟨b, 0, none⟩ x0).setCell ⟨b, 1, none⟩ x1).heap[b]? = some (.cells #[x0, x1] T) := by
  have h0 := (blk_set h 0 x0).trans rfl
  have h1 := (blk_set h0 1 x1).trans rfl
  rw [h1]
  simp
abbrev pgV (fb : Nat) (v : Value) : Obj := .cells #[.slice (some ⟨fb, 0, none⟩) 2 2, v] 25
abbrev fsO (v : Value) : Obj := .cells #[.string ⟨#[113]⟩, .slice none 0 0, .slice none 0 0, .string ⟨#[102]⟩, .slice none 0 0, v] 37
theorem kfs_v {B : Nat} {W : World} {fb : Nat} {v : Value} {b : SS} (hk : W.heap[fb]? = some (fsO v)) (hB : fb < B) (hv : SV B W v b) : FV B W (.slice (some ⟨fb, 0, none⟩) 2 2) [⟨⟨#[113]⟩, [], .nil⟩, ⟨⟨#[102]⟩, [], b⟩] :=
  ⟨_, 2, rfl, Nat.le_refl _, by decide, fun _ => ⟨fb, 0, rfl, hB, (blk_cell hk 0).trans rfl, ⟨_, (blk_cell hk 1).trans rfl, ps_nought _ _⟩, ⟨_, (blk_cell hk 2).trans rfl, sv_nought _ _⟩, (by show (⟨#[113]⟩ : ByteArray).size ≤ _; decide), (blk_cell hk 3).trans rfl, ⟨_, (blk_cell hk 4).trans rfl, ps_nought _ _⟩, ⟨_, (blk_cell hk 5).trans rfl, hv⟩, (by show (⟨#[102]⟩ : ByteArray).size ≤ _; decide), trivial⟩⟩
theorem k1_sv {B : Nat} {W : World} {n t : Nat} (hc : W.heap[n]? = some kcO) (hk : W.heap[n + 1]? = some (kdO n)) (ht : t < 3) (hB : n + 1 < B) : SV B W (.slice (some ⟨n + 1, t * 6, none⟩) 1 (3 - t)) (kS t .nil) :=
  ⟨_, 3 - t, rfl, by show 1 ≤ 3 - t; omega, by omega, fun _ => ⟨n + 1, t * 6, rfl, hB, k_in (k_at hk t ht) ht hc (by omega) .nil trivial⟩⟩
theorem k2_sv {B : Nat} {W : World} {n b h t : Nat} (hc : W.heap[n]? = some kcO) (hk : W.heap[b]? = some (k2O n h t)) (hh : h < 3) (ht : t < 3) (hn : n < B) (hB : b < B) : SV B W (.slice (some ⟨b, 0, none⟩) 2 2) (kS h (kS t .nil)) :=
  ⟨_, 2, rfl, Nat.le_refl _, by decide, fun _ => ⟨b, 0, rfl, hB, k_in (k2_at hk).1 hh hc hn _ (k_in (k2_at hk).2 ht hc hn .nil trivial)⟩⟩
/-- What lies there when the program is put together. -/
structure KW (w : World) (n t : Nat) (W : World) : Prop where
  c : W.heap[n]? = some kcO
  k : W.heap[n + 1]? = some (kdO n)
  q : W.heap[n + 1 + 1]? = some (fnO ⟨#[113]⟩ (.slice none 0 0) (.slice none 0 0))
  f : W.heap[n + 1 + 1 + 1]? = some (fnO ⟨#[102]⟩ (.slice none 0 0) (.slice (some ⟨n + 1, t * 6, none⟩) 1 (3 - t)))
  b : Below w.heap.size w W
theorem KW.below {w W W' : World} {n t : Nat} (h : KW w n t W) (hb : Below W.heap.size W W') : KW w n t W' :=
  ⟨(hb.block _ (blk_lt h.c)).trans h.c, (hb.block _ (blk_lt h.k)).trans h.k, (hb.block _ (blk_lt h.q)).trans h.q, (hb.block _ (blk_lt h.f)).trans h.f, h.b.trans (hb.mono h.b.size)⟩

set_option maxRecDepth 100000 in
set_option maxHeartbeats 8000000 in
theorem kinds_walk (x y : Int) (apart : Bool) (w : World) (ht : Tab w) : Calls Tryd.prog 8 #[.int .i64 x, .int .i64 y, .bool apart] w fun e w' => e = .returned (.bool true) ∧ Below w.heap.size w w' := by
  obtain ⟨D1, hD1, h16a⟩ := and_16 x
  obtain ⟨D2, hD2, h16b⟩ := and_16 y
  obtain ⟨h, hN⟩ : ∃ N, D1 % 3 = N := ⟨_, rfl⟩
  obtain ⟨t, hM⟩ : ∃ M, D2 % 3 = M := ⟨_, rfl⟩
  have hh3 : h < 3 := by omega
  have ht3 : t < 3 := by omega
  have hrN : (D1 : Int) % 3 = (h : Int) := by omega
  have hrM : (D2 : Int) % 3 = (t : Int) := by omega
  have HS := Lib.hid (shown6_any w ht)
  have HT := Lib.hid ht
  have PE := Lib.hid (pgAB_err ⟨h, hh3⟩ ⟨t, ht3⟩)
  have wt : IntKind.i64.wrap ((t : Int) + 1) = (t : Int) + 1 := IntWalk.i64_in _ (by omega)
  have wh : IntKind.i64.wrap ((h : Int) + 1) = (h : Int) + 1 := IntWalk.i64_in _ (by omega)
  clear ht h16a h16b hN hM
  go_enter Tryd.func8, Tryd.ntmps8
  go_upto_region 3 with (go_at_call 10; ((with_reducible refine HS.out.mono ?_); rintro e w1 ⟨rfl, h1⟩))
  go_upto_region 5 with fail
  rw [hrN, hrM]
  go_upto_region 7 with fail
  obtain ⟨n, hn⟩ : ∃ n, w1.heap.size = n := ⟨_, rfl⟩
  obtain ⟨W, hW⟩ : ∃ W, (((w1.alloc kcO).alloc (kdO w1.heap.size)).alloc (fnO ⟨#[113]⟩ (.slice none 0 0) (.slice none 0 0))).alloc (fnO ⟨#[102]⟩ (.slice none 0 0) (.slice (some ⟨w1.heap.size + 1, t * 6, none⟩) 1 (3 - t))) = W := ⟨_, rfl⟩
  have kw : KW w n t W := by
    rw [← hW, hn]
    refine ⟨blk_alloc (blk_alloc (blk_alloc (blk_new hn) _) _) _, blk_alloc (blk_alloc (blk_new (by simp [hn])) _) _, blk_alloc (blk_new (by simp [hn])) _, blk_new (by simp [hn]), ?_⟩
    have hz := h1.size
    exact (((h1.alloc hz _).alloc (by simp; omega) _).alloc (by simp; omega) _).alloc (by simp; omega) _
  rw [hW, hn]
  have hsz : W.heap.size = n + 1 + 1 + 1 + 1 := by rw [← hW]; simp [hn]
  have hwn : w.heap.size ≤ n := by rw [← hn]; exact h1.size
  have KW0 := Lib.hid kw
  have HSZ := Lib.hid hsz
  have KC := Lib.hid (fun (W' : World) (hb : Below W.heap.size W W') =>
    (⟨⟨(blk_cell (kw.below hb).q 0).trans rfl, (blk_cell (kw.below hb).q 1).trans rfl, (blk_cell (kw.below hb).q 2).trans rfl⟩, ⟨(blk_cell (kw.below hb).f 0).trans rfl, (blk_cell (kw.below hb).f 1).trans rfl, (blk_cell (kw.below hb).f 2).trans rfl⟩, k_at (kw.below hb).k h hh3, k_at (kw.below hb).k t ht3, blk_lt (kw.below hb).c, blk_lt (kw.below hb).k, blk_lt (kw.below hb).q, blk_lt (kw.below hb).f⟩ :
      (W'.cell? ⟨n + 1 + 1, 0, none⟩ = some (.string ⟨#[113]⟩) ∧ W'.cell? ⟨n + 1 + 1, 1, none⟩ = some (.slice none 0 0) ∧ W'.cell? ⟨n + 1 + 1, 2, none⟩ = some (.slice none 0 0)) ∧ (W'.cell? ⟨n + 1 + 1 + 1, 0, none⟩ = some (.string ⟨#[102]⟩) ∧ W'.cell? ⟨n + 1 + 1 + 1, 1, none⟩ = some (.slice none 0 0) ∧ W'.cell? ⟨n + 1 + 1 + 1, 2, none⟩ = some (.slice (some ⟨n + 1, t * 6, none⟩) 1 (3 - t))) ∧ KAt W' (n + 1) (h * 6) n h ∧ KAt W' (n + 1) (t * 6) n t ∧ n < W'.heap.size ∧ n + 1 < W'.heap.size ∧ n + 1 + 1 < W'.heap.size ∧ n + 1 + 1 + 1 < W'.heap.size))
  clear hW hn h1 kw hD1 hD2 hrN hrM hsz
  refine wp_region_held_drew (S := fun W' => Below W.heap.size W W') (by kernel_rfl) (below_drw (Below.refl _ _)) (fun hS0 => ?_)
  obtain ⟨W0, hW0⟩ : ∃ x, W.drew = x := ⟨_, rfl⟩
  rw [hW0] at hS0 ⊢
  clear hW0
  refine wpAnyH_take (i := 0) (v := .agg #[.string ⟨#[113]⟩, .slice none 0 0, .slice none 0 0]) rfl (by kernel_rfl) (by kernel_rfl) (by kernel_rfl) (fun _ _ _ h => h) (Or.inl ⟨by rfl, ?_⟩) (by assumption) ?_
  · intro W' hSw
    obtain ⟨⟨j0, j1, j2⟩, ⟨j3, j4, j5⟩, ⟨j6, j7, j8, j9, j10, j11⟩, ⟨j12, j13, j14, j15, j16, j17⟩, m0, m1, m2, m3⟩ := KC.out W' hSw
    go_simp
  try simp only [Act.put, List.getElem_toArray, List.getElem_cons_zero, List.setIfInBounds_toArray, List.set_cons_zero, List.set_cons_succ]
  refine wpAnyH_take (i := 1) (v := .agg #[.string ⟨#[102]⟩, .slice none 0 0, .slice (some ⟨n + 1, t * 6, none⟩) 1 (3 - t)]) rfl (by kernel_rfl) (by kernel_rfl) (by kernel_rfl) (fun _ _ _ h => h) (Or.inl ⟨by rfl, ?_⟩) (by assumption) ?_
  · intro W' hSw
    obtain ⟨⟨j0, j1, j2⟩, ⟨j3, j4, j5⟩, ⟨j6, j7, j8, j9, j10, j11⟩, ⟨j12, j13, j14, j15, j16, j17⟩, m0, m1, m2, m3⟩ := KC.out W' hSw
    go_simp
  try simp only [Act.put, List.getElem_toArray, List.getElem_cons_zero, List.getElem_cons_succ, List.setIfInBounds_toArray, List.set_cons_zero, List.set_cons_succ]
  refine wpAnyH_take (i := 3) (v := .slice (some ⟨n + 1, 0, none⟩) 3 3) rfl (by kernel_rfl) (by kernel_rfl) (by kernel_rfl) (fun _ _ _ h => h) (Or.inl ⟨by rfl, ?_⟩) (by assumption) ?_
  · intro W' hSw
    obtain ⟨⟨j0, j1, j2⟩, ⟨j3, j4, j5⟩, ⟨j6, j7, j8, j9, j10, j11⟩, ⟨j12, j13, j14, j15, j16, j17⟩, m0, m1, m2, m3⟩ := KC.out W' hSw
    go_simp
  try simp only [Act.put, List.getElem_toArray, List.getElem_cons_zero, List.getElem_cons_succ, List.setIfInBounds_toArray, List.set_cons_zero, List.set_cons_succ]
  refine wpAnyH_take (i := 4) (v := .int .i64 (h : Int)) rfl (by kernel_rfl) (by kernel_rfl) (by kernel_rfl) (fun _ _ _ h => h) (Or.inl ⟨by rfl, ?_⟩) (by assumption) ?_
  · intro W' hSw
    obtain ⟨⟨j0, j1, j2⟩, ⟨j3, j4, j5⟩, ⟨j6, j7, j8, j9, j10, j11⟩, ⟨j12, j13, j14, j15, j16, j17⟩, m0, m1, m2, m3⟩ := KC.out W' hSw
    go_simp
  try simp only [Act.put, List.getElem_toArray, List.getElem_cons_zero, List.getElem_cons_succ, List.setIfInBounds_toArray, List.set_cons_zero, List.set_cons_succ]
  refine wpAnyH_take (i := 5) (v := .int .i64 (h : Int)) rfl (by kernel_rfl) (by kernel_rfl) (by kernel_rfl) (fun _ _ _ h => h) (Or.inl ⟨by rfl, ?_⟩) (by assumption) ?_
  · intro W' hSw
    obtain ⟨⟨j0, j1, j2⟩, ⟨j3, j4, j5⟩, ⟨j6, j7, j8, j9, j10, j11⟩, ⟨j12, j13, j14, j15, j16, j17⟩, m0, m1, m2, m3⟩ := KC.out W' hSw
    go_simp
  try simp only [Act.put, List.getElem_toArray, List.getElem_cons_zero, List.getElem_cons_succ, List.setIfInBounds_toArray, List.set_cons_zero, List.set_cons_succ]
  refine wpAnyH_take (i := 6) (v := .int .i64 ((h : Int) + 1)) rfl (by kernel_rfl) (by kernel_rfl) (by kernel_rfl) (fun _ _ _ h => h) (Or.inl ⟨by rfl, ?_⟩) (by assumption) ?_
  · intro W' hSw
    obtain ⟨⟨j0, j1, j2⟩, ⟨j3, j4, j5⟩, ⟨j6, j7, j8, j9, j10, j11⟩, ⟨j12, j13, j14, j15, j16, j17⟩, m0, m1, m2, m3⟩ := KC.out W' hSw
    go_simp
  try simp only [Act.put, List.getElem_toArray, List.getElem_cons_zero, List.getElem_cons_succ, List.setIfInBounds_toArray, List.set_cons_zero, List.set_cons_succ]
  refine wpAnyH_take (i := 7) (v := .slice (some ⟨n + 1, h * 6, none⟩) 1 (3 - h)) rfl (by kernel_rfl) (by kernel_rfl) (by kernel_rfl) (fun _ _ _ h => h) (Or.inl ⟨by rfl, ?_⟩) (by assumption) ?_
  · intro W' hSw
    obtain ⟨⟨j0, j1, j2⟩, ⟨j3, j4, j5⟩, ⟨j6, j7, j8, j9, j10, j11⟩, ⟨j12, j13, j14, j15, j16, j17⟩, m0, m1, m2, m3⟩ := KC.out W' hSw
    go_simp
    rw [if_pos ⟨by omega, by omega⟩, if_neg (by omega : ¬ 3 = h)]
  try simp only [Act.put, List.getElem_toArray, List.getElem_cons_zero, List.getElem_cons_succ, List.setIfInBounds_toArray, List.set_cons_zero, List.set_cons_succ]
  refine wpAnyH_ready (rs := [2, 9]) (by kernel_rfl) (by simp) ?_
  refine AllReadyH.cons rfl (fun K hK => ?_) (AllReadyH.cons rfl (fun K hK => ?_) AllReadyH.nil)
  · go_simp
    obtain ⟨W1, hW1⟩ : ∃ x, W0.alloc (.cells #[.string ⟨#[113]⟩, .slice none 0 0, .slice none 0 0, .string ⟨#[102]⟩, .slice none 0 0, .slice (some ⟨n + 1, t * 6, none⟩) 1 (3 - t)] 37) = x := ⟨_, rfl⟩
    have nb1 : W1.heap[W0.heap.size]? = some (.cells #[.string ⟨#[113]⟩, .slice none 0 0, .slice none 0 0, .string ⟨#[102]⟩, .slice none 0 0, .slice (some ⟨n + 1, t * 6, none⟩) 1 (3 - t)] 37) := by rw [← hW1]; exact heap_alloc_new _ _
    have z1 : Hid (W1.heap.size = W0.heap.size + 1) := hid (by rw [← hW1, World.size_alloc])
    have hS1 : Below W.heap.size W W1 := by rw [← hW1]; exact hS0.alloc hS0.size _
    rw [hW1]
    refine hK.out _ _ hS1 (fun _ => ?_)
    clear hK K
    try simp only [Act.put, List.getElem_toArray, List.getElem_cons_zero, List.getElem_cons_succ, List.setIfInBounds_toArray, List.set_cons_zero, List.set_cons_succ]
    refine wpAnyH_take (i := 8) (v := .agg #[.slice (some ⟨W0.heap.size, 0, none⟩) 2 2, .slice (some ⟨n + 1, h * 6, none⟩) 1 (3 - h)]) rfl (by kernel_rfl) (by kernel_rfl) (by kernel_rfl) (fun _ _ _ h => h) (Or.inl ⟨by rfl, ?_⟩) (by assumption) ?_
    · intro W' hSw
      obtain ⟨⟨j0, j1, j2⟩, ⟨j3, j4, j5⟩, ⟨j6, j7, j8, j9, j10, j11⟩, ⟨j12, j13, j14, j15, j16, j17⟩, m0, m1, m2, m3⟩ := KC.out W' hSw
      go_simp
    try simp only [Act.put, List.getElem_toArray, List.getElem_cons_zero, List.getElem_cons_succ, List.setIfInBounds_toArray, List.set_cons_zero, List.set_cons_succ]
    refine wpAnyH_ready (rs := [9]) (by kernel_rfl) (by simp) ?_
    refine AllReadyH.cons rfl (fun K hK => ?_) AllReadyH.nil
    go_simp
    obtain ⟨W2, hW2⟩ : ∃ x, W1.alloc (.cells #[.slice none 0 0, .slice none 0 0] 25) = x := ⟨_, rfl⟩
    have nb2 : W2.heap[W1.heap.size]? = some (.cells #[.slice none 0 0, .slice none 0 0] 25) := by rw [← hW2]; exact heap_alloc_new _ _
    have z2 : Hid (W2.heap.size = W1.heap.size + 1) := hid (by rw [← hW2, World.size_alloc])
    have hS2 : Below W.heap.size W W2 := by rw [← hW2]; exact hS1.alloc hS1.size _
    rw [hW2]
    refine hK.out _ _ hS2 (fun _ => ?_)
    clear hK K
    try simp only [Act.put, List.getElem_toArray, List.getElem_cons_zero, List.getElem_cons_succ, List.setIfInBounds_toArray, List.set_cons_zero, List.set_cons_succ]
    have kz0 : W2.heap[W1.heap.size]? = some (.cells #[.slice none 0 0, .slice none 0 0] 25) := nb2
    have kf0 : W2.heap[W0.heap.size]? = some (.cells #[.string ⟨#[113]⟩, .slice none 0 0, .slice none 0 0, .string ⟨#[102]⟩, .slice none 0 0, .slice (some ⟨n + 1, t * 6, none⟩) 1 (3 - t)] 37) := by rw [← hW2]; exact blk_alloc nb1 _
    have y0 : W2.cell? ⟨W1.heap.size, 0, none⟩ = some (.slice none 0 0) := (blk_cell kz0 0).trans rfl
    have y1 : W2.cell? ⟨W1.heap.size, 1, none⟩ = some (.slice none 0 0) := (blk_cell kz0 1).trans rfl
    have f0 := blk_frozen kz0 0
    have f1 := blk_frozen kz0 1
    have lt1 := blk_lt kz0
    clear hW1 hW2 nb1 nb2
    refine wpAnyH_ready (rs := [10]) (by kernel_rfl) (by simp) ?_
    refine AllReadyH.cons rfl (fun K hK => ?_) AllReadyH.nil
    go_simp
    obtain ⟨W3, hW3⟩ : ∃ x, (W2.setCell ⟨W1.heap.size, 0, none⟩ (.slice (some ⟨W0.heap.size, 0, none⟩) 2 2)).setCell ⟨W1.heap.size, 1, none⟩ (.slice (some ⟨n + 1, h * 6, none⟩) 1 (3 - h)) = x := ⟨_, rfl⟩
    have hz0 := hS0.size
    have hz1 := z1.out
    have hz2 := z2.out
    have kp : W3.heap[W1.heap.size]? = some (pgO (some ⟨W0.heap.size, 0, none⟩) 2 2 (some ⟨n + 1, h * 6, none⟩) 1 (3 - h)) := by rw [← hW3]; exact k_set2 _ _ kz0
    have kf : W3.heap[W0.heap.size]? = some (.cells #[.string ⟨#[113]⟩, .slice none 0 0, .slice none 0 0, .string ⟨#[102]⟩, .slice none 0 0, .slice (some ⟨n + 1, t * 6, none⟩) 1 (3 - t)] 37) := by rw [← hW3]; exact k_set_at (k_set_at kf0 (by omega)) (by omega)
    have hS3 : Below W.heap.size W W3 := by rw [← hW3]; exact (hS2.setCell (by show W.heap.size ≤ W1.heap.size; omega) _).setCell (by show W.heap.size ≤ W1.heap.size; omega) _
    have o1 : W.heap.size ≤ W1.heap.size := by omega
    have o2 : W.heap.size ≤ W0.heap.size := by omega
    have o3 : W1.heap.size ≠ W0.heap.size := by omega
    rw [hW3]
    clear hW3 y0 y1 f0 f1 lt1 kz0 kf0 z1 z2 hz1 hz2 hS1 hS2
    refine hK.out _ _ hS3 (fun _ => ?_)
    clear hK K
    try simp only [Act.put, List.getElem_toArray, List.getElem_cons_zero, List.getElem_cons_succ, List.setIfInBounds_toArray, List.set_cons_zero, List.set_cons_succ]
    refine wpAnyH_done (by kernel_rfl) ?_ _
    generalize W1.heap.size = pb at kp o1 o3 ⊢
    generalize W0.heap.size = fb at kp kf o2 o3 ⊢
    clear hS0 hz0
    have k0 : W3.cell? ⟨pb, 0, none⟩ = some (.slice (some ⟨fb, 0, none⟩) 2 2) := (blk_cell kp 0).trans rfl
    have k1 : W3.cell? ⟨pb, 1, none⟩ = some (.slice (some ⟨n + 1, h * 6, none⟩) 1 (3 - h)) := (blk_cell kp 1).trans rfl
    have kw := KW0.out.below hS3
    have l1 := blk_lt kf
    have l2 := blk_lt kp
    have l3 := blk_lt kw.k
    obtain ⟨pe1, pe2, pe3, pe4⟩ := PE.out
    have PE2 := Lib.hid pe2
    have PE4 := Lib.hid pe4
    have O1 := Lib.hid o1
    have O2 := Lib.hid o2
    have O3 := Lib.hid o3
    have HS3 := Lib.hid hS3
    cases apart with
    | true =>
      have hR := resolve_p _ (pgA h t) W3 (⟨_, 2, _, 3 - h, rfl, kfs_v kf l1 (k1_sv kw.c kw.k ht3 l3), k1_sv kw.c kw.k hh3 l3⟩ : PgV W3.heap.size W3 (.agg #[.slice (some ⟨fb, 0, none⟩) 2 2, .slice (some ⟨n + 1, h * 6, none⟩) 1 (3 - h)]) (pgA h t)) (HT.out.below kw.b HT.out.1) pe3
      rw [pe1] at hR
      have HR := Lib.hid hR
      have HB3 := Lib.hid kw.b
      clear hR kp kf kw pe1 pe2 pe3 pe4 o1 o2 o3 hS3
      go_wp2_with (go_at_call 11; ((with_reducible refine HR.out.mono ?_); rintro e w7 ⟨v7, rfl, _, hb7⟩))
      go_ret
      exact ⟨rfl, HB3.out.trans (hb7.mono HB3.out.size)⟩
    | false =>
      have g5 := blk_frozen kf 5
      have y5 : W3.cell? ⟨fb, 5, none⟩ = some (.slice (some ⟨n + 1, t * 6, none⟩) 1 (3 - t)) := (blk_cell kf 5).trans rfl
      have KF := Lib.hid kf
      have KP := Lib.hid kp
      clear kp kf kw pe1 pe2 pe3 pe4 o1 o2 o3 hS3
      go_upto_region 10 with fail
      obtain ⟨W4, hW4⟩ : ∃ x, W3.setCell ⟨fb, 5, none⟩ (.slice none 0 0) = x := ⟨_, rfl⟩
      have kp : W4.heap[pb]? = some (pgO (some ⟨fb, 0, none⟩) 2 2 (some ⟨n + 1, h * 6, none⟩) 1 (3 - h)) := by rw [← hW4]; exact k_set_at KP.out O3.out
      have kf : W4.heap[fb]? = some (fsO (.slice none 0 0)) := by rw [← hW4]; exact (blk_set KF.out 5 _).trans (by simp)
      have hS4 : Below W.heap.size W W4 := by rw [← hW4]; exact HS3.out.setCell O2.out _
      rw [hW4]
      clear hW4 g5 y5 k0 k1 l1 l2 l3
      have i1 : (h : Int) < 3 := by omega
      have i2 : (0 : Int) ≤ (h : Int) := by omega
      have i3 : (t : Int) < 3 := by omega
      have i4 : (0 : Int) ≤ (t : Int) := by omega
      have hT4 : (fun W' => Below W.heap.size W W' ∧ (∃ v, W'.heap[pb]? = some (pgV fb v)) ∧ W'.heap[fb]? = some (fsO (.slice none 0 0))) W4.drew := ⟨hS4.drew, ⟨_, kp⟩, kf⟩
      refine wp_region_held_drew (S := fun W' => Below W.heap.size W W' ∧ (∃ v, W'.heap[pb]? = some (pgV fb v)) ∧ W'.heap[fb]? = some (fsO (.slice none 0 0))) (by kernel_rfl) hT4 (fun hS0 => ?_)
      clear hT4 kp kf hS4
      obtain ⟨W5, hW5⟩ : ∃ x, W4.drew = x := ⟨_, rfl⟩
      rw [hW5] at hS0 ⊢
      clear hW5
      refine wpAnyH_take (i := 0) (v := .slice (some ⟨n + 1, 0, none⟩) 3 3) rfl (by kernel_rfl) (by kernel_rfl) (by kernel_rfl) (fun _ _ _ h => h) (Or.inl ⟨by rfl, ?_⟩) (by assumption) ?_
      · intro W' hSw
        obtain ⟨⟨j0, j1, j2⟩, ⟨j3, j4, j5⟩, ⟨j6, j7, j8, j9, j10, j11⟩, ⟨j12, j13, j14, j15, j16, j17⟩, m0, m1, m2, m3⟩ := KC.out W' hSw.1; obtain ⟨vv, hvv⟩ := hSw.2.1; have lpb := blk_lt hvv
        go_simp
      try simp only [Act.put, List.getElem_toArray, List.getElem_cons_zero, List.setIfInBounds_toArray, List.set_cons_zero, List.set_cons_succ]
      refine wpAnyH_take (i := 1) (v := .int .i64 (h : Int)) rfl (by kernel_rfl) (by kernel_rfl) (by kernel_rfl) (fun _ _ _ h => h) (Or.inl ⟨by rfl, ?_⟩) (by assumption) ?_
      · intro W' hSw
        obtain ⟨⟨j0, j1, j2⟩, ⟨j3, j4, j5⟩, ⟨j6, j7, j8, j9, j10, j11⟩, ⟨j12, j13, j14, j15, j16, j17⟩, m0, m1, m2, m3⟩ := KC.out W' hSw.1; obtain ⟨vv, hvv⟩ := hSw.2.1; have lpb := blk_lt hvv
        go_simp
      try simp only [Act.put, List.getElem_toArray, List.getElem_cons_zero, List.getElem_cons_succ, List.setIfInBounds_toArray, List.set_cons_zero, List.set_cons_succ]
      refine wpAnyH_take (i := 2) (v := .pointer (some ⟨n + 1, h * 6, none⟩)) rfl (by kernel_rfl) (by kernel_rfl) (by kernel_rfl) (fun _ _ _ h => h) (Or.inl ⟨by rfl, ?_⟩) (by assumption) ?_
      · intro W' hSw
        obtain ⟨⟨j0, j1, j2⟩, ⟨j3, j4, j5⟩, ⟨j6, j7, j8, j9, j10, j11⟩, ⟨j12, j13, j14, j15, j16, j17⟩, m0, m1, m2, m3⟩ := KC.out W' hSw.1; obtain ⟨vv, hvv⟩ := hSw.2.1; have lpb := blk_lt hvv
        go_simp
      try simp only [Act.put, List.getElem_toArray, List.getElem_cons_zero, List.getElem_cons_succ, List.setIfInBounds_toArray, List.set_cons_zero, List.set_cons_succ]
      refine wpAnyH_take (i := 3) (v := .agg #[.int .i64 (ko h), .string (ks h), .int .i64 (kn h), .slice (kA n h) (kz h) (kz h), .slice none 0 0, .slice none 0 0]) rfl (by kernel_rfl) (by kernel_rfl) (by kernel_rfl) (fun _ _ _ h => h) (Or.inl ⟨by rfl, ?_⟩) (by assumption) ?_
      · intro W' hSw
        obtain ⟨⟨j0, j1, j2⟩, ⟨j3, j4, j5⟩, ⟨j6, j7, j8, j9, j10, j11⟩, ⟨j12, j13, j14, j15, j16, j17⟩, m0, m1, m2, m3⟩ := KC.out W' hSw.1; obtain ⟨vv, hvv⟩ := hSw.2.1; have lpb := blk_lt hvv
        go_simp
      try simp only [Act.put, List.getElem_toArray, List.getElem_cons_zero, List.getElem_cons_succ, List.setIfInBounds_toArray, List.set_cons_zero, List.set_cons_succ]
      refine wpAnyH_take (i := 4) (v := .slice (some ⟨n + 1, 0, none⟩) 3 3) rfl (by kernel_rfl) (by kernel_rfl) (by kernel_rfl) (fun _ _ _ h => h) (Or.inl ⟨by rfl, ?_⟩) (by assumption) ?_
      · intro W' hSw
        obtain ⟨⟨j0, j1, j2⟩, ⟨j3, j4, j5⟩, ⟨j6, j7, j8, j9, j10, j11⟩, ⟨j12, j13, j14, j15, j16, j17⟩, m0, m1, m2, m3⟩ := KC.out W' hSw.1; obtain ⟨vv, hvv⟩ := hSw.2.1; have lpb := blk_lt hvv
        go_simp
      try simp only [Act.put, List.getElem_toArray, List.getElem_cons_zero, List.getElem_cons_succ, List.setIfInBounds_toArray, List.set_cons_zero, List.set_cons_succ]
      refine wpAnyH_take (i := 5) (v := .int .i64 (t : Int)) rfl (by kernel_rfl) (by kernel_rfl) (by kernel_rfl) (fun _ _ _ h => h) (Or.inl ⟨by rfl, ?_⟩) (by assumption) ?_
      · intro W' hSw
        obtain ⟨⟨j0, j1, j2⟩, ⟨j3, j4, j5⟩, ⟨j6, j7, j8, j9, j10, j11⟩, ⟨j12, j13, j14, j15, j16, j17⟩, m0, m1, m2, m3⟩ := KC.out W' hSw.1; obtain ⟨vv, hvv⟩ := hSw.2.1; have lpb := blk_lt hvv
        go_simp
      try simp only [Act.put, List.getElem_toArray, List.getElem_cons_zero, List.getElem_cons_succ, List.setIfInBounds_toArray, List.set_cons_zero, List.set_cons_succ]
      refine wpAnyH_take (i := 6) (v := .pointer (some ⟨n + 1, t * 6, none⟩)) rfl (by kernel_rfl) (by kernel_rfl) (by kernel_rfl) (fun _ _ _ h => h) (Or.inl ⟨by rfl, ?_⟩) (by assumption) ?_
      · intro W' hSw
        obtain ⟨⟨j0, j1, j2⟩, ⟨j3, j4, j5⟩, ⟨j6, j7, j8, j9, j10, j11⟩, ⟨j12, j13, j14, j15, j16, j17⟩, m0, m1, m2, m3⟩ := KC.out W' hSw.1; obtain ⟨vv, hvv⟩ := hSw.2.1; have lpb := blk_lt hvv
        go_simp
      try simp only [Act.put, List.getElem_toArray, List.getElem_cons_zero, List.getElem_cons_succ, List.setIfInBounds_toArray, List.set_cons_zero, List.set_cons_succ]
      refine wpAnyH_take (i := 7) (v := .agg #[.int .i64 (ko t), .string (ks t), .int .i64 (kn t), .slice (kA n t) (kz t) (kz t), .slice none 0 0, .slice none 0 0]) rfl (by kernel_rfl) (by kernel_rfl) (by kernel_rfl) (fun _ _ _ h => h) (Or.inl ⟨by rfl, ?_⟩) (by assumption) ?_
      · intro W' hSw
        obtain ⟨⟨j0, j1, j2⟩, ⟨j3, j4, j5⟩, ⟨j6, j7, j8, j9, j10, j11⟩, ⟨j12, j13, j14, j15, j16, j17⟩, m0, m1, m2, m3⟩ := KC.out W' hSw.1; obtain ⟨vv, hvv⟩ := hSw.2.1; have lpb := blk_lt hvv
        go_simp
      try simp only [Act.put, List.getElem_toArray, List.getElem_cons_zero, List.getElem_cons_succ, List.setIfInBounds_toArray, List.set_cons_zero, List.set_cons_succ]
      refine wpAnyH_ready (rs := [8]) (by kernel_rfl) (by simp) ?_
      refine AllReadyH.cons rfl (fun K hK => ?_) AllReadyH.nil
      go_simp
      obtain ⟨W6, hW6⟩ : ∃ x, W5.alloc (k2O n h t) = x := ⟨_, rfl⟩
      have kk : W6.heap[W5.heap.size]? = some (k2O n h t) := by rw [← hW6]; exact heap_alloc_new _ _
      have hS6 : Below W.heap.size W W6 ∧ (∃ v, W6.heap[pb]? = some (pgV fb v)) ∧ W6.heap[fb]? = some (fsO (.slice none 0 0)) := by rw [← hW6]; exact ⟨hS0.1.alloc hS0.1.size _, ⟨_, blk_alloc hS0.2.1.choose_spec _⟩, blk_alloc hS0.2.2 _⟩
      rw [hW6]
      clear hW6
      refine hK.out _ _ hS6 (fun _ => ?_)
      clear hK K
      try simp only [Act.put, List.getElem_toArray, List.getElem_cons_zero, List.getElem_cons_succ, List.setIfInBounds_toArray, List.set_cons_zero, List.set_cons_succ]
      refine wpAnyH_take (i := 9) (v := .pointer (some ⟨pb, 1, none⟩)) rfl (by kernel_rfl) (by kernel_rfl) (by kernel_rfl) (fun _ _ _ h => h) (Or.inl ⟨by rfl, ?_⟩) (by assumption) ?_
      · intro W' hSw
        obtain ⟨⟨j0, j1, j2⟩, ⟨j3, j4, j5⟩, ⟨j6, j7, j8, j9, j10, j11⟩, ⟨j12, j13, j14, j15, j16, j17⟩, m0, m1, m2, m3⟩ := KC.out W' hSw.1; obtain ⟨vv, hvv⟩ := hSw.2.1; have lpb := blk_lt hvv
        go_simp
      try simp only [Act.put, List.getElem_toArray, List.getElem_cons_zero, List.getElem_cons_succ, List.setIfInBounds_toArray, List.set_cons_zero, List.set_cons_succ]
      obtain ⟨v6, hp6⟩ := hS6.2.1
      have y1 : W6.cell? ⟨pb, 1, none⟩ = some v6 := (blk_cell hp6 1).trans rfl
      have f1 := blk_frozen hp6 1
      have lt1 := blk_lt hp6
      refine wpAnyH_ready (rs := [10]) (by kernel_rfl) (by simp) ?_
      refine AllReadyH.cons rfl (fun K hK => ?_) AllReadyH.nil
      go_simp
      obtain ⟨W7, hW7⟩ : ∃ x, W6.setCell ⟨pb, 1, none⟩ (.slice (some ⟨W5.heap.size, 0, none⟩) 2 2) = x := ⟨_, rfl⟩
      have l5 := blk_lt hS0.2.1.choose_spec
      have hp7 : W7.heap[pb]? = some (pgO (some ⟨fb, 0, none⟩) 2 2 (some ⟨W5.heap.size, 0, none⟩) 2 2) := by rw [← hW7]; exact (blk_set hp6 1 _).trans (by simp)
      have hS7 : Below W.heap.size W W7 ∧ (∃ v, W7.heap[pb]? = some (pgV fb v)) ∧ W7.heap[fb]? = some (fsO (.slice none 0 0)) := ⟨by rw [← hW7]; exact hS6.1.setCell O1.out _, ⟨_, hp7⟩, by rw [← hW7]; exact k_set_at hS6.2.2 (Ne.symm O3.out)⟩
      have kk7 : W7.heap[W5.heap.size]? = some (k2O n h t) := by rw [← hW7]; exact k_set_at kk (by omega)
      rw [hW7]
      clear hW7 y1 f1 lt1 hp6 v6 kk hS6 l5 hS0
      refine hK.out _ _ hS7 (fun _ => ?_)
      clear hK K
      try simp only [Act.put, List.getElem_toArray, List.getElem_cons_zero, List.getElem_cons_succ, List.setIfInBounds_toArray, List.set_cons_zero, List.set_cons_succ]
      refine wpAnyH_done (by kernel_rfl) ?_ _
      generalize W5.heap.size = kb at hp7 kk7 ⊢
      have kw := KW0.out.below hS7.1
      have k0 : W7.cell? ⟨pb, 0, none⟩ = some (.slice (some ⟨fb, 0, none⟩) 2 2) := (blk_cell hp7 0).trans rfl
      have k1 : W7.cell? ⟨pb, 1, none⟩ = some (.slice (some ⟨kb, 0, none⟩) 2 2) := (blk_cell hp7 1).trans rfl
      have l2 := blk_lt hp7
      have hR := resolve_p _ (pgB h t) W7 (⟨_, 2, _, 2, rfl, kfs_v hS7.2.2 (blk_lt hS7.2.2) (sv_nought _ _), k2_sv kw.c kk7 hh3 ht3 (blk_lt kw.c) (blk_lt kk7)⟩ : PgV W7.heap.size W7 (.agg #[.slice (some ⟨fb, 0, none⟩) 2 2, .slice (some ⟨kb, 0, none⟩) 2 2]) (pgB h t)) (HT.out.below kw.b HT.out.1) PE4.out
      rw [PE2.out] at hR
      have wht : IntKind.i64.wrap ((h : Int) + (t : Int)) = (h : Int) + (t : Int) := IntWalk.i64_in _ (by omega)
      have HB3 := Lib.hid kw.b
      by_cases hb : h + t = 1
      · rw [if_pos hb] at hR
        have HR := Lib.hid hR
        have q1 : ((h : Int) + (t : Int) == 1) = true := by simp; omega
        have q2 : decide ((h : Int) + (t : Int) = 1) = true := by simp; omega
        clear hR kw hp7 kk7 hS7 hb
        go_wp2_with (go_at_call 11; ((with_reducible refine HR.out.mono ?_); rintro e w7 ⟨v7, rfl, _, hb7⟩))
        go_ret
        exact ⟨rfl, HB3.out.trans (hb7.mono HB3.out.size)⟩
      · rw [if_neg hb] at hR
        have HR := Lib.hid hR
        have q1 : ((h : Int) + (t : Int) == 1) = false := by simp; omega
        have q2 : decide ((h : Int) + (t : Int) = 1) = false := by simp; omega
        clear hR kw hp7 kk7 hS7 hb
        go_wp2_with (go_at_call 11; ((with_reducible refine HR.out.mono ?_); rintro e w7 ⟨v7, rfl, _, hb7⟩))
        go_ret
        exact ⟨rfl, HB3.out.trans (hb7.mono HB3.out.size)⟩
  · go_simp
    obtain ⟨W1, hW1⟩ : ∃ x, W0.alloc (.cells #[.slice none 0 0, .slice none 0 0] 25) = x := ⟨_, rfl⟩
    have nb1 : W1.heap[W0.heap.size]? = some (.cells #[.slice none 0 0, .slice none 0 0] 25) := by rw [← hW1]; exact heap_alloc_new _ _
    have z1 : Hid (W1.heap.size = W0.heap.size + 1) := hid (by rw [← hW1, World.size_alloc])
    have hS1 : Below W.heap.size W W1 := by rw [← hW1]; exact hS0.alloc hS0.size _
    rw [hW1]
    refine hK.out _ _ hS1 (fun _ => ?_)
    clear hK K
    try simp only [Act.put, List.getElem_toArray, List.getElem_cons_zero, List.getElem_cons_succ, List.setIfInBounds_toArray, List.set_cons_zero, List.set_cons_succ]
    refine wpAnyH_ready (rs := [2]) (by kernel_rfl) (by simp) ?_
    refine AllReadyH.cons rfl (fun K hK => ?_) AllReadyH.nil
    go_simp
    obtain ⟨W2, hW2⟩ : ∃ x, W1.alloc (.cells #[.string ⟨#[113]⟩, .slice none 0 0, .slice none 0 0, .string ⟨#[102]⟩, .slice none 0 0, .slice (some ⟨n + 1, t * 6, none⟩) 1 (3 - t)] 37) = x := ⟨_, rfl⟩
    have nb2 : W2.heap[W1.heap.size]? = some (.cells #[.string ⟨#[113]⟩, .slice none 0 0, .slice none 0 0, .string ⟨#[102]⟩, .slice none 0 0, .slice (some ⟨n + 1, t * 6, none⟩) 1 (3 - t)] 37) := by rw [← hW2]; exact heap_alloc_new _ _
    have z2 : Hid (W2.heap.size = W1.heap.size + 1) := hid (by rw [← hW2, World.size_alloc])
    have hS2 : Below W.heap.size W W2 := by rw [← hW2]; exact hS1.alloc hS1.size _
    rw [hW2]
    refine hK.out _ _ hS2 (fun _ => ?_)
    clear hK K
    try simp only [Act.put, List.getElem_toArray, List.getElem_cons_zero, List.getElem_cons_succ, List.setIfInBounds_toArray, List.set_cons_zero, List.set_cons_succ]
    refine wpAnyH_take (i := 8) (v := .agg #[.slice (some ⟨W1.heap.size, 0, none⟩) 2 2, .slice (some ⟨n + 1, h * 6, none⟩) 1 (3 - h)]) rfl (by kernel_rfl) (by kernel_rfl) (by kernel_rfl) (fun _ _ _ h => h) (Or.inl ⟨by rfl, ?_⟩) (by assumption) ?_
    · intro W' hSw
      obtain ⟨⟨j0, j1, j2⟩, ⟨j3, j4, j5⟩, ⟨j6, j7, j8, j9, j10, j11⟩, ⟨j12, j13, j14, j15, j16, j17⟩, m0, m1, m2, m3⟩ := KC.out W' hSw
      go_simp
    try simp only [Act.put, List.getElem_toArray, List.getElem_cons_zero, List.getElem_cons_succ, List.setIfInBounds_toArray, List.set_cons_zero, List.set_cons_succ]
    have kz0 : W2.heap[W0.heap.size]? = some (.cells #[.slice none 0 0, .slice none 0 0] 25) := by rw [← hW2]; exact blk_alloc nb1 _
    have kf0 : W2.heap[W1.heap.size]? = some (.cells #[.string ⟨#[113]⟩, .slice none 0 0, .slice none 0 0, .string ⟨#[102]⟩, .slice none 0 0, .slice (some ⟨n + 1, t * 6, none⟩) 1 (3 - t)] 37) := nb2
    have y0 : W2.cell? ⟨W0.heap.size, 0, none⟩ = some (.slice none 0 0) := (blk_cell kz0 0).trans rfl
    have y1 : W2.cell? ⟨W0.heap.size, 1, none⟩ = some (.slice none 0 0) := (blk_cell kz0 1).trans rfl
    have f0 := blk_frozen kz0 0
    have f1 := blk_frozen kz0 1
    have lt1 := blk_lt kz0
    clear hW1 hW2 nb1 nb2
    refine wpAnyH_ready (rs := [10]) (by kernel_rfl) (by simp) ?_
    refine AllReadyH.cons rfl (fun K hK => ?_) AllReadyH.nil
    go_simp
    obtain ⟨W3, hW3⟩ : ∃ x, (W2.setCell ⟨W0.heap.size, 0, none⟩ (.slice (some ⟨W1.heap.size, 0, none⟩) 2 2)).setCell ⟨W0.heap.size, 1, none⟩ (.slice (some ⟨n + 1, h * 6, none⟩) 1 (3 - h)) = x := ⟨_, rfl⟩
    have hz0 := hS0.size
    have hz1 := z1.out
    have hz2 := z2.out
    have kp : W3.heap[W0.heap.size]? = some (pgO (some ⟨W1.heap.size, 0, none⟩) 2 2 (some ⟨n + 1, h * 6, none⟩) 1 (3 - h)) := by rw [← hW3]; exact k_set2 _ _ kz0
    have kf : W3.heap[W1.heap.size]? = some (.cells #[.string ⟨#[113]⟩, .slice none 0 0, .slice none 0 0, .string ⟨#[102]⟩, .slice none 0 0, .slice (some ⟨n + 1, t * 6, none⟩) 1 (3 - t)] 37) := by rw [← hW3]; exact k_set_at (k_set_at kf0 (by omega)) (by omega)
    have hS3 : Below W.heap.size W W3 := by rw [← hW3]; exact (hS2.setCell (by show W.heap.size ≤ W0.heap.size; omega) _).setCell (by show W.heap.size ≤ W0.heap.size; omega) _
    have o1 : W.heap.size ≤ W0.heap.size := by omega
    have o2 : W.heap.size ≤ W1.heap.size := by omega
    have o3 : W0.heap.size ≠ W1.heap.size := by omega
    rw [hW3]
    clear hW3 y0 y1 f0 f1 lt1 kz0 kf0 z1 z2 hz1 hz2 hS1 hS2
    refine hK.out _ _ hS3 (fun _ => ?_)
    clear hK K
    try simp only [Act.put, List.getElem_toArray, List.getElem_cons_zero, List.getElem_cons_succ, List.setIfInBounds_toArray, List.set_cons_zero, List.set_cons_succ]
    refine wpAnyH_done (by kernel_rfl) ?_ _
    generalize W0.heap.size = pb at kp o1 o3 ⊢
    generalize W1.heap.size = fb at kp kf o2 o3 ⊢
    clear hS0 hz0
    have k0 : W3.cell? ⟨pb, 0, none⟩ = some (.slice (some ⟨fb, 0, none⟩) 2 2) := (blk_cell kp 0).trans rfl
    have k1 : W3.cell? ⟨pb, 1, none⟩ = some (.slice (some ⟨n + 1, h * 6, none⟩) 1 (3 - h)) := (blk_cell kp 1).trans rfl
    have kw := KW0.out.below hS3
    have l1 := blk_lt kf
    have l2 := blk_lt kp
    have l3 := blk_lt kw.k
    obtain ⟨pe1, pe2, pe3, pe4⟩ := PE.out
    have PE2 := Lib.hid pe2
    have PE4 := Lib.hid pe4
    have O1 := Lib.hid o1
    have O2 := Lib.hid o2
    have O3 := Lib.hid o3
    have HS3 := Lib.hid hS3
    cases apart with
    | true =>
      have hR := resolve_p _ (pgA h t) W3 (⟨_, 2, _, 3 - h, rfl, kfs_v kf l1 (k1_sv kw.c kw.k ht3 l3), k1_sv kw.c kw.k hh3 l3⟩ : PgV W3.heap.size W3 (.agg #[.slice (some ⟨fb, 0, none⟩) 2 2, .slice (some ⟨n + 1, h * 6, none⟩) 1 (3 - h)]) (pgA h t)) (HT.out.below kw.b HT.out.1) pe3
      rw [pe1] at hR
      have HR := Lib.hid hR
      have HB3 := Lib.hid kw.b
      clear hR kp kf kw pe1 pe2 pe3 pe4 o1 o2 o3 hS3
      go_wp2_with (go_at_call 11; ((with_reducible refine HR.out.mono ?_); rintro e w7 ⟨v7, rfl, _, hb7⟩))
      go_ret
      exact ⟨rfl, HB3.out.trans (hb7.mono HB3.out.size)⟩
    | false =>
      have g5 := blk_frozen kf 5
      have y5 : W3.cell? ⟨fb, 5, none⟩ = some (.slice (some ⟨n + 1, t * 6, none⟩) 1 (3 - t)) := (blk_cell kf 5).trans rfl
      have KF := Lib.hid kf
      have KP := Lib.hid kp
      clear kp kf kw pe1 pe2 pe3 pe4 o1 o2 o3 hS3
      go_upto_region 10 with fail
      obtain ⟨W4, hW4⟩ : ∃ x, W3.setCell ⟨fb, 5, none⟩ (.slice none 0 0) = x := ⟨_, rfl⟩
      have kp : W4.heap[pb]? = some (pgO (some ⟨fb, 0, none⟩) 2 2 (some ⟨n + 1, h * 6, none⟩) 1 (3 - h)) := by rw [← hW4]; exact k_set_at KP.out O3.out
      have kf : W4.heap[fb]? = some (fsO (.slice none 0 0)) := by rw [← hW4]; exact (blk_set KF.out 5 _).trans (by simp)
      have hS4 : Below W.heap.size W W4 := by rw [← hW4]; exact HS3.out.setCell O2.out _
      rw [hW4]
      clear hW4 g5 y5 k0 k1 l1 l2 l3
      have i1 : (h : Int) < 3 := by omega
      have i2 : (0 : Int) ≤ (h : Int) := by omega
      have i3 : (t : Int) < 3 := by omega
      have i4 : (0 : Int) ≤ (t : Int) := by omega
      have hT4 : (fun W' => Below W.heap.size W W' ∧ (∃ v, W'.heap[pb]? = some (pgV fb v)) ∧ W'.heap[fb]? = some (fsO (.slice none 0 0))) W4.drew := ⟨hS4.drew, ⟨_, kp⟩, kf⟩
      refine wp_region_held_drew (S := fun W' => Below W.heap.size W W' ∧ (∃ v, W'.heap[pb]? = some (pgV fb v)) ∧ W'.heap[fb]? = some (fsO (.slice none 0 0))) (by kernel_rfl) hT4 (fun hS0 => ?_)
      clear hT4 kp kf hS4
      obtain ⟨W5, hW5⟩ : ∃ x, W4.drew = x := ⟨_, rfl⟩
      rw [hW5] at hS0 ⊢
      clear hW5
      refine wpAnyH_take (i := 0) (v := .slice (some ⟨n + 1, 0, none⟩) 3 3) rfl (by kernel_rfl) (by kernel_rfl) (by kernel_rfl) (fun _ _ _ h => h) (Or.inl ⟨by rfl, ?_⟩) (by assumption) ?_
      · intro W' hSw
        obtain ⟨⟨j0, j1, j2⟩, ⟨j3, j4, j5⟩, ⟨j6, j7, j8, j9, j10, j11⟩, ⟨j12, j13, j14, j15, j16, j17⟩, m0, m1, m2, m3⟩ := KC.out W' hSw.1; obtain ⟨vv, hvv⟩ := hSw.2.1; have lpb := blk_lt hvv
        go_simp
      try simp only [Act.put, List.getElem_toArray, List.getElem_cons_zero, List.setIfInBounds_toArray, List.set_cons_zero, List.set_cons_succ]
      refine wpAnyH_take (i := 1) (v := .int .i64 (h : Int)) rfl (by kernel_rfl) (by kernel_rfl) (by kernel_rfl) (fun _ _ _ h => h) (Or.inl ⟨by rfl, ?_⟩) (by assumption) ?_
      · intro W' hSw
        obtain ⟨⟨j0, j1, j2⟩, ⟨j3, j4, j5⟩, ⟨j6, j7, j8, j9, j10, j11⟩, ⟨j12, j13, j14, j15, j16, j17⟩, m0, m1, m2, m3⟩ := KC.out W' hSw.1; obtain ⟨vv, hvv⟩ := hSw.2.1; have lpb := blk_lt hvv
        go_simp
      try simp only [Act.put, List.getElem_toArray, List.getElem_cons_zero, List.getElem_cons_succ, List.setIfInBounds_toArray, List.set_cons_zero, List.set_cons_succ]
      refine wpAnyH_take (i := 2) (v := .pointer (some ⟨n + 1, h * 6, none⟩)) rfl (by kernel_rfl) (by kernel_rfl) (by kernel_rfl) (fun _ _ _ h => h) (Or.inl ⟨by rfl, ?_⟩) (by assumption) ?_
      · intro W' hSw
        obtain ⟨⟨j0, j1, j2⟩, ⟨j3, j4, j5⟩, ⟨j6, j7, j8, j9, j10, j11⟩, ⟨j12, j13, j14, j15, j16, j17⟩, m0, m1, m2, m3⟩ := KC.out W' hSw.1; obtain ⟨vv, hvv⟩ := hSw.2.1; have lpb := blk_lt hvv
        go_simp
      try simp only [Act.put, List.getElem_toArray, List.getElem_cons_zero, List.getElem_cons_succ, List.setIfInBounds_toArray, List.set_cons_zero, List.set_cons_succ]
      refine wpAnyH_take (i := 3) (v := .agg #[.int .i64 (ko h), .string (ks h), .int .i64 (kn h), .slice (kA n h) (kz h) (kz h), .slice none 0 0, .slice none 0 0]) rfl (by kernel_rfl) (by kernel_rfl) (by kernel_rfl) (fun _ _ _ h => h) (Or.inl ⟨by rfl, ?_⟩) (by assumption) ?_
      · intro W' hSw
        obtain ⟨⟨j0, j1, j2⟩, ⟨j3, j4, j5⟩, ⟨j6, j7, j8, j9, j10, j11⟩, ⟨j12, j13, j14, j15, j16, j17⟩, m0, m1, m2, m3⟩ := KC.out W' hSw.1; obtain ⟨vv, hvv⟩ := hSw.2.1; have lpb := blk_lt hvv
        go_simp
      try simp only [Act.put, List.getElem_toArray, List.getElem_cons_zero, List.getElem_cons_succ, List.setIfInBounds_toArray, List.set_cons_zero, List.set_cons_succ]
      refine wpAnyH_take (i := 4) (v := .slice (some ⟨n + 1, 0, none⟩) 3 3) rfl (by kernel_rfl) (by kernel_rfl) (by kernel_rfl) (fun _ _ _ h => h) (Or.inl ⟨by rfl, ?_⟩) (by assumption) ?_
      · intro W' hSw
        obtain ⟨⟨j0, j1, j2⟩, ⟨j3, j4, j5⟩, ⟨j6, j7, j8, j9, j10, j11⟩, ⟨j12, j13, j14, j15, j16, j17⟩, m0, m1, m2, m3⟩ := KC.out W' hSw.1; obtain ⟨vv, hvv⟩ := hSw.2.1; have lpb := blk_lt hvv
        go_simp
      try simp only [Act.put, List.getElem_toArray, List.getElem_cons_zero, List.getElem_cons_succ, List.setIfInBounds_toArray, List.set_cons_zero, List.set_cons_succ]
      refine wpAnyH_take (i := 5) (v := .int .i64 (t : Int)) rfl (by kernel_rfl) (by kernel_rfl) (by kernel_rfl) (fun _ _ _ h => h) (Or.inl ⟨by rfl, ?_⟩) (by assumption) ?_
      · intro W' hSw
        obtain ⟨⟨j0, j1, j2⟩, ⟨j3, j4, j5⟩, ⟨j6, j7, j8, j9, j10, j11⟩, ⟨j12, j13, j14, j15, j16, j17⟩, m0, m1, m2, m3⟩ := KC.out W' hSw.1; obtain ⟨vv, hvv⟩ := hSw.2.1; have lpb := blk_lt hvv
        go_simp
      try simp only [Act.put, List.getElem_toArray, List.getElem_cons_zero, List.getElem_cons_succ, List.setIfInBounds_toArray, List.set_cons_zero, List.set_cons_succ]
      refine wpAnyH_take (i := 6) (v := .pointer (some ⟨n + 1, t * 6, none⟩)) rfl (by kernel_rfl) (by kernel_rfl) (by kernel_rfl) (fun _ _ _ h => h) (Or.inl ⟨by rfl, ?_⟩) (by assumption) ?_
      · intro W' hSw
        obtain ⟨⟨j0, j1, j2⟩, ⟨j3, j4, j5⟩, ⟨j6, j7, j8, j9, j10, j11⟩, ⟨j12, j13, j14, j15, j16, j17⟩, m0, m1, m2, m3⟩ := KC.out W' hSw.1; obtain ⟨vv, hvv⟩ := hSw.2.1; have lpb := blk_lt hvv
        go_simp
      try simp only [Act.put, List.getElem_toArray, List.getElem_cons_zero, List.getElem_cons_succ, List.setIfInBounds_toArray, List.set_cons_zero, List.set_cons_succ]
      refine wpAnyH_take (i := 7) (v := .agg #[.int .i64 (ko t), .string (ks t), .int .i64 (kn t), .slice (kA n t) (kz t) (kz t), .slice none 0 0, .slice none 0 0]) rfl (by kernel_rfl) (by kernel_rfl) (by kernel_rfl) (fun _ _ _ h => h) (Or.inl ⟨by rfl, ?_⟩) (by assumption) ?_
      · intro W' hSw
        obtain ⟨⟨j0, j1, j2⟩, ⟨j3, j4, j5⟩, ⟨j6, j7, j8, j9, j10, j11⟩, ⟨j12, j13, j14, j15, j16, j17⟩, m0, m1, m2, m3⟩ := KC.out W' hSw.1; obtain ⟨vv, hvv⟩ := hSw.2.1; have lpb := blk_lt hvv
        go_simp
      try simp only [Act.put, List.getElem_toArray, List.getElem_cons_zero, List.getElem_cons_succ, List.setIfInBounds_toArray, List.set_cons_zero, List.set_cons_succ]
      refine wpAnyH_ready (rs := [8]) (by kernel_rfl) (by simp) ?_
      refine AllReadyH.cons rfl (fun K hK => ?_) AllReadyH.nil
      go_simp
      obtain ⟨W6, hW6⟩ : ∃ x, W5.alloc (k2O n h t) = x := ⟨_, rfl⟩
      have kk : W6.heap[W5.heap.size]? = some (k2O n h t) := by rw [← hW6]; exact heap_alloc_new _ _
      have hS6 : Below W.heap.size W W6 ∧ (∃ v, W6.heap[pb]? = some (pgV fb v)) ∧ W6.heap[fb]? = some (fsO (.slice none 0 0)) := by rw [← hW6]; exact ⟨hS0.1.alloc hS0.1.size _, ⟨_, blk_alloc hS0.2.1.choose_spec _⟩, blk_alloc hS0.2.2 _⟩
      rw [hW6]
      clear hW6
      refine hK.out _ _ hS6 (fun _ => ?_)
      clear hK K
      try simp only [Act.put, List.getElem_toArray, List.getElem_cons_zero, List.getElem_cons_succ, List.setIfInBounds_toArray, List.set_cons_zero, List.set_cons_succ]
      refine wpAnyH_take (i := 9) (v := .pointer (some ⟨pb, 1, none⟩)) rfl (by kernel_rfl) (by kernel_rfl) (by kernel_rfl) (fun _ _ _ h => h) (Or.inl ⟨by rfl, ?_⟩) (by assumption) ?_
      · intro W' hSw
        obtain ⟨⟨j0, j1, j2⟩, ⟨j3, j4, j5⟩, ⟨j6, j7, j8, j9, j10, j11⟩, ⟨j12, j13, j14, j15, j16, j17⟩, m0, m1, m2, m3⟩ := KC.out W' hSw.1; obtain ⟨vv, hvv⟩ := hSw.2.1; have lpb := blk_lt hvv
        go_simp
      try simp only [Act.put, List.getElem_toArray, List.getElem_cons_zero, List.getElem_cons_succ, List.setIfInBounds_toArray, List.set_cons_zero, List.set_cons_succ]
      obtain ⟨v6, hp6⟩ := hS6.2.1
      have y1 : W6.cell? ⟨pb, 1, none⟩ = some v6 := (blk_cell hp6 1).trans rfl
      have f1 := blk_frozen hp6 1
      have lt1 := blk_lt hp6
      refine wpAnyH_ready (rs := [10]) (by kernel_rfl) (by simp) ?_
      refine AllReadyH.cons rfl (fun K hK => ?_) AllReadyH.nil
      go_simp
      obtain ⟨W7, hW7⟩ : ∃ x, W6.setCell ⟨pb, 1, none⟩ (.slice (some ⟨W5.heap.size, 0, none⟩) 2 2) = x := ⟨_, rfl⟩
      have l5 := blk_lt hS0.2.1.choose_spec
      have hp7 : W7.heap[pb]? = some (pgO (some ⟨fb, 0, none⟩) 2 2 (some ⟨W5.heap.size, 0, none⟩) 2 2) := by rw [← hW7]; exact (blk_set hp6 1 _).trans (by simp)
      have hS7 : Below W.heap.size W W7 ∧ (∃ v, W7.heap[pb]? = some (pgV fb v)) ∧ W7.heap[fb]? = some (fsO (.slice none 0 0)) := ⟨by rw [← hW7]; exact hS6.1.setCell O1.out _, ⟨_, hp7⟩, by rw [← hW7]; exact k_set_at hS6.2.2 (Ne.symm O3.out)⟩
      have kk7 : W7.heap[W5.heap.size]? = some (k2O n h t) := by rw [← hW7]; exact k_set_at kk (by omega)
      rw [hW7]
      clear hW7 y1 f1 lt1 hp6 v6 kk hS6 l5 hS0
      refine hK.out _ _ hS7 (fun _ => ?_)
      clear hK K
      try simp only [Act.put, List.getElem_toArray, List.getElem_cons_zero, List.getElem_cons_succ, List.setIfInBounds_toArray, List.set_cons_zero, List.set_cons_succ]
      refine wpAnyH_done (by kernel_rfl) ?_ _
      generalize W5.heap.size = kb at hp7 kk7 ⊢
      have kw := KW0.out.below hS7.1
      have k0 : W7.cell? ⟨pb, 0, none⟩ = some (.slice (some ⟨fb, 0, none⟩) 2 2) := (blk_cell hp7 0).trans rfl
      have k1 : W7.cell? ⟨pb, 1, none⟩ = some (.slice (some ⟨kb, 0, none⟩) 2 2) := (blk_cell hp7 1).trans rfl
      have l2 := blk_lt hp7
      have hR := resolve_p _ (pgB h t) W7 (⟨_, 2, _, 2, rfl, kfs_v hS7.2.2 (blk_lt hS7.2.2) (sv_nought _ _), k2_sv kw.c kk7 hh3 ht3 (blk_lt kw.c) (blk_lt kk7)⟩ : PgV W7.heap.size W7 (.agg #[.slice (some ⟨fb, 0, none⟩) 2 2, .slice (some ⟨kb, 0, none⟩) 2 2]) (pgB h t)) (HT.out.below kw.b HT.out.1) PE4.out
      rw [PE2.out] at hR
      have wht : IntKind.i64.wrap ((h : Int) + (t : Int)) = (h : Int) + (t : Int) := IntWalk.i64_in _ (by omega)
      have HB3 := Lib.hid kw.b
      by_cases hb : h + t = 1
      · rw [if_pos hb] at hR
        have HR := Lib.hid hR
        have q1 : ((h : Int) + (t : Int) == 1) = true := by simp; omega
        have q2 : decide ((h : Int) + (t : Int) = 1) = true := by simp; omega
        clear hR kw hp7 kk7 hS7 hb
        go_wp2_with (go_at_call 11; ((with_reducible refine HR.out.mono ?_); rintro e w7 ⟨v7, rfl, _, hb7⟩))
        go_ret
        exact ⟨rfl, HB3.out.trans (hb7.mono HB3.out.size)⟩
      · rw [if_neg hb] at hR
        have HR := Lib.hid hR
        have q1 : ((h : Int) + (t : Int) == 1) = false := by simp; omega
        have q2 : decide ((h : Int) + (t : Int) = 1) = false := by simp; omega
        clear hR kw hp7 kk7 hS7 hb
        go_wp2_with (go_at_call 11; ((with_reducible refine HR.out.mono ?_); rintro e w7 ⟨v7, rfl, _, hb7⟩))
        go_ret
        exact ⟨rfl, HB3.out.trans (hb7.mono HB3.out.size)⟩
end Go.Proofs.YtmhngbfpldiinaaDoor
