/-
  Parse at known bytes; 'of' of layer 6's statements, and their own 'shown'.
-/
import Derived.Test.YtaajolemjgdfnaaDoorPbP
import Derived.Test.YtaajolemjgdfnaaDoorSqA
import Derived.Lib.SlBytesConst
import Derived.Laws.IdiomStrings
namespace Go.Proofs.YtaajolemjgdfnaaDoor
open Go Go.RowKit Go.Lib

/-- What Parse tells, with a count of steps for the bytes too. -/
def tlF (l : List UInt8) : PR Pg :=
  match lexF l.length 0 l with
  | .bad p => .bad p 2
  | .ok ts => progT (ts.length + 2) (fin ts l.length)
theorem tl_eq (l : List UInt8) : tl l = tlF l := by
  unfold tl tlF
  rw [lexS_eq l.length 0 l (Nat.le_refl _)]
  all_goals (cases lexF l.length 0 l <;> rfl)
/-- What Parse tells of bytes of which it is known. -/
theorem p_ok {l : List UInt8} {q : Pg} {r : List Tok} (ht : tl l = .ok q r) (A : Option Addr) (n cap : Nat) (W : World) (hn : l.length = n) (hl : n ≤ 65536) (hcap : n ≤ cap) (hr : Row W A l) :
    Calls Tryd.prog 25 #[.slice A n cap] W fun e W' => (∃ v, e = .returned (.tuple #[v, .int .i64 0, .int .i64 0]) ∧ GV W.heap.size W' v q) ∧ Below W.heap.size W W' :=
  (parse_whole A n cap l W hn hl hcap hr).mono fun e W' h => by
    unfold ParseOut at h
    rw [ht] at h
    exact ⟨h.2, h.1⟩
theorem run_bs (w : World) (s : ByteArray) : (convert 9 47 (.string s)).run Tryd.prog w = .ok (.slice (some ⟨w.heap.size, 0, none⟩) s.size (grownCap w s.size 0 5))
    (w.drew.alloc (.cells (bytesRow s (grownCap w s.size 0 5)) 5 ((bytesRow s (grownCap w s.size 0 5)).size, (bytesRow s (grownCap w s.size 0 5)).size + 1))) :=
  run_bytes_of_string w _ _ _ s Tryd.underlying9 Tryd.underlying47 Tryd.underlying5
theorem row_bs (w : World) (s : ByteArray) (c : Nat) {fz : Nat × Nat} : Row (w.drew.alloc (.cells (bytesRow s c) 5 fz)) (some ⟨w.heap.size, 0, none⟩) s.data.toList := by
  intro _
  refine ⟨w.heap.size, 0, rfl, by simp, fun i hi => ?_⟩
  have hi' : i < s.data.size := by simpa using hi
  rw [Nat.zero_add]
  refine (World.cell?_alloc_mark w.drew _ _ _ i).trans ((bytesRow_at s c i hi').trans ?_)
  unfold nth bv
  rw [List.getD_eq_getElem?_getD, List.getElem?_eq_getElem hi]
  simp
theorem below_bs (w : World) (o : Obj) : Below w.heap.size w (w.drew.alloc o) := Below.alloc (below_drw (Below.refl _ _)) (Nat.le_refl _) o
abbrev newB (w : World) (s : ByteArray) (z : Nat) : World := (w.alloc (.cells (bytesRow s (grownCap w z 0 5)) 5 ((bytesRow s (grownCap w z 0 5)).size, (bytesRow s (grownCap w z 0 5)).size + 1))).drew
theorem q_ok {s : ByteArray} {q : Pg} {r : List Tok} (ht : tl s.data.toList = .ok q r) (z : Nat) (hz : s.size = z) (hs : z ≤ 65536) (w : World) :
    Calls Tryd.prog 25 #[.slice (some ⟨w.heap.size, 0, none⟩) z (grownCap w z 0 5)] (newB w s z)
      fun e W' => (∃ v, e = .returned (.tuple #[v, .int .i64 0, .int .i64 0]) ∧ GV (w.heap.size + 1) W' v q) ∧ Below w.heap.size w W' := by
  subst hz
  exact (p_ok ht _ s.size _ _ (by simp) hs (grownCap_ge _ _ _ _) (row_bs w s _)).mono fun e W' ⟨⟨v, h1, h2⟩, h3⟩ => ⟨⟨v, h1, by simpa using h2⟩, (below_bs w _).trans (h3.mono (by simp))⟩

/-- What is parsed of bytes that are a program. -/
def tlq (l : List UInt8) : Pg :=
  match tlF l with
  | .ok q _ => q
  | _ => ⟨[], .nil⟩
def tlr (l : List UInt8) : List Tok :=
  match tlF l with
  | .ok _ r => r
  | _ => []
def tlOk (l : List UInt8) : Bool :=
  match tlF l with
  | .ok _ _ => true
  | _ => false
theorem tl_known {l : List UInt8} (h : tlOk l = true) : tl l = .ok (tlq l) (tlr l) := by
  rw [tl_eq]
  unfold tlOk at h
  unfold tlq tlr
  cases e : tlF l with
  | ok q r => rfl
  | bad _ _ => rw [e] at h; cases h
  | out => rw [e] at h; cases h
theorem cells_at {w : World} {g : Nat} {cs : Array Value} {T : TypeId} {fr : Nat × Nat} (h : w.heap[g]? = some (.cells cs T fr)) (i : Nat) {v : Value} (hi : cs[i]? = some v) : w.cell? ⟨g, i, none⟩ = some v := (blk_cell h i).trans hi
theorem gv_pg {lo : Nat} {W : World} {v : Value} {q : Pg} (h : GV lo W v q) : PgV W.heap.size W v q := h.pgv
set_option maxRecDepth 100000 in
set_option maxHeartbeats 2000000 in
theorem of_any (s : ByteArray) (n : Nat) (z : Int) (L : List Sp) (m : Nat) (hm : L.length = m) (hn : s.size = n) (h6 : n ≤ 65536) (hk : tlOk s.data.toList = true) (hz : resErr (tlq s.data.toList) = z) (hL : resP (tlq s.data.toList) = L) (hc : cntL (tlq s.data.toList).pts ≤ 10000000) (w : World) (ht : Tab w) :
    Calls Tryd.prog 14 #[.string s] w fun e w' => ∃ A c, e = .returned (.tuple #[.slice A m c, .int .i64 z]) ∧ SpV w'.heap.size w' (.slice A m c) L ∧ Below w.heap.size w w' := by
  have kb := run_bs
  have HQ := Lib.hid (fun w => q_ok (tl_known hk) n hn h6 w)
  have HT := Lib.hid ht
  have HC := Lib.hid hc
  subst hn
  clear ht hc hk
  go_enter Tryd.func14, Tryd.ntmps14
  go_upto_region 2 with (go_at_call 25; ((with_reducible refine (HQ.out _).mono ?_); rintro e w1 ⟨⟨v1, rfl, hv1⟩, hb1⟩; obtain ⟨A1, c1, A2, c2, rfl, hvf, hvm⟩ := hv1.pgv))
  obtain ⟨q, hq⟩ : ∃ q, tlq s.data.toList = q := ⟨_, rfl⟩
  rw [hq] at hvf hvm HC hz hL hv1 ⊢
  have P : PgV w1.heap.size w1 _ q := ⟨A1, c1, A2, c2, rfl, hvf, hvm⟩
  obtain ⟨n1, hn1⟩ : ∃ n1, q.fs.length = n1 := ⟨_, rfl⟩
  obtain ⟨n2, hn2⟩ : ∃ n2, q.m.len = n2 := ⟨_, rfl⟩
  rw [hn1, hn2] at P ⊢
  obtain ⟨C, hC⟩ : ∃ C : Obj, Obj.cells #[.slice A1 n1 c1, .slice A2 n2 c2] 25 = C := ⟨_, rfl⟩
  have hbC : Below w1.heap.size w1 (w1.alloc C) := (Below.refl _ _).alloc (Nat.le_refl _) _
  have hb2 : Below w.heap.size w (w1.alloc C) := hb1.trans (hbC.mono hb1.size)
  have q1 := resolve_p _ q (w1.alloc C) (P.below hbC hbC.size) (HT.out.below hb2 HT.out.1) HC.out
  have hg2 : (w1.alloc C).heap[w1.heap.size]? = some (.cells #[.slice A1 n1 c1, .slice A2 n2 c2] 25 (0, 0)) := by rw [hC]; exact heap_alloc_new w1 _
  have d0 := cells_at hg2 0 rfl
  have d1 := cells_at hg2 1 rfl
  clear hv1 hvf hvm P hbC hb1 hg2 hn1 hn2 hq HQ
  obtain ⟨u1, hu1⟩ : ∃ u1, w1.alloc C = u1 := ⟨_, rfl⟩
  rw [hC, hu1]
  rw [hu1] at q1 d0 d1 hb2
  clear hC hu1
  go_wp2_with (go_at_call 9; ((with_reducible refine q1.mono ?_); clear q1; rintro e w2 ⟨v2, rfl, h2, h3⟩))
  obtain ⟨A3, c3, rfl, _⟩ := id h2
  try rw [hL] at h2
  rw [hm] at h2
  try rw [hz]
  try rw [hL]
  rw [hm]
  refine bodyPost_ret (results_tmp2 rfl _ _ _) rfl ⟨_, _, rfl, h2, hb2.trans (h3.mono hb2.size)⟩
end Go.Proofs.YtaajolemjgdfnaaDoor
