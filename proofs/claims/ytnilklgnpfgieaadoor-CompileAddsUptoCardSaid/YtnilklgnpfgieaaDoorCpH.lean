/-
  Texts CpD CpE CpF CpG CpH: put together.
-/
import Derived.Test.YtnilklgnpfgieaaDoorCpC
/-
  list; does: the instruction of a statement without blocks.
-/
namespace Go.Proofs.YtnilklgnpfgieaaDoor
open Go Go.RowKit Go.Lib

/-- Does a name begin with a great letter? -/
def greatB (s : ByteArray) : Bool := match s.data.toList with
  | [] => false
  | c :: _ => decide (65 ≤ c.toNat) && decide (c.toNat ≤ 90)
theorem great_at {s : ByteArray} (h : 0 < s.size) : greatB s = (decide (65 ≤ (s[0]'h).toNat) && decide ((s[0]'h).toNat ≤ 90)) := by
  obtain ⟨⟨l⟩⟩ := s
  cases l with
  | nil => exact absurd h (by decide)
  | cons c r => rfl
theorem size_ne {s : ByteArray} (h : 0 < s.size) : ¬ s.toList = [] := by
  rw [ByteArray.toList_eq]; intro e
  have h2 : s.size = s.data.toList.length := rfl
  rw [h2, e] at h; exact absurd h (by decide)
theorem size_nil {s : ByteArray} (h : s.size = 0) : s = (⟨#[]⟩ : ByteArray) := by
  obtain ⟨⟨l⟩⟩ := s
  cases l with
  | nil => rfl
  | cons c r => exact absurd h (by simp [ByteArray.size])

set_option maxHeartbeats 1000000 in
theorem secret_any (s : ByteArray) (w : World) (hs : s.size ≤ 9223372036854775807) :
    Calls Tryd.prog 81 #[.string s] w fun e w' => e = .returned (.bool (greatB s)) ∧ w = w' := by
  by_cases h : 0 < s.size
  · have h1 := size_ne h
    have H1 := Lib.hid (show s.toList.isEmpty = false by simpa using h1)
    have h2 := great_at h
    have HG := Lib.hid h2; clear h2
    go_enter Tryd.func81, Tryd.ntmps81
    go_wp2
    all_goals
      go_ret
      refine ⟨ret_bool ?_, rfl⟩
      rw [HG.out, Bool.eq_iff_iff]
      simp only [H1.out, Bool.not_false, Bool.true_and, Bool.and_eq_true, decide_eq_true_eq, Bool.false_eq_true, false_iff]
      first | omega | exact absurd ‹s.toList = []› h1
  · obtain rfl := size_nil (by omega : s.size = 0)
    go_enter Tryd.func81, Tryd.ntmps81
    go_wp2
    go_ret
    exact ⟨rfl, rfl⟩
def listP (s : ByteArray) : Int := if greatB s = true then 1 else 0
set_option maxHeartbeats 1000000 in
theorem list_any (s : ByteArray) (w : World) (hs : s.size ≤ 9223372036854775807) :
    Calls Tryd.prog 74 #[.string s] w fun e w' => e = .returned (.int .i64 (listP s)) ∧ w = w' := by
  unfold listP
  have HS := Lib.hid (secret_any s w hs)
  cases hg : greatB s with
  | true =>
    rw [hg] at HS
    clear hg
    go_enter Tryd.func74, Tryd.ntmps74
    go_wp2_with (go_at_call 81; ((with_reducible refine HS.out.mono ?_); rintro e w1 ⟨rfl, rfl⟩))
    go_ret
    exact ⟨rfl, rfl⟩
  | false =>
    rw [hg] at HS
    clear hg
    go_enter Tryd.func74, Tryd.ntmps74
    go_wp2_with (go_at_call 81; ((with_reducible refine HS.out.mono ?_); rintro e w1 ⟨rfl, rfl⟩))
    go_ret
    exact ⟨rfl, rfl⟩
/-- The instruction of a statement without blocks. -/
def doI (s : Sp) (op m : Int) (x : ByteArray) : In3 :=
  if op = 1 then (3, slotP s.vs x, 0) else if op = 2 then (24, slotP s.xs x, 0) else if op = 3 then (22, slotP s.xs x, m) else if op = 4 then (21, slotP s.vs x, listP x) else if op = 5 then (19, 0, 0) else if op = 6 then (20, 0, 0) else (18, 0, 0)

set_option maxRecDepth 100000 in
set_option maxHeartbeats 8000000 in
theorem does_w {n N O : Nat} {w0 w : World} {s : Sp} {vv va : Value} {M : Nat} {L : List In3} (op m : Int) (x : ByteArray) (A1 A2 A3 : Option Addr) (k1 c1 k2 c2 k3 c3 : Nat) (h : WI n N O w0 s vv va M L w) (hvv : RowV (PsIn w0 s.vs) n s.vs.length vv) (hva : RowV (PsIn w0 s.xs) n s.xs.length va)
    (hop : op = 1 ∨ op = 2 ∨ op = 3 ∨ op = 4 ∨ op = 5 ∨ op = 6 ∨ op = 9) (hx : x.size ≤ 9223372036854775807) :
    Calls Tryd.prog 57 #[.pointer (some ⟨O, 0, none⟩), .agg #[.int .i64 op, .string x, .int .i64 m, .slice A1 k1 c1, .slice A2 k2 c2, .slice A3 k3 c3]] w fun e w' => e = .returned (in3V (doI s op m x)) ∧ Below w.heap.size w w' := by
  rcases hop with rfl | rfl | rfl | rfl | rfl | rfl | rfl
  · show Calls _ _ _ _ fun e w' => e = .returned (in3V (3, slotP s.vs x, 0)) ∧ _
    have HC := Lib.hid (wvar_any x ((h.alloc (stmtO 1 x m (.slice A1 k1 c1) (.slice A2 k2 c2) (.slice A3 k3 c3))).alloc (insO 0 0 0)) hvv)
    clear h
    go_enter Tryd.func57, Tryd.ntmps57
    go_wp2_with (go_at_call 72; ((with_reducible refine HC.out.mono ?_); rintro e w1 ⟨rfl, rfl⟩))
    exact bodyPost_ret (v := .agg #[.int .i64 3, .int .i64 (slotP s.vs x), .int .i64 0]) (results_cell_row rfl _ _ (w.heap.size + 1) 43 _ (0, 0) _ rfl (new2 _ _ _) Tryd.underlying43 rfl (by kernel_rfl)) rfl ⟨rfl, ((Below.refl _ _).alloc (Nat.le_refl _) _).alloc (by simp) _⟩
  · show Calls _ _ _ _ fun e w' => e = .returned (in3V (24, slotP s.xs x, 0)) ∧ _
    have HC := Lib.hid (warr_any x ((h.alloc (stmtO 2 x m (.slice A1 k1 c1) (.slice A2 k2 c2) (.slice A3 k3 c3))).alloc (insO 0 0 0)) hva)
    clear h
    go_enter Tryd.func57, Tryd.ntmps57
    go_wp2_with (go_at_call 73; ((with_reducible refine HC.out.mono ?_); rintro e w1 ⟨rfl, rfl⟩))
    exact bodyPost_ret (v := .agg #[.int .i64 24, .int .i64 (slotP s.xs x), .int .i64 0]) (results_cell_row rfl _ _ (w.heap.size + 1) 43 _ (0, 0) _ rfl (new2 _ _ _) Tryd.underlying43 rfl (by kernel_rfl)) rfl ⟨rfl, ((Below.refl _ _).alloc (Nat.le_refl _) _).alloc (by simp) _⟩
  · show Calls _ _ _ _ fun e w' => e = .returned (in3V (22, slotP s.xs x, m)) ∧ _
    obtain ⟨wa, hwa⟩ : ∃ wa, (w.alloc (stmtO 3 x m (.slice A1 k1 c1) (.slice A2 k2 c2) (.slice A3 k3 c3))).alloc (insO 0 0 0) = wa := ⟨_, rfl⟩
    have hWa : WI n N O w0 s vv va M L wa := by rw [← hwa]; exact (h.alloc _).alloc _
    have hba : Below w.heap.size w wa := by rw [← hwa]; exact ((Below.refl _ _).alloc (Nat.le_refl _) _).alloc (by simp) _
    have x0 : wa.heap[w.heap.size]? = some (stmtO 3 x m (.slice A1 k1 c1) (.slice A2 k2 c2) (.slice A3 k3 c3)) := by rw [← hwa]; exact blk_alloc (heap_alloc_new _ _) _
    have x1 : wa.heap[w.heap.size + 1]? = some (insO 0 0 0) := by rw [← hwa]; exact new2 _ _ _
    have hWd : WI n N O w0 s vv va M L wa.drew := hWa.below (belowD (Below.refl _ _))
    have HC := Lib.hid (warr_any x hWd hva)
    have HLI := Lib.hid (list_any x wa.drew hx)
    have y1 : wa.cell? ⟨w.heap.size, 0, none⟩ = some (.int .i64 3) := (blk_cell x0 0).trans rfl
    have y2 : wa.drew.cell? ⟨w.heap.size, 1, none⟩ = some (.string x) := (blk_cell x0 1).trans rfl
    have y3 : wa.drew.cell? ⟨w.heap.size, 2, none⟩ = some (.int .i64 m) := (blk_cell x0 2).trans rfl
    obtain ⟨r0, r1, r2⟩ : wa.cell? ⟨w.heap.size + 1, 0, none⟩ = some (.int .i64 0) ∧ wa.cell? ⟨w.heap.size + 1, 1, none⟩ = some (.int .i64 0) ∧ wa.cell? ⟨w.heap.size + 1, 2, none⟩ = some (.int .i64 0) := ⟨(blk_cell x1 0).trans rfl, (blk_cell x1 1).trans rfl, (blk_cell x1 2).trans rfl⟩
    obtain ⟨t0, t1, t2⟩ : wa.drew.cell? ⟨w.heap.size + 1, 0, none⟩ = some (.int .i64 0) ∧ wa.drew.cell? ⟨w.heap.size + 1, 1, none⟩ = some (.int .i64 0) ∧ wa.drew.cell? ⟨w.heap.size + 1, 2, none⟩ = some (.int .i64 0) := ⟨r0, r1, r2⟩
    obtain ⟨f0, f1, f2⟩ : wa.frozen? ⟨w.heap.size + 1, 0, none⟩ = false ∧ wa.frozen? ⟨w.heap.size + 1, 1, none⟩ = false ∧ wa.frozen? ⟨w.heap.size + 1, 2, none⟩ = false := ⟨blk_frozen x1 0, blk_frozen x1 1, blk_frozen x1 2⟩
    obtain ⟨g0', g1', g2'⟩ : wa.drew.frozen? ⟨w.heap.size + 1, 0, none⟩ = false ∧ wa.drew.frozen? ⟨w.heap.size + 1, 1, none⟩ = false ∧ wa.drew.frozen? ⟨w.heap.size + 1, 2, none⟩ = false := ⟨f0, f1, f2⟩
    have l1 := blk_lt x1
    have l0 : w.heap.size < wa.heap.size := blk_lt x0
    have HX1 := Lib.hid x1
    have HBA := Lib.hid hba
    clear h hWa hWd x0 x1 hba
    go_enter Tryd.func57, Tryd.ntmps57
    go_wp2
    go_region_with (first
      | (go_at_call 73; ((with_reducible refine HC.out.mono ?_); rintro e w1 ⟨rfl, rfl⟩)))
    all_goals
      go_wp2
      have hend := ins_end HX1.out HBA.out 22 (slotP s.xs x) m _ rfl
      exact bodyPost_ret (v := .agg #[.int .i64 22, .int .i64 (slotP s.xs x), .int .i64 m]) (results_cell_row rfl _ _ (w.heap.size + 1) 43 _ (0, 0) _ rfl hend.1 Tryd.underlying43 rfl (by kernel_rfl)) rfl ⟨rfl, hend.2⟩
  · show Calls _ _ _ _ fun e w' => e = .returned (in3V (21, slotP s.vs x, listP x)) ∧ _
    obtain ⟨wa, hwa⟩ : ∃ wa, (w.alloc (stmtO 4 x m (.slice A1 k1 c1) (.slice A2 k2 c2) (.slice A3 k3 c3))).alloc (insO 0 0 0) = wa := ⟨_, rfl⟩
    have hWa : WI n N O w0 s vv va M L wa := by rw [← hwa]; exact (h.alloc _).alloc _
    have hba : Below w.heap.size w wa := by rw [← hwa]; exact ((Below.refl _ _).alloc (Nat.le_refl _) _).alloc (by simp) _
    have x0 : wa.heap[w.heap.size]? = some (stmtO 4 x m (.slice A1 k1 c1) (.slice A2 k2 c2) (.slice A3 k3 c3)) := by rw [← hwa]; exact blk_alloc (heap_alloc_new _ _) _
    have x1 : wa.heap[w.heap.size + 1]? = some (insO 0 0 0) := by rw [← hwa]; exact new2 _ _ _
    have hWd : WI n N O w0 s vv va M L wa.drew := hWa.below (belowD (Below.refl _ _))
    have HC := Lib.hid (wvar_any x hWd hvv)
    have HLI := Lib.hid (list_any x wa.drew hx)
    have y1 : wa.cell? ⟨w.heap.size, 0, none⟩ = some (.int .i64 4) := (blk_cell x0 0).trans rfl
    have y2 : wa.drew.cell? ⟨w.heap.size, 1, none⟩ = some (.string x) := (blk_cell x0 1).trans rfl
    have y3 : wa.drew.cell? ⟨w.heap.size, 2, none⟩ = some (.int .i64 m) := (blk_cell x0 2).trans rfl
    obtain ⟨r0, r1, r2⟩ : wa.cell? ⟨w.heap.size + 1, 0, none⟩ = some (.int .i64 0) ∧ wa.cell? ⟨w.heap.size + 1, 1, none⟩ = some (.int .i64 0) ∧ wa.cell? ⟨w.heap.size + 1, 2, none⟩ = some (.int .i64 0) := ⟨(blk_cell x1 0).trans rfl, (blk_cell x1 1).trans rfl, (blk_cell x1 2).trans rfl⟩
    obtain ⟨t0, t1, t2⟩ : wa.drew.cell? ⟨w.heap.size + 1, 0, none⟩ = some (.int .i64 0) ∧ wa.drew.cell? ⟨w.heap.size + 1, 1, none⟩ = some (.int .i64 0) ∧ wa.drew.cell? ⟨w.heap.size + 1, 2, none⟩ = some (.int .i64 0) := ⟨r0, r1, r2⟩
    obtain ⟨f0, f1, f2⟩ : wa.frozen? ⟨w.heap.size + 1, 0, none⟩ = false ∧ wa.frozen? ⟨w.heap.size + 1, 1, none⟩ = false ∧ wa.frozen? ⟨w.heap.size + 1, 2, none⟩ = false := ⟨blk_frozen x1 0, blk_frozen x1 1, blk_frozen x1 2⟩
    obtain ⟨g0', g1', g2'⟩ : wa.drew.frozen? ⟨w.heap.size + 1, 0, none⟩ = false ∧ wa.drew.frozen? ⟨w.heap.size + 1, 1, none⟩ = false ∧ wa.drew.frozen? ⟨w.heap.size + 1, 2, none⟩ = false := ⟨f0, f1, f2⟩
    have l1 := blk_lt x1
    have l0 : w.heap.size < wa.heap.size := blk_lt x0
    have HX1 := Lib.hid x1
    have HBA := Lib.hid hba
    clear h hWa hWd x0 x1 hba
    go_enter Tryd.func57, Tryd.ntmps57
    go_wp2
    go_region_with (first
      | (go_at_call 72; ((with_reducible refine HC.out.mono ?_); rintro e w1 ⟨rfl, rfl⟩))
      | (go_at_call 74; ((with_reducible refine HLI.out.mono ?_); rintro e w1 ⟨rfl, rfl⟩)))
    all_goals
      go_wp2
      have hend := ins_end HX1.out HBA.out 21 (slotP s.vs x) (listP x) _ rfl
      exact bodyPost_ret (v := .agg #[.int .i64 21, .int .i64 (slotP s.vs x), .int .i64 (listP x)]) (results_cell_row rfl _ _ (w.heap.size + 1) 43 _ (0, 0) _ rfl hend.1 Tryd.underlying43 rfl (by kernel_rfl)) rfl ⟨rfl, hend.2⟩
  · show Calls _ _ _ _ fun e w' => e = .returned (in3V (19, 0, 0)) ∧ _
    clear h
    go_enter Tryd.func57, Tryd.ntmps57
    go_wp2
    exact bodyPost_ret (v := .agg #[.int .i64 19, .int .i64 0, .int .i64 0]) (results_cell_row rfl _ _ (w.heap.size + 1) 43 _ (0, 0) _ rfl (new2 _ _ _) Tryd.underlying43 rfl (by kernel_rfl)) rfl ⟨rfl, ((Below.refl _ _).alloc (Nat.le_refl _) _).alloc (by simp) _⟩
  · show Calls _ _ _ _ fun e w' => e = .returned (in3V (20, 0, 0)) ∧ _
    clear h
    go_enter Tryd.func57, Tryd.ntmps57
    go_wp2
    exact bodyPost_ret (v := .agg #[.int .i64 20, .int .i64 0, .int .i64 0]) (results_cell_row rfl _ _ (w.heap.size + 1) 43 _ (0, 0) _ rfl (new2 _ _ _) Tryd.underlying43 rfl (by kernel_rfl)) rfl ⟨rfl, ((Below.refl _ _).alloc (Nat.le_refl _) _).alloc (by simp) _⟩
  · show Calls _ _ _ _ fun e w' => e = .returned (in3V (18, 0, 0)) ∧ _
    clear h
    go_enter Tryd.func57, Tryd.ntmps57
    go_wp2
    exact bodyPost_ret (v := .agg #[.int .i64 18, .int .i64 0, .int .i64 0]) (results_cell_row rfl _ _ (w.heap.size + 1) 43 _ (0, 0) _ rfl (new2 _ _ _) Tryd.underlying43 rfl (by kernel_rfl)) rfl ⟨rfl, ((Below.refl _ _).alloc (Nat.le_refl _) _).alloc (by simp) _⟩
end Go.Proofs.YtnilklgnpfgieaaDoor

/-
  What a body is as instructions, plainly; expressions.
-/
namespace Go.Proofs.YtnilklgnpfgieaaDoor
open Go Go.RowKit Go.Lib

/-- The instructions of expressions, of statements that stand at a place. -/
def cE (s : Sp) (pl : ByteArray → Int) : ES → List In3
  | .nil => []
  | .cons op m x l r => cE s pl l ++ (mkI s pl op m x :: cE s pl r)
def stI (p : Nat) (c B : List In3) (E : Nat → List In3) (d : In3) (op : Int) : List In3 :=
  if op = 7 then c ++ ((16, ((p + c.length + 1 + B.length + 1 : Nat) : Int), 0) :: (B ++ ((15, ((p + c.length + 1 + B.length + 1 + (E (p + c.length + 1 + B.length + 1)).length : Nat) : Int), 0) :: E (p + c.length + 1 + B.length + 1))))
  else if op = 8 then c ++ ((16, ((p + c.length + 1 + B.length + 1 : Nat) : Int), 0) :: (B ++ [(15, (p : Int), 0)]))
  else c ++ [d]
def cS (s : Sp) (pl : ByteArray → Int) : SS → Nat → List In3
  | .nil => fun _ => []
  | .cons op x m l b e r => fun p =>
    stI p (cE s pl l) (cS s pl b (p + (cE s pl l).length + 1)) (cS s pl e) (doI s op m x) op ++ cS s pl r (p + (stI p (cE s pl l) (cS s pl b (p + (cE s pl l).length + 1)) (cS s pl e) (doI s op m x) op).length)
theorem cE_len (s : Sp) (pl : ByteArray → Int) : ∀ l : ES, (cE s pl l).length = l.cnt
  | .nil => rfl
  | .cons op m x l r => by simp [cE, ES.cnt, cE_len s pl l, cE_len s pl r]; omega
theorem stI_len (p : Nat) (c B : List In3) (E : Nat → List In3) (d : In3) (op : Int) (k : Nat) (hE : ∀ q, (E q).length ≤ k) : (stI p c B E d op).length ≤ c.length + B.length + k + 2 := by
  unfold stI
  have := hE (p + c.length + 1 + B.length + 1)
  split
  · simp; omega
  split
  · simp; omega
  · simp; omega
theorem cS_len (s : Sp) (pl : ByteArray → Int) : ∀ (l : SS) (p : Nat), (cS s pl l p).length ≤ 3 * l.cnt
  | .nil, p => by simp [cS]
  | .cons op x m l b e r, p => by
    have h1 := stI_len p (cE s pl l) (cS s pl b (p + (cE s pl l).length + 1)) (cS s pl e) (doI s op m x) op (3 * e.cnt) (cS_len s pl e)
    have h2 := cS_len s pl b (p + (cE s pl l).length + 1)
    have h3 := cS_len s pl r (p + (stI p (cE s pl l) (cS s pl b (p + (cE s pl l).length + 1)) (cS s pl e) (doI s op m x) op).length)
    have h4 := cE_len s pl l
    simp only [cS, SS.cnt, List.length_append]
    omega
/-- All ops are known. -/
def ES.og : ES → Prop
  | .nil => True
  | .cons op _ _ l r => (1 ≤ op ∧ op ≤ 16) ∧ l.og ∧ r.og
def SS.og : SS → Prop
  | .nil => True
  | .cons op _ _ l b e r => (1 ≤ op ∧ op ≤ 9) ∧ l.og ∧ b.og ∧ e.og ∧ r.og

/-- What a function's writer reads: its scope's names, the places of functions, the table. -/
structure WE (n : Nat) (w0 : World) (s : Sp) (vv va : Value) (M : Nat) (pl : ByteArray → Int) : Prop where
  vv : RowV (PsIn w0 s.vs) n s.vs.length vv
  va : RowV (PsIn w0 s.xs) n s.xs.length va
  hM : M < n
  pm : PMap M pl w0
  hg : 4 < n
  sm : SameAt w0

def WexHas (K : Nat) : Prop := ∀ (A : Option Addr) (cap : Nat) (l : ES) (n N O : Nat) (w0 : World) (s : Sp) (vv va : Value) (M : Nat) (pl : ByteArray → Int) (L : List In3) (W : World), l.cnt < K → EV n w0 (.slice A l.len cap) l → l.og → WE n w0 s vv va M pl → WI n N O w0 s vv va M L W → L.length + l.cnt ≤ 90000000 →
  Calls Tryd.prog 54 #[.pointer (some ⟨O, 0, none⟩), .slice A l.len cap] W fun e W' => e = .returned (.tuple #[]) ∧ WI n N O w0 s vv va M (L ++ cE s pl l) W' ∧ Kw O W W'
def WexRel (n N O : Nat) (w0 : World) (s : Sp) (vv va : Value) (M : Nat) (pl : ByteArray → Int) (F : List In3) (T : Nat) (W : World) (K len : Nat) (A : Option Addr) (i : Value) (wr : World) : Prop :=
  ∃ (k : Nat) (r : ES) (L1 : List In3), i = .int .i64 k ∧ k + r.len = len ∧ r.cnt ≤ K ∧ r.og ∧ F = L1 ++ cE s pl r ∧ L1.length + r.cnt ≤ T ∧ (0 < r.len → ∃ b o, A = some ⟨b, o, none⟩ ∧ b < n ∧ r.In n w0 b (o + k * 4)) ∧ WI n N O w0 s vv va M L1 wr ∧ Kw O W wr

set_option maxRecDepth 100000 in
set_option maxHeartbeats 4000000 in
theorem wex_step (K : Nat) (hk : WexHas K) : WexHas (K + 1) := by
  intro A cap l n N O w0 s vv va M pl L W hK hv hog hE hwi hc
  obtain ⟨A1, cap1, e1, hc1, hc2, hrow⟩ := hv
  injection e1 with e2 e3 e4
  subst e2 e4
  clear e3
  obtain ⟨F, hF⟩ : ∃ F, L ++ cE s pl l = F := ⟨_, rfl⟩
  rw [hF]
  have HF0 := Lib.hid hF; clear hF
  obtain ⟨len, hlen⟩ : ∃ len, l.len = len := ⟨_, rfl⟩
  rw [hlen] at hc1 hrow ⊢
  have HL := Lib.hid hlen; clear hlen
  have HC := Lib.hid hwi
  have HE := Lib.hid hE
  have hsO := hwi.hO
  have hsN := hwi.hN
  have hsz0 := hwi.sz
  clear hwi hE
  go_enter Tryd.func54, Tryd.ntmps54
  go_wp2
  go_loopw [8] (fun i wr => WexRel n N O w0 s vv va M pl F 90000000 W K len A i wr) (fun i _ => len - (intOf i).toNat)
  case atStart => exact ⟨0, l, L, rfl, by have := HL.out; omega, by omega, hog, HF0.out.symm, hc, by simpa [HL.out] using hrow, HC.out, Kw.refl _ _⟩
  case round =>
    obtain ⟨k, r, L1, rfl, hkk, hrK, hrog, hrun, hcc, hr1, hwi1, hkx⟩ := hrel
    have HRU := Lib.hid hrun; clear hrun
    cases r with
    | nil =>
      have hk0 : k = len := by simpa [ES.len] using hkk
      subst hk0
      clear hkk hrow hr1
      have HJ := Lib.hid hwi1; clear hwi1
      go_wp2
      go_end0
      exact ⟨rfl, by rw [HRU.out]; simpa [cE] using HJ.out, hkx⟩
    | cons op m x l1 r =>
      obtain ⟨b, o, rfl, hb, c0, c1', c2, ⟨v3, c3, h3⟩, h6, hr⟩ := hr1 (by simp [ES.len])
      clear hrow hr1
      obtain ⟨A3, cap3, rfl, _⟩ := id h3
      have hlt : k < len := by simp [ES.len] at hkk; omega
      have HKK := Lib.hid hkk; clear hkk
      have hbase := hwi1.base
      have d0 := (hbase.cell (p := ⟨b, o + k * 4, none⟩) hb).trans c0
      have d1 := (hbase.cell (p := ⟨b, o + k * 4 + 1, none⟩) hb).trans c1'
      have d2 := (hbase.cell (p := ⟨b, o + k * 4 + 2, none⟩) hb).trans c2
      have d3 := (hbase.cell (p := ⟨b, o + k * 4 + 3, none⟩) hb).trans c3
      clear c0 c1' c2 c3
      have hcnt : l1.cnt < K ∧ r.cnt ≤ K ∧ L1.length + (l1.cnt + 1) + r.cnt ≤ 90000000 := by simp only [ES.cnt] at hrK hcc; omega
      have hz1 := hwi1.sz
      have HX := Lib.hid (hk A3 cap3 l1 n N O w0 s vv va M pl L1 _ hcnt.1 h3 hrog.2.1 HE.out (hwi1.alloc (exprO op m x (.slice A3 l1.len cap3))) (by omega))
      have HKA : Kw O wr (wr.alloc (exprO op m x (.slice A3 l1.len cap3))) := Kw.below ((Below.refl _ _).alloc (Nat.le_refl _) _)
      have HN := Lib.hid (heap_alloc_new wr (exprO op m x (.slice A3 l1.len cap3)))
      have HKA := Lib.hid HKA
      have HOP := Lib.hid hrog.1
      have HROG := Lib.hid hrog.2.2
      have HXS := Lib.hid h6.2.2
      have HLE := Lib.hid (cE_len s pl l1)
      clear hwi1 hbase hrog
      go_wp2_with (first
        | (go_at_call 54; ((with_reducible refine HX.out.mono ?_); rintro e w1 ⟨rfl, h1, h2⟩; have q0 := h2.2 _ _ _ (by decide) (by omega) HN.out; obtain ⟨z0, z1, z2, z3⟩ : w1.cell? ⟨wr.heap.size, 0, none⟩ = some (.int .i64 op) ∧ w1.cell? ⟨wr.heap.size, 1, none⟩ = some (.int .i64 m) ∧ w1.cell? ⟨wr.heap.size, 2, none⟩ = some (.string x) ∧ w1.cell? ⟨wr.heap.size, 3, none⟩ = some (.slice A3 l1.len cap3) := ⟨(blk_cell q0 0).trans rfl, (blk_cell q0 1).trans rfl, (blk_cell q0 2).trans rfl, (blk_cell q0 3).trans rfl⟩; have HM := Lib.hid (makes_w op m x A3 l1.len cap3 h1 HE.out.vv HE.out.va HE.out.hM HE.out.pm HE.out.hg HE.out.sm HOP.out HXS.out); have H1 := Lib.hid h1; have H2 := Lib.hid h2; clear q0 h1 h2))
        | (go_at_call 70; ((with_reducible refine HM.out.mono ?_); rintro e w2 ⟨rfl, h3⟩; have HA := Lib.hid (add_w (mkI s pl op m x).1 (mkI s pl op m x).2.1 (mkI s pl op m x).2.2 (H1.out.below h3) (by rw [List.length_append, HLE.out]; omega)); have H3 := Lib.hid h3; clear h3))
        | (go_at_call 23; ((with_reducible refine HA.out.mono ?_); rintro e w3 ⟨rfl, h4, h5⟩)))
      go_roundw
      case rel =>
        refine ⟨k + 1, r, _, by go_num, by have := HKK.out; simp [ES.len] at this; omega, hcnt.2.1, HROG.out, ?_, ?_, fun _ => ⟨b, o, rfl, hb, by rw [show o + (k + 1) * 4 = o + k * 4 + 4 by omega]; exact hr⟩, h4, (((hkx.trans HKA.out).trans H2.out).trans (Kw.below H3.out)).trans h5⟩
        · rw [HRU.out]; simp [cE]
        · rw [List.length_append, List.length_append, HLE.out]; simp only [List.length_cons, List.length_nil]; omega
      case measure => simp [intOf]; omega
theorem wex_all : ∀ K, WexHas K
  | 0 => fun _ _ _ _ _ _ _ _ _ _ _ _ _ _ h => absurd h (Nat.not_lt_zero _)
  | K + 1 => wex_step K (wex_all K)
end Go.Proofs.YtnilklgnpfgieaaDoor

/-
  choice, loop, statement, statements.
-/
namespace Go.Proofs.YtnilklgnpfgieaaDoor
open Go Go.RowKit Go.Lib

theorem set_mid {α : Type} (y : α) : ∀ (a : List α) (x : α) (b : List α), (a ++ x :: b).set a.length y = a ++ y :: b
  | [], _, _ => rfl
  | _ :: a, x, b => by simp [set_mid y a x b]
theorem get_mid {α : Type} (a : List α) (x : α) (b : List α) : (a ++ x :: b)[a.length]? = some x := by simp
def chI (z : Nat) (B : List In3) (E : Nat → List In3) : List In3 :=
  (16, ((z + 1 + B.length + 1 : Nat) : Int), 0) :: (B ++ ((15, ((z + 1 + B.length + 1 + (E (z + 1 + B.length + 1)).length : Nat) : Int), 0) :: E (z + 1 + B.length + 1)))
def lpI (z : Nat) (B : List In3) (p : Nat) : List In3 := (16, ((z + 1 + B.length + 1 : Nat) : Int), 0) :: (B ++ [(15, (p : Int), 0)])

def StsHas (K : Nat) : Prop := ∀ (A : Option Addr) (cap : Nat) (l : SS) (n N O : Nat) (w0 : World) (s : Sp) (vv va : Value) (M : Nat) (pl : ByteArray → Int) (L : List In3) (W : World), l.cnt < K → SV n w0 (.slice A l.len cap) l → l.og → WE n w0 s vv va M pl → WI n N O w0 s vv va M L W → L.length + 3 * l.cnt ≤ 90000000 →
  Calls Tryd.prog 22 #[.pointer (some ⟨O, 0, none⟩), .slice A l.len cap] W fun e W' => e = .returned (.tuple #[]) ∧ WI n N O w0 s vv va M (L ++ cS s pl l L.length) W' ∧ Kw O W W'

section
variable {K n N O : Nat} {w0 w : World} {s : Sp} {vv va : Value} {M : Nat} {pl : ByteArray → Int} {L : List In3}
set_option maxRecDepth 100000 in
set_option maxHeartbeats 4000000 in
theorem choice_w (hk : StsHas K) (op m : Int) (x : ByteArray) (A1 A2 A3 : Option Addr) (k1 c1 c2 c3 : Nat) (b e : SS) (hbK : b.cnt < K) (heK : e.cnt < K) (hb : SV n w0 (.slice A2 b.len c2) b) (he : SV n w0 (.slice A3 e.len c3) e) (hbo : b.og) (heo : e.og)
    (hE : WE n w0 s vv va M pl) (hwi : WI n N O w0 s vv va M L w) (hc : L.length + 3 * b.cnt + 3 * e.cnt + 2 ≤ 90000000) :
    Calls Tryd.prog 55 #[.pointer (some ⟨O, 0, none⟩), .agg #[.int .i64 op, .string x, .int .i64 m, .slice A1 k1 c1, .slice A2 b.len c2, .slice A3 e.len c3]] w fun e' w' => e' = .returned (.tuple #[]) ∧ WI n N O w0 s vv va M (L ++ chI L.length (cS s pl b (L.length + 1)) (cS s pl e)) w' ∧ Kw O w w' := by
  obtain ⟨z, hz⟩ : ∃ z, L.length = z := ⟨_, rfl⟩
  have hB := cS_len s pl b (z + 1)
  obtain ⟨B, hBn⟩ : ∃ B, cS s pl b (z + 1) = B := ⟨_, rfl⟩
  rw [hBn] at hB
  obtain ⟨q, hq⟩ : ∃ q, z + 1 + B.length + 1 = q := ⟨_, rfl⟩
  have hEl := cS_len s pl e q
  obtain ⟨E, hEn⟩ : ∃ E, cS s pl e q = E := ⟨_, rfl⟩
  rw [hEn] at hEl
  have hfin : L ++ chI L.length (cS s pl b (L.length + 1)) (cS s pl e) = L ++ (16, (q : Int), 0) :: (B ++ (15, ((q + E.length : Nat) : Int), 0) :: E) := by
    unfold chI
    rw [hz, hBn, hq, hEn]
  rw [hfin]
  clear hfin
  have hsO := hwi.hO
  have hsN := hwi.hN
  have hsz := hwi.sz
  have W0 : WI n N O w0 s vv va M L (w.alloc (stmtO op x m (.slice A1 k1 c1) (.slice A2 b.len c2) (.slice A3 e.len c3))) := hwi.alloc _
  have HKA : Kw O w (w.alloc (stmtO op x m (.slice A1 k1 c1) (.slice A2 b.len c2) (.slice A3 e.len c3))) := Kw.below ((Below.refl _ _).alloc (Nat.le_refl _) _)
  have HN := Lib.hid (heap_alloc_new w (stmtO op x m (.slice A1 k1 c1) (.slice A2 b.len c2) (.slice A3 e.len c3)))
  have HA1 := add_w 16 0 0 W0 (by omega)
  rw [hz] at HA1
  have HA1 := Lib.hid HA1
  have HKA := Lib.hid HKA
  have l2 : (L ++ [((16 : Int), (0 : Int), (0 : Int))]).length = z + 1 := by simp [hz]
  have HST : Hid (∀ w1, WI n N O w0 s vv va M (L ++ [(16, 0, 0)]) w1 → Calls Tryd.prog 22 #[.pointer (some ⟨O, 0, none⟩), .slice A2 b.len c2] w1 fun e W' => e = .returned (.tuple #[]) ∧ WI n N O w0 s vv va M (L ++ [(16, 0, 0)] ++ B) W' ∧ Kw O w1 W') := hid fun w1 h1 => by
    have := hk A2 c2 b n N O w0 s vv va M pl _ w1 hbK hb hbo hE h1 (by rw [l2]; omega)
    rwa [l2, hBn] at this
  have l3 : (L ++ [((16 : Int), (0 : Int), (0 : Int))] ++ B).length = z + 1 + B.length := by rw [List.length_append, l2]
  have HA2 : Hid (∀ w1, WI n N O w0 s vv va M (L ++ [(16, 0, 0)] ++ B) w1 → Calls Tryd.prog 23 #[.pointer (some ⟨O, 0, none⟩), .agg #[.int .i64 15, .int .i64 0, .int .i64 0]] w1 fun e w' => e = .returned (.int .i64 ((z + 1 + B.length : Nat) : Int)) ∧ WI n N O w0 s vv va M (L ++ [(16, 0, 0)] ++ B ++ [(15, 0, 0)]) w' ∧ Kw O w1 w') := hid fun w1 h1 => by
    have := add_w 15 0 0 h1 (by rw [l3]; omega)
    rwa [l3] at this
  have e4 : L ++ [((16 : Int), (0 : Int), (0 : Int))] ++ B ++ [(15, 0, 0)] = L ++ (16, 0, 0) :: (B ++ [(15, 0, 0)]) := by simp
  have l4 : (L ++ ((16 : Int), (0 : Int), (0 : Int)) :: (B ++ [(15, 0, 0)])).length = q := by rw [← hq]; simp [hz]; omega
  have HL1 : Hid (∀ w1, WI n N O w0 s vv va M (L ++ [(16, 0, 0)] ++ B ++ [(15, 0, 0)]) w1 → Calls Tryd.prog 71 #[.pointer (some ⟨O, 0, none⟩), .int .i64 z] w1 fun e w' => e = .returned (.tuple #[]) ∧ WI n N O w0 s vv va M (L ++ (16, (q : Int), 0) :: (B ++ [(15, 0, 0)])) w' ∧ Kw O w1 w') := hid fun w1 h1 => by
    rw [e4] at h1
    have := land_w L.length z (by rw [hz]) 16 0 0 h1 (get_mid _ _ _) (by rw [l4]; omega)
    rwa [set_mid, l4] at this
  have l4' : (L ++ ((16 : Int), (q : Int), (0 : Int)) :: (B ++ [(15, 0, 0)])).length = q := by rw [← l4]; simp
  have HSE : Hid (∀ w1, WI n N O w0 s vv va M (L ++ (16, (q : Int), 0) :: (B ++ [(15, 0, 0)])) w1 → Calls Tryd.prog 22 #[.pointer (some ⟨O, 0, none⟩), .slice A3 e.len c3] w1 fun e' W' => e' = .returned (.tuple #[]) ∧ WI n N O w0 s vv va M (L ++ (16, (q : Int), 0) :: (B ++ [(15, 0, 0)]) ++ E) W' ∧ Kw O w1 W') := hid fun w1 h1 => by
    have := hk A3 c3 e n N O w0 s vv va M pl _ w1 heK he heo hE h1 (by rw [l4']; omega)
    rwa [l4', hEn] at this
  have e5 : L ++ ((16 : Int), (q : Int), (0 : Int)) :: (B ++ [(15, 0, 0)]) ++ E = (L ++ (16, (q : Int), 0) :: B) ++ (15, 0, 0) :: E := by simp
  have l5 : ((L ++ ((16 : Int), (q : Int), (0 : Int)) :: B) ++ (15, 0, 0) :: E).length = q + E.length := by rw [← e5, List.length_append, l4']
  have l6 : (L ++ ((16 : Int), (q : Int), (0 : Int)) :: B).length = z + 1 + B.length := by simp [hz]; omega
  have HL2 : Hid (∀ w1, WI n N O w0 s vv va M (L ++ (16, (q : Int), 0) :: (B ++ [(15, 0, 0)]) ++ E) w1 → Calls Tryd.prog 71 #[.pointer (some ⟨O, 0, none⟩), .int .i64 ((z + 1 + B.length : Nat) : Int)] w1 fun e w' => e = .returned (.tuple #[]) ∧ WI n N O w0 s vv va M (L ++ (16, (q : Int), 0) :: (B ++ (15, ((q + E.length : Nat) : Int), 0) :: E)) w' ∧ Kw O w1 w') := hid fun w1 h1 => by
    rw [e5] at h1
    have := land_w (z + 1 + B.length) _ rfl 15 0 0 h1 (by rw [← l6]; exact get_mid _ _ _) (by rw [l5]; omega)
    have hs : ((L ++ ((16 : Int), (q : Int), (0 : Int)) :: B) ++ (15, 0, 0) :: E).set (z + 1 + B.length) (15, ((q + E.length : Nat) : Int), 0) = L ++ (16, (q : Int), 0) :: (B ++ (15, ((q + E.length : Nat) : Int), 0) :: E) := by rw [← l6, set_mid]; simp
    rw [l5, hs] at this
    exact this
  obtain ⟨j, hj⟩ : ∃ j, z + 1 + B.length = j := ⟨_, rfl⟩
  rw [hj] at HA2 HL2
  clear hz hBn hq hEn hj l2 l3 l4 l4' l5 l6 e4 e5 W0 hwi hb he hE hk
  go_enter Tryd.func55, Tryd.ntmps55
  go_wp2_with (first
    | (go_at_call 23; first
        | ((with_reducible refine HA1.out.mono ?_); rintro e1 w1 ⟨rfl, h1, h2⟩; have q1 := h2.2 _ _ _ (by decide) (by omega) HN.out; have y4 : w1.cell? ⟨w.heap.size, 4, none⟩ = some (.slice A2 b.len c2) := (blk_cell q1 4).trans rfl; have Q1 := Lib.hid q1; have S1 := Lib.hid (HST.out _ h1); have K1 := Lib.hid h2; clear q1 h1 h2)
        | ((with_reducible refine A2'.out.mono ?_); rintro e1 w3 ⟨rfl, h1, h2⟩; have q3 := h2.2 _ _ _ (by decide) (by omega) Q2.out; have Q3 := Lib.hid q3; have D1 := Lib.hid (HL1.out _ h1); have K3 := Lib.hid h2; clear q3 h1 h2))
    | (go_at_call 22; first
        | ((with_reducible refine S1.out.mono ?_); rintro e1 w2 ⟨rfl, h1, h2⟩; have q2 := h2.2 _ _ _ (by decide) (by omega) Q1.out; have Q2 := Lib.hid q2; have A2' := Lib.hid (HA2.out _ h1); have K2 := Lib.hid h2; clear q2 h1 h2)
        | ((with_reducible refine S2.out.mono ?_); rintro e1 w5 ⟨rfl, h1, h2⟩; have D2 := Lib.hid (HL2.out _ h1); have K5 := Lib.hid h2; clear h1 h2))
    | (go_at_call 71; first
        | ((with_reducible refine D1.out.mono ?_); rintro e1 w4 ⟨rfl, h1, h2⟩; have q4 := h2.2 _ _ _ (by decide) (by omega) Q3.out; have y5 : w4.cell? ⟨w.heap.size, 5, none⟩ = some (.slice A3 e.len c3) := (blk_cell q4 5).trans rfl; have S2 := Lib.hid (HSE.out _ h1); have K4 := Lib.hid h2; clear q4 h1 h2)
        | ((with_reducible refine D2.out.mono ?_); rintro e1 w6 ⟨rfl, h1, h2⟩)))
  go_end0
  exact ⟨rfl, h1, (((((HKA.out.trans K1.out).trans K2.out).trans K3.out).trans K4.out).trans K5.out).trans h2⟩

set_option maxRecDepth 100000 in
set_option maxHeartbeats 4000000 in
theorem loop_w (hk : StsHas K) (op m : Int) (x : ByteArray) (A1 A2 A3 : Option Addr) (k1 c1 c2 k3 c3 : Nat) (b : SS) (p : Nat) (hbK : b.cnt < K) (hb : SV n w0 (.slice A2 b.len c2) b) (hbo : b.og)
    (hE : WE n w0 s vv va M pl) (hwi : WI n N O w0 s vv va M L w) (hc : L.length + 3 * b.cnt + 2 ≤ 90000000) :
    Calls Tryd.prog 56 #[.pointer (some ⟨O, 0, none⟩), .agg #[.int .i64 op, .string x, .int .i64 m, .slice A1 k1 c1, .slice A2 b.len c2, .slice A3 k3 c3], .int .i64 p] w fun e' w' => e' = .returned (.tuple #[]) ∧ WI n N O w0 s vv va M (L ++ lpI L.length (cS s pl b (L.length + 1)) p) w' ∧ Kw O w w' := by
  obtain ⟨z, hz⟩ : ∃ z, L.length = z := ⟨_, rfl⟩
  have hB := cS_len s pl b (z + 1)
  obtain ⟨B, hBn⟩ : ∃ B, cS s pl b (z + 1) = B := ⟨_, rfl⟩
  rw [hBn] at hB
  obtain ⟨q, hq⟩ : ∃ q, z + 1 + B.length + 1 = q := ⟨_, rfl⟩
  have hfin : L ++ lpI L.length (cS s pl b (L.length + 1)) p = L ++ (16, (q : Int), 0) :: (B ++ [(15, (p : Int), 0)]) := by
    unfold lpI
    rw [hz, hBn, hq]
  rw [hfin]
  clear hfin
  have hsO := hwi.hO
  have hsN := hwi.hN
  have hsz := hwi.sz
  have W0 : WI n N O w0 s vv va M L (w.alloc (stmtO op x m (.slice A1 k1 c1) (.slice A2 b.len c2) (.slice A3 k3 c3))) := hwi.alloc _
  have HKA : Kw O w (w.alloc (stmtO op x m (.slice A1 k1 c1) (.slice A2 b.len c2) (.slice A3 k3 c3))) := Kw.below ((Below.refl _ _).alloc (Nat.le_refl _) _)
  have HN := Lib.hid (heap_alloc_new w (stmtO op x m (.slice A1 k1 c1) (.slice A2 b.len c2) (.slice A3 k3 c3)))
  have HA1 := add_w 16 0 0 W0 (by omega)
  rw [hz] at HA1
  have HA1 := Lib.hid HA1
  have HKA := Lib.hid HKA
  have l2 : (L ++ [((16 : Int), (0 : Int), (0 : Int))]).length = z + 1 := by simp [hz]
  have HST : Hid (∀ w1, WI n N O w0 s vv va M (L ++ [(16, 0, 0)]) w1 → Calls Tryd.prog 22 #[.pointer (some ⟨O, 0, none⟩), .slice A2 b.len c2] w1 fun e W' => e = .returned (.tuple #[]) ∧ WI n N O w0 s vv va M (L ++ [(16, 0, 0)] ++ B) W' ∧ Kw O w1 W') := hid fun w1 h1 => by
    have := hk A2 c2 b n N O w0 s vv va M pl _ w1 hbK hb hbo hE h1 (by rw [l2]; omega)
    rwa [l2, hBn] at this
  have l3 : (L ++ [((16 : Int), (0 : Int), (0 : Int))] ++ B).length = z + 1 + B.length := by rw [List.length_append, l2]
  have HA2 : Hid (∀ w1, WI n N O w0 s vv va M (L ++ [(16, 0, 0)] ++ B) w1 → Calls Tryd.prog 23 #[.pointer (some ⟨O, 0, none⟩), .agg #[.int .i64 15, .int .i64 p, .int .i64 0]] w1 fun e w' => e = .returned (.int .i64 ((z + 1 + B.length : Nat) : Int)) ∧ WI n N O w0 s vv va M (L ++ [(16, 0, 0)] ++ B ++ [(15, (p : Int), 0)]) w' ∧ Kw O w1 w') := hid fun w1 h1 => by
    have := add_w 15 p 0 h1 (by rw [l3]; omega)
    rwa [l3] at this
  have e4 : L ++ [((16 : Int), (0 : Int), (0 : Int))] ++ B ++ [(15, (p : Int), 0)] = L ++ (16, 0, 0) :: (B ++ [(15, (p : Int), 0)]) := by simp
  have l4 : (L ++ ((16 : Int), (0 : Int), (0 : Int)) :: (B ++ [(15, (p : Int), 0)])).length = q := by rw [← hq]; simp [hz]; omega
  have HL1 : Hid (∀ w1, WI n N O w0 s vv va M (L ++ [(16, 0, 0)] ++ B ++ [(15, (p : Int), 0)]) w1 → Calls Tryd.prog 71 #[.pointer (some ⟨O, 0, none⟩), .int .i64 z] w1 fun e w' => e = .returned (.tuple #[]) ∧ WI n N O w0 s vv va M (L ++ (16, (q : Int), 0) :: (B ++ [(15, (p : Int), 0)])) w' ∧ Kw O w1 w') := hid fun w1 h1 => by
    rw [e4] at h1
    have := land_w L.length z (by rw [hz]) 16 0 0 h1 (get_mid _ _ _) (by rw [l4]; omega)
    rwa [set_mid, l4] at this
  obtain ⟨j, hj⟩ : ∃ j, z + 1 + B.length = j := ⟨_, rfl⟩
  rw [hj] at HA2
  clear hz hBn hq hj l2 l3 l4 e4 W0 hwi hb hE hk
  go_enter Tryd.func56, Tryd.ntmps56
  go_wp2_with (first
    | (go_at_call 23; first
        | ((with_reducible refine HA1.out.mono ?_); rintro e1 w1 ⟨rfl, h1, h2⟩; have q1 := h2.2 _ _ _ (by decide) (by omega) HN.out; have y4 : w1.cell? ⟨w.heap.size, 4, none⟩ = some (.slice A2 b.len c2) := (blk_cell q1 4).trans rfl; have S1 := Lib.hid (HST.out _ h1); have K1 := Lib.hid h2; clear q1 h1 h2)
        | ((with_reducible refine A2'.out.mono ?_); rintro e1 w3 ⟨rfl, h1, h2⟩; have D1 := Lib.hid (HL1.out _ h1); have K3 := Lib.hid h2; clear h1 h2))
    | (go_at_call 22; ((with_reducible refine S1.out.mono ?_); rintro e1 w2 ⟨rfl, h1, h2⟩; have A2' := Lib.hid (HA2.out _ h1); have K2 := Lib.hid h2; clear h1 h2))
    | (go_at_call 71; ((with_reducible refine D1.out.mono ?_); rintro e1 w4 ⟨rfl, h1, h2⟩)))
  go_end0
  exact ⟨rfl, h1, (((HKA.out.trans K1.out).trans K2.out).trans K3.out).trans h2⟩
end
end Go.Proofs.YtnilklgnpfgieaaDoor

/-
  statement, statements.
-/
namespace Go.Proofs.YtnilklgnpfgieaaDoor
open Go Go.RowKit Go.Lib

set_option maxRecDepth 100000 in
set_option maxHeartbeats 4000000 in
theorem statement_w {K n N O : Nat} {w0 w : World} {s : Sp} {vv va : Value} {M : Nat} {pl : ByteArray → Int} {L : List In3} (hk : StsHas K) (op m : Int) (x : ByteArray) (A1 A2 A3 : Option Addr) (c1 c2 c3 : Nat) (l : ES) (b e : SS) (hbK : b.cnt < K) (heK : e.cnt < K) (hl : EV n w0 (.slice A1 l.len c1) l) (hb : SV n w0 (.slice A2 b.len c2) b) (he : SV n w0 (.slice A3 e.len c3) e)
    (hop : 1 ≤ op ∧ op ≤ 9) (hlo : l.og) (hbo : b.og) (heo : e.og) (hx : x.size ≤ 9223372036854775807) (hE : WE n w0 s vv va M pl) (hwi : WI n N O w0 s vv va M L w) (hc : L.length + 3 * (1 + (l.cnt + (b.cnt + e.cnt))) ≤ 90000000) :
    Calls Tryd.prog 41 #[.pointer (some ⟨O, 0, none⟩), .agg #[.int .i64 op, .string x, .int .i64 m, .slice A1 l.len c1, .slice A2 b.len c2, .slice A3 e.len c3]] w fun e' w' => e' = .returned (.tuple #[]) ∧ WI n N O w0 s vv va M (L ++ stI L.length (cE s pl l) (cS s pl b (L.length + (cE s pl l).length + 1)) (cS s pl e) (doI s op m x) op) w' ∧ Kw O w w' := by
  have hsO := hwi.hO
  have hsN := hwi.hN
  have hsz := hwi.sz
  obtain ⟨p, hp⟩ : ∃ p, L.length = p := ⟨_, rfl⟩
  have hcl := cE_len s pl l
  obtain ⟨C, hC⟩ : ∃ C, cE s pl l = C := ⟨_, rfl⟩
  obtain ⟨wa, hwa⟩ : ∃ wa, w.alloc (stmtO op x m (.slice A1 l.len c1) (.slice A2 b.len c2) (.slice A3 e.len c3)) = wa := ⟨_, rfl⟩
  have W0 : WI n N O w0 s vv va M L wa := by rw [← hwa]; exact hwi.alloc _
  have HKA : Kw O w wa := by rw [← hwa]; exact Kw.below ((Below.refl _ _).alloc (Nat.le_refl _) _)
  have hna : wa.heap[w.heap.size]? = some (stmtO op x m (.slice A1 l.len c1) (.slice A2 b.len c2) (.slice A3 e.len c3)) := by rw [← hwa]; exact heap_alloc_new _ _
  obtain ⟨vl, hbx, hown⟩ := W0.row
  rw [hp] at hown
  obtain ⟨X, cX, rfl⟩ := own_form hown
  have y5 : wa.cell? ⟨O, 5, none⟩ = some (.slice X p cX) := (blk_cell hbx 5).trans rfl
  have z3 : wa.cell? ⟨w.heap.size, 3, none⟩ = some (.slice A1 l.len c1) := (blk_cell hna 3).trans rfl
  have hO := blk_lt hbx
  have hla : w.heap.size < wa.heap.size := blk_lt hna
  have HX := wex_all _ A1 c1 l n N O w0 s vv va M pl L wa (Nat.lt_succ_self _) hl hlo hE W0 (by omega)
  rw [hC] at HX hcl ⊢
  rw [hp] at hc ⊢
  have HX := Lib.hid HX
  have HN := Lib.hid hna
  have HKA := Lib.hid HKA
  have HP := Lib.hid hp
  have hlc : (L ++ C).length = p + C.length := by rw [List.length_append, hp]
  have HC0 := Lib.hid hC
  clear W0 hbx hown hna hC
  by_cases h7 : op = 7
  · subst h7
    have HC : Hid (∀ w1, WI n N O w0 s vv va M (L ++ C) w1 → Calls Tryd.prog 55 #[.pointer (some ⟨O, 0, none⟩), .agg #[.int .i64 7, .string x, .int .i64 m, .slice A1 l.len c1, .slice A2 b.len c2, .slice A3 e.len c3]] w1 fun e' w' => e' = .returned (.tuple #[]) ∧ WI n N O w0 s vv va M (L ++ C ++ chI (p + C.length) (cS s pl b (p + C.length + 1)) (cS s pl e)) w' ∧ Kw O w1 w') := hid fun w1 h1 => by
      have := choice_w hk 7 m x A1 A2 A3 l.len c1 c2 c3 b e hbK heK hb he hbo heo hE h1 (by rw [hlc]; omega)
      rwa [hlc] at this
    have HF : Hid (L ++ stI p C (cS s pl b (p + C.length + 1)) (cS s pl e) (doI s 7 m x) 7 = L ++ C ++ chI (p + C.length) (cS s pl b (p + C.length + 1)) (cS s pl e)) := hid (by unfold stI chI; rw [if_pos rfl, List.append_assoc])
    clear hk hl hb he hE hwi hc hlc hop hp hcl
    go_enter Tryd.func41, Tryd.ntmps41
    go_wp2_with (first
      | (go_at_call 54; ((with_reducible refine HX.out.mono ?_); rintro e1 w1 ⟨rfl, h1, h2⟩; have q0 := h2.2 _ _ _ (by decide) (by omega) HN.out; obtain ⟨t0, t1, t2, t3, t4, t5⟩ : w1.cell? ⟨w.heap.size, 0, none⟩ = some (.int .i64 7) ∧ w1.cell? ⟨w.heap.size, 1, none⟩ = some (.string x) ∧ w1.cell? ⟨w.heap.size, 2, none⟩ = some (.int .i64 m) ∧ w1.cell? ⟨w.heap.size, 3, none⟩ = some (.slice A1 l.len c1) ∧ w1.cell? ⟨w.heap.size, 4, none⟩ = some (.slice A2 b.len c2) ∧ w1.cell? ⟨w.heap.size, 5, none⟩ = some (.slice A3 e.len c3) := ⟨(blk_cell q0 0).trans rfl, (blk_cell q0 1).trans rfl, (blk_cell q0 2).trans rfl, (blk_cell q0 3).trans rfl, (blk_cell q0 4).trans rfl, (blk_cell q0 5).trans rfl⟩; have HCC := Lib.hid (HC.out _ h1); have H2 := Lib.hid h2; clear q0 h1 h2))
      | (go_at_call 55; ((with_reducible refine HCC.out.mono ?_); rintro e2 w2 ⟨rfl, h3, h4⟩)))
    go_end0
    exact ⟨rfl, by rw [HF.out]; exact h3, (HKA.out.trans H2.out).trans h4⟩
  by_cases h8 : op = 8
  · subst h8
    have HC : Hid (∀ w1, WI n N O w0 s vv va M (L ++ C) w1 → Calls Tryd.prog 56 #[.pointer (some ⟨O, 0, none⟩), .agg #[.int .i64 8, .string x, .int .i64 m, .slice A1 l.len c1, .slice A2 b.len c2, .slice A3 e.len c3], .int .i64 p] w1 fun e' w' => e' = .returned (.tuple #[]) ∧ WI n N O w0 s vv va M (L ++ C ++ lpI (p + C.length) (cS s pl b (p + C.length + 1)) p) w' ∧ Kw O w1 w') := hid fun w1 h1 => by
      have := loop_w hk 8 m x A1 A2 A3 l.len c1 c2 e.len c3 b p hbK hb hbo hE h1 (by rw [hlc]; omega)
      rwa [hlc] at this
    have HF : Hid (L ++ stI p C (cS s pl b (p + C.length + 1)) (cS s pl e) (doI s 8 m x) 8 = L ++ C ++ lpI (p + C.length) (cS s pl b (p + C.length + 1)) p) := hid (by unfold stI lpI; rw [if_neg (by decide), if_pos rfl, List.append_assoc])
    clear hk hl hb he hE hwi hc hlc hop hp hcl h7
    go_enter Tryd.func41, Tryd.ntmps41
    go_wp2_with (first
      | (go_at_call 54; ((with_reducible refine HX.out.mono ?_); rintro e1 w1 ⟨rfl, h1, h2⟩; have q0 := h2.2 _ _ _ (by decide) (by omega) HN.out; obtain ⟨t0, t1, t2, t3, t4, t5⟩ : w1.cell? ⟨w.heap.size, 0, none⟩ = some (.int .i64 8) ∧ w1.cell? ⟨w.heap.size, 1, none⟩ = some (.string x) ∧ w1.cell? ⟨w.heap.size, 2, none⟩ = some (.int .i64 m) ∧ w1.cell? ⟨w.heap.size, 3, none⟩ = some (.slice A1 l.len c1) ∧ w1.cell? ⟨w.heap.size, 4, none⟩ = some (.slice A2 b.len c2) ∧ w1.cell? ⟨w.heap.size, 5, none⟩ = some (.slice A3 e.len c3) := ⟨(blk_cell q0 0).trans rfl, (blk_cell q0 1).trans rfl, (blk_cell q0 2).trans rfl, (blk_cell q0 3).trans rfl, (blk_cell q0 4).trans rfl, (blk_cell q0 5).trans rfl⟩; have HCC := Lib.hid (HC.out _ h1); have H2 := Lib.hid h2; clear q0 h1 h2))
      | (go_at_call 56; ((with_reducible refine HCC.out.mono ?_); rintro e2 w2 ⟨rfl, h3, h4⟩)))
    go_end0
    exact ⟨rfl, by rw [HF.out]; exact h3, (HKA.out.trans H2.out).trans h4⟩
  · have HC : Hid (∀ w1, WI n N O w0 s vv va M (L ++ C) w1 → Calls Tryd.prog 57 #[.pointer (some ⟨O, 0, none⟩), .agg #[.int .i64 op, .string x, .int .i64 m, .slice A1 l.len c1, .slice A2 b.len c2, .slice A3 e.len c3]] w1 fun e' w' => e' = .returned (in3V (doI s op m x)) ∧ Below w1.heap.size w1 w') := hid fun w1 h1 => does_w op m x A1 A2 A3 l.len c1 b.len c2 e.len c3 h1 hE.vv hE.va (by omega) hx
    have HD : Hid (∀ w1, WI n N O w0 s vv va M (L ++ C) w1 → Calls Tryd.prog 23 #[.pointer (some ⟨O, 0, none⟩), in3V (doI s op m x)] w1 fun e w' => e = .returned (.int .i64 (L ++ C).length) ∧ WI n N O w0 s vv va M (L ++ C ++ [doI s op m x]) w' ∧ Kw O w1 w') := hid fun w1 h1 => add_w _ _ _ h1 (by rw [hlc]; omega)
    have HF : Hid (L ++ stI p C (cS s pl b (p + C.length + 1)) (cS s pl e) (doI s op m x) op = L ++ C ++ [doI s op m x]) := hid (by unfold stI; rw [if_neg h7, if_neg h8, List.append_assoc])
    have o7 : (op == 7) = false := by simp; omega
    have o8 : (op == 8) = false := by simp; omega
    obtain ⟨D, hD⟩ : ∃ D, doI s op m x = D := ⟨_, rfl⟩
    rw [hD] at HC HD HF ⊢
    clear hk hl hb he hE hwi hc hlc hop hp hcl h7 h8 hD
    go_enter Tryd.func41, Tryd.ntmps41
    go_wp2_with (first
      | (go_at_call 54; ((with_reducible refine HX.out.mono ?_); rintro e1 w1 ⟨rfl, h1, h2⟩; have q0 := h2.2 _ _ _ (by decide) (by omega) HN.out; obtain ⟨t0, t1, t2, t3, t4, t5⟩ : w1.cell? ⟨w.heap.size, 0, none⟩ = some (.int .i64 op) ∧ w1.cell? ⟨w.heap.size, 1, none⟩ = some (.string x) ∧ w1.cell? ⟨w.heap.size, 2, none⟩ = some (.int .i64 m) ∧ w1.cell? ⟨w.heap.size, 3, none⟩ = some (.slice A1 l.len c1) ∧ w1.cell? ⟨w.heap.size, 4, none⟩ = some (.slice A2 b.len c2) ∧ w1.cell? ⟨w.heap.size, 5, none⟩ = some (.slice A3 e.len c3) := ⟨(blk_cell q0 0).trans rfl, (blk_cell q0 1).trans rfl, (blk_cell q0 2).trans rfl, (blk_cell q0 3).trans rfl, (blk_cell q0 4).trans rfl, (blk_cell q0 5).trans rfl⟩; have HCC := Lib.hid (HC.out _ h1); have H1 := Lib.hid h1; have H2 := Lib.hid h2; clear q0 h1 h2))
      | (go_at_call 57; ((with_reducible refine HCC.out.mono ?_); rintro e2 w2 ⟨rfl, h3⟩; have HDD := Lib.hid (HD.out _ (H1.out.below h3)); have H3 := Lib.hid h3; clear h3))
      | (go_at_call 23; ((with_reducible refine HDD.out.mono ?_); rintro e3 w3 ⟨rfl, h4, h5⟩)))
    go_end0
    exact ⟨rfl, by rw [HF.out]; exact h4, ((HKA.out.trans H2.out).trans (Kw.below H3.out)).trans h5⟩

def StsRel (n N O : Nat) (w0 : World) (s : Sp) (vv va : Value) (M : Nat) (pl : ByteArray → Int) (F : List In3) (T : Nat) (W : World) (K len : Nat) (A : Option Addr) (i : Value) (wr : World) : Prop :=
  ∃ (k : Nat) (r : SS) (L1 : List In3), i = .int .i64 k ∧ k + r.len = len ∧ r.cnt ≤ K ∧ r.og ∧ F = L1 ++ cS s pl r L1.length ∧ L1.length + 3 * r.cnt ≤ T ∧ (0 < r.len → ∃ b o, A = some ⟨b, o, none⟩ ∧ b < n ∧ r.In n w0 b (o + k * 6)) ∧ WI n N O w0 s vv va M L1 wr ∧ Kw O W wr

set_option maxRecDepth 100000 in
set_option maxHeartbeats 4000000 in
theorem sts_step (K : Nat) (hk : StsHas K) : StsHas (K + 1) := by
  intro A cap l n N O w0 s vv va M pl L W hK hv hog hE hwi hc
  obtain ⟨A1, cap1, e1, hc1, hc2, hrow⟩ := hv
  injection e1 with e2 e3 e4
  subst e2 e4
  clear e3
  obtain ⟨F, hF⟩ : ∃ F, L ++ cS s pl l L.length = F := ⟨_, rfl⟩
  rw [hF]
  have HF0 := Lib.hid hF; clear hF
  obtain ⟨len, hlen⟩ : ∃ len, l.len = len := ⟨_, rfl⟩
  rw [hlen] at hc1 hrow ⊢
  have HL := Lib.hid hlen; clear hlen
  have HC := Lib.hid hwi
  have HE := Lib.hid hE
  have hsO := hwi.hO
  have hsN := hwi.hN
  have hsz0 := hwi.sz
  clear hwi hE
  go_enter Tryd.func22, Tryd.ntmps22
  go_wp2
  go_loopw [8] (fun i wr => StsRel n N O w0 s vv va M pl F 90000000 W K len A i wr) (fun i _ => len - (intOf i).toNat)
  case atStart => exact ⟨0, l, L, rfl, by have := HL.out; omega, by omega, hog, HF0.out.symm, hc, by simpa [HL.out] using hrow, HC.out, Kw.refl _ _⟩
  case round =>
    obtain ⟨k, r, L1, rfl, hkk, hrK, hrog, hrun, hcc, hr1, hwi1, hkx⟩ := hrel
    have HRU := Lib.hid hrun; clear hrun
    cases r with
    | nil =>
      have hk0 : k = len := by simpa [SS.len] using hkk
      subst hk0
      clear hkk hrow hr1
      have HJ := Lib.hid hwi1; clear hwi1
      go_wp2
      go_end0
      exact ⟨rfl, by rw [HRU.out]; simpa [cS] using HJ.out, hkx⟩
    | cons op x m l1 b1 e1 r =>
      obtain ⟨b, o, rfl, hb, c0, c1', c2, ⟨v3, c3, h3⟩, ⟨v4, c4, h4⟩, ⟨v5, c5, h5⟩, h6, hr⟩ := hr1 (by simp [SS.len])
      clear hrow hr1
      obtain ⟨A3, cap3, rfl, _⟩ := id h3
      obtain ⟨A4, cap4, rfl, _⟩ := id h4
      obtain ⟨A5, cap5, rfl, _⟩ := id h5
      have hlt : k < len := by simp [SS.len] at hkk; omega
      have HKK := Lib.hid hkk; clear hkk
      have hbase := hwi1.base
      have d0 := (hbase.cell (p := ⟨b, o + k * 6, none⟩) hb).trans c0
      have d1 := (hbase.cell (p := ⟨b, o + k * 6 + 1, none⟩) hb).trans c1'
      have d2 := (hbase.cell (p := ⟨b, o + k * 6 + 2, none⟩) hb).trans c2
      have d3 := (hbase.cell (p := ⟨b, o + k * 6 + 3, none⟩) hb).trans c3
      have d4 := (hbase.cell (p := ⟨b, o + k * 6 + 4, none⟩) hb).trans c4
      have d5 := (hbase.cell (p := ⟨b, o + k * 6 + 5, none⟩) hb).trans c5
      clear c0 c1' c2 c3 c4 c5
      have hcnt : b1.cnt < K ∧ e1.cnt < K ∧ r.cnt ≤ K ∧ L1.length + 3 * (1 + (l1.cnt + (b1.cnt + e1.cnt))) + 3 * r.cnt ≤ 90000000 := by simp only [SS.cnt] at hrK hcc; omega
      have HX := Lib.hid (statement_w (L := L1) hk op m x A3 A4 A5 cap3 cap4 cap5 l1 b1 e1 hcnt.1 hcnt.2.1 h3 h4 h5 hrog.1 hrog.2.1 hrog.2.2.1 hrog.2.2.2.1 h6.2.2 HE.out (hwi1.alloc (stmtO op x m (.slice A3 l1.len cap3) (.slice A4 b1.len cap4) (.slice A5 e1.len cap5))) (by omega))
      have HKA : Kw O wr (wr.alloc (stmtO op x m (.slice A3 l1.len cap3) (.slice A4 b1.len cap4) (.slice A5 e1.len cap5))) := Kw.below ((Below.refl _ _).alloc (Nat.le_refl _) _)
      have HKA := Lib.hid HKA
      have HROG := Lib.hid hrog.2.2.2.2
      have hln := stI_len L1.length (cE s pl l1) (cS s pl b1 (L1.length + (cE s pl l1).length + 1)) (cS s pl e1) (doI s op m x) op (3 * e1.cnt) (cS_len s pl e1)
      have hln2 := cS_len s pl b1 (L1.length + (cE s pl l1).length + 1)
      have hln3 := cE_len s pl l1
      obtain ⟨D, hD⟩ : ∃ D, stI L1.length (cE s pl l1) (cS s pl b1 (L1.length + (cE s pl l1).length + 1)) (cS s pl e1) (doI s op m x) op = D := ⟨_, rfl⟩
      have hDl : D.length ≤ 3 * (1 + (l1.cnt + (b1.cnt + e1.cnt))) := by rw [← hD]; omega
      rw [hD] at HX
      have HR2 : Hid (F = (L1 ++ D) ++ cS s pl r (L1 ++ D).length) := hid (by rw [HRU.out, List.length_append, ← hD]; simp only [cS, List.append_assoc])
      clear hwi1 hbase hrog hln hln2 hln3 hD HRU
      go_wp2_with (go_at_call 41; ((with_reducible refine HX.out.mono ?_); rintro e1 w1 ⟨rfl, h1, h2⟩))
      go_roundw
      case rel =>
        refine ⟨k + 1, r, _, by go_num, by have := HKK.out; simp [SS.len] at this; omega, hcnt.2.2.1, HROG.out, HR2.out, by rw [List.length_append]; omega, fun _ => ⟨b, o, rfl, hb, by rw [show o + (k + 1) * 6 = o + k * 6 + 6 by omega]; exact hr⟩, h1, (hkx.trans HKA.out).trans h2⟩
      case measure => simp [intOf]; omega
theorem sts_all : ∀ K, StsHas K
  | 0 => fun _ _ _ _ _ _ _ _ _ _ _ _ _ _ h => absurd h (Nat.not_lt_zero _)
  | K + 1 => sts_step K (sts_all K)
end Go.Proofs.YtnilklgnpfgieaaDoor

/-
  byName; function.
-/
namespace Go.Proofs.YtnilklgnpfgieaaDoor
open Go Go.RowKit Go.Lib

/-- Where the function of a name stands (the last one; 0, if there is none). -/
def plG : List Sp → Nat → Int → ByteArray → Int
  | [], _, d, _ => d
  | x :: r, k, d, s => plG r (k + 1) (if x.s = s then (k : Int) else d) s
def plOf (l : List Sp) (s : ByteArray) : Int := plG l 0 0 s
def ByRel (w : World) (B n len : Nat) (A : Option Addr) (l : List Sp) (i : Value) (wr : World) : Prop :=
  ∃ (k : Nat) (r : List Sp) (cur : ByteArray → Int) (D : DataW Unit), i = .int .i64 k ∧ k + r.length = len ∧ (∀ s, plOf l s = plG r k (cur s) s) ∧ (0 < r.length → ∃ b o, A = some ⟨b, o, none⟩ ∧ b < B ∧ SpsIn B w r b (o + k * 4)) ∧ wr.ownsMap Tryd.prog 9 (plainElem Tryd.prog 3) n k D ∧
    (∀ s : ByteArray, D.atKey (.string s.data.toList) (.lit (.int .i64 0)) = .lit (.int .i64 (cur s))) ∧ Below n w wr ∧ n < wr.heap.size

set_option maxRecDepth 100000 in
set_option maxHeartbeats 4000000 in
theorem byname_w (B : Nat) (v : Value) (l : List Sp) (w : World) (hB : B ≤ w.heap.size) (hv : SpV B w v l) (hl : l.length ≤ 1000000) :
    Calls Tryd.prog 9 #[v] w fun e w' => e = .returned (.map (some w.heap.size)) ∧ Below w.heap.size w w' ∧ PMap w.heap.size (plOf l) w' ∧ w.heap.size < w'.heap.size := by
  obtain ⟨A, cap, rfl, hc1, hc2, hrow⟩ := hv
  obtain ⟨len, hlen⟩ : ∃ len, l.length = len := ⟨_, rfl⟩
  rw [hlen] at hc1 hrow hl ⊢
  have HL := Lib.hid hlen; clear hlen
  obtain ⟨n, hn⟩ : ∃ n, w.heap.size = n := ⟨_, rfl⟩
  have hmm := @run_makeMap Tryd.prog
  obtain ⟨W1, hW1⟩ : ∃ W1, w.alloc (.map #[] 0) = W1 := ⟨_, rfl⟩
  have hm1 : W1.ownsMap Tryd.prog 9 (plainElem (H := Unit) Tryd.prog 3) n 0 (.map []) := by rw [← hW1, ← hn]; exact World.ownsMap_made w _ _ _
  have hb1 : Below n w W1 := by rw [← hW1]; exact (Below.refl n w).alloc (by omega) _
  have hs1 : n < W1.heap.size := by rw [← hW1, World.size_alloc]; omega
  go_enter Tryd.func9, Tryd.ntmps9
  go_wp2
  have HM1 := Lib.hid hm1
  have HW1 := Lib.hid hW1
  have HN := Lib.hid hn
  clear hm1 hW1 hmm
  go_loopw [9] (fun i wr => ByRel w B n len A l i wr) (fun i _ => len - (intOf i).toNat)
  case atStart => exact ⟨0, l, fun _ => 0, .map [], rfl, by have := HL.out; omega, fun _ => rfl, by simpa [HL.out] using hrow, HM1.out, fun _ => rfl, hb1, hs1⟩
  case round =>
    obtain ⟨k, r, cur, D, rfl, hkk, hpl, hr1, hown, hD, hbel, hsz⟩ := hrel
    have HPL := Lib.hid hpl; clear hpl
    have HO := Lib.hid hown
    have HB := Lib.hid hbel
    have HD := Lib.hid hD
    cases r with
    | nil =>
      have hk0 : k = len := by simpa using hkk
      subst hk0
      have HA : Hid (PMap n (plOf l) wr) := Lib.hid ⟨k, D, hown, fun s => by rw [hD s, HPL.out s]; rfl⟩
      clear hkk hrow hr1 hown hbel hD
      go_wp2
      go_ret
      exact ⟨by rw [HN.out]; rfl, by rw [HN.out]; exact HB.out, by rw [HN.out]; exact HA.out, by rw [HN.out]; exact hsz⟩
    | cons x r =>
      obtain ⟨b, o, rfl, hb, c0, c1, ⟨v2, c2, h2⟩, ⟨v3, c3, h3⟩, h4, hr⟩ := hr1 (by simp)
      clear hrow hr1
      obtain ⟨A2, cap2, rfl, _⟩ := id h2
      obtain ⟨A3, cap3, rfl, _⟩ := id h3
      have hlt : k < len := by simp at hkk; omega
      have HKK := Lib.hid hkk; clear hkk
      have hbn : b < n := by have := HN.out; omega
      have d0 := (hbel.cell (p := ⟨b, o + k * 4, none⟩) hbn).trans c0
      have d1 := (hbel.cell (p := ⟨b, o + k * 4 + 1, none⟩) hbn).trans c1
      have d2 := (hbel.cell (p := ⟨b, o + k * 4 + 2, none⟩) hbn).trans c2
      have d3 := (hbel.cell (p := ⟨b, o + k * 4 + 3, none⟩) hbn).trans c3
      clear c0 c1 c2 c3 hown hbel hD
      go_wp2_with (at_mapUpdate; refine wpList_mapUpdate_own _ rfl _ _ _ 49 rfl 9 3 (Maps.string_keyed Tryd.underlying9) Tryd.underlying49 (plainElem Tryd.prog 3) n k D rfl (HO.out.alloc _) (by unfold maxLen; omega) _ _ (.string x.s.data.toList) rfl rfl (Go.WideMaps.keyOf_string_mk Tryd.underlying9 (by unfold maxLen; omega)) (.lit (.int .i64 k)) [] (plainElem_int Tryd.underlying3 (wf_nat k (by omega))) ?_; intro w3 hown3 hgrow3)
      go_roundw
      case rel =>
        refine ⟨k + 1, r, fun s => if x.s = s then (k : Int) else cur s, _, by go_num, by have := HKK.out; simp at this; omega, fun s => by rw [HPL.out s]; rfl, fun _ => ⟨b, o, rfl, hb, by rw [show o + (k + 1) * 4 = o + k * 4 + 4 by omega]; exact hr⟩, hown3, fun s => ?_, (HB.out.alloc (by omega) _).grown hgrow3 (by simp only [World.size_alloc]; omega) (fun j e => by injection e with e; omega), ?_⟩
        · by_cases hs : x.s = s
          · subst hs
            rw [Maps.atKey_put_same HO.out.isMap (by unfold WideAt.IsKeyLit; trivial)]
            simp
          · rw [Maps.atKey_put_other (fun e => hs (by injection e with e; exact (bs_eq e).symm)), HD.out s]
            simp [hs]
        · have := World.grownBy.size hgrow3
          simp only [World.size_alloc] at this
          omega
      case measure => simp [intOf]; omega

abbrev fcO (s : ByteArray) (n v x : Int) (vl : Value) : Obj := .cells #[.string s, .int .i64 n, .int .i64 v, .int .i64 x, vl] 40
/-- A function's instructions. -/
def fnL (s : Sp) (pl : ByteArray → Int) (b : SS) : List In3 := cS s pl b 0 ++ [(1, 0, 0), (18, 0, 0)]
theorem own_base {W : World} {b b' e size n : Nat} {v : Value} {xs : List Value} (h : W.ownsRow b e size v n xs) (hb : b' ≤ b) : W.ownsRow b' e size v n xs := by
  obtain ⟨e1, h3⟩ := h
  refine ⟨e1, h3.imp id ?_⟩
  rintro ⟨q, cap, cur, q1, q2, q3⟩
  exact ⟨q, cap, cur, q1, by omega, q3⟩
theorem fn_end {w w3 : World} {r0 r1 r2 r3 r4 : Value} {n : Nat} {X : Option Addr} {c : Nat} {xs : List Value} (hx : w3.heap[w.heap.size + 1]? = some (.cells #[r0, r1, r2, r3, r4] 40)) (hb : Below w.heap.size w w3) (ho : w3.ownsRow (w.heap.size + 3) 43 3 (.slice X n c) n xs) (x : ByteArray) (y u v : Int) (W : World)
    (hW : ((((w3.setCell ⟨w.heap.size + 1, 0, none⟩ (.string x)).setCell ⟨w.heap.size + 1, 1, none⟩ (.int .i64 y)).setCell ⟨w.heap.size + 1, 2, none⟩ (.int .i64 u)).setCell ⟨w.heap.size + 1, 3, none⟩ (.int .i64 v)).setCell ⟨w.heap.size + 1, 4, none⟩ (.slice X n c) = W) :
    W.heap[w.heap.size + 1]? = some (fcO x y u v (.slice X n c)) ∧ W.ownsRow w.heap.size 43 3 (.slice X n c) n xs ∧ Below w.heap.size w W := by
  have hne : some (w.heap.size + 1) ≠ (Value.slice X n c).ownBlock := fun e => by have := (ho.lt _ e.symm).1; omega
  rw [← hW]
  refine ⟨(blk_set ((blk_set ((blk_set ((blk_set ((blk_set hx 0 _).trans rfl) 1 _).trans rfl) 2 _).trans rfl) 3 _).trans rfl) 4 _).trans rfl, own_base (own_set (a := ⟨_, 4, none⟩) (own_set (a := ⟨_, 3, none⟩) (own_set (a := ⟨_, 2, none⟩) (own_set (a := ⟨_, 1, none⟩) (own_set (a := ⟨_, 0, none⟩) ho hne _) hne _) hne _) hne _) hne _) (by omega), ?_⟩
  exact ((((hb.setCell (p := ⟨w.heap.size + 1, 0, none⟩) (by simp only; omega) _).setCell (p := ⟨w.heap.size + 1, 1, none⟩) (by simp only; omega) _).setCell (p := ⟨w.heap.size + 1, 2, none⟩) (by simp only; omega) _).setCell (p := ⟨w.heap.size + 1, 3, none⟩) (by simp only; omega) _).setCell (p := ⟨w.heap.size + 1, 4, none⟩) (by simp only; omega) _
set_option maxRecDepth 100000 in
set_option maxHeartbeats 4000000 in
theorem function_w {w : World} {s : Sp} {vv va : Value} {M : Nat} {pl : ByteArray → Int} (b : SS) (A : Option Addr) (cap : Nat) (hE : WE w.heap.size w s vv va M pl) (hb : SV w.heap.size w (.slice A b.len cap) b) (hog : b.og) (hc : 3 * b.cnt ≤ 80000000) :
    Calls Tryd.prog 10 #[.agg #[.string s.s, .int .i64 s.n, vv, va], .map (some M), .slice A b.len cap] w fun e w' => ∃ vl, e = .returned (.agg #[.string s.s, .int .i64 s.n, .int .i64 s.vs.length, .int .i64 s.xs.length, vl]) ∧ w'.ownsRow w.heap.size 43 3 vl (fnL s pl b).length (insV (fnL s pl b)) ∧ Below w.heap.size w w' := by
  obtain ⟨A1, cap1, rfl, _⟩ := id hE.vv
  obtain ⟨A2, cap2, rfl, _⟩ := id hE.va
  obtain ⟨kv, hkv⟩ : ∃ kv, s.vs.length = kv := ⟨_, rfl⟩
  obtain ⟨kx, hkx⟩ : ∃ kx, s.xs.length = kx := ⟨_, rfl⟩
  obtain ⟨wa, hwa⟩ : ∃ wa, ((w.alloc (.cells #[.string s.s, .int .i64 s.n, .slice A1 kv cap1, .slice A2 kx cap2] 54)).alloc (fcO ⟨#[]⟩ 0 0 0 (.slice none 0 0))).alloc (wrO s (.slice A1 kv cap1) (.slice A2 kx cap2) M (.slice none 0 0)) = wa := ⟨_, rfl⟩
  rw [hkv, hkx] at hE ⊢
  have hba : Below w.heap.size w wa := by rw [← hwa]; exact (((Below.refl _ _).alloc (Nat.le_refl _) _).alloc (by simp) _).alloc (by simp only [World.size_alloc]; omega) _
  have hza : wa.heap.size = w.heap.size + 3 := by rw [← hwa]; simp only [World.size_alloc]
  have hxw : wa.heap[w.heap.size + 1 + 1]? = some (wrO s (.slice A1 kv cap1) (.slice A2 kx cap2) M (.slice none 0 0)) := by rw [← hwa]; exact blk_new (by simp only [World.size_alloc])
  have hxf : wa.heap[w.heap.size + 1]? = some (fcO ⟨#[]⟩ 0 0 0 (.slice none 0 0)) := by rw [← hwa]; exact blk_alloc (new2 _ _ _) _
  have hW : WI w.heap.size (w.heap.size + 3) (w.heap.size + 1 + 1) w s (.slice A1 kv cap1) (.slice A2 kx cap2) M [] wa := ⟨hba, Nat.le_refl _, by omega, by omega, by omega, _, hxw, rfl, .inl ⟨rfl, rfl⟩⟩
  have hlS := cS_len s pl b 0
  have hS := sts_all _ A cap b w.heap.size (w.heap.size + 3) (w.heap.size + 1 + 1) w s _ _ M pl [] wa (Nat.lt_succ_self _) hb hog hE hW (by simp only [List.length_nil]; omega)
  unfold fnL
  obtain ⟨C, hC⟩ : ∃ C, cS s pl b 0 = C := ⟨_, rfl⟩
  rw [show [] ++ cS s pl b ([] : List In3).length = C from hC] at hS
  rw [hC] at hlS ⊢
  have HS := Lib.hid hS
  have HXF := Lib.hid hxf
  have HWA := Lib.hid hwa
  clear hS hC hW hxw hxf hE hb hwa
  go_enter Tryd.func10, Tryd.ntmps10
  go_upto_region 2 with fail
  rw [HWA.out]
  go_wp2_with (first
    | (go_at_call 22; ((with_reducible refine HS.out.mono ?_); rintro e1 w1 ⟨rfl, h1, h2⟩; have HA1 := Lib.hid (add_w 1 0 0 h1 (by omega)); have H2 := Lib.hid h2; clear h1 h2))
    | (go_at_call 23; first
        | ((with_reducible refine HA1.out.mono ?_); rintro e2 w2 ⟨rfl, h3, h4⟩; have HA2 := Lib.hid (add_w 18 0 0 h3 (by rw [List.length_append]; simp only [List.length_cons, List.length_nil]; omega)); have H4 := Lib.hid h4; clear h3 h4)
        | ((with_reducible refine HA2.out.mono ?_); rintro e3 w3 ⟨rfl, h5, h6⟩; obtain ⟨vl, hbx, hown⟩ := h5.row; obtain ⟨X, cX, rfl⟩ := own_form hown; obtain ⟨t0, t1, t2, t3, t4, t5⟩ : w3.cell? ⟨w.heap.size + 1 + 1, 0, none⟩ = some (.string s.s) ∧ w3.cell? ⟨w.heap.size + 1 + 1, 1, none⟩ = some (.int .i64 s.n) ∧ w3.cell? ⟨w.heap.size + 1 + 1, 2, none⟩ = some (.slice A1 kv cap1) ∧ w3.cell? ⟨w.heap.size + 1 + 1, 3, none⟩ = some (.slice A2 kx cap2) ∧ w3.cell? ⟨w.heap.size + 1 + 1, 4, none⟩ = some (.map (some M)) ∧ w3.cell? ⟨w.heap.size + 1 + 1, 5, none⟩ = some (.slice X _ cX) := ⟨(blk_cell hbx 0).trans rfl, (blk_cell hbx 1).trans rfl, (blk_cell hbx 2).trans rfl, (blk_cell hbx 3).trans rfl, (blk_cell hbx 4).trans rfl, (blk_cell hbx 5).trans rfl⟩; have hf3 := ((H2.out.trans H4.out).trans h6).2 _ _ _ (by decide) (by omega) HXF.out; obtain ⟨u0, u1, u2, u3, u4⟩ : w3.cell? ⟨w.heap.size + 1, 0, none⟩ = some (.string ⟨#[]⟩) ∧ w3.cell? ⟨w.heap.size + 1, 1, none⟩ = some (.int .i64 0) ∧ w3.cell? ⟨w.heap.size + 1, 2, none⟩ = some (.int .i64 0) ∧ w3.cell? ⟨w.heap.size + 1, 3, none⟩ = some (.int .i64 0) ∧ w3.cell? ⟨w.heap.size + 1, 4, none⟩ = some (.slice none 0 0) := ⟨(blk_cell hf3 0).trans rfl, (blk_cell hf3 1).trans rfl, (blk_cell hf3 2).trans rfl, (blk_cell hf3 3).trans rfl, (blk_cell hf3 4).trans rfl⟩; have z0 := blk_frozen hf3 0; have z1 := blk_frozen hf3 1; have z2 := blk_frozen hf3 2; have z3 := blk_frozen hf3 3; have z4 := blk_frozen hf3 4; have lf := blk_lt hf3; have HF3 := Lib.hid hf3; have H5 := Lib.hid h5; have HOW := Lib.hid hown; clear hbx hf3 h5 h6 hown)))
  have e2 : C ++ [((1 : Int), (0 : Int), (0 : Int))] ++ [(18, 0, 0)] = C ++ [(1, 0, 0), (18, 0, 0)] := by simp
  have l2 : (C ++ [((1 : Int), (0 : Int), (0 : Int)), (18, 0, 0)]).length = C.length + 2 := by simp
  have how := HOW.out
  rw [e2, l2] at how
  have hend := fn_end HF3.out H5.out.base how s.s s.n kv kx _ rfl
  rw [l2]
  exact bodyPost_ret (v := .agg #[.string s.s, .int .i64 s.n, .int .i64 kv, .int .i64 kx, .slice X (C.length + 2) cX]) (results_cell_row rfl _ _ (w.heap.size + 1) 40 _ (0, 0) _ rfl hend.1 Tryd.underlying40 rfl (by kernel_rfl)) rfl ⟨_, rfl, hend.2.1, hend.2.2⟩
end Go.Proofs.YtnilklgnpfgieaaDoor

