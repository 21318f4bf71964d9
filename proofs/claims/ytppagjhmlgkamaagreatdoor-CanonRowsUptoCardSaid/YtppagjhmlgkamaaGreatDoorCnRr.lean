/-
  What is right lacks no part that the writer asks; how long a text is at most.
-/
import Derived.Test.YtppagjhmlgkamaaGreatDoorCz5
import Derived.Test.YtppagjhmlgkamaaGreatDoorCnPr
import Derived.Test.YtppagjhmlgkamaaGreatDoorTreeGr
namespace Go.Proofs.YtppagjhmlgkamaaGreatDoor
open Go Go.RowKit Go.Lib

theorem name_le {s : ByteArray} (h : nameB s = true) : s.size ≤ 32 := by
  unfold nameB at h
  simp only [Bool.and_eq_true, decide_eq_true_eq] at h
  exact h.1.1.1.2
theorem named_le {b : Bool} {s : ByteArray} (h : namedB b s = true) : s.size ≤ 32 := by
  unfold namedB at h
  cases b with
  | true => exact name_le h
  | false =>
    have e : s.toList = [] := by simpa using h
    rw [ByteArray.toList_eq] at e
    have : s.data.toList.length = 0 := by rw [e]; rfl
    rw [Array.length_toList] at this
    show s.data.size ≤ 32
    omega

theorem fit_e {op n : Int} {s : ByteArray} {l : ES} (h : fitP ⟨false, op, s, n, l, .nil, .nil⟩ = true) : ((1 ≤ op ∧ op ≤ 16) ∧ (op = 6 ∨ op = 7 → 1 ≤ l.len)) ∧ s.size ≤ 32 := by
  unfold fitP fitQ shOf at h
  by_cases hop : 1 ≤ op ∧ op ≤ 16
  · simp only [Bool.false_eq_true, if_false, if_pos hop, Option.isSome_some, Option.getD_some, Bool.and_eq_true, decide_eq_true_eq] at h
    refine ⟨⟨hop, fun h6 => ?_⟩, named_le h.2.1⟩
    have hl := h.2.2.2.2.1
    rcases h6 with rfl | rfl
    · have : (1 : Int) ≤ (l.len : Int) := hl
      omega
    · have : (1 : Int) ≤ (l.len : Int) := hl
      omega
  · simp only [Bool.false_eq_true, if_false, if_neg hop, Option.isSome_none, Bool.false_and] at h
theorem fit_s {op n : Int} {s : ByteArray} {l : ES} {x y : SS} (h : fitP ⟨true, op, s, n, l, x, y⟩ = true) : ((1 ≤ op ∧ op ≤ 9) ∧ (op ≠ 3 → op ≠ 4 → 1 ≤ l.len) ∧ (op = 2 → 2 ≤ l.len)) ∧ s.size ≤ 32 := by
  unfold fitP fitQ shOf at h
  by_cases hop : 1 ≤ op ∧ op ≤ 9
  · simp only [if_true, if_pos hop, Option.isSome_some, Option.getD_some, Bool.and_eq_true, decide_eq_true_eq] at h
    have hl := h.2.2.2.2.1
    refine ⟨⟨hop, fun h3 h4 => ?_, fun h2 => ?_⟩, named_le h.2.1⟩
    · obtain ⟨m, rfl⟩ := Int.eq_ofNat_of_zero_le (show 0 ≤ op by omega)
      have : ∀ m : Nat, m < 10 → m ≠ 0 → m ≠ 3 → m ≠ 4 → 1 ≤ (stmtT.getD m sh0).least := by decide
      have := this m (by omega) (by omega) (by omega) (by omega)
      have hl' : (stmtT.getD m sh0).least ≤ (l.len : Int) := hl
      omega
    · subst h2
      have : (2 : Int) ≤ (l.len : Int) := hl
      omega
  · simp only [if_true, if_neg hop, Option.isSome_none, Bool.false_and, Bool.false_eq_true] at h

theorem ES.ok_wr : ∀ {l : ES}, l.ok = true → l.wr
  | .nil, _ => trivial
  | .cons op n s l r, h => by
    simp only [ES.ok, Bool.and_eq_true] at h
    exact ⟨(fit_e h.1.1).1, ES.ok_wr h.1.2, ES.ok_wr h.2⟩
theorem SS.ok_wr : ∀ {l : SS}, l.ok = true → l.wr
  | .nil, _ => trivial
  | .cons op s n l x y r, h => by
    simp only [SS.ok, Bool.and_eq_true] at h
    exact ⟨(fit_s h.1.1).1, ES.ok_wr h.1.2.1, SS.ok_wr h.1.2.2.1, SS.ok_wr h.1.2.2.2, SS.ok_wr h.2⟩

theorem dd_big' {m : Nat} (h : 10 ≤ m) : decDigits m = decDigits (m / 10) ++ [UInt8.ofNat (48 + m % 10)] := by rw [decDigits, dif_neg (by omega)]
theorem dd_len' : ∀ (k m : Nat), 1 ≤ k → m < 10 ^ k → (decDigits m).length ≤ k
  | 0, m, h, _ => by omega
  | k + 1, m, _, h => by
    by_cases hs : m < 10
    · rw [decDigits, dif_pos hs]; simp
    · rw [dd_big' (by omega), List.length_append]
      rw [Nat.pow_succ] at h
      have hk : 1 ≤ k := by
        cases k with
        | zero => omega
        | succ k => omega
      have := dd_len' k (m / 10) hk (by omega)
      simp; omega
theorem itoa_len {n : Int} (h : I64 n) : (itoa n).length ≤ 20 := by
  unfold itoa
  obtain ⟨h1, h2⟩ := h
  split
  · have := dd_len' 19 n.natAbs (by omega) (by omega)
    simp; omega
  · have := dd_len' 19 n.toNat (by omega) (by omega)
    omega

/-- How long texts and gaps are together, at most. -/
def sumT : List (List UInt8) → Nat
  | [] => 0
  | a :: r => a.length + 4 + sumT r
theorem rest_le {gap : List UInt8} (hg : gap.length ≤ 4) : ∀ ts : List (List UInt8), (restT gap ts).length ≤ sumT ts
  | [] => Nat.le_refl _
  | a :: r => by
    have := rest_le hg r
    simp only [restT, sumT, List.length_append]
    omega
theorem gap_le {gap : List UInt8} (hg : gap.length ≤ 4) (ts : List (List UInt8)) : (gapT gap ts).length ≤ sumT ts := by
  cases ts with
  | nil => exact Nat.le_refl _
  | cons a r =>
    have := rest_le hg r
    simp only [gapT_cons, sumT, List.length_append]
    omega
theorem hd_le (ts : List (List UInt8)) : (hdT' ts).length ≤ sumT ts := by
  cases ts with
  | nil => exact Nat.le_refl _
  | cons a r => simp only [hdT', List.headD_cons, sumT]; omega
theorem hd2_le (ts : List (List UInt8)) : (hdT' ts).length + (hdT' ts.tail).length ≤ sumT ts := by
  cases ts with
  | nil => exact Nat.le_refl _
  | cons a r =>
    have := hd_le r
    simp only [hdT', List.headD_cons, List.tail_cons, sumT] at this ⊢
    omega
theorem betw_le (op : Int) : (betw op).length ≤ 4 := by
  unfold betw
  have : ∀ m : Nat, (betwT.getD m []).length ≤ 4 := by
    intro m
    by_cases h : m < 17
    · have : ∀ m : Nat, m < 17 → (betwT.getD m []).length ≤ 4 := by decide
      exact this m h
    · rw [List.getD_eq_getElem?_getD, List.getElem?_eq_none (by simp [betwT]; omega)]
      decide
  exact this _
theorem exX_le (op n : Int) (s : List UInt8) (ts : List (List UInt8)) (hn : I64 n) (hs : s.length ≤ 32) : (exX op n s ts).length ≤ 40 + sumT ts := by
  have h1 := itoa_len hn
  have h2 := gap_le (gap := [44, 32]) (by decide) ts
  have h3 := gap_le (betw_le op) ts
  have h4 := hd_le ts
  unfold exX
  repeat' split
  all_goals ((try simp only [List.length_append, List.length_cons, List.length_nil]); omega)
theorem ES.txs_le : ∀ (l : ES) {B : Nat} {W : World} {b o : Nat}, l.ok = true → l.In B W b o → sumT l.txs ≤ 44 * l.cnt
  | .nil, _, _, _, _, _, _ => Nat.le_refl _
  | .cons op n s l r, B, W, b, o, h, ⟨_, _, _, ⟨v, _, hl⟩, hi, hr⟩ => by
    simp only [ES.ok, Bool.and_eq_true] at h
    have i2 := ES.txs_le r h.2 hr
    have i1 : sumT l.txs ≤ 44 * l.cnt := by
      by_cases hz : 0 < l.len
      · obtain ⟨_, _, _, _, _, h3⟩ := hl
        obtain ⟨b', o', _, _, hin⟩ := h3 hz
        exact ES.txs_le l h.1.2 hin
      · cases l with
        | nil => exact Nat.le_refl _
        | cons _ _ _ _ _ => simp [ES.len] at hz
    have := exX_le op n s.data.toList l.txs hi.2.1 (by have := (fit_e h.1.1).2; rw [Array.length_toList]; exact this)
    simp only [ES.txs, sumT, ES.cnt]
    omega
theorem ES.txs_leV {l : ES} {B : Nat} {W : World} {v : Value} (h : l.ok = true) (hv : EV B W v l) : sumT l.txs ≤ 44 * l.cnt := by
  by_cases hz : 0 < l.len
  · obtain ⟨_, _, _, _, _, h3⟩ := hv
    obtain ⟨b', o', _, _, hin⟩ := h3 hz
    exact ES.txs_le l h hin
  · cases l with
    | nil => exact Nat.le_refl _
    | cons _ _ _ _ _ => simp [ES.len] at hz
theorem stX_le (k : Nat) (op : Int) (s : List UInt8) (n : Int) (ts : List (List UInt8)) (b e : List UInt8) (ne : Bool) (hn : I64 n) (hs : s.length ≤ 32) : (stX k op s n ts b e ne).length ≤ 80 + 2 * k + sumT ts + b.length + e.length := by
  have h1 := itoa_len hn
  have h2 := hd_le ts
  have h3 := hd2_le ts
  have h4 : (tabsT k).length = k := by unfold tabsT; rw [List.length_replicate]
  unfold stX blkT
  repeat' split
  all_goals ((try simp only [List.length_append, List.length_cons, List.length_nil]); omega)
theorem SS.txt_le : ∀ (l : SS) (k : Nat) {B : Nat} {W : World} {b o : Nat}, l.ok = true → l.In B W b o → k + l.cnt ≤ 3200010 → (l.txt k).length ≤ 9700000 * l.cnt
  | .nil, _, _, _, _, _, _, _, _ => Nat.le_refl _
  | .cons op s n l x y r, k, B, W, b, o, h, ⟨_, _, _, ⟨v, _, hl⟩, ⟨v', _, hx⟩, ⟨v'', _, hy⟩, hi, hr⟩, hk => by
    simp only [SS.ok, Bool.and_eq_true] at h
    simp only [SS.cnt] at hk
    have i0 := SS.txt_le r k h.2 hr (by omega)
    have i1 := ES.txs_leV h.1.2.1 hl
    have i2 : (x.txt (k + 1)).length ≤ 9700000 * x.cnt := by
      by_cases hz : 0 < x.len
      · obtain ⟨_, _, _, _, _, h3⟩ := hx
        obtain ⟨b', o', _, _, hin⟩ := h3 hz
        exact SS.txt_le x (k + 1) h.1.2.2.1 hin (by omega)
      · cases x with
        | nil => exact Nat.le_refl _
        | cons _ _ _ _ _ _ _ => simp [SS.len] at hz
    have i3 : (y.txt (k + 1)).length ≤ 9700000 * y.cnt := by
      by_cases hz : 0 < y.len
      · obtain ⟨_, _, _, _, _, h3⟩ := hy
        obtain ⟨b', o', _, _, hin⟩ := h3 hz
        exact SS.txt_le y (k + 1) h.1.2.2.2 hin (by omega)
      · cases y with
        | nil => exact Nat.le_refl _
        | cons _ _ _ _ _ _ _ => simp [SS.len] at hz
    have i4 : (tabsT k).length = k := by unfold tabsT; rw [List.length_replicate]
    have i5 := stX_le k op s.data.toList n l.txs (x.txt (k + 1)) (y.txt (k + 1)) (decide (0 < y.len)) hi.2.1 (by have := (fit_s h.1.1).2; rw [Array.length_toList]; exact this)
    simp only [SS.txt, SS.cnt, List.length_append, List.length_cons, List.length_nil]
    omega
theorem SS.txt_leV {l : SS} {B : Nat} {W : World} {v : Value} (k : Nat) (h : l.ok = true) (hv : SV B W v l) (hk : k + l.cnt ≤ 3200010) : (l.txt k).length ≤ 9700000 * l.cnt := by
  by_cases hz : 0 < l.len
  · obtain ⟨_, _, _, _, _, h3⟩ := hv
    obtain ⟨b', o', _, _, hin⟩ := h3 hz
    exact SS.txt_le l k h hin hk
  · cases l with
    | nil => exact Nat.le_refl _
    | cons _ _ _ _ _ _ _ => simp [SS.len] at hz
theorem ps_le : ∀ {l : List ByteArray}, psOk l = true → sumT (l.map fun s => s.data.toList) ≤ 36 * l.length
  | [], _ => Nat.le_refl _
  | s :: r, h => by
    simp only [psOk, Bool.and_eq_true] at h
    have := ps_le h.2
    have := name_le h.1
    simp only [List.map_cons, sumT, List.length_cons, Array.length_toList]
    have e : s.data.size = s.size := rfl
    omega
theorem fn_le {f : Fn} {B : Nat} {W : World} {v : Value} (h1 : nameB f.s = true) (h2 : paramsB f.ps = true) (h3 : f.b.ok = true) (hv : SV B W v f.b) (hk : f.b.cnt ≤ 3200000) : (fnX f).length ≤ 400 + 9700000 * f.b.cnt := by
  have i1 := SS.txt_leV 1 h3 hv (by omega)
  have i2 := name_le h1
  unfold paramsB at h2
  simp only [Bool.and_eq_true, decide_eq_true_eq] at h2
  have i3 := ps_le h2.2
  have i4 := gap_le (gap := [44, 32]) (by decide) (f.ps.map fun s => s.data.toList)
  have e : f.s.data.size = f.s.size := rfl
  unfold fnX blkT tabsT
  simp only [List.length_append, List.length_cons, List.length_nil, List.length_replicate, Array.length_toList]
  omega
theorem fs_le : ∀ (l : List Fn) {B : Nat} {W : World} {b o : Nat}, fsOk l = true → okL (fsPts l) = true → FsIn B W l b o → cntL (fsPts l) ≤ 3200000 → (fsX l).length ≤ 400 * l.length + 9700000 * cntL (fsPts l)
  | [], _, _, _, _, _, _, _, _ => by simp [fsX]
  | f :: r, B, W, b, o, h1, h2, ⟨_, _, ⟨v, _, hb⟩, _, hr⟩, hk => by
    simp only [fsOk, Bool.and_eq_true] at h1
    simp only [fsPts, okL_append, Bool.and_eq_true, SS.okL] at h2
    simp only [fsPts, cntL_append, SS.cntL] at hk
    have i1 := fs_le r h1.2 h2.2 hr (by omega)
    have i2 := fn_le h1.1.1 h1.1.2 h2.1 hb (by omega)
    simp only [fsX, List.length_append, List.length_cons, fsPts, cntL_append, SS.cntL]
    omega
theorem rightN_ok' {p : Pg} (h : rightN p = 0) : funcsB p.fs = true ∧ okL p.pts = true ∧ deepL p.pts ≤ 64 := by
  unfold rightN at h
  by_cases h1 : (funcsB p.fs && okL p.pts) = true
  · rw [if_pos h1] at h
    by_cases h2 : 64 < deepL p.pts
    · rw [if_pos h2] at h; cases h
    · rw [Bool.and_eq_true] at h1
      exact ⟨h1.1, h1.2, by omega⟩
  · rw [if_neg h1] at h; cases h
theorem txt_le {p : Pg} {B : Nat} {W : World} {v : Value} (h : rightN p = 0) (hv : PgV B W v p) (hc : cntL p.pts ≤ 3200000) : (p.txt).length ≤ 32000000000000 := by
  obtain ⟨h1, h2, _⟩ := rightN_ok' h
  obtain ⟨A, cap, A', cap', rfl, hf, hm⟩ := hv
  simp only [Pg.pts, okL_append, Bool.and_eq_true, SS.okL] at h2
  simp only [Pg.pts, cntL_append, SS.cntL] at hc
  unfold funcsB at h1
  simp only [Bool.and_eq_true, decide_eq_true_eq] at h1
  have i1 := SS.txt_leV 0 h2.2 hm (by omega)
  have i2 : (fsX p.fs).length ≤ 400 * p.fs.length + 9700000 * cntL (fsPts p.fs) := by
    by_cases hz : 0 < p.fs.length
    · obtain ⟨_, _, _, _, _, h3⟩ := hf
      obtain ⟨b', o', _, _, hin⟩ := h3 hz
      exact fs_le p.fs h1.2 h2.1 hin (by omega)
    · have : p.fs = [] := List.eq_nil_of_length_eq_zero (by omega)
      rw [this]; simp [fsX]
  unfold Pg.txt
  rw [List.length_append]
  omega

end Go.Proofs.YtppagjhmlgkamaaGreatDoor
