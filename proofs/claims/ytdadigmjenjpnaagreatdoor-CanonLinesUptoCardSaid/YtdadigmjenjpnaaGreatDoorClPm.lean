/-
  CanonLines, plain: how a text is gone through, line by line.
-/
import Derived.Test.YtdadigmjenjpnaaGreatDoorCq5
import Derived.Test.YtdadigmjenjpnaaGreatDoorCdPm
namespace Go.Proofs.YtdadigmjenjpnaaGreatDoor
open Go Go.RowKit Go.Lib

/-- Where the going through stands: the byte before, lines, depth, at a line's start?, tabs. -/
structure LnS where
  prev : UInt8
  n : Int
  d : Int
  st : Bool
  tabs : Int
/-- One byte; nothing: a line has not as many tabs as it should. -/
def lstep (s : LnS) (c : UInt8) : Option LnS :=
  if s.st = true ∧ c = 9 then some { s with prev := c, tabs := s.tabs + 1 }
  else
    let d := if s.st = true ∧ c = 125 then s.d - 1 else s.d
    if s.st = true ∧ (s.tabs ≠ d ∨ c = 10) then none
    else if c = 10 then some ⟨c, s.n + 1, if s.prev = 123 then d + 1 else d, true, 0⟩
    else some ⟨c, s.n, d, false, s.tabs⟩
def lrun : LnS → List UInt8 → Option LnS
  | s, [] => some s
  | s, c :: r => (lstep s c).bind fun s' => lrun s' r
theorem lrun_app : ∀ (a b : List UInt8) (s : LnS), lrun s (a ++ b) = (lrun s a).bind fun s' => lrun s' b
  | [], _, _ => rfl
  | c :: a, b, s => by
    simp only [List.cons_append, lrun]
    cases lstep s c with
    | none => rfl
    | some s' => simp only [Option.bind_some, lrun_app a b s']

/-- The last byte of a text, or the one before. -/
def lastB (p : UInt8) : List UInt8 → UInt8
  | [] => p
  | c :: r => lastB c r
theorem lastB_app (p : UInt8) : ∀ (a b : List UInt8), lastB p (a ++ b) = lastB (lastB p a) b
  | [], _ => rfl
  | c :: a, b => by simp only [List.cons_append, lastB, lastB_app c a b]

/-- Within a line nothing turns. -/
theorem l_in : ∀ (x : List UInt8), NL x → ∀ (p : UInt8) (n d t : Int), lrun ⟨p, n, d, false, t⟩ x = some ⟨lastB p x, n, d, false, t⟩
  | [], _, _, _, _, _ => rfl
  | c :: x, h, p, n, d, t => by
    have hc : c ≠ 10 := h c (by simp)
    have := l_in x (fun e he => h e (by simp [he])) c n d t
    simp only [lrun, lstep, Bool.false_eq_true, false_and, if_false, if_neg hc, Option.bind_some, lastB]
    exact this
theorem l_tabs : ∀ (k : Nat) (p : UInt8) (n d t : Int), lrun ⟨p, n, d, true, t⟩ (tabsT k) = some ⟨lastB p (tabsT k), n, d, true, t + k⟩
  | 0, p, n, d, t => by simp [tabsT, lrun, lastB]
  | k + 1, p, n, d, t => by
    rw [← tabs_succ]
    have := l_tabs k 9 n d (t + 1)
    simp only [lrun, lstep, and_self, if_true, Option.bind_some, lastB]
    rw [this]
    congr 2
    omega
theorem l_end (p : UInt8) (n d t : Int) : lrun ⟨p, n, d, false, t⟩ [10] = some ⟨10, n + 1, if p = 123 then d + 1 else d, true, 0⟩ := by
  simp [lrun, lstep]

/-- A line that begins with c, neither a tab nor a bracket nor an end, k blocks in. -/
theorem l_line (k : Nat) (c : UInt8) (x : List UInt8) (hc : c ≠ 9 ∧ c ≠ 125 ∧ c ≠ 10) (hx : NL x) (n : Int) (r : List UInt8) :
    lrun ⟨10, n, k, true, 0⟩ (tabsT k ++ c :: x ++ 10 :: r) = lrun ⟨10, n + 1, if lastB c x = 123 then (k : Int) + 1 else k, true, 0⟩ r := by
  rw [show tabsT k ++ c :: x ++ 10 :: r = tabsT k ++ ([c] ++ (x ++ ([10] ++ r))) by simp, lrun_app, l_tabs]
  simp only [Option.bind_some, Int.zero_add]
  rw [lrun_app]
  have h1 : lrun ⟨lastB 10 (tabsT k), n, k, true, k⟩ [c] = some ⟨c, n, k, false, k⟩ := by
    simp [lrun, lstep, hc.1, hc.2.1, hc.2.2]
  rw [h1]
  simp only [Option.bind_some]
  rw [lrun_app, l_in x hx]
  simp only [Option.bind_some]
  rw [lrun_app, l_end]
  rfl
/-- A line that begins with a bracket, k blocks in: it leaves one block. -/
theorem l_brk (k : Nat) (x : List UInt8) (hx : NL x) (n : Int) (r : List UInt8) :
    lrun ⟨10, n, (k : Int) + 1, true, 0⟩ (tabsT k ++ 125 :: x ++ 10 :: r) = lrun ⟨10, n + 1, if lastB 125 x = 123 then (k : Int) + 1 else k, true, 0⟩ r := by
  rw [show tabsT k ++ 125 :: x ++ 10 :: r = tabsT k ++ ([125] ++ (x ++ ([10] ++ r))) by simp, lrun_app, l_tabs]
  simp only [Option.bind_some, Int.zero_add]
  rw [lrun_app]
  have e : (k : Int) + 1 - 1 = k := by omega
  have h1 : lrun ⟨lastB 10 (tabsT k), n, (k : Int) + 1, true, k⟩ [125] = some ⟨125, n, k, false, k⟩ := by
    simp [lrun, lstep, e]
  rw [h1]
  simp only [Option.bind_some]
  rw [lrun_app, l_in x hx]
  simp only [Option.bind_some]
  rw [lrun_app, l_end]
  rfl

/-- How many lines statements have. -/
def SS.lns : SS → Nat
  | .nil => 0
  | .cons op _ _ _ b e r => 1 + (if op = 7 ∨ op = 8 then 1 else 0) + (if 0 < e.len then 1 else 0) + b.lns + e.lns + r.lns
def fnsLns : List Fn → Nat
  | [] => 0
  | f :: r => 2 + f.b.lns + fnsLns r
theorem lns_len0 : ∀ {l : SS}, l.len = 0 → l.lns = 0 ∧ l = .nil
  | .nil, _ => ⟨rfl, rfl⟩
  | .cons .., h => by simp [SS.len] at h

theorem name_hd {s : ByteArray} (h : nameB s = true) : ∃ c d, s.data.toList = c :: d ∧ c ≠ 9 ∧ c ≠ 125 ∧ c ≠ 10 := by
  unfold nameB at h
  simp only [Bool.and_eq_true, decide_eq_true_eq] at h
  obtain ⟨⟨⟨⟨h0, _⟩, _⟩, h2⟩, _⟩ := h
  unfold bs at h2
  cases hl : s.data.toList with
  | nil =>
    have : s.data.toList.length = 0 := by rw [hl]; rfl
    rw [Array.length_toList] at this
    have : s.size = 0 := this
    omega
  | cons c d =>
    rw [hl] at h2
    have hc := List.all_eq_true.1 h2 c (by simp)
    refine ⟨c, d, rfl, ?_, ?_, ?_⟩
    all_goals
      rintro rfl
      revert hc
      decide +kernel
theorem fit_more {op n : Int} {s : ByteArray} {l : ES} {x y : SS} (h : fitP ⟨true, op, s, n, l, x, y⟩ = true) : (op ≠ 7 → op ≠ 8 → x = .nil) ∧ (op ≠ 7 → y = .nil) ∧ (op = 1 ∨ op = 2 → nameB s = true) := by
  have hop := (fit_s h).1.1
  unfold fitP fitQ shOf at h
  simp only [if_true, if_pos hop, Option.isSome_some, Option.getD_some, Bool.and_eq_true] at h
  obtain ⟨_, hn, _, _, _, _, hb, he⟩ := h
  obtain ⟨m, rfl⟩ := Int.eq_ofNat_of_zero_le (show 0 ≤ op by omega)
  have hm : m = 1 ∨ m = 2 ∨ m = 3 ∨ m = 4 ∨ m = 5 ∨ m = 6 ∨ m = 7 ∨ m = 8 ∨ m = 9 := by omega
  have nb : ∀ sh : Sh, sh.body = false → (sh.body || decide (x.len = 0)) = true → x = .nil := fun sh h1 h2 => by
    rw [h1, Bool.false_or, decide_eq_true_eq] at h2
    exact (lns_len0 h2).2
  have ne : ∀ sh : Sh, sh.other = false → (sh.other || decide (y.len = 0)) = true → y = .nil := fun sh h1 h2 => by
    rw [h1, Bool.false_or, decide_eq_true_eq] at h2
    exact (lns_len0 h2).2
  rcases hm with rfl | rfl | rfl | rfl | rfl | rfl | rfl | rfl | rfl
  · exact ⟨fun _ _ => nb _ rfl hb, fun _ => ne _ rfl he, fun _ => hn⟩
  · exact ⟨fun _ _ => nb _ rfl hb, fun _ => ne _ rfl he, fun _ => hn⟩
  · exact ⟨fun _ _ => nb _ rfl hb, fun _ => ne _ rfl he, fun h => by omega⟩
  · exact ⟨fun _ _ => nb _ rfl hb, fun _ => ne _ rfl he, fun h => by omega⟩
  · exact ⟨fun _ _ => nb _ rfl hb, fun _ => ne _ rfl he, fun h => by omega⟩
  · exact ⟨fun _ _ => nb _ rfl hb, fun _ => ne _ rfl he, fun h => by omega⟩
  · exact ⟨fun h => absurd rfl h, fun h => absurd rfl h, fun h => by omega⟩
  · exact ⟨fun _ h => absurd rfl h, fun _ => ne _ rfl he, fun h => by omega⟩
  · exact ⟨fun _ _ => nb _ rfl hb, fun _ => ne _ rfl he, fun h => by omega⟩

theorem lastB_end (p : UInt8) (a : List UInt8) (c : UInt8) : lastB p (a ++ [c]) = c := by rw [lastB_app]; rfl

/-- A block behind a line that was begun, and its end with what ends its line. -/
theorem run_blk {x : SS} {k : Nat} (hx : ∀ (n : Int) r, lrun ⟨10, n, ((k + 1 : Nat) : Int), true, 0⟩ (x.txt (k + 1) ++ r) = lrun ⟨10, n + x.lns, ((k + 1 : Nat) : Int), true, 0⟩ r)
    (c : UInt8) (a : List UInt8) (hc : c ≠ 9 ∧ c ≠ 125 ∧ c ≠ 10) (ha : NL a) (z : List UInt8) (hz : NL z) (n : Int) (r : List UInt8) :
    lrun ⟨10, n, k, true, 0⟩ (tabsT k ++ (c :: a ++ blkT k (x.txt (k + 1))) ++ z ++ 10 :: r) = lrun ⟨10, n + 2 + x.lns, if lastB 125 z = 123 then (k : Int) + 1 else k, true, 0⟩ r := by
  have e1 : tabsT k ++ (c :: a ++ blkT k (x.txt (k + 1))) ++ z ++ 10 :: r = tabsT k ++ c :: (a ++ [32, 123]) ++ 10 :: (x.txt (k + 1) ++ (tabsT k ++ 125 :: z ++ 10 :: r)) := by
    unfold blkT; simp
  rw [e1, l_line k c _ hc (ha.app (nl_lit _ rfl)), show a ++ [32, 123] = (a ++ [32]) ++ [123] by simp, lastB_end, if_pos rfl]
  have := hx (n + 1) (tabsT k ++ 125 :: z ++ 10 :: r)
  rw [show ((k + 1 : Nat) : Int) = (k : Int) + 1 by omega] at this
  rw [this, l_brk k z hz]
  congr 2
  omega

theorem run_txt : ∀ (l : SS), l.ok = true → ∀ (k : Nat) (n : Int) (r : List UInt8), lrun ⟨10, n, k, true, 0⟩ (l.txt k ++ r) = lrun ⟨10, n + l.lns, k, true, 0⟩ r
  | .nil, _, _, n, _ => by simp only [SS.txt, SS.lns, List.nil_append, Int.natCast_zero, Int.add_zero]
  | .cons op s n l x y q, h, k, i, r => by
    simp only [SS.ok, Bool.and_eq_true] at h
    have iq := run_txt q h.2 k
    have ix := run_txt x h.1.2.2.1 (k + 1)
    have iy := run_txt y h.1.2.2.2 (k + 1)
    have hs := fit_named h.1.1
    have ht := nl_txs h.1.2.1
    have hop := (fit_s h.1.1).1.1
    obtain ⟨fx, fy, fnm⟩ := fit_more h.1.1
    -- a statement of one line
    have one : ∀ (c : UInt8) (a : List UInt8), c ≠ 9 ∧ c ≠ 125 ∧ c ≠ 10 → NL a → op ≠ 7 → op ≠ 8 → stX k op s.data.toList n l.txs (x.txt (k + 1)) (y.txt (k + 1)) (decide (0 < y.len)) = c :: (a ++ [59]) →
        lrun ⟨10, i, k, true, 0⟩ ((SS.cons op s n l x y q).txt k ++ r) = lrun ⟨10, i + (SS.cons op s n l x y q).lns, k, true, 0⟩ r := by
      intro c a hc ha h7 h8 e1
      simp only [SS.txt, SS.lns, e1]
      rw [fx h7 h8, fy h7]
      have e2 : tabsT k ++ c :: (a ++ [59]) ++ [10] ++ q.txt k ++ r = tabsT k ++ c :: (a ++ [59]) ++ 10 :: (q.txt k ++ r) := by simp
      rw [e2, l_line k c _ hc (ha.app (nl_lit _ rfl)), lastB_end, if_neg (by decide), iq]
      congr 2
      simp [h7, h8, SS.len, SS.lns]
      omega
    obtain ⟨m, rfl⟩ := Int.eq_ofNat_of_zero_le (show 0 ≤ op by omega)
    have hm : m = 1 ∨ m = 2 ∨ m = 3 ∨ m = 4 ∨ m = 5 ∨ m = 6 ∨ m = 7 ∨ m = 8 ∨ m = 9 := by omega
    have L : ∀ a : List UInt8, a.all (fun c => c != 10) = true → NL a := nl_lit
    have D : ∀ c : UInt8, c = 97 ∨ c = 105 ∨ c = 107 ∨ c = 112 ∨ c = 114 ∨ c = 119 ∨ c = 102 → c ≠ 9 ∧ c ≠ 125 ∧ c ≠ 10 := by
      rintro c (rfl | rfl | rfl | rfl | rfl | rfl | rfl) <;> decide
    rcases hm with rfl | rfl | rfl | rfl | rfl | rfl | rfl | rfl | rfl
    · obtain ⟨c, d, e, hc⟩ := name_hd (fnm (.inl rfl))
      have hd : NL d := fun b hb => hs b (by rw [e]; simp [hb])
      refine one c (d ++ ([32, 61, 32] ++ hdT' l.txs)) hc (hd.app ((L _ rfl).app ht.hd)) (by decide) (by decide) ?_
      show s.data.toList ++ ([32, 61, 32] ++ hdT' l.txs ++ [59]) = _
      rw [e]; simp
    · obtain ⟨c, d, e, hc⟩ := name_hd (fnm (.inr rfl))
      have hd : NL d := fun b hb => hs b (by rw [e]; simp [hb])
      refine one c (d ++ ([91] ++ hdT' l.txs ++ [93] ++ ([32, 61, 32] ++ hdT' l.txs.tail))) hc (hd.app ((((L _ rfl).app ht.hd).app (L _ rfl)).app ((L _ rfl).app ht.tail.hd))) (by decide) (by decide) ?_
      show s.data.toList ++ [91] ++ hdT' l.txs ++ [93] ++ ([32, 61, 32] ++ hdT' l.txs.tail ++ [59]) = _
      rw [e]; simp
    · refine one 97 ([114, 114, 97, 121, 32] ++ s.data.toList ++ [32] ++ itoa n) (D _ (by decide)) ((((L _ rfl).app hs).app (L _ rfl)).app (nl_itoa n)) (by decide) (by decide) ?_
      show [97, 114, 114, 97, 121, 32] ++ s.data.toList ++ [32] ++ itoa n ++ [59] = _
      simp
    · refine one 105 ([110, 112, 117, 116, 32] ++ s.data.toList) (D _ (by decide)) ((L _ rfl).app hs) (by decide) (by decide) ?_
      show [105, 110, 112, 117, 116, 32] ++ s.data.toList ++ [59] = _
      simp
    · refine one 112 ([114, 105, 110, 116, 32] ++ hdT' l.txs) (D _ (by decide)) ((L _ rfl).app ht.hd) (by decide) (by decide) ?_
      show [112, 114, 105, 110, 116, 32] ++ hdT' l.txs ++ [59] = _
      simp
    · refine one 107 ([101, 101, 112, 32] ++ hdT' l.txs) (D _ (by decide)) ((L _ rfl).app ht.hd) (by decide) (by decide) ?_
      show [107, 101, 101, 112, 32] ++ hdT' l.txs ++ [59] = _
      simp
    · simp only [SS.txt, SS.lns]
      have e7 : stX k ((7 : Nat) : Int) s.data.toList n l.txs (x.txt (k + 1)) (y.txt (k + 1)) (decide (0 < y.len)) = [105, 102, 32] ++ hdT' l.txs ++ blkT k (x.txt (k + 1)) ++ (if decide (0 < y.len) = true then [32, 101, 108, 115, 101] ++ blkT k (y.txt (k + 1)) else []) := rfl
      rw [e7]
      by_cases hy : 0 < y.len
      · have e2 : tabsT k ++ ([105, 102, 32] ++ hdT' l.txs ++ blkT k (x.txt (k + 1)) ++ (if decide (0 < y.len) = true then [32, 101, 108, 115, 101] ++ blkT k (y.txt (k + 1)) else [])) ++ [10] ++ q.txt k ++ r =
            tabsT k ++ (105 :: ([102, 32] ++ hdT' l.txs) ++ blkT k (x.txt (k + 1))) ++ [32, 101, 108, 115, 101, 32, 123] ++ 10 :: (y.txt (k + 1) ++ (tabsT k ++ 125 :: [] ++ 10 :: (q.txt k ++ r))) := by
          rw [if_pos (decide_eq_true hy)]
          simp [blkT]
        rw [e2, run_blk ix 105 _ (D _ (by decide)) ((L _ rfl).app ht.hd) _ (L _ rfl), if_pos (by decide)]
        have := iy (i + 2 + x.lns) (tabsT k ++ 125 :: [] ++ 10 :: (q.txt k ++ r))
        rw [show ((k + 1 : Nat) : Int) = (k : Int) + 1 by omega] at this
        rw [this, l_brk k [] (L _ rfl), if_neg (by decide), iq]
        congr 2
        simp [hy]
        omega
      · have e2 : tabsT k ++ ([105, 102, 32] ++ hdT' l.txs ++ blkT k (x.txt (k + 1)) ++ (if decide (0 < y.len) = true then [32, 101, 108, 115, 101] ++ blkT k (y.txt (k + 1)) else [])) ++ [10] ++ q.txt k ++ r =
            tabsT k ++ (105 :: ([102, 32] ++ hdT' l.txs) ++ blkT k (x.txt (k + 1))) ++ [] ++ 10 :: (q.txt k ++ r) := by
          rw [if_neg (by simpa using hy)]
          simp
        rw [e2, run_blk ix 105 _ (D _ (by decide)) ((L _ rfl).app ht.hd) _ (L _ rfl), if_neg (by decide), iq]
        congr 2
        have h0 := (lns_len0 (l := y) (by omega)).1
        simp [hy, h0]
        omega
    · simp only [SS.txt, SS.lns, fy (by decide)]
      have e2 : tabsT k ++ ([119, 104, 105, 108, 101, 32] ++ hdT' l.txs ++ blkT k (x.txt (k + 1))) ++ [10] ++ q.txt k ++ r =
          tabsT k ++ (119 :: ([104, 105, 108, 101, 32] ++ hdT' l.txs) ++ blkT k (x.txt (k + 1))) ++ [] ++ 10 :: (q.txt k ++ r) := by
        simp
      rw [show (if 0 < SS.nil.len then 1 else 0) = 0 from rfl]
      rw [show stX k ((8 : Nat) : Int) s.data.toList n l.txs (x.txt (k + 1)) [] (decide (0 < SS.nil.len)) = [119, 104, 105, 108, 101, 32] ++ hdT' l.txs ++ blkT k (x.txt (k + 1)) from rfl, e2, run_blk ix 119 _ (D _ (by decide)) ((L _ rfl).app ht.hd) _ (L _ rfl), if_neg (by decide), iq]
      congr 2
      simp []
      omega
    · refine one 114 ([101, 116, 117, 114, 110, 32] ++ hdT' l.txs) (D _ (by decide)) ((L _ rfl).app ht.hd) (by decide) (by decide) ?_
      show [114, 101, 116, 117, 114, 110, 32] ++ hdT' l.txs ++ [59] = _
      simp

theorem nl_ps : ∀ {l : List ByteArray}, psOk l = true → NLs (l.map fun s => s.data.toList)
  | [], _ => fun t ht => by cases ht
  | s :: r, h => by
    simp only [psOk, Bool.and_eq_true] at h
    intro t ht
    rcases List.mem_cons.1 ht with rfl | ht
    · exact nl_name h.1
    · exact nl_ps h.2 t ht
theorem run_fns : ∀ (l : List Fn), fsOk l = true → okL (fsPts l) = true → ∀ (n : Int) (r : List UInt8), lrun ⟨10, n, 0, true, 0⟩ (fsX l ++ r) = lrun ⟨10, n + fnsLns l, 0, true, 0⟩ r
  | [], _, _, n, r => by simp only [fsX, fnsLns, List.nil_append, Int.natCast_zero, Int.add_zero]
  | f :: q, h, ho, n, r => by
    simp only [fsOk, paramsB, Bool.and_eq_true] at h
    simp only [fsPts, okL_append, Bool.and_eq_true, SS.okL] at ho
    have iq := run_fns q h.2 ho.2
    have ix := run_txt f.b ho.1 (0 + 1)
    have e2 : fsX (f :: q) ++ r = tabsT 0 ++ (102 :: ([117, 110, 99, 32] ++ f.s.data.toList ++ [40] ++ gapT [44, 32] (f.ps.map fun s => s.data.toList) ++ [41]) ++ blkT 0 (f.b.txt (0 + 1))) ++ [] ++ 10 :: (fsX q ++ r) := by
      simp [fsX, fnX, tabsT]
    have L : ∀ a : List UInt8, a.all (fun c => c != 10) = true → NL a := nl_lit
    have := run_blk ix 102 ([117, 110, 99, 32] ++ f.s.data.toList ++ [40] ++ gapT [44, 32] (f.ps.map fun s => s.data.toList) ++ [41]) (by decide) (((((L _ rfl).app (nl_name h.1.1)).app (L _ rfl)).app ((nl_ps h.1.2.2).gap (L _ rfl))).app (L _ rfl)) [] (L _ rfl) n (fsX q ++ r)
    rw [e2]
    rw [if_neg (by decide)] at this
    rw [show ((0 : Nat) : Int) = 0 from rfl] at this
    rw [this, iq]
    congr 2
    simp only [fnsLns]
    omega
/-- The whole text's lines. -/
theorem run_pg (p : Pg) (h : rightN p = 0) : lrun ⟨10, 0, 0, true, 0⟩ (textP p) = some ⟨10, ((fnsLns p.fs + p.m.lns : Nat) : Int), 0, true, 0⟩ := by
  obtain ⟨q1, q2, _⟩ := rightN_ok' h
  simp only [funcsB, Bool.and_eq_true] at q1
  simp only [Pg.pts, okL_append, Bool.and_eq_true, SS.okL] at q2
  unfold textP
  rw [if_pos h]
  unfold Pg.txt
  rw [run_fns p.fs q1.2 q2.1]
  have := run_txt p.m q2.2 0 (0 + (fnsLns p.fs : Int)) []
  rw [List.append_nil] at this
  rw [show ((0 : Nat) : Int) = 0 from rfl] at this
  rw [this]
  simp only [lrun]
  congr 2
  omega

end Go.Proofs.YtdadigmjenjpnaaGreatDoor
