/-
  CanonBodies, plain: a text, each line a tab further in.
-/
import Derived.Test.YtdadigmjenjpnaaGreatDoorCq5
import Derived.Test.YtdadigmjenjpnaaGreatDoorCePm
namespace Go.Proofs.YtdadigmjenjpnaaGreatDoor
open Go Go.RowKit Go.Lib

/-- A tab ahead of each line; does a line begin here? -/
def ind : Bool → List UInt8 → List UInt8
  | _, [] => []
  | st, c :: r => (if st then [9] else []) ++ c :: ind (c == 10) r
def fl : Bool → List UInt8 → Bool
  | st, [] => st
  | _, c :: r => fl (c == 10) r
theorem ind_app : ∀ (a b : List UInt8) (st : Bool), ind st (a ++ b) = ind st a ++ ind (fl st a) b
  | [], _, _ => rfl
  | c :: a, b, st => by simp only [List.cons_append, ind, fl, ind_app a b, List.append_assoc]
theorem fl_app : ∀ (a b : List UInt8) (st : Bool), fl st (a ++ b) = fl (fl st a) b
  | [], _, _ => rfl
  | c :: a, b, st => by simp only [List.cons_append, fl, fl_app a b]
theorem ind_len : ∀ (a : List UInt8) (st : Bool), (ind st a).length ≤ 2 * a.length
  | [], _ => Nat.le_refl _
  | c :: a, st => by
    have := ind_len a (c == 10)
    simp only [ind, List.length_append, List.length_cons]
    split <;> simp <;> omega

/-- No line ends here. -/
def NL (x : List UInt8) : Prop := ∀ c ∈ x, c ≠ 10
theorem NL.app {a b : List UInt8} (ha : NL a) (hb : NL b) : NL (a ++ b) := fun c hc => (List.mem_append.1 hc).elim (ha c) (hb c)
theorem nl_false : ∀ {x : List UInt8}, NL x → ∀ r, ind false (x ++ r) = x ++ ind false r
  | [], _, _ => rfl
  | c :: x, h, r => by
    have h0 : (c == 10) = false := by simpa using h c (by simp)
    have := nl_false (x := x) (fun d hd => h d (by simp [hd])) r
    simp only [List.cons_append, ind, h0, this]
    rfl
theorem nl_true {x : List UInt8} (h : NL x) (hx : x ≠ []) (r : List UInt8) : ind true (x ++ r) = 9 :: x ++ ind false r := by
  cases x with
  | nil => exact absurd rfl hx
  | cons c x =>
    have h0 : (c == 10) = false := by simpa using h c (by simp)
    have := nl_false (x := x) (fun d hd => h d (by simp [hd])) r
    simp only [List.cons_append, ind, h0, this]
    rfl
/-- A whole line. -/
theorem nl_line {x : List UInt8} (h : NL x) (hx : x ≠ []) (r : List UInt8) : ind true (x ++ 10 :: r) = 9 :: x ++ 10 :: ind true r := by
  rw [nl_true h hx]
  rfl

theorem nl_lit (l : List UInt8) (h : l.all (fun c => c != 10) = true) : NL l := fun c hc => by
  have := List.all_eq_true.1 h c hc
  simpa using this
theorem nl_dd : ∀ (n m : Nat), m ≤ n → NL (decDigits m)
  | 0, m, h => by
    obtain rfl : m = 0 := by omega
    exact nl_lit _ (by decide +kernel)
  | n + 1, m, h => by
    by_cases hs : m < 10
    · rw [decDigits, dif_pos hs]
      intro c hc
      simp only [List.mem_singleton] at hc
      subst hc
      intro e
      have := congrArg UInt8.toNat e
      rw [UInt8.toNat_ofNat'] at this
      simp at this
      omega
    · rw [dd_big' (by omega)]
      refine (nl_dd n (m / 10) (by omega)).app ?_
      intro c hc
      simp only [List.mem_singleton] at hc
      subst hc
      intro e
      have := congrArg UInt8.toNat e
      rw [UInt8.toNat_ofNat'] at this
      simp at this
      omega
theorem nl_itoa (n : Int) : NL (itoa n) := by
  unfold itoa
  split
  · intro c hc
    rcases List.mem_cons.1 hc with rfl | hc
    · decide
    · exact nl_dd _ _ (Nat.le_refl _) c hc
  · exact nl_dd _ _ (Nat.le_refl _)
theorem nl_name {s : ByteArray} (h : nameB s = true) : NL s.data.toList := by
  unfold nameB at h
  simp only [Bool.and_eq_true] at h
  have h2 := h.1.2
  intro c hc e
  have := List.all_eq_true.1 h2 c hc
  subst e
  revert this
  decide +kernel
theorem nl_named {b : Bool} {s : ByteArray} (h : namedB b s = true) : NL s.data.toList := by
  unfold namedB at h
  cases b with
  | true => exact nl_name h
  | false =>
    have e : s.toList = [] := by simpa using h
    rw [ByteArray.toList_eq] at e
    rw [e]
    intro c hc
    cases hc
theorem fit_named {st : Bool} {op n : Int} {s : ByteArray} {l : ES} {x y : SS} (h : fitP ⟨st, op, s, n, l, x, y⟩ = true) : NL s.data.toList := by
  unfold fitP fitQ at h
  simp only [Bool.and_eq_true] at h
  exact nl_named h.2.1

def NLs (ts : List (List UInt8)) : Prop := ∀ t ∈ ts, NL t
theorem NLs.rest {gap : List UInt8} (hg : NL gap) : ∀ {ts : List (List UInt8)}, NLs ts → NL (restT gap ts)
  | [], _ => fun c hc => by cases hc
  | a :: r, h => by
    simp only [restT]
    exact (hg.app (h a (by simp))).app (NLs.rest hg fun t ht => h t (by simp [ht]))
theorem NLs.gap {gap : List UInt8} (hg : NL gap) {ts : List (List UInt8)} (h : NLs ts) : NL (gapT gap ts) := by
  cases ts with
  | nil => exact fun c hc => by cases hc
  | cons a r =>
    rw [gapT_cons]
    exact (h a (by simp)).app (NLs.rest hg fun t ht => h t (by simp [ht]))
theorem NLs.hd {ts : List (List UInt8)} (h : NLs ts) : NL (hdT' ts) := by
  cases ts with
  | nil => exact fun c hc => by cases hc
  | cons a r => exact h a (by simp)
theorem NLs.tail {ts : List (List UInt8)} (h : NLs ts) : NLs ts.tail := fun t ht => h t (List.mem_of_mem_tail ht)
theorem nl_betw (op : Int) : NL (betw op) := by
  unfold betw
  by_cases h : op.toNat < 17
  · have : ∀ m : Nat, m < 17 → (betwT.getD m []).all (fun c => c != 10) = true := by decide
    exact nl_lit _ (this _ h)
  · rw [List.getD_eq_getElem?_getD, List.getElem?_eq_none (by simp [betwT]; omega)]
    exact fun c hc => by cases hc
theorem nl_exX {op n : Int} {s : List UInt8} {ts : List (List UInt8)} (hs : NL s) (ht : NLs ts) : NL (exX op n s ts) := by
  have k1 : NL [44, 32] := nl_lit _ rfl
  unfold exX
  repeat' split
  · exact nl_itoa n
  · exact hs
  · exact nl_lit _ rfl
  · exact hs.app (((nl_lit _ rfl).app (ht.gap k1)).app (nl_lit _ rfl))
  · exact hs.app (((nl_lit _ rfl).app (ht.gap k1)).app (nl_lit _ rfl))
  · exact (nl_lit _ rfl).app ht.hd
  · exact (nl_lit _ rfl).app ht.hd
  · exact ((nl_lit _ rfl).app (ht.gap (nl_betw op))).app (nl_lit _ rfl)
theorem nl_txs : ∀ {l : ES}, l.ok = true → NLs l.txs
  | .nil, _ => fun t ht => by cases ht
  | .cons op n s l r, h => by
    simp only [ES.ok, Bool.and_eq_true] at h
    intro t ht
    rcases List.mem_cons.1 ht with rfl | ht
    · exact nl_exX (fit_named h.1.1) (nl_txs h.1.2)
    · exact nl_txs h.2 t ht
theorem nl_tabs (k : Nat) : NL (tabsT k) := fun c hc => by
  unfold tabsT at hc
  rw [List.mem_replicate] at hc
  rw [hc.2]
  decide
theorem tabs_succ (k : Nat) : 9 :: tabsT k = tabsT (k + 1) := rfl

/-- A block, behind a line that was begun, and its end. -/
theorem ind_blk {x : SS} {k : Nat} (hx : ∀ r, ind true (x.txt (k + 1) ++ r) = x.txt (k + 2) ++ ind true r) {a : List UInt8} (ha : NL a) (z r : List UInt8) (hz : NL z) :
    ind false (a ++ blkT k (x.txt (k + 1)) ++ z ++ 10 :: r) = a ++ blkT (k + 1) (x.txt (k + 2)) ++ z ++ 10 :: ind true r := by
  have e1 : a ++ blkT k (x.txt (k + 1)) ++ z ++ 10 :: r = (a ++ [32, 123]) ++ (10 :: (x.txt (k + 1) ++ ((tabsT k ++ [125] ++ z) ++ 10 :: r))) := by
    unfold blkT; simp
  have hl : NL (tabsT k ++ [125] ++ z) := ((nl_tabs k).app (nl_lit _ rfl)).app hz
  rw [e1, nl_false (ha.app (nl_lit _ rfl))]
  show (a ++ [32, 123]) ++ 10 :: ind true (x.txt (k + 1) ++ ((tabsT k ++ [125] ++ z) ++ 10 :: r)) = _
  rw [hx, nl_line hl (by simp)]
  unfold blkT
  rw [← tabs_succ]
  simp

theorem ind_txt : ∀ (l : SS), l.ok = true → ∀ (k : Nat) (r : List UInt8), ind true (l.txt k ++ r) = l.txt (k + 1) ++ ind true r
  | .nil, _, _, _ => rfl
  | .cons op s n l x y q, h, k, r => by
    simp only [SS.ok, Bool.and_eq_true] at h
    have iq := ind_txt q h.2 k r
    have ix := fun r => ind_txt x h.1.2.2.1 (k + 1) r
    have iy := fun r => ind_txt y h.1.2.2.2 (k + 1) r
    have hs := fit_named h.1.1
    have ht := nl_txs h.1.2.1
    have hop := (fit_s h.1.1).1.1
    -- a statement of one line
    have one : ∀ (X : List UInt8), NL X → X ≠ [] → stX k op s.data.toList n l.txs (x.txt (k + 1)) (y.txt (k + 1)) (decide (0 < y.len)) = X → stX (k + 1) op s.data.toList n l.txs (x.txt (k + 1 + 1)) (y.txt (k + 1 + 1)) (decide (0 < y.len)) = X →
        ind true ((SS.cons op s n l x y q).txt k ++ r) = (SS.cons op s n l x y q).txt (k + 1) ++ ind true r := by
      intro X hX hne e1 e2
      simp only [SS.txt, e1, e2]
      have : tabsT k ++ X ++ [10] ++ q.txt k ++ r = (tabsT k ++ X) ++ 10 :: (q.txt k ++ r) := by simp
      rw [this, nl_line ((nl_tabs k).app hX) (by simp [hne]), iq, ← tabs_succ]
      simp
    have two : ∀ (X X' : List UInt8) (c : UInt8) (d : List UInt8), X = c :: d → c ≠ 10 → (∀ r, ind false (X ++ 10 :: r) = X' ++ 10 :: ind true r) → stX k op s.data.toList n l.txs (x.txt (k + 1)) (y.txt (k + 1)) (decide (0 < y.len)) = X → stX (k + 1) op s.data.toList n l.txs (x.txt (k + 1 + 1)) (y.txt (k + 1 + 1)) (decide (0 < y.len)) = X' →
        ind true ((SS.cons op s n l x y q).txt k ++ r) = (SS.cons op s n l x y q).txt (k + 1) ++ ind true r := by
      intro X X' c d hX hc hi e1 e2
      simp only [SS.txt, e1, e2]
      have e3 : tabsT k ++ X ++ [10] ++ q.txt k ++ r = (tabsT k ++ [c]) ++ (d ++ 10 :: (q.txt k ++ r)) := by simp [hX]
      have e4 : c :: ind false (d ++ 10 :: (q.txt k ++ r)) = ind false (X ++ 10 :: (q.txt k ++ r)) := by
        rw [hX]
        have h0 : (c == 10) = false := by simpa using hc
        simp only [List.cons_append, ind, h0]
        rfl
      rw [e3, nl_true ((nl_tabs k).app (fun b hb => by simp only [List.mem_singleton] at hb; rw [hb]; exact hc)) (by simp), ← tabs_succ]
      have := hi (q.txt k ++ r)
      rw [iq] at this
      rw [← e4] at this
      simp only [List.cons_append, List.append_assoc, List.nil_append]
      rw [this]
    obtain ⟨m, rfl⟩ := Int.eq_ofNat_of_zero_le (show 0 ≤ op by omega)
    have hm : m = 1 ∨ m = 2 ∨ m = 3 ∨ m = 4 ∨ m = 5 ∨ m = 6 ∨ m = 7 ∨ m = 8 ∨ m = 9 := by omega
    have L : ∀ a : List UInt8, a.all (fun c => c != 10) = true → NL a := nl_lit
    rcases hm with rfl | rfl | rfl | rfl | rfl | rfl | rfl | rfl | rfl
    · exact one _ (hs.app (((L _ rfl).app ht.hd).app (L [59] rfl))) (by simp) rfl rfl
    · exact one _ ((((hs.app (L _ rfl)).app ht.hd).app (L _ rfl)).app (((L _ rfl).app ht.tail.hd).app (L [59] rfl))) (by simp) rfl rfl
    · exact one _ (((((L _ rfl).app hs).app (L _ rfl)).app (nl_itoa n)).app (L [59] rfl)) (by simp) rfl rfl
    · exact one _ (((L _ rfl).app hs).app (L [59] rfl)) (by simp) rfl rfl
    · exact one _ (((L _ rfl).app ht.hd).app (L [59] rfl)) (by simp) rfl rfl
    · exact one _ (((L _ rfl).app ht.hd).app (L [59] rfl)) (by simp) rfl rfl
    · by_cases hy : decide (0 < y.len) = true
      · refine two ([105, 102, 32] ++ hdT' l.txs ++ blkT k (x.txt (k + 1)) ++ ([32, 101, 108, 115, 101] ++ blkT k (y.txt (k + 1)))) ([105, 102, 32] ++ hdT' l.txs ++ blkT (k + 1) (x.txt (k + 2)) ++ ([32, 101, 108, 115, 101] ++ blkT (k + 1) (y.txt (k + 2)))) 105 _ rfl (by decide) ?_ ?_ ?_
        · intro r
          have a1 : NL ([105, 102, 32] ++ hdT' l.txs) := (L _ rfl).app ht.hd
          have e1 : [105, 102, 32] ++ hdT' l.txs ++ blkT k (x.txt (k + 1)) ++ ([32, 101, 108, 115, 101] ++ blkT k (y.txt (k + 1))) ++ 10 :: r = (([105, 102, 32] ++ hdT' l.txs) ++ [32, 123]) ++ (10 :: (x.txt (k + 1) ++ ((tabsT k ++ [125] ++ [32, 101, 108, 115, 101] ++ [32, 123]) ++ 10 :: (y.txt (k + 1) ++ ((tabsT k ++ [125]) ++ 10 :: r))))) := by
            unfold blkT; simp
          rw [e1, nl_false (a1.app (L _ rfl))]
          show (([105, 102, 32] ++ hdT' l.txs) ++ [32, 123]) ++ 10 :: ind true (x.txt (k + 1) ++ ((tabsT k ++ [125] ++ [32, 101, 108, 115, 101] ++ [32, 123]) ++ 10 :: (y.txt (k + 1) ++ ((tabsT k ++ [125]) ++ 10 :: r)))) = _
          rw [ix, nl_line ((((nl_tabs k).app (L _ rfl)).app (L _ rfl)).app (L _ rfl)) (by simp), iy, nl_line ((nl_tabs k).app (L _ rfl)) (by simp)]
          unfold blkT
          rw [← tabs_succ]
          simp
        · show [105, 102, 32] ++ hdT' l.txs ++ blkT k (x.txt (k + 1)) ++ (if decide (0 < y.len) = true then [32, 101, 108, 115, 101] ++ blkT k (y.txt (k + 1)) else []) = _
          rw [if_pos hy]
        · show [105, 102, 32] ++ hdT' l.txs ++ blkT (k + 1) (x.txt (k + 2)) ++ (if decide (0 < y.len) = true then [32, 101, 108, 115, 101] ++ blkT (k + 1) (y.txt (k + 2)) else []) = _
          rw [if_pos hy]
      · refine two ([105, 102, 32] ++ hdT' l.txs ++ blkT k (x.txt (k + 1))) ([105, 102, 32] ++ hdT' l.txs ++ blkT (k + 1) (x.txt (k + 2))) 105 _ rfl (by decide) ?_ ?_ ?_
        · intro r
          have := ind_blk (k := k) (fun r => ix r) ((L [105, 102, 32] rfl).app ht.hd) [] r (L [] rfl)
          simpa only [List.append_nil] using this
        · show [105, 102, 32] ++ hdT' l.txs ++ blkT k (x.txt (k + 1)) ++ (if decide (0 < y.len) = true then [32, 101, 108, 115, 101] ++ blkT k (y.txt (k + 1)) else []) = _
          rw [if_neg hy, List.append_nil]
        · show [105, 102, 32] ++ hdT' l.txs ++ blkT (k + 1) (x.txt (k + 2)) ++ (if decide (0 < y.len) = true then [32, 101, 108, 115, 101] ++ blkT (k + 1) (y.txt (k + 2)) else []) = _
          rw [if_neg hy, List.append_nil]
    · refine two ([119, 104, 105, 108, 101, 32] ++ hdT' l.txs ++ blkT k (x.txt (k + 1))) ([119, 104, 105, 108, 101, 32] ++ hdT' l.txs ++ blkT (k + 1) (x.txt (k + 2))) 119 _ rfl (by decide) ?_ rfl rfl
      intro r
      have := ind_blk (k := k) (fun r => ix r) ((L [119, 104, 105, 108, 101, 32] rfl).app ht.hd) [] r (L [] rfl)
      simpa only [List.append_nil] using this
    · exact one _ (((L _ rfl).app ht.hd).app (L [59] rfl)) (by simp) rfl rfl

/-- Just the clock. -/
def clkL : ES := .cons 3 0 ⟨#[]⟩ .nil .nil
theorem deep_wrap {d : Int} (h0 : 0 ≤ d) (h1 : d ≤ 62) : wrap64 (1 + max 1 d) ≤ 63 := by rw [wrap_def]; omega
theorem fit_blk (op : Int) (hop : op = 7 ∨ op = 8) (m y : SS) (hy : op = 8 → y.len = 0) : fitP ⟨true, op, ⟨#[]⟩, 0, clkL, m, y⟩ = true := by
  rcases hop with rfl | rfl
  · simp [fitP, fitQ, shOf, stmtT, namedB, clkL, ES.len]
  · simp [fitP, fitQ, shOf, stmtT, namedB, clkL, ES.len, hy]
theorem clk_ok : clkL.ok = true := by decide +kernel
theorem clk_deep : clkL.deep = 1 := by decide +kernel
theorem while_text (m : SS) (h : m.ok = true) (hd : m.deep ≤ 62) : textP ⟨[], .cons 8 ⟨#[]⟩ 0 clkL m .nil .nil⟩ = [119, 104, 105, 108, 101, 32, 99, 108, 111, 99, 107, 32, 123, 10] ++ m.txt 1 ++ [125, 10] := by
  have h0 := SS.deep_nn m
  have hr : rightN ⟨[], .cons 8 ⟨#[]⟩ 0 clkL m .nil .nil⟩ = 0 := by
    rw [right_iff]
    refine ⟨by simp only [SS.ok, fit_blk 8 (.inr rfl) m .nil (fun _ => rfl), clk_ok, h]; rfl, ?_⟩
    simp only [SS.deep, clk_deep]
    have := deep_wrap h0 hd
    rw [show max m.deep (0 : Int) = m.deep by omega]
    omega
  unfold textP
  rw [if_pos hr]
  simp [Pg.txt, fsX, SS.txt, stX, clkL, ES.txs, exX, hdT', blkT, tabsT]
theorem if_text (m : SS) (h : m.ok = true) (hd : m.deep ≤ 62) : textP ⟨[], .cons 7 ⟨#[]⟩ 0 clkL .nil m .nil⟩ = if 0 < m.len then [105, 102, 32, 99, 108, 111, 99, 107, 32, 123, 10, 125, 32, 101, 108, 115, 101, 32, 123, 10] ++ m.txt 1 ++ [125, 10] else [105, 102, 32, 99, 108, 111, 99, 107, 32, 123, 10, 125, 10] := by
  have h0 := SS.deep_nn m
  have hr : rightN ⟨[], .cons 7 ⟨#[]⟩ 0 clkL .nil m .nil⟩ = 0 := by
    rw [right_iff]
    refine ⟨by simp only [SS.ok, fit_blk 7 (.inl rfl) .nil m (fun h => by cases h), clk_ok, h]; rfl, ?_⟩
    simp only [SS.deep, clk_deep]
    have := deep_wrap h0 hd
    rw [show max (0 : Int) m.deep = m.deep by omega]
    omega
  unfold textP
  rw [if_pos hr]
  by_cases hl : 0 < m.len
  · simp [Pg.txt, fsX, SS.txt, stX, clkL, ES.txs, exX, hdT', blkT, tabsT, hl]
  · simp [Pg.txt, fsX, SS.txt, stX, clkL, ES.txs, exX, hdT', blkT, tabsT, hl]
theorem fn_text (m : SS) (h : m.ok = true) (hd : m.deep ≤ 62) : textP ⟨[⟨⟨#[113]⟩, [], m⟩], .nil⟩ = [102, 117, 110, 99, 32, 113, 40, 41, 32, 123, 10] ++ m.txt 1 ++ [125, 10] := by
  have hr : rightN ⟨[⟨⟨#[113]⟩, [], m⟩], .nil⟩ = 0 := by
    unfold rightN
    have hf : funcsB [⟨⟨#[113]⟩, [], m⟩] = true := by
      have hn : nameB ⟨#[113]⟩ = true := by decide +kernel
      simp only [funcsB, fsOk, hn, paramsB, psOk]
      rfl
    have ho : okL (Pg.pts ⟨[⟨⟨#[113]⟩, [], m⟩], .nil⟩) = true := by
      simp only [Pg.pts, fsPts, SS.pts, List.append_nil, SS.okL, h]
    have he : deepL (Pg.pts ⟨[⟨⟨#[113]⟩, [], m⟩], .nil⟩) = m.deep := by
      simp only [Pg.pts, fsPts, SS.pts, List.append_nil, SS.deepL]
    simp only [hf, ho, he, Bool.and_self, if_true]
    rw [if_neg (by omega)]
  unfold textP
  rw [if_pos hr]
  simp [Pg.txt, fsX, fnX, SS.txt, gapT, blkT, tabsT]
theorem main_text (m : SS) (h : m.ok = true) (hd : m.deep ≤ 62) : textP ⟨[], m⟩ = m.txt 0 := by
  have hr : rightN ⟨[], m⟩ = 0 := right_iff.2 ⟨h, by omega⟩
  unfold textP
  rw [if_pos hr]
  rfl

end Go.Proofs.YtdadigmjenjpnaaGreatDoor
