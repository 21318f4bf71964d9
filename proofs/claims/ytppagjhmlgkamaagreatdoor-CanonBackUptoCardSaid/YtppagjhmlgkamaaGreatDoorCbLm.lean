/-
  A text's tokens: what lex tells of what canon prints. Plain.
-/
import Derived.Test.YtppagjhmlgkamaaGreatDoorCq5
import Derived.Test.YtppagjhmlgkamaaGreatDoorCnRm
namespace Go.Proofs.YtppagjhmlgkamaaGreatDoor
open Go Go.RowKit Go.Lib

theorem lex_mark {c : UInt8} (h1 : blkB (bv c) = false) (h2 : c ≠ 35) (h3 : letB (bv c) = false) (h4 : digB (bv c) = false) (h5 : c ≠ 61) (h6 : mrkB c = true) (p : Nat) (r : List UInt8) : lexS p (c :: r) = (lexS (p + 1) r).cons ⟨3, [c], p⟩ := by
  have hk : firstK (c :: r) = 3 := by rw [firstK_cons, h3, h4, h6]; rfl
  have hn : firstN (c :: r) = 1 := by
    rw [firstN_cons, h3, h4, h6]
    simp [h5]
  rw [lexS_tok h1 h2 (by rw [hk]; omega) (by rw [hk]; omega), hk, hn]
  rfl
theorem lex_eqs (p : Nat) (r : List UInt8) : lexS p (61 :: 61 :: r) = (lexS (p + 2) r).cons ⟨3, [61, 61], p⟩ := by
  have hk : firstK (61 :: 61 :: r) = 3 := rfl
  have hn : firstN (61 :: 61 :: r) = 2 := rfl
  rw [lexS_tok (by decide) (by decide) (by rw [hk]; omega) (by rw [hk]; omega), hk, hn]
  rfl
theorem lex_digits {D : List UInt8} (h0 : D ≠ []) (hD : ∀ d ∈ D, digB (bv d) = true) (p : Nat) (c : UInt8) (z : List UInt8) (hc : inwB (bv c) = false) : lexS p (D ++ c :: z) = (lexS (p + D.length) (c :: z)).cons ⟨2, D, p⟩ := by
  cases D with
  | nil => exact absurd rfl h0
  | cons d r =>
    have hd := hD d (by simp)
    have hd2 : 48 ≤ bv d ∧ bv d ≤ 57 := of_decide_eq_true hd
    have hl : letB (bv d) = false := decide_eq_false (by omega)
    have hb : blkB (bv d) = false := by
      unfold blkB
      simp only [Bool.or_eq_false_iff, beq_eq_false_iff_ne]
      omega
    have h35 : d ≠ 35 := by
      rintro rfl
      have : bv 35 = 35 := by decide
      omega
    obtain ⟨c1, c2, c3⟩ := inw_no hc
    have hall : ∀ l : List UInt8, (∀ x ∈ l, digB (bv x) = true) → reachL digB l = l.length := by
      intro l
      induction l with
      | nil => intro _; rfl
      | cons x l ih => intro h; rw [reachL_cons, if_pos (h x (by simp)), ih (fun y hy => h y (by simp [hy]))]; rfl
    have hr : reachL digB (d :: (r ++ c :: z)) = (d :: r).length := by
      have := reachL_app digB (c :: z) (reachL_no ⟨c, z, rfl, c2⟩) (d :: r)
      rw [List.cons_append] at this
      rw [this, hall _ hD]
    have hk : firstK (d :: (r ++ c :: z)) = 2 := by rw [firstK_cons, hl, hd]; rfl
    have hn : firstN (d :: (r ++ c :: z)) = (d :: r).length := by rw [firstN_cons, hl, hd]; simpa using hr
    have hg : glued (d :: (r ++ c :: z)) (d :: r).length = false := by
      unfold glued
      have e : nth (d :: (r ++ c :: z)) (d :: r).length = bv c := by
        unfold nth
        rw [← List.cons_append, List.getD_eq_getElem?_getD, List.getElem?_append_right (Nat.le_refl _)]
        simp
      rw [e, c1, c3]
      simp
    rw [List.cons_append, lexS_tok hb h35 (by rw [hk]; omega) (by rw [hk, hn, hg]; simp), hk, hn]
    rw [← List.cons_append, List.drop_left, List.take_left]
theorem ok_bind {α β : Type} (v : α) (r : List Tok) (f : α → List Tok → PR β) : (PR.ok v r).bind f = f v r := rfl
theorem loop_stop (ex : Nat → Nat → List Tok → PR Ex) (m least : Nat) (e : Ex) (o : Nat) (X : List Tok) (hX : (opT (hdT X).text).2 < least) : loopT ex (m + 1) least e o X = .ok e X := by
  unfold loopT
  rw [if_pos hX]

/-- A token, but for its place. -/
abbrev TK := Nat × List UInt8
def Tok.kt (t : Tok) : TK := (t.kind, t.text)
def kts (ts : List Tok) : List TK := ts.map Tok.kt
theorem kts_app (a b : List Tok) : kts (a ++ b) = kts a ++ kts b := by unfold kts; rw [List.map_append]
theorem app_app' (a b : List Tok) (r : Res) : (r.app b).app a = r.app (a ++ b) := by cases r <;> simp [Res.app]
theorem app_nil' (r : Res) : r.app [] = r := by cases r <;> rfl
theorem cons_app' (t : Tok) (r : Res) : r.cons t = r.app [t] := by cases r <;> rfl

/-- Bytes are these tokens, whatever stands behind; where nothing of a word stands behind. -/
def LxM (b : List UInt8) (k : List TK) : Prop := ∀ p z, ∃ ts, lexS p (b ++ z) = (lexS (p + b.length) z).app ts ∧ kts ts = k
def LxW (b : List UInt8) (k : List TK) : Prop := ∀ p z, Parted z → ∃ ts, lexS p (b ++ z) = (lexS (p + b.length) z).app ts ∧ kts ts = k
/-- Nothing of a word stands ahead. -/
def Hd (b : List UInt8) : Prop := ∃ c r, b = c :: r ∧ inwB (bv c) = false ∧ c ≠ 61
theorem Hd.parted {b : List UInt8} (h : Hd b) (z : List UInt8) : Parted (b ++ z) := by
  obtain ⟨c, r, rfl, h1, h2⟩ := h
  exact ⟨c, r ++ z, rfl, h1, h2⟩
theorem Hd.app {b : List UInt8} (h : Hd b) (z : List UInt8) : Hd (b ++ z) := by
  obtain ⟨c, r, rfl, h1, h2⟩ := h
  exact ⟨c, r ++ z, rfl, h1, h2⟩

theorem LxM.w {b : List UInt8} {k : List TK} (h : LxM b k) : LxW b k := fun p z _ => h p z
theorem LxM.nil : LxM [] [] := fun p z => ⟨[], by rw [app_nil']; rfl, rfl⟩
theorem LxM.cat {a b : List UInt8} {k j : List TK} (h : LxM a k) (g : LxM b j) : LxM (a ++ b) (k ++ j) := fun p z => by
  obtain ⟨ts, e1, e2⟩ := h p (b ++ z)
  obtain ⟨us, e3, e4⟩ := g (p + a.length) z
  exact ⟨ts ++ us, by rw [List.append_assoc, e1, e3, app_app', List.length_append, Nat.add_assoc], by rw [kts_app, e2, e4]⟩
theorem LxM.catW {a b : List UInt8} {k j : List TK} (h : LxM a k) (g : LxW b j) : LxW (a ++ b) (k ++ j) := fun p z hz => by
  obtain ⟨ts, e1, e2⟩ := h p (b ++ z)
  obtain ⟨us, e3, e4⟩ := g (p + a.length) z hz
  exact ⟨ts ++ us, by rw [List.append_assoc, e1, e3, app_app', List.length_append, Nat.add_assoc], by rw [kts_app, e2, e4]⟩
theorem LxW.catM {a b : List UInt8} {k j : List TK} (h : LxW a k) (g : LxM b j) (hb : Hd b) : LxM (a ++ b) (k ++ j) := fun p z => by
  obtain ⟨ts, e1, e2⟩ := h p (b ++ z) (hb.parted z)
  obtain ⟨us, e3, e4⟩ := g (p + a.length) z
  exact ⟨ts ++ us, by rw [List.append_assoc, e1, e3, app_app', List.length_append, Nat.add_assoc], by rw [kts_app, e2, e4]⟩
theorem LxW.catW {a b : List UInt8} {k j : List TK} (h : LxW a k) (g : LxW b j) (hb : ∀ z, Parted z → Parted (b ++ z)) : LxW (a ++ b) (k ++ j) := fun p z hz => by
  obtain ⟨ts, e1, e2⟩ := h p (b ++ z) (hb z hz)
  obtain ⟨us, e3, e4⟩ := g (p + a.length) z hz
  exact ⟨ts ++ us, by rw [List.append_assoc, e1, e3, app_app', List.length_append, Nat.add_assoc], by rw [kts_app, e2, e4]⟩

theorem lx_blank {c : UInt8} (h : blkB (bv c) = true) : LxM [c] [] := fun p z => ⟨[], by rw [app_nil']; exact lexS_blank h, rfl⟩
theorem lx_mark {c : UInt8} (h1 : blkB (bv c) = false) (h2 : c ≠ 35) (h3 : letB (bv c) = false) (h4 : digB (bv c) = false) (h5 : c ≠ 61) (h6 : mrkB c = true) : LxM [c] [(3, [c])] :=
  fun p z => ⟨[⟨3, [c], p⟩], by rw [← cons_app']; exact lex_mark h1 h2 h3 h4 h5 h6 p z, rfl⟩
theorem lx_32 : LxM [32] [] := lx_blank (by decide)
theorem lx_10 : LxM [10] [] := lx_blank (by decide)
theorem lx_tabs (k : Nat) : LxM (tabsT k) [] := by
  unfold tabsT
  induction k with
  | zero => exact LxM.nil
  | succ k ih =>
    rw [List.replicate_succ]
    exact (lx_blank (c := 9) (by decide)).cat ih
theorem lx_40 : LxM [40] [(3, [40])] := lx_mark (by decide) (by decide) (by decide) (by decide) (by decide) (by decide)
theorem lx_41 : LxM [41] [(3, [41])] := lx_mark (by decide) (by decide) (by decide) (by decide) (by decide) (by decide)
theorem lx_91 : LxM [91] [(3, [91])] := lx_mark (by decide) (by decide) (by decide) (by decide) (by decide) (by decide)
theorem lx_93 : LxM [93] [(3, [93])] := lx_mark (by decide) (by decide) (by decide) (by decide) (by decide) (by decide)
theorem lx_123 : LxM [123] [(3, [123])] := lx_mark (by decide) (by decide) (by decide) (by decide) (by decide) (by decide)
theorem lx_125 : LxM [125] [(3, [125])] := lx_mark (by decide) (by decide) (by decide) (by decide) (by decide) (by decide)
theorem lx_44 : LxM [44] [(3, [44])] := lx_mark (by decide) (by decide) (by decide) (by decide) (by decide) (by decide)
theorem lx_45 : LxM [45] [(3, [45])] := lx_mark (by decide) (by decide) (by decide) (by decide) (by decide) (by decide)
theorem lx_33 : LxM [33] [(3, [33])] := lx_mark (by decide) (by decide) (by decide) (by decide) (by decide) (by decide)
theorem lx_59 : LxM [59] [(3, [59])] := lx_mark (by decide) (by decide) (by decide) (by decide) (by decide) (by decide)
theorem lx_eq : LxM [61, 32] [(3, [61])] := fun p z => by
  refine ⟨[⟨3, [61], p⟩], ?_, rfl⟩
  rw [← cons_app']
  have hk : firstK (61 :: 32 :: z) = 3 := rfl
  have hn : firstN (61 :: 32 :: z) = 1 := rfl
  have := lexS_tok (p := p) (c := 61) (r := 32 :: z) (by decide) (by decide) (by rw [hk]; omega) (by rw [hk]; simp)
  rw [hk, hn] at this
  show lexS p (61 :: 32 :: z) = _
  rw [this]
  show (lexS (p + 1) (32 :: z)).cons ⟨3, [61], p⟩ = _
  rw [lexS_blank (by decide)]
  rfl
theorem lx_ee : LxM [61, 61] [(3, [61, 61])] := fun p z => ⟨[⟨3, [61, 61], p⟩], by rw [← cons_app']; exact lex_eqs p z, rfl⟩

theorem reach_all {q : Int → Bool} : ∀ {l : List UInt8}, l.all (fun c => q (bv c)) = true → reachL q l = l.length
  | [], _ => rfl
  | c :: l, h => by
    rw [List.all_cons, Bool.and_eq_true] at h
    rw [reachL_cons, if_pos h.1, reach_all h.2]
    rfl
/-- A word. -/
theorem lx_word {c : UInt8} {r : List UInt8} (h1 : letB (bv c) = true) (h2 : (c :: r).all (fun d => inwB (bv d)) = true) (h3 : (c :: r).length ≤ 32) : LxW (c :: r) [(1, c :: r)] := fun p z hz => by
  have hb : blkB (bv c) = false := by
    have : (65 ≤ bv c ∧ bv c ≤ 90) ∨ (97 ≤ bv c ∧ bv c ≤ 122) := of_decide_eq_true h1
    unfold blkB
    simp only [Bool.or_eq_false_iff, beq_eq_false_iff_ne]
    omega
  have h35 : c ≠ 35 := by
    rintro rfl
    revert h1; decide
  have hzr : reachL inwB z = 0 := by
    obtain ⟨d, z', rfl, hd, _⟩ := hz
    exact reachL_no ⟨d, z', rfl, hd⟩
  have hk : firstK (c :: (r ++ z)) = 1 := by rw [firstK_cons, h1]; rfl
  have hn : firstN (c :: (r ++ z)) = (c :: r).length := by
    rw [firstN_cons, h1]
    have := reachL_app inwB z hzr (c :: r)
    rw [reach_all h2, List.cons_append] at this
    simpa using this
  refine ⟨[⟨1, c :: r, p⟩], ?_, rfl⟩
  rw [← cons_app', List.cons_append, lexS_tok hb h35 (by rw [hk, hn]; omega) (by rw [hk]; simp), hk, hn]
  rw [← List.cons_append, List.drop_left, List.take_left]
theorem lx_name {s : ByteArray} (h : nameB s = true) : LxW s.data.toList [(1, s.data.toList)] := by
  unfold nameB at h
  simp only [Bool.and_eq_true, decide_eq_true_eq] at h
  obtain ⟨⟨⟨⟨h1, h2⟩, h3⟩, h4⟩, _⟩ := h
  have hb : bs s = s.data.toList := rfl
  rw [hb] at h3 h4
  have hl : s.data.toList.length = s.size := by rw [Array.length_toList]; rfl
  cases hd : s.data.toList with
  | nil => rw [hd] at hl; simp at hl; omega
  | cons c r =>
    rw [hd] at h3 h4 hl
    exact lx_word h3 h4 (by omega)
theorem dd_all : ∀ (k m : Nat), m ≤ k → decDigits m ≠ [] ∧ ∀ d ∈ decDigits m, digB (bv d) = true := by
  have small : ∀ j : Nat, j < 10 → digB (bv (UInt8.ofNat (48 + j))) = true := by decide
  intro k
  induction k with
  | zero =>
    intro m hm
    obtain rfl : m = 0 := by omega
    rw [decDigits, dif_pos (by decide)]
    exact ⟨by simp, fun d hd => by simp at hd; subst hd; decide⟩
  | succ k ih =>
    intro m hm
    by_cases hs : m < 10
    · rw [decDigits, dif_pos hs]
      exact ⟨by simp, fun d hd => by rw [List.mem_singleton.1 hd]; exact small m hs⟩
    · rw [dd_big' (by omega)]
      refine ⟨by simp, fun d hd => ?_⟩
      rcases List.mem_append.1 hd with hd | hd
      · exact (ih (m / 10) (by omega)).2 d hd
      · rw [List.mem_singleton.1 hd]
        exact small (m % 10) (by omega)
theorem itoa_all {n : Int} (h0 : 0 ≤ n) : itoa n ≠ [] ∧ ∀ d ∈ itoa n, digB (bv d) = true := by
  have e : itoa n = decDigits n.toNat := by unfold itoa; rw [if_neg (by omega)]
  rw [e]
  exact dd_all _ _ (Nat.le_refl _)
theorem lx_num {n : Int} (h0 : 0 ≤ n) : LxW (itoa n) [(2, itoa n)] := fun p z hz => by
  obtain ⟨c, z', rfl, hc, _⟩ := hz
  obtain ⟨h1, h2⟩ := itoa_all h0
  exact ⟨[⟨2, itoa n, p⟩], by rw [← cons_app']; exact lex_digits h1 h2 p c z' hc, rfl⟩
end Go.Proofs.YtppagjhmlgkamaaGreatDoor
