/-
  What parse tells of the tokens of right statements: the statements. Plain.
-/
import Derived.Test.YtppagjhmlgkamaaGreatDoorCq5
import Derived.Test.YtppagjhmlgkamaaGreatDoorCbFm
namespace Go.Proofs.YtppagjhmlgkamaaGreatDoor
open Go Go.RowKit Go.Lib

def SS.dn : SS → Nat
  | .nil => 0
  | .cons _ _ _ l b e r => max (1 + max l.dn (max b.dn e.dn)) r.dn
theorem ES.dn_le : ∀ l : ES, l.dn ≤ l.cnt
  | .nil => Nat.le_refl _
  | .cons _ _ _ l r => by
    have := ES.dn_le l
    have := ES.dn_le r
    simp only [ES.dn, ES.cnt]
    omega
theorem SS.dn_le : ∀ l : SS, l.dn ≤ l.cnt
  | .nil => Nat.le_refl _
  | .cons _ _ _ l b e r => by
    have := ES.dn_le l
    have := SS.dn_le b
    have := SS.dn_le e
    have := SS.dn_le r
    simp only [SS.dn, SS.cnt]
    omega
theorem wrap_small {x : Int} (h0 : 0 ≤ x) (h1 : x ≤ 9223372036854775807) : wrap64 x = x := by unfold wrap64; omega
theorem ES.deep_dn : ∀ l : ES, l.cnt ≤ 1000000000000 → l.deep = (l.dn : Int)
  | .nil, _ => rfl
  | .cons _ _ _ l r, h => by
    simp only [ES.cnt] at h
    have h1 := ES.deep_dn l (by omega)
    have h2 := ES.deep_dn r (by omega)
    have h3 := ES.dn_le l
    simp only [ES.deep, ES.dn]
    rw [h1, h2, wrap_small (by omega) (by omega)]
    omega
theorem SS.deep_dn : ∀ l : SS, l.cnt ≤ 1000000000000 → l.deep = (l.dn : Int)
  | .nil, _ => rfl
  | .cons _ _ _ l b e r, h => by
    simp only [SS.cnt] at h
    have h1 := ES.deep_dn l (by omega)
    have h2 := SS.deep_dn b (by omega)
    have h3 := SS.deep_dn e (by omega)
    have h4 := SS.deep_dn r (by omega)
    have h5 := ES.dn_le l
    have h6 := SS.dn_le b
    have h7 := SS.dn_le e
    simp only [SS.deep, SS.dn]
    rw [h1, h2, h3, h4, wrap_small (by omega) (by omega)]
    omega

theorem deep_consC (t : Sm) (r : SS) : (toSS t r).deep = max (toSS t .nil).deep r.deep := by
  have h1 := SS.deep_nn r
  simp only [toSS, SS.deep]
  generalize RowKit.wrap64 (1 + max t.l.deep (max t.x.deep t.y.deep)) = k
  omega
def NoElse (X : List Tok) : Prop := isT X [101, 108, 115, 101] = false
def StAt (N : Nat) (t : Sm) (tk : List TK) (d : Nat) : Prop :=
  ∀ n o te X, N ≤ n → o + d ≤ 256 → kts te = tk → NoElse X → smT n o (te ++ X) = .ok t X
def SS.sokN (N : Nat) : SS → Prop
  | .nil => True
  | .cons op s n l b e r => StAt N ⟨op, s, n, l, b, e⟩ (stK op s.data.toList n l.tks b.tks e.tks (decide (0 < e.len))) (1 + max l.dn (max b.dn e.dn)) ∧ r.sokN N
theorem SS.sokN_mono {N M : Nat} (h : N ≤ M) : ∀ {l : SS}, l.sokN N → l.sokN M
  | .nil, _ => trivial
  | .cons _ _ _ _ _ _ _, ⟨h1, h2⟩ => ⟨fun n o te X hn => h1 n o te X (by omega), SS.sokN_mono h h2⟩
def sms : SS → List Sm
  | .nil => []
  | .cons op s n l b e r => ⟨op, s, n, l, b, e⟩ :: sms r
theorem smSS_sms : ∀ l : SS, smSS (sms l) = l
  | .nil => rfl
  | .cons op s n l b e r => by rw [sms, smSS, smSS_sms r]; rfl

theorem stK_head {op n : Int} {s : ByteArray} {l : ES} {x y : SS} (h : fitP ⟨true, op, s, n, l, x, y⟩ = true) (ne : Bool) :
    ∃ t r, stK op s.data.toList n l.tks x.tks y.tks ne = t :: r ∧ t.1 = 1 ∧ t.2 ≠ [125] ∧ t.2 ≠ [101, 108, 115, 101] ∧ t.2 ≠ [102, 117, 110, 99] := by
  obtain ⟨m, rfl, h1, h9, hn, _⟩ := fit_st h
  match m, h1, h9, hn with
  | 1, _, _, hn => exact ⟨_, _, rfl, rfl, name_ne hn (by decide), name_ne hn (by decide), name_ne hn (by decide)⟩
  | 2, _, _, hn => exact ⟨_, _, rfl, rfl, name_ne hn (by decide), name_ne hn (by decide), name_ne hn (by decide)⟩
  | 3, _, _, _ => exact ⟨_, _, rfl, rfl, by decide, by decide, by decide⟩
  | 4, _, _, _ => exact ⟨_, _, rfl, rfl, by decide, by decide, by decide⟩
  | 5, _, _, _ => exact ⟨_, _, rfl, rfl, by decide, by decide, by decide⟩
  | 6, _, _, _ => exact ⟨_, _, rfl, rfl, by decide, by decide, by decide⟩
  | 7, _, _, _ => exact ⟨_, _, rfl, rfl, by decide, by decide, by decide⟩
  | 8, _, _, _ => exact ⟨_, _, rfl, rfl, by decide, by decide, by decide⟩
  | 9, _, _, _ => exact ⟨_, _, rfl, rfl, by decide, by decide, by decide⟩
  | m + 10, _, h, _ => exact absurd h (by omega)
/-- What stands at the head of statements, or behind them. -/
theorem ss_head {l : SS} (h : l.ok = true) {te X : List Tok} (ht : kts te = l.tks) : te = [] ∨ ∃ t r, te ++ X = t :: r ∧ t.kind = 1 ∧ t.text ≠ [125] ∧ t.text ≠ [101, 108, 115, 101] ∧ t.text ≠ [102, 117, 110, 99] := by
  cases l with
  | nil => exact .inl (kts_nil ht)
  | cons op s n l b e r =>
    right
    simp only [SS.ok, Bool.and_eq_true] at h
    obtain ⟨t, k, hk, a1, a2, a3, a4⟩ := stK_head h.1.1 (decide (0 < e.len))
    rw [SS.tks, hk] at ht
    obtain ⟨u, z, rfl, hu1, hu2, _⟩ := kts_cons ht
    exact ⟨u, z ++ X, rfl, by rw [hu1, a1], by rw [hu2]; exact a2, by rw [hu2]; exact a3, by rw [hu2]; exact a4⟩
theorem no_else {l : SS} (h : l.ok = true) {te X : List Tok} (ht : kts te = l.tks) (hX : NoElse X) : NoElse (te ++ X) := by
  rcases ss_head (X := X) h ht with rfl | ⟨t, r, e, _, _, h2, _⟩
  · exact hX
  · rw [e]; exact isT_no h2

theorem body_ok (one : List Tok → PR Sm) : ∀ (r : SS), r.ok = true → (∀ op s n l b e (_k : SS) te X, r = r → kts te = stK op s.data.toList n l.tks b.tks e.tks (decide (0 < e.len)) → NoElse X → (Sm.mk op s n l b e) ∈ sms r → one (te ++ X) = .ok ⟨op, s, n, l, b, e⟩ X) →
    ∀ m (acc : List Sm) te tc X, r.len + 1 ≤ m → kts te = r.tks → tc.text = [125] → bodyT one m acc (te ++ tc :: X) = .ok (acc ++ sms r) X
  | .nil, _, _ => fun m acc te tc X hm ht hc => by
    obtain rfl := kts_nil ht
    obtain ⟨m, rfl⟩ : ∃ k, m = k + 1 := ⟨m - 1, by omega⟩
    rw [List.nil_append, bodyT, if_pos (isT_yes hc), want_ok hc, ok_bind, sms, List.append_nil]
  | .cons op s n l b e r, hok, hone => fun m acc te tc X hm ht hc => by
    have hok' := hok
    simp only [SS.ok, Bool.and_eq_true] at hok
    obtain ⟨m, rfl⟩ : ∃ k, m = k + 1 := ⟨m - 1, by omega⟩
    rcases ss_head (X := tc :: X) hok' ht with h0 | ⟨u, z, hu, _, hu2, _, _⟩
    · subst h0
      obtain ⟨t, k, hk, _⟩ := stK_head hok.1.1 (decide (0 < e.len))
      rw [SS.tks, hk] at ht
      cases ht
    · obtain ⟨x1, x2, rfl, hx1, hx2⟩ := kts_split (show kts te = _ ++ r.tks from ht)
      have hne : NoElse (x2 ++ tc :: X) := no_else hok.2 hx2 (isT_no (by rw [hc]; decide))
      have hf : isT (x1 ++ x2 ++ tc :: X) [125] = false := by rw [hu]; exact isT_no hu2
      rw [bodyT, hf]
      simp only [Bool.false_eq_true, if_false]
      rw [List.append_assoc, hone op s n l b e r x1 _ rfl hx1 hne List.mem_cons_self, ok_bind,
        body_ok one r hok.2 (fun op s n l b e k te X h1 h2 h3 h4 => hone op s n l b e k te X rfl h2 h3 (List.mem_cons_of_mem _ h4)) m (acc ++ [Sm.mk op s n l b e]) x2 tc X (by simp only [SS.len] at hm; omega) hx2 hc, sms]
      simp
theorem sok_mem {N : Nat} : ∀ {r : SS}, r.sokN N → ∀ op s n l b e, (Sm.mk op s n l b e) ∈ sms r → StAt N ⟨op, s, n, l, b, e⟩ (stK op s.data.toList n l.tks b.tks e.tks (decide (0 < e.len))) r.dn
  | .nil, _, _, _, _, _, _, _, h => by simp [sms] at h
  | .cons op' s' n' l' b' e' r, ⟨h1, h2⟩, op, s, n, l, b, e, h => by
    rcases List.mem_cons.1 h with h | h
    · injection h with a1 a2 a3 a4 a5 a6
      subst a1 a2 a3 a4 a5 a6
      intro k o te X hk ho
      exact h1 k o te X hk (by simp only [SS.dn] at ho; omega)
    · intro k o te X hk ho
      exact sok_mem h2 op s n l b e h k o te X hk (by simp only [SS.dn] at ho; omega)
/-- A block. -/
theorem block_ok' {N : Nat} {b : SS} (hok : b.ok = true) (hb : b.sokN N) (n m o : Nat) (te X : List Tok) (hn : N ≤ n) (hm : b.len + 1 ≤ m) (ho : o + 1 + b.dn ≤ 256) (ht : kts te = blkK b.tks) : blockT (smT n (o + 1)) m o (te ++ X) = .ok (sms b) X := by
  obtain ⟨t1, y, rfl, _, h1, hy⟩ := kts_cons ht
  obtain ⟨x, z, rfl, hx, hz⟩ := kts_split hy
  obtain ⟨tc, z2, rfl, _, hc, hz2⟩ := kts_cons hz
  obtain rfl := kts_nil hz2
  have e : t1 :: (x ++ [tc]) ++ X = t1 :: (x ++ tc :: X) := by simp
  rw [e, blockT, enter_ok h1 (by omega), ok_bind, body_ok _ b hok (fun op s n' l b' e' _ te X _ h2 h3 h4 => sok_mem hb op s n' l b' e' h4 n (o + 1) te X hn ho h2 h3) m [] x tc X hm hx hc, List.nil_append]

theorem tell_ok {e : Ex} {k : List TK} {d : Nat} (h : EOK e k d) (op : Int) : ∃ N, ∀ n o te X, N ≤ n → o + d ≤ 256 → kts te = k → Aft X → (opT (hdT X).text).2 = 0 → tellT n op o (te ++ X) = .ok ⟨op, nilS, 0, toES e .nil, .nil, .nil⟩ X := by
  obtain ⟨N, h⟩ := h
  exact ⟨N, fun n o te X hn ho ht hX hq => by rw [tellT, h n 1 o te X hn ho ht hX (by rw [hq]; decide), ok_bind]⟩
theorem semi_ok {x : PR Sm} {t : Sm} {u : Tok} {X : List Tok} (h : x = .ok t (u :: X)) (hu : u.text = [59]) : semiT x = .ok t X := by
  rw [semiT, h, ok_bind, want_ok hu, ok_bind]
theorem ss_nil {l : SS} (h : l.len = 0) : l = .nil := by
  cases l with
  | nil => rfl
  | cons _ _ _ _ _ _ _ => simp only [SS.len] at h; omega
theorem after59 {t : Tok} {X : List Tok} (h : t.text = [59]) : Aft (t :: X) ∧ (opT (hdT (t :: X)).text).2 = 0 := ⟨aft_of h (by decide) (by decide), by show (opT t.text).2 = 0; rw [h]; decide⟩
theorem after93 {t : Tok} {X : List Tok} (h : t.text = [93]) : Aft (t :: X) ∧ (opT (hdT (t :: X)).text).2 = 0 := ⟨aft_of h (by decide) (by decide), by show (opT t.text).2 = 0; rw [h]; decide⟩
theorem after123 {t : Tok} {X : List Tok} (h : t.text = [123]) : Aft (t :: X) ∧ (opT (hdT (t :: X)).text).2 = 0 := ⟨aft_of h (by decide) (by decide), by show (opT t.text).2 = 0; rw [h]; decide⟩
theorem sm_store {n o : Nat} {t : Tok} {X : List Tok} {s : ByteArray} (h : t.text = s.data.toList) (hs : nameB s = true) : smT (n + 1) o (t :: X) = semiT (storeT (n + 1) o (t :: X)) := by
  have k : ∀ L, nameB (baT L) = false → isT (t :: X) L = false := fun L hL => isT_no (by rw [h]; exact name_ne hs hL)
  rw [smT, k _ (by decide), k _ (by decide), k _ (by decide), k _ (by decide), k _ (by decide), k _ (by decide), k _ (by decide)]
  rfl
theorem int_nought {n : Int} (a : (0 : Int) ≤ n) (b : n ≤ (0 : Int)) : n = 0 := by omega

theorem st_tell {m : Nat} (hm : m = 5 ∨ m = 6 ∨ m = 9) {kw : List UInt8} (hkw : ∀ (q o : Nat) (t : Tok) (X : List Tok), t.text = kw → smT (q + 1) o (t :: X) = semiT (tellT (q + 1) (m : Int) o X)) {s : ByteArray} {n : Int} {l : ES} {x y : SS}
    (hst : ∀ ts b e ne, stK (m : Int) s.data.toList n ts b e ne = (1, kw) :: (hdK ts ++ [(3, [59])])) (h : fitP ⟨true, (m : Int), s, n, l, x, y⟩ = true) (hl : l.sok) (d : Nat) (hd : l.dn ≤ d) : ∃ N, StAt N ⟨(m : Int), s, n, l, x, y⟩ (stK (m : Int) s.data.toList n l.tks x.tks y.tks (decide (0 < y.len))) d := by
  obtain ⟨m', hm', _, _, hn, hlo, hhi, hle, hmo, hx, hy⟩ := fit_st h
  obtain rfl : m = m' := by omega
  have tab : (stmtT.getD m sh0).name = false ∧ (stmtT.getD m sh0).low = 0 ∧ (stmtT.getD m sh0).high = 0 ∧ (stmtT.getD m sh0).least = 1 ∧ (stmtT.getD m sh0).most = 1 ∧ (stmtT.getD m sh0).body = false ∧ (stmtT.getD m sh0).other = false := by
    rcases hm with rfl | rfl | rfl <;> decide
  obtain ⟨a1, a2, a3, a4, a5, a6, a7⟩ := tab
  rw [a1] at hn
  rw [a2] at hlo
  rw [a3] at hhi
  rw [a4] at hle
  rw [a5] at hmo
  rw [a6] at hx
  rw [a7] at hy
  obtain rfl := named_nil hn
  obtain rfl := int_nought hlo hhi
  obtain rfl := ss_nil (hx.resolve_left (by decide))
  obtain rfl := ss_nil (hy.resolve_left (by decide))
  obtain ⟨a, b, c, e, rfl⟩ := es_one hle hmo
  obtain ⟨N, f⟩ := tell_ok hl.1.e (m : Int)
  refine ⟨N + 1, fun q o te X hq ho ht _ => ?_⟩
  rw [hst] at ht
  obtain ⟨t, z, rfl, _, htx, hz⟩ := kts_cons ht
  obtain ⟨x1, z1, rfl, hx1, hz1⟩ := kts_split (show kts z = exK a b c.data.toList e.tks ++ [(3, [59])] from hz)
  obtain ⟨u, z2, rfl, _, hu, hz2⟩ := kts_cons hz1
  obtain rfl := kts_nil hz2
  obtain ⟨q, rfl⟩ : ∃ k, q = k + 1 := ⟨q - 1, by omega⟩
  simp only at htx hu
  simp only [ES.dn] at hd
  have e1 : t :: (x1 ++ [u]) ++ X = t :: (x1 ++ u :: X) := by simp
  rw [e1, hkw q o t _ htx]
  exact semi_ok (f (q + 1) o x1 (u :: X) (by omega) (by omega) hx1 (after59 hu).1 (after59 hu).2) hu
end Go.Proofs.YtppagjhmlgkamaaGreatDoor
