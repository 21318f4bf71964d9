/-
  ParseFuncs, plain: the texts, and what Parse tells of them.
-/
import Derived.Test.YtmpdnikabkandaaPq5
import Derived.Test.YtmpdnikabkandaaPgNm
import Derived.Test.YtmpdnikabkandaaPdEm
namespace Go.Proofs.Ytmpdnikabkandaa
open Go Go.RowKit

/-- So many parameters; a function; so many arguments. -/
def parL : Nat → List UInt8
  | 0 => []
  | k + 1 => parL k ++ (if 0 < k then [44] else []) ++ [112] ++ dg k
def fnC (i m : Nat) : List UInt8 := [102, 117, 110, 99, 32, 102] ++ dg i ++ [40] ++ parL m ++ [41, 123]
def argL : Nat → List UInt8
  | 0 => []
  | k + 1 => argL k ++ (if 0 < k then [44] else []) ++ [49]
def mainC (a : Nat) : List UInt8 := [107, 101, 101, 112, 32, 103, 40] ++ argL a ++ [41, 59]
/-- Functions one behind the other, from a number on. -/
def fnsL (m : Nat) : Nat → Nat → List UInt8
  | _, 0 => []
  | i, c + 1 => fnC i m ++ [125] ++ fnsL m (i + 1) c
def txL (n m a : Nat) : List UInt8 := fnsL m 0 n ++ mainC a
theorem fnsL_snoc (m : Nat) : ∀ c i, fnsL m i (c + 1) = fnsL m i c ++ (fnC (i + c) m ++ [125])
  | 0, i => by simp [fnsL]
  | c + 1, i => by
    rw [fnsL, fnsL_snoc m c (i + 1), fnsL, show i + 1 + c = i + (c + 1) by omega]
    simp
theorem fnsL_app (m : Nat) : ∀ c d i, fnsL m i (c + d) = fnsL m i c ++ fnsL m (i + c) d
  | 0, d, i => by rw [Nat.zero_add]; rfl
  | c + 1, d, i => by
    rw [show c + 1 + d = (c + d) + 1 by omega, fnsL, fnsL_app m c d (i + 1), fnsL, show i + 1 + c = i + (c + 1) by omega]
    simp

def toksOf (l : List UInt8) : List Tok := match lexF l.length 0 l with | .ok ts => ts | .bad _ => []
def lexOk (l : List UInt8) : Bool := match lexF l.length 0 l with | .ok _ => true | .bad _ => false
theorem lex_toks {l : List UInt8} (h : lexOk l = true) : lexS 0 l = .ok (toksOf l) := by
  unfold lexOk toksOf at *
  rw [lexS_eq l.length 0 l (Nat.le_refl _)]
  cases hx : lexF l.length 0 l with
  | ok ts => rfl
  | bad p => rw [hx] at h; cases h
/-- A function whose bytes are fnC and a shutting bracket: read whole. -/
def chkFn (i m : Nat) : Bool :=
  lexOk (fnC i m) && (fnC i m).all (fun c => c != 35) &&
  (match funcT ((toksOf (fnC i m)).length + 3) (toksOf (fnC i m) ++ [⟨3, [125], (fnC i m).length⟩, ⟨4, [], (fnC i m).length + 1⟩]) with
    | .ok _ r => r.length == 1
    | _ => false) && isT (toksOf (fnC i m)) [102, 117, 110, 99] && (hdT (toksOf (fnC i m))).at_ == 0
theorem chkFn_all : ∀ i : Fin 41, ∀ m : Fin 9, chkFn i.val m.val = true := by decide +kernel
theorem chkFn_lex : ∀ i : Fin 41, ∀ m : Fin 13, (lexOk (fnC i.val m.val) && (fnC i.val m.val).all (fun c => c != 35) && isT (toksOf (fnC i.val m.val)) [102, 117, 110, 99] && (hdT (toksOf (fnC i.val m.val))).at_ == 0) = true := by decide +kernel
def chkMain (a : Nat) : Bool :=
  lexOk (mainC a) && isT (toksOf (mainC a)) [107, 101, 101, 112] &&
  match mainT ((toksOf (mainC a)).length + 2) ((toksOf (mainC a)).length + 2) [] (fin (toksOf (mainC a)) (mainC a).length) with
    | .ok [⟨_, _, _, .cons _ _ _ l .nil, _, _⟩] _ => decide (a ≤ 8) && l.len == a
    | .bad p c => decide (8 < a) && c == 10 && p == 7 + (argL 8).length + 1
    | _ => false
theorem chkMain_all : ∀ a : Fin 13, chkMain a.val = true := by decide +kernel
def fnT (d i m : Nat) : List Tok := (toksOf (fnC i m)).map (Tok.far d) ++ [⟨3, [125], (fnC i m).length + d⟩]
def fnsT (m : Nat) : Nat → Nat → Nat → List Tok
  | _, _, 0 => []
  | d, i, c + 1 => fnT d i m ++ fnsT m (d + (fnC i m).length + 1) (i + 1) c
theorem lex_125 (p : Nat) (r : List UInt8) : lexS p (125 :: r) = (lexS (p + 1) r).cons ⟨3, [125], p⟩ := lex_mark (by decide) (by decide) (by decide) (by decide) (by decide) (by decide) p r
theorem parted_125 (z : List UInt8) : Parted (125 :: z) := ⟨125, z, rfl, by decide, by decide⟩
theorem fn_facts {i m : Nat} (hi : i < 41) (hm : m < 13) : lexS 0 (fnC i m) = .ok (toksOf (fnC i m)) ∧ (∀ c ∈ fnC i m, c ≠ 35) ∧ isT (toksOf (fnC i m)) [102, 117, 110, 99] = true ∧ (hdT (toksOf (fnC i m))).at_ = 0 := by
  have h := chkFn_lex ⟨i, hi⟩ ⟨m, hm⟩
  simp only [Bool.and_eq_true, List.all_eq_true, bne_iff_ne, beq_iff_eq] at h
  exact ⟨lex_toks h.1.1.1, h.1.1.2, h.1.2, h.2⟩
theorem lex_fn {i m : Nat} (hi : i < 41) (hm : m < 13) (d : Nat) (z : List UInt8) : lexS d (fnC i m ++ 125 :: z) = (lexS (d + (fnC i m).length + 1) z).app (fnT d i m) := by
  obtain ⟨h1, h2, _, _⟩ := fn_facts hi hm
  have h3 : lexS d (fnC i m) = .ok ((toksOf (fnC i m)).map (Tok.far d)) := by
    have := lexS_far d (fnC i m).length 0 (fnC i m) (Nat.le_refl _)
    rw [Nat.zero_add, h1] at this
    exact this
  rw [lexS_app (fnC i m).length d (fnC i m) (125 :: z) _ (Nat.le_refl _) h3 (parted_125 z) (.inr (.inr h2)), lex_125]
  unfold fnT
  rw [Nat.add_comm (fnC i m).length d]
  cases lexS (d + (fnC i m).length + 1) z <;> simp [Res.cons, Res.app]
theorem app_app (a b : List Tok) (r : Res) : (r.app b).app a = r.app (a ++ b) := by cases r <;> simp [Res.app]
theorem lex_fns {m : Nat} (hm : m < 13) : ∀ c i d z, i + c ≤ 41 → lexS d (fnsL m i c ++ z) = (lexS (d + (fnsL m i c).length) z).app (fnsT m d i c)
  | 0, i, d, z, _ => by
    show lexS d z = _
    cases h : lexS d z <;> simp [fnsL, fnsT, Res.app, h]
  | c + 1, i, d, z, hc => by
    have e : fnsL m i (c + 1) ++ z = fnC i m ++ 125 :: (fnsL m (i + 1) c ++ z) := by rw [fnsL]; simp
    rw [e, lex_fn (by omega) hm, lex_fns hm c (i + 1) _ z (by omega), app_app, fnsT]
    have e2 : (fnsL m i (c + 1)).length = (fnC i m).length + 1 + (fnsL m (i + 1) c).length := by rw [fnsL]; simp; omega
    rw [e2, show d + ((fnC i m).length + 1 + (fnsL m (i + 1) c).length) = d + (fnC i m).length + 1 + (fnsL m (i + 1) c).length by omega]
theorem main_facts {a : Nat} (ha : a < 13) : lexS 0 (mainC a) = .ok (toksOf (mainC a)) ∧ isT (toksOf (mainC a)) [107, 101, 101, 112] = true := by
  have h := chkMain_all ⟨a, ha⟩
  unfold chkMain at h
  simp only [Bool.and_eq_true] at h
  exact ⟨lex_toks h.1.1, h.1.2⟩
theorem tx_toks {n m a : Nat} (hn : n < 41) (hm : m < 13) (ha : a < 13) : lexS 0 (txL n m a) = .ok (fnsT m 0 0 n ++ (toksOf (mainC a)).map (Tok.far (fnsL m 0 n).length)) := by
  unfold txL
  have h3 : lexS (fnsL m 0 n).length (mainC a) = .ok ((toksOf (mainC a)).map (Tok.far (fnsL m 0 n).length)) := by
    have := lexS_far (fnsL m 0 n).length (mainC a).length 0 (mainC a) (Nat.le_refl _)
    rw [Nat.zero_add, (main_facts ha).1] at this
    exact this
  rw [lex_fns hm n 0 0 (mainC a) (by omega), Nat.zero_add, h3]
  rfl
theorem isT_app {ts us : List Tok} {s : List UInt8} (h : isT ts s = true) (hs : s ≠ []) : hdT (ts ++ us) = hdT ts := by
  cases ts with
  | nil => exact absurd (of_decide_eq_true h).symm hs
  | cons t r => rfl
theorem hd_far {ts : List Tok} {d : Nat} {s : List UInt8} (h : isT ts s = true) (hs : s ≠ []) : hdT (ts.map (Tok.far d)) = (hdT ts).far d := by
  cases ts with
  | nil => exact absurd (of_decide_eq_true h).symm hs
  | cons t r => rfl
theorem fnT_head {i m : Nat} (hi : i < 41) (hm : m < 13) (d : Nat) (U : List Tok) : (hdT (fnT d i m ++ U)).text = [102, 117, 110, 99] ∧ (hdT (fnT d i m ++ U)).at_ = d := by
  obtain ⟨_, _, h3, h4⟩ := fn_facts hi hm
  have e : hdT (fnT d i m ++ U) = (hdT (toksOf (fnC i m))).far d := by
    unfold fnT
    rw [List.append_assoc]
    have h5 : isT ((toksOf (fnC i m)).map (Tok.far d)) [102, 117, 110, 99] = true := by
      unfold isT
      rw [hd_far h3 (by decide)]
      exact h3
    rw [isT_app h5 (by decide), hd_far h3 (by decide)]
  rw [e]
  exact ⟨of_decide_eq_true h3, by show (hdT (toksOf (fnC i m))).at_ + d = d; omega⟩
theorem fn_step {i m d N : Nat} {U : List Tok} (hi : i < 41) (hm : m < 9) (hU : isT U [101, 108, 115, 101] = false) (hN : (fnT d i m ++ U).length ≤ N) : ∃ f, funcT N (fnT d i m ++ U) = .ok f U := by
  have h := chkFn_all ⟨i, hi⟩ ⟨m, hm⟩
  unfold chkFn at h
  simp only [Bool.and_eq_true] at h
  have h := h.1.1.2
  obtain ⟨f1, f2, _, _⟩ := fn_facts hi (show m < 13 by omega)
  obtain ⟨E, hE⟩ : ∃ E, (fnC i m).length + 1 = E := ⟨_, rfl⟩
  obtain ⟨ts, hts⟩ : ∃ ts, toksOf (fnC i m) ++ [⟨3, [125], (fnC i m).length⟩] = ts := ⟨_, rfl⟩
  have hfin : toksOf (fnC i m) ++ [⟨3, [125], (fnC i m).length⟩, ⟨4, [], (fnC i m).length + 1⟩] = fin ts E := by rw [← hts, ← hE]; unfold fin; simp
  rw [hfin] at h
  have hk : ∀ t ∈ ts, t.kind ≠ 4 := fun t ht => by
    rw [← hts] at ht
    rcases List.mem_append.1 ht with ht | ht
    · exact kinds_ne f1 t ht
    · rw [List.mem_singleton.1 ht]; exact (by decide : (3 : Nat) ≠ 4)
  have hmap : ts.map (Tok.far d) = fnT d i m := by rw [← hts]; unfold fnT; simp [Tok.far]
  have hk2 : ∀ t ∈ ts.map (Tok.far d), t.kind ≠ 4 := fun t ht => by
    obtain ⟨t', h1, rfl⟩ := List.mem_map.1 ht
    exact hk t' h1
  cases hx : funcT ((toksOf (fnC i m)).length + 3) (fin ts E) with
  | out => rw [hx] at h; cases h
  | bad p c => rw [hx] at h; cases h
  | ok f r =>
    rw [hx] at h
    have hr : r.length = 1 := by simpa using h
    obtain ⟨K, hK⟩ : ∃ K, (fin (ts.map (Tok.far d)) (E + d)).length = K := ⟨_, rfl⟩
    have hs := func_al ((toksOf (fnC i m)).length + 3) K (al_far d E ts hk)
    rw [hx] at hs
    have hne : funcT K (fin (ts.map (Tok.far d)) (E + d)) ≠ .out := Fn'.ne (func_fn K _ (by omega))
    have hb := func_by hU K N (be_app (E := E + d) (U := U) (ts.map (Tok.far d)) hk2)
    cases hy : funcT K (fin (ts.map (Tok.far d)) (E + d)) with
    | out => exact absurd hy hne
    | bad p c => rw [hy] at hs; exact hs.elim
    | ok f' r2 =>
      rw [hy] at hs hb
      obtain ⟨rfl, hal⟩ := hs
      have hr2 : r2.length = 1 := by
        have : ∀ {a b : List Tok}, Al (fun p q => q = p + d) a b → a.length = b.length := by
          intro a b h
          induction h with
          | fin => rfl
          | cons _ _ _ _ _ _ _ _ _ ih => simp [ih]
        rw [← this hal]; exact hr
      rw [hmap] at hb
      have hne2 : funcT N (fnT d i m ++ U) ≠ .out := Fn'.ne (func_fn N _ hN)
      rcases hb with hb | ⟨r', hb, hbe⟩
      · exact absurd hb hne2
      · cases hbe with
        | fin => exact ⟨f, hb⟩
        | cons k s p ts us hk h1 =>
          cases h1 with
          | fin => simp at hr2
          | cons => simp at hr2
theorem else_no {_t : Tok} {U : List Tok} {s : List UInt8} (h : (hdT U).text = s) (hs : s ≠ [101, 108, 115, 101]) : isT U [101, 108, 115, 101] = false := by
  unfold isT
  rw [h]
  exact decide_eq_false hs
theorem fns_step {m N : Nat} {U : List Tok} (hU : isT U [101, 108, 115, 101] = false) : ∀ c i d M (l : List Fn), (c = 0 ∨ m < 9) → i + c ≤ 41 → l.length + c ≤ 32 → c + 1 ≤ M → (fnsT m d i c ++ U).length ≤ N →
    ∃ fs k, fs.length = c ∧ M = k + 1 + c ∧ funcsT N M l (fnsT m d i c ++ U) = funcsT N (k + 1) (l ++ fs) U
  | 0, i, d, M, l, _, _, _, hM, _ => ⟨[], M - 1, rfl, by omega, by rw [List.append_nil, show M - 1 + 1 = M by omega]; rfl⟩
  | c + 1, i, d, M, l, hm, hi, hl, hM, hN => by
    have hm : m < 9 := hm.resolve_left (by omega)
    obtain ⟨M, rfl⟩ : ∃ k, M = k + 1 := ⟨M - 1, by omega⟩
    have hV : isT (fnsT m (d + (fnC i m).length + 1) (i + 1) c ++ U) [101, 108, 115, 101] = false := by
      cases c with
      | zero => exact hU
      | succ c =>
        rw [fnsT, List.append_assoc]
        exact else_no (_t := ⟨0, [], 0⟩) (fnT_head (by omega) (by omega) _ _).1 (by decide)
    rw [fnsT, List.append_assoc] at hN ⊢
    obtain ⟨f, hf⟩ := fn_step (N := N) (by omega) hm hV hN
    have hh := fnT_head (i := i) (m := m) (by omega) (by omega) d (fnsT m (d + (fnC i m).length + 1) (i + 1) c ++ U)
    have hi2 : isT (fnT d i m ++ (fnsT m (d + (fnC i m).length + 1) (i + 1) c ++ U)) [102, 117, 110, 99] = true := by unfold isT; rw [hh.1]; rfl
    rw [funcsT, if_pos hi2, if_neg (by omega), hf, ok_bind]
    obtain ⟨fs, k, h1, h2, h3⟩ := fns_step (N := N) hU c (i + 1) (d + (fnC i m).length + 1) M (l ++ [f]) (.inr hm) (by omega) (by simp; omega) (by omega) (by rw [List.length_append] at hN; omega)
    exact ⟨f :: fs, k, by simp [h1], by omega, by rw [h3, List.append_assoc]; rfl⟩
theorem main_head {a D L : Nat} (ha : a < 13) : (hdT (fin ((toksOf (mainC a)).map (Tok.far D)) L)).text = [107, 101, 101, 112] := by
  have h := (main_facts ha).2
  have h5 : isT ((toksOf (mainC a)).map (Tok.far D)) [107, 101, 101, 112] = true := by
    unfold isT
    rw [hd_far h (by decide)]
    exact h
  unfold fin
  rw [isT_app h5 (by decide), hd_far h (by decide)]
  exact of_decide_eq_true h
/-- What Parse tells of the functions and the main. -/
theorem funcs_some {n m a : Nat} (hn : n ≤ 32) (hm : m < 13) (hnm : n = 0 ∨ m < 9) (ha : a < 13) :
    (a ≤ 8 ∧ ∃ fs op s k op2 k2 s2 l x y r, fs.length = n ∧ l.len = a ∧ tl (txL n m a) = .ok ⟨fs, .cons op s k (.cons op2 k2 s2 l .nil) x y .nil⟩ r) ∨ (8 < a ∧ tl (txL n m a) = .bad ((fnsL m 0 n).length + (7 + (argL 8).length + 1)) 10) := by
  obtain ⟨D, hD⟩ : ∃ D, (fnsL m 0 n).length = D := ⟨_, rfl⟩
  have h1 := tl_of (tx_toks (n := n) (m := m) (a := a) (by omega) hm ha)
  have hL : (txL n m a).length = (mainC a).length + D := by unfold txL; rw [List.length_append, hD]; omega
  rw [hD, fin_app, hL] at h1
  obtain ⟨U, hUd⟩ : ∃ U, fin ((toksOf (mainC a)).map (Tok.far D)) ((mainC a).length + D) = U := ⟨_, rfl⟩
  have hUh : (hdT U).text = [107, 101, 101, 112] := by rw [← hUd]; exact main_head ha
  obtain ⟨N, hNd⟩ : ∃ N, (fnsT m 0 0 n ++ (toksOf (mainC a)).map (Tok.far D)).length + 2 = N := ⟨_, rfl⟩
  have hNl : (fnsT m 0 0 n ++ U).length < N := by rw [← hNd, ← hUd]; simp [fin]; omega
  have hUl : U.length < N := by rw [List.length_append] at hNl; omega
  have hn1 : n + 1 ≤ N := by
    have : ∀ c i d, c ≤ (fnsT m d i c).length := by
      intro c
      induction c with
      | zero => intro i d; simp
      | succ c ih => intro i d; have := ih (i + 1) (d + (fnC i m).length + 1); rw [fnsT, List.length_append]; unfold fnT; simp; omega
    have := this n 0 0
    rw [List.length_append] at hNl
    omega
  rw [hUd, hNd] at h1
  obtain ⟨fs, k, e1, e2, e3⟩ := fns_step (m := m) (N := N) (U := U) (else_no (_t := ⟨0, [], 0⟩) hUh (by decide)) n 0 0 N [] hnm (by omega) (by simpa using hn) hn1 (by omega)
  have e4 : funcsT N (k + 1) ([] ++ fs) U = .ok fs U := by
    rw [funcsT, if_neg (by unfold isT; rw [hUh]; decide)]; rfl
  unfold progT at h1
  rw [e3, e4, ok_bind] at h1
  have h := chkMain_all ⟨a, ha⟩
  unfold chkMain at h
  simp only [Bool.and_eq_true] at h
  have h := h.2
  have hs := main_al ((toksOf (mainC a)).length + 2) N ((toksOf (mainC a)).length + 2) N [] _ _ (al_far D (mainC a).length (toksOf (mainC a)) (kinds_ne (main_facts ha).1))
  rw [hUd] at hs
  have hne := tl_ne (txL n m a)
  cases hx : mainT ((toksOf (mainC a)).length + 2) ((toksOf (mainC a)).length + 2) [] (fin (toksOf (mainC a)) (mainC a).length) with
  | out => rw [hx] at h; cases h
  | bad p c =>
    rw [hx] at h hs
    simp only [Bool.and_eq_true, decide_eq_true_eq, beq_iff_eq] at h
    cases hy : mainT N N [] U with
    | out => rw [h1, hy] at hne; exact absurd rfl hne
    | ok v r => rw [hy] at hs; exact hs.elim
    | bad q c' =>
      rw [hy] at hs
      obtain ⟨hq, hc⟩ := hs
      refine .inr ⟨h.1.1, ?_⟩
      rw [h1, hy, ← hc, h.1.2, hq, h.2, Nat.add_comm, hD]
      rfl
  | ok v r =>
    rw [hx] at h hs
    cases hy : mainT N N [] U with
    | out => rw [h1, hy] at hne; exact absurd rfl hne
    | bad q c => rw [hy] at hs; exact hs.elim
    | ok v' r' =>
      rw [hy] at hs
      obtain ⟨rfl, _⟩ := hs
      rw [hy, ok_bind] at h1
      split at h
      · rename_i o1 s1 k1 o2 k2 s2 l x y r0 heq
        injection heq with heq _
        subst heq
        simp only [Bool.and_eq_true, decide_eq_true_eq, beq_iff_eq] at h
        exact .inl ⟨h.1, fs, _, _, _, _, _, _, l, _, _, _, e1, h.2, h1⟩
      · rename_i heq; cases heq
      · cases h
theorem funcs_many {n m a : Nat} (hn : 32 < n) (hn2 : n < 41) (hm : m < 9) (ha : a < 13) : tl (txL n m a) = .bad (fnsL m 0 32).length 10 := by
  obtain ⟨c, rfl⟩ : ∃ c, n = 32 + (c + 1) := ⟨n - 33, by omega⟩
  have h1 := tl_of (tx_toks (n := 32 + (c + 1)) (m := m) (a := a) hn2 (by omega) ha)
  obtain ⟨W, hW⟩ : ∃ W, fin ((toksOf (mainC a)).map (Tok.far (fnsL m 0 (32 + (c + 1))).length)) (txL (32 + (c + 1)) m a).length = W := ⟨_, rfl⟩
  have hsp : ∀ b e i d, fnsT m d i (b + e) = fnsT m d i b ++ fnsT m (d + (fnsL m i b).length) (i + b) e := by
    intro b
    induction b with
    | zero => intro e i d; rw [Nat.zero_add]; rfl
    | succ b ih =>
      intro e i d
      rw [show b + 1 + e = (b + e) + 1 by omega, fnsT, ih, fnsT, List.append_assoc, fnsL]
      congr 2
      congr 1
      · simp; omega
      · omega
  rw [fin_app, hW, hsp 32 (c + 1) 0 0, List.append_assoc, List.append_assoc] at h1
  obtain ⟨d, hd⟩ : ∃ d, (fnsL m 0 32).length = d := ⟨_, rfl⟩
  rw [Nat.zero_add, Nat.zero_add, hd] at h1
  obtain ⟨N, hNd⟩ : ∃ N, (fnsT m 0 0 32 ++ (fnsT m d 32 (c + 1) ++ (toksOf (mainC a)).map (Tok.far (fnsL m 0 (32 + (c + 1))).length))).length + 2 = N := ⟨_, rfl⟩
  have hlen : (fnsT m 0 0 32 ++ (fnsT m d 32 (c + 1) ++ W)).length < N := by
    rw [← hNd, ← hW]
    simp [fin]
    omega
  have hU := else_no (_t := ⟨0, [], 0⟩) (U := fnsT m d 32 (c + 1) ++ W) (s := [102, 117, 110, 99]) (by rw [fnsT, List.append_assoc]; exact (fnT_head (by omega) (by omega) _ _).1) (by decide)
  have h33 : 33 ≤ N := by
    have : ∀ c i d, c ≤ (fnsT m d i c).length := by
      intro c
      induction c with
      | zero => intro i d; simp
      | succ c ih => intro i d; have := ih (i + 1) (d + (fnC i m).length + 1); rw [fnsT, List.length_append]; unfold fnT; simp; omega
    have := this 32 0 0
    rw [List.length_append] at hlen
    omega
  obtain ⟨fs, k, e1, e2, e3⟩ := fns_step (m := m) (N := N) hU 32 0 0 N [] (.inr hm) (by omega) (by simp) h33 (by omega)
  rw [hNd] at h1
  unfold progT at h1
  have e4 : funcsT N (k + 1) ([] ++ fs) (fnsT m d 32 (c + 1) ++ W) = .bad d 10 := by
    have hh := fnT_head (i := 32) (m := m) (by omega) (by omega) d (fnsT m (d + (fnC 32 m).length + 1) 33 c ++ W)
    rw [fnsT, List.append_assoc, funcsT, if_pos (by unfold isT; rw [hh.1]; rfl), if_pos (by rw [List.nil_append]; exact e1), hh.2]
  rw [e3, e4] at h1
  rw [h1, hd]
  rfl
def b0 : List UInt8 := [102, 117, 110, 99, 32, 102] ++ dg 0 ++ [40] ++ parL 9
theorem b0_is : ∀ m : Fin 4, ∃ c z, fnC 0 (9 + m.val) = b0 ++ c :: z ∧ (c = 41 ∨ c = 44) := by
  intro m
  have h : m = 0 ∨ m = 1 ∨ m = 2 ∨ m = 3 := by omega
  rcases h with rfl | rfl | rfl | rfl
  · exact ⟨_, _, rfl, by decide⟩
  · exact ⟨_, _, rfl, by decide⟩
  · exact ⟨_, _, rfl, by decide⟩
  · exact ⟨_, _, rfl, by decide⟩
theorem b0_lex : lexOk b0 = true ∧ b0.all (fun c => c != 35) = true := by decide +kernel
theorem b0_bad : (match progT ((toksOf b0).length + 2) (fin (toksOf b0) b0.length) with | .bad p c => p == 32 && c == 10 && b0.length == 34 | _ => false) = true := by decide +kernel
theorem funcs_par {n m a : Nat} (hn : 1 ≤ n) (hn2 : n < 41) (hm : 8 < m) (hm2 : m < 13) (ha : a < 13) : tl (txL n m a) = .bad 32 10 := by
  obtain ⟨k, rfl⟩ : ∃ k, m = 9 + k := ⟨m - 9, by omega⟩
  obtain ⟨j, rfl⟩ : ∃ j, n = j + 1 := ⟨n - 1, by omega⟩
  obtain ⟨c, z, e, hc⟩ := b0_is ⟨k, by omega⟩
  have e : fnC 0 (9 + k) = b0 ++ c :: z := e
  have ht := tx_toks (n := j + 1) (m := 9 + k) (a := a) hn2 hm2 ha
  obtain ⟨TS, hTS⟩ : ∃ TS, fnsT (9 + k) 0 0 (j + 1) ++ (toksOf (mainC a)).map (Tok.far (fnsL (9 + k) 0 (j + 1)).length) = TS := ⟨_, rfl⟩
  rw [hTS] at ht
  have e2 : txL (j + 1) (9 + k) a = b0 ++ c :: (z ++ 125 :: (fnsL (9 + k) 1 j ++ mainC a)) := by
    unfold txL
    rw [fnsL, e]
    simp
  obtain ⟨Z, hZ⟩ : ∃ Z, z ++ 125 :: (fnsL (9 + k) 1 j ++ mainC a) = Z := ⟨_, rfl⟩
  rw [hZ] at e2
  have hb := lex_toks b0_lex.1
  have hp : Parted (c :: Z) := by rcases hc with rfl | rfl <;> exact ⟨_, Z, rfl, by decide, by decide⟩
  have happ := lexS_app b0.length 0 b0 (c :: Z) _ (Nat.le_refl _) hb hp (.inr (.inr fun x hx => by have := List.all_eq_true.1 b0_lex.2 x hx; simpa using this))
  rw [← e2, ht] at happ
  cases hz : lexS (0 + b0.length) (c :: Z) with
  | bad q => rw [hz] at happ; cases happ
  | ok us =>
    rw [hz] at happ
    have happ : Res.ok TS = .ok (toksOf b0 ++ us) := happ
    injection happ with happ
    have h1 := tl_of ht
    rw [happ, fin_app] at h1
    have hbe := prog_be ((toksOf b0).length + 2) ((toksOf b0 ++ us).length + 2) (be_app (E := b0.length) (U := fin us (txL (j + 1) (9 + k) a).length) (toksOf b0) (kinds_ne hb))
    rw [← h1] at hbe
    have hbad := b0_bad
    cases hx : progT ((toksOf b0).length + 2) (fin (toksOf b0) b0.length) with
    | out => rw [hx] at hbad; cases hbad
    | ok q r => rw [hx] at hbad; cases hbad
    | bad p c' =>
      rw [hx] at hbad hbe
      simp only [Bool.and_eq_true, beq_iff_eq] at hbad
      obtain ⟨⟨rfl, rfl⟩, h34⟩ := hbad
      rcases hbe with h | h | h | h
      · exact absurd h (tl_ne _)
      · omega
      · omega
      · exact h
end Go.Proofs.Ytmpdnikabkandaa
