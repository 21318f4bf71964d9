/-
  LabelCalls, walked.
-/
import Derived.Test.YthfcnnicpmkclaaLbL
import Derived.Test.YthfcnnicpmkclaaLbU
import Derived.Test.YthfcnnicpmkclaaReg
import Derived.Lib.MinMax
namespace Go.Proofs.Ythfcnnicpmkclaa
open Go Go.RowKit Go.Lib

theorem PsIn.get {W : World} : ∀ {l : List ByteArray} {b o i : Nat} {s : ByteArray}, PsIn W l b o → l[i]? = some s → W.cell? ⟨b, o + i, none⟩ = some (.string s) ∧ s.size ≤ 9223372036854775807
  | [], _, _, _, _, _, h => by simp at h
  | t :: r, b, o, 0, s, ⟨h0, h1, _⟩, h => by
    have : t = s := by simpa using h
    subst this
    exact ⟨h0, h1⟩
  | t :: r, b, o, i + 1, s, ⟨_, _, hr⟩, h => by
    rw [show o + (i + 1) = o + 1 + i by omega]
    exact PsIn.get hr (by simpa using h)
theorem PsIn.take {W : World} : ∀ {l : List ByteArray} {b o : Nat} (n : Nat), PsIn W l b o → PsIn W (l.take n) b o
  | _, _, _, 0, _ => trivial
  | [], _, _, _ + 1, _ => trivial
  | _ :: _, _, _, n + 1, ⟨h0, h1, hr⟩ => ⟨h0, h1, PsIn.take n hr⟩

/-- Variables as expressions. -/
def vars : List ByteArray → ES
  | [] => .nil
  | s :: r => .cons 2 0 s .nil (vars r)
theorem vars_len : ∀ l, (vars l).len = l.length
  | [] => rfl
  | _ :: r => by simp [vars, ES.len, vars_len r]
theorem vars_app : ∀ a b, vars (a ++ b) = (vars a).app (vars b)
  | [], _ => rfl
  | _ :: r, b => by simp [vars, ES.app, vars_app r b]
theorem vars_tells (fs : List Fn) : ∀ l, (vars l).tells fs = false
  | [] => rfl
  | _ :: r => by simp [vars, ES.tells, ownE, vars_tells fs r]
theorem vars_secs : ∀ l, (vars l).secs = l.map greatB
  | [] => rfl
  | _ :: r => by simp [vars, ES.secs, secB, vars_secs r]
theorem vars_thin : ∀ l : List ByteArray, (∀ s ∈ l, s.size ≤ 140737488351232) → (vars l).thin
  | [], _ => trivial
  | s :: r, h => ⟨⟨h s (List.mem_cons_self ..), by simp [ES.len]⟩, trivial, vars_thin r fun t ht => h t (List.mem_cons_of_mem _ ht)⟩
/-- Does a secret come to a public parameter? -/
def badB : List ByteArray → List ByteArray → Bool
  | p :: ps, a :: xs => (greatB a && !greatB p) || badB ps xs
  | _, _ => false
theorem badB_nil (ps : List ByteArray) : badB ps [] = false := by cases ps <;> rfl
theorem into_bad : ∀ (ps xs : List ByteArray) (k : Nat) (pre : List Bool), pre.length = k → intoP (pre ++ xs.map greatB) ps k = badB ps xs
  | [], xs, _, _, _ => by cases xs <;> rfl
  | p :: ps, [], k, pre, h => by
    have e : (pre ++ ([] : List ByteArray).map greatB).getD k false = false := by rw [List.getD_eq_getElem?_getD, List.getElem?_eq_none (by simp; omega)]; rfl
    have hr : ∀ (qs : List ByteArray) (j : Nat), k ≤ j → intoP (pre ++ ([] : List ByteArray).map greatB) qs j = false := by
      intro qs
      induction qs with
      | nil => intro j _; rfl
      | cons q qs ih =>
        intro j hj
        rw [intoP, ih (j + 1) (by omega), List.getD_eq_getElem?_getD, List.getElem?_eq_none (by simp; omega)]
        simp
    rw [hr _ _ (Nat.le_refl _)]
    rfl
  | p :: ps, a :: xs, k, pre, h => by
    have e : (pre ++ (a :: xs).map greatB).getD k false = greatB a := by
      rw [List.getD_eq_getElem?_getD, List.getElem?_append_right (by omega), h]; simp
    rw [intoP, e, badB, Bool.and_comm]
    have := into_bad ps xs (k + 1) (pre ++ [greatB a]) (by simp [h])
    rw [List.append_assoc] at this
    rw [← this]
    rfl
theorem bad_step (ps xs : List ByteArray) (k : Nat) (a : ByteArray) (ha : xs[k]? = some a) : badB (ps.drop k) (xs.drop k) = ((match ps[k]? with | some p => greatB a && !greatB p | none => false) || badB (ps.drop (k + 1)) (xs.drop (k + 1))) := by
  have hk : k < xs.length := (List.getElem?_eq_some_iff.1 ha).1
  have e := (List.getElem?_eq_some_iff.1 ha).2
  rw [List.drop_eq_getElem_cons hk, e]
  by_cases hp : k < ps.length
  · rw [List.drop_eq_getElem_cons hp, badB, List.getElem?_eq_getElem hp]
  · rw [List.drop_eq_nil_of_le (show ps.length ≤ k by omega), List.drop_eq_nil_of_le (show ps.length ≤ k + 1 by omega), List.getElem?_eq_none (by omega)]; simp [badB]

/-- What the round's call holds. -/
structure CallAt (w1 W : World) (ob nb : Nat) (xs : List ByteArray) (vL : Value) (cs : List Value) : Prop where
  box : W.heap[ob]? = some (.cells #[.int .i64 5, .int .i64 0, .string nf, vL] 28)
  own : W.ownsRow nb 28 4 vL xs.length cs
  cells : (vars xs).Cells (fun v l => v = .slice none 0 0 ∧ l = .nil) cs
  low : Below w1.heap.size w1 W
theorem var_cells (s : ByteArray) (hs : s.size ≤ 9223372036854775807) : (vars [s]).Cells (fun v l => v = .slice none 0 0 ∧ l = .nil) [.int .i64 2, .int .i64 0, .string s, .slice none 0 0] :=
  ES.Cells.one ⟨rfl, rfl⟩ ⟨_, _, _, rfl⟩ ⟨by unfold I64; omega, by unfold I64; omega, hs⟩

abbrev keepO (b : Nat) : Obj := .cells #[.int .i64 6, .string no, .int .i64 0, .slice (some ⟨b, 0, none⟩) 1 1, .slice none 0 0, .slice none 0 0] 42
abbrev fpO (v : Value) : Obj := .cells #[.string nf, v, .slice none 0 0] 38
theorem chkK (W : World) (ps xs : List ByteArray) (vp vL : Value) (hp : RowV (PsIn W ps) W.heap.size ps.length vp) (hL : EV W.heap.size W vL (vars xs)) (hs : ∀ s ∈ xs, s.size ≤ 140737488351232) (hl : xs.length ≤ 8) (hps : ps.length ≤ 8) (hps2 : ∀ s ∈ ps, s.size ≤ 140737488351232) :
    Calls Try.prog 11 #[.agg #[.slice (some ⟨W.heap.size, 0, none⟩) 1 1, .slice (some ⟨W.heap.size + 1 + 1, 0, none⟩) 1 1]] (((W.alloc (fpO vp)).alloc (.cells #[.int .i64 5, .int .i64 0, .string nf, vL] 28)).alloc (keepO (W.heap.size + 1))) fun e w' =>
      e = .returned (.int .i64 (if badB ps xs then 5 else 0)) ∧ Below W.heap.size W w' := by
  have n0 := heap_alloc_new W (fpO vp)
  have n1 := heap_alloc_new (W.alloc (fpO vp)) (.cells #[.int .i64 5, .int .i64 0, .string nf, vL] 28)
  have n2 := heap_alloc_new ((W.alloc (fpO vp)).alloc (.cells #[.int .i64 5, .int .i64 0, .string nf, vL] 28)) (keepO (W.heap.size + 1))
  simp only [World.size_alloc] at n1 n2
  have hb : Below W.heap.size W (((W.alloc (fpO vp)).alloc (.cells #[.int .i64 5, .int .i64 0, .string nf, vL] 28)).alloc (keepO (W.heap.size + 1))) := (((Below.refl _ _).alloc (Nat.le_refl _) _).alloc (by simp) _).alloc (by simp only [World.size_alloc]; omega) _
  have hz : (((W.alloc (fpO vp)).alloc (.cells #[.int .i64 5, .int .i64 0, .string nf, vL] 28)).alloc (keepO (W.heap.size + 1))).heap.size = W.heap.size + 1 + 1 + 1 := by simp only [World.size_alloc]
  obtain ⟨W3, hW3⟩ : ∃ W3, ((W.alloc (fpO vp)).alloc (.cells #[.int .i64 5, .int .i64 0, .string nf, vL] 28)).alloc (keepO (W.heap.size + 1)) = W3 := ⟨_, rfl⟩
  have m0 := old_at (o' := keepO (W.heap.size + 1)) (old_at (o' := .cells #[.int .i64 5, .int .i64 0, .string nf, vL] 28) n0)
  have m1 := old_at (o' := keepO (W.heap.size + 1)) n1
  rw [hW3] at m0 m1 n2 hb hz ⊢
  clear hW3 n0 n1
  have hsz := hb.size
  refine (chk W3 _ ⟨[⟨nf, ps, .nil⟩], .cons 6 no 0 (.cons 5 0 nf (vars xs) .nil) .nil .nil .nil⟩ (if badB ps xs then 5 else 0) (pg_v rfl rfl (fv_one (f := ⟨nf, ps, .nil⟩) m0 (RowV.imp hp hsz fun _ _ hb' hq => PsIn.below hb hb' hq) (sv_nil _ _) (by show nf.size ≤ _; decide)) (sv_one n2 (ev_one m1 (EV.below hL hb hsz) (okE_of (by decide) (by decide) (by decide))) (sv_nil _ _) (sv_nil _ _) (okE_of (by decide) (by decide) (by decide)))) ?_ ?_).mono fun e w' hw => ⟨hw.1, hb.trans (hw.2.mono hsz)⟩
  · have h1 : ps.length * 16 ≤ 140737488351232 := by omega
    have h2 : (vars xs).len * 56 ≤ 140737488351232 := by rw [vars_len]; omega
    have h3 := vars_thin xs hs
    have h4 : nf.size ≤ 140737488351232 := by decide
    have h5 : no.size ≤ 140737488351232 := by decide
    refine ⟨⟨by simp, fun f hf => ?_⟩, by simp [SS.len], ⟨h5, by simp [ES.len], by simp [SS.len], by simp [SS.len]⟩, ⟨⟨h4, h2⟩, h3, trivial⟩, trivial, trivial, trivial⟩
    rw [List.mem_singleton] at hf
    subst hf
    exact ⟨h4, h1, hps2, by simp [SS.len], trivial⟩
  · have e : Pg.tells ⟨[⟨nf, ps, .nil⟩], .cons 6 no 0 (.cons 5 0 nf (vars xs) .nil) .nil .nil .nil⟩ = badB ps xs := by
      have h := into_bad ps xs 0 [] rfl
      rw [List.nil_append] at h
      simp [Pg.tells, SS.tells, ES.tells, fsTell, ownS, ownE, vars_tells, vars_secs, findP, h]
    rw [e]
    rfl

set_option maxRecDepth 100000 in
set_option maxHeartbeats 8000000 in
theorem calls_walk (A C : Option Addr) (n cap m ccap : Nat) (ps0 as0 : List ByteArray) (w : World) (hn : ps0.length = n) (hm : as0.length = m) (hp : RowV (PsIn w ps0) w.heap.size n (.slice A n cap)) (ha : RowV (PsIn w as0) w.heap.size m (.slice C m ccap)) (hps0 : ∀ s ∈ ps0, s.size ≤ 140737488351232) (has0 : ∀ s ∈ as0, s.size ≤ 140737488351232)
    (N M : Nat) (hN : min n 8 = N) (hM : min m 8 = M) :
    Calls Try.prog 8 #[.slice A n cap, .slice C m ccap] w fun e w' => e = .returned (.bool true) ∧ Fr w w' := by
  have hmx : Try.prog.follows .mixedOrders = true := by kernel_rfl
  obtain ⟨A1, cap1, e1, hp1, hp2, hprow⟩ := hp
  injection e1 with e2 e3 e4
  subst e2 e4
  clear e3
  have HPROW := Lib.hid hprow; clear hprow
  obtain ⟨C1, ccap1, e1, ha1, ha2, harow⟩ := ha
  injection e1 with e2 e3 e4
  subst e2 e4
  clear e3
  have HAROW := Lib.hid harow; clear harow
  obtain ⟨ps, hps⟩ : ∃ ps, ps0.take N = ps := ⟨_, rfl⟩
  obtain ⟨xs, has⟩ : ∃ xs, as0.take M = xs := ⟨_, rfl⟩
  have lp : ps.length = N := by rw [← hps, List.length_take]; omega
  have la : xs.length = M := by rw [← has, List.length_take]; omega
  have hN8 : N ≤ 8 := by omega
  have hM8 : M ≤ 8 := by omega
  have hNc : N ≤ cap := by omega
  have hMc : M ≤ ccap := by omega
  have hNn : N ≤ n := by omega
  have hMm : M ≤ m := by omega
  have HPR : Hid (0 < N → ∃ b o, A = some ⟨b, o, none⟩ ∧ b < w.heap.size ∧ PsIn w ps b o) := Lib.hid fun h => by
    obtain ⟨b, o, e, hb, hq⟩ := HPROW.out (by omega)
    exact ⟨b, o, e, hb, by rw [← hps]; exact hq.take N⟩
  have HAR : Hid (0 < M → ∃ b o, C = some ⟨b, o, none⟩ ∧ b < w.heap.size ∧ PsIn w xs b o) := Lib.hid fun h => by
    obtain ⟨b, o, e, hb, hq⟩ := HAROW.out (by omega)
    exact ⟨b, o, e, hb, by rw [← has]; exact hq.take M⟩
  have hps2 : ∀ s ∈ ps, s.size ≤ 140737488351232 := fun s h => hps0 s (by rw [← hps] at h; exact List.mem_of_mem_take h)
  have has2 : ∀ s ∈ xs, s.size ≤ 140737488351232 := fun s h => has0 s (by rw [← has] at h; exact List.mem_of_mem_take h)
  have HN := Lib.hid hN
  have HM := Lib.hid hM
  have HP2 := Lib.hid hps2
  have HA2 := Lib.hid has2
  have LP := Lib.hid lp
  have LA := Lib.hid la
  have HS := Lib.hid shown_fr
  clear hps has HPROW HAROW hps0 has0 hn hm hN hM hps2 has2 lp la
  obtain ⟨i0, hi, hz0, hz1, hz2⟩ := info_parts exprInfo
  go_enter Try.func8, Try.ntmps8
  go_upto_region 2 with (go_at_call 10; ((with_reducible refine (HS.out _).mono ?_); rintro e w1 ⟨rfl, hf1⟩))
  go_cut [0] (fun s wx => s = .slice A N cap ∧ wx = w1)
  case first =>
    go_wp2_with fail
    all_goals (go_meet; exact ⟨by have := HN.out; congr 1; omega, rfl⟩)
  case rest =>
    obtain ⟨rfl, rfl⟩ := hcut
    go_upto_region 3 with fail
    go_cut [1] (fun s wx => s = .slice C M ccap ∧ wx = wc)
    case first =>
      go_wp2_with fail
      all_goals (go_meet; exact ⟨by have := HM.out; congr 1; omega, rfl⟩)
    case rest =>
      obtain ⟨rfl, rfl⟩ := hcut
      have F1 := Lib.hid hf1
      clear hf1
      go_wp2
      have fb : Fr w wc := F1.out
      have hz : (wc.alloc (.cells #[.int .i64 5, .int .i64 0, .string nf, .slice none 0 0] 28)).heap.size = wc.heap.size + 1 := by simp
      have hC0 : CallAt wc (wc.alloc (.cells #[.int .i64 5, .int .i64 0, .string nf, .slice none 0 0] 28)) wc.heap.size (wc.heap.size + 1) [] (.slice none 0 0) [] := ⟨heap_alloc_new wc _, ⟨rfl, .inl ⟨rfl, rfl⟩⟩, rfl, (Below.refl _ _).alloc (Nat.le_refl _) _⟩
      have HC0 := Lib.hid hC0
      clear hC0
      go_loopw [7, 8] (fun t i wr => ∃ (k : Nat) (t1 : Bool) (vL : Value) (cs : List Value), i = .int .i64 k ∧ t = .bool t1 ∧ k ≤ M ∧ badB ps xs = (t1 || badB (ps.drop k) (xs.drop k)) ∧ CallAt wc wr wc.heap.size (wc.heap.size + 1) (xs.take k) vL cs) (fun _ i _ => M - (intOf i).toNat)
      case atStart => exact ⟨0, false, _, _, rfl, rfl, Nat.zero_le _, rfl, HC0.out⟩
      case round =>
        obtain ⟨k, t1, vL, cs, rfl, rfl, hk, htold, hcall⟩ := hrel
        have HT := Lib.hid htold; clear htold
        have hlen : (xs.take k).length = k := by rw [List.length_take, LA.out]; omega
        by_cases hkM : k = M
        · subst hkM
          have e1 : xs.take k = xs := by rw [List.take_of_length_le (by rw [LA.out]; exact Nat.le_refl _)]
          have e2 : xs.drop k = [] := List.drop_eq_nil_of_le (by rw [LA.out]; exact Nat.le_refl _)
          rw [e2, badB_nil, Bool.or_false] at HT
          rw [e1] at hcall
          obtain ⟨y0, y1, y2, y3⟩ := box4 hcall.box
          have hlb := lt_heap hcall.box
          have HCALL := Lib.hid hcall
          clear hcall e1 e2 hlen
          have fr2 : Fr w wr := fb.step HCALL.out.low
          have hpv : RowV (PsIn wr ps) wr.heap.size ps.length (.slice A N cap) := by
            refine ⟨A, cap, by rw [LP.out], by rw [LP.out]; exact hNc, hp2, fun h0 => ?_⟩
            obtain ⟨b, o, e, hb, hq⟩ := HPR.out (by rw [← LP.out]; exact h0)
            exact ⟨b, o, e, Nat.lt_of_lt_of_le hb fr2.size, PsIn.below fr2 hb hq⟩
          have hvL : EV wr.heap.size wr vL (vars xs) := own_ev (E := fun v l => v = .slice none 0 0 ∧ l = .nil) HCALL.out.own (fun v l h => by obtain ⟨rfl, rfl⟩ := h; exact ev_nil _ _) HCALL.out.cells (vars_len xs).symm
          have HCK := Lib.hid (chkK wr ps xs (.slice A N cap) vL hpv hvL HA2.out (by rw [LA.out]; exact hM8) (by rw [LP.out]; exact hN8) HP2.out)
          have HF2 := Lib.hid fr2
          obtain ⟨AL, cL, hvLs, _⟩ := own_shape HCALL.out.own
          subst hvLs
          clear hpv hvL fr2 fb
          rw [HT.out] at HCK
          cases t1
          all_goals
            go_wp2_with (go_at_call 11; ((with_reducible refine HCK.out.mono ?_); rintro e w9 ⟨rfl, hb9⟩))
            go_ret
            exact ⟨rfl, HF2.out.step hb9⟩
        · have hkl : k < M := by omega
          obtain ⟨a, ha0⟩ : ∃ a, xs[k]? = some a := ⟨_, List.getElem?_eq_getElem (by rw [LA.out]; exact hkl)⟩
          obtain ⟨b, o, rfl, hb, hq⟩ := HAR.out (by omega)
          obtain ⟨c0, hsz⟩ := hq.get ha0
          have fr2 : Fr w wr := fb.step hcall.low
          have d0 := (fr2.cell (p := ⟨b, o + k, none⟩) hb).trans c0
          have hbc : b < wc.heap.size := Nat.lt_of_lt_of_le hb fb.size
          obtain ⟨AL, cL, hvLs, _⟩ := own_shape hcall.own
          rw [hlen] at hvLs
          subst hvLs
          obtain ⟨y0, y1, y2, y3⟩ := box4 hcall.box
          have hlb := lt_heap hcall.box
          have HCALL := Lib.hid hcall
          have HA0 := Lib.hid ha0
          have HBS := Lib.hid (bad_step ps xs k a ha0)
          have HTK := Lib.hid (show xs.take (k + 1) = xs.take k ++ [a] by
            rw [List.take_add_one, ha0]; rfl)
          clear hcall ha0 c0 hq
          go_upto_region 9 with fail
          have hS0 : wr.drew.heap[wc.heap.size]? = some (.cells #[.int .i64 5, .int .i64 0, .string nf, .slice AL k cL] 28) ∧ wr.drew.cell? ⟨b, o + k, none⟩ = some (.string a) := ⟨HCALL.out.box, d0⟩
          have HS0 := Lib.hid hS0
          clear hS0
          go_cut [] (fun wx => ∃ vL' cs', CallAt wc wx wc.heap.size (wc.heap.size + 1) (xs.take (k + 1)) vL' cs')
          case first =>
            refine wp_region_late (fun w' => w'.heap[wc.heap.size]? = some (.cells #[.int .i64 5, .int .i64 0, .string nf, .slice AL k cL] 28) ∧ w'.cell? ⟨b, o + k, none⟩ = some (.string a)) 10 (by kernel_rfl) ?_
            refine AnyL.take 0 (.pointer (some ⟨wc.heap.size, 3, none⟩)) rfl (by kernel_rfl) (by kernel_rfl) (by kernel_rfl) (by kernel_rfl) (fun _ _ _ h => h) (Or.inl ⟨by rfl, ?_⟩) HS0.out ?_
            · intro W' hSw
              obtain ⟨l0, l1, l2, l3⟩ := box4 hSw.1
              have l4 := hSw.2
              go_simp
            try simp only [Act.put, List.getElem_toArray, List.getElem_cons_zero, List.setIfInBounds_toArray, List.set_cons_zero, List.set_cons_succ]
            refine AnyL.take 1 (.slice AL k cL) rfl (by kernel_rfl) (by kernel_rfl) (by kernel_rfl) (by kernel_rfl) (fun _ _ _ h => h) (Or.inl ⟨by rfl, ?_⟩) HS0.out ?_
            · intro W' hSw
              obtain ⟨l0, l1, l2, l3⟩ := box4 hSw.1
              have l4 := hSw.2
              go_simp
            try simp only [Act.put, List.getElem_toArray, List.getElem_cons_zero, List.getElem_cons_succ, List.setIfInBounds_toArray, List.set_cons_zero, List.set_cons_succ]
            refine AnyL.take 2 (.slice (some ⟨b, o, none⟩) M ccap) rfl (by kernel_rfl) (by kernel_rfl) (by kernel_rfl) (by kernel_rfl) (fun _ _ _ h => h) (Or.inl ⟨by rfl, ?_⟩) HS0.out ?_
            · intro W' hSw
              obtain ⟨l0, l1, l2, l3⟩ := box4 hSw.1
              have l4 := hSw.2
              go_simp
            try simp only [Act.put, List.getElem_toArray, List.getElem_cons_zero, List.getElem_cons_succ, List.setIfInBounds_toArray, List.set_cons_zero, List.set_cons_succ]
            refine AnyL.take 3 (.int .i64 k) rfl (by kernel_rfl) (by kernel_rfl) (by kernel_rfl) (by kernel_rfl) (fun _ _ _ h => h) (Or.inl ⟨by rfl, ?_⟩) HS0.out ?_
            · intro W' hSw
              obtain ⟨l0, l1, l2, l3⟩ := box4 hSw.1
              have l4 := hSw.2
              go_simp
            try simp only [Act.put, List.getElem_toArray, List.getElem_cons_zero, List.getElem_cons_succ, List.setIfInBounds_toArray, List.set_cons_zero, List.set_cons_succ]
            refine AnyL.take 4 (.pointer (some ⟨b, o + k, none⟩)) rfl (by kernel_rfl) (by kernel_rfl) (by kernel_rfl) (by kernel_rfl) (fun _ _ _ h => h) (Or.inl ⟨by rfl, ?_⟩) HS0.out ?_
            · intro W' hSw
              obtain ⟨l0, l1, l2, l3⟩ := box4 hSw.1
              have l4 := hSw.2
              go_simp
            try simp only [Act.put, List.getElem_toArray, List.getElem_cons_zero, List.getElem_cons_succ, List.setIfInBounds_toArray, List.set_cons_zero, List.set_cons_succ]
            refine AnyL.take 5 (.string a) rfl (by kernel_rfl) (by kernel_rfl) (by kernel_rfl) (by kernel_rfl) (fun _ _ _ h => h) (Or.inl ⟨by rfl, ?_⟩) HS0.out ?_
            · intro W' hSw
              obtain ⟨l0, l1, l2, l3⟩ := box4 hSw.1
              have l4 := hSw.2
              go_simp
            try simp only [Act.put, List.getElem_toArray, List.getElem_cons_zero, List.getElem_cons_succ, List.setIfInBounds_toArray, List.set_cons_zero, List.set_cons_succ]
            refine AnyL.next 6 (by kernel_rfl) rfl (fun K hK => ?_)
            go_simp
            go_at_call 18
            refine (name_any _ _).mono ?_
            rintro e' w6 ⟨rfl, hb6⟩
            go_wp2_with fail
            have hS6 : w6.heap[wc.heap.size]? = some (.cells #[.int .i64 5, .int .i64 0, .string nf, .slice AL k cL] 28) ∧ w6.cell? ⟨b, o + k, none⟩ = some (.string a) := ⟨(hb6.block _ (lt_heap HS0.out.1)).trans HS0.out.1, (hb6.cell (p := ⟨b, o + k, none⟩) (Nat.lt_of_lt_of_le hb fr2.size)).trans HS0.out.2⟩
            have hb6' : Below wr.heap.size wr w6 := (Below.refl _ wr).drew.trans hb6
            refine hK.out _ _ (fun _ => hS6) ?_
            clear hK K
            try simp only [Act.put, List.getElem_toArray, List.getElem_cons_zero, List.getElem_cons_succ, List.setIfInBounds_toArray, List.set_cons_zero, List.set_cons_succ]
            refine AnyL.next 7 (by kernel_rfl) rfl (fun K hK => ?_)
            go_simp
            have hS7 : (w6.alloc (nameO a)).heap[wc.heap.size]? = some (.cells #[.int .i64 5, .int .i64 0, .string nf, .slice AL k cL] 28) ∧ (w6.alloc (nameO a)).cell? ⟨b, o + k, none⟩ = some (.string a) := ⟨old_at hS6.1, (((Below.refl w6.heap.size w6).alloc (Nat.le_refl _) _).cell (p := ⟨b, o + k, none⟩) (Nat.lt_of_lt_of_le hb (Nat.le_trans fr2.size hb6'.size))).trans hS6.2⟩
            refine hK.out _ _ (fun _ => hS7) ?_
            clear hK K
            try simp only [Act.put, List.getElem_toArray, List.getElem_cons_zero, List.getElem_cons_succ, List.setIfInBounds_toArray, List.set_cons_zero, List.set_cons_succ]
            refine AnyL.next 8 (by kernel_rfl) rfl (fun K hK => ?_)
            have hown7 := ((HCALL.out.own.kept (row := none) ⟨hb6'.os, hb6'.tape, hb6'.output, hb6'.size, fun q hq _ => hb6'.block q hq⟩ (by simp; exact Classical.em _)).alloc (nameO a))
            rw [hlen] at hown7
            have g7 := heap_alloc_new w6 (nameO a)
            refine step_append_own rfl (.tmp 29) (.tmp 35) 26 rfl (wc.heap.size + 1) 28 i0 _ 4 56 Try.underlying26 hi hz0 hz1 hz2 rfl (by decide) (.slice AL k cL) k cs rfl hown7 (some ⟨w6.heap.size, 0, none⟩) 1 1 [.int .i64 2, .int .i64 0, .string a, .slice none 0 0] rfl (fun h => by cases h) rfl (blk_news g7) (one_cells ⟨_, _, _, rfl⟩) (by unfold maxLen; omega) (by omega) (Nat.le_trans (Nat.succ_le_of_lt hlb) (Nat.le_trans hb6'.size (by simp))) (fun v2 W2 o2 r2 => ?_)
            obtain ⟨A2, c2, hv2⟩ := own_form o2
            subst hv2
            have hne : some wc.heap.size ≠ (Value.slice AL k cL).ownBlock := fun e => by have := (hown7.lt _ e.symm).1; omega
            have hS8 : W2.heap[wc.heap.size]? = some (.cells #[.int .i64 5, .int .i64 0, .string nf, .slice AL k cL] 28) ∧ W2.cell? ⟨b, o + k, none⟩ = some (.string a) := ⟨blk_grown hS7.1 r2 hne, World.grownBy.cell r2 hS7.2 (fun e => by have := (hown7.lt _ e.symm).1; simp only at this; omega)⟩
            have hlow8 : Below wc.heap.size wc W2 := ((HCALL.out.low.trans (hb6'.mono HCALL.out.low.size)).alloc (Nat.le_trans HCALL.out.low.size hb6'.size) _).grown r2 (by have := HCALL.out.low.size; have := hb6'.size; simp; omega) (fun q e => by have := (hown7.lt q e).1; omega)
            refine hK.out _ _ (fun _ => hS8) ?_
            clear hK K
            try simp only [Act.put, List.getElem_toArray, List.getElem_cons_zero, List.getElem_cons_succ, List.setIfInBounds_toArray, List.set_cons_zero, List.set_cons_succ]
            obtain ⟨y0, y1, y2, y3⟩ := box4 hS8.1
            have yf := box_frozen hS8.1 3
            have hl8 := lt_heap hS8.1
            refine AnyL.take 9 (.pointer (some ⟨wc.heap.size, 3, none⟩)) rfl (by kernel_rfl) (by kernel_rfl) (by kernel_rfl) (by kernel_rfl) (fun _ _ _ h => h) (Or.inl ⟨by rfl, ?_⟩) hS8 ?_
            · intro W' hSw
              obtain ⟨l0, l1, l2, l3⟩ := box4 hSw.1
              have l4 := hSw.2
              go_simp
            try simp only [Act.put, List.getElem_toArray, List.getElem_cons_zero, List.getElem_cons_succ, List.setIfInBounds_toArray, List.set_cons_zero, List.set_cons_succ]
            refine AnyL.next 10 (by kernel_rfl) rfl (fun K hK => ?_)
            go_simp
            refine hK.out _ _ (fun h => absurd rfl h) ?_
            clear hK K
            try simp only [Act.put, List.getElem_toArray, List.getElem_cons_zero, List.getElem_cons_succ, List.setIfInBounds_toArray, List.set_cons_zero, List.set_cons_succ]
            refine AnyL.done (by kernel_rfl) ?_
            go_wp2_with fail
            go_meet
            have hne2 : some wc.heap.size ≠ (Value.slice A2 (k + 1) c2).ownBlock := fun e => by have := (o2.lt _ e.symm).1; omega
            refine ⟨.slice A2 (k + 1) c2, _, (heap_set hS8.1 3 _).trans rfl, by rw [HTK.out, List.length_append, hlen]; exact own_set o2 hne2 _, by rw [HTK.out, vars_app]; exact ES.Cells.app (var_cells a hsz) HCALL.out.cells, hlow8.setCell (Nat.le_refl _) _⟩
          case rest =>
            obtain ⟨vL', cs', hcall'⟩ := hcut
            have HC' := Lib.hid hcall'
            have d0' := (((fb.step hcall'.low).cell (p := ⟨b, o + k, none⟩) hb).trans ((HAR.out (by omega)).elim fun b' h' => by
              obtain ⟨o', e, hb', hq⟩ := h'
              injection e with e
              injection e with e1 e2
              subst e1 e2
              exact (hq.get HA0.out).1))
            clear hcall' y0 y1 y2 y3 hlb d0 HS0
            have hGa := Lib.hid (fun w1 => secret_any a w1 hsz)
            obtain ⟨ga, hga⟩ : ∃ q, greatB a = q := ⟨_, rfl⟩
            rw [hga] at hGa
            have HBS2 := Lib.hid HBS.out
            rw [hga] at HBS2
            clear hga
            by_cases hkN : k < N
            · obtain ⟨p, hp0⟩ : ∃ p, ps[k]? = some p := ⟨_, List.getElem?_eq_getElem (by rw [LP.out]; exact hkN)⟩
              obtain ⟨bp, op, rfl, hbp, hqp⟩ := HPR.out (by omega)
              obtain ⟨q0, hpsz⟩ := hqp.get hp0
              have q1 := ((fb.step HC'.out.low).cell (p := ⟨bp, op + k, none⟩) hbp).trans q0
              have hGp := Lib.hid (fun w1 => secret_any p w1 hpsz)
              obtain ⟨gp, hgp⟩ : ∃ q, greatB p = q := ⟨_, rfl⟩
              rw [hgp] at hGp
              rw [hp0] at HBS2
              simp only [hgp] at HBS2
              have HBS3 := Lib.hid HBS2.out
              clear hgp hp0 q0 hqp HBS HBS2
              cases t1
              all_goals
                cases ga
                all_goals
                  cases gp
                  all_goals
                    go_wp2_with (first
                      | (go_at_call 19; ((with_reducible refine (hGa.out _).mono ?_); rintro e w7 ⟨rfl, rfl⟩))
                      | (go_at_call 19; ((with_reducible refine (hGp.out _).mono ?_); rintro e w8 ⟨rfl, rfl⟩)))
                    go_roundw
                    case rel => exact ⟨k + 1, _, vL', cs', by go_num, rfl, by omega, by rw [HT.out, HBS3.out]; simp, HC'.out⟩
                    case measure => simp [intOf]; omega
            · have hp0 : ps[k]? = none := List.getElem?_eq_none (by rw [LP.out]; omega)
              rw [hp0] at HBS2
              have HBS3 := Lib.hid HBS2.out
              clear hp0 HBS HBS2
              cases t1
              all_goals
                go_wp2_with fail
                go_roundw
                case rel => exact ⟨k + 1, _, vL', cs', by go_num, rfl, by omega, by rw [HT.out, HBS3.out]; simp, HC'.out⟩
                case measure => simp [intOf]; omega

/-- As the row hands it. -/
theorem calls_row (v v' : Value) (ps xs : List ByteArray) (w : World) (hp : RowV (PsIn w ps) w.heap.size ps.length v) (ha : RowV (PsIn w xs) w.heap.size xs.length v') (hps : ∀ s ∈ ps, s.size ≤ 140737488351232) (hxs : ∀ s ∈ xs, s.size ≤ 140737488351232) :
    Calls Try.prog 8 #[v, v'] w fun e w' => e = .returned (.bool true) ∧ Fr w w' := by
  obtain ⟨A, cap, rfl, _⟩ := id hp
  obtain ⟨C, ccap, rfl, _⟩ := id ha
  exact calls_walk A C ps.length cap xs.length ccap ps xs w rfl rfl hp ha hps hxs _ _ rfl rfl
end Go.Proofs.Ythfcnnicpmkclaa
