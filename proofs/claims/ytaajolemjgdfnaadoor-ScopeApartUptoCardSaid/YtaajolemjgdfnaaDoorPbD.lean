/-
  Texts PbA PbB PbC PbD: put together.
-/
import Derived.Test.YtaajolemjgdfnaaDoorPaZ
/-
  Package parse: a block of statements.
-/
namespace Go.Proofs.YtaajolemjgdfnaaDoor
open Go Go.RowKit Go.Lib

theorem stInfo : (Tryd.prog.info? 45).map (fun i => (i.zero, i.size, i.bytes)) = some (some (.agg #[.int .i64 0, .string ⟨#[]⟩, .int .i64 0, .slice none 0 0, .slice none 0 0, .slice none 0 0]), 6, 104) := by kernel_rfl
/-- What a call that reads statements has done. -/
def BP (rb g N cT o : Nat) (T : List Tok) (W : World) (x : PR (List Sm)) (e : Ending) (W' : World) : Prop :=
  match x with
  | .ok l r => (∃ vv, e = .returned vv ∧ SX W.heap.size W' vv (smSS l)) ∧ (∃ i, Rd W' rb g N cT T i o ∧ T.drop i = r) ∧ Gr rb W W'
  | .bad p c => e = flt p c ∧ Gr rb W W'
  | .out => True
/-- At the head of each round. -/
def KRel (one : List Tok → PR Sm) (rb g N cT o : Nat) (T : List Tok) (W : World) (y : PR (List Sm)) (v : Value) (wr : World) : Prop :=
  ∃ m l cs i, bodyT one m l (T.drop i) = y ∧ Rd wr rb g N cT T i (o + 1) ∧ Gr rb W wr ∧ wr.ownsRow W.heap.size 45 6 v l.length cs ∧ tCs (rowp W.heap.size v) wr l cs ∧ l.length ≤ i
theorem newt_one (t : Sm) (A B C : Option Addr) (a b c a' b' c' : Nat) : ∀ u ∈ newt t (.slice A a a') (.slice B b b') (.slice C c c'), u.oneCell' = true := by
  intro u hu
  simp only [newt, List.mem_cons, List.not_mem_nil, or_false] at hu
  rcases hu with rfl | rfl | rfl | rfl | rfl | rfl <;> rfl
theorem newt_cells (w3 : World) (t : Sm) (x y z : Value) : ∀ j u, (newt t x y z)[j]? = some u → (w3.alloc (.cells #[.int .i64 t.op, .string t.s, .int .i64 t.n, x, y, z] 45)).cell? ((⟨w3.heap.size, 0, none⟩ : Addr).add j) = some u := by
  intro j u hu
  rw [show (⟨w3.heap.size, 0, none⟩ : Addr).add j = ⟨w3.heap.size, j, none⟩ by unfold Addr.add; split <;> simp_all, box_cell (heap_alloc_new w3 _)]
  simpa using hu

set_option maxRecDepth 100000 in
theorem bl_loop {W : World} {rb g N cT i o : Nat} {T : List Tok} (h : Rd W rb g N cT T i o) (b1 : isT (T.drop i) [123] = true) (ho : o < 256) (one : List Tok → PR Sm) (m : Nat) (y : PR (List Sm)) (hy : bodyT one m [] (T.drop (i + 1)) = y) (hyo : y ≠ .out) (HLn : ∀ j v r, one (T.drop j) = .ok v r → r.length < (T.drop j).length)
    (HM : ∀ W2 i', Rd W2 rb g N cT T i' (o + 1) → one (T.drop i') ≠ .out → Calls Tryd.prog 72 #[.pointer (some ⟨rb, 0, none⟩)] W2 (TP rb g N cT (o + 1) T W2 (one (T.drop i')))) :
    Calls Tryd.prog 71 #[.pointer (some ⟨rb, 0, none⟩), .func (.func 72) #[.pointer (some ⟨rb, 0, none⟩)] #[]] W (BP rb g N cT o T W y) := by
  have HE := Lib.hid (show Calls Tryd.prog 76 #[.pointer (some ⟨rb, 0, none⟩), .string ⟨#[123]⟩] W fun e w' => e = .returned (.tuple #[]) ∧ Rd w' rb g N cT T (i + 1) (o + 1) ∧ Gr rb W w' from enter_yes h [123] (by decide) b1 ho)
  have HMM := Lib.hid HM
  have HY := Lib.hid hy
  have hrl := h.rlt
  have hgl := h.tok.1
  have hN : N ≤ 65537 := by have := h.good.len; have := h.len; omega
  clear h b1 HM hy
  obtain ⟨i0, hi, hz0, hz1, hz2⟩ := info_parts stInfo
  go_enter Tryd.func71, Tryd.ntmps71
  go_wp2_with (go_at_call 76; ((with_reducible refine HE.out.mono ?_); rintro e w1 ⟨rfl, h1, g1⟩))
  have hstart : KRel one rb g N cT o T W y (.slice none 0 0) w1 := ⟨m, [], [], i + 1, HY.out, h1, g1, World.ownsRow_nil _ _ _ _, rfl, Nat.zero_le _⟩
  clear h1 g1 HE HY
  go_loopw [5] (fun s wr => KRel one rb g N cT o T W y s wr) (fun _ wr => posR rb N wr)
  case atStart => exact hstart
  case round =>
    clear hstart
    obtain ⟨m, l, cs, i, hy, hR, hG, hown, hx, hli⟩ := hrel
    cases m with
    | zero => exact absurd hy.symm hyo
    | succ m =>
      rw [bodyT] at hy
      obtain ⟨n, hn⟩ : ∃ n, l.length = n := ⟨_, rfl⟩
      rw [hn] at hown hli
      have hne : u5.ownBlock ≠ some rb := fun e => by have := (hown.lt rb e).1; omega
      have hiN := hR.lt
      have HR := Lib.hid hR
      cases b : isT (T.drop i) [125] with
      | true =>
        have HI := Lib.hid (show Calls Tryd.prog 53 #[.pointer (some ⟨rb, 0, none⟩), .string ⟨#[125]⟩] wr fun e w' => e = .returned (.bool true) ∧ Below wr.heap.size wr w' from is_any hR [125] true b)
        rw [b, if_pos rfl, wantT, if_pos b] at hy
        have HL := Lib.hid (fun w1 (h1 : Rd w1 rb g N cT T i (o + 1)) => (show Calls Tryd.prog 77 #[.pointer (some ⟨rb, 0, none⟩), .string ⟨#[125]⟩] w1 fun e w' => e = .returned (.tuple #[]) ∧ Rd w' rb g N cT T (i + 1) o ∧ Gr rb w1 w' from leave_yes h1 [125] (by decide) b))
        clear hR
        go_wp2_with (first
          | (go_at_call 53; ((with_reducible refine HI.out.mono ?_); rintro e' w5 ⟨rfl, e5⟩; have h5 := HR.out.below e5))
          | (go_at_call 77; ((with_reducible refine (HL.out _ h5).mono ?_); rintro e' w6 ⟨rfl, h6, g6⟩)))
        go_ret
        have g7 := (Gr.of e5).trans g6
        rw [← hy]
        refine ⟨⟨_, rfl, row_sx (p := rowp W.heap.size u5) (hown.kept g7 (.inr hne)) (Nat.le_refl _) (hx.kp g7.size (fun k hk hl => g7.block hl (by have := hk.1; omega)) (fun k hk _ => hk)) (fun k hk => hk.1) hn.symm⟩, ⟨i + 1, h6, (drop_tail T i).symm⟩, hG.trans g7⟩
      | false =>
        have HI := Lib.hid (show Calls Tryd.prog 53 #[.pointer (some ⟨rb, 0, none⟩), .string ⟨#[125]⟩] wr fun e w' => e = .returned (.bool false) ∧ Below wr.heap.size wr w' from is_any hR [125] false b)
        rw [b, if_neg (by decide)] at hy
        clear hR
        cases hxv : one (T.drop i) with
        | out => rw [hxv] at hy; exact absurd hy.symm hyo
        | bad p c =>
          rw [hxv] at hy
          have HX := Lib.hid (fun w1 (h1 : Rd w1 rb g N cT T i (o + 1)) => (show Calls Tryd.prog 72 #[.pointer (some ⟨rb, 0, none⟩)] w1 (TP rb g N cT (o + 1) T w1 (.bad p c)) from hxv ▸ HMM.out w1 i h1 (by rw [hxv]; exact fun e => by cases e)))
          go_wp2_with (first
            | (go_at_call 53; ((with_reducible refine HI.out.mono ?_); rintro e' w5 ⟨rfl, e5⟩; have h5 := HR.out.below e5))
            | (go_at_call 72; ((with_reducible refine (HX.out _ h5).mono ?_); rintro e' w6 ⟨rfl, g6⟩)))
          rw [← hy]
          exact ⟨rfl, rfl, hG.trans ((Gr.of e5).trans g6)⟩
        | ok v2 r2 =>
          rw [hxv] at hy
          have HX := Lib.hid (fun w1 (h1 : Rd w1 rb g N cT T i (o + 1)) => (show Calls Tryd.prog 72 #[.pointer (some ⟨rb, 0, none⟩)] w1 (TP rb g N cT (o + 1) T w1 (.ok v2 r2)) from hxv ▸ HMM.out w1 i h1 (by rw [hxv]; exact fun e => by cases e)))
          go_wp2_with (first
            | (go_at_call 53; ((with_reducible refine HI.out.mono ?_); rintro e' w5 ⟨rfl, e5⟩; have h5 := HR.out.below e5))
            | (go_at_call 72; ((with_reducible refine (HX.out _ h5).mono ?_); rintro e' w6 ⟨⟨vv, rfl, vl, vx, vy, rfl, hvl, hvx, hvy, hok⟩, ⟨i6, h6, hd⟩, g6⟩; obtain ⟨A1, c1, el1, _⟩ := id hvl; obtain ⟨A2, c2, el2, _⟩ := id hvx; obtain ⟨A3, c3, el3, _⟩ := id hvy; subst el1; subst el2; subst el3))
            | (at_builtin; refine step_append_at rfl (.tmp 11) (.tmp 14) 23 rfl W.heap.size 45 i0 _ 6 104 Tryd.underlying23 hi hz0 hz1 hz2 rfl (by decide) u5 n cs rfl ((hown.kept ((Gr.of e5).trans g6) (.inr hne)).alloc _) ⟨w6.heap.size, 0, none⟩ 1 1 (newt v2 (.slice A1 v2.l.len c1) (.slice A2 v2.x.len c2) (.slice A3 v2.y.len c3)) rfl rfl (newt_cells w6 v2 _ _ _) (newt_one v2 A1 A2 A3 _ _ _ _ _ _) (by unfold maxLen; omega) (by omega) (by have := hG.size; have := e5.size; have := g6.size; simp; omega) ?_; intro v7 w7 hown7 hgrow7 _ hat7))
          have g5 := Gr.of (rb := rb) e5
          have ho5 := hown.kept g5 (.inr hne)
          have hx5 := hx.kp (p := rowp W.heap.size u5) (q := rowp W.heap.size u5) g5.size (fun k hk hl => g5.block hl (by have := hk.1; omega)) (fun k hk _ => hk)
          obtain ⟨h7, g7, hx7⟩ := st_step (hG.trans g5) ho5 hx5 g6 hvl hvx hvy hok h6 hgrow7 hat7 hrl hgl
          have hl2 := h6.lt
          have hl1 := h6.len
          have hlen2 := HLn _ _ _ hxv
          rw [← hd, List.length_drop, List.length_drop] at hlen2
          have hl3 : i < i6 := by omega
          refine ⟨⟨m, l ++ [v2], _, i6, by rw [hd]; exact hy, h7, g7, by rw [List.length_append, hn]; exact hown7, hx7, by rw [List.length_append, hn]; show n + 1 ≤ i6; omega⟩, ?_⟩
          rw [posR_eq h7, posR_eq HR.out]
          exact Nat.sub_lt_sub_left (Nat.lt_trans hl3 hl2) hl3

set_option maxRecDepth 100000 in
theorem bl_no {W : World} {rb g N cT i o : Nat} {T : List Tok} (h : Rd W rb g N cT T i o) (b1 : isT (T.drop i) [123] = false) (one : Value) :
    Calls Tryd.prog 71 #[.pointer (some ⟨rb, 0, none⟩), one] W (BP rb g N cT o T W (.bad (hdT (T.drop i)).at_ 2)) := by
  have HE := Lib.hid (show Calls Tryd.prog 76 #[.pointer (some ⟨rb, 0, none⟩), .string ⟨#[123]⟩] W fun e w' => e = flt (hdT (T.drop i)).at_ 2 ∧ Below W.heap.size W w' from enter_no h [123] b1 _ rfl)
  clear h b1
  go_enter Tryd.func71, Tryd.ntmps71
  go_wp2_with (go_at_call 76; ((with_reducible refine HE.out.mono ?_); rintro e w2 ⟨rfl, g2⟩))
  exact ⟨rfl, rfl, Gr.of g2⟩

set_option maxRecDepth 100000 in
theorem bl_deep {W : World} {rb g N cT i : Nat} {T : List Tok} (h : Rd W rb g N cT T i 256) (b1 : isT (T.drop i) [123] = true) (one : Value) :
    Calls Tryd.prog 71 #[.pointer (some ⟨rb, 0, none⟩), one] W (BP rb g N cT 256 T W (.bad (hdT (T.drop i)).at_ 3)) := by
  have HE := Lib.hid (show Calls Tryd.prog 76 #[.pointer (some ⟨rb, 0, none⟩), .string ⟨#[123]⟩] W fun e w' => e = flt (hdT (T.drop i)).at_ 3 ∧ Below W.heap.size W w' from enter_deep h [123] b1 _ rfl)
  clear h b1
  go_enter Tryd.func71, Tryd.ntmps71
  go_wp2_with (go_at_call 76; ((with_reducible refine HE.out.mono ?_); rintro e w2 ⟨rfl, g2⟩))
  exact ⟨rfl, rfl, Gr.of g2⟩

/-- A block of statements. -/
theorem block_any {W : World} {rb g N cT i o : Nat} {T : List Tok} (h : Rd W rb g N cT T i o) (one : List Tok → PR Sm) (m : Nat) (hx : blockT one m o (T.drop i) ≠ .out) (HLn : ∀ j v r, one (T.drop j) = .ok v r → r.length < (T.drop j).length)
    (HM : ∀ W2 i', Rd W2 rb g N cT T i' (o + 1) → one (T.drop i') ≠ .out → Calls Tryd.prog 72 #[.pointer (some ⟨rb, 0, none⟩)] W2 (TP rb g N cT (o + 1) T W2 (one (T.drop i')))) :
    Calls Tryd.prog 71 #[.pointer (some ⟨rb, 0, none⟩), .func (.func 72) #[.pointer (some ⟨rb, 0, none⟩)] #[]] W (BP rb g N cT o T W (blockT one m o (T.drop i))) := by
  cases b1 : isT (T.drop i) [123] with
  | false =>
    have e : blockT one m o (T.drop i) = .bad (hdT (T.drop i)).at_ 2 := by simp [blockT, enterT, b1, PR.bind]
    rw [e]
    exact bl_no h b1 _
  | true =>
    by_cases ho : o = 256
    · subst ho
      have e : blockT one m 256 (T.drop i) = .bad (hdT (T.drop i)).at_ 3 := by simp [blockT, enterT, b1, PR.bind]
      rw [e]
      exact bl_deep h b1 _
    · have e : blockT one m o (T.drop i) = bodyT one m [] (T.drop (i + 1)) := by simp [blockT, enterT, b1, ho, PR.bind]
      rw [e] at hx ⊢
      exact bl_loop h b1 (by have := h.small; omega) one m _ rfl hx HLn HM

end Go.Proofs.YtaajolemjgdfnaaDoor

/-
  Package parse: a block of a function's statements (outer).
-/
namespace Go.Proofs.YtaajolemjgdfnaaDoor
open Go Go.RowKit Go.Lib

set_option maxRecDepth 100000 in
theorem bo_loop {W : World} {rb g N cT i o : Nat} {T : List Tok} (h : Rd W rb g N cT T i o) (b1 : isT (T.drop i) [123] = true) (ho : o < 256) (one : List Tok → PR Sm) (m : Nat) (y : PR (List Sm)) (hy : bodyT one m [] (T.drop (i + 1)) = y) (hyo : y ≠ .out) (HLn : ∀ j v r, one (T.drop j) = .ok v r → r.length < (T.drop j).length)
    (HM : ∀ W2 i', Rd W2 rb g N cT T i' (o + 1) → one (T.drop i') ≠ .out → Calls Tryd.prog 57 #[.pointer (some ⟨rb, 0, none⟩)] W2 (TP rb g N cT (o + 1) T W2 (one (T.drop i')))) :
    Calls Tryd.prog 71 #[.pointer (some ⟨rb, 0, none⟩), .func (.func 57) #[.pointer (some ⟨rb, 0, none⟩)] #[]] W (BP rb g N cT o T W y) := by
  have HE := Lib.hid (show Calls Tryd.prog 76 #[.pointer (some ⟨rb, 0, none⟩), .string ⟨#[123]⟩] W fun e w' => e = .returned (.tuple #[]) ∧ Rd w' rb g N cT T (i + 1) (o + 1) ∧ Gr rb W w' from enter_yes h [123] (by decide) b1 ho)
  have HMM := Lib.hid HM
  have HY := Lib.hid hy
  have hrl := h.rlt
  have hgl := h.tok.1
  have hN : N ≤ 65537 := by have := h.good.len; have := h.len; omega
  clear h b1 HM hy
  obtain ⟨i0, hi, hz0, hz1, hz2⟩ := info_parts stInfo
  go_enter Tryd.func71, Tryd.ntmps71
  go_wp2_with (go_at_call 76; ((with_reducible refine HE.out.mono ?_); rintro e w1 ⟨rfl, h1, g1⟩))
  have hstart : KRel one rb g N cT o T W y (.slice none 0 0) w1 := ⟨m, [], [], i + 1, HY.out, h1, g1, World.ownsRow_nil _ _ _ _, rfl, Nat.zero_le _⟩
  clear h1 g1 HE HY
  go_loopw [5] (fun s wr => KRel one rb g N cT o T W y s wr) (fun _ wr => posR rb N wr)
  case atStart => exact hstart
  case round =>
    clear hstart
    obtain ⟨m, l, cs, i, hy, hR, hG, hown, hx, hli⟩ := hrel
    cases m with
    | zero => exact absurd hy.symm hyo
    | succ m =>
      rw [bodyT] at hy
      obtain ⟨n, hn⟩ : ∃ n, l.length = n := ⟨_, rfl⟩
      rw [hn] at hown hli
      have hne : u5.ownBlock ≠ some rb := fun e => by have := (hown.lt rb e).1; omega
      have hiN := hR.lt
      have HR := Lib.hid hR
      cases b : isT (T.drop i) [125] with
      | true =>
        have HI := Lib.hid (show Calls Tryd.prog 53 #[.pointer (some ⟨rb, 0, none⟩), .string ⟨#[125]⟩] wr fun e w' => e = .returned (.bool true) ∧ Below wr.heap.size wr w' from is_any hR [125] true b)
        rw [b, if_pos rfl, wantT, if_pos b] at hy
        have HL := Lib.hid (fun w1 (h1 : Rd w1 rb g N cT T i (o + 1)) => (show Calls Tryd.prog 77 #[.pointer (some ⟨rb, 0, none⟩), .string ⟨#[125]⟩] w1 fun e w' => e = .returned (.tuple #[]) ∧ Rd w' rb g N cT T (i + 1) o ∧ Gr rb w1 w' from leave_yes h1 [125] (by decide) b))
        clear hR
        go_wp2_with (first
          | (go_at_call 53; ((with_reducible refine HI.out.mono ?_); rintro e' w5 ⟨rfl, e5⟩; have h5 := HR.out.below e5))
          | (go_at_call 77; ((with_reducible refine (HL.out _ h5).mono ?_); rintro e' w6 ⟨rfl, h6, g6⟩)))
        go_ret
        have g7 := (Gr.of e5).trans g6
        rw [← hy]
        refine ⟨⟨_, rfl, row_sx (p := rowp W.heap.size u5) (hown.kept g7 (.inr hne)) (Nat.le_refl _) (hx.kp g7.size (fun k hk hl => g7.block hl (by have := hk.1; omega)) (fun k hk _ => hk)) (fun k hk => hk.1) hn.symm⟩, ⟨i + 1, h6, (drop_tail T i).symm⟩, hG.trans g7⟩
      | false =>
        have HI := Lib.hid (show Calls Tryd.prog 53 #[.pointer (some ⟨rb, 0, none⟩), .string ⟨#[125]⟩] wr fun e w' => e = .returned (.bool false) ∧ Below wr.heap.size wr w' from is_any hR [125] false b)
        rw [b, if_neg (by decide)] at hy
        clear hR
        cases hxv : one (T.drop i) with
        | out => rw [hxv] at hy; exact absurd hy.symm hyo
        | bad p c =>
          rw [hxv] at hy
          have HX := Lib.hid (fun w1 (h1 : Rd w1 rb g N cT T i (o + 1)) => (show Calls Tryd.prog 57 #[.pointer (some ⟨rb, 0, none⟩)] w1 (TP rb g N cT (o + 1) T w1 (.bad p c)) from hxv ▸ HMM.out w1 i h1 (by rw [hxv]; exact fun e => by cases e)))
          go_wp2_with (first
            | (go_at_call 53; ((with_reducible refine HI.out.mono ?_); rintro e' w5 ⟨rfl, e5⟩; have h5 := HR.out.below e5))
            | (go_at_call 57; ((with_reducible refine (HX.out _ h5).mono ?_); rintro e' w6 ⟨rfl, g6⟩)))
          rw [← hy]
          exact ⟨rfl, rfl, hG.trans ((Gr.of e5).trans g6)⟩
        | ok v2 r2 =>
          rw [hxv] at hy
          have HX := Lib.hid (fun w1 (h1 : Rd w1 rb g N cT T i (o + 1)) => (show Calls Tryd.prog 57 #[.pointer (some ⟨rb, 0, none⟩)] w1 (TP rb g N cT (o + 1) T w1 (.ok v2 r2)) from hxv ▸ HMM.out w1 i h1 (by rw [hxv]; exact fun e => by cases e)))
          go_wp2_with (first
            | (go_at_call 53; ((with_reducible refine HI.out.mono ?_); rintro e' w5 ⟨rfl, e5⟩; have h5 := HR.out.below e5))
            | (go_at_call 57; ((with_reducible refine (HX.out _ h5).mono ?_); rintro e' w6 ⟨⟨vv, rfl, vl, vx, vy, rfl, hvl, hvx, hvy, hok⟩, ⟨i6, h6, hd⟩, g6⟩; obtain ⟨A1, c1, el1, _⟩ := id hvl; obtain ⟨A2, c2, el2, _⟩ := id hvx; obtain ⟨A3, c3, el3, _⟩ := id hvy; subst el1; subst el2; subst el3))
            | (at_builtin; refine step_append_at rfl (.tmp 11) (.tmp 14) 23 rfl W.heap.size 45 i0 _ 6 104 Tryd.underlying23 hi hz0 hz1 hz2 rfl (by decide) u5 n cs rfl ((hown.kept ((Gr.of e5).trans g6) (.inr hne)).alloc _) ⟨w6.heap.size, 0, none⟩ 1 1 (newt v2 (.slice A1 v2.l.len c1) (.slice A2 v2.x.len c2) (.slice A3 v2.y.len c3)) rfl rfl (newt_cells w6 v2 _ _ _) (newt_one v2 A1 A2 A3 _ _ _ _ _ _) (by unfold maxLen; omega) (by omega) (by have := hG.size; have := e5.size; have := g6.size; simp; omega) ?_; intro v7 w7 hown7 hgrow7 _ hat7))
          have g5 := Gr.of (rb := rb) e5
          have ho5 := hown.kept g5 (.inr hne)
          have hx5 := hx.kp (p := rowp W.heap.size u5) (q := rowp W.heap.size u5) g5.size (fun k hk hl => g5.block hl (by have := hk.1; omega)) (fun k hk _ => hk)
          obtain ⟨h7, g7, hx7⟩ := st_step (hG.trans g5) ho5 hx5 g6 hvl hvx hvy hok h6 hgrow7 hat7 hrl hgl
          have hl2 := h6.lt
          have hl1 := h6.len
          have hlen2 := HLn _ _ _ hxv
          rw [← hd, List.length_drop, List.length_drop] at hlen2
          have hl3 : i < i6 := by omega
          refine ⟨⟨m, l ++ [v2], _, i6, by rw [hd]; exact hy, h7, g7, by rw [List.length_append, hn]; exact hown7, hx7, by rw [List.length_append, hn]; show n + 1 ≤ i6; omega⟩, ?_⟩
          rw [posR_eq h7, posR_eq HR.out]
          exact Nat.sub_lt_sub_left (Nat.lt_trans hl3 hl2) hl3


/-- A block of statements that stand in no other one. -/
theorem blockO_any {W : World} {rb g N cT i o : Nat} {T : List Tok} (h : Rd W rb g N cT T i o) (one : List Tok → PR Sm) (m : Nat) (hx : blockT one m o (T.drop i) ≠ .out) (HLn : ∀ j v r, one (T.drop j) = .ok v r → r.length < (T.drop j).length)
    (HM : ∀ W2 i', Rd W2 rb g N cT T i' (o + 1) → one (T.drop i') ≠ .out → Calls Tryd.prog 57 #[.pointer (some ⟨rb, 0, none⟩)] W2 (TP rb g N cT (o + 1) T W2 (one (T.drop i')))) :
    Calls Tryd.prog 71 #[.pointer (some ⟨rb, 0, none⟩), .func (.func 57) #[.pointer (some ⟨rb, 0, none⟩)] #[]] W (BP rb g N cT o T W (blockT one m o (T.drop i))) := by
  cases b1 : isT (T.drop i) [123] with
  | false =>
    have e : blockT one m o (T.drop i) = .bad (hdT (T.drop i)).at_ 2 := by simp [blockT, enterT, b1, PR.bind]
    rw [e]
    exact bl_no h b1 _
  | true =>
    by_cases ho : o = 256
    · subst ho
      have e : blockT one m 256 (T.drop i) = .bad (hdT (T.drop i)).at_ 3 := by simp [blockT, enterT, b1, PR.bind]
      rw [e]
      exact bl_deep h b1 _
    · have e : blockT one m o (T.drop i) = bodyT one m [] (T.drop (i + 1)) := by simp [blockT, enterT, b1, ho, PR.bind]
      rw [e] at hx ⊢
      exact bo_loop h b1 (by have := h.small; omega) one m _ rfl hx HLn HM

end Go.Proofs.YtaajolemjgdfnaaDoor

/-
  Package parse: while.
-/
namespace Go.Proofs.YtaajolemjgdfnaaDoor
open Go Go.RowKit Go.Lib

set_option maxRecDepth 100000 in
theorem loop_bad1 {W : World} {rb g N cT i o : Nat} {T : List Tok} (h : Rd W rb g N cT T i o) (p c : Nat)
    (HS : ∀ W2, Rd W2 rb g N cT T i o → Calls Tryd.prog 79 #[.pointer (some ⟨rb, 0, none⟩), .int .i64 8] W2 (TP rb g N cT o T W2 (.bad p c))) :
    Calls Tryd.prog 81 #[.pointer (some ⟨rb, 0, none⟩)] W (TP rb g N cT o T W (.bad p c)) := by
  have HSS := Lib.hid HS
  have HR := Lib.hid h
  clear HS h
  go_enter Tryd.func81, Tryd.ntmps81
  go_wp2_with (go_at_call 79; ((with_reducible refine (HSS.out _ (HR.out.alloc _)).mono ?_); rintro e w2 ⟨rfl, g2⟩))
  exact ⟨rfl, rfl, ((Gr.refl rb W).alloc _).trans g2⟩

set_option maxRecDepth 100000 in
theorem loop_bad2' {W : World} {rb g N cT i o : Nat} {T : List Tok} (h : Rd W rb g N cT T i o) (t : Sm) (r1 : List Tok) (p c : Nat)
    (HS : ∀ W2, Rd W2 rb g N cT T i o → Calls Tryd.prog 79 #[.pointer (some ⟨rb, 0, none⟩), .int .i64 8] W2 (TP rb g N cT o T W2 (.ok t r1)))
    (HB : ∀ W2 i', Rd W2 rb g N cT T i' o → T.drop i' = r1 → Calls Tryd.prog 71 #[.pointer (some ⟨rb, 0, none⟩), .func (.func 72) #[.pointer (some ⟨rb, 0, none⟩)] #[]] W2 (BP rb g N cT o T W2 (.bad p c))) :
    Calls Tryd.prog 81 #[.pointer (some ⟨rb, 0, none⟩)] W (TP rb g N cT o T W (.bad p c)) := by
  have HSS := Lib.hid HS
  have HBB := Lib.hid HB
  have HR := Lib.hid h
  clear HS h HB
  go_enter Tryd.func81, Tryd.ntmps81
  go_wp2_with (first
    | (go_at_call 79; ((with_reducible refine (HSS.out _ (HR.out.alloc _)).mono ?_); rintro e w2 ⟨⟨vv, rfl, vl, vx, vy, rfl, hvl, hvx, hvy, hok⟩, ⟨i2, h2, hd⟩, g2⟩; obtain ⟨A1, c1, el1, _⟩ := id hvl; obtain ⟨A2, c2, el2, _⟩ := id hvx; obtain ⟨A3, c3, el3, _⟩ := id hvy; subst el1; subst el2; subst el3))
    | (go_at_call 71; ((with_reducible refine (HBB.out _ i2 (h2.alloc _) hd).mono ?_); rintro e w3 ⟨rfl, g3⟩)))
  exact ⟨rfl, rfl, ((((Gr.refl rb W).alloc _).trans g2).alloc _).trans g3⟩

end Go.Proofs.YtaajolemjgdfnaaDoor

/-
  Package parse: lists of names.
-/
namespace Go.Proofs.YtaajolemjgdfnaaDoor
open Go Go.RowKit Go.Lib

theorem strInfo : (Tryd.prog.info? 9).map (fun i => (i.zero, i.size, i.bytes)) = some (some (.string ⟨#[]⟩), 1, 16) := by kernel_rfl
theorem PsIn.ext {B : Nat} {W W' : World} (h : ∀ b j v, b < B → W.cell? ⟨b, j, none⟩ = some v → W'.cell? ⟨b, j, none⟩ = some v) : ∀ {l : List ByteArray} {b o : Nat}, b < B → PsIn W l b o → PsIn W' l b o
  | [], _, _, _, _ => trivial
  | _ :: _, _, _, hb, ⟨h0, h1, hr⟩ => ⟨h _ _ _ hb h0, h1, PsIn.ext h hb hr⟩
/-- A slice of texts, in a block from lo on. -/
abbrev NX (lo : Nat) (W : World) (v : Value) (l : List ByteArray) : Prop := RowV (PsIn (er lo W) l) W.heap.size l.length v
theorem NX.kp {lo lo' : Nat} {W W' : World} {v : Value} {l : List ByteArray} (hv : NX lo W v l) (h : Kp lo W W') (hl : lo' ≤ lo) : NX lo' W' v l := RowV.imp hv h.size fun _ _ hb hp => PsIn.ext (er_ext h hl) hb hp
theorem nx_nil (lo : Nat) (W : World) : NX lo W (.slice none 0 0) [] := ⟨none, 0, rfl, Nat.le_refl _, by decide, fun h => by simp at h⟩
def okN (l : List ByteArray) : Prop := ∀ s ∈ l, s.size ≤ 9223372036854775807
theorem psin_cells {W : World} {g : Nat} : ∀ {l : List ByteArray} {o : Nat}, okN l → (∀ j u, (l.map Value.string)[j]? = some u → W.cell? ⟨g, o + j, none⟩ = some u) → PsIn W l g o
  | [], _, _, _ => trivial
  | s :: r, o, hok, hq => ⟨hq 0 _ rfl, hok s (List.mem_cons_self ..), psin_cells (fun x hx => hok x (List.mem_cons_of_mem _ hx)) fun j u hu => by
      rw [show o + 1 + j = o + (j + 1) by omega]
      exact hq (j + 1) u (by simpa using hu)⟩
/-- A row of the call's own that holds texts. -/
theorem row_nx {W : World} {base lo n : Nat} {e : TypeId} {v : Value} {l : List ByteArray} (h : W.ownsRow base e 1 v n (l.map Value.string)) (hb : lo ≤ base) (hok : okN l) (hn : n = l.length) : NX lo W v l := by
  rcases h.2 with ⟨rfl, rfl⟩ | ⟨g, cap, cur, rfl, hg, hh, hnc, hcm, hrest⟩
  · have hl : l = [] := List.eq_nil_of_length_eq_zero hn.symm
    subst hl
    exact nx_nil lo W
  · subst hn
    refine ⟨some ⟨g, 0, none⟩, cap, rfl, hnc, by unfold maxLen at hcm; omega, fun _ => ⟨g, 0, rfl, (h.lt g rfl).2, psin_cells hok fun j u hu => ?_⟩⟩
    have hcj := h.cells (g := g) rfl j u hu
    rw [show (⟨g, 0, none⟩ : Addr).add j = ⟨g, j, none⟩ by unfold Addr.add; split <;> simp_all] at hcj
    rw [Nat.zero_add, er_cell, if_neg (by have := (h.lt g rfl).1; omega)]
    exact hcj

/-- What a call that reads a name has done; one that reads names. -/
def NP (rb g N cT o : Nat) (T : List Tok) (W : World) (x : PR ByteArray) (e : Ending) (W' : World) : Prop :=
  match x with
  | .ok s r => e = .returned (.string s) ∧ (∃ i, Rd W' rb g N cT T i o ∧ T.drop i = r) ∧ Gr rb W W' ∧ s.size ≤ 9223372036854775807
  | .bad p c => e = flt p c ∧ Gr rb W W'
  | .out => True
def MP (rb g N cT o : Nat) (T : List Tok) (W : World) (x : PR (List ByteArray)) (e : Ending) (W' : World) : Prop :=
  match x with
  | .ok l r => (∃ vv, e = .returned vv ∧ NX W.heap.size W' vv l) ∧ (∃ i, Rd W' rb g N cT T i o ∧ T.drop i = r) ∧ Gr rb W W'
  | .bad p c => e = flt p c ∧ Gr rb W W'
  | .out => True
theorem nam_any {W : World} {rb g N cT i o : Nat} {T : List Tok} (h : Rd W rb g N cT T i o) :
    Calls Tryd.prog 69 #[.pointer (some ⟨rb, 0, none⟩)] W (NP rb g N cT o T W (nameT (T.drop i))) := by
  unfold nameT
  cases hb : nameB (baT (hdT (T.drop i)).text) with
  | false =>
    rw [if_neg (by decide)]
    exact (name_no h hb _ rfl).mono fun e w1 ⟨h1, h2⟩ => ⟨h1, Gr.of h2⟩
  | true =>
    rw [if_pos rfl]
    exact (name_yes h _ rfl hb).mono fun e w1 ⟨h1, h2, h3⟩ => ⟨h1, ⟨i + 1, h2, (drop_tail T i).symm⟩, h3, h.text⟩
theorem nam_ne (ts : List Tok) : nameT ts ≠ .out := by unfold nameT; split <;> intro e <;> cases e
theorem nam_left {ts : List Tok} {v : ByteArray} {r : List Tok} (h : nameT ts = .ok v r) : r.length ≤ ts.length := by
  unfold nameT at h
  split at h
  · injection h with _ h2; rw [← h2]; simp
  · cases h
abbrev ovN (rb : Nat) : Value := .func (.func 69) #[.pointer (some ⟨rb, 0, none⟩)] #[]

/-- One thing more behind a row of the call's own: the reader, and what was there. -/
theorem app_step {W wr w3 w4 : World} {O : Obj} {rb g N cT i o : Nat} {T : List Tok} {vv : Value}
    (hG : Gr rb W wr) (hrow : ∀ k, vv.ownBlock = some k → W.heap.size ≤ k) (g3 : Gr rb wr w3) (h3 : Rd w3 rb g N cT T i o)
    (hgrow : (w3.alloc O).grownBy w4 vv.ownBlock) (hrl : rb < W.heap.size) (hgl : g < W.heap.size) : Rd w4 rb g N cT T i o ∧ Gr rb W w4 := by
  have z1 := hG.size
  have z2 := g3.size
  have z3 : (w3.alloc O).heap.size = w3.heap.size + 1 := by simp
  have z4 := World.grownBy.size hgrow
  have hlow : ∀ k, k < W.heap.size → w4.heap[k]? = w3.heap[k]? := fun k hk => (World.grownBy.block hgrow k (by omega) (fun e => by have := hrow k e.symm; omega)).trans (Below.heap_alloc w3 O k (by omega))
  have cc : ∀ j, w4.cell? ⟨rb, j, none⟩ = w3.cell? ⟨rb, j, none⟩ := fun j => World.cell?_of_block (a := ⟨rb, j, none⟩) (hlow rb hrl)
  have ff : ∀ j, w4.frozen? ⟨rb, j, none⟩ = w3.frozen? ⟨rb, j, none⟩ := fun j => World.frozen?_of_block (a := ⟨rb, j, none⟩) (hlow rb hrl)
  have h13 := (hG.trans g3).alloc O
  exact ⟨⟨(cc 0).trans h3.c0, (cc 1).trans h3.c1, (cc 2).trans h3.c2, fun j => (ff j).trans (h3.fz j), by omega, h3.tok.step (by omega) (hlow g hgl), h3.ne, h3.len, h3.lt, h3.small, h3.good⟩,
    (World.grownBy.os hgrow).trans (World.grownBy.os h13), (World.grownBy.tape hgrow).trans (World.grownBy.tape h13), (World.grownBy.output hgrow).trans (World.grownBy.output h13), by omega, fun k hk hne => (hlow k hk).trans (World.grownBy.block (hG.trans g3) k hk hne)⟩

set_option maxRecDepth 100000 in
theorem nv_no {W : World} {rb g N cT i o : Nat} {T : List Tok} (h : Rd W rb g N cT T i o) (b1 : isT (T.drop i) [40] = false) :
    Calls Tryd.prog 70 #[.pointer (some ⟨rb, 0, none⟩), ovN rb] W (MP rb g N cT o T W (.bad (hdT (T.drop i)).at_ 2)) := by
  have HE := Lib.hid (show Calls Tryd.prog 76 #[.pointer (some ⟨rb, 0, none⟩), .string ⟨#[40]⟩] W fun e w' => e = flt (hdT (T.drop i)).at_ 2 ∧ Below W.heap.size W w' from enter_no h [40] b1 _ rfl)
  clear h b1
  go_enter Tryd.func70, Tryd.ntmps70
  go_wp2_with (go_at_call 76; ((with_reducible refine HE.out.mono ?_); rintro e w2 ⟨rfl, g2⟩))
  exact ⟨rfl, rfl, Gr.of g2⟩

set_option maxRecDepth 100000 in
theorem nv_deep {W : World} {rb g N cT i : Nat} {T : List Tok} (h : Rd W rb g N cT T i 256) (b1 : isT (T.drop i) [40] = true) :
    Calls Tryd.prog 70 #[.pointer (some ⟨rb, 0, none⟩), ovN rb] W (MP rb g N cT 256 T W (.bad (hdT (T.drop i)).at_ 3)) := by
  have HE := Lib.hid (show Calls Tryd.prog 76 #[.pointer (some ⟨rb, 0, none⟩), .string ⟨#[40]⟩] W fun e w' => e = flt (hdT (T.drop i)).at_ 3 ∧ Below W.heap.size W w' from enter_deep h [40] b1 _ rfl)
  clear h b1
  go_enter Tryd.func70, Tryd.ntmps70
  go_wp2_with (go_at_call 76; ((with_reducible refine HE.out.mono ?_); rintro e w2 ⟨rfl, g2⟩))
  exact ⟨rfl, rfl, Gr.of g2⟩

set_option maxRecDepth 100000 in
theorem nv_none {W : World} {rb g N cT i o : Nat} {T : List Tok} (h : Rd W rb g N cT T i o) (b1 : isT (T.drop i) [40] = true) (ho : o < 256) (b2 : isT (T.drop (i + 1)) [41] = true) :
    Calls Tryd.prog 70 #[.pointer (some ⟨rb, 0, none⟩), ovN rb] W (MP rb g N cT o T W (.ok [] (T.drop (i + 2)))) := by
  have HE := Lib.hid (show Calls Tryd.prog 76 #[.pointer (some ⟨rb, 0, none⟩), .string ⟨#[40]⟩] W fun e w' => e = .returned (.tuple #[]) ∧ Rd w' rb g N cT T (i + 1) (o + 1) ∧ Gr rb W w' from enter_yes h [40] (by decide) b1 ho)
  have HI := Lib.hid (fun w1 (h1 : Rd w1 rb g N cT T (i + 1) (o + 1)) => (show Calls Tryd.prog 53 #[.pointer (some ⟨rb, 0, none⟩), .string ⟨#[41]⟩] w1 fun e w' => e = .returned (.bool true) ∧ Below w1.heap.size w1 w' from is_any h1 [41] true b2))
  have HL := Lib.hid (fun w1 (h1 : Rd w1 rb g N cT T (i + 1) (o + 1)) => (show Calls Tryd.prog 77 #[.pointer (some ⟨rb, 0, none⟩), .string ⟨#[41]⟩] w1 fun e w' => e = .returned (.tuple #[]) ∧ Rd w' rb g N cT T (i + 1 + 1) o ∧ Gr rb w1 w' from leave_yes h1 [41] (by decide) b2))
  clear h b1 b2
  go_enter Tryd.func70, Tryd.ntmps70
  go_wp2_with (first
    | (go_at_call 76; ((with_reducible refine HE.out.mono ?_); rintro e w1 ⟨rfl, h1, g1⟩))
    | (go_at_call 53; ((with_reducible refine (HI.out _ h1).mono ?_); rintro e w2 ⟨rfl, e2⟩; have h2 := h1.below e2))
    | (go_at_call 77; ((with_reducible refine (HL.out _ h2).mono ?_); rintro e w3 ⟨rfl, h3, g3⟩)))
  go_ret
  exact ⟨⟨_, rfl, nx_nil _ _⟩, ⟨i + 1 + 1, h3, rfl⟩, g1.trans ((Gr.of e2).trans g3)⟩

set_option maxRecDepth 100000 in
theorem nv_first {W : World} {rb g N cT i o : Nat} {T : List Tok} (h : Rd W rb g N cT T i o) (b1 : isT (T.drop i) [40] = true) (ho : o < 256) (b2 : isT (T.drop (i + 1)) [41] = false) (p c : Nat)
    (hv : nameT (T.drop (i + 1)) = .bad p c) :
    Calls Tryd.prog 70 #[.pointer (some ⟨rb, 0, none⟩), ovN rb] W (MP rb g N cT o T W (.bad p c)) := by
  have HE := Lib.hid (show Calls Tryd.prog 76 #[.pointer (some ⟨rb, 0, none⟩), .string ⟨#[40]⟩] W fun e w' => e = .returned (.tuple #[]) ∧ Rd w' rb g N cT T (i + 1) (o + 1) ∧ Gr rb W w' from enter_yes h [40] (by decide) b1 ho)
  have HI := Lib.hid (fun w1 (h1 : Rd w1 rb g N cT T (i + 1) (o + 1)) => (show Calls Tryd.prog 53 #[.pointer (some ⟨rb, 0, none⟩), .string ⟨#[41]⟩] w1 fun e w' => e = .returned (.bool false) ∧ Below w1.heap.size w1 w' from is_any h1 [41] false b2))
  have HSS := Lib.hid (fun w1 (h1 : Rd w1 rb g N cT T (i + 1) (o + 1)) => (show Calls Tryd.prog 69 #[.pointer (some ⟨rb, 0, none⟩)] w1 (NP rb g N cT (o + 1) T w1 (.bad p c)) from hv ▸ nam_any h1))
  clear h b1 b2 hv
  go_enter Tryd.func70, Tryd.ntmps70
  go_wp2_with (first
    | (go_at_call 76; ((with_reducible refine HE.out.mono ?_); rintro e w1 ⟨rfl, h1, g1⟩))
    | (go_at_call 53; ((with_reducible refine (HI.out _ h1).mono ?_); rintro e w2 ⟨rfl, e2⟩; have h2 := h1.below e2))
    | (go_at_call 69; ((with_reducible refine (HSS.out _ h2).mono ?_); rintro e w3 ⟨rfl, g3⟩)))
  exact ⟨rfl, rfl, g1.trans ((Gr.of e2).trans g3)⟩

/-- At the head of each round: the names so far lie in a row of the call's own. -/
def NRel (rb g N cT o : Nat) (T : List Tok) (W : World) (y : PR (List ByteArray)) (v : Value) (wr : World) : Prop :=
  ∃ m l i, moreT nameT m l (T.drop i) = y ∧ Rd wr rb g N cT T i (o + 1) ∧ Gr rb W wr ∧ wr.ownsRow W.heap.size 9 1 v l.length (l.map Value.string) ∧ okN l ∧ l ≠ [] ∧ l.length ≤ 8
theorem strg_one (s : ByteArray) : ∀ u ∈ [Value.string s], u.oneCell' = true := by
  intro u hu
  simp only [List.mem_cons, List.not_mem_nil, or_false] at hu
  rw [hu]; rfl
theorem str_cells (w3 : World) (s : ByteArray) : ∀ j u, [Value.string s][j]? = some u → (w3.alloc (.cells #[.string s] 9)).cell? ((⟨w3.heap.size, 0, none⟩ : Addr).add j) = some u := by
  intro j u hu
  rw [show (⟨w3.heap.size, 0, none⟩ : Addr).add j = ⟨w3.heap.size, j, none⟩ by unfold Addr.add; split <;> simp_all, box_cell (heap_alloc_new w3 _)]
  simpa using hu
theorem okN_snoc {l : List ByteArray} {s : ByteArray} (h : okN l) (hs : s.size ≤ 9223372036854775807) : okN (l ++ [s]) := by
  intro x hx
  rcases List.mem_append.1 hx with h1 | h1
  · exact h x h1
  · rw [List.mem_singleton.1 h1]; exact hs

set_option maxRecDepth 100000 in
theorem nv_loop {W : World} {rb g N cT i o : Nat} {T : List Tok} (h : Rd W rb g N cT T i o) (b1 : isT (T.drop i) [40] = true) (ho : o < 256) (b2 : isT (T.drop (i + 1)) [41] = false) (v : ByteArray) (r : List Tok) (m : Nat) (y : PR (List ByteArray)) (hy : moreT nameT m [v] r = y) (hyo : y ≠ .out)
    (hv : nameT (T.drop (i + 1)) = .ok v r) :
    Calls Tryd.prog 70 #[.pointer (some ⟨rb, 0, none⟩), ovN rb] W (MP rb g N cT o T W y) := by
  have HE := Lib.hid (show Calls Tryd.prog 76 #[.pointer (some ⟨rb, 0, none⟩), .string ⟨#[40]⟩] W fun e w' => e = .returned (.tuple #[]) ∧ Rd w' rb g N cT T (i + 1) (o + 1) ∧ Gr rb W w' from enter_yes h [40] (by decide) b1 ho)
  have HI := Lib.hid (fun w1 (h1 : Rd w1 rb g N cT T (i + 1) (o + 1)) => (show Calls Tryd.prog 53 #[.pointer (some ⟨rb, 0, none⟩), .string ⟨#[41]⟩] w1 fun e w' => e = .returned (.bool false) ∧ Below w1.heap.size w1 w' from is_any h1 [41] false b2))
  have HSS := Lib.hid (fun w1 (h1 : Rd w1 rb g N cT T (i + 1) (o + 1)) => (show Calls Tryd.prog 69 #[.pointer (some ⟨rb, 0, none⟩)] w1 (NP rb g N cT (o + 1) T w1 (.ok v r)) from hv ▸ nam_any h1))
  have HY := Lib.hid hy
  have hrl := h.rlt
  have hgl := h.tok.1
  clear h b1 b2 hv hy
  obtain ⟨i0, hi, hz0, hz1, hz2⟩ := info_parts strInfo
  go_enter Tryd.func70, Tryd.ntmps70
  go_wp2_with (first
    | (go_at_call 76; ((with_reducible refine HE.out.mono ?_); rintro e w1 ⟨rfl, h1, g1⟩))
    | (go_at_call 53; ((with_reducible refine (HI.out _ h1).mono ?_); rintro e w2 ⟨rfl, e2⟩; have h2 := h1.below e2))
    | (go_at_call 69; ((with_reducible refine (HSS.out _ h2).mono ?_); rintro e w3 ⟨rfl, ⟨i3, h3, hd⟩, g3, hok⟩))
    | (at_builtin; refine step_append_at rfl (.tmp 11) (.tmp 14) 31 rfl W.heap.size 9 i0 _ 1 16 Tryd.underlying31 hi hz0 hz1 hz2 rfl (by decide) (.slice none 0 0) 0 [] rfl (World.ownsRow_nil _ _ _ _) ⟨w3.heap.size, 0, none⟩ 1 1 [Value.string v] rfl rfl (str_cells w3 v) (strg_one v) (by unfold maxLen; omega) (by omega) (by have := g1.size; have := e2.size; have := g3.size; simp; omega) ?_; intro v1 w4 hown1 hgrow1 _ hat1))
  obtain ⟨h4, g4⟩ := app_step (vv := .slice none 0 0) (g1.trans (Gr.of e2)) (fun k hk => by cases hk) g3 h3 hgrow1 hrl hgl
  have hstart : NRel rb g N cT o T W y v1 w4 := ⟨m, [v], i3, by rw [hd]; exact HY.out, h4, g4, hown1, fun x hx => by rw [List.mem_singleton.1 hx]; exact hok, by simp, by simp⟩
  clear h4 g4 hat1 hgrow1 hown1 hok hd h3 g3 e2 h2 h1 g1 HSS HE HI HY
  go_loopw [5] (fun s wr => NRel rb g N cT o T W y s wr) (fun _ wr => posR rb N wr)
  case atStart => exact hstart
  case round =>
    clear hstart
    obtain ⟨m, l, i, hy, hR, hG, hown, hx, hne, hl8⟩ := hrel
    cases m with
    | zero => exact absurd hy.symm hyo
    | succ m =>
      rw [moreT] at hy
      obtain ⟨n, hn⟩ : ∃ n, l.length = n := ⟨_, rfl⟩
      rw [hn] at hown hl8 hy
      obtain ⟨g', cap', rfl⟩ : ∃ g' cap', u5 = .slice (some ⟨g', 0, none⟩) n cap' := by
        rcases hown.2 with ⟨_, h0⟩ | ⟨g', cap', cur, e, _⟩
        · exact absurd (List.eq_nil_of_length_eq_zero (hn.trans h0)) hne
        · exact ⟨g', cap', e⟩
      have hg' := hown.lt g' rfl
      have HR := Lib.hid hR
      cases b : isT (T.drop i) [44] with
      | false =>
        have HT := Lib.hid (show Calls Tryd.prog 75 #[.pointer (some ⟨rb, 0, none⟩), .string ⟨#[44]⟩] wr fun e w' => e = .returned (.bool false) ∧ Below wr.heap.size wr w' from take_no hR [44] b)
        rw [b, if_neg (by decide), wantT] at hy
        by_cases c : isT (T.drop i) [41] = true
        · rw [if_pos c] at hy
          have HL := Lib.hid (fun w1 (h1 : Rd w1 rb g N cT T i (o + 1)) => (show Calls Tryd.prog 77 #[.pointer (some ⟨rb, 0, none⟩), .string ⟨#[41]⟩] w1 fun e w' => e = .returned (.tuple #[]) ∧ Rd w' rb g N cT T (i + 1) o ∧ Gr rb w1 w' from leave_yes h1 [41] (by decide) c))
          clear hR
          go_wp2_with (first
            | (go_at_call 75; ((with_reducible refine HT.out.mono ?_); rintro e' w5 ⟨rfl, e5⟩; have h5 := HR.out.below e5))
            | (go_at_call 77; ((with_reducible refine (HL.out _ h5).mono ?_); rintro e' w6 ⟨rfl, h6, g6⟩)))
          go_ret
          have g7 := (Gr.of e5).trans g6
          rw [← hy]
          refine ⟨⟨_, rfl, row_nx (hown.kept g7 (.inr (by simp only [Value.ownBlock, ne_eq, Option.some.injEq]; omega))) (Nat.le_refl _) hx hn.symm⟩, ⟨i + 1, h6, (drop_tail T i).symm⟩, hG.trans g7⟩
        · rw [if_neg c] at hy
          have HL := Lib.hid (fun w1 (h1 : Rd w1 rb g N cT T i (o + 1)) => (show Calls Tryd.prog 77 #[.pointer (some ⟨rb, 0, none⟩), .string ⟨#[41]⟩] w1 fun e w' => e = flt (hdT (T.drop i)).at_ 2 ∧ Below w1.heap.size w1 w' from leave_no h1 [41] (by simpa using c) _ rfl))
          clear hR
          go_wp2_with (first
            | (go_at_call 75; ((with_reducible refine HT.out.mono ?_); rintro e' w5 ⟨rfl, e5⟩; have h5 := HR.out.below e5))
            | (go_at_call 77; ((with_reducible refine (HL.out _ h5).mono ?_); rintro e' w6 ⟨rfl, e6⟩)))
          rw [← hy]
          exact ⟨rfl, rfl, hG.trans ((Gr.of e5).trans (Gr.of e6))⟩
      | true =>
        have HT := Lib.hid (show Calls Tryd.prog 75 #[.pointer (some ⟨rb, 0, none⟩), .string ⟨#[44]⟩] wr fun e w' => e = .returned (.bool true) ∧ Rd w' rb g N cT T (i + 1) (o + 1) ∧ Gr rb wr w' from take_yes hR [44] (by decide) b)
        rw [b, if_pos rfl, drop_tail] at hy
        clear hR
        by_cases h8 : n = 8
        · subst h8
          rw [if_pos rfl] at hy
          have HF := Lib.hid (fun w1 (h1 : Rd w1 rb g N cT T (i + 1) (o + 1)) => fail_any h1 10 _ 10 rfl rfl)
          go_wp2_with (first
            | (go_at_call 75; ((with_reducible refine HT.out.mono ?_); rintro e' w5 ⟨rfl, h5, g5⟩))
            | (go_at_call 54; ((with_reducible refine (HF.out _ h5).mono ?_); rintro e' w6 ⟨rfl, e6⟩)))
          rw [← hy]
          exact ⟨rfl, rfl, hG.trans (g5.trans (Gr.of e6))⟩
        · rw [if_neg h8] at hy
          have d8 : decide ((n : Int) = 8) = false := decide_eq_false (by omega)
          cases hxv : nameT (T.drop (i + 1)) with
          | out => exact absurd hxv (nam_ne _)
          | bad p c =>
            rw [hxv] at hy
            have HX := Lib.hid (fun w1 (h1 : Rd w1 rb g N cT T (i + 1) (o + 1)) => (show Calls Tryd.prog 69 #[.pointer (some ⟨rb, 0, none⟩)] w1 (NP rb g N cT (o + 1) T w1 (.bad p c)) from hxv ▸ nam_any h1))
            go_wp2_with (first
              | (go_at_call 75; ((with_reducible refine HT.out.mono ?_); rintro e' w5 ⟨rfl, h5, g5⟩))
              | (go_at_call 69; ((with_reducible refine (HX.out _ h5).mono ?_); rintro e' w6 ⟨rfl, g6⟩)))
            rw [← hy]
            exact ⟨rfl, rfl, hG.trans (g5.trans g6)⟩
          | ok v2 r2 =>
            rw [hxv] at hy
            have HX := Lib.hid (fun w1 (h1 : Rd w1 rb g N cT T (i + 1) (o + 1)) => (show Calls Tryd.prog 69 #[.pointer (some ⟨rb, 0, none⟩)] w1 (NP rb g N cT (o + 1) T w1 (.ok v2 r2)) from hxv ▸ nam_any h1))
            go_wp2_with (first
              | (go_at_call 75; ((with_reducible refine HT.out.mono ?_); rintro e' w5 ⟨rfl, h5, g5⟩))
              | (go_at_call 69; ((with_reducible refine (HX.out _ h5).mono ?_); rintro e' w6 ⟨rfl, ⟨i6, h6, hd⟩, g6, hok⟩))
              | (at_builtin; refine step_append_at rfl (.tmp 23) (.tmp 26) 31 rfl W.heap.size 9 i0 _ 1 16 Tryd.underlying31 hi hz0 hz1 hz2 rfl (by decide) (.slice (some ⟨g', 0, none⟩) n cap') n (l.map Value.string) rfl ((hown.kept (g5.trans g6) (.inr (by simp only [Value.ownBlock, ne_eq, Option.some.injEq]; omega))).alloc _) ⟨w6.heap.size, 0, none⟩ 1 1 [Value.string v2] rfl rfl (str_cells w6 v2) (strg_one v2) (by unfold maxLen; omega) (by omega) (by have := hG.size; have := g5.size; have := g6.size; simp; omega) ?_; intro v7 w7 hown7 hgrow7 _ hat7))
            obtain ⟨h7, g7⟩ := app_step (hG.trans g5) (fun k hk => (hown.lt k hk).1) g6 h6 hgrow7 hrl hgl
            refine ⟨⟨m, l ++ [v2], i6, by rw [hd]; exact hy, h7, g7, by rw [List.length_append, hn, List.map_append]; exact hown7, okN_snoc hx hok, by simp, by rw [List.length_append, hn]; show n + 1 ≤ 8; omega⟩, ?_⟩
            rw [posR_eq h7, posR_eq HR.out]
            have hl2 := h6.lt
            have hl1 := h6.len
            have hlen2 := nam_left hxv
            rw [← hd, List.length_drop, List.length_drop] at hlen2
            have hl3 : i < i6 := by omega
            exact Nat.sub_lt_sub_left (Nat.lt_trans hl3 hl2) hl3

/-- A list of names, whole. -/
theorem names_any {W : World} {rb g N cT i o : Nat} {T : List Tok} (h : Rd W rb g N cT T i o) (m : Nat) (hx : severalT nameT m o (T.drop i) ≠ .out) :
    Calls Tryd.prog 70 #[.pointer (some ⟨rb, 0, none⟩), ovN rb] W (MP rb g N cT o T W (severalT nameT m o (T.drop i))) := by
  cases b1 : isT (T.drop i) [40] with
  | false =>
    have e : severalT nameT m o (T.drop i) = .bad (hdT (T.drop i)).at_ 2 := by simp [severalT, enterT, b1, PR.bind]
    rw [e]
    exact nv_no h b1
  | true =>
    by_cases ho : o = 256
    · subst ho
      have e : severalT nameT m 256 (T.drop i) = .bad (hdT (T.drop i)).at_ 3 := by simp [severalT, enterT, b1, PR.bind]
      rw [e]
      exact nv_deep h b1
    · have ho' : o < 256 := by have := h.small; omega
      have e : severalT nameT m o (T.drop i) = if isT (T.drop (i + 1)) [41] then .ok [] (T.drop (i + 2)) else (nameT (T.drop (i + 1))).bind fun x r => moreT nameT m [x] r := by
        by_cases b2 : isT (T.drop (i + 1)) [41] = true <;> simp [severalT, enterT, wantT, b1, ho, b2, PR.bind]
      rw [e] at hx ⊢
      cases b2 : isT (T.drop (i + 1)) [41] with
      | true => exact nv_none h b1 ho' b2
      | false =>
        rw [b2, if_neg (by decide)] at hx
        rw [if_neg (by decide)]
        cases hxv : nameT (T.drop (i + 1)) with
        | out => exact absurd hxv (nam_ne _)
        | bad p c => exact nv_first h b1 ho' b2 p c hxv
        | ok v r =>
          rw [hxv] at hx
          exact nv_loop h b1 ho' b2 v r m _ rfl hx hxv

end Go.Proofs.YtaajolemjgdfnaaDoor

