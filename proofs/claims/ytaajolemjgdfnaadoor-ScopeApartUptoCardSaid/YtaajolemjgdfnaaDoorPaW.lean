/-
  Texts PaV PaW: put together.
-/
import Derived.Test.YtaajolemjgdfnaaDoorPaO
/-
  Package parse: lists of expressions that are not empty.
-/
namespace Go.Proofs.YtaajolemjgdfnaaDoor
open Go Go.RowKit Go.Lib

theorem exInfo : (Tryd.prog.info? 43).map (fun i => (i.zero, i.size, i.bytes)) = some (some (.agg #[.int .i64 0, .int .i64 0, .string ⟨#[]⟩, .slice none 0 0]), 4, 56) := by kernel_rfl

set_option maxRecDepth 100000 in
theorem sv_first {W : World} {rb g N cT i o : Nat} {T : List Tok} (h : Rd W rb g N cT T i o) (b1 : isT (T.drop i) [40] = true) (ho : o < 256) (b2 : isT (T.drop (i + 1)) [41] = false) (p c : Nat)
    (HS : ∀ W2, Rd W2 rb g N cT T (i + 1) (o + 1) → Calls Tryd.prog 85 #[.pointer (some ⟨rb, 0, none⟩)] W2 (XP rb g N cT (o + 1) T W2 (.bad p c))) :
    Calls Tryd.prog 92 #[.pointer (some ⟨rb, 0, none⟩), ovE rb] W (LP rb g N cT o T W (.bad p c)) := by
  have HE := Lib.hid (show Calls Tryd.prog 76 #[.pointer (some ⟨rb, 0, none⟩), .string ⟨#[40]⟩] W fun e w' => e = .returned (.tuple #[]) ∧ Rd w' rb g N cT T (i + 1) (o + 1) ∧ Gr rb W w' from enter_yes h [40] (by decide) b1 ho)
  have HI := Lib.hid (fun w1 (h1 : Rd w1 rb g N cT T (i + 1) (o + 1)) => (show Calls Tryd.prog 53 #[.pointer (some ⟨rb, 0, none⟩), .string ⟨#[41]⟩] w1 fun e w' => e = .returned (.bool false) ∧ Below w1.heap.size w1 w' from is_any h1 [41] false b2))
  have HSS := Lib.hid HS
  clear h b1 b2 HS
  go_enter Tryd.func92, Tryd.ntmps92
  go_wp2_with (first
    | (go_at_call 76; ((with_reducible refine HE.out.mono ?_); rintro e w1 ⟨rfl, h1, g1⟩))
    | (go_at_call 53; ((with_reducible refine (HI.out _ h1).mono ?_); rintro e w2 ⟨rfl, e2⟩; have h2 := h1.below e2))
    | (go_at_call 85; ((with_reducible refine (HSS.out _ h2).mono ?_); rintro e w3 ⟨rfl, g3⟩)))
  exact ⟨rfl, rfl, g1.trans ((Gr.of e2).trans g3)⟩

/-- The blocks of the call's own but for the row's. -/
abbrev rowp (L : Nat) (v : Value) : Nat → Prop := fun k => L ≤ k ∧ v.ownBlock ≠ some k
/-- At the head of each round: the expressions so far lie in a row of the call's own. -/
def SRel (ex : List Tok → PR Ex) (rb g N cT o : Nat) (T : List Tok) (W : World) (y : PR (List Ex)) (v : Value) (wr : World) : Prop :=
  ∃ m l cs i, moreT ex m l (T.drop i) = y ∧ Rd wr rb g N cT T i (o + 1) ∧ Gr rb W wr ∧ wr.ownsRow W.heap.size 43 4 v l.length cs ∧ xCs (rowp W.heap.size v) wr l cs ∧ l ≠ [] ∧ l.length ≤ 8

/-- The cells that an expression is appended as. -/
abbrev news (e : Ex) (A : Option Addr) (c : Nat) : List Value := [.int .i64 e.op, .int .i64 e.n, .string e.s, .slice A e.l.len c]
theorem news_one (e : Ex) (A : Option Addr) (c : Nat) : ∀ u ∈ news e A c, u.oneCell' = true := by
  intro u hu
  simp only [news, List.mem_cons, List.not_mem_nil, or_false] at hu
  rcases hu with rfl | rfl | rfl | rfl <;> rfl
theorem news_cells (w3 : World) (e : Ex) (A : Option Addr) (c : Nat) : ∀ j u, (news e A c)[j]? = some u → (w3.alloc (.cells #[.int .i64 e.op, .int .i64 e.n, .string e.s, .slice A e.l.len c] 43)).cell? ((⟨w3.heap.size, 0, none⟩ : Addr).add j) = some u := by
  intro j u hu
  rw [show (⟨w3.heap.size, 0, none⟩ : Addr).add j = ⟨w3.heap.size, j, none⟩ by unfold Addr.add; split <;> simp_all, box_cell (heap_alloc_new w3 _)]
  simpa using hu
/-- One more expression. -/
theorem sv_step {W wr w3 w4 : World} {O : Obj} {rb g N cT i o c n : Nat} {T : List Tok} {E : TypeId} {l : List Ex} {e : Ex} {cs : List Value} {vv v1 : Value} {Al : Option Addr}
    (hG : Gr rb W wr) (hown : wr.ownsRow W.heap.size E 4 vv n cs) (hx : xCs (rowp W.heap.size vv) wr l cs) (g3 : Gr rb wr w3) (hv : EX wr.heap.size w3 (.slice Al e.l.len c) e.l) (hok : okE e) (h3 : Rd w3 rb g N cT T i o)
    (hgrow : (w3.alloc O).grownBy w4 vv.ownBlock) (hat : ∀ k, v1.ownBlock = some k → vv.ownBlock = some k ∨ (w3.alloc O).heap.size ≤ k) (hrl : rb < W.heap.size) (hgl : g < W.heap.size) :
    Rd w4 rb g N cT T i o ∧ Gr rb W w4 ∧ xCs (rowp W.heap.size v1) w4 (l ++ [e]) (cs ++ news e Al c) := by
  have z1 := hG.size
  have z2 := g3.size
  have z3 : (w3.alloc O).heap.size = w3.heap.size + 1 := by simp
  have z4 := hgrow.size
  have hrow := hown.lt
  have hba : ∀ k, k < w3.heap.size → vv.ownBlock ≠ some k → w4.heap[k]? = w3.heap[k]? := fun k hk hne => (hgrow.block k (by omega) (fun e => hne e.symm)).trans (Below.heap_alloc w3 O k hk)
  have hlow : ∀ k, k < W.heap.size → w4.heap[k]? = w3.heap[k]? := fun k hk => hba k (by omega) (fun e => by have := (hrow k e).1; omega)
  have hr := hlow rb hrl
  have hgb := hlow g hgl
  have cc : ∀ j, w4.cell? ⟨rb, j, none⟩ = w3.cell? ⟨rb, j, none⟩ := fun j => World.cell?_of_block (a := ⟨rb, j, none⟩) hr
  have ff : ∀ j, w4.frozen? ⟨rb, j, none⟩ = w3.frozen? ⟨rb, j, none⟩ := fun j => World.frozen?_of_block (a := ⟨rb, j, none⟩) hr
  refine ⟨⟨(cc 0).trans h3.c0, (cc 1).trans h3.c1, (cc 2).trans h3.c2, fun j => (ff j).trans (h3.fz j), by omega, h3.tok.step (by omega) hgb, h3.ne, h3.len, h3.lt, h3.small, h3.good⟩, ?_, ?_⟩
  · have h13 := (hG.trans g3).alloc O
    exact ⟨(World.grownBy.os hgrow).trans (World.grownBy.os h13), (World.grownBy.tape hgrow).trans (World.grownBy.tape h13), (World.grownBy.output hgrow).trans (World.grownBy.output h13), by omega, fun k hk hne => (hlow k hk).trans (World.grownBy.block (hG.trans g3) k hk hne)⟩
  · refine xCs.snoc (EY.of_ex hv ⟨by omega, fun k hk hl => hba k hl (fun e => by have := (hrow k e).2; omega)⟩ fun k hk hl => ⟨by omega, fun e => ?pa⟩) hok (xCs.kp (by omega) (fun k hk hl => ?pb) (fun k hk hl => ⟨hk.1, fun e => ?pc⟩) hx)
    case pa =>
      rcases hat k e with e | e
      · have := (hrow k e).2; omega
      · omega
    case pb => exact (hba k (by omega) hk.2).trans (g3.block hl (by have := hk.1; omega))
    case pc =>
      rcases hat k e with e | e
      · exact hk.2 e
      · omega

set_option maxRecDepth 100000 in
theorem sv_loop {W : World} {rb g N cT i o : Nat} {T : List Tok} (h : Rd W rb g N cT T i o) (b1 : isT (T.drop i) [40] = true) (ho : o < 256) (b2 : isT (T.drop (i + 1)) [41] = false) (ex : List Tok → PR Ex) (v : Ex) (r : List Tok) (m : Nat) (y : PR (List Ex)) (hy : moreT ex m [v] r = y) (hyo : y ≠ .out) (HLn : ∀ ts v r, ex ts = .ok v r → r.length ≤ ts.length)
    (HS : ∀ W2, Rd W2 rb g N cT T (i + 1) (o + 1) → Calls Tryd.prog 85 #[.pointer (some ⟨rb, 0, none⟩)] W2 (XP rb g N cT (o + 1) T W2 (.ok v r)))
    (HM : ∀ W2 i', Rd W2 rb g N cT T i' (o + 1) → ex (T.drop i') ≠ .out → Calls Tryd.prog 85 #[.pointer (some ⟨rb, 0, none⟩)] W2 (XP rb g N cT (o + 1) T W2 (ex (T.drop i')))) :
    Calls Tryd.prog 92 #[.pointer (some ⟨rb, 0, none⟩), ovE rb] W (LP rb g N cT o T W y) := by
  have HE := Lib.hid (show Calls Tryd.prog 76 #[.pointer (some ⟨rb, 0, none⟩), .string ⟨#[40]⟩] W fun e w' => e = .returned (.tuple #[]) ∧ Rd w' rb g N cT T (i + 1) (o + 1) ∧ Gr rb W w' from enter_yes h [40] (by decide) b1 ho)
  have HI := Lib.hid (fun w1 (h1 : Rd w1 rb g N cT T (i + 1) (o + 1)) => (show Calls Tryd.prog 53 #[.pointer (some ⟨rb, 0, none⟩), .string ⟨#[41]⟩] w1 fun e w' => e = .returned (.bool false) ∧ Below w1.heap.size w1 w' from is_any h1 [41] false b2))
  have HSS := Lib.hid HS
  have HMM := Lib.hid HM
  have HY := Lib.hid hy
  have hrl := h.rlt
  have hgl := h.tok.1
  clear h b1 b2 HS HM hy
  obtain ⟨i0, hi, hz0, hz1, hz2⟩ := info_parts exInfo
  go_enter Tryd.func92, Tryd.ntmps92
  go_wp2_with (first
    | (go_at_call 76; ((with_reducible refine HE.out.mono ?_); rintro e w1 ⟨rfl, h1, g1⟩))
    | (go_at_call 53; ((with_reducible refine (HI.out _ h1).mono ?_); rintro e w2 ⟨rfl, e2⟩; have h2 := h1.below e2))
    | (go_at_call 85; ((with_reducible refine (HSS.out _ h2).mono ?_); rintro e w3 ⟨⟨vv, rfl, vl, rfl, hv, hok⟩, ⟨i3, h3, hd⟩, g3⟩; obtain ⟨Al, cl, el, _⟩ := id hv; subst el))
    | (at_builtin; refine step_append_at rfl (.tmp 11) (.tmp 14) 41 rfl W.heap.size 43 i0 _ 4 56 Tryd.underlying41 hi hz0 hz1 hz2 rfl (by decide) (.slice none 0 0) 0 [] rfl (World.ownsRow_nil _ _ _ _) ⟨w3.heap.size, 0, none⟩ 1 1 (news v Al cl) rfl rfl (news_cells w3 v Al cl) (news_one v Al cl) (by unfold maxLen; omega) (by omega) (by have := g1.size; have := e2.size; have := g3.size; simp; omega) ?_; intro v1 w4 hown1 hgrow1 _ hat1))
  have hst := sv_step (l := []) (cs := []) (vv := .slice none 0 0) (n := 0) (g1.trans (Gr.of e2)) (World.ownsRow_nil _ _ 43 4) rfl g3 hv hok h3 hgrow1 hat1 hrl hgl
  obtain ⟨h4, g4, hx4⟩ := hst
  have hstart : SRel ex rb g N cT o T W y v1 w4 := ⟨m, [v], _, i3, by rw [hd]; exact HY.out, h4, g4, hown1, hx4, by simp, by simp⟩
  clear h4 g4 hx4 hat1 hgrow1 hown1 hv hok hd h3 g3 e2 h2 h1 g1 HSS HE HI HY
  go_loopw [5] (fun s wr => SRel ex rb g N cT o T W y s wr) (fun _ wr => posR rb N wr)
  case atStart => exact hstart
  case round =>
    clear hstart
    obtain ⟨m, l, cs, i, hy, hR, hG, hown, hx, hne, hl8⟩ := hrel
    cases m with
    | zero => exact absurd hy.symm hyo
    | succ m =>
      rw [moreT] at hy
      obtain ⟨n, hn⟩ : ∃ n, l.length = n := ⟨_, rfl⟩
      rw [hn] at hown hl8 hy
      obtain ⟨g', cap', rfl⟩ : ∃ g' cap', u5 = .slice (some ⟨g', 0, none⟩) n cap' := by
        rcases hown.2 with ⟨_, h0⟩ | ⟨g', cap', cur, e, _⟩
        · exact absurd (List.eq_nil_of_length_eq_zero (hn.trans h0)) hne
        · exact ⟨g', cap', e⟩
      have hg' := hown.lt g' rfl
      have HR := Lib.hid hR
      cases b : isT (T.drop i) [44] with
      | false =>
        have HT := Lib.hid (show Calls Tryd.prog 75 #[.pointer (some ⟨rb, 0, none⟩), .string ⟨#[44]⟩] wr fun e w' => e = .returned (.bool false) ∧ Below wr.heap.size wr w' from take_no hR [44] b)
        rw [b, if_neg (by decide), wantT] at hy
        by_cases c : isT (T.drop i) [41] = true
        · rw [if_pos c] at hy
          have HL := Lib.hid (fun w1 (h1 : Rd w1 rb g N cT T i (o + 1)) => (show Calls Tryd.prog 77 #[.pointer (some ⟨rb, 0, none⟩), .string ⟨#[41]⟩] w1 fun e w' => e = .returned (.tuple #[]) ∧ Rd w' rb g N cT T (i + 1) o ∧ Gr rb w1 w' from leave_yes h1 [41] (by decide) c))
          clear hR
          go_wp2_with (first
            | (go_at_call 75; ((with_reducible refine HT.out.mono ?_); rintro e' w5 ⟨rfl, e5⟩; have h5 := HR.out.below e5))
            | (go_at_call 77; ((with_reducible refine (HL.out _ h5).mono ?_); rintro e' w6 ⟨rfl, h6, g6⟩)))
          go_ret
          have g7 := (Gr.of e5).trans g6
          rw [← hy]
          refine ⟨⟨_, rfl, row_ex (p := rowp W.heap.size (.slice (some ⟨g', 0, none⟩) n cap')) (hown.kept g7 (.inr (by simp only [Value.ownBlock, ne_eq, Option.some.injEq]; omega))) (Nat.le_refl _) (hx.kp g7.size (fun k hk hl => g7.block hl (by have := hk.1; omega)) (fun k hk _ => hk)) (fun k hk => hk.1) hn.symm⟩, ⟨i + 1, h6, (drop_tail T i).symm⟩, hG.trans g7⟩
        · rw [if_neg c] at hy
          have HL := Lib.hid (fun w1 (h1 : Rd w1 rb g N cT T i (o + 1)) => (show Calls Tryd.prog 77 #[.pointer (some ⟨rb, 0, none⟩), .string ⟨#[41]⟩] w1 fun e w' => e = flt (hdT (T.drop i)).at_ 2 ∧ Below w1.heap.size w1 w' from leave_no h1 [41] (by simpa using c) _ rfl))
          clear hR
          go_wp2_with (first
            | (go_at_call 75; ((with_reducible refine HT.out.mono ?_); rintro e' w5 ⟨rfl, e5⟩; have h5 := HR.out.below e5))
            | (go_at_call 77; ((with_reducible refine (HL.out _ h5).mono ?_); rintro e' w6 ⟨rfl, e6⟩)))
          rw [← hy]
          exact ⟨rfl, rfl, hG.trans ((Gr.of e5).trans (Gr.of e6))⟩
      | true =>
        have HT := Lib.hid (show Calls Tryd.prog 75 #[.pointer (some ⟨rb, 0, none⟩), .string ⟨#[44]⟩] wr fun e w' => e = .returned (.bool true) ∧ Rd w' rb g N cT T (i + 1) (o + 1) ∧ Gr rb wr w' from take_yes hR [44] (by decide) b)
        rw [b, if_pos rfl, drop_tail] at hy
        clear hR
        by_cases h8 : n = 8
        · subst h8
          rw [if_pos rfl] at hy
          have HF := Lib.hid (fun w1 (h1 : Rd w1 rb g N cT T (i + 1) (o + 1)) => fail_any h1 10 _ 10 rfl rfl)
          go_wp2_with (first
            | (go_at_call 75; ((with_reducible refine HT.out.mono ?_); rintro e' w5 ⟨rfl, h5, g5⟩))
            | (go_at_call 54; ((with_reducible refine (HF.out _ h5).mono ?_); rintro e' w6 ⟨rfl, e6⟩)))
          rw [← hy]
          exact ⟨rfl, rfl, hG.trans (g5.trans (Gr.of e6))⟩
        · rw [if_neg h8] at hy
          have d8 : decide ((n : Int) = 8) = false := decide_eq_false (by omega)
          cases hxv : ex (T.drop (i + 1)) with
          | out => rw [hxv] at hy; exact absurd hy.symm hyo
          | bad p c =>
            rw [hxv] at hy
            have HX := Lib.hid (fun w1 (h1 : Rd w1 rb g N cT T (i + 1) (o + 1)) => (show Calls Tryd.prog 85 #[.pointer (some ⟨rb, 0, none⟩)] w1 (XP rb g N cT (o + 1) T w1 (.bad p c)) from hxv ▸ HMM.out w1 (i + 1) h1 (by rw [hxv]; exact fun e => by cases e)))
            go_wp2_with (first
              | (go_at_call 75; ((with_reducible refine HT.out.mono ?_); rintro e' w5 ⟨rfl, h5, g5⟩))
              | (go_at_call 85; ((with_reducible refine (HX.out _ h5).mono ?_); rintro e' w6 ⟨rfl, g6⟩)))
            rw [← hy]
            exact ⟨rfl, rfl, hG.trans (g5.trans g6)⟩
          | ok v2 r2 =>
            rw [hxv] at hy
            have HX := Lib.hid (fun w1 (h1 : Rd w1 rb g N cT T (i + 1) (o + 1)) => (show Calls Tryd.prog 85 #[.pointer (some ⟨rb, 0, none⟩)] w1 (XP rb g N cT (o + 1) T w1 (.ok v2 r2)) from hxv ▸ HMM.out w1 (i + 1) h1 (by rw [hxv]; exact fun e => by cases e)))
            go_wp2_with (first
              | (go_at_call 75; ((with_reducible refine HT.out.mono ?_); rintro e' w5 ⟨rfl, h5, g5⟩))
              | (go_at_call 85; ((with_reducible refine (HX.out _ h5).mono ?_); rintro e' w6 ⟨⟨vv, rfl, vl, rfl, hv, hok⟩, ⟨i6, h6, hd⟩, g6⟩; obtain ⟨A2, c2, el, _⟩ := id hv; subst el))
              | (at_builtin; refine step_append_at rfl (.tmp 23) (.tmp 26) 41 rfl W.heap.size 43 i0 _ 4 56 Tryd.underlying41 hi hz0 hz1 hz2 rfl (by decide) (.slice (some ⟨g', 0, none⟩) n cap') n cs rfl ((hown.kept (g5.trans g6) (.inr (by simp only [Value.ownBlock, ne_eq, Option.some.injEq]; omega))).alloc _) ⟨w6.heap.size, 0, none⟩ 1 1 (news v2 A2 c2) rfl rfl (news_cells w6 v2 A2 c2) (news_one v2 A2 c2) (by unfold maxLen; omega) (by omega) (by have := hG.size; have := g5.size; have := g6.size; simp; omega) ?_; intro v7 w7 hown7 hgrow7 _ hat7))
            have ho5 := hown.kept g5 (.inr (by simp only [Value.ownBlock, ne_eq, Option.some.injEq]; omega))
            have hx5 := hx.kp (p := rowp W.heap.size (.slice (some ⟨g', 0, none⟩) n cap')) (q := rowp W.heap.size (.slice (some ⟨g', 0, none⟩) n cap')) g5.size (fun k hk hl => g5.block hl (by have := hk.1; omega)) (fun k hk _ => hk)
            obtain ⟨h7, g7, hx7⟩ := sv_step (hG.trans g5) ho5 hx5 g6 hv hok h6 hgrow7 hat7 hrl hgl
            refine ⟨⟨m, l ++ [v2], _, i6, by rw [hd]; exact hy, h7, g7, by rw [List.length_append, hn]; exact hown7, hx7, by simp, by rw [List.length_append, hn]; show n + 1 ≤ 8; omega⟩, ?_⟩
            rw [posR_eq h7, posR_eq HR.out]
            have hl2 := h6.lt
            have hl1 := h6.len
            have hlen2 := HLn _ _ _ hxv
            rw [← hd, List.length_drop, List.length_drop] at hlen2
            have hl3 : i < i6 := by omega
            exact Nat.sub_lt_sub_left (Nat.lt_trans hl3 hl2) hl3

/-- What is wrong ahead of the first one. -/
theorem several_any {W : World} {rb g N cT i o : Nat} {T : List Tok} (h : Rd W rb g N cT T i o) (b1 : isT (T.drop i) [40] = true) (ex : List Tok → PR Ex) (m : Nat) (hx : severalT ex m o (T.drop i) ≠ .out) (HLn : ∀ ts v r, ex ts = .ok v r → r.length ≤ ts.length)
    (HM : ∀ W2 i', o < 256 → Rd W2 rb g N cT T i' (o + 1) → ex (T.drop i') ≠ .out → Calls Tryd.prog 85 #[.pointer (some ⟨rb, 0, none⟩)] W2 (XP rb g N cT (o + 1) T W2 (ex (T.drop i')))) :
    Calls Tryd.prog 92 #[.pointer (some ⟨rb, 0, none⟩), ovE rb] W (LP rb g N cT o T W (severalT ex m o (T.drop i))) := by
  by_cases ho : o = 256
  · subst ho
    have e : severalT ex m 256 (T.drop i) = .bad (hdT (T.drop i)).at_ 3 := by simp [severalT, enterT, b1, PR.bind]
    rw [e]
    exact sv_deep h b1
  · have ho' : o < 256 := by have := h.small; omega
    have e : severalT ex m o (T.drop i) = if isT (T.drop (i + 1)) [41] then .ok [] (T.drop (i + 2)) else (ex (T.drop (i + 1))).bind fun x r => moreT ex m [x] r := by
      by_cases b2 : isT (T.drop (i + 1)) [41] = true <;> simp [severalT, enterT, wantT, b1, ho, b2, PR.bind]
    rw [e] at hx ⊢
    cases b2 : isT (T.drop (i + 1)) [41] with
    | true => exact sv_none h b1 ho' b2
    | false =>
      rw [b2, if_neg (by decide)] at hx
      rw [if_neg (by decide)]
      have hxo : ex (T.drop (i + 1)) ≠ .out := fun e => by rw [e] at hx; exact hx rfl
      have HS := fun W2 (h2 : Rd W2 rb g N cT T (i + 1) (o + 1)) => HM W2 (i + 1) ho' h2 hxo
      cases hxv : ex (T.drop (i + 1)) with
      | out => exact absurd hxv hxo
      | bad p c =>
        rw [hxv] at HS
        exact sv_first h b1 ho' b2 p c HS
      | ok v r =>
        rw [hxv] at HS hx
        exact sv_loop h b1 ho' b2 ex v r m _ rfl hx HLn HS fun W2 i' h2 hx2 => HM W2 i' ho' h2 hx2

end Go.Proofs.YtaajolemjgdfnaaDoor

/-
  Package parse: what begins with a name (named): a call; the whole.
-/
namespace Go.Proofs.YtaajolemjgdfnaaDoor
open Go Go.RowKit Go.Lib

set_option maxRecDepth 100000 in
theorem nm_call_ok {W : World} {rb g N cT i o : Nat} {T : List Tok} (h : Rd W rb g N cT T i o) (t : List UInt8) (ht : (hdT (T.drop i)).text = t) (hb : nameB (baT t) = true) (b1 : isT (T.drop (i + 1)) [91] = false) (b2 : isT (T.drop (i + 1)) [40] = true) (l : List Ex) (r : List Tok)
    (HS : ∀ W2, Rd W2 rb g N cT T (i + 1) o → Calls Tryd.prog 92 #[.pointer (some ⟨rb, 0, none⟩), ovE rb] W2 (LP rb g N cT o T W2 (.ok l r))) :
    Calls Tryd.prog 91 #[.pointer (some ⟨rb, 0, none⟩)] W (XP rb g N cT o T W (.ok ⟨5, 0, baT t, exES l⟩ r)) := by
  have HE := Lib.hid (fun W1 (h1 : Rd W1 rb g N cT T i o) => name_yes h1 t ht hb)
  have HI1 := Lib.hid (fun w1 (h1 : Rd w1 rb g N cT T (i + 1) o) => (show Calls Tryd.prog 53 #[.pointer (some ⟨rb, 0, none⟩), .string ⟨#[91]⟩] w1 fun e w' => e = .returned (.bool false) ∧ Below w1.heap.size w1 w' from is_any h1 [91] false b1))
  have HI2 := Lib.hid (fun w1 (h1 : Rd w1 rb g N cT T (i + 1) o) => (show Calls Tryd.prog 53 #[.pointer (some ⟨rb, 0, none⟩), .string ⟨#[40]⟩] w1 fun e w' => e = .returned (.bool true) ∧ Below w1.heap.size w1 w' from is_any h1 [40] true b2))
  have HSS := Lib.hid HS
  have htx := h.text
  rw [ht] at htx
  have hrl := h.rlt
  have hgl := h.tok.1
  have h0 := h.alloc (.cells #[.int .i64 0, .int .i64 0, .string ⟨#[]⟩, .slice none 0 0] 43)
  have B6 := heap_alloc_new W (.cells #[.int .i64 0, .int .i64 0, .string ⟨#[]⟩, .slice none 0 0] 43)
  have g0 := (Gr.refl rb W).alloc (.cells #[.int .i64 0, .int .i64 0, .string ⟨#[]⟩, .slice none 0 0] 43)
  have z0 : (W.alloc (.cells #[.int .i64 0, .int .i64 0, .string ⟨#[]⟩, .slice none 0 0] 43)).heap.size = W.heap.size + 1 := by simp
  clear h ht hb b1 b2 HS
  go_enter Tryd.func91, Tryd.ntmps91
  go_upto_region 1 with fail
  obtain ⟨w0, hw0⟩ : ∃ W1, W.alloc (.cells #[.int .i64 0, .int .i64 0, .string ⟨#[]⟩, .slice none 0 0] 43) = W1 := ⟨_, rfl⟩
  rw [hw0] at h0 B6 g0 z0 ⊢
  clear hw0
  go_upto_region 2 with (go_at_call 69; ((with_reducible refine (HE.out _ h0).mono ?_); rintro e w1 ⟨rfl, h1, g1⟩))
  have z1 := g1.size
  have h2 := h1.alloc (.cells #[.int .i64 2, .int .i64 0, .string (baT t), .slice none 0 0] 43)
  have B7 := heap_alloc_new w1 (.cells #[.int .i64 2, .int .i64 0, .string (baT t), .slice none 0 0] 43)
  have g2 := (g0.trans g1).alloc (.cells #[.int .i64 2, .int .i64 0, .string (baT t), .slice none 0 0] 43)
  have z2 : (w1.alloc (.cells #[.int .i64 2, .int .i64 0, .string (baT t), .slice none 0 0] 43)).heap.size = w1.heap.size + 1 := by simp
  have B8 := (Below.heap_alloc w1 (.cells #[.int .i64 2, .int .i64 0, .string (baT t), .slice none 0 0] 43) W.heap.size (by omega)).trans ((g1.block (k := W.heap.size) (by omega) (by omega)).trans B6)
  obtain ⟨w2, hw2⟩ : ∃ W1, w1.alloc (.cells #[.int .i64 2, .int .i64 0, .string (baT t), .slice none 0 0] 43) = W1 := ⟨_, rfl⟩
  rw [hw2] at h2 B7 g2 B8 z2 ⊢
  clear hw2
  obtain ⟨n3, hn3⟩ : ∃ n3, w1.heap.size = n3 := ⟨_, rfl⟩
  rw [hn3] at B7 z2 z1 ⊢
  have HB7 := Lib.hid (fun w3 (e3 : Below w2.heap.size w2 w3) => (e3.block _ (lt_heap B7)).trans B7)
  have HC7 := Lib.hid (fun w3 (e3 : Below w2.heap.size w2 w3) (j : Nat) => box_cell (HB7.out w3 e3) j)
  have HF7 := Lib.hid (fun w3 (e3 : Below w2.heap.size w2 w3) (j : Nat) => box_frozen (HB7.out w3 e3) j)
  go_upto_region 7 with (first
    | (go_at_call 53; ((with_reducible refine (HI1.out _ h2).mono ?_); rintro e wx ⟨rfl, ex⟩; have hx := h2.below ex))
    | (go_at_call 53; ((with_reducible refine (HI2.out _ hx).mono ?_); rintro e w3 ⟨rfl, ey⟩; have e3 := ex.trans (ey.mono ex.size); have c0 := HC7.out w3 e3 0; have f0 := HF7.out w3 e3 0; simp at c0)))
  have z3 := e3.size
  have h4 := (h2.below e3).set (b := n3) (j := 0) (.int .i64 5) (by omega) (by omega)
  have g4 := (g2.trans (Gr.of e3)).setNew (j := 0) (.int .i64 5) (show W.heap.size ≤ n3 by omega)
  have B7 := (set_heap4 (a := .int .i64 5) (HB7.out w3 e3)).1
  have B8 := (Below.heap_setCell w3 ⟨n3, 0, none⟩ (.int .i64 5) W.heap.size (show W.heap.size ≠ n3 by omega)).trans ((e3.block _ (lt_heap B8)).trans B8)
  have z4 : (w3.setCell ⟨n3, 0, none⟩ (.int .i64 5)).heap.size = w3.heap.size := by simp
  obtain ⟨w4, hw4⟩ : ∃ W1, w3.setCell ⟨n3, 0, none⟩ (.int .i64 5) = W1 := ⟨_, rfl⟩
  rw [hw4] at h4 B7 g4 B8 z4 ⊢
  clear hw4 c0 f0
  have HB7 := Lib.hid (fun w5 (g5 : Gr rb w4 w5) => (g5.block (lt_heap B7) (by omega)).trans B7)
  have HB8 := Lib.hid (fun w5 (g5 : Gr rb w4 w5) => (g5.block (lt_heap B8) (by omega)).trans B8)
  have HC7 := Lib.hid (fun w5 (g5 : Gr rb w4 w5) (j : Nat) => box_cell (HB7.out w5 g5) j)
  have HF7 := Lib.hid (fun w5 (g5 : Gr rb w4 w5) (j : Nat) => box_frozen (HB7.out w5 g5) j)
  go_upto_region 8 with (go_at_call 92; ((with_reducible refine (HSS.out _ h4).mono ?_); rintro e w5 ⟨⟨vv, rfl, hv⟩, ⟨i', h5, hd⟩, g5⟩; obtain ⟨Al, cl, el, _⟩ := id hv; subst el; have c3 := HC7.out w5 g5 3; have f3 := HF7.out w5 g5 3; simp only [List.getElem?_toArray, List.getElem?_cons_succ, List.getElem?_cons_zero] at c3))
  have z5 := g5.size
  have hl7 := lt_heap (HB7.out w5 g5)
  have hl8 := lt_heap (HB8.out w5 g5)
  have hE6 : EX (n3 + 1) (w5.setCell ⟨n3, 3, none⟩ (.slice Al (exES l).len cl)) (.slice Al (exES l).len cl) (exES l) := EX.kp hv (Kp.set _ (show n3 < w4.heap.size by omega)) (by omega)
  have h6 := h5.set (b := n3) (j := 3) (.slice Al (exES l).len cl) (by omega) (by omega)
  have g6 := (g4.trans g5).setNew (j := 3) (.slice Al (exES l).len cl) (show W.heap.size ≤ n3 by omega)
  have B9 := (set_heap4 (a := .slice Al (exES l).len cl) (HB7.out w5 g5)).2
  have B10 := (Below.heap_setCell w5 ⟨n3, 3, none⟩ (.slice Al (exES l).len cl) W.heap.size (show W.heap.size ≠ n3 by omega)).trans (HB8.out w5 g5)
  obtain ⟨w6, hw6⟩ : ∃ W1, w5.setCell ⟨n3, 3, none⟩ (.slice Al (exES l).len cl) = W1 := ⟨_, rfl⟩
  rw [hw6] at hE6 h6 g6 B9 B10 ⊢
  clear hw6 c3 f3
  have c0 := box_cell B10 0
  have c1 := box_cell B10 1
  have c2 := box_cell B10 2
  have c3 := box_cell B10 3
  have f0 := box_frozen B10 0
  have f1 := box_frozen B10 1
  have f2 := box_frozen B10 2
  have f3 := box_frozen B10 3
  have d0 := box_cell B9 0
  have d1 := box_cell B9 1
  have d2 := box_cell B9 2
  have d3 := box_cell B9 3
  simp at c0 c1 c2 c3 d0 d1 d2 d3
  have hP := ret4 (a := .int .i64 5) (b := .int .i64 0) (c := .string (baT t)) (d := .slice Al (exES l).len cl) B10
  have hfin : XP rb g N cT o T W (.ok ⟨5, 0, baT t, exES l⟩ r) (.returned (.agg #[.int .i64 5, .int .i64 0, .string (baT t), .slice Al (exES l).len cl])) (put4 w6 W.heap.size (.int .i64 5) (.int .i64 0) (.string (baT t)) (.slice Al (exES l).len cl)) :=
    ⟨⟨_, rfl, _, rfl, hE6.kp (Kp.put4 (by omega)) (by omega), (show I64 5 by unfold I64; omega), i64_0, htx⟩, ⟨i', h6.put4 (by omega) (by omega), hd⟩, g6.put4 (Nat.le_refl _)⟩
  go_wp2
  obtain ⟨w7, hw7⟩ : ∃ W5, put4 w6 W.heap.size (.int .i64 5) (.int .i64 0) (.string (baT t)) (.slice Al (exES l).len cl) = W5 := ⟨_, rfl⟩
  show bodyPost _ _ _ _ _ (put4 w6 W.heap.size (.int .i64 5) (.int .i64 0) (.string (baT t)) (.slice Al (exES l).len cl))
  rw [hw7] at hP hfin ⊢
  have p0 := hP 0 (by decide)
  have p1 := hP 1 (by decide)
  have p2 := hP 2 (by decide)
  have p3 := hP 3 (by decide)
  exact bodyPost_ret (v := .agg #[.int .i64 5, .int .i64 0, .string (baT t), .slice Al (exES l).len cl]) (by simp [results, Tryd.results91, go_sem, p0, p1, p2, p3]) rfl hfin

set_option maxRecDepth 100000 in
theorem nm_call_bad {W : World} {rb g N cT i o : Nat} {T : List Tok} (h : Rd W rb g N cT T i o) (t : List UInt8) (ht : (hdT (T.drop i)).text = t) (hb : nameB (baT t) = true) (b1 : isT (T.drop (i + 1)) [91] = false) (b2 : isT (T.drop (i + 1)) [40] = true) (p c : Nat)
    (HS : ∀ W2, Rd W2 rb g N cT T (i + 1) o → Calls Tryd.prog 92 #[.pointer (some ⟨rb, 0, none⟩), ovE rb] W2 (LP rb g N cT o T W2 (.bad p c))) :
    Calls Tryd.prog 91 #[.pointer (some ⟨rb, 0, none⟩)] W (XP rb g N cT o T W (.bad p c)) := by
  have HE := Lib.hid (fun W1 (h1 : Rd W1 rb g N cT T i o) => name_yes h1 t ht hb)
  have HI1 := Lib.hid (fun w1 (h1 : Rd w1 rb g N cT T (i + 1) o) => (show Calls Tryd.prog 53 #[.pointer (some ⟨rb, 0, none⟩), .string ⟨#[91]⟩] w1 fun e w' => e = .returned (.bool false) ∧ Below w1.heap.size w1 w' from is_any h1 [91] false b1))
  have HI2 := Lib.hid (fun w1 (h1 : Rd w1 rb g N cT T (i + 1) o) => (show Calls Tryd.prog 53 #[.pointer (some ⟨rb, 0, none⟩), .string ⟨#[40]⟩] w1 fun e w' => e = .returned (.bool true) ∧ Below w1.heap.size w1 w' from is_any h1 [40] true b2))
  have HSS := Lib.hid HS
  have hrl := h.rlt
  have hgl := h.tok.1
  have HR := Lib.hid h
  clear h ht hb b1 b2 HS
  go_enter Tryd.func91, Tryd.ntmps91
  go_upto_region 2 with (go_at_call 69; ((with_reducible refine (HE.out _ (HR.out.alloc _)).mono ?_); rintro e w1 ⟨rfl, h1, g1⟩))
  have z1 := g1.size
  rw [World.size_alloc] at z1
  have h2 := h1.alloc (.cells #[.int .i64 2, .int .i64 0, .string (baT t), .slice none 0 0] 43)
  have g2 := (((Gr.refl rb W).alloc (.cells #[.int .i64 0, .int .i64 0, .string ⟨#[]⟩, .slice none 0 0] 43)).trans g1).alloc (.cells #[.int .i64 2, .int .i64 0, .string (baT t), .slice none 0 0] 43)
  have B7 := heap_alloc_new w1 (.cells #[.int .i64 2, .int .i64 0, .string (baT t), .slice none 0 0] 43)
  obtain ⟨w2, hw2⟩ : ∃ W1, w1.alloc (.cells #[.int .i64 2, .int .i64 0, .string (baT t), .slice none 0 0] 43) = W1 := ⟨_, rfl⟩
  rw [hw2] at h2 B7 g2 ⊢
  clear hw2
  obtain ⟨n3, hn3⟩ : ∃ n3, w1.heap.size = n3 := ⟨_, rfl⟩
  rw [hn3] at B7 z1 ⊢
  have HB7 := Lib.hid (fun w3 (e3 : Below w2.heap.size w2 w3) => (e3.block _ (lt_heap B7)).trans B7)
  have HC7 := Lib.hid (fun w3 (e3 : Below w2.heap.size w2 w3) (j : Nat) => box_cell (HB7.out w3 e3) j)
  have HF7 := Lib.hid (fun w3 (e3 : Below w2.heap.size w2 w3) (j : Nat) => box_frozen (HB7.out w3 e3) j)
  have HR4 := Lib.hid (fun w3 (e3 : Below w2.heap.size w2 w3) => (h2.below e3).set (b := n3) (j := 0) (.int .i64 5) (by omega) (by omega))
  have HG4 := Lib.hid (fun w3 (e3 : Below w2.heap.size w2 w3) => (g2.trans (Gr.of e3)).setNew (j := 0) (.int .i64 5) (show W.heap.size ≤ n3 by omega))
  clear B7
  go_wp2_with (first
    | (go_at_call 53; ((with_reducible refine (HI1.out _ h2).mono ?_); rintro e wx ⟨rfl, ex⟩; have hx := h2.below ex))
    | (go_at_call 53; ((with_reducible refine (HI2.out _ hx).mono ?_); rintro e w3 ⟨rfl, ey⟩; have e3 := ex.trans (ey.mono ex.size); have c0 := HC7.out w3 e3 0; have f0 := HF7.out w3 e3 0; simp at c0))
    | (go_at_call 92; ((with_reducible refine (HSS.out _ (HR4.out _ e3)).mono ?_); rintro e w5 ⟨rfl, g5⟩)))
  exact ⟨rfl, rfl, (HG4.out _ e3).trans g5⟩

/-- What begins with a name. -/
theorem nmd_any {W : World} {rb g N cT i o : Nat} {T : List Tok} (h : Rd W rb g N cT T i o) (ex : Nat → Nat → List Tok → PR Ex) (m : Nat) (hx : namedT ex m o (T.drop i) ≠ .out) (HLn : ∀ l o ts v r, ex l o ts = .ok v r → r.length ≤ ts.length)
    (HX : ∀ W2 i', Rd W2 rb g N cT T i' (o + 1) → ex 1 (o + 1) (T.drop i') ≠ .out → Calls Tryd.prog 85 #[.pointer (some ⟨rb, 0, none⟩)] W2 (XP rb g N cT (o + 1) T W2 (ex 1 (o + 1) (T.drop i')))) :
    Calls Tryd.prog 91 #[.pointer (some ⟨rb, 0, none⟩)] W (XP rb g N cT o T W (namedT ex m o (T.drop i))) := by
  obtain ⟨t, ht⟩ : ∃ t, (hdT (T.drop i)).text = t := ⟨_, rfl⟩
  cases hb : nameB (baT t) with
  | false =>
    have e : namedT ex m o (T.drop i) = .bad (hdT (T.drop i)).at_ 2 := by simp [namedT, nameT, ht, hb, PR.bind]
    rw [e]
    exact nm_no h (by rw [ht]; exact hb) _ rfl
  | true =>
    have e : namedT ex m o (T.drop i) = if isT (T.drop (i + 1)) [91] then (withinT ex [91] [93] o (T.drop (i + 1))).bind fun e r => .ok ⟨4, 0, baT t, toES e .nil⟩ r
        else if isT (T.drop (i + 1)) [40] then (severalT (ex 1 (o + 1)) m o (T.drop (i + 1))).bind fun l r => .ok ⟨5, 0, baT t, exES l⟩ r
        else .ok ⟨2, 0, baT t, .nil⟩ (T.drop (i + 1)) := by
      simp only [namedT, nameT, ht, hb, PR.bind, drop_tail, if_true]
    rw [e] at hx ⊢
    clear e
    cases b1 : isT (T.drop (i + 1)) [91] with
    | true =>
      rw [b1, if_pos rfl] at hx
      rw [if_pos rfl]
      have hw : withinT ex [91] [93] o (T.drop (i + 1)) ≠ .out := fun e => by rw [e] at hx; exact hx rfl
      have hxo : o < 256 → ex 1 (o + 1) (T.drop (i + 1 + 1)) ≠ .out := fun ho e => by
        refine hw ?_
        simp [withinT, enterT, b1, PR.bind, show o ≠ 256 by omega, e]
      by_cases ho : o < 256
      · have HW := fun W2 (h2 : Rd W2 rb g N cT T (i + 1) o) => within_any h2 [91] [93] (by decide) (by decide) b1 ex hxo (fun W3 h3 => HX W3 _ h3 (hxo ho))
        cases hv : withinT ex [91] [93] o (T.drop (i + 1)) with
        | out => exact absurd hv hw
        | bad p c =>
          rw [hv] at HW
          exact nm_idx_bad h t ht hb b1 p c HW
        | ok v r =>
          rw [hv] at HW
          exact nm_idx_ok h t ht hb b1 v r HW
      · have HW := fun W2 (h2 : Rd W2 rb g N cT T (i + 1) o) => within_any h2 [91] [93] (by decide) (by decide) b1 ex hxo (fun W3 h3 => absurd h3.small (by omega))
        cases hv : withinT ex [91] [93] o (T.drop (i + 1)) with
        | out => exact absurd hv hw
        | bad p c =>
          rw [hv] at HW
          exact nm_idx_bad h t ht hb b1 p c HW
        | ok v r =>
          rw [hv] at HW
          exact nm_idx_ok h t ht hb b1 v r HW
    | false =>
      rw [b1, if_neg (by decide)] at hx
      rw [if_neg (by decide)]
      cases b2 : isT (T.drop (i + 1)) [40] with
      | true =>
        rw [b2, if_pos rfl] at hx
        rw [if_pos rfl]
        have hw : severalT (ex 1 (o + 1)) m o (T.drop (i + 1)) ≠ .out := fun e => by rw [e] at hx; exact hx rfl
        have HW := fun W2 (h2 : Rd W2 rb g N cT T (i + 1) o) => several_any h2 b2 (ex 1 (o + 1)) m hw (fun ts v r => HLn 1 (o + 1) ts v r) fun W3 i' _ h3 hx3 => HX W3 i' h3 hx3
        cases hv : severalT (ex 1 (o + 1)) m o (T.drop (i + 1)) with
        | out => exact absurd hv hw
        | bad p c =>
          rw [hv] at HW
          exact nm_call_bad h t ht hb b1 b2 p c HW
        | ok v r =>
          rw [hv] at HW
          exact nm_call_ok h t ht hb b1 b2 v r HW
      | false =>
        rw [if_neg (by decide)]
        exact nm_var h t ht hb b1 b2

end Go.Proofs.YtaajolemjgdfnaaDoor

