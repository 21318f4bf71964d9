/-
  The contract of the document's own Lex: it tells what 'lexS' tells of the text's bytes; its tokens lie in a row of its own.
-/
import Derived.Test.YtaedlhjjfmmpdaaDoorTreeRk
namespace Go.Proofs.YtaedlhjjfmmpdaaDoor
open Go Go.RowKit Go.Lib

theorem rtokInfo : (Tryd.prog.info? 67).map (fun i => (i.zero, i.size, i.bytes)) = some (some (.agg #[.int .i64 0, .string ⟨#[]⟩, .int .i64 0]), 3, 32) := by kernel_rfl

def RLexAt (s : ByteArray) (w : World) (v i : Value) (wr : World) : Prop :=
  ∃ (k : Nat) (acc : List Tok), k ≤ s.size ∧ i = .int .i64 k ∧ wr.ownsRow w.heap.size 67 3 v acc.length (toks acc) ∧ Below w.heap.size w wr ∧ (lexS k ((bs s).drop k)).app acc = lexS 0 (bs s) ∧ acc.length ≤ k ∧
    (k < s.size → blkB (nth (bs s) k) = false ∧ (nth (bs s) k == 35) = false)

/-- What the document's own Lex leaves. -/
def RLexOut (l : List UInt8) (w : World) (e : Ending) (w' : World) : Prop :=
  Below w.heap.size w w' ∧
    ((∃ p, lexS 0 l = .bad p ∧ e = .returned (.tuple #[.slice none 0 0, .int .i64 p, .int .i64 2])) ∨
     (∃ ts v, lexS 0 l = .ok ts ∧ e = .returned (.tuple #[v, .int .i64 0, .int .i64 0]) ∧ w'.ownsRow w.heap.size 67 3 v (ts.length + 1) (toks (ts ++ [⟨4, [], l.length⟩]))))

theorem own_up {w w' : World} {B e : Nat} {v : Value} {n : Nat} {xs : List Value} (h : w.ownsRow B e 3 v n xs) (hb : Below w.heap.size w w') : w'.ownsRow B e 3 v n xs :=
  h.kept (row := none) ⟨hb.os, hb.tape, hb.output, hb.size, fun k hk _ => hb.block k hk⟩ (by cases hv : v.ownBlock with
    | none => exact .inl rfl
    | some g => exact .inr (by simp))

theorem three_at {wr : World} {t : TypeId} {a b c : Value} : ∀ j u, [a, b, c][j]? = some u → (wr.alloc (.cells #[a, b, c] t)).cell? ((⟨wr.heap.size, 0, none⟩ : Addr).add j) = some u := by
  intro j u hj
  match j, hj with
  | 0, hj => simp at hj; subst hj; simp [Addr.add]
  | 1, hj => simp at hj; subst hj; simp [Addr.add]
  | 2, hj => simp at hj; subst hj; simp [Addr.add]

theorem three_g {wr : World} {t : TypeId} {g : Nat} {a b c : Value} (hg : wr.heap.size = g) : ∀ j u, [a, b, c][j]? = some u → (wr.alloc (.cells #[a, b, c] t)).cell? ((⟨g, 0, none⟩ : Addr).add j) = some u := by
  subst hg; exact three_at

/-- What next leaves, its text under a name. -/
def NextT (s : ByteArray) (a : Nat) (w : World) (e : Ending) (w' : World) : Prop :=
  Below w.heap.size w w' ∧
  ((∃ p : Nat, lexS a ((bs s).drop a) = .bad p ∧ e = .returned (.tuple #[.agg #[.int .i64 0, .string ⟨#[]⟩, .int .i64 0], .int .i64 p])) ∨
   (∃ (K : Nat) (T : ByteArray), 1 ≤ T.size ∧ a + T.size ≤ s.size ∧ lexS a ((bs s).drop a) = (lexS (a + T.size) ((bs s).drop (a + T.size))).cons ⟨K, T.data.toList, a⟩ ∧
      e = .returned (.tuple #[.agg #[.int .i64 K, .string T, .int .i64 a], .int .i64 (-1)])))
theorem next_T (s : ByteArray) (a : Nat) (w : World) (hs : s.size ≤ 65536) (ha : a < s.size) (hb : blkB (nth (bs s) a) = false) (hc : (nth (bs s) a == 35) = false) :
    Calls Tryd.prog 53 #[.string s, .int .i64 a] w (NextT s a w) :=
  (next_any s a w hs ha hb hc).mono fun e w' ⟨h1, h2⟩ => by
    refine ⟨h1, ?_⟩
    rcases h2 with h2 | ⟨K, n, h3, h4, h5, h6⟩
    · exact .inl h2
    · have hz : (⟨(((bs s).drop a).take n).toArray⟩ : ByteArray).size = n := by
        show (((bs s).drop a).take n).toArray.size = n
        rw [List.size_toArray, List.length_take, List.length_drop, bs_length]; omega
      exact .inr ⟨K, _, by rw [hz]; exact h3, by rw [hz]; exact h4, by rw [hz]; exact h5, h6⟩

theorem skip_at (s : ByteArray) (a : Nat) (A : Int) (w : World) (hA : A = (a : Int)) (hs : s.size ≤ 65536) (ha : a ≤ s.size) :
    Calls Tryd.prog 52 #[.string s, .int .i64 A] w (SkipOut s a w) := by
  subst hA; exact skip_any s a w hs ha

theorem skip_zero (s : ByteArray) (w : World) (hs : s.size ≤ 65536) : Calls Tryd.prog 52 #[.string s, .int .i64 0] w (SkipOut s 0 w) := skip_any s 0 w hs (Nat.zero_le _)

set_option maxHeartbeats 4000000 in
set_option maxRecDepth 100000 in
theorem rlex_any (s : ByteArray) (w : World) (hs : s.size ≤ 65536) :
    Calls Tryd.prog 39 #[.string s] w (RLexOut (bs s) w) := by
  obtain ⟨i0, hi, hz0, hz1, hz2⟩ := info_parts rtokInfo
  go_enter Tryd.func39, Tryd.ntmps39
  go_wp2_with (first
    | (go_at_call 52; ((with_reducible refine (skip_zero s _ hs).mono ?_); rintro e w1 ⟨k0, rfl, rfl, hk0, hk1, hk2, hk3⟩)))
  have HK2 := Lib.hid hk2; clear hk2
  have HK3 := Lib.hid hk3; clear hk3
  go_loopw [5, 6] (fun v i wr => RLexAt s w v i wr) (fun _ i _ => s.size - (intOf i).toNat)
  case atStart => exact ⟨k0, [], hk1, rfl, World.ownsRow_made w #[] 0 (Nat.le_refl _) (Nat.zero_le _) rfl, (Below.refl _ _).alloc (Nat.le_refl _) _, by rw [Res.app_nil]; exact HK2.out.symm, Nat.zero_le _, HK3.out⟩
  case round =>
    obtain ⟨k, acc, hk, rfl, hown, hbw, hgo, hacc, hq⟩ := hrel
    have HG := Lib.hid hgo; clear hgo
    have hsz := hbw.size
    by_cases hlt : k < s.size
    · obtain ⟨q1, q2⟩ := hq hlt
      have HNX := Lib.hid (fun w => next_T s k w hs hlt q1 q2)
      clear hq q1 q2
      go_wp2_with (first
        | (go_at_call 53; ((with_reducible refine (HNX.out _).mono ?_); rintro e w1 ⟨hb1, hor⟩; rcases hor with ⟨p, hp, rfl⟩ | ⟨K, T, hn1, hn2, ht, rfl⟩))
        | (at_builtin; refine wpList_append_own _ rfl (.tmp 28) (.tmp 30) 63 rfl w.heap.size 67 i0 _ 3 32 Tryd.underlying63 hi hz0 hz1 hz2 rfl (by decide) _ acc.length (toks acc) rfl (own_up (own_up hown hb1) (by repeat (first | exact Below.refl _ _ | refine Below.alloc ?_ (by simp) _ | refine Below.setCell ?_ (by simp) _))) _ 1 1 [.int .i64 K, .string T, .int .i64 k] rfl rfl (three_g (by simp)) three_one (by unfold maxLen; omega) (by omega) (by have := hb1.size; simp; omega) ?_; intro v1 w2 hown1 hgrow1 _; (have hc2 : w2.cell? ⟨w1.heap.size, 1, none⟩ = some (.string T) := hgrow1.cell (by simp) (fun e => by have h1 := hown.lt w1.heap.size e.symm; have h2 := hb1.size; omega))))
      · go_ret3
        refine ⟨?_, .inl ⟨p, by rw [← HG.out, hp]; rfl, rfl⟩⟩
        exact (hbw.trans (hb1.mono hsz)).alloc (by have := hb1.size; omega) _
      · obtain ⟨t0, ht0⟩ : ∃ t0 : Tok, t0 = ⟨K, T.data.toList, k⟩ := ⟨_, rfl⟩
        have hb2 : Below w.heap.size w w2 := by
          have h1 := hb1.size
          refine (((hbw.trans (hb1.mono hsz)).alloc (by omega) _).alloc (by simp; omega) _).grown hgrow1 (by simp; omega) (fun j hj => (hown.lt j hj).1)
        have R1 : w2.ownsRow w.heap.size 67 3 v1 (acc ++ [t0]).length (toks (acc ++ [t0])) := by
          subst ht0
          rw [toks_snoc, List.length_append]; exact hown1
        have HGO := Lib.hid (show (lexS (k + T.size) ((bs s).drop (k + T.size))).app (acc ++ [t0]) = lexS 0 (bs s) by rw [← HG.out, ht, Res.app_cons, ht0])
        clear ht0
        clear hown1 hgrow1 hown ht hc2
        go_wp2_with (first
          | (go_at_call 52; ((with_reducible refine (skip_at s (k + T.size) _ _ (by omega) hs (by omega)).mono ?_); rintro e w3 ⟨k1, rfl, rfl, hk1, hk2, hk3, hk4⟩)))
        have HK3' := Lib.hid hk3; clear hk3
        have HK4' := Lib.hid hk4; clear hk4
        go_wp2
        go_roundw
        case rel => exact ⟨k1, _, hk2, rfl, R1, hb2, by rw [← HK3'.out]; exact HGO.out, by simp; omega, HK4'.out⟩
        case measure => simp [intOf]; omega
    · have hkl : k = s.size := by omega
      subst hkl
      have HQ := Lib.hid hq; clear hq
      go_wp2_with (first
        | (at_builtin; refine wpList_append_own _ rfl (.tmp 39) (.tmp 43) 63 rfl w.heap.size 67 i0 _ 3 32 Tryd.underlying63 hi hz0 hz1 hz2 rfl (by decide) _ acc.length (toks acc) rfl (hown.alloc _) ⟨wr.heap.size, 0, none⟩ 1 1 [.int .i64 4, .string ⟨#[]⟩, .int .i64 s.size] rfl rfl three_at three_one (by unfold maxLen; omega) (by omega) (by simp; omega) ?_; intro v1 w2 hown1 hgrow1 _))
      have hb2 : Below w.heap.size w w2 := (hbw.alloc (by omega) _).grown hgrow1 (by simp; omega) (fun j hj => (hown.lt j hj).1)
      have R1 : RLexOut (bs s) w (.returned (.tuple #[v1, .int .i64 0, .int .i64 0])) w2 := by
        refine ⟨hb2, .inr ⟨acc, v1, ?_, rfl, by rw [toks_snoc, bs_length]; exact hown1⟩⟩
        rw [← HG.out, List.drop_eq_nil_of_le (by rw [bs_length]; exact Nat.le_refl _), lexS_nil]
        simp [Res.app]
      go_ret3
      exact R1

end Go.Proofs.YtaedlhjjfmmpdaaDoor
