/-
  LexWords: at every number and byte the statement's function tells true. The walk.
-/
import Derived.Test.YtldakohmcmcfjaaLexAgainW
import Derived.Lib.SlBytesConst
import Derived.ArgAppend
namespace Go.Proofs.Ytldakohmcmcfjaa
open Go Go.RowKit Go.Lib

/-- A word that begins with q. -/
def Wordy (wl : List UInt8) : Prop := ∃ r, wl = 113 :: r ∧ ∀ c ∈ r, inwB (bv c) = true
theorem wordy_snoc {wl : List UInt8} {c : UInt8} (h : Wordy wl) (hc : inwB (bv c) = true) : Wordy (wl ++ [c]) := by
  obtain ⟨r, rfl, hr⟩ := h
  refine ⟨r ++ [c], rfl, fun d hd => ?_⟩
  rcases List.mem_append.1 hd with hd | hd
  · exact hr d hd
  · have : d = c := by simpa using hd
    rw [this]; exact hc
theorem reach_all (p : Int → Bool) : ∀ l : List UInt8, (∀ c ∈ l, p (bv c) = true) → reachL p l = l.length
  | [], _ => rfl
  | c :: l, h => by
    rw [reachL_cons, if_pos (h c (by simp)), reach_all p l (fun d hd => h d (by simp [hd]))]; rfl
theorem wordy_first {wl : List UInt8} (h : Wordy wl) : firstK wl = 1 ∧ firstN wl = wl.length := by
  obtain ⟨r, rfl, hr⟩ := h
  refine ⟨rfl, ?_⟩
  rw [firstN_cons, if_pos (by decide)]
  exact reach_all inwB _ (fun c hc => by
    rcases List.mem_cons.1 hc with rfl | hc
    · decide
    · exact hr c hc)
theorem lex_a (rest : List UInt8) : lexS 0 ([97, 32] ++ rest) = (lexS 2 rest).cons ⟨1, [97], 0⟩ :=
  alone_tok (c := 97) (r := []) (by decide) (by decide) (by decide) 0 0 rest
theorem lex_b (q : Nat) : lexS q [98] = .ok [⟨1, [98], q⟩] := by
  rw [lexS_tok (by decide) (by decide) (by decide) (by decide)]
  show (lexS _ []).cons _ = _
  rw [lexS_nil]; rfl
theorem words_ok {wl : List UInt8} (h : Wordy wl) (hl : wl.length ≤ 32) : lexS 0 ([97, 32] ++ wl ++ [32, 98]) = .ok [⟨1, [97], 0⟩, ⟨1, wl, 2⟩, ⟨1, [98], wl.length + 3⟩] := by
  obtain ⟨hk, hn⟩ := wordy_first h
  obtain ⟨r, rfl, hr⟩ := h
  have ha := alone_tok (c := 113) (r := r) (by decide) (by decide) (by rw [hk, hn]; omega) 0 2 [98]
  simp only at ha
  rw [hk, hn, List.take_length] at ha
  rw [List.append_assoc, lex_a, ha, lex_b, show 2 + (113 :: r).length + 1 = (113 :: r).length + 3 by omega]
  rfl
theorem words_bad {wl : List UInt8} (h : Wordy wl) (hl : 32 < wl.length) : lexS 0 ([97, 32] ++ wl ++ [32, 98]) = .bad 2 := by
  obtain ⟨hk, hn⟩ := wordy_first h
  obtain ⟨r, rfl, hr⟩ := h
  have eN := firstN_app (c := 113) (r := r) (parted_32 [98])
  rw [List.append_assoc, lex_a, List.cons_append, lexS_bad (by decide) (by decide) (.inr ⟨rfl, by rw [eN, hn]; exact hl⟩)]
  rfl

/-- append(v, x...), v full. -/
theorem wp_app_full {w : World} {ops : Array Oper} {rest : List Oper} {o : Oper} {a : Act} {Q : Exit → Act → World → Prop} {s x : Operand} {l l2 : List UInt8} {b g n cap m c : Nat} (hgd : o.guard = none)
    (ho : o.op = .call { callee := .builtin .append, args := #[s, x], argTypes := #[22, 22] })
    (hs : a.eval s = .slice (some ⟨b, 0, none⟩) n cap) (hr : Row w (some ⟨b, 0, none⟩) l) (hl : l.length = n)
    (hx : a.eval x = .slice (some ⟨g, 0, none⟩) m c) (hr2 : Row w (some ⟨g, 0, none⟩) l2) (hl2 : l2.length = m) (hfull : cap < n + m) (hlen : n + m ≤ 100000)
    (h : ∀ v' w', BOwn w w' v' (l ++ l2) → wpList Try.prog ops Q rest (a.put o.dst v') w') : wpList Try.prog ops Q (o :: rest) a w := by
  obtain ⟨i0, hi, hz0, hz1, hz2⟩ := info_parts byteInfo
  have key : ∀ {b : Nat} {L : List UInt8}, Row w (some ⟨b, 0, none⟩) L → ∀ j u, (byts L)[j]? = some u → w.cell? ((⟨b, 0, none⟩ : Addr).add j) = some u := by
    intro b L hR j u hj
    obtain ⟨hj1, rfl⟩ := byts_at hj
    obtain ⟨b', o', e, _, hc⟩ := hR (by omega)
    injection e with e
    injection e with e1 e2
    subst e1 e2
    rw [add_at]; exact hc j hj1
  refine wpList_append_grows w hgd s x 22 ho 5 i0 _ 1 1 Try.underlying22 hi hz0 hz1 hz2 rfl (by decide) (some ⟨b, 0, none⟩) n cap (byts l) hs (fun e => by cases e) (by rw [byts_length]; omega)
    (fun b' hb' j u hj => by injection hb' with hb'; subst hb'; exact key hr j u hj) ⟨g, 0, none⟩ m c (byts l2) hx (by rw [byts_length]; omega) (key hr2) (byts_one _) hfull (by unfold maxLen; omega) (by omega) ?_
  intro v' w' hown hgrow
  refine h v' w' ⟨Below.grown (Below.refl _ _) hgrow (Nat.le_refl _) (fun k hk => by cases hk), ?_, ?_⟩
  · rw [List.length_append, byts_app, hl, hl2]; exact hown
  · intro e
    subst e
    rcases hown.2 with ⟨_, h0⟩ | ⟨_, _, _, h0, _⟩
    · omega
    · cases h0

end Go.Proofs.Ytldakohmcmcfjaa
