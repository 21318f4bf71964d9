/-
  LexAgain: at every two rows of bytes the statement's function tells true. The walk.
-/
import Derived.Test.YtldakohmcmcfjaaLexA
import Derived.Test.YtldakohmcmcfjaaLexAg
import Derived.Lib.AppendStr
namespace Go.Proofs.Ytldakohmcmcfjaa
open Go Go.RowKit Go.Lib

theorem strCells_byts (l : List UInt8) : strCells ⟨l.toArray⟩ = byts l := by
  unfold strCells byts bv; simp
/-- append(v, s...), s a string. -/
theorem wp_app_str {w W : World} {ops : Array Oper} {rest : List Oper} {o : Oper} {a : Act} {Q : Exit → Act → World → Prop} {s x : Operand} {v : Value} {l l2 : List UInt8} (hgd : o.guard = none)
    (ho : o.op = .call { callee := .builtin .append, args := #[s, x], argTypes := #[22, 9] })
    (hB : BOwn W w v l) (hs : a.eval s = v) (hx : a.eval x = .string ⟨l2.toArray⟩) (hlen : l.length + l2.length ≤ 100000)
    (h : ∀ v' w', BOwn W w' v' (l ++ l2) → wpList Try.prog ops Q rest (a.put o.dst v') w') : wpList Try.prog ops Q (o :: rest) a w := by
  obtain ⟨i0, hi, hz0, hz1, hz2⟩ := info_parts byteInfo
  obtain ⟨h1, h2, h3⟩ := hB
  have hsz : (⟨l2.toArray⟩ : ByteArray).size = l2.length := by simp [ByteArray.size]
  refine wpList_append_own_string _ hgd s x 22 9 ho W.heap.size 5 i0 Try.underlying22 Try.underlying9 hi hz0 hz1 hz2 v l.length (byts l) hs h2 ⟨l2.toArray⟩ hx (by rw [hsz]; unfold maxLen; omega) (by rw [hsz]; omega) h1.size ?_
  intro v' w' hown hgrow hnil
  refine h v' w' ⟨Below.grown h1 hgrow h1.size (fun k hk => (h2.lt k hk).1), ?_, fun e => h3 (hnil.1 e).1⟩
  rw [List.length_append, byts_app, ← strCells_byts l2, ← hsz]; exact hown

set_option maxHeartbeats 4000000 in
set_option maxRecDepth 100000 in
theorem again_bad (A C : Option Addr) (n cap cn ccap N M p : Nat) (l : List UInt8) (w : World) (hn : l.length = n) (hcap : n ≤ cap) (hm : cap ≤ 9223372036854775807) (hr : Row w A l) (hccap : cn ≤ ccap) (hcm : ccap ≤ 9223372036854775807) (hN : N = min n 2000) (hM : M = min cn 500) (hp : lexS 0 (l.take N) = .bad p) :
    Calls Try.prog 4 #[.slice A n cap, .slice C cn ccap] w fun e w' => e = .returned (.bool true) ∧ Fr w w' := by
  have hfr := Fr.refl w
  have HN := Lib.hid hN
  have HM := Lib.hid hM
  have hN1 : N ≤ 2000 := by omega
  have hN2 : N ≤ n := by omega
  have HL := Lib.hid (show (l.take N).length = N by rw [List.length_take]; omega)
  have HP := Lib.hid hp; clear hp
  clear hn hN hM
  go_enter Try.func4, Try.ntmps4
  go_upto_region 2 with (go_at_call 10; ((with_reducible refine (shown_fr w _ (by assumption)).mono ?_); rintro e w1 ⟨rfl, h1⟩))
  go_cut [0] (fun s wx => s = .slice A N cap ∧ wx = w1)
  case first =>
    go_wp2_with fail
    all_goals (go_meet; exact ⟨by have := HN.out; congr 1; omega, rfl⟩)
  case rest =>
    obtain ⟨rfl, rfl⟩ := hcut
    go_upto_region 3 with fail
    go_cut [1] (fun s wx => s = .slice C M ccap ∧ wx = wc)
    case first =>
      go_wp2_with fail
      all_goals (go_meet; exact ⟨by have := HM.out; congr 1; omega, rfl⟩)
    case rest =>
      obtain ⟨rfl, rfl⟩ := hcut
      go_wp2_with (go_at_call 11; ((with_reducible refine (lex_no _ N _ (l.take N) p _ HL.out (by omega) (by omega) ((hr.fr h1).take N) HP.out).mono ?_); rintro e w2 ⟨rfl, hb2⟩))
      go_ret
      exact ⟨rfl, h1.below hb2⟩

end Go.Proofs.Ytldakohmcmcfjaa
