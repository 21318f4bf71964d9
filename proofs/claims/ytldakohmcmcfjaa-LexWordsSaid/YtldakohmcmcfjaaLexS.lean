/-
  The statements' own 'shown': it tells true, and nothing of what was there has turned.
-/
import Derived.Test.YtldakohmcmcfjaaLexR
import Derived.Lib.SlBytesConst
namespace Go.Proofs.Ytldakohmcmcfjaa
open Go Go.RowKit Go.Lib

def txt1 : List UInt8 := [120, 61, 61, 49, 59, 32, 35, 32, 110, 111, 10, 61, 32, 61]
def tok1 : List Tok := [⟨1, [120], 0⟩, ⟨3, [61, 61], 1⟩, ⟨2, [49], 3⟩, ⟨3, [59], 4⟩, ⟨3, [61], 11⟩, ⟨3, [61], 13⟩]
theorem lex1 : lexS 0 txt1 = .ok tok1 := by rw [lexS_eq 14 0 txt1 (by decide)]; decide
theorem lex2 : lexS 0 [97, 98, 32, 49, 120] = .bad 4 := by rw [lexS_eq 5 0 _ (by decide)]; decide
theorem lex3 : lexS 0 [97, 46, 98] = .bad 1 := by rw [lexS_eq 3 0 _ (by decide)]; decide

theorem row1 (w : World) {fz : Nat × Nat} : Row (w.alloc (.cells #[.int .u8 120, .int .u8 61, .int .u8 61, .int .u8 49, .int .u8 59, .int .u8 32, .int .u8 35, .int .u8 32, .int .u8 110, .int .u8 111, .int .u8 10, .int .u8 61, .int .u8 32, .int .u8 61] 5 fz)) (some ⟨w.heap.size, 0, none⟩) txt1 := row_new w _ _ _ rfl
theorem row2 (w : World) {fz : Nat × Nat} : Row (w.alloc (.cells #[.int .u8 97, .int .u8 98, .int .u8 32, .int .u8 49, .int .u8 120] 5 fz)) (some ⟨w.heap.size, 0, none⟩) [97, 98, 32, 49, 120] := row_new w _ _ _ rfl
theorem row3 (w : World) {fz : Nat × Nat} : Row (w.alloc (.cells #[.int .u8 97, .int .u8 46, .int .u8 98] 5 fz)) (some ⟨w.heap.size, 0, none⟩) [97, 46, 98] := row_new w _ _ _ rfl
theorem byteInfo : (Try.prog.info? 5).map (fun i => (i.zero, i.size, i.bytes)) = some (some (.int .u8 0), 1, 1) := by kernel_rfl
theorem make_big : ∃ C : Array Value, ∀ wr : World, (Instr.makeSlice 22 (.int .i64 65537) (.int .i64 65537)).run Try.prog wr = .ok (.slice (some ⟨wr.heap.size, 0, none⟩) 65537 65537) (wr.alloc (.cells C 5)) := by
  obtain ⟨i0, hi, hz0, hz1, hz2⟩ := info_parts byteInfo
  exact ⟨_, fun wr => run_make wr 22 5 i0 _ Try.underlying22 hi hz0 .i64 .i64 65537 65537 (by decide) (by decide) (by rw [hz2]; decide) (by decide)⟩

/-- What shown reads of its first tokens. -/
def Seen (w : World) (g : Nat) : Prop :=
  w.cell? ⟨g, 3, none⟩ = some (.int .i64 3) ∧ w.cell? ⟨g, 4, none⟩ = some (.string ⟨#[61, 61]⟩) ∧ w.cell? ⟨g, 6, none⟩ = some (.int .i64 2) ∧ w.cell? ⟨g, 13, none⟩ = some (.string ⟨#[61]⟩) ∧
  w.cell? ⟨g, 17, none⟩ = some (.int .i64 13) ∧ w.cell? ⟨g, 18, none⟩ = some (.int .i64 4) ∧ w.cell? ⟨g, 20, none⟩ = some (.int .i64 14)
theorem seen_of {w : World} {g : Nat} (h : TokRow w g (fin tok1 14)) : Seen w g := by
  have a1 := h.2 1 _ rfl
  have a2 := h.2 2 _ rfl
  have a4 := h.2 4 _ rfl
  have a5 := h.2 5 _ rfl
  have a6 := h.2 6 _ rfl
  exact ⟨a1.1, a1.2.1, a2.1, a4.2.1, a5.2.2, a6.1, a6.2.2⟩

set_option maxHeartbeats 4000000 in
set_option maxRecDepth 100000 in
theorem shown_fr (w0 w : World) (h : Fr w0 w) :
    Calls Try.prog 10 #[] w fun e w' => e = .returned (.bool true) ∧ Fr w0 w' := by
  obtain ⟨C, hmk⟩ := make_big
  have kc := fun (w : World) (C : Array Value) (n c : Nat) => Lib.run_convert_bytes_const (P := Try.prog) w 22 5 C n c Try.underlying22 Try.underlying5
  go_enter Try.func10, Try.ntmps10
  go_wp2_with (first
    | (go_at_call 11; ((with_reducible refine (lex_ok _ 14 _ 7 txt1 tok1 _ rfl (by decide) (by decide) (row1 _) lex1 rfl).mono ?_); rintro e w1 ⟨g, c1, rfl, hg, hc1, ht1, hb1⟩))
    | (go_at_call 11; ((with_reducible refine (lex_no _ 5 _ [97, 98, 32, 49, 120] 4 _ rfl (by decide) (by decide) (row2 _) lex2).mono ?_); rintro e w2 ⟨rfl, hb2⟩))
    | (go_at_call 11; ((with_reducible refine (lex_no _ 3 _ [97, 46, 98] 1 _ rfl (by decide) (by decide) (row3 _) lex3).mono ?_); rintro e w3 ⟨rfl, hb3⟩))
    | (go_at_call 11; ((with_reducible refine (lex_big _ 65537 _ _ (by decide)).mono ?_); rintro e w4 ⟨rfl, rfl⟩; obtain ⟨s1, s2, s3, s4, s5, s6, s7⟩ := seen_of (((((ht1.alloc _).past hb2).alloc _).past hb3).alloc (.cells C 5)))))
  go_ret
  exact ⟨rfl, ((((h.alloc _).below hb1).alloc _).below hb2 |>.alloc _).below hb3 |>.alloc _⟩

end Go.Proofs.Ytldakohmcmcfjaa
