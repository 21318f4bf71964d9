/-
  The statements' own 'shown' of layer 7: it tells true, and nothing of what was there has turned.
-/
import Derived.Test.YtacleafbjbhcgaaLbS
import Derived.Deep.DeepCutAuto
namespace Go.Proofs.Ytacleafbjbhcgaa
open Go Go.RowKit Go.Lib

/-- Nothing of w0 has turned. -/
def Fr (w0 w : World) : Prop := Below w0.heap.size w0 w
theorem Fr.refl (w : World) : Fr w w := Below.refl _ _
theorem Fr.step {w0 w w' : World} (h : Fr w0 w) (hb : Below w.heap.size w w') : Fr w0 w' := by
  unfold Fr at *
  exact h.trans (hb.mono h.size)
theorem Fr.alloc {w0 w : World} (h : Fr w0 w) (o : Obj) : Fr w0 (w.alloc o) := h.step ((Below.refl _ _).alloc (Nat.le_refl _) o)

abbrev nA : ByteArray := ⟨#[97]⟩
abbrev nB : ByteArray := ⟨#[66]⟩
abbrev nX : ByteArray := ⟨#[88]⟩
abbrev nY : ByteArray := ⟨#[89]⟩
abbrev nx : ByteArray := ⟨#[120]⟩
abbrev ny : ByteArray := ⟨#[121]⟩
abbrev nf : ByteArray := ⟨#[102]⟩
abbrev no : ByteArray := ⟨#[]⟩
abbrev vr (s : ByteArray) : ES := .cons 2 0 s .nil .nil
abbrev setS (s : ByteArray) (op n : Int) (s' : ByteArray) (l : ES) (r : SS) : SS := .cons 1 s 0 (.cons op n s' l .nil) .nil .nil r
abbrev fnS (s : ByteArray) : Fn := ⟨nf, [nA, nB], .cons 9 no 0 (vr s) .nil .nil .nil⟩
abbrev callS (s : ByteArray) : ES := .cons 2 0 s .nil (.cons 2 0 nY .nil .nil)
abbrev pgA : Pg := ⟨[], setS nx 2 0 nY .nil .nil⟩
abbrev pgB : Pg := ⟨[], setS nX 2 0 nY .nil (setS nx 2 0 ny .nil .nil)⟩
abbrev pgC (s : ByteArray) : Pg := ⟨[fnS nA], setS nx 5 0 nf (callS s) .nil⟩
abbrev pgE : Pg := ⟨[fnS nB], .nil⟩
abbrev pgG : Pg := ⟨[], .cons 8 no 0 (vr nX) .nil .nil .nil⟩

/-- What the two boxes of shown hold: f, its list of one statement; the call, its two parts. -/
structure Sh (w0 W : World) (p e b bf c bc : Nat) (s s' : ByteArray) : Prop where
  fr : Fr w0 W
  hp : W.heap[p]? = some (.cells #[.string nA, .string nB] 9)
  he : W.heap[e]? = some (nameO s')
  hb : W.heap[b]? = some (.cells #[.int .i64 9, .string no, .int .i64 0, .slice (some ⟨e, 0, none⟩) 1 1, .slice none 0 0, .slice none 0 0] 40)
  hf : W.heap[bf]? = some (.cells #[.string nf, .slice (some ⟨p, 0, none⟩) 2 2, .slice (some ⟨b, 0, none⟩) 1 1] 31)
  hc : W.heap[c]? = some (.cells #[.int .i64 2, .int .i64 0, .string s, .slice none 0 0, .int .i64 2, .int .i64 0, .string nY, .slice none 0 0] 37)
  hbc : W.heap[bc]? = some (.cells #[.int .i64 5, .int .i64 0, .string nf, .slice (some ⟨c, 0, none⟩) 2 2] 37)
  lf : w0.heap.size ≤ bf
  lc : w0.heap.size ≤ bc
theorem Sh.step {w0 W W' : World} {p e b bf c bc : Nat} {s s' : ByteArray} (h : Sh w0 W p e b bf c bc s s') (hb : Below W.heap.size W W') : Sh w0 W' p e b bf c bc s s' :=
  ⟨h.fr.step hb, (hb.block _ (lt_heap h.hp)).trans h.hp, (hb.block _ (lt_heap h.he)).trans h.he, (hb.block _ (lt_heap h.hb)).trans h.hb, (hb.block _ (lt_heap h.hf)).trans h.hf, (hb.block _ (lt_heap h.hc)).trans h.hc, (hb.block _ (lt_heap h.hbc)).trans h.hbc, h.lf, h.lc⟩
theorem Sh.alloc {w0 W : World} {p e b bf c bc : Nat} {s s' : ByteArray} (h : Sh w0 W p e b bf c bc s s') (o : Obj) : Sh w0 (W.alloc o) p e b bf c bc s s' := h.step ((Below.refl _ _).alloc (Nat.le_refl _) o)

theorem chk (W : World) (v : Value) (pg : Pg) (n : Int) (hv : PgV W.heap.size W v pg) (ht : pg.thin) (hn : errOf pg.tells = n) : Calls Try.prog 7 #[v] W fun e w' => e = .returned (.int .i64 n) ∧ Below W.heap.size W w' := by
  have := check_any v pg W W W.heap.size (Below.refl _ _) (Nat.le_refl _) hv ht
  rwa [hn] at this

theorem okE_of {op n : Int} {s : ByteArray} (h1 : 0 ≤ op ∧ op ≤ 100) (h2 : 0 ≤ n ∧ n ≤ 100) (h3 : s.size ≤ 9223372036854775807) : okE op n s := ⟨by unfold I64; omega, by unfold I64; omega, h3⟩
abbrev stmtO (op : Int) (s : ByteArray) (b : Nat) : Obj := .cells #[.int .i64 op, .string s, .int .i64 0, .slice (some ⟨b, 0, none⟩) 1 1, .slice none 0 0, .slice none 0 0] 40
/-- One statement over one expression, as a program. -/
theorem main_one {W : World} {g b : Nat} {op : Int} {s : ByteArray} {op' n' : Int} {s' : ByteArray} {v : Value} {l : ES} {t : TypeId} (hg : W.heap[g]? = some (stmtO op s b)) (hb : W.heap[b]? = some (.cells #[.int .i64 op', .int .i64 n', .string s', v] t)) (hv : EV W.heap.size W v l) (ho : okE op 0 s) (ho' : okE op' n' s') :
    SV W.heap.size W (.slice (some ⟨g, 0, none⟩) 1 1) (.cons op s 0 (.cons op' n' s' l .nil) .nil .nil .nil) := sv_one hg (ev_one hb hv ho') (sv_nil _ _) (sv_nil _ _) ho
theorem pg_v {W : World} {A A' : Option Addr} {n n' cap cap' : Nat} {fs : List Fn} {m : SS} (hn : fs.length = n) (hm : m.len = n') (hf : FV W.heap.size W (.slice A n cap) fs) (hs : SV W.heap.size W (.slice A' n' cap') m) : PgV W.heap.size W (.agg #[.slice A n cap, .slice A' n' cap']) ⟨fs, m⟩ := by
  subst hn hm
  exact ⟨A, cap, A', cap', rfl, hf, hs⟩
theorem old_at {W : World} {k : Nat} {o o' : Obj} (h : W.heap[k]? = some o) : (W.alloc o').heap[k]? = some o := (Below.heap_alloc W o' k (lt_heap h)).trans h

theorem chkA (W : World) (b : Nat) (hb : W.heap[b]? = some (nameO nY)) : Calls Try.prog 7 #[.agg #[.slice none 0 0, .slice (some ⟨W.heap.size, 0, none⟩) 1 1]] (W.alloc (stmtO 1 nx b)) fun e w' => e = .returned (.int .i64 5) ∧ Below (W.heap.size + 1) (W.alloc (stmtO 1 nx b)) w' := by
  have := chk (W.alloc (stmtO 1 nx b)) _ pgA 5 (pg_v rfl rfl (fv_nil _ _) (main_one (heap_alloc_new W _) (old_at hb) (ev_nil _ _) (okE_of (by decide) (by decide) (by decide)) (okE_of (by decide) (by decide) (by decide)))) (by simp [Pg.thin, SS.thin, ES.thin, SS.len, ES.len, ByteArray.size]) rfl
  rwa [World.size_alloc] at this
theorem chkG (W : World) : Calls Try.prog 7 #[.agg #[.slice none 0 0, .slice (some ⟨W.heap.size + 1, 0, none⟩) 1 1]] ((W.alloc (nameO nX)).alloc (stmtO 8 no W.heap.size)) fun e w' => e = .returned (.int .i64 5) ∧ Below (W.heap.size + 1 + 1) ((W.alloc (nameO nX)).alloc (stmtO 8 no W.heap.size)) w' := by
  have hg := heap_alloc_new (W.alloc (nameO nX)) (stmtO 8 no W.heap.size)
  rw [World.size_alloc] at hg
  have := chk ((W.alloc (nameO nX)).alloc (stmtO 8 no W.heap.size)) _ pgG 5 (pg_v rfl rfl (fv_nil _ _) (main_one hg (old_at (heap_alloc_new W _)) (ev_nil _ _) (okE_of (by decide) (by decide) (by decide)) (okE_of (by decide) (by decide) (by decide)))) (by simp [Pg.thin, SS.thin, ES.thin, SS.len, ES.len, ByteArray.size]) rfl
  rwa [World.size_alloc, World.size_alloc] at this
theorem chkB (W : World) (b b' : Nat) (hb : W.heap[b]? = some (nameO nY)) (hb' : W.heap[b']? = some (nameO ny)) (o : Obj) (ho : o = .cells #[.int .i64 1, .string nX, .int .i64 0, .slice (some ⟨b, 0, none⟩) 1 1, .slice none 0 0, .slice none 0 0, .int .i64 1, .string nx, .int .i64 0, .slice (some ⟨b', 0, none⟩) 1 1, .slice none 0 0, .slice none 0 0] 40) :
    Calls Try.prog 7 #[.agg #[.slice none 0 0, .slice (some ⟨W.heap.size, 0, none⟩) 2 2]] (W.alloc o) fun e w' => e = .returned (.int .i64 0) ∧ Below (W.heap.size + 1) (W.alloc o) w' := by
  subst ho
  have := chk (W.alloc (.cells #[.int .i64 1, .string nX, .int .i64 0, .slice (some ⟨b, 0, none⟩) 1 1, .slice none 0 0, .slice none 0 0, .int .i64 1, .string nx, .int .i64 0, .slice (some ⟨b', 0, none⟩) 1 1, .slice none 0 0, .slice none 0 0] 40)) _ pgB 0
    (pg_v rfl rfl (fv_nil _ _) (sv_two (heap_alloc_new W _) (ev_one (old_at hb) (ev_nil _ _) (okE_of (by decide) (by decide) (by decide))) (sv_nil _ _) (sv_nil _ _) (okE_of (by decide) (by decide) (by decide)) (ev_one (old_at hb') (ev_nil _ _) (okE_of (by decide) (by decide) (by decide))) (sv_nil _ _) (sv_nil _ _) (okE_of (by decide) (by decide) (by decide))))
    (by simp [Pg.thin, SS.thin, ES.thin, SS.len, ES.len, ByteArray.size]) rfl
  rwa [World.size_alloc] at this
/-- f in a list of its own. -/
theorem Sh.fn {w0 W : World} {p e b bf c bc : Nat} {s s' : ByteArray} (h : Sh w0 W p e b bf c bc s s') (hs : s'.size ≤ 100) {g : Nat} {t : TypeId} (hg : W.heap[g]? = some (.cells #[.string nf, .slice (some ⟨p, 0, none⟩) 2 2, .slice (some ⟨b, 0, none⟩) 1 1] t)) : FV W.heap.size W (.slice (some ⟨g, 0, none⟩) 1 1) [fnS s'] :=
  fv_one (f := fnS s') hg (ps_two h.hp (by decide) (by decide)) (main_one h.hb h.he (ev_nil _ _) (okE_of (by decide) (by decide) (by decide)) (okE_of (by decide) (by decide) (by omega))) (by show nf.size ≤ _; decide)
theorem Sh.chkC {w0 W : World} {p e b bf c bc : Nat} {s : ByteArray} (h : Sh w0 W p e b bf c bc s nA) {g g' d : Nat} {t t' : TypeId} (hg : W.heap[g]? = some (.cells #[.string nf, .slice (some ⟨p, 0, none⟩) 2 2, .slice (some ⟨b, 0, none⟩) 1 1] t)) (hg' : W.heap[g']? = some (stmtO 1 nx d)) (hd : W.heap[d]? = some (.cells #[.int .i64 5, .int .i64 0, .string nf, .slice (some ⟨c, 0, none⟩) 2 2] t')) (n : Int) (hn : errOf (pgC s).tells = n) (hs : s.size ≤ 100) :
    Calls Try.prog 7 #[.agg #[.slice (some ⟨g, 0, none⟩) 1 1, .slice (some ⟨g', 0, none⟩) 1 1]] W fun e w' => e = .returned (.int .i64 n) ∧ Below W.heap.size W w' :=
  chk W _ (pgC s) n (pg_v rfl rfl (h.fn (by decide) hg) (main_one hg' hd (ev_two h.hc (ev_nil _ _) (okE_of (by decide) (by decide) (by omega)) (ev_nil _ _) (okE_of (by decide) (by decide) (by decide))) (okE_of (by decide) (by decide) (by decide)) (okE_of (by decide) (by decide) (by decide))))
    (by have : s.size ≤ 140737488355328 := by omega
        simp [Pg.thin, Fn.thin, SS.thin, ES.thin, SS.len, ES.len, this]; decide) hn
theorem Sh.chkE {w0 W : World} {p e b bf c bc : Nat} {s : ByteArray} (h : Sh w0 W p e b bf c bc s nB) {g : Nat} {t : TypeId} (hg : W.heap[g]? = some (.cells #[.string nf, .slice (some ⟨p, 0, none⟩) 2 2, .slice (some ⟨b, 0, none⟩) 1 1] t)) :
    Calls Try.prog 7 #[.agg #[.slice (some ⟨g, 0, none⟩) 1 1, .slice none 0 0]] W fun e w' => e = .returned (.int .i64 5) ∧ Below W.heap.size W w' :=
  chk W _ pgE 5 (pg_v rfl rfl (h.fn (by decide) hg) (sv_nil _ _)) (by simp [Pg.thin, Fn.thin, SS.thin, ES.thin, SS.len, ES.len]; decide) rfl
end Go.Proofs.Ytacleafbjbhcgaa
