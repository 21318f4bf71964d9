/-
  Rows of names and of functions that a call has made; what a program with small names alone is, plainly.
-/
import Derived.Test.YtacleafbjbhcgaaLbSw
import Derived.Test.YtacleafbjbhcgaaLbU
namespace Go.Proofs.Ytacleafbjbhcgaa
open Go Go.RowKit Go.Lib

def Fn.sm (f : Fn) : Fn := ⟨vS f.s, f.ps.map vS, f.b.sm 70⟩
def Pg.sm (p : Pg) : Pg := ⟨p.fs.map Fn.sm, p.m.sm 70⟩
theorem fsTell_sm (fs : List Fn) : ∀ l : List Fn, fsTell fs (l.map Fn.sm) = false
  | [] => rfl
  | f :: r => by
    rw [List.map_cons, fsTell, fsTell_sm fs r, Bool.or_false]
    exact SS.sm_tells _ _ _ _
theorem Pg.sm_tells (p : Pg) : p.sm.tells = false := by
  unfold Pg.tells
  rw [show p.sm.fs = p.fs.map Fn.sm from rfl, fsTell_sm, Bool.or_false]
  exact SS.sm_tells _ _ _ _
theorem Fn.sm_thin {f : Fn} (h : f.thin0) : f.sm.thin := by
  obtain ⟨h1, h2, h3, h4, h5⟩ := h
  refine ⟨by show (vS f.s).size ≤ _; rw [vS_size]; omega, by show (f.ps.map vS).length * 16 ≤ _; rw [List.length_map]; exact h2, fun s hs => ?_, ?_, SS.sm_thin _ _ h5⟩
  · obtain ⟨t, ht, rfl⟩ := List.mem_map.1 (show s ∈ f.ps.map vS from hs)
    have := h3 t ht
    rw [vS_size]; omega
  · have := SS.sm_len f.b 70
    show (f.b.sm 70).len * 104 ≤ _
    omega
theorem Pg.sm_thin {p : Pg} (h : p.thin0) : (∀ f ∈ p.sm.fs, f.thin) ∧ p.sm.m.thin := by
  obtain ⟨⟨_, h2⟩, _, h4⟩ := h
  refine ⟨fun f hf => ?_, SS.sm_thin _ _ h4⟩
  obtain ⟨g, hg, rfl⟩ := List.mem_map.1 (show f ∈ p.fs.map Fn.sm from hf)
  exact Fn.sm_thin (h2 g hg)

/-- Names that stay. -/
def RobN (lo : Nat) (g : Option Nat) (W : World) (v : Value) (l : List ByteArray) : Prop := ∀ W' : World, W.heap.size ≤ W'.heap.size → (∀ b, lo ≤ b → b < W.heap.size → some b ≠ g → W'.heap[b]? = W.heap[b]?) → RowV (PsIn W' l) W'.heap.size l.length v
theorem RobN.step {lo : Nat} {g g1 : Option Nat} {W W1 : World} {v : Value} {l : List ByteArray} (h : RobN lo g W v l) (hs : W.heap.size ≤ W1.heap.size) (hb : ∀ b, lo ≤ b → b < W.heap.size → some b ≠ g → W1.heap[b]? = W.heap[b]?) (hg : ∀ b, g1 = some b → g = some b ∨ W.heap.size ≤ b) : RobN lo g1 W1 v l := by
  intro W' h1 h2
  refine h W' (Nat.le_trans hs h1) fun b hlo hlt hne => (h2 b hlo (Nat.lt_of_lt_of_le hlt hs) (fun e => ?_)).trans (hb b hlo hlt hne)
  rcases hg b e.symm with h | h
  · exact hne h.symm
  · omega
theorem RobN.new {lo lo1 : Nat} {g : Option Nat} {W : World} {v : Value} {l : List ByteArray} (h : RobN lo1 none W v l) (hlo : lo ≤ lo1) (hg : ∀ b, g = some b → b < lo1) : RobN lo g W v l := by
  intro W' h1 h2
  refine h W' h1 fun b hl hlt _ => h2 b (Nat.le_trans hlo hl) hlt fun e => ?_
  have := hg b e.symm
  omega
theorem ps_in {W : World} : ∀ {l : List ByteArray} {b o : Nat}, (∀ s ∈ l, s.size ≤ 9223372036854775807) → (∀ j u, (l.map Value.string)[j]? = some u → W.cell? ⟨b, o + j, none⟩ = some u) → PsIn W l b o
  | [], _, _, _, _ => trivial
  | s :: r, b, o, h1, h2 => ⟨h2 0 _ rfl, h1 s (by simp), ps_in (fun t ht => h1 t (by simp [ht])) fun j u hu => by
      rw [show o + 1 + j = o + (j + 1) by omega]
      exact h2 (j + 1) u (by simpa using hu)⟩
theorem rob_ownN {lo base n : Nat} {W : World} {v : Value} {l : List ByteArray} (h : W.ownsRow base 9 1 v n (l.map Value.string)) (hlo : lo ≤ base) (hs : ∀ s ∈ l, s.size ≤ 9223372036854775807) (hn : n = l.length) : RobN lo none W v l := by
  intro W' h1 h2
  subst hn
  obtain ⟨A, cap, rfl, h3, h4, h5⟩ := own_shape h
  refine ⟨A, cap, rfl, h3, h4, fun h0 => ?_⟩
  obtain ⟨g, rfl, hg, hl, hq⟩ := h5 h0
  refine ⟨g, 0, rfl, Nat.lt_of_lt_of_le hl h1, ps_in hs fun j u hu => ?_⟩
  have e := h2 g (Nat.le_trans hlo hg) hl (fun e => by cases e)
  rw [Nat.zero_add, ← hq j u hu]
  unfold World.cell?
  simp only [e]

/-- The cells of functions by what their values are. -/
def FsG (N : Value → List ByteArray → Prop) (S : Value → SS → Prop) : List Fn → List Value → Prop
  | [] => fun cs => cs = []
  | f :: r => fun cs => ∃ vp vb rest, cs = .string f.s :: vp :: vb :: rest ∧ N vp f.ps ∧ S vb f.b ∧ (isSl vp ∧ isSl vb) ∧ f.s.size ≤ 9223372036854775807 ∧ FsG N S r rest
theorem FsG.mono {N N' : Value → List ByteArray → Prop} {S S' : Value → SS → Prop} (h : ∀ v l, N v l → N' v l) (h' : ∀ v l, S v l → S' v l) : ∀ {l : List Fn} {cs : List Value}, FsG N S l cs → FsG N' S' l cs
  | [], _, e => e
  | _ :: _, _, ⟨vp, vb, rest, e, h1, h2, h3, h4, hr⟩ => ⟨vp, vb, rest, e, h _ _ h1, h' _ _ h2, h3, h4, FsG.mono h h' hr⟩
theorem FsG.app {N : Value → List ByteArray → Prop} {S : Value → SS → Prop} {m : List Fn} {ds : List Value} (hm : FsG N S m ds) : ∀ {l : List Fn} {cs : List Value}, FsG N S l cs → FsG N S (l ++ m) (cs ++ ds)
  | [], _, e => by rw [show _ = [] from e]; exact hm
  | _ :: _, _, ⟨vp, vb, rest, e, h1, h2, h3, h4, hr⟩ => ⟨vp, vb, rest ++ ds, by rw [e]; rfl, h1, h2, h3, h4, FsG.app hm hr⟩
theorem FsG.in_ {N : Value → List ByteArray → Prop} {S : Value → SS → Prop} {B : Nat} {W : World} (hN : ∀ v l, N v l → RowV (PsIn W l) B l.length v) (hS : ∀ v l, S v l → SV B W v l) : ∀ {l : List Fn} {cs : List Value} {b o : Nat}, FsG N S l cs → (∀ j u, cs[j]? = some u → W.cell? ⟨b, o + j, none⟩ = some u) → FsIn B W l b o
  | [], _, _, _, _, _ => trivial
  | _ :: _, _, b, o, ⟨vp, vb, rest, e, h1, h2, _, h4, hr⟩, hq => by
    subst e
    exact ⟨hq 0 _ rfl, ⟨vp, hq 1 _ rfl, hN _ _ h1⟩, ⟨vb, hq 2 _ rfl, hS _ _ h2⟩, h4, FsG.in_ hN hS hr fun j u hu => by
      rw [show o + 3 + j = o + (j + 3) by omega]
      exact hq (j + 3) u (by simpa using hu)⟩
/-- A row of the call's own that holds such functions. -/
theorem own_fvG {lo base n : Nat} {W : World} {v : Value} {l : List Fn} {cs : List Value} (h : W.ownsRow base 31 3 v n cs) (hc : FsG (RobN lo v.ownBlock W) (RobS lo v.ownBlock W) l cs) (hn : n = l.length) : FV W.heap.size W v l := by
  subst hn
  have hN : ∀ v1 l1, RobN lo v.ownBlock W v1 l1 → RowV (PsIn W l1) W.heap.size l1.length v1 := fun v1 l1 hr => hr W (Nat.le_refl _) fun _ _ _ _ => rfl
  have hS : ∀ v1 l1, RobS lo v.ownBlock W v1 l1 → SV W.heap.size W v1 l1 := fun v1 l1 hr => hr W (Nat.le_refl _) fun _ _ _ _ => rfl
  obtain ⟨A, cap, rfl, h3, h4, h5⟩ := own_shape h
  refine ⟨A, cap, rfl, h3, h4, fun h0 => ?_⟩
  obtain ⟨g, rfl, hg, hl, hq⟩ := h5 h0
  exact ⟨g, 0, rfl, hl, hc.in_ hN hS fun j u hu => by rw [Nat.zero_add]; exact hq j u hu⟩
theorem funcInfo : (Try.prog.info? 31).map (fun i => (i.zero, i.size, i.bytes)) = some (some (.agg #[.string ⟨#[]⟩, .slice none 0 0, .slice none 0 0]), 3, 64) := by kernel_rfl
theorem strInfo : (Try.prog.info? 9).map (fun i => (i.zero, i.size, i.bytes)) = some (some (.string ⟨#[]⟩), 1, 16) := by kernel_rfl
abbrev fnO (s : ByteArray) (vp vb : Value) : Obj := .cells #[.string s, vp, vb] 31
abbrev pgV2 (v vm : Value) : Obj := .cells #[v, vm] 25
set_option maxRecDepth 100000 in
/-- append(v, y), y a function in a row of its own. -/
theorem wp_app_fn {w : World} {N : Nat} {ops : Array Oper} {rest : List Oper} {o : Oper} {a : Act} {Q : Exit → Act → World → Prop} {s x : Operand} {v : Value} {k : Nat} {cs : List Value} {b c : Nat} {s0 : ByteArray} {vp vb : Value} (hgd : o.guard = none)
    (ho : o.op = .call { callee := .builtin .append, args := #[s, x], argTypes := #[22, 22] })
    (hB : w.ownsRow N 31 3 v k cs) (hN : N ≤ w.heap.size) (hs : a.eval s = v) (hx : a.eval x = .slice (some ⟨b, 0, none⟩) 1 c) (hc : w.heap[b]? = some (fnO s0 vp vb)) (hvl : isSl vp ∧ isSl vb) (hlen : (k + 1) * 64 ≤ 140737488355328)
    (h : ∀ v' w', w'.ownsRow N 31 3 v' (k + 1) (cs ++ [.string s0, vp, vb]) → w.grownBy w' v.ownBlock → (v'.ownBlock = v.ownBlock ∨ v'.ownBlock = some w.heap.size) → wpList Try.prog ops Q rest (a.put o.dst v') w') : wpList Try.prog ops Q (o :: rest) a w := by
  obtain ⟨i0, hi, hz0, hz1, hz2⟩ := info_parts funcInfo
  refine wpList_append_own_at _ hgd s x 22 ho N 31 i0 _ 3 64 Try.underlying22 hi hz0 hz1 hz2 rfl (by decide) v k cs hs hB ⟨b, 0, none⟩ 1 c [.string s0, vp, vb] hx rfl (blk_news hc _ rfl) (fun u hu => ?_) (by unfold maxLen; omega) (by omega) hN (fun v' w' h1 h2 _ h4 => h v' w' h1 h2 h4)
  obtain ⟨⟨_, _, _, rfl⟩, ⟨_, _, _, rfl⟩⟩ := hvl
  simp only [List.mem_cons, List.not_mem_nil, or_false] at hu
  rcases hu with rfl | rfl | rfl <;> rfl
end Go.Proofs.Ytacleafbjbhcgaa
