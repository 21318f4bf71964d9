/-
  Which of a list of expressions are secret: secrets; slices.Contains of bools.
-/
import Derived.Test.YtacleafbjbhcgaaLbC
namespace Go.Proofs.Ytacleafbjbhcgaa
open Go Go.RowKit Go.Lib

theorem boolInfo : (Try.prog.info? 4).map (fun i => (i.zero, i.size, i.bytes)) = some (some (.bool false), 1, 1) := by kernel_rfl
def bools (l : List Bool) : List Value := l.map Value.bool
theorem bools_app (l : List Bool) (y : Bool) : bools (l ++ [y]) = bools l ++ [.bool y] := by simp [bools]
theorem brow_own {C N : Nat} {w : World} {v : Value} {k : Nat} {l : List Bool} (h : w.ownsRow N 4 1 v k (bools l)) (hl : l.length = k) (hC : C < N) : BRow C w v l := by
  subst hl
  rcases h.2 with ⟨rfl, e⟩ | ⟨g, cap, cur, rfl, hg, hh, hnc, hm, hrest⟩
  · exact ⟨none, 0, by rw [e], by omega, by decide, fun hl => by omega⟩
  · have hlt := h.lt g rfl
    refine ⟨_, cap, rfl, hnc, by unfold maxLen at hm; omega, fun _ => ⟨g, rfl, by omega, hlt.2, fun i x hi => ?_⟩⟩
    have hc := h.cells (g := g) rfl i (.bool x) (by unfold bools; rw [List.getElem?_map, hi]; rfl)
    have e : (⟨g, 0, none⟩ : Addr).add i = ⟨g, i, none⟩ := by unfold Addr.add; split <;> simp_all
    rw [e] at hc
    exact hc
set_option maxRecDepth 100000 in
/-- append(v, y), y in a row of its own. -/
theorem wp_app_bool {w : World} {N : Nat} {ops : Array Oper} {rest : List Oper} {o : Oper} {a : Act} {Q : Exit → Act → World → Prop} {s x : Operand} {v : Value} {k : Nat} {l : List Bool} {b c : Nat} {y : Bool} (hgd : o.guard = none)
    (ho : o.op = .call { callee := .builtin .append, args := #[s, x], argTypes := #[61, 61] })
    (hB : w.ownsRow N 4 1 v k (bools l)) (hN : N ≤ w.heap.size) (hs : a.eval s = v) (hx : a.eval x = .slice (some ⟨b, 0, none⟩) 1 c) (hc : w.cell? ⟨b, 0, none⟩ = some (.bool y)) (hlen : k ≤ 100000000000000)
    (h : ∀ v' w', w'.ownsRow N 4 1 v' (k + 1) (bools (l ++ [y])) → w.grownBy w' v.ownBlock → (∀ j, v.ownBlock = some j → N ≤ j) → wpList Try.prog ops Q rest (a.put o.dst v') w') : wpList Try.prog ops Q (o :: rest) a w := by
  obtain ⟨i0, hi, hz0, hz1, hz2⟩ := info_parts boolInfo
  refine wpList_append_own _ hgd s x 61 ho N 4 i0 _ 1 1 Try.underlying61 hi hz0 hz1 hz2 rfl (by decide) v k (bools l) hs hB ⟨b, 0, none⟩ 1 c [.bool y] hx rfl (fun j u hj => ?_) (fun u hu => ?_) (by unfold maxLen; omega) (by omega) hN ?_
  · cases j with
    | zero =>
      have hj : Value.bool y = u := by simpa using hj
      subst hj
      have e : (⟨b, 0, none⟩ : Addr).add 0 = ⟨b, 0, none⟩ := by unfold Addr.add; split <;> simp_all
      rw [e]; exact hc
    | succ j => simp at hj
  · rw [List.mem_singleton.1 hu]; rfl
  · intro v' w' hown hgrow _
    refine h v' w' ?_ hgrow (fun j hj => (hB.lt j hj).1)
    rw [bools_app]; exact hown

/-- What expression does, at expressions whose parts hold fewer than K. -/
def ExHas (K : Nat) : Prop := ∀ (op n : Int) (s : ByteArray) (v : Value) (l : ES) (B C M : Nat) (fs : List Fn) (w0 w : World) (nm : ByteArray) (t : Bool), l.cnt < K → EV B w0 v l → l.len * 56 ≤ 140737488351232 → l.thin → s.size ≤ 9223372036854775807 → Ck B C M fs w0 w nm t →
  Calls Try.prog 24 #[.pointer (some ⟨C, 0, none⟩), .agg #[.int .i64 op, .int .i64 n, .string s, v]] w fun e w' => e = .returned (.bool (secB op s l.sec)) ∧ Ck B C M fs w0 w' nm (t || (l.tells fs || ownE fs op s l.secs)) ∧ Gr C w w'

def SecRel (B C M : Nat) (fs : List Fn) (w0 W : World) (nm : ByteArray) (t : Bool) (K len : Nat) (A : Option Addr) (l : ES) (v i : Value) (wr : World) : Prop :=
  ∃ (k : Nat) (r : ES) (pre : List Bool) (t1 : Bool), i = .int .i64 k ∧ k + r.len = len ∧ r.cnt ≤ K ∧ r.thin ∧ pre.length = k ∧ l.secs = pre ++ r.secs ∧ (t || l.tells fs) = (t1 || r.tells fs) ∧ (0 < r.len → ∃ b o, A = some ⟨b, o, none⟩ ∧ b < B ∧ r.In B w0 b (o + k * 4)) ∧
    wr.ownsRow W.heap.size 4 1 v k (bools pre) ∧ Ck B C M fs w0 wr nm t1 ∧ Gr C W wr

theorem cell_new (w : World) (cs : Array Value) (t : TypeId) (i : Nat) : (w.alloc (.cells cs t)).cell? ⟨w.heap.size, i, none⟩ = cs[i]? := by
  have h : (w.alloc (.cells cs t)).heap[w.heap.size]? = some (.cells cs t) := heap_alloc_new w _
  simp only [World.cell?, h]
  rfl
theorem told_step (a b c d : Bool) : (a || ((b || c) || d)) = ((a || (b || c)) || d) := by cases a <;> cases b <;> cases c <;> cases d <;> rfl

set_option maxRecDepth 100000 in
set_option maxHeartbeats 4000000 in
theorem secrets_any (K : Nat) (hex : ExHas K) (A : Option Addr) (cap : Nat) (l : ES) (B C M : Nat) (fs : List Fn) (w0 W : World) (nm : ByteArray) (t : Bool) (hK : l.cnt ≤ K) (hv : EV B w0 (.slice A l.len cap) l) (hth : l.len * 56 ≤ 140737488351232) (ht : l.thin) (hck : Ck B C M fs w0 W nm t) :
    Calls Try.prog 23 #[.slice A l.len cap, .func (.func 24) #[.pointer (some ⟨C, 0, none⟩)] #[]] W fun e W' => (∃ v, e = .returned v ∧ BRow C W' v l.secs) ∧ Ck B C M fs w0 W' nm (t || l.tells fs) ∧ Gr C W W' := by
  obtain ⟨A1, cap1, e1, hc1, hc2, hrow⟩ := hv
  injection e1 with e2 e3 e4
  subst e2 e4
  clear e3
  obtain ⟨len, hlen⟩ : ∃ len, l.len = len := ⟨_, rfl⟩
  rw [hlen] at hc1 hrow hth ⊢
  have HL := Lib.hid hlen; clear hlen
  have HC := Lib.hid hck
  have hCl := hck.lt
  clear hck
  obtain ⟨i0, hi, hz0, hz1, hz2⟩ := info_parts boolInfo
  go_enter Try.func23, Try.ntmps23
  go_wp2_with (at_make; refine wpList_make_own _ rfl _ _ 61 rfl W.heap.size 4 i0 (.bool false) 1 Try.underlying61 hi hz0 hz1 .i64 .i64 _ len rfl rfl rfl (by rw [hz2]; omega) (by unfold maxLen; omega) (Nat.le_refl _) ?_; intro w1 hown hgrow)
  go_loopw [5, 13] (fun v i wr => SecRel B C M fs w0 W nm t K len A l v i wr) (fun _ i _ => len - (intOf i).toNat)
  case atStart => exact ⟨0, l, [], t, rfl, by have := HL.out; omega, hK, ht, rfl, rfl, rfl, by simpa [HL.out] using hrow, hown, HC.out.grown hgrow (fun k e => by cases e), (Gr.refl C W).grown hgrow (fun k e => by cases e)⟩
  case round =>
    obtain ⟨k, r, pre, t1, rfl, hk, hrK, hrt, hpre, hsec, htold, hr1, hown1, hck1, hg1⟩ := hrel
    have HSC := Lib.hid hsec; clear hsec
    have HT := Lib.hid htold; clear htold
    cases r with
    | nil =>
      have hk0 : k = len := by simpa [ES.len] using hk
      subst hk0
      clear hk hrow hr1
      have HCK := Lib.hid hck1; clear hck1
      have HO := Lib.hid hown1; clear hown1
      go_wp2
      go_ret
      refine ⟨⟨_, rfl, ?_⟩, HCK.out.said (by rw [HT.out, ES.tells, Bool.or_false]), hg1⟩
      rw [HSC.out, ES.secs, List.append_nil]
      exact brow_own HO.out hpre hCl
    | cons op n s l1 r =>
      obtain ⟨b, o, rfl, hb, c0, c1, c2, ⟨v3, c3, h3⟩, h4, hr⟩ := hr1 (by simp [ES.len])
      clear hrow hr1
      have hlt : k < len := by simp [ES.len] at hk; omega
      have HK := Lib.hid hk; clear hk
      have d0 := (hck1.base.cell (p := ⟨b, o + k * 4, none⟩) hb).trans c0
      have d1 := (hck1.base.cell (p := ⟨b, o + k * 4 + 1, none⟩) hb).trans c1
      have d2 := (hck1.base.cell (p := ⟨b, o + k * 4 + 2, none⟩) hb).trans c2
      have d3 := (hck1.base.cell (p := ⟨b, o + k * 4 + 3, none⟩) hb).trans c3
      clear c0 c1 c2 c3
      obtain ⟨⟨hth1, hth2⟩, hth3, hth4⟩ := hrt
      have hcnt : l1.cnt < K ∧ r.cnt ≤ K := by simp only [ES.cnt] at hrK; omega
      have HE := Lib.hid (fun bx => hex op n s v3 l1 B C M fs w0 (wr.alloc bx) nm t1 hcnt.1 h3 hth2 hth3 h4.2.2 (hck1.alloc bx))
      obtain ⟨A3, cap3, rfl, _⟩ := id h3
      have hsz1 := hg1.size
      have HG1 := Lib.hid hg1
      have HO := Lib.hid hown1
      clear h3 hown1 hg1 hck1
      go_wp2_with (first
        | (go_at_call 24; ((with_reducible refine (HE.out _).mono ?_); rintro e w2 ⟨rfl, hck2, hg2⟩; have hsz2 := hg2.size; simp only [World.size_alloc] at hsz2; have hown2 := Lib.hid ((HO.out.alloc _).kept hg2 (.inr (fun e => by have := (HO.out.lt C e).1; omega)))))
        | (at_builtin; refine wp_app_bool rfl rfl (hown2.out.alloc _) (by simp; omega) rfl rfl (cell_new _ _ _ 0) (by omega) ?_; intro v3 w3 hown3 hgrow3 hnew))
      go_roundw
      case rel =>
        refine ⟨k + 1, r, pre ++ [secB op s l1.sec], (t1 || (l1.tells fs || ownE fs op s l1.secs)), by go_num, by have := HK.out; simp [ES.len] at this; omega, hcnt.2, hth4, by simp [hpre], ?_, ?_, fun _ => ⟨b, o, rfl, hb, by rw [show o + (k + 1) * 4 = o + k * 4 + 4 by omega]; exact hr⟩, hown3, ?_, ?_⟩
        · rw [HSC.out, ES.secs, List.append_assoc]; rfl
        · rw [HT.out, ES.tells, told_step]
        · exact (hck2.alloc _).grown hgrow3 (fun j e => by have := hnew j e; omega)
        · exact (((HG1.out.alloc _).trans hg2).alloc _).grown hgrow3 hnew
      case measure => simp [intOf]; omega
end Go.Proofs.Ytacleafbjbhcgaa
