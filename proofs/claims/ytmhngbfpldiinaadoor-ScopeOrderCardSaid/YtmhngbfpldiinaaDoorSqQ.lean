/-
  ScopeOrder, plainly and its walk: names stand in the order in which they come.
-/
import Derived.Test.YtmhngbfpldiinaaDoorSqN
import Derived.Maps.AppendAt
import Derived.BigQuiet
namespace Go.Proofs.YtmhngbfpldiinaaDoor
open Go Go.RowKit Go.Lib

/-- A name by a number. -/
def vnm (i : Nat) : ByteArray := ⟨#[118]⟩ ++ ⟨#[UInt8.ofNat (97 + i)]⟩
theorem vnm_sz (i : Nat) : (vnm i).size = 2 := by unfold vnm; rw [ByteArray.size_append]; rfl
/-- The four statements. -/
def oS (k : Nat) (s : ByteArray) (r : SS) : SS :=
  if k % 4 = 0 then .cons 4 s 0 .nil .nil .nil r
  else if k % 4 = 1 then .cons 6 ⟨#[]⟩ 0 (.cons 6 0 ⟨#[]⟩ (.cons 2 0 s .nil .nil) .nil) .nil .nil r
  else if k % 4 = 2 then .cons 1 s 0 (.cons 3 0 ⟨#[]⟩ .nil .nil) .nil .nil r
  else .cons 7 ⟨#[]⟩ 0 (.cons 3 0 ⟨#[]⟩ .nil .nil) .nil (.cons 5 ⟨#[]⟩ 0 (.cons 2 0 s .nil .nil) .nil .nil .nil) r
def oL : Nat → List Nat → SS
  | _, [] => .nil
  | k, i :: l => oS k (vnm i) (oL (k + 1) l)
theorem oS_us (k : Nat) (s : ByteArray) (r : SS) : (oS k s r).us = .var s :: r.us := by
  unfold oS
  split
  · simp [SS.us, ES.us, stU]
  split
  · simp [SS.us, ES.us, stU, exU]
  split
  · simp [SS.us, ES.us, stU, exU]
  · simp [SS.us, ES.us, stU, exU]
theorem oL_us : ∀ (l : List Nat) (k : Nat), (oL k l).us = l.map fun i => .var (vnm i)
  | [], _ => rfl
  | i :: l, k => by rw [oL, oS_us, oL_us l]; rfl
theorem oL_len : ∀ (l : List Nat) (k : Nat), (oL k l).len = l.length
  | [], _ => rfl
  | i :: l, k => by
    have := oL_len l (k + 1)
    unfold oL oS
    split <;> (try split) <;> (try split) <;> simp [SS.len, this]
theorem oL_cnt : ∀ (l : List Nat) (k : Nat), (oL k l).cnt ≤ 10 * l.length
  | [], _ => by simp [oL, SS.cnt]
  | i :: l, k => by
    have := oL_cnt l (k + 1)
    unfold oL oS
    split <;> (try split) <;> (try split) <;> simp [SS.cnt, ES.cnt] <;> omega
theorem o_okF : ∀ (i : Fin 20) (k : Fin 4), (oS k.val (vnm i.val) .nil).ok = true ∧ (oS k.val (vnm i.val) .nil).deep ≤ 4 := by decide +kernel
theorem oS_mod (k : Nat) (s : ByteArray) (r : SS) : oS (k % 4) s r = oS k s r := by unfold oS; simp
theorem oS_ok (k : Nat) (s : ByteArray) (r : SS) : (oS k s r).ok = ((oS k s .nil).ok && r.ok) := by
  unfold oS
  split
  · simp [SS.ok]
  split
  · simp [SS.ok]
  split
  · simp [SS.ok]
  · simp [SS.ok]
theorem oS_deep (k : Nat) (s : ByteArray) (r : SS) : (oS k s r).deep ≤ max (oS k s .nil).deep r.deep := by
  unfold oS
  split
  · simp only [SS.deep]; omega
  split
  · simp only [SS.deep]; omega
  split
  · simp only [SS.deep]; omega
  · simp only [SS.deep]; omega
theorem oL_ok : ∀ (l : List Nat) (k : Nat), (∀ i, i ∈ l → i < 20) → (oL k l).ok = true ∧ (oL k l).deep ≤ 4
  | [], _, _ => ⟨rfl, (by decide : SS.nil.deep ≤ 4)⟩
  | i :: l, k, h => by
    have h1 := oL_ok l (k + 1) fun j hj => h j (List.mem_cons_of_mem _ hj)
    have h2 := o_okF ⟨i, h i List.mem_cons_self⟩ ⟨k % 4, Nat.mod_lt _ (by decide)⟩
    simp only [oS_mod] at h2
    have h3 := oS_deep k (vnm i) (oL (k + 1) l)
    rw [oL, oS_ok, h1.1, h2.1]
    exact ⟨rfl, by omega⟩
def wantN (l : List Nat) : List ByteArray := (l.map vnm).foldl withN []
theorem wantN_snoc (l : List Nat) (i : Nat) : wantN (l ++ [i]) = withN (wantN l) (vnm i) := by simp [wantN]
theorem run_ofs (ar : ByteArray → Option Nat) : ∀ (l : List Nat) (g : Gt), g.run ar (l.map fun i => .var (vnm i)) = { g with vs := (l.map vnm).foldl withN g.vs }
  | [], _ => rfl
  | i :: l, g => by
    have e : g.run ar ((i :: l).map fun i => .var (vnm i)) = ({ g with vs := withN g.vs (vnm i) } : Gt).run ar (l.map fun i => .var (vnm i)) := rfl
    rw [e, run_ofs ar l]
    rfl
theorem nodup_le {α : Type} [DecidableEq α] : ∀ (l m : List α), l.Nodup → (∀ x, x ∈ l → x ∈ m) → l.length ≤ m.length
  | [], _, _, _ => Nat.zero_le _
  | x :: r, m, hd, hs => by
    rw [List.nodup_cons] at hd
    have hx := hs x List.mem_cons_self
    have := nodup_le r (m.erase x) hd.2 fun y hy => (List.mem_erase_of_ne (fun e => hd.1 (by rw [← e]; exact hy))).2 (hs y (List.mem_cons_of_mem _ hy))
    rw [List.length_erase_of_mem hx] at this
    have := List.length_pos_of_mem hx
    simp only [List.length_cons]; omega
theorem want_ok : ∀ (l : List Nat) (acc : List ByteArray), (∀ i, i ∈ l → i < 20) → acc.Nodup → (∀ x, x ∈ acc → x ∈ (List.range 20).map vnm) → ((l.map vnm).foldl withN acc).Nodup ∧ ∀ x, x ∈ (l.map vnm).foldl withN acc → x ∈ (List.range 20).map vnm
  | [], _, _, h1, h2 => ⟨h1, h2⟩
  | i :: l, acc, h, h1, h2 => by
    refine want_ok l (withN acc (vnm i)) (fun j hj => h j (List.mem_cons_of_mem _ hj)) ?_ ?_
    · unfold withN
      split
      · exact h1
      · rename_i hb
        rw [List.nodup_append]
        exact ⟨h1, by simp, fun a ha b' hb' => by rw [List.mem_singleton] at hb'; subst hb'; exact fun e => hb (e ▸ ha)⟩
    · intro x hx
      rcases withN_mem.1 hx with hx | rfl
      · exact h2 x hx
      · exact List.mem_map.2 ⟨i, List.mem_range.2 (h i List.mem_cons_self), rfl⟩
theorem want_len (l : List Nat) (h : ∀ i, i ∈ l → i < 20) : (wantN l).length ≤ 20 := by
  have := want_ok l [] h List.nodup_nil (fun x hx => by cases hx)
  have := nodup_le _ _ this.1 this.2
  show (List.foldl withN [] (l.map vnm)).length ≤ 20
  simpa using this
def pgW (l : List Nat) : Pg := ⟨[], oL 0 l⟩
theorem or_err (l : List Nat) (h : ∀ i, i ∈ l → i < 20) : resErr (pgW l) = 0 ∧ resP (pgW l) = [⟨⟨#[]⟩, 0, wantN l, []⟩] := by
  have hf := oL_ok l 0 h
  have hr : rightN (pgW l) = 0 := by
    have h1 : (funcsB ([] : List Fn) && okL (Pg.pts (pgW l))) = true := by
      rw [Pg.pts, okL_append, SS.okL]
      show (funcsB [] && (okL (fsPts []) && (oL 0 l).ok)) = true
      rw [hf.1]; rfl
    have h2 : ¬ 64 < deepL (Pg.pts (pgW l)) := by
      rw [Pg.pts, deepL_append, SS.deepL]
      show ¬ 64 < max (deepL (fsPts [])) (oL 0 l).deep
      simp only [fsPts, deepL]; omega
    unfold rightN
    rw [show (pgW l).fs = [] from rfl, if_pos h1, if_neg h2]
  have hg : ∀ ar, gFn ar ⟨⟨#[]⟩, [], oL 0 l⟩ = ⟨wantN l, [], [], true⟩ := by
    intro ar
    rw [gFn_def]
    show Gt.run ar { g0 with ok := true } (oL 0 l).us = _
    rw [oL_us, run_ofs]
    rfl
  have hsc : scopes (pgW l) = [⟨⟨#[]⟩, 0, wantN l, []⟩] := by
    show [spFn _ ⟨⟨#[]⟩, [], oL 0 l⟩] = _
    unfold spFn
    rw [hg]
    rfl
  have he : resErr (pgW l) = 0 := by
    rw [err_ok hr (by
      show (distinctN [] && (okFn _ ⟨⟨#[]⟩, [], oL 0 l⟩ && true)) = true
      unfold okFn
      rw [hg]
      rfl), hsc]
    have := want_len l h
    simp [Sp.full]
    omega
  refine ⟨he, ?_⟩
  unfold resP
  rw [if_pos he, hsc]
/-- It lies from lo on, and is no block of the row's. -/
def OAt (W : World) (lo : Nat) (row : Option Nat) (b : Nat) (o : Obj) : Prop := lo ≤ b ∧ some b ≠ row ∧ W.heap[b]? = some o
abbrev exO (op n : Int) (s : ByteArray) (v : Value) : Obj := .cells #[.int .i64 op, .int .i64 n, .string s, v] 43
abbrev smO (op : Int) (s : ByteArray) (v v' : Value) : Obj := .cells #[.int .i64 op, .string s, .int .i64 0, v, .slice none 0 0, v'] 45
abbrev one (b : Nat) : Value := .slice (some ⟨b, 0, none⟩) 1 1
def six (op : Int) (s : ByteArray) (v v' : Value) : List Value := [.int .i64 op, .string s, .int .i64 0, v, .slice none 0 0, v']
def OPart (W : World) (lo : Nat) (row : Option Nat) (k : Nat) (s : ByteArray) (a : List Value) : Prop :=
  if k % 4 = 0 then a = six 4 s (.slice none 0 0) (.slice none 0 0)
  else if k % 4 = 1 then ∃ b1 b2, a = six 6 ⟨#[]⟩ (one b2) (.slice none 0 0) ∧ OAt W lo row b1 (exO 2 0 s (.slice none 0 0)) ∧ OAt W lo row b2 (exO 6 0 ⟨#[]⟩ (one b1))
  else if k % 4 = 2 then ∃ b1, a = six 1 s (one b1) (.slice none 0 0) ∧ OAt W lo row b1 (exO 3 0 ⟨#[]⟩ (.slice none 0 0))
  else ∃ b1 b2 b3, a = six 7 ⟨#[]⟩ (one b1) (one b3) ∧ OAt W lo row b1 (exO 3 0 ⟨#[]⟩ (.slice none 0 0)) ∧ OAt W lo row b2 (exO 2 0 s (.slice none 0 0)) ∧ OAt W lo row b3 (smO 5 ⟨#[]⟩ (one b2) (.slice none 0 0))
/-- What is no text, and not the row, lies on. -/
def OKp (W W' : World) (lo : Nat) (row row' : Option Nat) : Prop := ∀ b cs t, lo ≤ b → some b ≠ row → t ≠ 9 → W.heap[b]? = some (.cells cs t) → some b ≠ row' ∧ W'.heap[b]? = some (.cells cs t)
theorem OAt.mono {W W' : World} {lo b : Nat} {row row' : Option Nat} {cs : Array Value} {t : TypeId} (h : OKp W W' lo row row') (ht : t ≠ 9) (ha : OAt W lo row b (.cells cs t)) : OAt W' lo row' b (.cells cs t) := ⟨ha.1, h b cs t ha.1 ha.2.1 ht ha.2.2⟩
theorem OPart.mono {W W' : World} {lo k : Nat} {row row' : Option Nat} {s : ByteArray} {a : List Value} (h : OKp W W' lo row row') (ha : OPart W lo row k s a) : OPart W' lo row' k s a := by
  unfold OPart at ha ⊢
  split
  · rename_i h0; rwa [if_pos h0] at ha
  · rename_i h0
    rw [if_neg h0] at ha
    split
    · rename_i h1
      rw [if_pos h1] at ha
      obtain ⟨b1, b2, e, h2, h3⟩ := ha
      exact ⟨b1, b2, e, h2.mono h (by decide), h3.mono h (by decide)⟩
    · rename_i h1
      rw [if_neg h1] at ha
      split
      · rename_i h2
        rw [if_pos h2] at ha
        obtain ⟨b1, e, h2⟩ := ha
        exact ⟨b1, e, h2.mono h (by decide)⟩
      · rename_i h2
        rw [if_neg h2] at ha
        obtain ⟨b1, b2, b3, e, h2, h3, h4⟩ := ha
        exact ⟨b1, b2, b3, e, h2.mono h (by decide), h3.mono h (by decide), h4.mono h (by decide)⟩
def OIn (W : World) (lo : Nat) (row : Option Nat) : Nat → List Nat → List Value → Prop
  | _, [], cs => cs = []
  | k, i :: l, cs => ∃ a rest, cs = a ++ rest ∧ OPart W lo row k (vnm i) a ∧ OIn W lo row (k + 1) l rest
theorem OIn.mono {W W' : World} {lo : Nat} {row row' : Option Nat} (h : OKp W W' lo row row') : ∀ {l : List Nat} {k : Nat} {cs : List Value}, OIn W lo row k l cs → OIn W' lo row' k l cs
  | [], _, _, hc => hc
  | _ :: _, _, _, ⟨a, rest, e, h1, h2⟩ => ⟨a, rest, e, h1.mono h, OIn.mono h h2⟩
theorem OIn.snoc {W : World} {lo : Nat} {row : Option Nat} {i : Nat} {a : List Value} : ∀ {l : List Nat} {k : Nat} {cs : List Value}, OIn W lo row k l cs → OPart W lo row (k + l.length) (vnm i) a → OIn W lo row k (l ++ [i]) (cs ++ a)
  | [], k, cs, hc, h => ⟨a, [], by rw [show cs = [] from hc]; simp, h, rfl⟩
  | j :: l, k, _, ⟨a', rest, e, h1, h2⟩, h => ⟨a', rest ++ a, by rw [e, List.append_assoc], h1, OIn.snoc h2 (by rw [show k + 1 + l.length = k + (j :: l).length by simp only [List.length_cons]; omega]; exact h)⟩
theorem o_ev {W : World} {lo b : Nat} {row : Option Nat} {op : Int} {s : ByteArray} {v : Value} {l : ES} (h : OAt W lo row b (exO op 0 s v)) (hv : EV W.heap.size W v l) (h1 : I64 op) (h2 : s.size ≤ 9223372036854775807) : EV W.heap.size W (one b) (.cons op 0 s l .nil) :=
  ⟨_, 1, rfl, Nat.le_refl _, by decide, fun _ => ⟨b, 0, rfl, blk_lt h.2.2, (blk_cell h.2.2 0).trans rfl, (blk_cell h.2.2 1).trans rfl, (blk_cell h.2.2 2).trans rfl, ⟨_, (blk_cell h.2.2 3).trans rfl, hv⟩, ⟨h1, by decide, h2⟩, trivial⟩⟩
theorem o_sv {W : World} {lo b : Nat} {row : Option Nat} {op : Int} {s : ByteArray} {v : Value} {l : ES} (h : OAt W lo row b (smO op s v (.slice none 0 0))) (hv : EV W.heap.size W v l) (h1 : I64 op) (h2 : s.size ≤ 9223372036854775807) : SV W.heap.size W (one b) (.cons op s 0 l .nil .nil .nil) :=
  ⟨_, 1, rfl, Nat.le_refl _, by decide, fun _ => ⟨b, 0, rfl, blk_lt h.2.2, (blk_cell h.2.2 0).trans rfl, (blk_cell h.2.2 1).trans rfl, (blk_cell h.2.2 2).trans rfl, ⟨_, (blk_cell h.2.2 3).trans rfl, hv⟩, ⟨_, (blk_cell h.2.2 4).trans rfl, sv_nought _ _⟩, ⟨_, (blk_cell h.2.2 5).trans rfl, sv_nought _ _⟩, ⟨h1, by decide, h2⟩, trivial⟩⟩
theorem OIn.cells {W : World} {lo : Nat} {row : Option Nat} : ∀ {l : List Nat} {k : Nat} {cs : List Value}, OIn W lo row k l cs → (oL k l).Cells W.heap.size W cs
  | [], _, _, hc => hc
  | i :: l, k, _, ⟨a, rest, e, h1, h2⟩ => by
    have ih := OIn.cells h2
    have hz : (⟨#[]⟩ : ByteArray).size ≤ 9223372036854775807 := by decide
    have hs : (vnm i).size ≤ 9223372036854775807 := by rw [vnm_sz]; decide
    subst e
    unfold OPart at h1
    unfold oL oS
    split
    · rename_i h0
      rw [if_pos h0] at h1
      subst h1
      exact ⟨_, _, _, rest, rfl, ev_nought _ _, sv_nought _ _, sv_nought _ _, ⟨by decide, by decide, hs⟩, ih⟩
    · rename_i h0
      rw [if_neg h0] at h1
      split
      · rename_i h3
        rw [if_pos h3] at h1
        obtain ⟨b1, b2, rfl, g1, g2⟩ := h1
        exact ⟨_, _, _, rest, rfl, o_ev g2 (o_ev g1 (ev_nought _ _) (by decide) hs) (by decide) hz, sv_nought _ _, sv_nought _ _, ⟨by decide, by decide, hz⟩, ih⟩
      · rename_i h3
        rw [if_neg h3] at h1
        split
        · rename_i h4
          rw [if_pos h4] at h1
          obtain ⟨b1, rfl, g1⟩ := h1
          exact ⟨_, _, _, rest, rfl, o_ev g1 (ev_nought _ _) (by decide) hz, sv_nought _ _, sv_nought _ _, ⟨by decide, by decide, hs⟩, ih⟩
        · rename_i h4
          rw [if_neg h4] at h1
          obtain ⟨b1, b2, b3, rfl, g1, g2, g3⟩ := h1
          exact ⟨_, _, _, rest, rfl, o_ev g1 (ev_nought _ _) (by decide) hz, sv_nought _ _, o_sv g3 (o_ev g2 (ev_nought _ _) (by decide) hs) (by decide) hz, ⟨by decide, by decide, hz⟩, ih⟩
theorem okp_alloc {W : World} {lo : Nat} {row : Option Nat} (o : Obj) : OKp W (W.alloc o) lo row row := fun _ _ _ _ h1 _ h2 => ⟨h1, blk_alloc h2 _⟩
theorem okp_set {W : World} {lo k i : Nat} {row : Option Nat} (x : Value) (h : k < lo) : OKp W (W.setCell ⟨k, i, none⟩ x) lo row row := fun b _ _ hl h1 _ h2 => ⟨h1, (Below.heap_setCell W ⟨k, i, none⟩ x b (by show b ≠ k; omega)).trans h2⟩
theorem okp_grown {W W' : World} {lo : Nat} {row row' : Option Nat} (hg : W.grownBy W' row) (hr : row' = row ∨ row' = some W.heap.size) : OKp W W' lo row row' := fun b _ _ _ h1 _ h2 => ⟨by
    rcases hr with rfl | rfl
    · exact h1
    · intro e
      injection e with e
      have := blk_lt h2
      omega, blk_grown h2 hg h1⟩
theorem okp_st {W W' : World} {lo base n : Nat} {row : Option Nat} {v : Value} {xs : List Value} (h : W.ownsRow base 9 1 v n xs) (hg : W.grownBy W' v.ownBlock) : OKp W W' lo row row := fun _ _ _ _ h1 ht h2 => ⟨h1, blk_grown_own h hg h2 (Ne.symm ht)⟩
theorem OKp.trans {W1 W2 W3 : World} {lo : Nat} {r1 r2 r3 : Option Nat} (h1 : OKp W1 W2 lo r1 r2) (h2 : OKp W2 W3 lo r2 r3) : OKp W1 W3 lo r1 r3 := fun b cs t hl hr ht hb => by
  obtain ⟨g1, g2⟩ := h1 b cs t hl hr ht hb
  exact h2 b cs t hl g1 ht g2

theorem conv_1o (w : World) (c : UInt8) : (convert 47 9 (.slice (some ⟨w.heap.size, 0, none⟩) 1 1)).run Tryd.prog (w.alloc (.cells #[.int .u8 (c.toNat : Int)] 5)) = .ok (.string ⟨#[c]⟩) (w.alloc (.cells #[.int .u8 (c.toNat : Int)] 5)) :=
  run_convert_bytes_back (P := Tryd.prog) _ _ _ _ ⟨w.heap.size, 0, none⟩ 1 [c] Tryd.underlying47 Tryd.underlying5 Tryd.underlying9 (fun j hj => by
    obtain rfl : j = 0 := by simpa using hj
    exact (World.cell?_alloc_mark w _ _ _ 0))
theorem byte_at' {W : World} {A : Option Addr} {l : List UInt8} (h : Row W A l) (h0 : 0 < l.length) : ∃ b o, A = some ⟨b, o, none⟩ ∧ b < W.heap.size ∧ ∀ i (hi : i < l.length), W.cell? ⟨b, o + i, none⟩ = some (.int .u8 (l[i].toNat : Int)) := by
  obtain ⟨b, o, e, hb, hc⟩ := h h0
  refine ⟨b, o, e, hb, fun i hi => ?_⟩
  rw [hc i hi]
  unfold nth bv
  rw [List.getD_eq_getElem?_getD, List.getElem?_eq_getElem hi]
  rfl
abbrev pgM1 (v : Value) : Obj := .cells #[.slice none 0 0, v] 25
def nsO (l : List UInt8) : List Nat := l.map fun b => b.toNat % 20
theorem nsO_lt (l : List UInt8) : ∀ i, i ∈ nsO l → i < 20 := fun i h => by
  obtain ⟨b, _, rfl⟩ := List.mem_map.1 h
  exact Nat.mod_lt _ (by decide)
theorem want_sz (ns : List Nat) (h : ∀ i, i ∈ ns → i < 20) : ∀ s, s ∈ wantN ns → s.size ≤ 9223372036854775807 := fun s hs => by
  obtain ⟨i, _, rfl⟩ := List.mem_map.1 ((want_ok ns [] h List.nodup_nil (fun x hx => by cases hx)).2 s hs)
  rw [vnm_sz]; decide
theorem nsO_snoc (l : List UInt8) (k : Nat) (h : k < l.length) : nsO (l.take (k + 1)) = nsO (l.take k) ++ [l[k].toNat % 20] := by
  rw [List.take_succ_eq_append_getElem h]; unfold nsO; rw [List.map_append]; rfl
theorem c_set_at' {W : World} {j k i : Nat} {o : Obj} {v : Value} (h : W.heap[j]? = some o) (hne : j ≠ k) : (W.setCell ⟨k, i, none⟩ v).heap[j]? = some o := (Below.heap_setCell W ⟨k, i, none⟩ v j hne).trans h
theorem own_disj' {W : World} {b1 b2 : Nat} {e1 e2 : TypeId} {s1 s2 n1 n2 : Nat} {v1 v2 : Value} {x1 x2 : List Value} (h1 : W.ownsRow b1 e1 s1 v1 n1 x1) (h2 : W.ownsRow b2 e2 s2 v2 n2 x2) (hne : e2 ≠ e1) : v1.ownBlock = none ∨ v1.ownBlock ≠ v2.ownBlock := by
  rcases h1.2 with ⟨rfl, _⟩ | ⟨g, cap, cur, rfl, _, hg, _⟩
  · exact .inl rfl
  · exact .inr (own_ne h2 hg hne)
/-- What lies there: the box, the row of statements (so many), the row of names. -/
structure OSt (bp k : Nat) (ns : List Nat) (vp vw : Value) (cs : List Value) (w W : World) : Prop where
  x : W.heap[bp]? = some (pgM1 vp)
  p : W.ownsRow (bp + 1) 45 6 vp k cs
  i : OIn W (bp + 1) vp.ownBlock 0 ns cs
  n : W.ownsRow (bp + 1) 9 1 vw (wantN ns).length ((wantN ns).map Value.string)
  b : Below w.heap.size w W
theorem OSt.alloc {bp k : Nat} {ns : List Nat} {vp vw : Value} {cs : List Value} {w W : World} (h : OSt bp k ns vp vw cs w W) (o : Obj) : OSt bp k ns vp vw cs w (W.alloc o) := ⟨blk_alloc h.x _, h.p.alloc _, h.i.mono (okp_alloc _), h.n.alloc _, h.b.alloc h.b.size _⟩
/-- A part that has been made lies on, and is not the row's. -/
theorem OSt.at_ {bp k b : Nat} {ns : List Nat} {vp vw : Value} {cs : List Value} {w W : World} (h : OSt bp k ns vp vw cs w W) {o : Obj} (hb : W.heap.size = b) : OAt (W.alloc o) (bp + 1) vp.ownBlock b o := by
  subst hb
  exact ⟨blk_lt h.x, fun e => by have := (h.p.lt _ e.symm).2; omega, heap_alloc_new _ _⟩
def OrRel (bp N : Nat) (l : List UInt8) (w : World) (want i : Value) (wr : World) : Prop :=
  ∃ (k : Nat) (vp : Value) (cs : List Value), i = .int .i64 k ∧ k ≤ N ∧ OSt bp k (nsO (l.take k)) vp want cs w wr

theorem same_eq {w7 : World} (l : List ByteArray) (n : Nat) (A A' : Option Addr) (c c' : Nat) (hn : l.length = n) (h1 : RowV (PsIn w7 l) w7.heap.size l.length (.slice A l.length c)) (h2 : RowV (PsIn w7 l) w7.heap.size n (.slice A' n c')) : Calls Tryd.prog 14 #[.slice A n c, .slice A' n c'] w7 fun e w' => e = .returned (.bool true) ∧ Below w7.heap.size w7 w' := by
  subst hn
  refine (same_any _ _ _ l l _ _ (Below.refl _ _) (Nat.le_refl _) h1 h2).mono ?_
  rintro e w' ⟨rfl, h⟩
  exact ⟨by simp, h⟩
set_option maxRecDepth 100000 in
set_option maxHeartbeats 16000000 in
theorem order_walk (A : Option Addr) (n cap : Nat) (l : List UInt8) (w : World) (hn : l.length = n) (hcap : n ≤ cap) (hcm : cap ≤ 9223372036854775807) (hr : Row w A l) (ht : Tab w) : Calls Tryd.prog 6 #[.slice A n cap] w fun e w' => e = .returned (.bool true) ∧ Below w.heap.size w w' := by
  obtain ⟨N, hN⟩ : ∃ N, min n 100 = N := ⟨_, rfl⟩
  have HS := Lib.hid (shown6_any w ht)
  have HT := Lib.hid ht
  have HR := Lib.hid hr
  have HL := Lib.hid hn
  obtain ⟨i0, hi, hz0, hz1, hz2⟩ := info_parts stmtInfo
  have HI := Lib.hid hi
  have HZ0 := Lib.hid hz0
  obtain ⟨i1, hi', hz0', hz1', hz2'⟩ := info_parts stringInfo
  have HI' := Lib.hid hi'
  have HZ0' := Lib.hid hz0'
  have HN := Lib.hid hN
  clear ht hi hz0 hi' hz0' hr hn hN
  go_enter Tryd.func6, Tryd.ntmps6
  go_upto_region 3 with (go_at_call 10; ((with_reducible refine HS.out.mono ?_); rintro e w1 ⟨rfl, h1⟩))
  obtain ⟨bp, hbp⟩ : ∃ b, w1.heap.size = b := ⟨_, rfl⟩
  obtain ⟨W, hW⟩ : ∃ W, w1.alloc (pgM1 (.slice none 0 0)) = W := ⟨_, rfl⟩
  have n0 : OSt bp 0 [] (.slice none 0 0) (.slice none 0 0) [] w W := ⟨by rw [← hW]; exact blk_new hbp, ⟨rfl, .inl ⟨rfl, rfl⟩⟩, rfl, ⟨rfl, .inl ⟨rfl, rfl⟩⟩, by rw [← hW]; exact h1.alloc h1.size _⟩
  have hwb : w.heap.size ≤ bp := by rw [← hbp]; exact h1.size
  rw [hbp, hW]
  have N0 := Lib.hid n0
  clear hbp hW n0 h1
  go_wp2
  go_loopw [5, 6] (fun want i wr => OrRel bp N l w want i wr) (fun _ i _ => N - (RowKit.intOf i).toNat)
  case atStart => exact ⟨0, _, _, rfl, Nat.zero_le _, N0.out⟩
  case round =>
    obtain ⟨k, vp, cs, rfl, hk, hst⟩ := hrel
    have ST := Lib.hid hst
    have hB := hst.b
    obtain ⟨Xp, cp, rfl⟩ := own_form hst.p
    obtain ⟨Xw, cw, rfl⟩ := own_form hst.n
    have hNn : N ≤ n ∧ N ≤ 100 := by have := HN.out; omega
    have lbx := blk_lt hst.x
    by_cases hkN : k < N
    · have q1 : decide ((k : Int) < (n : Int)) = true := by simp; omega
      have q2 : decide ((k : Int) < 100) = true := by simp; omega
      have q3 : decide (k < n) = true := by simp; omega
      have q4 : decide (k < 100) = true := by simp; omega
      have HKN := Lib.hid hkN
      obtain ⟨bb, oo, rfl, hbb, hcell⟩ := byte_at' HR.out (by have := HL.out; omega)
      have hkl : k < l.length := by have := HL.out; omega
      obtain ⟨b, hb⟩ : ∃ b, l[k] = b := ⟨_, rfl⟩
      have d0 : wr.cell? ⟨bb, oo + k, none⟩ = some (.int .u8 (b.toNat : Int)) := by
        have := (hB.cell (p := ⟨bb, oo + k, none⟩) hbb).trans (hcell k hkl)
        rwa [hb] at this
      have i0' : (0 : Int) ≤ (k : Int) := by omega
      have i1' : (k : Int) < (n : Int) := by omega
      obtain ⟨c, hc⟩ : ∃ c, UInt8.ofNat (97 + b.toNat % 20) = c := ⟨_, rfl⟩
      have e1 : 97 + (b.toNat : Int) % 20 = (c.toNat : Int) := by
        rw [← hc, UInt8.toNat_ofNat']
        omega
      have hcv := fun wr => conv_1o wr c
      have hnm : vnm (l[k].toNat % 20) = ⟨#[118]⟩ ++ ⟨#[c]⟩ := by rw [hb]; unfold vnm; rw [hc]
      have HNM := Lib.hid hnm
      have nlt : ¬ (9223372036854775807 < (⟨#[118]⟩ : ByteArray).size + (⟨#[c]⟩ : ByteArray).size) := by show ¬ (9223372036854775807 < 1 + 1); omega
      obtain ⟨wl, hwl⟩ : ∃ x, (wantN (nsO (l.take k))).length = x := ⟨_, rfl⟩
      have hwl20 : wl ≤ 20 := by rw [← hwl]; exact want_len _ (nsO_lt _)
      rw [hwl]
      have HWL := Lib.hid hwl
      clear hcell hc hb hnm hwl
      go_upto_region 9 with fail
      obtain ⟨wA, hwA⟩ : ∃ W, (wr.alloc (.cells #[.int .u8 (c.toNat : Int)] 5)).alloc (exO 2 0 (⟨#[118]⟩ ++ ⟨#[c]⟩) (.slice none 0 0)) = W := ⟨_, rfl⟩
      have sA : Hid (OSt bp k (nsO (l.take k)) (.slice Xp k cp) (.slice Xw wl cw) cs w wA) := hid (by rw [← hwA, ← HWL.out]; exact (hst.alloc _).alloc _)
      have eA : wA.heap[wr.heap.size + 1]? = some (exO 2 0 (⟨#[118]⟩ ++ ⟨#[c]⟩) (.slice none 0 0)) := by rw [← hwA]; exact new2 _ _ _
      rw [hwA]
      clear hwA hst
      obtain ⟨ns, hns⟩ : ∃ x, nsO (l.take k) = x := ⟨_, rfl⟩
      have HNS := Lib.hid hns
      rw [hns] at sA
      have HWN : Hid ((wantN ns).length = wl) := hid (by rw [← hns]; exact HWL.out)
      have hk0 : wA.cell? ⟨bp, 1, none⟩ = some (.slice Xp k cp) := (blk_cell sA.out.x 1).trans rfl
      obtain ⟨eb, heb⟩ : ∃ x, wr.heap.size + 1 = x := ⟨_, rfl⟩
      rw [heb] at eA ⊢
      have EA := Lib.hid eA
      have lE := blk_lt eA
      have lB := blk_lt sA.out.x
      have HSN : Hid (ns.length = k) := hid (by rw [← hns]; unfold nsO; rw [List.length_map, List.length_take]; omega)
      have WSZ : Hid (∀ s, s ∈ wantN ns → s.size ≤ 9223372036854775807) := hid (by rw [← hns]; exact want_sz _ (nsO_lt _))
      clear hns eA heb d0 hB lbx i0' i1' e1 nlt hbb
      obtain hm | hm | hm | hm : k % 4 = 0 ∨ k % 4 = 1 ∨ k % 4 = 2 ∨ k % 4 = 3 := by omega
      · have hm1 : (k : Int) % 4 = 0 := by omega
        have hm2 : (k : Int).tmod 4 = 0 := by rw [Int.tmod_eq_emod_of_nonneg (by omega)]; exact hm1
        obtain ⟨B1, hB1⟩ : ∃ W, wA.alloc (smO 4 (⟨#[118]⟩ ++ ⟨#[c]⟩) (.slice none 0 0) (.slice none 0 0)) = W := ⟨_, rfl⟩
        have s1 : Hid (OSt bp k ns (.slice Xp k cp) (.slice Xw wl cw) cs w B1) := hid (by rw [← hB1]; exact sA.out.alloc _)
        have t0 : Hid (OAt B1 (bp + 1) (Value.slice Xp k cp).ownBlock wA.heap.size (smO 4 (⟨#[118]⟩ ++ ⟨#[c]⟩) (.slice none 0 0) (.slice none 0 0))) := hid (by rw [← hB1]; exact sA.out.at_ rfl)
        have PT : Hid (OPart B1 (bp + 1) (Value.slice Xp k cp).ownBlock k (⟨#[118]⟩ ++ ⟨#[c]⟩) (six 4 (⟨#[118]⟩ ++ ⟨#[c]⟩) (.slice none 0 0) (.slice none 0 0))) := hid (by unfold OPart; rw [if_pos (by omega)])
        have nw : Hid (B1.heap[wA.heap.size]? = some (smO 4 (⟨#[118]⟩ ++ ⟨#[c]⟩) (.slice none 0 0) (.slice none 0 0))) := hid t0.out.2.2
        have zB : bp + 1 ≤ B1.heap.size := blk_lt s1.out.x
        have zC : w.heap.size ≤ B1.heap.size := s1.out.b.size
        go_upto_region 18 with (at_builtin; refine wpList_append_own_at _ rfl _ _ 23 rfl (bp + 1) 45 i0 _ 6 104 Tryd.underlying23 HI.out HZ0.out hz1 hz2 rfl (by decide) _ k _ rfl s1.out.p ⟨wA.heap.size, 0, none⟩ 1 1 [.int .i64 4, .string (⟨#[118]⟩ ++ ⟨#[c]⟩), .int .i64 0, .slice none 0 0, .slice none 0 0, .slice none 0 0] rfl rfl (blk_news nw.out _ rfl) (fun u hu => by (simp only [List.mem_cons, List.not_mem_nil, or_false] at hu; rcases hu with rfl | rfl | rfl | rfl | rfl | rfl <;> rfl)) (by unfold maxLen; omega) (by omega) (by omega) ?_; intro v9 w9 hown9 hg9 _ hblk9; have r0 := blk_grown_own s1.out.p hg9 s1.out.x (by decide); have g0 : w9.cell? ⟨bp, 1, none⟩ = some (.slice Xp k cp) := (blk_cell r0 1).trans rfl; have g1 := blk_frozen r0 1; have g2 := blk_lt r0; have R3 := Lib.hid (s1.out.b.grown hg9 zC (fun q hq => by have := (s1.out.p.lt q hq).1; omega)); have R5 := Lib.hid (s1.out.n.kept hg9 (own_disj' s1.out.n s1.out.p (by decide))); have R6 := Lib.hid ((OIn.snoc s1.out.i (by rw [Nat.zero_add, HSN.out, HNM.out]; exact PT.out)).mono (okp_grown hg9 hblk9)); obtain ⟨X9, c9, rfl⟩ := own_form hown9; have R0 := Lib.hid r0; have R4 := Lib.hid hown9; clear r0 hown9 hg9 hblk9)
        obtain ⟨wD, hwD⟩ : ∃ W, w9.setCell ⟨bp, 1, none⟩ (.slice X9 (k + 1) c9) = W := ⟨_, rfl⟩
        have D0 : Hid (wD.heap[bp]? = some (pgM1 (.slice X9 (k + 1) c9))) := hid (by rw [← hwD]; exact (blk_set R0.out 1 _).trans (by simp))
        have D1 : Hid (wD.ownsRow (bp + 1) 45 6 (.slice X9 (k + 1) c9) (k + 1) _) := hid (by rw [← hwD]; exact own_set R4.out (own_ne R4.out R0.out (by decide)) _)
        have D2 := Lib.hid (OIn.mono (hwD ▸ okp_set _ (Nat.lt_succ_self bp) : OKp w9 wD (bp + 1) (Value.slice X9 (k + 1) c9).ownBlock (Value.slice X9 (k + 1) c9).ownBlock) R6.out)
        have D3 : Hid (wD.ownsRow (bp + 1) 9 1 (.slice Xw wl cw) (wantN ns).length ((wantN ns).map Value.string)) := hid (by rw [← hwD]; exact own_set R5.out (own_ne R5.out R0.out (by decide)) _)
        have D4 : Hid (Below w.heap.size w wD) := hid (by rw [← hwD]; exact R3.out.setCell hwb _)
        rw [hwD]
        clear hwD g0 g1 g2

        by_cases hin : (⟨#[118]⟩ ++ ⟨#[c]⟩) ∈ wantN ns
        · have hz : ∃ z : Nat, slotP (wantN ns) (⟨#[118]⟩ ++ ⟨#[c]⟩) = (z : Int) := by unfold slotP; rw [if_pos hin]; exact ⟨_, rfl⟩
          obtain ⟨z, hz⟩ := hz
          have q5 : decide ((z : Int) < 0) = false := by simp
          have HW' : Hid (withN (wantN ns) (⟨#[118]⟩ ++ ⟨#[c]⟩) = wantN ns) := hid (by unfold withN; rw [if_pos hin])
          have SL := Lib.hid (slot_lit Xw cw wl (wantN ns) (⟨#[118]⟩ ++ ⟨#[c]⟩) z hz wD.heap.size wD wD (Below.refl _ _) (by have := st_row D3.out WSZ.out; rw [HWN.out] at this; exact this) HWN.out)
          clear hz hin
          go_wp2_with (go_at_call 12; ((with_reducible refine SL.out.mono ?_); rintro e w10 ⟨rfl, rfl⟩))
          go_roundw
          case rel => exact ⟨k + 1, _, _, by go_num, by have := HKN.out; omega, by rw [nsO_snoc l k hkl, HNS.out]; exact ⟨D0.out, D1.out, D2.out, by rw [wantN_snoc, HNM.out, HW'.out]; exact D3.out, D4.out⟩⟩
          case measure => simp [RowKit.intOf]; omega
        · have hz : slotP (wantN ns) (⟨#[118]⟩ ++ ⟨#[c]⟩) = -1 := by unfold slotP; rw [if_neg hin]
          have HW' : Hid (withN (wantN ns) (⟨#[118]⟩ ++ ⟨#[c]⟩) = wantN ns ++ [(⟨#[118]⟩ ++ ⟨#[c]⟩)]) := hid (by unfold withN; rw [if_neg hin])
          have SL := Lib.hid (slot_lit Xw cw wl (wantN ns) (⟨#[118]⟩ ++ ⟨#[c]⟩) (-1) hz wD.heap.size wD wD (Below.refl _ _) (by have := st_row D3.out WSZ.out; rw [HWN.out] at this; exact this) HWN.out)
          clear hz hin
          obtain ⟨wE, hwE⟩ : ∃ W, wD.alloc (.cells #[.string (⟨#[118]⟩ ++ ⟨#[c]⟩)] 9) = W := ⟨_, rfl⟩
          have E0 : Hid (wE.heap[bp]? = some (pgM1 (.slice X9 (k + 1) c9))) := hid (by rw [← hwE]; exact blk_alloc D0.out _)
          have E1 := Lib.hid (hwE ▸ D1.out.alloc _ : wE.ownsRow (bp + 1) 45 6 (.slice X9 (k + 1) c9) (k + 1) (cs ++ [.int .i64 4, .string (⟨#[118]⟩ ++ ⟨#[c]⟩), .int .i64 0, .slice none 0 0, .slice none 0 0, .slice none 0 0]))
          have E2 := Lib.hid (OIn.mono (hwE ▸ okp_alloc _ : OKp wD wE (bp + 1) (Value.slice X9 (k + 1) c9).ownBlock (Value.slice X9 (k + 1) c9).ownBlock) D2.out)
          have E3 : Hid (wE.ownsRow (bp + 1) 9 1 (.slice Xw wl cw) wl ((wantN ns).map Value.string)) := hid (by have := D3.out.alloc (.cells #[.string (⟨#[118]⟩ ++ ⟨#[c]⟩)] 9); rw [hwE, HWN.out] at this; exact this)
          have E4 : Hid (Below w.heap.size w wE) := hid (by rw [← hwE]; exact D4.out.alloc D4.out.size _)
          have E5 : Hid (wE.heap[wD.heap.size]? = some (.cells #[.string (⟨#[118]⟩ ++ ⟨#[c]⟩)] 9)) := hid (by rw [← hwE]; exact heap_alloc_new _ _)
          have zE : bp + 1 ≤ wE.heap.size := blk_lt E0.out
          have zF : w.heap.size ≤ wE.heap.size := E4.out.size
          go_upto_region 6 with (first
            | (go_at_call 12; ((with_reducible refine SL.out.mono ?_); rintro e w10 ⟨rfl, rfl⟩))
            | (at_builtin; refine wpList_append_own_at _ rfl _ _ 31 rfl (bp + 1) 9 i1 _ 1 16 Tryd.underlying31 HI'.out HZ0'.out hz1' hz2' rfl (by decide) _ wl _ rfl E3.out ⟨wD.heap.size, 0, none⟩ 1 1 [.string (⟨#[118]⟩ ++ ⟨#[c]⟩)] rfl rfl (blk_news E5.out _ rfl) (fun u hu => by rw [List.mem_singleton.1 hu]; rfl) (by unfold maxLen; omega) (by omega) (by omega) ?_; intro v11 w11 hown11 hg11 _ hblk11; have F0 := Lib.hid (blk_grown_own E3.out hg11 E0.out (by decide)); have F1 := Lib.hid (E1.out.kept hg11 (own_disj' E1.out E3.out (by decide))); have F2 := Lib.hid (E2.out.mono (okp_st E3.out hg11)); have F3 := Lib.hid hown11; have F4 := Lib.hid (E4.out.grown hg11 zF (fun q hq => by have := (E3.out.lt q hq).1; omega)); clear hown11 hg11 hblk11))
          go_wp2
          go_roundw
          case rel => exact ⟨k + 1, _, _, by go_num, by have := HKN.out; omega, by rw [nsO_snoc l k hkl, HNS.out]; exact ⟨F0.out, F1.out, F2.out, by rw [wantN_snoc, HNM.out, HW'.out, List.length_append, HWN.out, List.map_append]; exact F3.out, F4.out⟩⟩
          case measure => simp [RowKit.intOf]; omega
      · have hm1 : (k : Int) % 4 = 1 := by omega
        have hm2 : (k : Int).tmod 4 = 1 := by rw [Int.tmod_eq_emod_of_nonneg (by omega)]; exact hm1
        obtain ⟨B1, hB1⟩ : ∃ W, wA.alloc (exO 2 0 (⟨#[118]⟩ ++ ⟨#[c]⟩) (.slice none 0 0)) = W := ⟨_, rfl⟩
        have s1 : Hid (OSt bp k ns (.slice Xp k cp) (.slice Xw wl cw) cs w B1) := hid (by rw [← hB1]; exact sA.out.alloc _)
        have t0 : Hid (OAt B1 (bp + 1) (Value.slice Xp k cp).ownBlock wA.heap.size (exO 2 0 (⟨#[118]⟩ ++ ⟨#[c]⟩) (.slice none 0 0))) := hid (by rw [← hB1]; exact sA.out.at_ rfl)
        obtain ⟨B2, hB2⟩ : ∃ W, B1.alloc (exO 6 0 ⟨#[]⟩ (one wA.heap.size)) = W := ⟨_, rfl⟩
        have s2 : Hid (OSt bp k ns (.slice Xp k cp) (.slice Xw wl cw) cs w B2) := hid (by rw [← hB2]; exact s1.out.alloc _)
        have t1 : Hid (OAt B2 (bp + 1) (Value.slice Xp k cp).ownBlock B1.heap.size (exO 6 0 ⟨#[]⟩ (one wA.heap.size))) := hid (by rw [← hB2]; exact s1.out.at_ rfl)
        obtain ⟨B3, hB3⟩ : ∃ W, B2.alloc (smO 6 ⟨#[]⟩ (one B1.heap.size) (.slice none 0 0)) = W := ⟨_, rfl⟩
        have s3 : Hid (OSt bp k ns (.slice Xp k cp) (.slice Xw wl cw) cs w B3) := hid (by rw [← hB3]; exact s2.out.alloc _)
        have t2 : Hid (OAt B3 (bp + 1) (Value.slice Xp k cp).ownBlock B2.heap.size (smO 6 ⟨#[]⟩ (one B1.heap.size) (.slice none 0 0))) := hid (by rw [← hB3]; exact s2.out.at_ rfl)
        have c0 : wA.cell? ⟨eb, 0, none⟩ = some (.int .i64 2) := (blk_cell EA.out 0).trans rfl
        have c1 : wA.cell? ⟨eb, 1, none⟩ = some (.int .i64 0) := (blk_cell EA.out 1).trans rfl
        have c2 : wA.cell? ⟨eb, 2, none⟩ = some (.string (⟨#[118]⟩ ++ ⟨#[c]⟩)) := (blk_cell EA.out 2).trans rfl
        have c3 : wA.cell? ⟨eb, 3, none⟩ = some (.slice none 0 0) := (blk_cell EA.out 3).trans rfl
        have PT : Hid (OPart B3 (bp + 1) (Value.slice Xp k cp).ownBlock k (⟨#[118]⟩ ++ ⟨#[c]⟩) (six 6 ⟨#[]⟩ (one B1.heap.size) (.slice none 0 0))) := hid (by unfold OPart; rw [if_neg (by omega)]; rw [if_pos (by omega)]; exact ⟨_, _, rfl, (OAt.mono (hB3 ▸ okp_alloc _ : OKp B2 B3 (bp + 1) (Value.slice Xp k cp).ownBlock (Value.slice Xp k cp).ownBlock) (by decide) (OAt.mono (hB2 ▸ okp_alloc _ : OKp B1 B2 (bp + 1) (Value.slice Xp k cp).ownBlock (Value.slice Xp k cp).ownBlock) (by decide) t0.out)), (OAt.mono (hB3 ▸ okp_alloc _ : OKp B2 B3 (bp + 1) (Value.slice Xp k cp).ownBlock (Value.slice Xp k cp).ownBlock) (by decide) t1.out)⟩)
        have nw : Hid (B3.heap[B2.heap.size]? = some (smO 6 ⟨#[]⟩ (one B1.heap.size) (.slice none 0 0))) := hid t2.out.2.2
        have zB : bp + 1 ≤ B3.heap.size := blk_lt s3.out.x
        have zC : w.heap.size ≤ B3.heap.size := s3.out.b.size
        go_upto_region 18 with (at_builtin; refine wpList_append_own_at _ rfl _ _ 23 rfl (bp + 1) 45 i0 _ 6 104 Tryd.underlying23 HI.out HZ0.out hz1 hz2 rfl (by decide) _ k _ rfl s3.out.p ⟨B2.heap.size, 0, none⟩ 1 1 [.int .i64 6, .string ⟨#[]⟩, .int .i64 0, one B1.heap.size, .slice none 0 0, .slice none 0 0] rfl rfl (blk_news nw.out _ rfl) (fun u hu => by (simp only [List.mem_cons, List.not_mem_nil, or_false] at hu; rcases hu with rfl | rfl | rfl | rfl | rfl | rfl <;> rfl)) (by unfold maxLen; omega) (by omega) (by omega) ?_; intro v9 w9 hown9 hg9 _ hblk9; have r0 := blk_grown_own s3.out.p hg9 s3.out.x (by decide); have g0 : w9.cell? ⟨bp, 1, none⟩ = some (.slice Xp k cp) := (blk_cell r0 1).trans rfl; have g1 := blk_frozen r0 1; have g2 := blk_lt r0; have R3 := Lib.hid (s3.out.b.grown hg9 zC (fun q hq => by have := (s3.out.p.lt q hq).1; omega)); have R5 := Lib.hid (s3.out.n.kept hg9 (own_disj' s3.out.n s3.out.p (by decide))); have R6 := Lib.hid ((OIn.snoc s3.out.i (by rw [Nat.zero_add, HSN.out, HNM.out]; exact PT.out)).mono (okp_grown hg9 hblk9)); obtain ⟨X9, c9, rfl⟩ := own_form hown9; have R0 := Lib.hid r0; have R4 := Lib.hid hown9; clear r0 hown9 hg9 hblk9)
        obtain ⟨wD, hwD⟩ : ∃ W, w9.setCell ⟨bp, 1, none⟩ (.slice X9 (k + 1) c9) = W := ⟨_, rfl⟩
        have D0 : Hid (wD.heap[bp]? = some (pgM1 (.slice X9 (k + 1) c9))) := hid (by rw [← hwD]; exact (blk_set R0.out 1 _).trans (by simp))
        have D1 : Hid (wD.ownsRow (bp + 1) 45 6 (.slice X9 (k + 1) c9) (k + 1) _) := hid (by rw [← hwD]; exact own_set R4.out (own_ne R4.out R0.out (by decide)) _)
        have D2 := Lib.hid (OIn.mono (hwD ▸ okp_set _ (Nat.lt_succ_self bp) : OKp w9 wD (bp + 1) (Value.slice X9 (k + 1) c9).ownBlock (Value.slice X9 (k + 1) c9).ownBlock) R6.out)
        have D3 : Hid (wD.ownsRow (bp + 1) 9 1 (.slice Xw wl cw) (wantN ns).length ((wantN ns).map Value.string)) := hid (by rw [← hwD]; exact own_set R5.out (own_ne R5.out R0.out (by decide)) _)
        have D4 : Hid (Below w.heap.size w wD) := hid (by rw [← hwD]; exact R3.out.setCell hwb _)
        rw [hwD]
        clear hwD g0 g1 g2

        by_cases hin : (⟨#[118]⟩ ++ ⟨#[c]⟩) ∈ wantN ns
        · have hz : ∃ z : Nat, slotP (wantN ns) (⟨#[118]⟩ ++ ⟨#[c]⟩) = (z : Int) := by unfold slotP; rw [if_pos hin]; exact ⟨_, rfl⟩
          obtain ⟨z, hz⟩ := hz
          have q5 : decide ((z : Int) < 0) = false := by simp
          have HW' : Hid (withN (wantN ns) (⟨#[118]⟩ ++ ⟨#[c]⟩) = wantN ns) := hid (by unfold withN; rw [if_pos hin])
          have SL := Lib.hid (slot_lit Xw cw wl (wantN ns) (⟨#[118]⟩ ++ ⟨#[c]⟩) z hz wD.heap.size wD wD (Below.refl _ _) (by have := st_row D3.out WSZ.out; rw [HWN.out] at this; exact this) HWN.out)
          clear hz hin
          go_wp2_with (go_at_call 12; ((with_reducible refine SL.out.mono ?_); rintro e w10 ⟨rfl, rfl⟩))
          go_roundw
          case rel => exact ⟨k + 1, _, _, by go_num, by have := HKN.out; omega, by rw [nsO_snoc l k hkl, HNS.out]; exact ⟨D0.out, D1.out, D2.out, by rw [wantN_snoc, HNM.out, HW'.out]; exact D3.out, D4.out⟩⟩
          case measure => simp [RowKit.intOf]; omega
        · have hz : slotP (wantN ns) (⟨#[118]⟩ ++ ⟨#[c]⟩) = -1 := by unfold slotP; rw [if_neg hin]
          have HW' : Hid (withN (wantN ns) (⟨#[118]⟩ ++ ⟨#[c]⟩) = wantN ns ++ [(⟨#[118]⟩ ++ ⟨#[c]⟩)]) := hid (by unfold withN; rw [if_neg hin])
          have SL := Lib.hid (slot_lit Xw cw wl (wantN ns) (⟨#[118]⟩ ++ ⟨#[c]⟩) (-1) hz wD.heap.size wD wD (Below.refl _ _) (by have := st_row D3.out WSZ.out; rw [HWN.out] at this; exact this) HWN.out)
          clear hz hin
          obtain ⟨wE, hwE⟩ : ∃ W, wD.alloc (.cells #[.string (⟨#[118]⟩ ++ ⟨#[c]⟩)] 9) = W := ⟨_, rfl⟩
          have E0 : Hid (wE.heap[bp]? = some (pgM1 (.slice X9 (k + 1) c9))) := hid (by rw [← hwE]; exact blk_alloc D0.out _)
          have E1 := Lib.hid (hwE ▸ D1.out.alloc _ : wE.ownsRow (bp + 1) 45 6 (.slice X9 (k + 1) c9) (k + 1) (cs ++ [.int .i64 6, .string ⟨#[]⟩, .int .i64 0, one B1.heap.size, .slice none 0 0, .slice none 0 0]))
          have E2 := Lib.hid (OIn.mono (hwE ▸ okp_alloc _ : OKp wD wE (bp + 1) (Value.slice X9 (k + 1) c9).ownBlock (Value.slice X9 (k + 1) c9).ownBlock) D2.out)
          have E3 : Hid (wE.ownsRow (bp + 1) 9 1 (.slice Xw wl cw) wl ((wantN ns).map Value.string)) := hid (by have := D3.out.alloc (.cells #[.string (⟨#[118]⟩ ++ ⟨#[c]⟩)] 9); rw [hwE, HWN.out] at this; exact this)
          have E4 : Hid (Below w.heap.size w wE) := hid (by rw [← hwE]; exact D4.out.alloc D4.out.size _)
          have E5 : Hid (wE.heap[wD.heap.size]? = some (.cells #[.string (⟨#[118]⟩ ++ ⟨#[c]⟩)] 9)) := hid (by rw [← hwE]; exact heap_alloc_new _ _)
          have zE : bp + 1 ≤ wE.heap.size := blk_lt E0.out
          have zF : w.heap.size ≤ wE.heap.size := E4.out.size
          go_upto_region 6 with (first
            | (go_at_call 12; ((with_reducible refine SL.out.mono ?_); rintro e w10 ⟨rfl, rfl⟩))
            | (at_builtin; refine wpList_append_own_at _ rfl _ _ 31 rfl (bp + 1) 9 i1 _ 1 16 Tryd.underlying31 HI'.out HZ0'.out hz1' hz2' rfl (by decide) _ wl _ rfl E3.out ⟨wD.heap.size, 0, none⟩ 1 1 [.string (⟨#[118]⟩ ++ ⟨#[c]⟩)] rfl rfl (blk_news E5.out _ rfl) (fun u hu => by rw [List.mem_singleton.1 hu]; rfl) (by unfold maxLen; omega) (by omega) (by omega) ?_; intro v11 w11 hown11 hg11 _ hblk11; have F0 := Lib.hid (blk_grown_own E3.out hg11 E0.out (by decide)); have F1 := Lib.hid (E1.out.kept hg11 (own_disj' E1.out E3.out (by decide))); have F2 := Lib.hid (E2.out.mono (okp_st E3.out hg11)); have F3 := Lib.hid hown11; have F4 := Lib.hid (E4.out.grown hg11 zF (fun q hq => by have := (E3.out.lt q hq).1; omega)); clear hown11 hg11 hblk11))
          go_wp2
          go_roundw
          case rel => exact ⟨k + 1, _, _, by go_num, by have := HKN.out; omega, by rw [nsO_snoc l k hkl, HNS.out]; exact ⟨F0.out, F1.out, F2.out, by rw [wantN_snoc, HNM.out, HW'.out, List.length_append, HWN.out, List.map_append]; exact F3.out, F4.out⟩⟩
          case measure => simp [RowKit.intOf]; omega
      · have hm1 : (k : Int) % 4 = 2 := by omega
        have hm2 : (k : Int).tmod 4 = 2 := by rw [Int.tmod_eq_emod_of_nonneg (by omega)]; exact hm1
        obtain ⟨B1, hB1⟩ : ∃ W, wA.alloc (exO 3 0 ⟨#[]⟩ (.slice none 0 0)) = W := ⟨_, rfl⟩
        have s1 : Hid (OSt bp k ns (.slice Xp k cp) (.slice Xw wl cw) cs w B1) := hid (by rw [← hB1]; exact sA.out.alloc _)
        have t0 : Hid (OAt B1 (bp + 1) (Value.slice Xp k cp).ownBlock wA.heap.size (exO 3 0 ⟨#[]⟩ (.slice none 0 0))) := hid (by rw [← hB1]; exact sA.out.at_ rfl)
        obtain ⟨B2, hB2⟩ : ∃ W, B1.alloc (smO 1 (⟨#[118]⟩ ++ ⟨#[c]⟩) (one wA.heap.size) (.slice none 0 0)) = W := ⟨_, rfl⟩
        have s2 : Hid (OSt bp k ns (.slice Xp k cp) (.slice Xw wl cw) cs w B2) := hid (by rw [← hB2]; exact s1.out.alloc _)
        have t1 : Hid (OAt B2 (bp + 1) (Value.slice Xp k cp).ownBlock B1.heap.size (smO 1 (⟨#[118]⟩ ++ ⟨#[c]⟩) (one wA.heap.size) (.slice none 0 0))) := hid (by rw [← hB2]; exact s1.out.at_ rfl)
        have PT : Hid (OPart B2 (bp + 1) (Value.slice Xp k cp).ownBlock k (⟨#[118]⟩ ++ ⟨#[c]⟩) (six 1 (⟨#[118]⟩ ++ ⟨#[c]⟩) (one wA.heap.size) (.slice none 0 0))) := hid (by unfold OPart; rw [if_neg (by omega)]; rw [if_neg (by omega)]; rw [if_pos (by omega)]; exact ⟨_, rfl, (OAt.mono (hB2 ▸ okp_alloc _ : OKp B1 B2 (bp + 1) (Value.slice Xp k cp).ownBlock (Value.slice Xp k cp).ownBlock) (by decide) t0.out)⟩)
        have nw : Hid (B2.heap[B1.heap.size]? = some (smO 1 (⟨#[118]⟩ ++ ⟨#[c]⟩) (one wA.heap.size) (.slice none 0 0))) := hid t1.out.2.2
        have zB : bp + 1 ≤ B2.heap.size := blk_lt s2.out.x
        have zC : w.heap.size ≤ B2.heap.size := s2.out.b.size
        go_upto_region 18 with (at_builtin; refine wpList_append_own_at _ rfl _ _ 23 rfl (bp + 1) 45 i0 _ 6 104 Tryd.underlying23 HI.out HZ0.out hz1 hz2 rfl (by decide) _ k _ rfl s2.out.p ⟨B1.heap.size, 0, none⟩ 1 1 [.int .i64 1, .string (⟨#[118]⟩ ++ ⟨#[c]⟩), .int .i64 0, one wA.heap.size, .slice none 0 0, .slice none 0 0] rfl rfl (blk_news nw.out _ rfl) (fun u hu => by (simp only [List.mem_cons, List.not_mem_nil, or_false] at hu; rcases hu with rfl | rfl | rfl | rfl | rfl | rfl <;> rfl)) (by unfold maxLen; omega) (by omega) (by omega) ?_; intro v9 w9 hown9 hg9 _ hblk9; have r0 := blk_grown_own s2.out.p hg9 s2.out.x (by decide); have g0 : w9.cell? ⟨bp, 1, none⟩ = some (.slice Xp k cp) := (blk_cell r0 1).trans rfl; have g1 := blk_frozen r0 1; have g2 := blk_lt r0; have R3 := Lib.hid (s2.out.b.grown hg9 zC (fun q hq => by have := (s2.out.p.lt q hq).1; omega)); have R5 := Lib.hid (s2.out.n.kept hg9 (own_disj' s2.out.n s2.out.p (by decide))); have R6 := Lib.hid ((OIn.snoc s2.out.i (by rw [Nat.zero_add, HSN.out, HNM.out]; exact PT.out)).mono (okp_grown hg9 hblk9)); obtain ⟨X9, c9, rfl⟩ := own_form hown9; have R0 := Lib.hid r0; have R4 := Lib.hid hown9; clear r0 hown9 hg9 hblk9)
        obtain ⟨wD, hwD⟩ : ∃ W, w9.setCell ⟨bp, 1, none⟩ (.slice X9 (k + 1) c9) = W := ⟨_, rfl⟩
        have D0 : Hid (wD.heap[bp]? = some (pgM1 (.slice X9 (k + 1) c9))) := hid (by rw [← hwD]; exact (blk_set R0.out 1 _).trans (by simp))
        have D1 : Hid (wD.ownsRow (bp + 1) 45 6 (.slice X9 (k + 1) c9) (k + 1) _) := hid (by rw [← hwD]; exact own_set R4.out (own_ne R4.out R0.out (by decide)) _)
        have D2 := Lib.hid (OIn.mono (hwD ▸ okp_set _ (Nat.lt_succ_self bp) : OKp w9 wD (bp + 1) (Value.slice X9 (k + 1) c9).ownBlock (Value.slice X9 (k + 1) c9).ownBlock) R6.out)
        have D3 : Hid (wD.ownsRow (bp + 1) 9 1 (.slice Xw wl cw) (wantN ns).length ((wantN ns).map Value.string)) := hid (by rw [← hwD]; exact own_set R5.out (own_ne R5.out R0.out (by decide)) _)
        have D4 : Hid (Below w.heap.size w wD) := hid (by rw [← hwD]; exact R3.out.setCell hwb _)
        rw [hwD]
        clear hwD g0 g1 g2

        by_cases hin : (⟨#[118]⟩ ++ ⟨#[c]⟩) ∈ wantN ns
        · have hz : ∃ z : Nat, slotP (wantN ns) (⟨#[118]⟩ ++ ⟨#[c]⟩) = (z : Int) := by unfold slotP; rw [if_pos hin]; exact ⟨_, rfl⟩
          obtain ⟨z, hz⟩ := hz
          have q5 : decide ((z : Int) < 0) = false := by simp
          have HW' : Hid (withN (wantN ns) (⟨#[118]⟩ ++ ⟨#[c]⟩) = wantN ns) := hid (by unfold withN; rw [if_pos hin])
          have SL := Lib.hid (slot_lit Xw cw wl (wantN ns) (⟨#[118]⟩ ++ ⟨#[c]⟩) z hz wD.heap.size wD wD (Below.refl _ _) (by have := st_row D3.out WSZ.out; rw [HWN.out] at this; exact this) HWN.out)
          clear hz hin
          go_wp2_with (go_at_call 12; ((with_reducible refine SL.out.mono ?_); rintro e w10 ⟨rfl, rfl⟩))
          go_roundw
          case rel => exact ⟨k + 1, _, _, by go_num, by have := HKN.out; omega, by rw [nsO_snoc l k hkl, HNS.out]; exact ⟨D0.out, D1.out, D2.out, by rw [wantN_snoc, HNM.out, HW'.out]; exact D3.out, D4.out⟩⟩
          case measure => simp [RowKit.intOf]; omega
        · have hz : slotP (wantN ns) (⟨#[118]⟩ ++ ⟨#[c]⟩) = -1 := by unfold slotP; rw [if_neg hin]
          have HW' : Hid (withN (wantN ns) (⟨#[118]⟩ ++ ⟨#[c]⟩) = wantN ns ++ [(⟨#[118]⟩ ++ ⟨#[c]⟩)]) := hid (by unfold withN; rw [if_neg hin])
          have SL := Lib.hid (slot_lit Xw cw wl (wantN ns) (⟨#[118]⟩ ++ ⟨#[c]⟩) (-1) hz wD.heap.size wD wD (Below.refl _ _) (by have := st_row D3.out WSZ.out; rw [HWN.out] at this; exact this) HWN.out)
          clear hz hin
          obtain ⟨wE, hwE⟩ : ∃ W, wD.alloc (.cells #[.string (⟨#[118]⟩ ++ ⟨#[c]⟩)] 9) = W := ⟨_, rfl⟩
          have E0 : Hid (wE.heap[bp]? = some (pgM1 (.slice X9 (k + 1) c9))) := hid (by rw [← hwE]; exact blk_alloc D0.out _)
          have E1 := Lib.hid (hwE ▸ D1.out.alloc _ : wE.ownsRow (bp + 1) 45 6 (.slice X9 (k + 1) c9) (k + 1) (cs ++ [.int .i64 1, .string (⟨#[118]⟩ ++ ⟨#[c]⟩), .int .i64 0, one wA.heap.size, .slice none 0 0, .slice none 0 0]))
          have E2 := Lib.hid (OIn.mono (hwE ▸ okp_alloc _ : OKp wD wE (bp + 1) (Value.slice X9 (k + 1) c9).ownBlock (Value.slice X9 (k + 1) c9).ownBlock) D2.out)
          have E3 : Hid (wE.ownsRow (bp + 1) 9 1 (.slice Xw wl cw) wl ((wantN ns).map Value.string)) := hid (by have := D3.out.alloc (.cells #[.string (⟨#[118]⟩ ++ ⟨#[c]⟩)] 9); rw [hwE, HWN.out] at this; exact this)
          have E4 : Hid (Below w.heap.size w wE) := hid (by rw [← hwE]; exact D4.out.alloc D4.out.size _)
          have E5 : Hid (wE.heap[wD.heap.size]? = some (.cells #[.string (⟨#[118]⟩ ++ ⟨#[c]⟩)] 9)) := hid (by rw [← hwE]; exact heap_alloc_new _ _)
          have zE : bp + 1 ≤ wE.heap.size := blk_lt E0.out
          have zF : w.heap.size ≤ wE.heap.size := E4.out.size
          go_upto_region 6 with (first
            | (go_at_call 12; ((with_reducible refine SL.out.mono ?_); rintro e w10 ⟨rfl, rfl⟩))
            | (at_builtin; refine wpList_append_own_at _ rfl _ _ 31 rfl (bp + 1) 9 i1 _ 1 16 Tryd.underlying31 HI'.out HZ0'.out hz1' hz2' rfl (by decide) _ wl _ rfl E3.out ⟨wD.heap.size, 0, none⟩ 1 1 [.string (⟨#[118]⟩ ++ ⟨#[c]⟩)] rfl rfl (blk_news E5.out _ rfl) (fun u hu => by rw [List.mem_singleton.1 hu]; rfl) (by unfold maxLen; omega) (by omega) (by omega) ?_; intro v11 w11 hown11 hg11 _ hblk11; have F0 := Lib.hid (blk_grown_own E3.out hg11 E0.out (by decide)); have F1 := Lib.hid (E1.out.kept hg11 (own_disj' E1.out E3.out (by decide))); have F2 := Lib.hid (E2.out.mono (okp_st E3.out hg11)); have F3 := Lib.hid hown11; have F4 := Lib.hid (E4.out.grown hg11 zF (fun q hq => by have := (E3.out.lt q hq).1; omega)); clear hown11 hg11 hblk11))
          go_wp2
          go_roundw
          case rel => exact ⟨k + 1, _, _, by go_num, by have := HKN.out; omega, by rw [nsO_snoc l k hkl, HNS.out]; exact ⟨F0.out, F1.out, F2.out, by rw [wantN_snoc, HNM.out, HW'.out, List.length_append, HWN.out, List.map_append]; exact F3.out, F4.out⟩⟩
          case measure => simp [RowKit.intOf]; omega
      · have hm1 : (k : Int) % 4 = 3 := by omega
        have hm2 : (k : Int).tmod 4 = 3 := by rw [Int.tmod_eq_emod_of_nonneg (by omega)]; exact hm1
        obtain ⟨B1, hB1⟩ : ∃ W, wA.alloc (exO 3 0 ⟨#[]⟩ (.slice none 0 0)) = W := ⟨_, rfl⟩
        have s1 : Hid (OSt bp k ns (.slice Xp k cp) (.slice Xw wl cw) cs w B1) := hid (by rw [← hB1]; exact sA.out.alloc _)
        have t0 : Hid (OAt B1 (bp + 1) (Value.slice Xp k cp).ownBlock wA.heap.size (exO 3 0 ⟨#[]⟩ (.slice none 0 0))) := hid (by rw [← hB1]; exact sA.out.at_ rfl)
        have E1 : B1.heap[eb]? = some (exO 2 0 (⟨#[118]⟩ ++ ⟨#[c]⟩) (.slice none 0 0)) := by rw [← hB1]; exact blk_alloc EA.out _
        have c0 : B1.cell? ⟨eb, 0, none⟩ = some (.int .i64 2) := (blk_cell E1 0).trans rfl
        have c1 : B1.cell? ⟨eb, 1, none⟩ = some (.int .i64 0) := (blk_cell E1 1).trans rfl
        have c2 : B1.cell? ⟨eb, 2, none⟩ = some (.string (⟨#[118]⟩ ++ ⟨#[c]⟩)) := (blk_cell E1 2).trans rfl
        have c3 : B1.cell? ⟨eb, 3, none⟩ = some (.slice none 0 0) := (blk_cell E1 3).trans rfl
        have lE1 := blk_lt E1
        clear E1
        obtain ⟨B2, hB2⟩ : ∃ W, B1.alloc (exO 2 0 (⟨#[118]⟩ ++ ⟨#[c]⟩) (.slice none 0 0)) = W := ⟨_, rfl⟩
        have s2 : Hid (OSt bp k ns (.slice Xp k cp) (.slice Xw wl cw) cs w B2) := hid (by rw [← hB2]; exact s1.out.alloc _)
        have t1 : Hid (OAt B2 (bp + 1) (Value.slice Xp k cp).ownBlock B1.heap.size (exO 2 0 (⟨#[118]⟩ ++ ⟨#[c]⟩) (.slice none 0 0))) := hid (by rw [← hB2]; exact s1.out.at_ rfl)
        obtain ⟨B3, hB3⟩ : ∃ W, B2.alloc (smO 5 ⟨#[]⟩ (one B1.heap.size) (.slice none 0 0)) = W := ⟨_, rfl⟩
        have s3 : Hid (OSt bp k ns (.slice Xp k cp) (.slice Xw wl cw) cs w B3) := hid (by rw [← hB3]; exact s2.out.alloc _)
        have t2 : Hid (OAt B3 (bp + 1) (Value.slice Xp k cp).ownBlock B2.heap.size (smO 5 ⟨#[]⟩ (one B1.heap.size) (.slice none 0 0))) := hid (by rw [← hB3]; exact s2.out.at_ rfl)
        obtain ⟨B4, hB4⟩ : ∃ W, B3.alloc (smO 7 ⟨#[]⟩ (one wA.heap.size) (one B2.heap.size)) = W := ⟨_, rfl⟩
        have s4 : Hid (OSt bp k ns (.slice Xp k cp) (.slice Xw wl cw) cs w B4) := hid (by rw [← hB4]; exact s3.out.alloc _)
        have t3 : Hid (OAt B4 (bp + 1) (Value.slice Xp k cp).ownBlock B3.heap.size (smO 7 ⟨#[]⟩ (one wA.heap.size) (one B2.heap.size))) := hid (by rw [← hB4]; exact s3.out.at_ rfl)
        have PT : Hid (OPart B4 (bp + 1) (Value.slice Xp k cp).ownBlock k (⟨#[118]⟩ ++ ⟨#[c]⟩) (six 7 ⟨#[]⟩ (one wA.heap.size) (one B2.heap.size))) := hid (by unfold OPart; rw [if_neg (by omega)]; rw [if_neg (by omega)]; rw [if_neg (by omega)]; exact ⟨_, _, _, rfl, (OAt.mono (hB4 ▸ okp_alloc _ : OKp B3 B4 (bp + 1) (Value.slice Xp k cp).ownBlock (Value.slice Xp k cp).ownBlock) (by decide) (OAt.mono (hB3 ▸ okp_alloc _ : OKp B2 B3 (bp + 1) (Value.slice Xp k cp).ownBlock (Value.slice Xp k cp).ownBlock) (by decide) (OAt.mono (hB2 ▸ okp_alloc _ : OKp B1 B2 (bp + 1) (Value.slice Xp k cp).ownBlock (Value.slice Xp k cp).ownBlock) (by decide) t0.out))), (OAt.mono (hB4 ▸ okp_alloc _ : OKp B3 B4 (bp + 1) (Value.slice Xp k cp).ownBlock (Value.slice Xp k cp).ownBlock) (by decide) (OAt.mono (hB3 ▸ okp_alloc _ : OKp B2 B3 (bp + 1) (Value.slice Xp k cp).ownBlock (Value.slice Xp k cp).ownBlock) (by decide) t1.out)), (OAt.mono (hB4 ▸ okp_alloc _ : OKp B3 B4 (bp + 1) (Value.slice Xp k cp).ownBlock (Value.slice Xp k cp).ownBlock) (by decide) t2.out)⟩)
        have nw : Hid (B4.heap[B3.heap.size]? = some (smO 7 ⟨#[]⟩ (one wA.heap.size) (one B2.heap.size))) := hid t3.out.2.2
        have zB : bp + 1 ≤ B4.heap.size := blk_lt s4.out.x
        have zC : w.heap.size ≤ B4.heap.size := s4.out.b.size
        go_upto_region 18 with (at_builtin; refine wpList_append_own_at _ rfl _ _ 23 rfl (bp + 1) 45 i0 _ 6 104 Tryd.underlying23 HI.out HZ0.out hz1 hz2 rfl (by decide) _ k _ rfl s4.out.p ⟨B3.heap.size, 0, none⟩ 1 1 [.int .i64 7, .string ⟨#[]⟩, .int .i64 0, one wA.heap.size, .slice none 0 0, one B2.heap.size] rfl rfl (blk_news nw.out _ rfl) (fun u hu => by (simp only [List.mem_cons, List.not_mem_nil, or_false] at hu; rcases hu with rfl | rfl | rfl | rfl | rfl | rfl <;> rfl)) (by unfold maxLen; omega) (by omega) (by omega) ?_; intro v9 w9 hown9 hg9 _ hblk9; have r0 := blk_grown_own s4.out.p hg9 s4.out.x (by decide); have g0 : w9.cell? ⟨bp, 1, none⟩ = some (.slice Xp k cp) := (blk_cell r0 1).trans rfl; have g1 := blk_frozen r0 1; have g2 := blk_lt r0; have R3 := Lib.hid (s4.out.b.grown hg9 zC (fun q hq => by have := (s4.out.p.lt q hq).1; omega)); have R5 := Lib.hid (s4.out.n.kept hg9 (own_disj' s4.out.n s4.out.p (by decide))); have R6 := Lib.hid ((OIn.snoc s4.out.i (by rw [Nat.zero_add, HSN.out, HNM.out]; exact PT.out)).mono (okp_grown hg9 hblk9)); obtain ⟨X9, c9, rfl⟩ := own_form hown9; have R0 := Lib.hid r0; have R4 := Lib.hid hown9; clear r0 hown9 hg9 hblk9)
        obtain ⟨wD, hwD⟩ : ∃ W, w9.setCell ⟨bp, 1, none⟩ (.slice X9 (k + 1) c9) = W := ⟨_, rfl⟩
        have D0 : Hid (wD.heap[bp]? = some (pgM1 (.slice X9 (k + 1) c9))) := hid (by rw [← hwD]; exact (blk_set R0.out 1 _).trans (by simp))
        have D1 : Hid (wD.ownsRow (bp + 1) 45 6 (.slice X9 (k + 1) c9) (k + 1) _) := hid (by rw [← hwD]; exact own_set R4.out (own_ne R4.out R0.out (by decide)) _)
        have D2 := Lib.hid (OIn.mono (hwD ▸ okp_set _ (Nat.lt_succ_self bp) : OKp w9 wD (bp + 1) (Value.slice X9 (k + 1) c9).ownBlock (Value.slice X9 (k + 1) c9).ownBlock) R6.out)
        have D3 : Hid (wD.ownsRow (bp + 1) 9 1 (.slice Xw wl cw) (wantN ns).length ((wantN ns).map Value.string)) := hid (by rw [← hwD]; exact own_set R5.out (own_ne R5.out R0.out (by decide)) _)
        have D4 : Hid (Below w.heap.size w wD) := hid (by rw [← hwD]; exact R3.out.setCell hwb _)
        rw [hwD]
        clear hwD g0 g1 g2

        by_cases hin : (⟨#[118]⟩ ++ ⟨#[c]⟩) ∈ wantN ns
        · have hz : ∃ z : Nat, slotP (wantN ns) (⟨#[118]⟩ ++ ⟨#[c]⟩) = (z : Int) := by unfold slotP; rw [if_pos hin]; exact ⟨_, rfl⟩
          obtain ⟨z, hz⟩ := hz
          have q5 : decide ((z : Int) < 0) = false := by simp
          have HW' : Hid (withN (wantN ns) (⟨#[118]⟩ ++ ⟨#[c]⟩) = wantN ns) := hid (by unfold withN; rw [if_pos hin])
          have SL := Lib.hid (slot_lit Xw cw wl (wantN ns) (⟨#[118]⟩ ++ ⟨#[c]⟩) z hz wD.heap.size wD wD (Below.refl _ _) (by have := st_row D3.out WSZ.out; rw [HWN.out] at this; exact this) HWN.out)
          clear hz hin
          go_wp2_with (go_at_call 12; ((with_reducible refine SL.out.mono ?_); rintro e w10 ⟨rfl, rfl⟩))
          go_roundw
          case rel => exact ⟨k + 1, _, _, by go_num, by have := HKN.out; omega, by rw [nsO_snoc l k hkl, HNS.out]; exact ⟨D0.out, D1.out, D2.out, by rw [wantN_snoc, HNM.out, HW'.out]; exact D3.out, D4.out⟩⟩
          case measure => simp [RowKit.intOf]; omega
        · have hz : slotP (wantN ns) (⟨#[118]⟩ ++ ⟨#[c]⟩) = -1 := by unfold slotP; rw [if_neg hin]
          have HW' : Hid (withN (wantN ns) (⟨#[118]⟩ ++ ⟨#[c]⟩) = wantN ns ++ [(⟨#[118]⟩ ++ ⟨#[c]⟩)]) := hid (by unfold withN; rw [if_neg hin])
          have SL := Lib.hid (slot_lit Xw cw wl (wantN ns) (⟨#[118]⟩ ++ ⟨#[c]⟩) (-1) hz wD.heap.size wD wD (Below.refl _ _) (by have := st_row D3.out WSZ.out; rw [HWN.out] at this; exact this) HWN.out)
          clear hz hin
          obtain ⟨wE, hwE⟩ : ∃ W, wD.alloc (.cells #[.string (⟨#[118]⟩ ++ ⟨#[c]⟩)] 9) = W := ⟨_, rfl⟩
          have E0 : Hid (wE.heap[bp]? = some (pgM1 (.slice X9 (k + 1) c9))) := hid (by rw [← hwE]; exact blk_alloc D0.out _)
          have E1 := Lib.hid (hwE ▸ D1.out.alloc _ : wE.ownsRow (bp + 1) 45 6 (.slice X9 (k + 1) c9) (k + 1) (cs ++ [.int .i64 7, .string ⟨#[]⟩, .int .i64 0, one wA.heap.size, .slice none 0 0, one B2.heap.size]))
          have E2 := Lib.hid (OIn.mono (hwE ▸ okp_alloc _ : OKp wD wE (bp + 1) (Value.slice X9 (k + 1) c9).ownBlock (Value.slice X9 (k + 1) c9).ownBlock) D2.out)
          have E3 : Hid (wE.ownsRow (bp + 1) 9 1 (.slice Xw wl cw) wl ((wantN ns).map Value.string)) := hid (by have := D3.out.alloc (.cells #[.string (⟨#[118]⟩ ++ ⟨#[c]⟩)] 9); rw [hwE, HWN.out] at this; exact this)
          have E4 : Hid (Below w.heap.size w wE) := hid (by rw [← hwE]; exact D4.out.alloc D4.out.size _)
          have E5 : Hid (wE.heap[wD.heap.size]? = some (.cells #[.string (⟨#[118]⟩ ++ ⟨#[c]⟩)] 9)) := hid (by rw [← hwE]; exact heap_alloc_new _ _)
          have zE : bp + 1 ≤ wE.heap.size := blk_lt E0.out
          have zF : w.heap.size ≤ wE.heap.size := E4.out.size
          go_upto_region 6 with (first
            | (go_at_call 12; ((with_reducible refine SL.out.mono ?_); rintro e w10 ⟨rfl, rfl⟩))
            | (at_builtin; refine wpList_append_own_at _ rfl _ _ 31 rfl (bp + 1) 9 i1 _ 1 16 Tryd.underlying31 HI'.out HZ0'.out hz1' hz2' rfl (by decide) _ wl _ rfl E3.out ⟨wD.heap.size, 0, none⟩ 1 1 [.string (⟨#[118]⟩ ++ ⟨#[c]⟩)] rfl rfl (blk_news E5.out _ rfl) (fun u hu => by rw [List.mem_singleton.1 hu]; rfl) (by unfold maxLen; omega) (by omega) (by omega) ?_; intro v11 w11 hown11 hg11 _ hblk11; have F0 := Lib.hid (blk_grown_own E3.out hg11 E0.out (by decide)); have F1 := Lib.hid (E1.out.kept hg11 (own_disj' E1.out E3.out (by decide))); have F2 := Lib.hid (E2.out.mono (okp_st E3.out hg11)); have F3 := Lib.hid hown11; have F4 := Lib.hid (E4.out.grown hg11 zF (fun q hq => by have := (E3.out.lt q hq).1; omega)); clear hown11 hg11 hblk11))
          go_wp2
          go_roundw
          case rel => exact ⟨k + 1, _, _, by go_num, by have := HKN.out; omega, by rw [nsO_snoc l k hkl, HNS.out]; exact ⟨F0.out, F1.out, F2.out, by rw [wantN_snoc, HNM.out, HW'.out, List.length_append, HWN.out, List.map_append]; exact F3.out, F4.out⟩⟩
          case measure => simp [RowKit.intOf]; omega
    · have hkN' : k = N := by omega
      clear hkN
      subst hkN'
      obtain ⟨ns, hns⟩ : ∃ x, nsO (l.take k) = x := ⟨_, rfl⟩
      have hlen : ns.length = k := by rw [← hns]; unfold nsO; rw [List.length_map, List.length_take]; have := HL.out; omega
      have h20 : ∀ i, i ∈ ns → i < 20 := by rw [← hns]; exact nsO_lt _
      rw [hns] at hst
      obtain ⟨wl, hwl⟩ : ∃ x, (wantN ns).length = x := ⟨_, rfl⟩
      rw [hns, hwl]
      have hrow : RowV (PsIn wr (wantN ns)) wr.heap.size wl (.slice Xw wl cw) := by
        have h := hst.n
        rw [hwl] at h
        have := st_row (by unfold StO; rw [hwl]; exact h) (want_sz ns h20)
        rw [hwl] at this; exact this
      have hsv : SV wr.heap.size wr (.slice Xp k cp) (oL 0 ns) := own_sv hst.p (OIn.cells hst.i) (by rw [oL_len, hlen])
      have hR := resolve_p _ (pgW ns) wr (pg_main hsv) (HT.out.below hst.b HT.out.1) (by have := oL_cnt ns 0; rw [hlen] at this; simp [Pg.pts, pgW, fsPts, SS.cntL]; omega)
      rw [(or_err ns h20).1, (or_err ns h20).2] at hR
      have HR := Lib.hid hR
      have HROW := Lib.hid hrow
      have HWN := Lib.hid hwl
      have HBW := Lib.hid hst.b
      have c0 : wr.cell? ⟨bp, 0, none⟩ = some (.slice none 0 0) := (blk_cell hst.x 0).trans rfl
      have c1 : wr.cell? ⟨bp, 1, none⟩ = some (.slice Xp k cp) := (blk_cell hst.x 1).trans rfl
      have hq : (decide ((k : Int) < (n : Int)) = false ∧ decide (k < n) = false) ∨ (decide ((k : Int) < (n : Int)) = true ∧ decide (k < n) = true ∧ decide ((k : Int) < 100) = false ∧ decide (k < 100) = false) := by
        have := HN.out
        simp only [decide_eq_true_eq, decide_eq_false_iff_not]
        omega
      clear hR hrow hsv hst hns hlen h20 hwl hB hk
      rcases hq with ⟨q1, q2⟩ | ⟨q1, q2, q3, q4⟩
      all_goals
        go_wp2_with (first
          | (go_at_call 11; ((with_reducible refine HR.out.mono ?_); rintro e w7 ⟨v7, rfl, h7, hb7⟩; obtain ⟨b7, o7, k7, rfl, hl7, _, _, ⟨va, p2, hva⟩, ⟨vb, p3, hvb⟩, _⟩ := RowV.get (n := 0) h7; obtain ⟨Aa, ca, rfl, -⟩ := id hva; obtain ⟨Ab, cb, rfl, -⟩ := hvb; rw [HWN.out] at p2; simp only [List.length_nil] at p3; have SM := Lib.hid (same_eq (w7 := w7) (wantN ns) wl Aa Xw ca cw HWN.out hva (HROW.out.ps hb7 hb7.size)); have HB7 := Lib.hid hb7; clear h7 hva hb7))
          | (go_at_call 14; ((with_reducible refine SM.out.mono ?_); rintro e w8 ⟨rfl, hb8⟩; have x3 := (hb8.cell (p := ⟨b7, o7 + 3, none⟩) hl7).trans p3; have l8 := Nat.lt_of_lt_of_le hl7 hb8.size)))
        go_ret
        exact ⟨rfl, HBW.out.trans ((HB7.out.mono HBW.out.size).trans (hb8.mono (Nat.le_trans HBW.out.size HB7.out.size)))⟩
end Go.Proofs.YtmhngbfpldiinaaDoor
