/-
  One frame's own walk: as the kit's, of one frame that is an ordinary call; so a send with room, and a select with a default, can be walked.
-/
import Derived.Test.YtbgjlmcagdgpkaaDoorCoE
import Derived.Conc.LoneSelect
namespace Go.Proofs.YtbgjlmcagdgpkaaDoor
open Go Go.RowKit Go.Conc

section
variable {P : Program} {b : Frame} {Q : Exit → Act → World → Prop} {a : Act} {w : World}
/-- From here the frame comes to an end of which Q holds. -/
def At (P : Program) (b : Frame) (c : Code) (Q : Exit → Act → World → Prop) (a : Act) (w : World) : Prop :=
  ∀ (k : List Item) (cs : List Frame), ∃ e a' w', Q e a' w' ∧ Arrives P (lone (b.at a (.code c :: k)) cs w) b k cs e a' w'
theorem at_wp {c : Code} (h : c.wp P Q a w) : At P b c Q a w := h b
theorem at_seq {x y : Code} (h : At P b x (Exit.then (At P b y Q) Q) a w) : At P b (.seq x y) Q a w := by
  intro k cs
  obtain ⟨e, a₁, w₁, hq, harr⟩ := h (.code y :: k) cs
  cases e with
  | normal =>
    obtain ⟨e₂, a₂, w₂, hq₂, harr₂⟩ := hq k cs
    exact ⟨e₂, a₂, w₂, hq₂, .of_steps (.head step_seq harr) harr₂⟩
  | _ => exact ⟨_, a₁, w₁, hq, .of_steps (.one step_seq) (.pass (x := .code y) rfl (fun _ _ => .inl (by simp)) harr)⟩
theorem at_cond {c : Operand} {x y : Code} {t : Bool} (hc : a.eval c = .bool t) (h : At P b (if t then x else y) Q a w) : At P b (.cond c x y) Q a w :=
  fun k cs => let ⟨e, a', w', q, r⟩ := h k cs; ⟨e, a', w', q, .of_steps (.one (step_cond hc)) r⟩
theorem at_block {id : Nat} {c : Code} (h : At P b c (Exit.inBlock id Q) a w) : At P b (.block id c) Q a w := by
  intro k cs
  obtain ⟨e, a₁, w₁, hq, harr⟩ := h (.inBlock id :: k) cs
  cases e with
  | normal => exact ⟨.normal, a₁, w₁, hq, .head step_block (Steps.trans harr (.one step_inBlock))⟩
  | exit id' =>
    by_cases hid : id' = id
    · simp only [Exit.inBlock, hid, if_true] at hq
      exact ⟨.normal, a₁, w₁, hq, .head step_block (harr k (by simp [exitTo, hid]))⟩
    · simp only [Exit.inBlock, hid, if_false] at hq
      refine ⟨.exit id', a₁, w₁, hq, fun k' hk => .head step_block (harr k' ?_)⟩
      have : (id == id') = false := by simp; exact fun h => hid h.symm
      simp [exitTo, this, hk]
  | goto l => exact ⟨_, a₁, w₁, hq, fun k' hk => .head step_block (harr k' (by simp [gotoIn, hk]))⟩
  | ret => exact ⟨_, a₁, w₁, hq, .of_steps (.one step_block) harr⟩
  | panic ch => exact ⟨_, a₁, w₁, hq, .of_steps (.one step_block) harr⟩
  | outgrown => exact ⟨_, a₁, w₁, hq, .of_steps (b := b) (k := k) (cs := cs) (e := .outgrown) (.one step_block) harr⟩
theorem at_loop {c : Code} (I : Act → World → Prop) (μ : Act → World → Nat) (h₀ : I a w)
    (round : ∀ a w, I a w → At P b c (Exit.then (fun a' w' => I a' w' ∧ μ a' w' < μ a w) Q) a w) : At P b (.loop c) Q a w := by
  intro k cs
  have key : ∀ n a w, μ a w = n → I a w → ∃ e a' w', Q e a' w' ∧ Arrives P (lone (b.at a (.code c :: .inLoop c :: k)) cs w) b k cs e a' w' := by
    intro n
    induction n using Nat.strongRecOn with
    | _ n ih =>
      intro a w hn hI
      obtain ⟨e, a₁, w₁, hq, harr⟩ := round a w hI (.inLoop c :: k) cs
      cases e with
      | normal =>
        obtain ⟨hI₁, hlt⟩ := hq
        obtain ⟨e₂, a₂, w₂, hq₂, harr₂⟩ := ih (μ a₁ w₁) (hn ▸ hlt) a₁ w₁ rfl hI₁
        exact ⟨e₂, a₂, w₂, hq₂, .of_steps (Steps.trans harr (.one step_inLoop)) harr₂⟩
      | _ => exact ⟨_, a₁, w₁, hq, .pass (x := .inLoop c) rfl (fun _ _ => .inl (by simp)) harr⟩
  obtain ⟨e, a', w', hq, harr⟩ := key _ a w rfl h₀
  exact ⟨e, a', w', hq, .of_steps (.one step_loop) harr⟩

/-- The same within a region. -/
def Ops (P : Program) (b : Frame) (ops : Array Oper) (Q : Exit → Act → World → Prop) (l : List Nat) (a : Act) (w : World) : Prop :=
  ∀ (k : List Item) (cs : List Frame), ∃ e a' w', Q e a' w' ∧ Arrives P (lone (b.at a (.inRegion ops l :: k)) cs w) b k cs e a' w'
theorem at_region {id : Nat} {ops : Array Oper} (h : Ops P b ops Q (List.range ops.size) a w) : At P b (.region id ops false) Q a w :=
  fun k cs => let ⟨e, a', w', q, r⟩ := h k cs; ⟨e, a', w', q, .of_steps (.one step_region) r⟩
theorem ops_wp {ops : Array Oper} {l : List Nat} (h : wpOps P ops Q l a w) : Ops P b ops Q l a w := fun k cs => wp_ops l a w h b k cs
theorem ops_nil {ops : Array Oper} (h : Q .normal a w) : Ops P b ops Q [] a w := fun _ _ => ⟨.normal, a, w, h, .one step_region_end⟩
section
variable {ops : Array Oper} {i : Nat} {rest : List Nat} {o : Oper} {v z : Value} {w' : World} {c cap s r : Nat} {buf : Array Value} {tm closed : Bool}
theorem fin_at (ho : ops[i]? = some o) (k : List Item) (v : Value) : (b.at a (.inRegion ops (i :: rest) :: k)).finish v = b.at (a.put o.dst v) (.inRegion ops rest :: k) := by
  rw [Frame.finish_at, ho]; rfl
theorem ops_val (ho : ops[i]? = some o) (hw : Region.wanted o (yielded ops a.tmps) = true) (hr : (execOp a.eval o).run P w = .ok (.value v) w') (h : Ops P b ops Q rest (a.put o.dst v) w') : Ops P b ops Q (i :: rest) a w := by
  intro k cs
  obtain ⟨e, a', w'', hq, harr⟩ := h k cs
  refine ⟨e, a', w'', hq, .of_steps (.one (step_lone_go ?_)) harr⟩
  rw [stepG_op ho hw, ← fin_at ho]; simp [stepG.apply, hr]
theorem ops_send (hb : b.kind ≠ .early) (ho : ops[i]? = some o) (hw : Region.wanted o (yielded ops a.tmps) = true) (hr : (execOp a.eval o).run P w = .ok (.comm #[scase c v z] true .send) w')
    (hc : w'.heap[c]? = some (.chan cap buf false s r tm)) (hroom : buf.size < cap) (h : Ops P b ops Q rest (a.put o.dst undef) (w'.setChan c cap (buf.push v) false (s + 1) r tm)) : Ops P b ops Q (i :: rest) a w := by
  intro k cs
  obtain ⟨e, a', w'', hq, harr⟩ := h k cs
  refine ⟨e, a', w'', hq, .of_steps (.one ?_) harr⟩
  rw [← fin_at ho, lone_eq_solo, lone_eq_solo]
  exact step_lone_send_room (stepG_comm ho hw hb hr) hc hroom
theorem ops_sel_none (hb : b.kind ≠ .early) (ho : ops[i]? = some o) (hw : Region.wanted o (yielded ops a.tmps) = true) (hr : (execOp a.eval o).run P w = .ok (.comm #[rcase c z] false .select) w')
    (hc : w'.heap[c]? = some (.chan cap #[] false s r tm)) (h : Ops P b ops Q rest (a.put o.dst (.tuple #[goInt (-1), .bool false, z])) w') : Ops P b ops Q (i :: rest) a w := by
  intro k cs
  obtain ⟨e, a', w'', hq, harr⟩ := h k cs
  refine ⟨e, a', w'', hq, .of_steps (.one ?_) harr⟩
  rw [← fin_at ho, lone_eq_solo, lone_eq_solo]
  exact step_lone_select_default (stepG_comm ho hw hb hr) hc
theorem ops_sel_some (hb : b.kind ≠ .early) (ho : ops[i]? = some o) (hw : Region.wanted o (yielded ops a.tmps) = true) (hr : (execOp a.eval o).run P w = .ok (.comm #[rcase c z] false .select) w')
    (hc : w'.heap[c]? = some (.chan cap buf closed s r tm)) (hsome : 0 < buf.size) (h : Ops P b ops Q rest (a.put o.dst (.tuple #[goInt 0, .bool true, buf.getD 0 undef])) (w'.setChan c cap (buf.extract 1 buf.size) closed s (r + 1) tm)) : Ops P b ops Q (i :: rest) a w := by
  intro k cs
  obtain ⟨e, a', w'', hq, harr⟩ := h k cs
  refine ⟨e, a', w'', hq, .of_steps (.one ?_) harr⟩
  rw [← fin_at ho, lone_eq_solo, lone_eq_solo]
  exact step_lone_select_recv_buf (stepG_comm ho hw hb hr) hc hsome
end
end

/-- The frame of an ordinary call. -/
def callB (f : FuncId) : Frame := { (default : Frame) with fn := f, kind := .normal }
theorem callB_kind (f : FuncId) : (callB f).kind ≠ .early := by simp [callB]
theorem calls_of_at {P : Program} {f : FuncId} {fn : Func} {c : Code} {args : Array Value} {w : World} {R : Ending → World → Prop}
    (hf : P.funcs[f]? = some fn) (hb : fn.body = some c)
    (h : At P (callB f) c (bodyPost P fn R) { tmps := args ++ Array.replicate (fn.ntmps - args.size) undef, defers := [] } w) : Calls P f args w R := by
  intro cs
  have henter : Frame.enter P f args .normal = (callB f).at { tmps := args ++ Array.replicate (fn.ntmps - args.size) undef, defers := [] } [.code c] := by
    simp [Frame.enter, Frame.at, hf, hb, callB]
  obtain ⟨e, a', w', hq, harr⟩ := h [] cs
  rw [← henter] at harr
  cases e with
  | normal =>
    obtain ⟨hd, v, hr, hR⟩ := hq
    exact ⟨.returned v, w', _, hR, Steps.trans harr (.one step_end), rfl, rfl, hd, rfl, fn, hf, hr⟩
  | ret =>
    obtain ⟨hd, v, hr, hR⟩ := hq
    obtain ⟨todo, hs⟩ := harr
    exact ⟨.returned v, w', _, hR, hs, rfl, rfl, hd, rfl, fn, hf, hr⟩
  | panic chain =>
    obtain ⟨hd, hR⟩ := hq
    obtain ⟨todo, hs⟩ := harr
    exact ⟨.panicked chain, w', _, hR, hs, rfl, rfl, hd, fn, hf⟩
  | exit id => exact hq.elim
  | goto l => exact hq.elim
  | outgrown => exact ⟨.outgrown, w', callB f, hq, harr.resolve_left (callB_kind f), rfl, trivial⟩
end Go.Proofs.YtbgjlmcagdgpkaaDoor
