/-
  The statements' own 'shown' of layer 7.
-/
import Derived.Test.YtacleafbjbhcgaaLbT
import Derived.Test.YtacleafbjbhcgaaLbF
import Derived.Test.YtacleafbjbhcgaaReg
namespace Go.Proofs.Ytacleafbjbhcgaa
open Go Go.RowKit Go.Lib

abbrev fO (p b : Nat) : Obj := .cells #[.string nf, .slice (some ⟨p, 0, none⟩) 2 2, .slice (some ⟨b, 0, none⟩) 1 1] 31
abbrev psO : Obj := .cells #[.string nA, .string nB] 9
abbrev twoO (s : ByteArray) : Obj := .cells #[.int .i64 2, .int .i64 0, .string s, .slice none 0 0, .int .i64 2, .int .i64 0, .string nY, .slice none 0 0] 37
abbrev callO (c : Nat) : Obj := .cells #[.int .i64 5, .int .i64 0, .string nf, .slice (some ⟨c, 0, none⟩) 2 2] 37
theorem sh_made {w w1 w2 w3 : World} (hb1 : Below (w.alloc psO).heap.size (w.alloc psO) w1) (hb2 : Below (((w1.alloc (nameO nA)).alloc (stmtO 9 no w1.heap.size)).alloc (fO w.heap.size (w1.heap.size + 1))).heap.size (((w1.alloc (nameO nA)).alloc (stmtO 9 no w1.heap.size)).alloc (fO w.heap.size (w1.heap.size + 1))) w2) (hb3 : Below w2.heap.size w2 w3) :
    Sh w ((w3.alloc (twoO nX)).alloc (callO w3.heap.size)) w.heap.size w1.heap.size (w1.heap.size + 1) (w1.heap.size + 1 + 1) w3.heap.size (w3.heap.size + 1) nX nA := by
  have s1 : w.heap.size < w1.heap.size := by have := hb1.size; simp at this; omega
  have s2 := hb2.size
  have s3 := hb3.size
  simp only [World.size_alloc] at s2
  have up : ∀ k o, (((w1.alloc (nameO nA)).alloc (stmtO 9 no w1.heap.size)).alloc (fO w.heap.size (w1.heap.size + 1))).heap[k]? = some o → ((w3.alloc (twoO nX)).alloc (callO w3.heap.size)).heap[k]? = some o := fun k o h => by
    have h2 := (hb2.block k (lt_heap h)).trans h
    have h3 := (hb3.block k (lt_heap h2)).trans h2
    exact old_at (old_at h3)
  have n1 := heap_alloc_new w1 (nameO nA)
  have n2 := heap_alloc_new (w1.alloc (nameO nA)) (stmtO 9 no w1.heap.size)
  have n3 := heap_alloc_new ((w1.alloc (nameO nA)).alloc (stmtO 9 no w1.heap.size)) (fO w.heap.size (w1.heap.size + 1))
  have n4 := heap_alloc_new w3 (twoO nX)
  have n5 := heap_alloc_new (w3.alloc (twoO nX)) (callO w3.heap.size)
  simp only [World.size_alloc] at n2 n3 n5
  have h0 := heap_alloc_new w psO
  have f0 : Fr w w1 := (Fr.alloc (Fr.refl w) psO).step hb1
  refine ⟨((((((f0.alloc _).alloc _).alloc _).step hb2).step hb3).alloc _).alloc _, up _ _ (old_at (old_at (old_at ((hb1.block _ (lt_heap h0)).trans h0)))), up _ _ (old_at (old_at n1)), up _ _ (old_at n2), up _ _ n3, old_at n4, n5, by omega, by omega⟩

section
variable {w0 W W' : World} {p e b bf c bc d : Nat} {s : ByteArray}
/-- The Check of f's call, however the two lists were laid. -/
theorem call_1 (h : Sh w0 W p e b bf c bc s nA) (hb : Below (W.alloc (fO p b)).heap.size (W.alloc (fO p b)) W') (hh : W'.heap[d]? = some (callO c)) (n : Int) (hn : errOf (pgC s).tells = n) (hs : s.size ≤ 100) :
    Calls Try.prog 7 #[.agg #[.slice (some ⟨W.heap.size, 0, none⟩) 1 1, .slice (some ⟨W'.heap.size, 0, none⟩) 1 1]] (W'.alloc (stmtO 1 nx d)) fun e' w' => e' = .returned (.int .i64 n) ∧ Sh w0 w' p e b bf c bc s nA := by
  have h1 := ((h.alloc (fO p b)).step hb).alloc (stmtO 1 nx d)
  have g := heap_alloc_new W (fO p b)
  exact (h1.chkC (old_at ((hb.block _ (lt_heap g)).trans g)) (heap_alloc_new W' _) (old_at hh) n hn hs).mono fun e' w' hw => ⟨hw.1, h1.step hw.2⟩
theorem call_2 (h : Sh w0 W' p e b bf c bc s nA) (hh : W'.heap[d]? = some (callO c)) (n : Int) (hn : errOf (pgC s).tells = n) (hs : s.size ≤ 100) :
    Calls Try.prog 7 #[.agg #[.slice (some ⟨W'.heap.size + 1, 0, none⟩) 1 1, .slice (some ⟨W'.heap.size, 0, none⟩) 1 1]] ((W'.alloc (stmtO 1 nx d)).alloc (fO p b)) fun e' w' => e' = .returned (.int .i64 n) ∧ Sh w0 w' p e b bf c bc s nA := by
  have h1 := (h.alloc (stmtO 1 nx d)).alloc (fO p b)
  have g := heap_alloc_new (W'.alloc (stmtO 1 nx d)) (fO p b)
  rw [World.size_alloc] at g
  exact (h1.chkC g (old_at (heap_alloc_new W' _)) (old_at (old_at hh)) n hn hs).mono fun e' w' hw => ⟨hw.1, h1.step hw.2⟩
theorem call_3 (h : Sh w0 W' p e b bf c bc s nA) (hh : W'.heap[d]? = some (callO c)) (n : Int) (hn : errOf (pgC s).tells = n) (hs : s.size ≤ 100) :
    Calls Try.prog 7 #[.agg #[.slice (some ⟨W'.heap.size, 0, none⟩) 1 1, .slice (some ⟨W'.heap.size + 1, 0, none⟩) 1 1]] ((W'.alloc (fO p b)).alloc (stmtO 1 nx d)) fun e' w' => e' = .returned (.int .i64 n) ∧ Sh w0 w' p e b bf c bc s nA := by
  have h1 := (h.alloc (fO p b)).alloc (stmtO 1 nx d)
  have g := heap_alloc_new (W'.alloc (fO p b)) (stmtO 1 nx d)
  rw [World.size_alloc] at g
  exact (h1.chkC (old_at (heap_alloc_new W' _)) g (old_at (old_at hh)) n hn hs).mono fun e' w' hw => ⟨hw.1, h1.step hw.2⟩
end

theorem heap_ne {W : World} {j k : Nat} {o o' : Obj} (h : W.heap[j]? = some o) (h' : W.heap[k]? = some o') (hne : o ≠ o') : j ≠ k := by
  rintro rfl
  rw [h] at h'
  exact hne (Option.some.inj h')
theorem set_at {W : World} {j k i : Nat} {o : Obj} {v : Value} (h : W.heap[j]? = some o) (hne : j ≠ k) : (W.setCell ⟨k, i, none⟩ v).heap[j]? = some o := (Below.heap_setCell W ⟨k, i, none⟩ v j hne).trans h
/-- The call has other parts. -/
theorem Sh.call {w0 W : World} {p e b bf c bc : Nat} {s s' : ByteArray} (h : Sh w0 W p e b bf c bc s s') (s1 : ByteArray) : Sh w0 ((W.setCell ⟨bc, 3, none⟩ (.slice (some ⟨W.heap.size, 0, none⟩) 2 2)).alloc (twoO s1)) p e b bf W.heap.size bc s1 s' := by
  have n := heap_alloc_new (W.setCell ⟨bc, 3, none⟩ (.slice (some ⟨W.heap.size, 0, none⟩) 2 2)) (twoO s1)
  rw [show (W.setCell ⟨bc, 3, none⟩ (.slice (some ⟨W.heap.size, 0, none⟩) 2 2)).heap.size = W.heap.size by simp] at n
  exact ⟨Fr.alloc (Below.setCell h.fr h.lc _) _, old_at (set_at h.hp (heap_ne h.hp h.hbc (by simp))), old_at (set_at h.he (heap_ne h.he h.hbc (by simp))), old_at (set_at h.hb (heap_ne h.hb h.hbc (by simp))), old_at (set_at h.hf (heap_ne h.hf h.hbc (by simp))), n, old_at ((heap_set h.hbc 3 _).trans rfl), h.lf, h.lc⟩
/-- f has another body. -/
theorem Sh.body {w0 W : World} {p e b bf c bc : Nat} {s s' : ByteArray} (h : Sh w0 W p e b bf c bc s s') (s1 : ByteArray) : Sh w0 (((W.setCell ⟨bf, 2, none⟩ (.slice (some ⟨W.heap.size + 1, 0, none⟩) 1 1)).alloc (nameO s1)).alloc (stmtO 9 no W.heap.size)) p W.heap.size (W.heap.size + 1) bf c bc s s1 := by
  have z : (W.setCell ⟨bf, 2, none⟩ (.slice (some ⟨W.heap.size + 1, 0, none⟩) 1 1)).heap.size = W.heap.size := by simp
  have n := heap_alloc_new (W.setCell ⟨bf, 2, none⟩ (.slice (some ⟨W.heap.size + 1, 0, none⟩) 1 1)) (nameO s1)
  have n2 := heap_alloc_new ((W.setCell ⟨bf, 2, none⟩ (.slice (some ⟨W.heap.size + 1, 0, none⟩) 1 1)).alloc (nameO s1)) (stmtO 9 no W.heap.size)
  rw [z] at n
  rw [World.size_alloc, z] at n2
  exact ⟨Fr.alloc (Fr.alloc (Below.setCell h.fr h.lf _) _) _, old_at (old_at (set_at h.hp (heap_ne h.hp h.hf (by simp)))), old_at n, n2, old_at (old_at ((heap_set h.hf 2 _).trans rfl)), old_at (old_at (set_at h.hc (heap_ne h.hc h.hf (by simp)))), old_at (old_at (set_at h.hbc (heap_ne h.hbc h.hf (by simp)))), h.lf, h.lc⟩
theorem of_var (s : ByteArray) (r : Bool) (h : greatB s = r) (hs : s.size ≤ 9223372036854775807) (W : World) : Calls Try.prog 10 #[nameV s] W fun e w' => e = .returned (.bool r) ∧ Below W.heap.size W w' := by
  have := of_any 2 0 s (.slice none 0 0) .nil W.heap.size W (ev_nil _ _) (Nat.le_refl _) hs
  rwa [show secB 2 s ES.nil.sec = greatB s by simp [secB, ES.sec, ES.secs], h] at this
theorem chkE' {w0 W : World} {p e b bf c bc : Nat} {s : ByteArray} (h : Sh w0 W p e b bf c bc s nB) : Calls Try.prog 7 #[.agg #[.slice (some ⟨W.heap.size, 0, none⟩) 1 1, .slice none 0 0]] (W.alloc (fO p b)) fun e' w' => e' = .returned (.int .i64 5) ∧ Sh w0 w' p e b bf c bc s nB :=
  ((h.alloc _).chkE (heap_alloc_new W (fO p b))).mono fun _e' _w' hw => ⟨hw.1, (h.alloc _).step hw.2⟩

set_option maxRecDepth 100000 in
set_option maxHeartbeats 4000000 in
theorem shown_fr (w : World) : Calls Try.prog 4 #[] w fun e w' => e = .returned (.bool true) ∧ Fr w w' := by
  have hmx : Try.prog.follows .mixedOrders = true := by kernel_rfl
  go_enter Try.func4, Try.ntmps4
  go_upto_region 2 with (go_at_call 8; ((with_reducible refine (name_any _ _).mono ?_); rintro e w1 ⟨rfl, hb1⟩; have hl1 : w.heap.size < w1.heap.size := (by have := hb1.size; simp at this; omega)))
  go_upto_region 3 with (first
    | (go_at_call 8; ((with_reducible refine (name_any nX _).mono ?_); rintro e w2 ⟨rfl, hb2⟩))
    | (go_at_call 8; ((with_reducible refine (name_any nY _).mono ?_); rintro e w3 ⟨rfl, hb3⟩)))
  have hS := sh_made hb1 hb2 hb3
  obtain ⟨W, hW⟩ : ∃ W, (w3.alloc (twoO nX)).alloc (callO w3.heap.size) = W := ⟨_, rfl⟩
  rw [hW] at hS ⊢
  clear hW hb2 hl1
  obtain ⟨p, hp⟩ : ∃ p, w.heap.size = p := ⟨_, rfl⟩
  rw [hp] at hS ⊢
  clear hp
  obtain ⟨bf, hbf⟩ : ∃ bf, w1.heap.size + 1 + 1 = bf := ⟨_, rfl⟩
  rw [hbf] at hS ⊢
  clear hbf
  obtain ⟨b, hb⟩ : ∃ b, w1.heap.size + 1 = b := ⟨_, rfl⟩
  rw [hb] at hS ⊢
  clear hb
  obtain ⟨e, he⟩ : ∃ e, w1.heap.size = e := ⟨_, rfl⟩
  rw [he] at hS ⊢
  clear he hb1
  obtain ⟨bc, hbc⟩ : ∃ bc, w3.heap.size + 1 = bc := ⟨_, rfl⟩
  rw [hbc] at hS ⊢
  clear hbc
  obtain ⟨c, hc⟩ : ∃ c, w3.heap.size = c := ⟨_, rfl⟩
  rw [hc] at hS ⊢
  clear hc hb3
  have HS := Lib.hid hS; clear hS
  go_upto_region 4 with (first
    | (go_at_call 8; ((with_reducible refine (name_any _ _).mono ?_); rintro e w4 ⟨rfl, hb4⟩))
    | (go_at_call 9; ((with_reducible refine (sets_any _ _ _ _ _ _).mono ?_); rintro e w5 ⟨b5, rfl, hb5, hh5⟩; have HH5 := Lib.hid hh5; clear hh5))
    | (go_at_call 7; ((with_reducible refine (chkA w5 b5 HH5.out).mono ?_); rintro e w6 ⟨rfl, hb6⟩)))
  have HS6 := Lib.hid ((((HS.out.step hb4).step hb5).alloc _).step (hb6.mono (by simp)))
  clear HS HH5 hb4 hb5 hb6
  go_upto_region 5 with (first
    | (go_at_call 8; ((with_reducible refine (name_any ⟨#[89]⟩ _).mono ?_); rintro e w7 ⟨rfl, hb7⟩))
    | (go_at_call 8; ((with_reducible refine (name_any ⟨#[121]⟩ _).mono ?_); rintro e w9 ⟨rfl, hb9⟩))
    | (go_at_call 9; ((with_reducible refine (sets_any ⟨#[88]⟩ _ _ _ _ _).mono ?_); rintro e w8 ⟨b8, rfl, hb8, hh8⟩; have HH8 := Lib.hid hh8; clear hh8))
    | (go_at_call 9; ((with_reducible refine (sets_any ⟨#[120]⟩ _ _ _ _ _).mono ?_); rintro e w10 ⟨b10, rfl, hb10, hh10⟩; have HH10 := Lib.hid hh10; clear hh10))
    | (go_at_call 7; ((with_reducible refine (chkB w10 b8 b10 ((hb10.block _ (lt_heap ((hb9.block _ (lt_heap HH8.out)).trans HH8.out))).trans ((hb9.block _ (lt_heap HH8.out)).trans HH8.out)) HH10.out _ rfl).mono ?_); rintro e w11 ⟨rfl, hb11⟩)))
  have HS11 := Lib.hid ((((((HS6.out.step hb7).step hb8).step hb9).step hb10).alloc _).step (hb11.mono (by simp)))
  clear HS6 HH8 HH10 hb7 hb8 hb9 hb10 hb11
  go_cut [5] (fun v wx => v = .int .i64 5 ∧ Sh w wx p e b bf c bc nX nA)
  case first =>
    have hS0 : Sh w w11.drew p e b bf c bc nX nA := HS11.out.step ⟨rfl, rfl, rfl, Nat.le_refl _, fun _ _ => rfl⟩
    have HS0 := Lib.hid hS0
    refine wp_region_late (fun w' => Sh w w' p e b bf c bc nX nA) 7 (by kernel_rfl) ?_
    refine AnyL.take 0 (.agg #[.string nf, .slice (some ⟨p, 0, none⟩) 2 2, .slice (some ⟨b, 0, none⟩) 1 1]) rfl (by kernel_rfl) (by kernel_rfl) (by kernel_rfl) (by kernel_rfl) (fun _ _ _ h => h) (Or.inl ⟨by rfl, ?_⟩) HS0.out ?_
    · intro W' hSw
      obtain ⟨l1, l2, l3⟩ := box3 hSw.hf
      go_simp
    try simp only [Act.put, List.getElem_toArray, List.getElem_cons_zero, List.setIfInBounds_toArray, List.set_cons_zero, List.set_cons_succ]
    refine AnyL.take 2 (.agg #[.int .i64 5, .int .i64 0, .string nf, .slice (some ⟨c, 0, none⟩) 2 2]) rfl (by kernel_rfl) (by kernel_rfl) (by kernel_rfl) (by kernel_rfl) (fun _ _ _ h => h) (Or.inl ⟨by rfl, ?_⟩) HS0.out ?_
    · intro W' hSw
      obtain ⟨l1, l2, l3, l4⟩ := box4 hSw.hbc
      go_simp
    try simp only [Act.put, List.getElem_toArray, List.getElem_cons_zero, List.getElem_cons_succ, List.setIfInBounds_toArray, List.set_cons_zero, List.set_cons_succ]
    refine AnyL.both 1 3 (by kernel_rfl) rfl rfl (fun K hK => ?_) (fun K hK => ?_)
    · go_simp
      refine hK.out _ _ (fun _ => HS0.out.alloc _) ?_
      clear hK K
      try simp only [Act.put, List.getElem_toArray, List.getElem_cons_zero, List.getElem_cons_succ, List.setIfInBounds_toArray, List.set_cons_zero, List.set_cons_succ]
      refine AnyL.next 3 (by kernel_rfl) rfl (fun K hK => ?_)
      go_simp
      go_at_call 9
      refine (sets_any _ _ _ _ _ _).mono ?_
      rintro e' w52 ⟨d5, rfl, hb52, hh52⟩
      go_wp2_with fail
      have hS52 := (HS0.out.alloc (fO p b)).step hb52
      refine hK.out _ _ (fun _ => hS52) ?_
      clear hK K
      try simp only [Act.put, List.getElem_toArray, List.getElem_cons_zero, List.getElem_cons_succ, List.setIfInBounds_toArray, List.set_cons_zero, List.set_cons_succ]
      refine AnyL.next 4 (by kernel_rfl) rfl (fun K hK => ?_)
      go_simp
      refine hK.out _ _ (fun _ => hS52.alloc _) ?_
      clear hK K
      try simp only [Act.put, List.getElem_toArray, List.getElem_cons_zero, List.getElem_cons_succ, List.setIfInBounds_toArray, List.set_cons_zero, List.set_cons_succ]
      refine AnyL.take 5 (.agg #[.slice (some ⟨w11.heap.size, 0, none⟩) 1 1, .slice (some ⟨w52.heap.size, 0, none⟩) 1 1]) rfl (by kernel_rfl) (by kernel_rfl) (by kernel_rfl) (by kernel_rfl) (fun _ _ _ h => h) (Or.inl ⟨by rfl, ?_⟩) (hS52.alloc _) ?_
      · intro W' hSw
        go_simp
      try simp only [Act.put, List.getElem_toArray, List.getElem_cons_zero, List.getElem_cons_succ, List.setIfInBounds_toArray, List.set_cons_zero, List.set_cons_succ]
      refine AnyL.next 6 (by kernel_rfl) rfl (fun K hK => ?_)
      go_simp
      go_at_call 7
      refine (call_1 HS0.out hb52 hh52 5 rfl (by decide)).mono ?_
      rintro e' w53 ⟨rfl, hS53⟩
      go_wp2_with fail
      refine hK.out _ _ (fun _ => hS53) ?_
      clear hK K
      try simp only [Act.put, List.getElem_toArray, List.getElem_cons_zero, List.getElem_cons_succ, List.setIfInBounds_toArray, List.set_cons_zero, List.set_cons_succ]
      refine AnyL.next 7 (by kernel_rfl) rfl (fun K hK => ?_)
      go_simp
      refine hK.out _ _ (fun _ => hS53) ?_
      clear hK K
      try simp only [Act.put, List.getElem_toArray, List.getElem_cons_zero, List.getElem_cons_succ, List.setIfInBounds_toArray, List.set_cons_zero, List.set_cons_succ]
      refine AnyL.done (by kernel_rfl) ?_
      go_wp2_with fail
      go_meet
      exact ⟨rfl, hS53⟩
    · go_simp
      go_at_call 9
      refine (sets_any _ _ _ _ _ _).mono ?_
      rintro e' w52 ⟨d5, rfl, hb52, hh52⟩
      go_wp2_with fail
      have hS52 := (HS0.out).step hb52
      refine hK.out _ _ (fun _ => hS52) ?_
      clear hK K
      try simp only [Act.put, List.getElem_toArray, List.getElem_cons_zero, List.getElem_cons_succ, List.setIfInBounds_toArray, List.set_cons_zero, List.set_cons_succ]
      refine AnyL.both 1 4 (by kernel_rfl) rfl rfl (fun K hK => ?_) (fun K hK => ?_)
      · go_simp
        refine hK.out _ _ (fun _ => hS52.alloc _) ?_
        clear hK K
        try simp only [Act.put, List.getElem_toArray, List.getElem_cons_zero, List.getElem_cons_succ, List.setIfInBounds_toArray, List.set_cons_zero, List.set_cons_succ]
        refine AnyL.next 4 (by kernel_rfl) rfl (fun K hK => ?_)
        go_simp
        refine hK.out _ _ (fun _ => (hS52.alloc _).alloc _) ?_
        clear hK K
        try simp only [Act.put, List.getElem_toArray, List.getElem_cons_zero, List.getElem_cons_succ, List.setIfInBounds_toArray, List.set_cons_zero, List.set_cons_succ]
        refine AnyL.take 5 (.agg #[.slice (some ⟨w52.heap.size, 0, none⟩) 1 1, .slice (some ⟨w52.heap.size + 1, 0, none⟩) 1 1]) rfl (by kernel_rfl) (by kernel_rfl) (by kernel_rfl) (by kernel_rfl) (fun _ _ _ h => h) (Or.inl ⟨by rfl, ?_⟩) ((hS52.alloc _).alloc _) ?_
        · intro W' hSw
          go_simp
        try simp only [Act.put, List.getElem_toArray, List.getElem_cons_zero, List.getElem_cons_succ, List.setIfInBounds_toArray, List.set_cons_zero, List.set_cons_succ]
        refine AnyL.next 6 (by kernel_rfl) rfl (fun K hK => ?_)
        go_simp
        go_at_call 7
        refine (call_3 hS52 hh52 5 rfl (by decide)).mono ?_
        rintro e' w53 ⟨rfl, hS53⟩
        go_wp2_with fail
        refine hK.out _ _ (fun _ => hS53) ?_
        clear hK K
        try simp only [Act.put, List.getElem_toArray, List.getElem_cons_zero, List.getElem_cons_succ, List.setIfInBounds_toArray, List.set_cons_zero, List.set_cons_succ]
        refine AnyL.next 7 (by kernel_rfl) rfl (fun K hK => ?_)
        go_simp
        refine hK.out _ _ (fun _ => hS53) ?_
        clear hK K
        try simp only [Act.put, List.getElem_toArray, List.getElem_cons_zero, List.getElem_cons_succ, List.setIfInBounds_toArray, List.set_cons_zero, List.set_cons_succ]
        refine AnyL.done (by kernel_rfl) ?_
        go_wp2_with fail
        go_meet
        exact ⟨rfl, hS53⟩
      · go_simp
        refine hK.out _ _ (fun _ => hS52.alloc _) ?_
        clear hK K
        try simp only [Act.put, List.getElem_toArray, List.getElem_cons_zero, List.getElem_cons_succ, List.setIfInBounds_toArray, List.set_cons_zero, List.set_cons_succ]
        refine AnyL.next 1 (by kernel_rfl) rfl (fun K hK => ?_)
        go_simp
        refine hK.out _ _ (fun _ => (hS52.alloc _).alloc _) ?_
        clear hK K
        try simp only [Act.put, List.getElem_toArray, List.getElem_cons_zero, List.getElem_cons_succ, List.setIfInBounds_toArray, List.set_cons_zero, List.set_cons_succ]
        refine AnyL.take 5 (.agg #[.slice (some ⟨w52.heap.size + 1, 0, none⟩) 1 1, .slice (some ⟨w52.heap.size, 0, none⟩) 1 1]) rfl (by kernel_rfl) (by kernel_rfl) (by kernel_rfl) (by kernel_rfl) (fun _ _ _ h => h) (Or.inl ⟨by rfl, ?_⟩) ((hS52.alloc _).alloc _) ?_
        · intro W' hSw
          go_simp
        try simp only [Act.put, List.getElem_toArray, List.getElem_cons_zero, List.getElem_cons_succ, List.setIfInBounds_toArray, List.set_cons_zero, List.set_cons_succ]
        refine AnyL.next 6 (by kernel_rfl) rfl (fun K hK => ?_)
        go_simp
        go_at_call 7
        refine (call_2 hS52 hh52 5 rfl (by decide)).mono ?_
        rintro e' w53 ⟨rfl, hS53⟩
        go_wp2_with fail
        refine hK.out _ _ (fun _ => hS53) ?_
        clear hK K
        try simp only [Act.put, List.getElem_toArray, List.getElem_cons_zero, List.getElem_cons_succ, List.setIfInBounds_toArray, List.set_cons_zero, List.set_cons_succ]
        refine AnyL.next 7 (by kernel_rfl) rfl (fun K hK => ?_)
        go_simp
        refine hK.out _ _ (fun _ => hS53) ?_
        clear hK K
        try simp only [Act.put, List.getElem_toArray, List.getElem_cons_zero, List.getElem_cons_succ, List.setIfInBounds_toArray, List.set_cons_zero, List.set_cons_succ]
        refine AnyL.done (by kernel_rfl) ?_
        go_wp2_with fail
        go_meet
        exact ⟨rfl, hS53⟩
  case rest =>
    obtain ⟨rfl, hS⟩ := hcut
    have HSc := Lib.hid hS
    obtain ⟨y0, y1, y2, y3⟩ := box4 hS.hbc
    have fz := box_frozen hS.hbc 3
    have hlc := lt_heap hS.hbc
    clear hS HS11
    go_upto_region 7 with (first
      | (go_at_call 8; ((with_reducible refine (name_any ⟨#[120]⟩ _).mono ?_); rintro e w14 ⟨rfl, hb14⟩; have k14 := lt_heap ((hb14.block _ hlc).trans HSc.out.hbc); have z14 := (box_cell ((hb14.block _ hlc).trans HSc.out.hbc) 3).trans rfl; have f14 := box_frozen ((hb14.block _ hlc).trans HSc.out.hbc) 3))
      | (go_at_call 8; ((with_reducible refine (name_any ⟨#[89]⟩ _).mono ?_); rintro e w15 ⟨rfl, hb15⟩; have hh15 := (hb15.block _ k14).trans ((hb14.block _ hlc).trans HSc.out.hbc); have k15 := lt_heap hh15; have z15 := (box_cell hh15 3).trans rfl; have f15 := box_frozen hh15 3; clear hh15)))
    have hS17 := ((HSc.out.step hb14).step hb15).call nx
    obtain ⟨w17, hw17⟩ : ∃ w17, (w15.setCell ⟨bc, 3, none⟩ (.slice (some ⟨w15.heap.size, 0, none⟩) 2 2)).alloc (twoO nx) = w17 := ⟨_, rfl⟩
    rw [hw17] at hS17 ⊢
    clear hw17
    obtain ⟨c', hc'⟩ : ∃ c', w15.heap.size = c' := ⟨_, rfl⟩
    rw [hc'] at hS17 ⊢
    clear hc' k14 k15 z14 z15 f14 f15 y0 y1 y2 y3 fz hlc hb14 hb15 HSc
    have HS17 := Lib.hid hS17
    clear hS17
    go_cut [6] (fun v wx => v = .int .i64 0 ∧ Sh w wx p e b bf c' bc nx nA)
    case first =>
      have hS0 : Sh w w17.drew p e b bf c' bc nx nA := HS17.out.step ⟨rfl, rfl, rfl, Nat.le_refl _, fun _ _ => rfl⟩
      have HS0 := Lib.hid hS0
      refine wp_region_late (fun w' => Sh w w' p e b bf c' bc nx nA) 7 (by kernel_rfl) ?_
      refine AnyL.take 0 (.agg #[.string nf, .slice (some ⟨p, 0, none⟩) 2 2, .slice (some ⟨b, 0, none⟩) 1 1]) rfl (by kernel_rfl) (by kernel_rfl) (by kernel_rfl) (by kernel_rfl) (fun _ _ _ h => h) (Or.inl ⟨by rfl, ?_⟩) HS0.out ?_
      · intro W' hSw
        obtain ⟨l1, l2, l3⟩ := box3 hSw.hf
        go_simp
      try simp only [Act.put, List.getElem_toArray, List.getElem_cons_zero, List.setIfInBounds_toArray, List.set_cons_zero, List.set_cons_succ]
      refine AnyL.take 2 (.agg #[.int .i64 5, .int .i64 0, .string nf, .slice (some ⟨c', 0, none⟩) 2 2]) rfl (by kernel_rfl) (by kernel_rfl) (by kernel_rfl) (by kernel_rfl) (fun _ _ _ h => h) (Or.inl ⟨by rfl, ?_⟩) HS0.out ?_
      · intro W' hSw
        obtain ⟨l1, l2, l3, l4⟩ := box4 hSw.hbc
        go_simp
      try simp only [Act.put, List.getElem_toArray, List.getElem_cons_zero, List.getElem_cons_succ, List.setIfInBounds_toArray, List.set_cons_zero, List.set_cons_succ]
      refine AnyL.both 1 3 (by kernel_rfl) rfl rfl (fun K hK => ?_) (fun K hK => ?_)
      · go_simp
        refine hK.out _ _ (fun _ => HS0.out.alloc _) ?_
        clear hK K
        try simp only [Act.put, List.getElem_toArray, List.getElem_cons_zero, List.getElem_cons_succ, List.setIfInBounds_toArray, List.set_cons_zero, List.set_cons_succ]
        refine AnyL.next 3 (by kernel_rfl) rfl (fun K hK => ?_)
        go_simp
        go_at_call 9
        refine (sets_any _ _ _ _ _ _).mono ?_
        rintro e' w72 ⟨d7, rfl, hb72, hh72⟩
        go_wp2_with fail
        have hS72 := (HS0.out.alloc (fO p b)).step hb72
        refine hK.out _ _ (fun _ => hS72) ?_
        clear hK K
        try simp only [Act.put, List.getElem_toArray, List.getElem_cons_zero, List.getElem_cons_succ, List.setIfInBounds_toArray, List.set_cons_zero, List.set_cons_succ]
        refine AnyL.next 4 (by kernel_rfl) rfl (fun K hK => ?_)
        go_simp
        refine hK.out _ _ (fun _ => hS72.alloc _) ?_
        clear hK K
        try simp only [Act.put, List.getElem_toArray, List.getElem_cons_zero, List.getElem_cons_succ, List.setIfInBounds_toArray, List.set_cons_zero, List.set_cons_succ]
        refine AnyL.take 5 (.agg #[.slice (some ⟨w17.heap.size, 0, none⟩) 1 1, .slice (some ⟨w72.heap.size, 0, none⟩) 1 1]) rfl (by kernel_rfl) (by kernel_rfl) (by kernel_rfl) (by kernel_rfl) (fun _ _ _ h => h) (Or.inl ⟨by rfl, ?_⟩) (hS72.alloc _) ?_
        · intro W' hSw
          go_simp
        try simp only [Act.put, List.getElem_toArray, List.getElem_cons_zero, List.getElem_cons_succ, List.setIfInBounds_toArray, List.set_cons_zero, List.set_cons_succ]
        refine AnyL.next 6 (by kernel_rfl) rfl (fun K hK => ?_)
        go_simp
        go_at_call 7
        refine (call_1 HS0.out hb72 hh72 0 rfl (by decide)).mono ?_
        rintro e' w73 ⟨rfl, hS73⟩
        go_wp2_with fail
        refine hK.out _ _ (fun _ => hS73) ?_
        clear hK K
        try simp only [Act.put, List.getElem_toArray, List.getElem_cons_zero, List.getElem_cons_succ, List.setIfInBounds_toArray, List.set_cons_zero, List.set_cons_succ]
        refine AnyL.next 7 (by kernel_rfl) rfl (fun K hK => ?_)
        go_simp
        refine hK.out _ _ (fun _ => hS73) ?_
        clear hK K
        try simp only [Act.put, List.getElem_toArray, List.getElem_cons_zero, List.getElem_cons_succ, List.setIfInBounds_toArray, List.set_cons_zero, List.set_cons_succ]
        refine AnyL.done (by kernel_rfl) ?_
        go_wp2_with fail
        go_meet
        exact ⟨rfl, hS73⟩
      · go_simp
        go_at_call 9
        refine (sets_any _ _ _ _ _ _).mono ?_
        rintro e' w72 ⟨d7, rfl, hb72, hh72⟩
        go_wp2_with fail
        have hS72 := (HS0.out).step hb72
        refine hK.out _ _ (fun _ => hS72) ?_
        clear hK K
        try simp only [Act.put, List.getElem_toArray, List.getElem_cons_zero, List.getElem_cons_succ, List.setIfInBounds_toArray, List.set_cons_zero, List.set_cons_succ]
        refine AnyL.both 1 4 (by kernel_rfl) rfl rfl (fun K hK => ?_) (fun K hK => ?_)
        · go_simp
          refine hK.out _ _ (fun _ => hS72.alloc _) ?_
          clear hK K
          try simp only [Act.put, List.getElem_toArray, List.getElem_cons_zero, List.getElem_cons_succ, List.setIfInBounds_toArray, List.set_cons_zero, List.set_cons_succ]
          refine AnyL.next 4 (by kernel_rfl) rfl (fun K hK => ?_)
          go_simp
          refine hK.out _ _ (fun _ => (hS72.alloc _).alloc _) ?_
          clear hK K
          try simp only [Act.put, List.getElem_toArray, List.getElem_cons_zero, List.getElem_cons_succ, List.setIfInBounds_toArray, List.set_cons_zero, List.set_cons_succ]
          refine AnyL.take 5 (.agg #[.slice (some ⟨w72.heap.size, 0, none⟩) 1 1, .slice (some ⟨w72.heap.size + 1, 0, none⟩) 1 1]) rfl (by kernel_rfl) (by kernel_rfl) (by kernel_rfl) (by kernel_rfl) (fun _ _ _ h => h) (Or.inl ⟨by rfl, ?_⟩) ((hS72.alloc _).alloc _) ?_
          · intro W' hSw
            go_simp
          try simp only [Act.put, List.getElem_toArray, List.getElem_cons_zero, List.getElem_cons_succ, List.setIfInBounds_toArray, List.set_cons_zero, List.set_cons_succ]
          refine AnyL.next 6 (by kernel_rfl) rfl (fun K hK => ?_)
          go_simp
          go_at_call 7
          refine (call_3 hS72 hh72 0 rfl (by decide)).mono ?_
          rintro e' w73 ⟨rfl, hS73⟩
          go_wp2_with fail
          refine hK.out _ _ (fun _ => hS73) ?_
          clear hK K
          try simp only [Act.put, List.getElem_toArray, List.getElem_cons_zero, List.getElem_cons_succ, List.setIfInBounds_toArray, List.set_cons_zero, List.set_cons_succ]
          refine AnyL.next 7 (by kernel_rfl) rfl (fun K hK => ?_)
          go_simp
          refine hK.out _ _ (fun _ => hS73) ?_
          clear hK K
          try simp only [Act.put, List.getElem_toArray, List.getElem_cons_zero, List.getElem_cons_succ, List.setIfInBounds_toArray, List.set_cons_zero, List.set_cons_succ]
          refine AnyL.done (by kernel_rfl) ?_
          go_wp2_with fail
          go_meet
          exact ⟨rfl, hS73⟩
        · go_simp
          refine hK.out _ _ (fun _ => hS72.alloc _) ?_
          clear hK K
          try simp only [Act.put, List.getElem_toArray, List.getElem_cons_zero, List.getElem_cons_succ, List.setIfInBounds_toArray, List.set_cons_zero, List.set_cons_succ]
          refine AnyL.next 1 (by kernel_rfl) rfl (fun K hK => ?_)
          go_simp
          refine hK.out _ _ (fun _ => (hS72.alloc _).alloc _) ?_
          clear hK K
          try simp only [Act.put, List.getElem_toArray, List.getElem_cons_zero, List.getElem_cons_succ, List.setIfInBounds_toArray, List.set_cons_zero, List.set_cons_succ]
          refine AnyL.take 5 (.agg #[.slice (some ⟨w72.heap.size + 1, 0, none⟩) 1 1, .slice (some ⟨w72.heap.size, 0, none⟩) 1 1]) rfl (by kernel_rfl) (by kernel_rfl) (by kernel_rfl) (by kernel_rfl) (fun _ _ _ h => h) (Or.inl ⟨by rfl, ?_⟩) ((hS72.alloc _).alloc _) ?_
          · intro W' hSw
            go_simp
          try simp only [Act.put, List.getElem_toArray, List.getElem_cons_zero, List.getElem_cons_succ, List.setIfInBounds_toArray, List.set_cons_zero, List.set_cons_succ]
          refine AnyL.next 6 (by kernel_rfl) rfl (fun K hK => ?_)
          go_simp
          go_at_call 7
          refine (call_2 hS72 hh72 0 rfl (by decide)).mono ?_
          rintro e' w73 ⟨rfl, hS73⟩
          go_wp2_with fail
          refine hK.out _ _ (fun _ => hS73) ?_
          clear hK K
          try simp only [Act.put, List.getElem_toArray, List.getElem_cons_zero, List.getElem_cons_succ, List.setIfInBounds_toArray, List.set_cons_zero, List.set_cons_succ]
          refine AnyL.next 7 (by kernel_rfl) rfl (fun K hK => ?_)
          go_simp
          refine hK.out _ _ (fun _ => hS73) ?_
          clear hK K
          try simp only [Act.put, List.getElem_toArray, List.getElem_cons_zero, List.getElem_cons_succ, List.setIfInBounds_toArray, List.set_cons_zero, List.set_cons_succ]
          refine AnyL.done (by kernel_rfl) ?_
          go_wp2_with fail
          go_meet
          exact ⟨rfl, hS73⟩
    case rest =>
      obtain ⟨rfl, hS⟩ := hcut
      have HSd := Lib.hid hS
      obtain ⟨x0, x1, x2⟩ := box3 hS.hf
      have fz := box_frozen hS.hf 2
      have hlf := lt_heap hS.hf
      clear hS HS17
      go_upto_region 9 with (go_at_call 8; ((with_reducible refine (name_any _ _).mono ?_); rintro e w18 ⟨rfl, hb18⟩; have hh18 := (hb18.block _ hlf).trans HSd.out.hf; have k18 := lt_heap hh18; have z18 := (box_cell hh18 2).trans rfl; have f18 := box_frozen hh18 2; clear hh18))
      have hS19 := (HSd.out.step hb18).body nB
      obtain ⟨w19, hw19⟩ : ∃ w19, ((w18.setCell ⟨bf, 2, none⟩ (.slice (some ⟨w18.heap.size + 1, 0, none⟩) 1 1)).alloc (nameO nB)).alloc (stmtO 9 no w18.heap.size) = w19 := ⟨_, rfl⟩
      rw [hw19] at hS19 ⊢
      clear hw19 x0 x1 x2 fz k18 z18 f18
      obtain ⟨b', hb'⟩ : ∃ b', w18.heap.size + 1 = b' := ⟨_, rfl⟩
      rw [hb'] at hS19 ⊢
      clear hb'
      obtain ⟨e', he'⟩ : ∃ e', w18.heap.size = e' := ⟨_, rfl⟩
      rw [he'] at hS19 ⊢
      clear he' hb18 hlf HSd
      obtain ⟨x0, x1, x2⟩ := box3 hS19.hf
      have HS19 := Lib.hid hS19
      clear hS19
      have OX := Lib.hid (fun W => of_var ⟨#[88]⟩ true rfl (by decide) W)
      have Ox := Lib.hid (fun W => of_var ⟨#[120]⟩ false rfl (by decide) W)
      go_upto_region 10 with (go_at_call 7; ((with_reducible refine (chkE' HS19.out).mono ?_); rintro e w20 ⟨rfl, hS20⟩))
      go_upto_region 11 with (first
        | (go_at_call 8; ((with_reducible refine (name_any _ _).mono ?_); rintro e w21 ⟨rfl, hb21⟩))
        | (go_at_call 7; ((with_reducible refine (chkG w21).mono ?_); rintro e w22 ⟨rfl, hb22⟩)))
      have f22 : Fr w w22 := (((hS20.fr.step hb21).alloc _).alloc _).step (hb22.mono (by simp))
      clear hS20 hb21 hb22 x0 x1 x2 HS19
      go_wp2_with (first
        | (go_at_call 8; ((with_reducible refine (name_any ⟨#[88]⟩ _).mono ?_); rintro e w23 ⟨rfl, hb23⟩))
        | (go_at_call 8; ((with_reducible refine (name_any ⟨#[120]⟩ _).mono ?_); rintro e w25 ⟨rfl, hb25⟩))
        | (go_at_call 10; ((with_reducible refine (OX.out _).mono ?_); rintro e w24 ⟨rfl, hb24⟩))
        | (go_at_call 10; ((with_reducible refine (Ox.out _).mono ?_); rintro e w26 ⟨rfl, hb26⟩)))
      go_ret
      exact ⟨rfl, (((f22.step hb23).step hb24).step hb25).step hb26⟩
end Go.Proofs.Ytacleafbjbhcgaa
