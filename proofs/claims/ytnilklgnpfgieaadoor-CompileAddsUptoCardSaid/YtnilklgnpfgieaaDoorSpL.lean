/-
  scope.Resolve.
-/
import Derived.Test.YtnilklgnpfgieaaDoorSpK
namespace Go.Proofs.YtnilklgnpfgieaaDoor
open Go Go.RowKit Go.Lib

theorem right_lims {p : Pg} (h : rightN p = 0) : p.fs.length ≤ 32 ∧ ∀ f, f ∈ p.fs → f.ps.length ≤ 8 := by
  unfold rightN at h
  split at h
  · rename_i h1
    simp only [Bool.and_eq_true] at h1
    have h2 := h1.1
    unfold funcsB at h2
    simp only [Bool.and_eq_true, decide_eq_true_eq] at h2
    refine ⟨h2.1, ?_⟩
    have key : ∀ l : List Fn, fsOk l = true → ∀ f, f ∈ l → f.ps.length ≤ 8 := by
      intro l
      induction l with
      | nil => intro _ f hf; cases hf
      | cons x l ih =>
        intro h f hf
        unfold fsOk at h
        simp only [Bool.and_eq_true, paramsB, decide_eq_true_eq] at h
        rcases List.mem_cons.1 hf with rfl | hf
        · exact h.1.2.1
        · exact ih h.2 f hf
    exact key _ h2.2
  · cases h
theorem cnt_mem {fs : List Fn} {f : Fn} (h : f ∈ fs) : f.b.cnt ≤ cntL (fsPts fs) := by
  induction fs with
  | nil => cases h
  | cons x l ih =>
    rw [fsPts, cntL_append, SS.cntL]
    rcases List.mem_cons.1 h with rfl | h
    · omega
    · have := ih h; omega
theorem new2 (W : World) (o o' : Obj) : ((W.alloc o).alloc o').heap[W.heap.size + 1]? = some o' := by
  have := heap_alloc_new (W.alloc o) o'
  rwa [World.size_alloc] at this
def RvRel (B2 : Nat) (W2 : World) (len : Nat) (A : Option Addr) (fs : List Fn) (ar : ByteArray → Option Nat) (l i : Value) (wr : World) : Prop :=
  ∃ (k : Nat) (pre r : List Fn) (cs : List Value), i = .int .i64 k ∧ k + r.length = len ∧ fs = pre ++ r ∧ pre.length = k ∧ pre.all (okFn ar) = true ∧ (0 < r.length → ∃ b o, A = some ⟨b, o, none⟩ ∧ b < B2 ∧ FsIn B2 W2 r b (o + k * 3)) ∧
    wr.ownsRow B2 54 4 l k cs ∧ SpC B2 wr (pre.map (spFn ar)) cs ∧ Below B2 W2 wr
theorem scopeInfo : (Tryd.prog.info? 54).map (fun i => (i.zero, i.size, i.bytes)) = some (some (.agg #[.string ⟨#[]⟩, .int .i64 0, .slice none 0 0, .slice none 0 0]), 4, 72) := by kernel_rfl

theorem SpC.step {base : Nat} {W W' : World} {l : List Sp} {cs : List Value} (h : SpC base W l cs) (hb : Below W.heap.size W W') : SpC base W' l cs := h.mono fun _ _ h => h.kept (grown_none hb) (Classical.em _)
theorem SpC.grow {base : Nat} {W W' : World} {l : List Sp} {cs : List Value} {b' n : Nat} {v : Value} {xs : List Value} (h : SpC base W l cs) (hown : W.ownsRow b' 54 4 v n xs) (hg : W.grownBy W' v.ownBlock) : SpC base W' l cs := h.mono fun _ _ h => own_keep h hown (by decide) hg
theorem StO.base {b b' : Nat} {W : World} {v : Value} {l : List ByteArray} (h : StO b W v l) (hb : b' ≤ b) : StO b' W v l := by
  obtain ⟨e1, h3⟩ := h
  refine ⟨e1, h3.imp id ?_⟩
  rintro ⟨q, cap, cur, q1, q2, q3⟩
  exact ⟨q, cap, cur, q1, by omega, q3⟩
theorem err_right {p : Pg} (h : rightN p ≠ 0) : resErr p = rightN p := by unfold resErr; rw [if_pos h]
theorem err_name {p : Pg} (h : rightN p = 0) (h2 : (distinctN p.fs && (mainF p :: p.fs).all (okFn (arF p.fs))) = false) : resErr p = 4 := by
  unfold resErr; rw [if_neg (by simp [h]), if_neg (by rw [h2]; decide)]
theorem err_ok {p : Pg} (h : rightN p = 0) (h2 : (distinctN p.fs && (mainF p :: p.fs).all (okFn (arF p.fs))) = true) : resErr p = if (scopes p).any Sp.full then 10 else 0 := by
  unfold resErr; rw [if_neg (by simp [h]), if_pos h2]
theorem spv_nil (B : Nat) (W : World) (p : Pg) (h : resErr p ≠ 0) : SpV B W (.slice none 0 0) (resP p) := by
  unfold resP; rw [if_neg h]
  exact ⟨none, 0, rfl, Nat.le_refl _, by decide, fun h => by simp at h⟩

abbrev fnO (s : ByteArray) (vp vb : Value) : Obj := .cells #[.string s, vp, vb] 56
theorem rv_concat (p : Pg) (A A' : Option Addr) (cap cap' nf : Nat) (hnf : p.fs.length = nf) (hn32 : nf ≤ 32) (w W : World) (hW : (w.alloc (fnO ⟨#[]⟩ (.slice none 0 0) (.slice A' p.m.len cap'))).alloc (fss2 (some ⟨w.heap.size, 0, none⟩) 1 1 A nf cap) = W)
    (h0 : FV w.heap.size w (.slice A p.fs.length cap) p.fs) (h1 : SV w.heap.size w (.slice A' p.m.len cap') p.m) :
    Calls Tryd.prog 18 #[.slice (some ⟨w.heap.size + 1, 0, none⟩) 2 2] W fun e w' => ∃ A5 cap5, e = .returned (.slice A5 (1 + nf) cap5) ∧ FV w'.heap.size w' (.slice A5 (1 + nf) cap5) (mainF p :: p.fs) ∧ Below W.heap.size W w' := by
  have hb : Below w.heap.size w W := by rw [← hW]; exact ((Below.refl _ _).alloc (Nat.le_refl _) _).alloc (by simp) _
  have b0 : W.heap[w.heap.size]? = some (fnO ⟨#[]⟩ (.slice none 0 0) (.slice A' p.m.len cap')) := by rw [← hW]; exact blk_alloc (heap_alloc_new _ _) _
  have b1 : W.heap[w.heap.size + 1]? = some (fss2 (some ⟨w.heap.size, 0, none⟩) 1 1 A nf cap) := by rw [← hW]; exact blk_new (by simp)
  have hlt := blk_lt b0
  have := concat_any (w.heap.size + 1) (some ⟨w.heap.size, 0, none⟩) A 1 cap [mainF p] p.fs W (by rw [hnf]; exact b1)
    ⟨_, 1, rfl, Nat.le_refl _, by decide, fun _ => ⟨_, _, rfl, hlt, (blk_cell b0 0).trans rfl, ⟨_, (blk_cell b0 1).trans rfl, none, 0, rfl, Nat.le_refl _, by decide, fun h => by simp [mainF] at h⟩, ⟨_, (blk_cell b0 2).trans rfl, h1.below hb hb.size⟩, Nat.zero_le _, trivial⟩⟩
    (h0.below hb hb.size) (Nat.lt_succ_self 0) (show (1 : Nat) ≤ 1000 by decide) (by omega)
  rw [hnf] at this
  exact this
abbrev pgO (A : Option Addr) (k cap : Nat) (A' : Option Addr) (k' cap' : Nat) : Obj := .cells #[.slice A k cap, .slice A' k' cap'] 25
set_option maxRecDepth 100000 in
set_option maxHeartbeats 8000000 in
theorem resolve_p (v : Value) (p : Pg) (w : World) (hv : PgV w.heap.size w v p) (ht : Tab w) (hc : cntL p.pts ≤ 10000000) :
    Calls Tryd.prog 8 #[v] w fun e w' => ∃ v', e = .returned (.tuple #[v', .int .i64 (resErr p)]) ∧ SpV w'.heap.size w' v' (resP p) ∧ Below w.heap.size w w' := by
  obtain ⟨A, cap, A', cap', rfl, h0, h1⟩ := id hv
  obtain ⟨n, hn⟩ : ∃ n, w.heap.size = n := ⟨_, rfl⟩
  obtain ⟨W1, hW1⟩ : ∃ W1, w.alloc (pgO A p.fs.length cap A' p.m.len cap') = W1 := ⟨_, rfl⟩
  have hbx1 : W1.heap[n]? = some (pgO A p.fs.length cap A' p.m.len cap') := by rw [← hW1]; exact blk_new hn
  have hb1 : Below w.heap.size w W1 := by rw [← hW1]; exact (Below.refl _ _).alloc (Nat.le_refl _) _
  have hs1 : W1.heap.size = n + 1 := by rw [← hW1, World.size_alloc, hn]
  have hR := right_any _ p W1 w.heap.size hb1.size (hv.below hb1 (Nat.le_refl _)) (ht.below hb1 ht.1)
  have HR := Lib.hid hR
  have HT := Lib.hid ht
  have H0 := Lib.hid h0
  have H1 := Lib.hid h1
  have HB1 := Lib.hid hb1
  have HX1 := Lib.hid hbx1
  have HN := Lib.hid hn
  have HW1 := Lib.hid hW1
  have x0 : W1.cell? ⟨n, 0, none⟩ = some (.slice A p.fs.length cap) := (blk_cell hbx1 0).trans rfl
  have x1 : W1.cell? ⟨n, 1, none⟩ = some (.slice A' p.m.len cap') := (blk_cell hbx1 1).trans rfl
  by_cases hr : rightN p = 0
  · have hlim := right_lims hr
    obtain ⟨nf, hnf⟩ : ∃ nf, p.fs.length = nf := ⟨_, rfl⟩
    have hnf32 : nf ≤ 32 := by rw [← hnf]; exact hlim.1
    rw [hnf] at x0 hW1
    rw [hr, hnf] at HR
    rw [hnf]
    have HC := Lib.hid hc
    have HLIM := Lib.hid hlim.2
    have HNF := Lib.hid hnf
    have HRR := Lib.hid hr
    have HAr : Hid (∀ w2, Below W1.heap.size W1 w2 → Calls Tryd.prog 17 #[.slice A nf cap] w2 fun e w' => e = .returned (.tuple #[.map (some w2.heap.size), .bool (distinctN p.fs)]) ∧ Below w2.heap.size w2 w' ∧ AMap w2.heap.size (arF p.fs) w' ∧ w2.heap.size < w'.heap.size) := hid fun w2 h2 => by
      have h := arities_any A cap p.fs w2 (h0.below (hb1.trans (h2.mono hb1.size)) (Nat.le_trans hb1.size h2.size)) (by omega)
      rwa [hnf] at h
    clear hR hv ht h0 h1 hb1 hbx1 hc hlim hr hnf
    cases hd : distinctN p.fs with
    | false =>
      rw [hd] at HAr
      have HE := Lib.hid (err_name HRR.out (by rw [hd]; rfl))
      clear hd
      go_enter Tryd.func8, Tryd.ntmps8
      go_wp2_with (first
        | (go_at_call 16; ((with_reducible refine HR.out.mono ?_); rintro e w2 ⟨rfl, h2⟩; have y0 := (h2.cell (p := ⟨n, 0, none⟩) (by simp only; omega)).trans x0; have HA := Lib.hid (HAr.out w2 h2)))
        | (go_at_call 17; ((with_reducible refine HA.out.mono ?_); rintro e w3 ⟨rfl, h3, -, -⟩)))
      exact bodyPost_ret (results_tmp2 rfl _ _ _) rfl ⟨_, by rw [HE.out]; rfl, spv_nil _ _ _ (by rw [HE.out]; decide), HB1.out.trans ((h2.trans (h3.mono h2.size)).mono HB1.out.size)⟩
    | true =>
      rw [hd] at HAr
      have HD := Lib.hid hd
      clear hd
      go_enter Tryd.func8, Tryd.ntmps8
      go_wp2_with (first
        | (go_at_call 16; ((with_reducible refine HR.out.mono ?_); rintro e w2 ⟨rfl, h2⟩; have y0 := (h2.cell (p := ⟨n, 0, none⟩) (by simp only; omega)).trans x0; have y1 := (h2.cell (p := ⟨n, 1, none⟩) (by simp only; omega)).trans x1; have hs2 := h2.size; have HA := Lib.hid (HAr.out w2 h2); have H2 := Lib.hid h2; clear h2))
        | (go_at_call 17; ((with_reducible refine HA.out.mono ?_); rintro e w3 ⟨rfl, h3, har3, hlt3⟩; have z0 := (h3.cell (p := ⟨n, 0, none⟩) (by simp only; omega)).trans y0; have z1 := (h3.cell (p := ⟨n, 1, none⟩) (by simp only; omega)).trans y1; have hs3 := h3.size; have hn3 : n < w3.heap.size := (by omega); have H3 := Lib.hid h3; have HAR3 := Lib.hid har3; obtain ⟨W4, hW4⟩ : ∃ W4, (w3.alloc (fnO ⟨#[]⟩ (.slice none 0 0) (.slice A' p.m.len cap'))).alloc (fss2 (some ⟨w3.heap.size, 0, none⟩) 1 1 A nf cap) = W4 := ⟨_, rfl⟩; have HCa := Lib.hid (rv_concat p A A' cap cap' nf HNF.out hnf32 w3 W4 hW4 (FV.below H0.out (HB1.out.trans ((H2.out.trans (h3.mono H2.out.size)).mono HB1.out.size)) (by have := HB1.out.size; omega)) (SV.below H1.out (HB1.out.trans ((H2.out.trans (h3.mono H2.out.size)).mono HB1.out.size)) (by have := HB1.out.size; omega))); have HW4 := Lib.hid hW4; have hlt4 := hlt3; clear h3 har3))
        | (go_at_call 18; (with_reducible refine HCa.out.mono ?_); rintro e w5 ⟨A5, cap5, rfl, h5, h5b⟩))
      have hb45 : Below w3.heap.size w3 w5 := by
        have h4 : Below w3.heap.size w3 W4 := by rw [← HW4.out]; exact ((Below.refl _ _).alloc (Nat.le_refl _) _).alloc (by simp) _
        exact h4.trans (h5b.mono h4.size)
      have HW5 := Lib.hid ((H2.out.trans (H3.out.mono H2.out.size)).trans (hb45.mono (Nat.le_trans H2.out.size hs3)))
      have HAM := Lib.hid (HAR3.out.below hlt3 hb45)
      have hM5 : w2.heap.size < w5.heap.size := Nat.lt_of_lt_of_le hlt3 hb45.size
      obtain ⟨M, hM⟩ : ∃ M, w2.heap.size = M := ⟨_, rfl⟩
      rw [hM] at HAM hM5 ⊢
      obtain ⟨_, _, e5, q1, q2, q3⟩ := id h5
      injection e5 with e51 e52 e53
      subst e51 e53
      clear e52
      obtain ⟨i0, hi, hz0, hz1, hz2⟩ := info_parts scopeInfo
      have HI := Lib.hid hi
      have HZ0 := Lib.hid hz0
      have HQ3 := Lib.hid q3
      obtain ⟨len, hlen⟩ : ∃ len, 1 + nf = len := ⟨_, rfl⟩
      have hll : (mainF p :: p.fs).length = len := by rw [List.length_cons, HNF.out]; omega
      rw [hll] at q1
      rw [hlen]
      have HLL := Lib.hid hll
      have HH5 := Lib.hid h5
      have hlen33 : len ≤ 33 := by omega
      clear h5 h5b hb45 hi hz0 q3 hll y0 y1 z0 z1
      go_loopw [7, 34] (fun l i wr => RvRel w5.heap.size w5 len A5 (mainF p :: p.fs) (arF p.fs) l i wr) (fun _ i _ => len - (intOf i).toNat)
      case atStart => exact ⟨0, [], mainF p :: p.fs, [], rfl, by have := HLL.out; omega, rfl, rfl, rfl, fun _ => by have := HQ3.out (by have := HLL.out; omega); simpa using this, ⟨rfl, .inl ⟨rfl, rfl⟩⟩, rfl, Below.refl _ _⟩
      case round =>
        obtain ⟨k, pre, r, cs, rfl, hkk, hfs, hpre, hall, hr1, hown, hcs, hbel⟩ := hrel
        have HFS := Lib.hid hfs
        have HPR := Lib.hid hpre
        have HALL := Lib.hid hall
        have HO := Lib.hid hown
        have HCS := Lib.hid hcs
        have HBL := Lib.hid hbel
        obtain ⟨X, cX, rfl⟩ := own_form hown
        cases r with
        | nil =>
          have hk0 : k = len := by simpa using hkk
          subst hk0
          have hpe : pre = mainF p :: p.fs := by rw [HFS.out]; simp
          have hsp : SpV wr.heap.size wr (.slice X k cX) (scopes p) := by
            have := own_sp hown hcs (by rw [List.length_map, hpre])
            rw [hpe] at this
            exact this
          have HSP := Lib.hid hsp
          have hCt := contf_any wr.heap.size (.slice X k cX) (scopes p) wr (Nat.le_refl _) hsp
          have hE := err_ok HRR.out (by rw [HD.out, ← hpe, hall]; rfl)
          cases hfu : (scopes p).any Sp.full with
          | true =>
            rw [hfu] at hCt hE
            have HE := Lib.hid hE
            have HCt := Lib.hid hCt
            clear hkk hr1 hfs hpre hall hown hcs hbel hsp hCt hE hfu hpe
            go_wp2_with (go_at_call 20; (with_reducible refine HCt.out.mono ?_); rintro e w7 ⟨rfl, h7⟩)
            exact bodyPost_ret (results_tmp2 rfl _ _ _) rfl ⟨_, by rw [HE.out]; rfl, spv_nil _ _ _ (by rw [HE.out]; decide), HB1.out.trans (((HW5.out.trans (HBL.out.mono HW5.out.size)).trans (h7.mono (Nat.le_trans HW5.out.size HBL.out.size))).mono HB1.out.size)⟩
          | false =>
            rw [hfu] at hCt hE
            have hE : resErr p = 0 := by rw [hE]; rfl
            have HE := Lib.hid hE
            have HCt := Lib.hid hCt
            clear hkk hr1 hfs hpre hall hown hcs hbel hsp hCt hE hfu hpe
            go_wp2_with (go_at_call 20; (with_reducible refine HCt.out.mono ?_); rintro e w7 ⟨rfl, h7⟩)
            refine bodyPost_ret (results_tmp2 rfl _ _ _) rfl ⟨_, by rw [HE.out]; rfl, ?_, HB1.out.trans (((HW5.out.trans (HBL.out.mono HW5.out.size)).trans (h7.mono (Nat.le_trans HW5.out.size HBL.out.size))).mono HB1.out.size)⟩
            unfold resP
            rw [if_pos HE.out]
            exact HSP.out.below h7 h7.size
        | cons f r =>
          obtain ⟨b, o, rfl, hb, c0, ⟨v1, c1, h1⟩, ⟨v2, c2, h2⟩, h6, hr⟩ := hr1 (by simp)
          obtain ⟨A6, cap6, rfl, _⟩ := id h1
          obtain ⟨A7, cap7, rfl, _⟩ := id h2
          have hlt : k < len := by simp at hkk; omega
          have HKK := Lib.hid hkk
          have d0 := (hbel.cell (p := ⟨b, o + k * 3, none⟩) hb).trans c0
          have d1 := (hbel.cell (p := ⟨b, o + k * 3 + 1, none⟩) hb).trans c1
          have d2 := (hbel.cell (p := ⟨b, o + k * 3 + 2, none⟩) hb).trans c2
          have hmem : f ∈ mainF p :: p.fs := by rw [hfs]; simp
          have hfcnt : f.ps.length ≤ 8 ∧ f.b.cnt ≤ 10000000 := by
            have hcc : cntL (fsPts p.fs) + p.m.cnt ≤ 10000000 := by have := HC.out; simpa [Pg.pts, cntL_append, SS.cntL] using this
            rcases List.mem_cons.1 hmem with rfl | hm
            · exact ⟨by simp [mainF], by simp only [mainF]; omega⟩
            · exact ⟨HLIM.out f hm, by have := cnt_mem hm; omega⟩
          obtain ⟨wa, hwa⟩ : ∃ wa, wr.alloc (fnO f.s (.slice A6 f.ps.length cap6) (.slice A7 f.b.len cap7)) = wa := ⟨_, rfl⟩
          have hba : Below wr.heap.size wr wa := by rw [← hwa]; exact (Below.refl _ _).alloc (Nat.le_refl _) _
          have hb5a : Below w5.heap.size w5 wa := hbel.trans (hba.mono hbel.size)
          have hxa : wa.heap[wr.heap.size]? = some (fnO f.s (.slice A6 f.ps.length cap6) (.slice A7 f.b.len cap7)) := by rw [← hwa]; exact heap_alloc_new _ _
          have h1a : RowV (PsIn wa f.ps) wa.heap.size f.ps.length (.slice A6 f.ps.length cap6) := RowV.imp h1 hb5a.size fun _ _ hb' hq => PsIn.below hb5a hb' hq
          have h2a : SV wa.heap.size wa (.slice A7 f.b.len cap7) f.b := h2.below hb5a hb5a.size
          have hres := resolve_any f.s f.ps f.b A6 A7 cap6 cap7 M (arF p.fs) wa h1a h2a (Nat.lt_of_lt_of_le hM5 hb5a.size) (HAM.out.below hM5 hb5a) (by omega)
          have HSZ := Lib.hid (gFn_sz (ar := arF p.fs) (nm := f.s) h1a h2a)
          obtain ⟨a0, a1, a2⟩ : wa.cell? ⟨wr.heap.size, 0, none⟩ = some (.string f.s) ∧ wa.cell? ⟨wr.heap.size, 1, none⟩ = some (.slice A6 f.ps.length cap6) ∧ wa.cell? ⟨wr.heap.size, 2, none⟩ = some (.slice A7 f.b.len cap7) := ⟨(blk_cell hxa 0).trans rfl, (blk_cell hxa 1).trans rfl, (blk_cell hxa 2).trans rfl⟩
          have HBA := Lib.hid hba
          have HB5A := Lib.hid hb5a
          have HFC := Lib.hid h6
          cases hok : okFn (arF p.fs) f with
          | false =>
            have hres : Hid _ := Lib.hid hres
            rw [show (Fn.mk f.s f.ps f.b) = f from rfl, hok] at hres
            have hE : resErr p = 4 := err_name HRR.out (by
              rw [HD.out, hfs, List.all_append, List.all_cons, hok]
              simp)
            have HE := Lib.hid hE
            clear hkk hr1 hfs hpre hall hown hcs hbel hok hmem hfcnt hba hb5a hxa h1a h2a hE c0 c1 c2 h1 h2 h6
            go_wp2_with (go_at_call 19; (with_reducible refine hres.out.mono ?_); rintro e w6 ⟨vv, va, rfl, h6, hvv, hva⟩; obtain ⟨Av, cv, rfl⟩ := own_form hvv; obtain ⟨Aa, ca, rfl⟩ := own_form hva)
            refine bodyPost_ret (results_tmp2 rfl _ _ _) rfl ⟨_, by rw [HE.out]; rfl, spv_nil _ _ _ (by rw [HE.out]; decide), ?_⟩
            have h8 : Below W1.heap.size W1 w6 := (HW5.out.trans (HB5A.out.mono HW5.out.size)).trans (h6.mono (Nat.le_trans HW5.out.size HB5A.out.size))
            exact HB1.out.trans ((h8.alloc h8.size _).mono HB1.out.size)
          | true =>
            have hres : Hid _ := Lib.hid hres
            rw [show (Fn.mk f.s f.ps f.b) = f from rfl, hok] at hres
            have HOK := Lib.hid hok
            clear hkk hr1 hfs hpre hall hown hcs hbel hok hmem hba hb5a hxa h1a h2a c0 c1 c2 h1 h2 h6
            go_wp2_with (first
              | (go_at_call 19; (with_reducible refine hres.out.mono ?_); rintro e w6 ⟨vv, va, rfl, h6, hvv, hva⟩; have HVV := Lib.hid hvv; have HVA := Lib.hid hva; obtain ⟨Av, cv, rfl⟩ := own_form hvv; obtain ⟨Aa, ca, rfl⟩ := own_form hva; clear hvv hva; have h68 : Below wr.heap.size wr ((w6.alloc (scO f.s f.ps.length (.slice Av (gFn (arF p.fs) f).vs.length cv) (.slice Aa (gFn (arF p.fs) f).xs.length ca))).alloc (scO f.s f.ps.length (.slice Av (gFn (arF p.fs) f).vs.length cv) (.slice Aa (gFn (arF p.fs) f).xs.length ca))) := ((HBA.out.trans (h6.mono HBA.out.size)).alloc (HBA.out.trans (h6.mono HBA.out.size)).size _).alloc (by have := (HBA.out.trans (h6.mono HBA.out.size)).size; simp only [World.size_alloc]; omega) _; have HO8 := Lib.hid (HO.out.kept (grown_none h68) (Classical.em _)); have HS8 := Lib.hid (HCS.out.step h68); have HN8 := Lib.hid (blk_news (new2 w6 (scO f.s f.ps.length (.slice Av (gFn (arF p.fs) f).vs.length cv) (.slice Aa (gFn (arF p.fs) f).xs.length ca)) (scO f.s f.ps.length (.slice Av (gFn (arF p.fs) f).vs.length cv) (.slice Aa (gFn (arF p.fs) f).xs.length ca)))); have s68 := h68.size; have H68 := Lib.hid h68; have s5r := HBL.out.size; have h67 : Below w6.heap.size w6 ((w6.alloc (scO f.s f.ps.length (.slice Av (gFn (arF p.fs) f).vs.length cv) (.slice Aa (gFn (arF p.fs) f).xs.length ca))).alloc (scO f.s f.ps.length (.slice Av (gFn (arF p.fs) f).vs.length cv) (.slice Aa (gFn (arF p.fs) f).xs.length ca))) := ((Below.refl _ _).alloc (Nat.le_refl _) _).alloc (by simp) _; have H67 := Lib.hid h67; clear h6 h68 h67)
              | (at_builtin; refine wpl_append_own rfl _ _ 46 rfl w5.heap.size 54 i0 _ 4 72 Tryd.underlying46 HI.out HZ0.out hz1 hz2 rfl (by decide) _ k cs rfl HO8.out (some ⟨w6.heap.size + 1, 0, none⟩) 1 1 _ rfl (fun h => by cases h) rfl HN8.out (fun u hu => by (simp only [List.mem_cons, List.not_mem_nil, or_false] at hu; rcases hu with rfl | rfl | rfl | rfl <;> rfl)) (by unfold maxLen; omega) (by omega) (Nat.le_trans s5r s68) ?_; intro v9 w9 hown9 hg9))
            go_roundw
            case rel =>
              have hone : SpC w5.heap.size w9 [spFn (arF p.fs) f] [.string f.s, .int .i64 f.ps.length, .slice Av (gFn (arF p.fs) f).vs.length cv, .slice Aa (gFn (arF p.fs) f).xs.length ca] := by
                have hsz : w5.heap.size ≤ wa.heap.size := HB5A.out.size
                have k1 := ((HVV.out.base hsz).kept (grown_none H67.out) (Classical.em _))
                have k2 := ((HVA.out.base hsz).kept (grown_none H67.out) (Classical.em _))
                exact ⟨_, _, [], rfl, own_keep k1 HO8.out (by decide) hg9, own_keep k2 HO8.out (by decide) hg9, HFC.out, HSZ.out, rfl⟩
              refine ⟨k + 1, pre ++ [f], r, _, by go_num, by have := HKK.out; simp at this; omega, by rw [HFS.out]; simp, by simp [HPR.out], by rw [List.all_append, HALL.out]; simp [HOK.out], fun _ => ⟨b, o, rfl, hb, by rw [show o + (k + 1) * 3 = o + k * 3 + 3 by omega]; exact hr⟩, hown9, ?_, ?_⟩
              · rw [List.map_append]
                exact SpC.app hone (HS8.out.grow HO8.out hg9)
              · exact (HBL.out.trans (H68.out.mono HBL.out.size)).grown hg9 (Nat.le_trans s5r s68) (fun q hq => (HO8.out.lt q hq).1)
            case measure => simp [intOf]; omega
  · have e0 : (rightN p != 0) = true := by simp [bne, hr]
    have HE := Lib.hid (err_right hr)
    obtain ⟨z, hz⟩ : ∃ z, rightN p = z := ⟨_, rfl⟩
    have hne : z ≠ 0 := by rw [← hz]; exact hr
    rw [hz] at HR HE e0
    have HNE := Lib.hid hne
    clear hR hv ht h0 h1 hb1 hbx1 hc hr hz hne
    go_enter Tryd.func8, Tryd.ntmps8
    go_wp2_with (go_at_call 16; ((with_reducible refine HR.out.mono ?_); rintro e w2 ⟨rfl, h2⟩))
    exact bodyPost_ret (results_tmp2 rfl _ _ _) rfl ⟨_, by rw [HE.out]; rfl, spv_nil _ _ _ (by rw [HE.out]; exact HNE.out), HB1.out.trans (h2.mono HB1.out.size)⟩
end Go.Proofs.YtnilklgnpfgieaaDoor
