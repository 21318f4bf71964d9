/-
  (*checker).function, each over functions, label.Check.
-/
import Derived.Test.YtacleafbjbhcgaaLbI
namespace Go.Proofs.Ytacleafbjbhcgaa
open Go Go.RowKit Go.Lib

theorem box3 {W : World} {k : Nat} {a b c : Value} {t : TypeId} (h : W.heap[k]? = some (.cells #[a, b, c] t)) : W.cell? ⟨k, 0, none⟩ = some a ∧ W.cell? ⟨k, 1, none⟩ = some b ∧ W.cell? ⟨k, 2, none⟩ = some c :=
  ⟨(box_cell h 0).trans rfl, (box_cell h 1).trans rfl, (box_cell h 2).trans rfl⟩

set_option maxRecDepth 100000 in
set_option maxHeartbeats 2000000 in
theorem function_any (s : ByteArray) (v : Value) (A : Option Addr) (cap : Nat) (l : SS) (B C M : Nat) (fs : List Fn) (w0 w : World) (nm : ByteArray) (t : Bool) (hv : SV B w0 (.slice A l.len cap) l) (ht : l.thin) (hs : s.size ≤ 9223372036854775807) (hck : Ck B C M fs w0 w nm t) :
    Calls Try.prog 13 #[.pointer (some ⟨C, 0, none⟩), .agg #[.string s, v, .slice A l.len cap]] w fun e w' => e = .returned (.tuple #[]) ∧ Ck B C M fs w0 w' s (t || l.tells fs (!greatB s)) ∧ Gr C w w' := by
  have hCl := hck.lt
  have HGA := Lib.hid (fun bx => (Gr.set (rb := C) (W := w) 1 (.string s)).alloc bx)
  have HC := Lib.hid (fun bx => (hck.name s).alloc bx)
  have HE := Lib.hid (fun wx tx (h : Ck B C M fs w0 wx s tx) => stmts_any A cap l B C M fs w0 wx s tx hv ht hs h)
  have c1 := fun bx => (hck.alloc bx).c1
  have f1 := fun bx => (hck.alloc bx).fz 1
  clear hv hck
  go_enter Try.func13, Try.ntmps13
  go_wp2_with (go_at_call 18; ((with_reducible refine (HE.out _ _ (HC.out _)).mono ?_); rintro e w2 ⟨rfl, hck2, hg2⟩))
  go_end0
  exact ⟨rfl, hck2, (HGA.out _).trans hg2⟩

def EachF (B C M : Nat) (fs : List Fn) (w0 W : World) (t : Bool) (len : Nat) (A : Option Addr) (l : List Fn) (i : Value) (wr : World) : Prop :=
  ∃ (k : Nat) (r : List Fn) (t1 : Bool) (nm : ByteArray), i = .int .i64 k ∧ k + r.length = len ∧ (∀ f ∈ r, f.thin) ∧ (t || fsTell fs l) = (t1 || fsTell fs r) ∧ (0 < r.length → ∃ b o, A = some ⟨b, o, none⟩ ∧ b < B ∧ FsIn B w0 r b (o + k * 3)) ∧ Ck B C M fs w0 wr nm t1 ∧ Gr C W wr

set_option maxRecDepth 100000 in
set_option maxHeartbeats 4000000 in
theorem each_fn (A : Option Addr) (cap : Nat) (l : List Fn) (B C M : Nat) (fs : List Fn) (w0 W : World) (nm : ByteArray) (t : Bool) (hv : FV B w0 (.slice A l.length cap) l) (ht : ∀ f ∈ l, f.thin) (hck : Ck B C M fs w0 W nm t) :
    Calls Try.prog 14 #[.slice A l.length cap, .func (.func 13) #[.pointer (some ⟨C, 0, none⟩)] #[]] W fun e W' => e = .returned (.tuple #[]) ∧ (∃ nm', Ck B C M fs w0 W' nm' (t || fsTell fs l)) ∧ Gr C W W' := by
  obtain ⟨A1, cap1, e1, hc1, hc2, hrow⟩ := hv
  injection e1 with e2 e3 e4
  subst e2 e4
  clear e3
  obtain ⟨len, hlen⟩ : ∃ len, l.length = len := ⟨_, rfl⟩
  rw [hlen] at hc1 hrow ⊢
  have HL := Lib.hid hlen; clear hlen
  have HC := Lib.hid hck
  have hCl := hck.lt
  clear hck
  go_enter Try.func14, Try.ntmps14
  go_wp2
  go_loopw [8] (fun i wr => EachF B C M fs w0 W t len A l i wr) (fun i _ => len - (intOf i).toNat)
  case atStart => exact ⟨0, l, t, nm, rfl, by have := HL.out; omega, ht, rfl, by simpa [HL.out] using hrow, HC.out, Gr.refl C W⟩
  case round =>
    obtain ⟨k, r, t1, nm1, rfl, hk, hrt, htold, hr1, hck1, hg1⟩ := hrel
    have HT := Lib.hid htold; clear htold
    cases r with
    | nil =>
      have hk0 : k = len := by simpa using hk
      subst hk0
      clear hk hrow hr1
      have HCK := Lib.hid hck1; clear hck1
      go_wp2
      go_end0
      exact ⟨rfl, ⟨_, HCK.out.said (by rw [HT.out, fsTell, Bool.or_false])⟩, hg1⟩
    | cons f r =>
      obtain ⟨b, o, rfl, hb, c0, ⟨v1, c1, h1⟩, ⟨v2, c2, h2⟩, h3, hr⟩ := hr1 (by simp)
      clear hrow hr1
      have hlt : k < len := by simp at hk; omega
      have HK := Lib.hid hk; clear hk
      have d0 := (hck1.base.cell (p := ⟨b, o + k * 3, none⟩) hb).trans c0
      have d1 := (hck1.base.cell (p := ⟨b, o + k * 3 + 1, none⟩) hb).trans c1
      have d2 := (hck1.base.cell (p := ⟨b, o + k * 3 + 2, none⟩) hb).trans c2
      clear c0 c1 c2
      obtain ⟨A6, cap6, rfl, _⟩ := id h1
      obtain ⟨A7, cap7, rfl, _⟩ := id h2
      have hft := hrt f (List.mem_cons_self ..)
      have HE := Lib.hid (fun bx => function_any f.s (.slice A6 f.ps.length cap6) A7 cap7 f.b B C M fs w0 (wr.alloc bx) nm1 t1 h2 hft.2.2.2.2 h3 (hck1.alloc bx))
      have HG1 := Lib.hid hg1
      have HRT := Lib.hid hrt
      clear h1 h2 hg1 hck1 hrt hft
      go_wp2_with (go_at_call 13; ((with_reducible refine (HE.out _).mono ?_); rintro e w2 ⟨rfl, hck2, hg2⟩))
      go_roundw
      case rel => exact ⟨k + 1, r, _, _, by go_num, by have := HK.out; simp at this; omega, fun g hg => HRT.out g (List.mem_cons_of_mem _ hg), by rw [HT.out, fsTell, Bool.or_assoc], fun _ => ⟨b, o, rfl, hb, by rw [show o + (k + 1) * 3 = o + k * 3 + 3 by omega]; exact hr⟩, hck2, (HG1.out.alloc _).trans hg2⟩
      case measure => simp [intOf]; omega

theorem ck_new {B M : Nat} {fs : List Fn} {w0 w1 : World} (h : FMap B M fs w0 w1) (h0 : Below B w0 w1) (hB : B ≤ w1.heap.size) (hM : M < w1.heap.size) : Ck B w1.heap.size M fs w0 (w1.alloc (.cells #[.map (some M), .string ⟨#[]⟩, .bool false] 47)) ⟨#[]⟩ false :=
  ⟨h0.alloc hB _, hB, hM, heap_alloc_new w1 _, h.grown (World.grownBy_alloc w1 _ none) (by simp)⟩
theorem great_none : (!greatB ⟨#[]⟩) = true := rfl
theorem box2 {W : World} {k : Nat} {a b : Value} {t : TypeId} (h : W.heap[k]? = some (.cells #[a, b] t)) : W.cell? ⟨k, 0, none⟩ = some a ∧ W.cell? ⟨k, 1, none⟩ = some b :=
  ⟨(box_cell h 0).trans rfl, (box_cell h 1).trans rfl⟩

set_option maxRecDepth 100000 in
set_option maxHeartbeats 4000000 in
/-- label.Check, at every program. -/
theorem check_in (v : Value) (p : Pg) (w0 w : World) (B : Nat) (h0 : Below B w0 w) (hB : B ≤ w.heap.size) (hv : PgV B w0 v p) (ht2 : ∀ f ∈ p.fs, f.thin) (ht4 : p.m.thin) :
    Calls Try.prog 7 #[v] w fun e w' => e = .returned (.int .i64 (errOf p.tells)) ∧ Below w.heap.size w w' := by
  obtain ⟨A, cap, A', cap', rfl, hf, hm⟩ := hv
  have HB := Lib.hid (fun o => (Below.refl w.heap.size w).alloc (Nat.le_refl _) o)
  have HN : Hid (∀ o, Calls Try.prog 12 #[.slice A p.fs.length cap] (w.alloc o) fun e w' => e = .returned (.map (some (w.heap.size + 1))) ∧ Below (w.heap.size + 1) (w.alloc o) w' ∧ w.heap.size + 1 < w'.heap.size ∧ FMap B (w.heap.size + 1) p.fs w0 w') := Lib.hid (fun o => by
    have := byname_any B w0 (w.alloc o) (h0.alloc hB o) (by simp; omega) p.fs A cap hf
    rwa [World.size_alloc] at this)
  have HF := Lib.hid (fun C M wx tx nm (h : Ck B C M p.fs w0 wx nm tx) => function_any ⟨#[]⟩ (.slice none 0 0) A' cap' p.m B C M p.fs w0 wx nm tx hm ht4 (by decide) h)
  have HE := Lib.hid (fun C M wx tx nm (h : Ck B C M p.fs w0 wx nm tx) => each_fn A cap p.fs B C M p.fs w0 wx nm tx hf ht2 h)
  have H0 := Lib.hid (fun o => h0.alloc hB o)
  obtain ⟨tt, htt⟩ : ∃ tt, p.tells = tt := ⟨_, rfl⟩
  rw [htt]
  have HT := Lib.hid htt
  clear htt hf hm h0
  cases tt
  all_goals
    go_enter Try.func7, Try.ntmps7
    go_wp2_with (first
      | (go_at_call 12; ((with_reducible refine (HN.out _).mono ?_); rintro e w1 ⟨rfl, hb1, hs1, hm1⟩; have hs2 : w.heap.size < w1.heap.size := (by omega); have HK := Lib.hid (ck_new hm1 ((H0.out _).trans (hb1.mono (Nat.le_succ_of_le hB))) (by omega) hs1); have HB1 := Lib.hid hb1; have hbx1 := (hb1.block w.heap.size (by omega)).trans (heap_alloc_new w _); obtain ⟨x0, x1⟩ := box2 hbx1; have HX := Lib.hid hbx1; clear hb1 hm1 hbx1))
      | (go_at_call 13; ((with_reducible refine (HF.out _ _ _ _ _ HK.out).mono ?_); rintro e w2 ⟨rfl, hck2, hg2⟩; have HK2 := Lib.hid hck2; have hbx2 := box_gr ((Below.heap_alloc w1 _ _ hs2).trans HX.out) hg2 (by omega); obtain ⟨x0, x1⟩ := box2 hbx2; clear hbx2 hck2))
      | (go_at_call 14; ((with_reducible refine (HE.out _ _ _ _ _ HK2.out).mono ?_); rintro e w3 ⟨rfl, ⟨nm3, hck3⟩, hg3⟩; have hc3 := (hck3.said (show _ = p.tells by rw [great_none]; simp [Pg.tells])).c2; rw [HT.out] at hc3; clear hck3)))
    go_ret
    exact ⟨rfl, (HB.out _).trans ((HB1.out.mono (Nat.le_succ _)).trans ((((Below.refl _ w1).alloc (Nat.le_refl _) _).mono (by omega)).trans ((hg2.below (by omega) (by simp; omega)).trans (hg3.below (by omega) (by have := hg2.size; simp at this; omega)))))⟩
theorem check_any (v : Value) (p : Pg) (w0 w : World) (B : Nat) (h0 : Below B w0 w) (hB : B ≤ w.heap.size) (hv : PgV B w0 v p) (ht : p.thin) :
    Calls Try.prog 7 #[v] w fun e w' => e = .returned (.int .i64 (errOf p.tells)) ∧ Below w.heap.size w w' := check_in v p w0 w B h0 hB hv ht.1.2 ht.2.2
end Go.Proofs.Ytacleafbjbhcgaa
