/-
  rightParams, rightFuncs, Right.
-/
import Derived.Test.YtnilklgnpfgieaaDoorTreeR
import Derived.Test.YtnilklgnpfgieaaDoorTreeO
namespace Go.Proofs.YtnilklgnpfgieaaDoor
open Go Go.RowKit Go.Shelf

def psOk : List ByteArray → Bool
  | [] => true
  | s :: r => nameB s && psOk r
def paramsB (l : List ByteArray) : Bool := decide (l.length ≤ 8) && psOk l
def fsOk : List Fn → Bool
  | [] => true
  | f :: r => nameB f.s && paramsB f.ps && fsOk r
def funcsB (l : List Fn) : Bool := decide (l.length ≤ 32) && fsOk l

set_option maxHeartbeats 2000000 in
theorem rightParams_any (A : Option Addr) (cap : Nat) (l : List ByteArray) (B : Nat) (w : World) (hv : RowV (PsIn w l) B l.length (.slice A l.length cap)) :
    Calls Tryd.prog 47 #[.slice A l.length cap] w fun e w' => e = .returned (.bool (paramsB l)) ∧ w = w' := by
  obtain ⟨A1, cap1, e1, hc1, hc2, hrow⟩ := hv
  injection e1 with e2 e3 e4
  subst e2 e4
  clear e3
  obtain ⟨len, hlen⟩ : ∃ len, l.length = len := ⟨_, rfl⟩
  have HP : Hid (paramsB l = (decide (len ≤ 8) && psOk l)) := by rw [← hlen]; exact rfl
  rw [hlen] at hc1 hrow ⊢
  have HL := Lib.hid hlen; clear hlen
  by_cases h8 : len ≤ 8
  · go_enter Tryd.func47, Tryd.ntmps47
    go_wp2
    go_loop [10] (fun i => ∃ (k : Nat) (r : List ByteArray), i = .int .i64 k ∧ k + r.length = len ∧ psOk l = psOk r ∧ (0 < r.length → ∃ b o, A = some ⟨b, o, none⟩ ∧ b < B ∧ PsIn w r b (o + k))) (fun i => len - (intOf i).toNat)
    case atStart => exact ⟨0, l, rfl, by have := HL.out; omega, rfl, by simpa [HL.out] using hrow⟩
    case round =>
      obtain ⟨k, r, rfl, hk, ho, hrow'⟩ := hrel
      have HO := Lib.hid ho; clear ho
      cases r with
      | nil =>
        have hk0 : k = len := by simpa using hk
        subst hk0
        clear hk hrow hrow'
        go_wp2
        go_ret
        exact ⟨ret_bool (by rw [HP.out, HO.out, decide_eq_true h8]; rfl), rfl⟩
      | cons s r =>
        obtain ⟨b, o, rfl, hb, c0, hs, hr⟩ := hrow' (by simp)
        clear hrow hrow'
        have hlt : k < len := by simp at hk; omega
        have HK := Lib.hid hk; clear hk
        cases hn : nameB s with
        | true =>
          go_wp2_with (go_at_call 46; ((with_reducible refine (name_any _ _ hs).mono ?_); rintro e w1 ⟨rfl, rfl⟩))
          go_round
          case rel => exact ⟨k + 1, r, by go_num, by have := HK.out; simp at this; omega, by rw [HO.out, psOk, hn]; rfl, fun _ => ⟨b, o, rfl, hb, by rw [show o + (k + 1) = o + k + 1 by omega]; exact hr⟩⟩
          case measure => simp [intOf]; omega
        | false =>
          go_wp2_with (go_at_call 46; ((with_reducible refine (name_any _ _ hs).mono ?_); rintro e w1 ⟨rfl, rfl⟩))
          go_ret
          exact ⟨ret_bool (by rw [HP.out, HO.out, psOk, hn]; simp), rfl⟩
  · have h8' : 8 < len := by omega
    go_enter Tryd.func47, Tryd.ntmps47
    go_wp2
    go_ret
    exact ⟨ret_bool (by rw [HP.out, decide_eq_false h8]; rfl), rfl⟩

set_option maxHeartbeats 4000000 in
theorem rightFuncs_any (A : Option Addr) (cap : Nat) (l : List Fn) (B : Nat) (w : World) (hB : B ≤ w.heap.size) (hv : FV B w (.slice A l.length cap) l) :
    Calls Tryd.prog 28 #[.slice A l.length cap] w fun e w' => e = .returned (.bool (funcsB l)) ∧ Below w.heap.size w w' := by
  obtain ⟨A1, cap1, e1, hc1, hc2, hrow⟩ := hv
  injection e1 with e2 e3 e4
  subst e2 e4
  clear e3
  obtain ⟨len, hlen⟩ : ∃ len, l.length = len := ⟨_, rfl⟩
  have HP : Hid (funcsB l = (decide (len ≤ 32) && fsOk l)) := by rw [← hlen]; exact rfl
  rw [hlen] at hc1 hrow ⊢
  have HL := Lib.hid hlen; clear hlen
  by_cases h8 : len ≤ 32
  · go_enter Tryd.func28, Tryd.ntmps28
    go_wp2
    go_loopw [10] (fun i wr => ∃ (k : Nat) (r : List Fn), i = .int .i64 k ∧ k + r.length = len ∧ fsOk l = fsOk r ∧ (0 < r.length → ∃ b o, A = some ⟨b, o, none⟩ ∧ b < B ∧ FsIn B w r b (o + k * 3)) ∧ Below w.heap.size w wr) (fun i _ => len - (intOf i).toNat)
    case atStart => exact ⟨0, l, rfl, by have := HL.out; omega, rfl, by simpa [HL.out] using hrow, Below.refl _ _⟩
    case round =>
      obtain ⟨k, r, rfl, hk, ho, hrow', hW⟩ := hrel
      have HO := Lib.hid ho; clear ho
      cases r with
      | nil =>
        have hk0 : k = len := by simpa using hk
        subst hk0
        clear hk hrow hrow'
        go_wp2
        go_ret
        exact ⟨ret_bool (by rw [HP.out, HO.out, decide_eq_true h8]; rfl), hW⟩
      | cons f r =>
        obtain ⟨b, o, rfl, hb, c0, ⟨v1, c1, h1⟩, ⟨v2, c2, h2⟩, hs, hr⟩ := hrow' (by simp)
        clear hrow hrow'
        obtain ⟨A6, cap6, rfl, _⟩ := id h1
        obtain ⟨A7, cap7, rfl, _⟩ := id h2
        have hlt : k < len := by simp at hk; omega
        have HK := Lib.hid hk; clear hk
        have hbw : b < w.heap.size := by omega
        have d0 := (hW.cell (p := ⟨b, o + k * 3, none⟩) hbw).trans c0
        have d1 := (hW.cell (p := ⟨b, o + k * 3 + 1, none⟩) hbw).trans c1
        have d2 := (hW.cell (p := ⟨b, o + k * 3 + 2, none⟩) hbw).trans c2
        clear c0 c1 c2 h2
        have HR := fun (W : World) (hb : Below w.heap.size w W) => rightParams_any A6 cap6 f.ps B W (h1.imp (Nat.le_refl _) fun b o hb' hp => PsIn.below (hb.mono hB) hb' hp)
        have hW2 : ∀ o, Below w.heap.size w (wr.alloc o) := fun o => hW.alloc hW.size o
        have HW := Lib.hid hW2
        clear hW2
        cases hn : nameB f.s with
        | true =>
          cases hp : paramsB f.ps with
          | true =>
            go_wp2_with (first
              | (go_at_call 46; ((with_reducible refine (name_any _ _ hs).mono ?_); rintro e w1 ⟨rfl, rfl⟩))
              | (go_at_call 47; ((with_reducible refine (HR _ (HW.out _)).mono ?_); rintro e w1 ⟨rfl, rfl⟩)))
            go_roundw
            case rel => exact ⟨k + 1, r, by go_num, by have := HK.out; simp at this; omega, by rw [HO.out, fsOk, hn, hp]; rfl, fun _ => ⟨b, o, rfl, hb, by rw [show o + (k + 1) * 3 = o + k * 3 + 3 by omega]; exact hr⟩, HW.out _⟩
            case measure => simp [intOf]; omega
          | false =>
            go_wp2_with (first
              | (go_at_call 46; ((with_reducible refine (name_any _ _ hs).mono ?_); rintro e w1 ⟨rfl, rfl⟩))
              | (go_at_call 47; ((with_reducible refine (HR _ (HW.out _)).mono ?_); rintro e w1 ⟨rfl, rfl⟩)))
            go_ret
            exact ⟨ret_bool (by rw [HP.out, HO.out, fsOk, hn, hp]; simp), HW.out _⟩
        | false =>
          go_wp2_with (go_at_call 46; ((with_reducible refine (name_any _ _ hs).mono ?_); rintro e w1 ⟨rfl, rfl⟩))
          go_ret
          exact ⟨ret_bool (by rw [HP.out, HO.out, fsOk, hn]; simp), HW.out _⟩
  · have h8' : 32 < len := by omega
    go_enter Tryd.func28, Tryd.ntmps28
    go_wp2
    go_ret
    exact ⟨ret_bool (by rw [HP.out, decide_eq_false h8]; rfl), Below.refl _ _⟩

/-- What Right tells. -/
def rightN (p : Pg) : Int := if (funcsB p.fs && okL p.pts) = true then (if 64 < deepL p.pts then 3 else 0) else 1

set_option maxHeartbeats 4000000 in
theorem right_any (v : Value) (p : Pg) (w : World) (B : Nat) (hB : B ≤ w.heap.size) (hv : PgV B w v p) (ht : Tab w) :
    Calls Tryd.prog 16 #[v] w fun e w' => e = .returned (.int .i64 (rightN p)) ∧ Below w.heap.size w w' := by
  unfold rightN
  obtain ⟨A, cap, A', cap', rfl, h0, h1⟩ := id hv
  obtain ⟨C, hC⟩ : ∃ C, C = Obj.cells #[.slice A p.fs.length cap, .slice A' p.m.len cap'] 25 := ⟨_, rfl⟩
  have HF := rightFuncs_any A cap p.fs B (w.alloc C) (by simp; omega) (h0.below ((Below.refl _ _).alloc hB _) (Nat.le_refl _))
  have HR := fun (W : World) (hb : Below w.heap.size w W) => allRight_any _ _ _ _ (W.alloc C) (ht.below (hb.alloc hb.size _) ht.1) enters_outer (outer_new W B p A A' cap cap' (Nat.le_trans hB hb.size) (h0.below (hb.mono hB) (Nat.le_refl _)) (h1.below (hb.mono hB) (Nat.le_refl _)) C hC)
  have HD := fun (W : World) (hb : Below w.heap.size w W) => depth_any _ p W B (Nat.le_trans hB hb.size) (hv.below (hb.mono hB) (Nat.le_refl _))
  have hW : Below w.heap.size w (w.alloc C) := (Below.refl _ _).alloc (Nat.le_refl _) _
  subst hC
  simp only [World.size_alloc] at HF
  clear h0 h1 hv
  have g1 : ∀ w1 : World, Below (w.heap.size + 1) (w.alloc (Obj.cells #[.slice A p.fs.length cap, .slice A' p.m.len cap'] 25)) w1 → Below w.heap.size w w1 := fun _ h => hW.trans (h.mono (by omega))
  have G1 := Lib.hid g1
  clear hW g1 ht
  cases hf : funcsB p.fs with
  | false =>
    go_enter Tryd.func16, Tryd.ntmps16
    go_wp2_with (go_at_call 28; ((with_reducible refine HF.mono ?_); rintro e w1 ⟨rfl, hb1⟩))
    go_ret
    exact ⟨rfl, G1.out _ hb1⟩
  | true =>
    cases ho : okL p.pts with
    | false =>
      go_enter Tryd.func16, Tryd.ntmps16
      go_wp2_with (first
        | (go_at_call 28; ((with_reducible refine HF.mono ?_); rintro e w1 ⟨rfl, hb1⟩; obtain ⟨hc1, hf1⟩ := bcell hb1; have hb1' := G1.out _ hb1; have HR1 := HR w1 hb1'))
        | (go_at_call 30; ((with_reducible refine (outer_any _ _ _ _ _ _ _).mono ?_); rintro e w2 ⟨rfl, rfl⟩))
        | (go_at_call 29; ((with_reducible refine HR1.mono ?_); rintro e w3 ⟨rfl, hb3⟩)))
      go_ret
      exact ⟨rfl, (hb1'.alloc hb1'.size _).trans (hb3.mono (by have := hb1'.size; simp; omega))⟩
    | true =>
      obtain ⟨d, hd⟩ : ∃ d, deepL p.pts = d := ⟨_, rfl⟩
      rw [hd] at HD ⊢
      by_cases h64 : 64 < d
      all_goals
        go_enter Tryd.func16, Tryd.ntmps16
        go_wp2_with (first
          | (go_at_call 28; ((with_reducible refine HF.mono ?_); rintro e w1 ⟨rfl, hb1⟩; obtain ⟨hc1, hf1⟩ := bcell hb1; have hb1' := G1.out _ hb1; have HR1 := HR w1 hb1'; have hz1 : w.heap.size < w1.heap.size := (by have := hb1.size; simp at this; omega); have hz2 : w.heap.size < w1.heap.size + 1 := (by omega)))
          | (go_at_call 30; ((with_reducible refine (outer_any _ _ _ _ _ _ _).mono ?_); rintro e w2 ⟨rfl, rfl⟩))
          | (go_at_call 29; ((with_reducible refine HR1.mono ?_); rintro e w3 ⟨rfl, hb3⟩; obtain ⟨hc3, hf3⟩ := bcell hb3; simp only [World.size_alloc] at hc3 hf3; have hb3' : Below w.heap.size w w3 := (hb1'.alloc hb1'.size _).trans (hb3.mono (by have := hb1'.size; simp; omega)); have HD1 := HD w3 hb3'))
          | (go_at_call 31; ((with_reducible refine HD1.mono ?_); rintro e w4 ⟨rfl, hb4⟩)))
        go_ret
        exact ⟨by first | (simp; done) | simp [h64], hb3'.trans (hb4.mono hb3'.size)⟩

end Go.Proofs.YtnilklgnpfgieaaDoor
