/-
  TreeParts: the statement's function, walked.
-/
import Derived.Test.YtaedlhjjfmmpdaaDoorTreePp
import Derived.Test.YtaedlhjjfmmpdaaDoorTreeOpsW
namespace Go.Proofs.YtaedlhjjfmmpdaaDoor
open Go Go.RowKit Go.Lib

/-- The box of the program stays, and all that was there. -/
def PB (w1 : World) (g : Nat) (a b : Value) (W : World) : Prop := W.cell? ⟨g, 0, none⟩ = some a ∧ W.cell? ⟨g, 1, none⟩ = some b ∧ Below w1.heap.size w1 W
theorem PB.step {w1 : World} {g : Nat} {a b : Value} {W W' : World} (h : PB w1 g a b w1) (hg : g < w1.heap.size) (hb : Below w1.heap.size w1 W) (hb' : Below W.heap.size W W') : PB w1 g a b W' := by
  have hq := hb.trans (hb'.mono hb.size)
  exact ⟨(hq.cell (p := ⟨g, 0, none⟩) hg).trans h.1, (hq.cell (p := ⟨g, 1, none⟩) hg).trans h.2.1, hq⟩

theorem right_main (l : SS) (A : Option Addr) (k cp : Nat) (w W : World) (hb : Fr w W) (ht : Tab W) (h : SV w.heap.size w (.slice A k cp) l) (hr : rightN ⟨[], l⟩ = 0) :
    Calls Tryd.prog 12 #[.agg #[.slice none 0 0, .slice A k cp]] W fun e w' => e = .returned (.int .i64 0) ∧ Below W.heap.size W w' := by
  obtain ⟨A1, c1, e, _⟩ := id h
  injection e with e1 e2 e3
  subst e1 e2 e3
  have hv : PgV w.heap.size w (.agg #[.slice none 0 0, .slice A l.len cp]) ⟨[], l⟩ := ⟨none, 0, A, cp, rfl, ⟨none, 0, rfl, Nat.le_refl _, by decide, fun h => by simp at h⟩, h⟩
  have := right_any _ _ W _ (Below.size hb) (hv.below hb (Nat.le_refl _)) ht
  rw [hr] at this
  exact this

/-- A print of one expression alone. -/
theorem print_right {op n : Int} {s : ByteArray} {l r : ES} {v : Value} (w W : World) (hb : Fr w W) (ht : Tab W) (hv : EV w.heap.size w v (.cons op n s l .nil)) (hg : GoodE (.cons op n s l r)) :
    Calls Tryd.prog 12 #[.agg #[.slice none 0 0, .slice (some ⟨W.heap.size, 0, none⟩) 1 1]] (W.alloc (.cells #[.int .i64 5, .string ⟨#[]⟩, .int .i64 0, v, .slice none 0 0, .slice none 0 0] 38)) fun e w' => e = .returned (.int .i64 0) ∧ Below (W.heap.size + 1) (W.alloc (.cells #[.int .i64 5, .string ⟨#[]⟩, .int .i64 0, v, .slice none 0 0, .slice none 0 0] 38)) w' := by
  have hF := hb.alloc (.cells #[.int .i64 5, .string ⟨#[]⟩, .int .i64 0, v, .slice none 0 0, .slice none 0 0] 38)
  have hs := sv_one (Blk.new W #[.int .i64 5, .string ⟨#[]⟩, .int .i64 0, v, .slice none 0 0, .slice none 0 0] 38) (EV.below hv hF (Below.size hF)) (sv_nil _ _) (sv_nil _ _) ⟨i64_of (by decide), i64_of (by decide), by decide⟩
  have hp : PgV _ (W.alloc (.cells #[.int .i64 5, .string ⟨#[]⟩, .int .i64 0, v, .slice none 0 0, .slice none 0 0] 38)) (.agg #[.slice none 0 0, .slice (some ⟨W.heap.size, 0, none⟩) 1 1]) ⟨[], .cons 5 ⟨#[]⟩ 0 (.cons op n s l .nil) .nil .nil .nil⟩ := ⟨none, 0, _, _, rfl, ⟨none, 0, rfl, Nat.le_refl _, by decide, fun h => by simp at h⟩, hs⟩
  have := right_any _ _ _ _ (Nat.le_refl _) hp (ht.step ((Below.refl _ _).alloc (Nat.le_refl _) _))
  rw [hg.print, World.size_alloc] at this
  exact this

set_option maxRecDepth 100000 in
set_option maxHeartbeats 2000000 in
theorem tparts_any (p : Pg) (A : Option Addr) (cap : Nat) (X : Option Addr) (capx : Nat) (n : Int) (N k : Nat) (w : World) (hN : bits BinOp.and IntKind.i64 n 65535 = (N : Int)) (hk : (N : Int) % ((p.m.len : Int) + 1) = (k : Int)) (hkl : k ≤ p.m.len)
    (hF : FV w.heap.size w (.slice A p.fs.length cap) p.fs) (hM : SV w.heap.size w (.slice X p.m.len capx) p.m) (hc : cntL p.pts ≤ 2000000) (ht : Tab w) :
    Calls Tryd.prog 4 #[.agg #[.slice A p.fs.length cap, .slice X p.m.len capx], .int .i64 n] w fun e w' => e = .returned (.bool true) ∧ Below w.heap.size w w' := by
  have h0 := Fr.refl w
  have hW : ∀ C, Fr w (w.alloc C) := fun C => h0.alloc C
  have HW := Lib.hid hW; clear hW
  have HT := Lib.hid (fun W (hb : Fr w W) => ht.step hb)
  clear ht
  have hml : p.m.len ≤ 2000000 := by
    have h1 := SS.len_le p.m
    simp only [Pg.pts, cntL_append, SS.cntL] at hc
    omega
  have hpv : PgV w.heap.size w (.agg #[.slice A p.fs.length cap, .slice X p.m.len capx]) p := ⟨A, cap, X, capx, rfl, hF, hM⟩
  have hfv : PgV w.heap.size w (.agg #[.slice A p.fs.length cap, .slice none 0 0]) ⟨p.fs, .nil⟩ := ⟨A, cap, none, 0, rfl, hF, sv_nil _ _⟩
  have hTK := SV.take hM hkl
  obtain ⟨A1, cap1, e1, hc1, hc2, hrowF⟩ := id hF
  injection e1 with e2 e3 e4
  subst e2 e4
  clear e3
  obtain ⟨X1, capx1, e1, hx1, hx2, hrowM⟩ := id hM
  injection e1 with e2 e3 e4
  subst e2 e4
  clear e3
  go_enter Tryd.func4, Tryd.ntmps4
  go_upto_region 2 with (go_at_call 11; ((with_reducible refine (shown_fr _ _ (HT.out _ (HW.out _)) (Fr.refl _)).mono ?_); rintro e w1 ⟨rfl, h1⟩))
  obtain ⟨g, hg⟩ : ∃ g, w.heap.size = g := ⟨_, rfl⟩
  have hz1 : g < w1.heap.size := by have := h1.size; simp at this; omega
  obtain ⟨nf, hnf⟩ : ∃ nf, p.fs.length = nf := ⟨_, rfl⟩
  obtain ⟨nm, hnm⟩ : ∃ nm, p.m.len = nm := ⟨_, rfl⟩
  rw [hnf] at hpv hfv hc1 hrowF
  rw [hnm] at hpv hk hkl hml hx1 hrowM
  have h1' := h1
  rw [hnf, hnm] at h1'
  have b0 : w1.cell? ⟨g, 0, none⟩ = some (.slice A nf cap) := by
    rw [← hg]
    exact (h1'.cell (p := ⟨w.heap.size, 0, none⟩) (show w.heap.size < _ by simp)).trans (cell_new w _ _ 0)
  have b1 : w1.cell? ⟨g, 1, none⟩ = some (.slice X nm capx) := by
    rw [← hg]
    exact (h1'.cell (p := ⟨w.heap.size, 1, none⟩) (show w.heap.size < _ by simp)).trans (cell_new w _ _ 1)
  have hF1 : Fr w w1 := (HW.out _).trans (Below.mono h1 (by simp))
  have hB : w.heap.size ≤ w1.heap.size := hF1.size
  have hPB : PB w1 g (.slice A nf cap) (.slice X nm capx) w1 := ⟨b0, b1, Below.refl _ _⟩
  have K : ∀ {f : FuncId} {args : Array Value} {r : Value}, (∀ W, Below w1.heap.size w1 W → Calls Tryd.prog f args W fun e w' => e = .returned r ∧ Below W.heap.size W w') → ∀ W, Below w1.heap.size w1 W → Calls Tryd.prog f args W fun e w' => e = .returned r ∧ PB w1 g (.slice A nf cap) (.slice X nm capx) w' :=
    fun h W hb => (h W hb).mono fun e w' ⟨he, hb'⟩ => ⟨he, hPB.step hz1 hb hb'⟩
  have FW : ∀ W, Below w1.heap.size w1 W → Fr w W := fun W hb => hF1.trans (hb.mono hB)
  have HR := K fun W hb => right_any _ p W _ (Nat.le_trans hB hb.size) (hpv.below (FW W hb) (Nat.le_refl _)) (HT.out W (FW W hb))
  simp only [hg]
  have hZ : Below w1.heap.size w1 w1 := Below.refl _ _
  by_cases hr : rightN p = 0
  · obtain ⟨gS, gF, gN⟩ := right_good hr hc
    have hdp := (rightN_ok hr).2.2
    rw [hr] at HR
    have HRf := K fun W hb => right_any _ (⟨p.fs, .nil⟩ : Pg) W _ (Nat.le_trans hB hb.size) (hfv.below (FW W hb) (Nat.le_refl _)) (HT.out W (FW W hb))
    rw [gN] at HRf
    have HRk := K fun W hb => right_main _ X k capx w W (FW W hb) (HT.out W (FW W hb)) hTK (GoodS.take k gS).right
    have HD := K fun W hb => depth_any _ p W _ (Nat.le_trans hB hb.size) (hpv.below (FW W hb) (Nat.le_refl _))
    obtain ⟨d, hd⟩ : ∃ d, deepL p.pts = d := ⟨_, rfl⟩
    rw [hd] at HD hdp
    clear hd hpv hfv
    have hd64 : decide (64 < d) = false := decide_eq_false (by omega)
    have KM : ∀ (l : SS) (A' : Option Addr) (k' cp : Nat), SV w.heap.size w (.slice A' k' cp) l → GoodS l → ∀ W, Below w1.heap.size w1 W → Calls Tryd.prog 12 #[.agg #[.slice none 0 0, .slice A' k' cp]] W fun e w' => e = .returned (.int .i64 0) ∧ PB w1 g (.slice A nf cap) (.slice X nm capx) w' :=
      fun l A' k' cp hl hgd => K fun W hb => right_main l A' k' cp w W (FW W hb) (HT.out W (FW W hb)) hl hgd.right
    have KMh := Lib.hid KM
    have KH := Lib.hid (fun W hb => HT.out W (FW W hb))
    have FWh := Lib.hid FW
    clear KM K FW HT
    unfold PB at HR HRf HRk HD
    have hwn : IntKind.i64.wrap ((nm : Int) + 1) = (nm : Int) + 1 := IntWalk.i64_in _ (by omega)
    have hnn : (0 : Int) ≤ (nm : Int) + 1 := by omega
    have hkc : k ≤ capx := by omega
    have hkz : k ≤ 9223372036854775807 := by omega
    go_wp2_with (first
      | (go_at_call 12; ((with_reducible refine (HR _ hZ).mono ?_); clear HR; rintro e w2 ⟨rfl, y0, y1, y2⟩))
      | (go_at_call 12; ((with_reducible refine (HRk _ y2).mono ?_); rintro e w3 ⟨rfl, z0, z1, z2⟩))
      | (go_at_call 12; ((with_reducible refine (HRf _ z2).mono ?_); rintro e w4 ⟨rfl, u0, u1, u2⟩))
      | (go_at_call 14; ((with_reducible refine (HD _ u2).mono ?_); rintro e w5 ⟨rfl, t0, t1, t2⟩)))
    have hPB5 : PB w1 g (.slice A nf cap) (.slice X nm capx) w5 := ⟨t0, t1, t2⟩
    clear HRk HRf HD y0 y1 y2 z0 z1 z2 u0 u1 u2 t0 t1 t2 hd64 hdp hwn hnn hkc
    go_loopw [6] (fun i wr => ∃ (j : Nat) (r : List Fn), i = .int .i64 j ∧ j + r.length = nf ∧ GoodF r ∧ (0 < r.length → ∃ b o, A = some ⟨b, o, none⟩ ∧ b < w.heap.size ∧ FsIn w.heap.size w r b (o + j * 3)) ∧ PB w1 g (.slice A nf cap) (.slice X nm capx) wr) (fun i _ => nf - (intOf i).toNat)
    case atStart => exact ⟨0, p.fs, rfl, by omega, gF, by simpa [hnf] using hrowF, hPB5⟩
    case round =>
      clear hPB5
      obtain ⟨j, r, rfl, hj, hgf, hr1, hpb⟩ := hrel
      obtain ⟨q0, q1, hWr⟩ := id hpb
      have hfr := FWh.out wr hWr
      cases r with
      | cons f r =>
        obtain ⟨b, o, rfl, hb, c0, ⟨v1, c1, h3⟩, ⟨v2, c2, h4⟩, h6, hrr⟩ := hr1 (by simp)
        clear hrowF hr1
        obtain ⟨A7, cap7, rfl, _⟩ := id h4
        have hlt : j < nf := by simp at hj; omega
        have d2 := (hfr.cell (p := ⟨b, o + j * 3 + 2, none⟩) hb).trans c2
        have HX := KMh.out f.b A7 f.b.len cap7 h4 hgf.1 wr hWr
        clear c0 c1 c2 h3 h4
        have HJ := Lib.hid hj; clear hj
        go_wp2_with (go_at_call 12; ((with_reducible refine HX.mono ?_); rintro e w6 ⟨rfl, hpb6⟩))
        go_roundw
        case rel => exact ⟨j + 1, r, by go_num, by have := HJ.out; simp at this; omega, hgf.2, fun _ => ⟨b, o, rfl, hb, by rw [show o + (j + 1) * 3 = o + j * 3 + 3 by omega]; exact hrr⟩, hpb6⟩
        case measure => simp [intOf]; omega
      | nil =>
        have hj0 : j = nf := by simpa using hj
        subst hj0
        clear hj hrowF hr1 hgf
        have hPB6 := hpb
        clear hpb
        go_wp2_with fail
        go_loopw [7] (fun i wr => ∃ (j2 : Nat) (r : SS), i = .int .i64 j2 ∧ j2 + r.len = nm ∧ GoodS r ∧ (0 < r.len → ∃ b o, X = some ⟨b, o, none⟩ ∧ b < w.heap.size ∧ r.In w.heap.size w b (o + j2 * 6)) ∧ PB w1 g (.slice A j cap) (.slice X nm capx) wr) (fun i _ => nm - (intOf i).toNat)
        case atStart => exact ⟨0, p.m, rfl, by omega, gS, by simpa [hnm] using hrowM, hPB6⟩
        case round =>
          clear hPB6 q0 q1 hWr hfr
          obtain ⟨j2, r, rfl, hj, hgs, hr1, hpb⟩ := hrel
          obtain ⟨q0, q1, hWr⟩ := id hpb
          have hfr := FWh.out wr hWr
          cases r with
          | nil =>
            have hj0 : j2 = nm := by simpa [SS.len] using hj
            subst hj0
            clear hj hrowM hr1
            go_wp2
            go_ret
            exact ⟨rfl, hfr⟩
          | cons op s n l x y r =>
            obtain ⟨b, o, rfl, hb, c0, c1, c2, ⟨v3, c3, h3⟩, ⟨v4, c4, h4⟩, ⟨v5, c5, h5⟩, h6, hrr⟩ := hr1 (by simp [SS.len])
            clear hrowM hr1
            obtain ⟨A6, cap6, rfl, hn1, hn2, hrowE⟩ := id h3
            obtain ⟨A7, cap7, rfl, _⟩ := id h4
            obtain ⟨A8, cap8, rfl, _⟩ := id h5
            have hlt : j2 < nm := by simp [SS.len] at hj; omega
            have hbz : b < wr.heap.size := Nat.lt_of_lt_of_le hb hfr.size
            have d0 := (hfr.cell (p := ⟨b, o + j2 * 6, none⟩) hb).trans c0
            have d1 := (hfr.cell (p := ⟨b, o + j2 * 6 + 1, none⟩) hb).trans c1
            have d2 := (hfr.cell (p := ⟨b, o + j2 * 6 + 2, none⟩) hb).trans c2
            have d3 := (hfr.cell (p := ⟨b, o + j2 * 6 + 3, none⟩) hb).trans c3
            have d4 := (hfr.cell (p := ⟨b, o + j2 * 6 + 4, none⟩) hb).trans c4
            have d5 := (hfr.cell (p := ⟨b, o + j2 * 6 + 5, none⟩) hb).trans c5
            clear c0 c1 c2 c3 c4 c5
            have HJ := Lib.hid hj; clear hj
            obtain ⟨gE, gX, gY, gR⟩ := hgs.cons
            have HX := fun W (hb : Below w1.heap.size w1 W) => right_main x A7 x.len cap7 w W (FWh.out W hb) (KH.out W hb) h4 gX.right
            have HY := fun W (hb : Below w1.heap.size w1 W) => right_main y A8 y.len cap8 w W (FWh.out W hb) (KH.out W hb) h5 gY.right
            have hWa : ∀ C, Below w1.heap.size w1 (wr.alloc C) := fun C => hWr.alloc hWr.size C
            have HWA := Lib.hid hWa
            have HX2 := fun C => HX _ (hWa C)
            simp only [World.size_alloc] at HX2
            clear hWa HX h3 h4 h5 hgs
            obtain ⟨ne, hne⟩ : ∃ ne, l.len = ne := ⟨_, rfl⟩
            rw [hne] at d3 hn1 hrowE
            have hgz1 : g < wr.heap.size := Nat.lt_of_lt_of_le hz1 hWr.size
            go_wp2_with (first
              | (go_at_call 12; ((with_reducible refine (HX2 _).mono ?_); rintro e w6 ⟨rfl, hb6⟩; obtain ⟨hc6, hf6⟩ := bcell hb6; have hs6 : wr.heap.size < w6.heap.size := (by have := hb6.size; simp at this; omega); have hg6 : g < w6.heap.size := (Nat.lt_trans hgz1 hs6); have hq6 := (HWA.out _).trans (hb6.mono (by have := hWr.size; omega)); have HY2 := HY w6 hq6))
              | (go_at_call 12; ((with_reducible refine HY2.mono ?_); clear HY2; rintro e w7 ⟨rfl, hb7⟩; obtain ⟨hc7, hf7⟩ := bcell hb7)))
            have x3 : w7.cell? ⟨wr.heap.size, 3, none⟩ = some (.slice A6 ne cap6) := by rw [hc7 _ _ hs6, hc6 _ _ (Nat.lt_succ_self _), cell_new]; rfl
            have hq7 : Below w1.heap.size w1 w7 := hq6.trans (hb7.mono hq6.size)
            have hs7 : wr.heap.size < w7.heap.size := Nat.lt_of_lt_of_le hs6 hb7.size
            obtain ⟨gs, hgs⟩ : ∃ gs, wr.heap.size = gs := ⟨_, rfl⟩
            rw [hgs] at x3 hs7
            simp only [hgs]
            have HQ7 := Lib.hid hq7
            clear hgs hc6 hf6 hc7 hf7 hb6 hb7 hq6 hq7 HX2 HY hgz1 hg6 hs6 d0 d1 d2 d3 d4 d5 q0 q1
            go_loopw [9] (fun i wq => ∃ (j3 : Nat) (e : ES), i = .int .i64 j3 ∧ j3 + e.len = ne ∧ GoodE e ∧ (0 < e.len → ∃ b o, A6 = some ⟨b, o, none⟩ ∧ b < w.heap.size ∧ e.In w.heap.size w b (o + j3 * 4)) ∧ Below w7.heap.size w7 wq) (fun i _ => ne - (intOf i).toNat)
            case atStart => exact ⟨0, l, rfl, by omega, gE, by simpa [hne] using hrowE, Below.refl _ _⟩
            case round =>
              obtain ⟨j3, e, rfl, hj, hge, hr1, hWq⟩ := hrel
              have m3 := (hWq.cell (p := ⟨gs, 3, none⟩) hs7).trans x3
              have hgq : gs < wr.heap.size := Nat.lt_of_lt_of_le hs7 hWq.size
              have hqq : Below w1.heap.size w1 wr := HQ7.out.trans (hWq.mono HQ7.out.size)
              have HQQ := Lib.hid hqq
              cases e with
              | nil =>
                have hj0 : j3 = ne := by simpa [ES.len] using hj
                subst hj0
                clear hj hr1 hrowE
                go_wp2
                go_roundw
                case rel => exact ⟨j2 + 1, r, by go_num, by have := HJ.out; simp [SS.len] at this; omega, gR, fun _ => ⟨b, o, rfl, hb, by rw [show o + (j2 + 1) * 6 = o + j2 * 6 + 6 by omega]; exact hrr⟩, hPB.step hz1 hqq (Below.refl _ _)⟩
                case measure => simp [intOf]; omega
              | cons op3 n3 s3 l3 e3 =>
                obtain ⟨b3, o3, rfl, hb3, k0, k1, k2, k3, k6, krr⟩ := hr1 (by simp [ES.len])
                clear hr1 hrowE
                have hlt3 : j3 < ne := by simp [ES.len] at hj; omega
                have hcc : ¬ cap6 = j3 := by omega
                have hcc1 : j3 + 1 ≤ cap6 := by omega
                have hev : EV w.heap.size w (.slice (some ⟨b3, o3 + j3 * 4, none⟩) 1 (cap6 - j3)) (.cons op3 n3 s3 l3 .nil) := ⟨_, _, rfl, by simp [ES.len]; omega, by omega, fun _ => ⟨b3, o3 + j3 * 4, rfl, hb3, k0, k1, k2, k3, k6, trivial⟩⟩
                have HP := print_right w wr (FWh.out _ hqq) (KH.out _ hqq) hev hge
                have hgr := hge.rest
                clear hqq hev hge k0 k1 k2 k3 k6
                have HJ3 := Lib.hid hj; clear hj
                go_wp2_with (go_at_call 12; ((with_reducible refine HP.mono ?_); rintro e w9 ⟨rfl, hb9⟩))
                go_roundw
                case rel => exact ⟨j3 + 1, e3, by go_num, by have := HJ3.out; simp [ES.len] at this; omega, hgr, fun _ => ⟨b3, o3, rfl, hb3, by rw [show o3 + (j3 + 1) * 4 = o3 + j3 * 4 + 4 by omega]; exact krr⟩, (hWq.alloc hWq.size _).trans (hb9.mono (by have := hWq.size; omega))⟩
                case measure => simp [intOf]; omega
  · have hrn : (rightN p != 0) = true := by rw [bne_iff_ne]; exact hr
    obtain ⟨rn, hrn2⟩ : ∃ rn, rightN p = rn := ⟨_, rfl⟩
    rw [hrn2] at HR hrn
    clear hr hrn2
    go_wp2_with (go_at_call 12; ((with_reducible refine (HR _ hZ).mono ?_); rintro e w2 ⟨rfl, y0, y1, y2⟩))
    go_ret
    exact ⟨rfl, hF1.trans (y2.mono hB)⟩

theorem tparts_walk (p : Pg) (A : Option Addr) (cap : Nat) (X : Option Addr) (capx : Nat) (n : Int) (w : World)
    (hF : FV w.heap.size w (.slice A p.fs.length cap) p.fs) (hM : SV w.heap.size w (.slice X p.m.len capx) p.m) (hc : cntL p.pts ≤ 2000000) (ht : Tab w) :
    Calls Tryd.prog 4 #[.agg #[.slice A p.fs.length cap, .slice X p.m.len capx], .int .i64 n] w fun e w' => e = .returned (.bool true) ∧ Below w.heap.size w w' := by
  obtain ⟨N, hN, _⟩ := and_16 n
  exact tparts_any p A cap X capx n N (N % (p.m.len + 1)) w hN (by simp) (Nat.lt_succ_iff.1 (Nat.mod_lt _ (Nat.succ_pos _))) hF hM hc ht

end Go.Proofs.YtaedlhjjfmmpdaaDoor
