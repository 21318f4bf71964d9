/-
  ScopeFull's walk: so many inputs, and arrays, in main or in a function.
-/
import Derived.Test.YtmhngbfpldiinaaDoorSqN
namespace Go.Proofs.YtmhngbfpldiinaaDoor
open Go Go.RowKit Go.Lib

set_option maxRecDepth 100000 in
set_option maxHeartbeats 8000000 in
theorem full_walk (x y : Int) (inner : Bool) (w : World) (ht : Tab w) : Calls Tryd.prog 5 #[.int .i64 x, .int .i64 y, .bool inner] w fun e w' => e = .returned (.bool true) ∧ Below w.heap.size w w' := by
  obtain ⟨D1, hD1, h16a⟩ := and_16 x
  obtain ⟨D2, hD2, h16b⟩ := and_16 y
  obtain ⟨N, hN⟩ : ∃ N, D1 % 101 = N := ⟨_, rfl⟩
  obtain ⟨M, hM⟩ : ∃ M, D2 % 101 = M := ⟨_, rfl⟩
  have hN100 : N ≤ 100 := by omega
  have hM100 : M ≤ 100 := by omega
  have hrN : (D1 : Int) % 101 = (N : Int) := by omega
  have hrM : (D2 : Int) % 101 = (M : Int) := by omega
  have HS := Lib.hid (shown6_any w ht)
  have HT := Lib.hid ht
  obtain ⟨i0, hi, hz0, hz1, hz2⟩ := info_parts stmtInfo
  have HI := Lib.hid hi
  have HZ0 := Lib.hid hz0
  clear ht h16a h16b hN hM hi hz0
  go_enter Tryd.func5, Tryd.ntmps5
  go_wp2_with (go_at_call 10; ((with_reducible refine HS.out.mono ?_); rintro e w1 ⟨rfl, h1⟩))
  rw [hrN, hrM]
  have H1 := Lib.hid h1
  clear hD1 hD2 hrN hrM h1
  go_loopw [8, 9] (fun l i wr => FuRel w1.heap.size N w [] 118 4 0 l i wr) (fun _ i _ => N - (RowKit.intOf i).toNat)
  case atStart => exact ⟨0, rfl, Nat.zero_le _, ⟨rfl, .inl ⟨rfl, rfl⟩⟩, H1.out, Nat.le_refl _⟩
  case round =>
    obtain ⟨k, rfl, hk, hown, hbel, hB⟩ := hrel
    have HO := Lib.hid hown
    have HB := Lib.hid hbel
    obtain ⟨X, cX, rfl⟩ := own_form hown
    simp only [List.length_nil, Nat.zero_add] at HO ⊢
    clear hown hbel
    by_cases hkN : k < N
    · have hlt : decide ((k : Int) < (N : Int)) = true := by simp; omega
      have hA : k / 10 < 10 := by omega
      have hBb : k % 10 < 10 := by omega
      obtain ⟨a, ha⟩ : ∃ a, k / 10 = a := ⟨_, rfl⟩
      obtain ⟨b, hb⟩ : ∃ b, k % 10 = b := ⟨_, rfl⟩
      have qa : (k : Int).tdiv 10 = a := by rw [← ha]; rfl
      have qb : (k : Int).tmod 10 = b := by rw [← hb]; rfl
      have hnm : nmC 118 k = ⟨#[118]⟩ ++ ⟨#[UInt8.ofNat (48 + a), UInt8.ofNat (48 + b)]⟩ := by unfold nmC; rw [ha, hb]
      rw [ha] at hA
      rw [hb] at hBb
      have a1 : IntKind.u8.wrap (a : Int) = a := u8w hA
      have b1 : IntKind.u8.wrap (b : Int) = b := u8w hBb
      have a2 := u8c hA
      have b2 := u8c hBb
      have a3 := u8w48 hA
      have b3 := u8w48 hBb
      obtain ⟨c, hc⟩ : ∃ c, UInt8.ofNat (48 + a) = c := ⟨_, rfl⟩
      obtain ⟨d, hdd⟩ : ∃ c, UInt8.ofNat (48 + b) = c := ⟨_, rfl⟩
      rw [hc] at a2
      rw [hdd] at b2
      rw [hc, hdd] at hnm
      have w64 : wrap64 (a : Int) = a := w64_small (Nat.lt_of_lt_of_le hA (by decide))
      have fA : (48 + wrap64 (a : Int)) % 256 = (c.toNat : Int) := by rw [w64, a2]; exact u8_mod c
      have fA' : (48 + wrap64 (a : Int) % 256) % 256 = (c.toNat : Int) := by rw [Int.add_emod_emod]; exact fA
      have d4 := u8_mod d
      have HNM := Lib.hid hnm
      have HKN := Lib.hid hkN
      have hcv := fun wr => conv_2 wr c d
      clear w64 a2 hA hBb hc hdd ha hb hnm
      go_wp2_with (first
        | (at_builtin; refine wpl_append_own rfl _ _ 23 rfl w1.heap.size 45 i0 _ 6 104 Tryd.underlying23 HI.out HZ0.out hz1 hz2 rfl (by decide) _ (k) _ rfl ((HO.out.alloc _).alloc _) (some ⟨wr.heap.size + 1, 0, none⟩) 1 1 _ rfl (fun h => by cases h) rfl (blk_news (new2 _ _ _)) (fun u hu => by (simp only [List.mem_cons, List.not_mem_nil, or_false] at hu; rcases hu with rfl | rfl | rfl | rfl | rfl | rfl <;> rfl)) (by unfold maxLen; omega) (by omega) (by simp only [World.size_alloc]; omega) ?_; intro v9 w9 hown9 hg9))
      go_roundw
      case rel =>
        have hba : Below wr.heap.size wr ((wr.alloc (.cells #[.int .u8 c.toNat, .int .u8 d.toNat] 5)).alloc (.cells #[.int .i64 4, .string (⟨#[118]⟩ ++ ⟨#[c, d]⟩), .int .i64 0, .slice none 0 0, .slice none 0 0, .slice none 0 0] 45)) := ((Below.refl _ _).alloc (Nat.le_refl _) _).alloc (by simp) _
        have hb9 := (HB.out.trans (hba.mono HB.out.size)).grown hg9 (Nat.le_trans HB.out.size hba.size) (fun q hq => by have := ((HO.out.alloc (.cells #[.int .u8 c.toNat, .int .u8 d.toNat] 5)).alloc (.cells #[.int .i64 4, .string (⟨#[118]⟩ ++ ⟨#[c, d]⟩), .int .i64 0, .slice none 0 0, .slice none 0 0, .slice none 0 0] 45)).lt q hq; have := H1.out.size; omega)
        refine ⟨k + 1, by go_num, by have := HKN.out; omega, ?_, hb9, by have := hg9.size; simp only [World.size_alloc] at this; omega⟩
        rw [stn_step, HNM.out, List.length_nil, Nat.zero_add]
        exact hown9
      case measure => simp [RowKit.intOf]; omega
    · obtain rfl : k = N := by omega
      have hlt : decide ((k : Int) < (k : Int)) = false := by simp
      clear hkN
      obtain ⟨n, hn⟩ : ∃ n, k = n := ⟨_, rfl⟩
      rw [hn] at HO hlt hN100 ⊢
      clear hn hk
      obtain ⟨wq, rfl⟩ : ∃ W, W = wr := ⟨_, rfl⟩
      go_wp2
      go_loopw [8, 10] (fun l i wr => FuRel w1.heap.size M w (stL 118 4 0 n) 97 3 1 l i wr) (fun _ i _ => M - (RowKit.intOf i).toNat)
      case atStart => exact ⟨0, rfl, Nat.zero_le _, by rw [stL_len]; simpa [stL, nmL] using HO.out, HB.out, hB⟩
      case round =>
        obtain ⟨m, rfl, hm, hown, hbel, hB'⟩ := hrel
        have HO := Lib.hid hown
        have HB := Lib.hid hbel
        obtain ⟨X', cX', rfl⟩ := own_form hown
        rw [stL_len] at HO ⊢
        clear hown hbel
        by_cases hkN : m < M
        · have hlt : decide ((m : Int) < (M : Int)) = true := by simp; omega
          have hA : m / 10 < 10 := by omega
          have hBb : m % 10 < 10 := by omega
          obtain ⟨a, ha⟩ : ∃ a, m / 10 = a := ⟨_, rfl⟩
          obtain ⟨b, hb⟩ : ∃ b, m % 10 = b := ⟨_, rfl⟩
          have qa : (m : Int).tdiv 10 = a := by rw [← ha]; rfl
          have qb : (m : Int).tmod 10 = b := by rw [← hb]; rfl
          have hnm : nmC 97 m = ⟨#[97]⟩ ++ ⟨#[UInt8.ofNat (48 + a), UInt8.ofNat (48 + b)]⟩ := by unfold nmC; rw [ha, hb]
          rw [ha] at hA
          rw [hb] at hBb
          have a1 : IntKind.u8.wrap (a : Int) = a := u8w hA
          have b1 : IntKind.u8.wrap (b : Int) = b := u8w hBb
          have a2 := u8c hA
          have b2 := u8c hBb
          have a3 := u8w48 hA
          have b3 := u8w48 hBb
          obtain ⟨c, hc⟩ : ∃ c, UInt8.ofNat (48 + a) = c := ⟨_, rfl⟩
          obtain ⟨d, hdd⟩ : ∃ c, UInt8.ofNat (48 + b) = c := ⟨_, rfl⟩
          rw [hc] at a2
          rw [hdd] at b2
          rw [hc, hdd] at hnm
          have w64 : wrap64 (a : Int) = a := w64_small (Nat.lt_of_lt_of_le hA (by decide))
          have fA : (48 + wrap64 (a : Int)) % 256 = (c.toNat : Int) := by rw [w64, a2]; exact u8_mod c
          have fA' : (48 + wrap64 (a : Int) % 256) % 256 = (c.toNat : Int) := by rw [Int.add_emod_emod]; exact fA
          have d4 := u8_mod d
          have HNM := Lib.hid hnm
          have HKN := Lib.hid hkN
          have hcv := fun wr => conv_2 wr c d
          clear w64 a2 hA hBb hc hdd ha hb hnm
          go_wp2_with (first
            | (at_builtin; refine wpl_append_own rfl _ _ 23 rfl w1.heap.size 45 i0 _ 6 104 Tryd.underlying23 HI.out HZ0.out hz1 hz2 rfl (by decide) _ (n + m) _ rfl ((HO.out.alloc _).alloc _) (some ⟨wr.heap.size + 1, 0, none⟩) 1 1 _ rfl (fun h => by cases h) rfl (blk_news (new2 _ _ _)) (fun u hu => by (simp only [List.mem_cons, List.not_mem_nil, or_false] at hu; rcases hu with rfl | rfl | rfl | rfl | rfl | rfl <;> rfl)) (by unfold maxLen; omega) (by omega) (by simp only [World.size_alloc]; omega) ?_; intro v9 w9 hown9 hg9))
          go_roundw
          case rel =>
            have hba : Below wr.heap.size wr ((wr.alloc (.cells #[.int .u8 c.toNat, .int .u8 d.toNat] 5)).alloc (.cells #[.int .i64 3, .string (⟨#[97]⟩ ++ ⟨#[c, d]⟩), .int .i64 1, .slice none 0 0, .slice none 0 0, .slice none 0 0] 45)) := ((Below.refl _ _).alloc (Nat.le_refl _) _).alloc (by simp) _
            have hb9 := (HB.out.trans (hba.mono HB.out.size)).grown hg9 (Nat.le_trans HB.out.size hba.size) (fun q hq => by have := ((HO.out.alloc (.cells #[.int .u8 c.toNat, .int .u8 d.toNat] 5)).alloc (.cells #[.int .i64 3, .string (⟨#[97]⟩ ++ ⟨#[c, d]⟩), .int .i64 1, .slice none 0 0, .slice none 0 0, .slice none 0 0] 45)).lt q hq; have := H1.out.size; omega)
            refine ⟨m + 1, by go_num, by have := HKN.out; omega, ?_, hb9, by have := hg9.size; simp only [World.size_alloc] at this; omega⟩
            rw [stn_step, HNM.out, stL_len]
            exact hown9
          case measure => simp [RowKit.intOf]; omega
        · obtain rfl : m = M := by omega
          have hlt : decide ((m : Int) < (m : Int)) = false := by simp
          clear hkN
          have hnames := names_ok hN100 hM100
          have hsv : SV wr.heap.size wr (.slice X' (n + m) cX') (ssOf (stVX (nmL 118 n) (nmL 97 m))) := own_sv HO.out (cells_of _ _ (nar_vx n m)) (by rw [ssOf_len]; simp [stVX, nmL_len])
          have HSV := Lib.hid hsv
          have HNS := Lib.hid hnames
          clear hnames hsv
          cases inner with
          | false =>
            go_upto_region 18 with fail
            obtain ⟨W, hW⟩ : ∃ W, wr.alloc (pgO none 0 0 X' (n + m) cX') = W := ⟨_, rfl⟩
            have hbr : Below wr.heap.size wr W := by rw [← hW]; exact (Below.refl _ _).alloc (Nat.le_refl _) _
            have hx : W.heap[wr.heap.size]? = some (pgO none 0 0 X' (n + m) cX') := by rw [← hW]; exact heap_alloc_new _ _
            have c0 : W.cell? ⟨wr.heap.size, 0, none⟩ = some (.slice none 0 0) := (blk_cell hx 0).trans rfl
            have c1 : W.cell? ⟨wr.heap.size, 1, none⟩ = some (.slice X' (n + m) cX') := (blk_cell hx 1).trans rfl
            have hP : PgV W.heap.size W (.agg #[.slice none 0 0, .slice X' (n + m) cX']) (pgM (nmL 118 n) (nmL 97 m)) := pg_main (SV.below HSV.out hbr hbr.size)
            have hbW : Below w.heap.size w W := HB.out.trans (hbr.mono HB.out.size)
            have hR := resolve_p _ _ W hP (HT.out.below hbW HT.out.1) (by simp [Pg.pts, pgM, fsPts, SS.cntL, ssOf_cnt, stVX, nmL_len]; omega)
            rw [pgM_err HNS.out, pgM_res HNS.out] at hR
            rw [hW]
            have HBW := Lib.hid hbW
            clear hW hbr hx hP hbW
            by_cases hn64 : 64 < n
            · have hfull : fullVX (nmL 118 n) (nmL 97 m) = true := by simp [fullVX, nmL_len]; omega
              rw [hfull, if_pos rfl, if_pos rfl] at hR
              have HR := Lib.hid hR
              have t1 : decide ((64 : Int) < (n : Int)) = true := by simp; omega
              have t2 : decide (64 < n) = true := by simp; omega
              clear hR hfull
              go_wp2_with (go_at_call 11; ((with_reducible refine HR.out.mono ?_); rintro e w7 ⟨v7, rfl, h7, hb7⟩; obtain ⟨A7, c7, rfl, -⟩ := h7))
              go_ret
              exact ⟨rfl, HBW.out.trans (hb7.mono HBW.out.size)⟩
            · by_cases hm64 : 64 < m
              · have hfull : fullVX (nmL 118 n) (nmL 97 m) = true := by simp [fullVX, nmL_len]; omega
                rw [hfull, if_pos rfl, if_pos rfl] at hR
                have HR := Lib.hid hR
                have t1 : decide ((64 : Int) < (n : Int)) = false := by simp; omega
                have t2 : decide (64 < n) = false := by simp; omega
                have t3 : decide ((64 : Int) < (m : Int)) = true := by simp; omega
                have t4 : decide (64 < m) = true := by simp; omega
                clear hR hfull
                go_wp2_with (go_at_call 11; ((with_reducible refine HR.out.mono ?_); rintro e w7 ⟨v7, rfl, h7, hb7⟩; obtain ⟨A7, c7, rfl, -⟩ := h7))
                go_ret
                exact ⟨rfl, HBW.out.trans (hb7.mono HBW.out.size)⟩
              · have hfull : fullVX (nmL 118 n) (nmL 97 m) = false := by simp [fullVX, nmL_len]; omega
                rw [hfull, if_neg (by decide), if_neg (by decide)] at hR
                have HR := Lib.hid hR
                have t1 : decide ((64 : Int) < (n : Int)) = false := by simp; omega
                have t2 : decide (64 < n) = false := by simp; omega
                have t3 : decide ((64 : Int) < (m : Int)) = false := by simp; omega
                have t4 : decide (64 < m) = false := by simp; omega
                clear hR hfull
                go_wp2_with (go_at_call 11; ((with_reducible refine HR.out.mono ?_); rintro e w7 ⟨v7, rfl, h7, hb7⟩; obtain ⟨b7, o7, k7, rfl, hb8, p0, p1, ⟨va, p2, hva⟩, ⟨vb, p3, hvb⟩, _⟩ := RowV.get (n := 0) h7; obtain ⟨Aa, ca, rfl, -⟩ := hva; obtain ⟨Ab, cb, rfl, -⟩ := hvb; simp only [nmL_len] at p2 p3))
                go_ret
                exact ⟨rfl, HBW.out.trans (hb7.mono HBW.out.size)⟩
          | true =>
            go_upto_region 18 with fail
            obtain ⟨W, hW⟩ : ∃ W, (wr.alloc (pgO (some ⟨wr.heap.size + 1, 0, none⟩) 1 1 none 0 0)).alloc (fnO ⟨#[102]⟩ (.slice none 0 0) (.slice X' (n + m) cX')) = W := ⟨_, rfl⟩
            have hbr : Below wr.heap.size wr W := by rw [← hW]; exact ((Below.refl _ _).alloc (Nat.le_refl _) _).alloc (by simp) _
            have hx : W.heap[wr.heap.size]? = some (pgO (some ⟨wr.heap.size + 1, 0, none⟩) 1 1 none 0 0) := by rw [← hW]; exact blk_alloc (heap_alloc_new _ _) _
            have hy : W.heap[wr.heap.size + 1]? = some (fnO ⟨#[102]⟩ (.slice none 0 0) (.slice X' (n + m) cX')) := by rw [← hW]; exact new2 _ _ _
            have c0 : W.cell? ⟨wr.heap.size, 0, none⟩ = some (.slice (some ⟨wr.heap.size + 1, 0, none⟩) 1 1) := (blk_cell hx 0).trans rfl
            have c1 : W.cell? ⟨wr.heap.size, 1, none⟩ = some (.slice none 0 0) := (blk_cell hx 1).trans rfl
            have hlw : wr.heap.size < W.heap.size := blk_lt hx
            have hP : PgV W.heap.size W (.agg #[.slice (some ⟨wr.heap.size + 1, 0, none⟩) 1 1, .slice none 0 0]) (pgF (nmL 118 n) (nmL 97 m)) :=
              ⟨_, 1, none, 0, rfl, ⟨_, 1, rfl, Nat.le_refl _, by decide, fun _ => ⟨_, _, rfl, blk_lt hy, (blk_cell hy 0).trans rfl, ⟨_, (blk_cell hy 1).trans rfl, ps_nought _ _⟩, ⟨_, (blk_cell hy 2).trans rfl, SV.below HSV.out hbr hbr.size⟩, (by show (⟨#[102]⟩ : ByteArray).size ≤ _; decide), trivial⟩⟩, sv_nought _ _⟩
            have hbW : Below w.heap.size w W := HB.out.trans (hbr.mono HB.out.size)
            have hR := resolve_p _ _ W hP (HT.out.below hbW HT.out.1) (by simp [Pg.pts, pgF, fsPts, cntL_append, SS.cntL, ssOf_cnt, stVX, nmL_len, SS.cnt]; omega)
            rw [pgF_err HNS.out, pgF_res HNS.out] at hR
            rw [hW]
            have HBW := Lib.hid hbW
            clear hW hbr hx hP hbW hy
            by_cases hn64 : 64 < n
            · have hfull : fullVX (nmL 118 n) (nmL 97 m) = true := by simp [fullVX, nmL_len]; omega
              rw [hfull, if_pos rfl, if_pos rfl] at hR
              have HR := Lib.hid hR
              have t1 : decide ((64 : Int) < (n : Int)) = true := by simp; omega
              have t2 : decide (64 < n) = true := by simp; omega
              clear hR hfull
              go_wp2_with (go_at_call 11; ((with_reducible refine HR.out.mono ?_); rintro e w7 ⟨v7, rfl, h7, hb7⟩; obtain ⟨A7, c7, rfl, -⟩ := h7))
              go_ret
              exact ⟨rfl, HBW.out.trans (hb7.mono HBW.out.size)⟩
            · by_cases hm64 : 64 < m
              · have hfull : fullVX (nmL 118 n) (nmL 97 m) = true := by simp [fullVX, nmL_len]; omega
                rw [hfull, if_pos rfl, if_pos rfl] at hR
                have HR := Lib.hid hR
                have t1 : decide ((64 : Int) < (n : Int)) = false := by simp; omega
                have t2 : decide (64 < n) = false := by simp; omega
                have t3 : decide ((64 : Int) < (m : Int)) = true := by simp; omega
                have t4 : decide (64 < m) = true := by simp; omega
                clear hR hfull
                go_wp2_with (go_at_call 11; ((with_reducible refine HR.out.mono ?_); rintro e w7 ⟨v7, rfl, h7, hb7⟩; obtain ⟨A7, c7, rfl, -⟩ := h7))
                go_ret
                exact ⟨rfl, HBW.out.trans (hb7.mono HBW.out.size)⟩
              · have hfull : fullVX (nmL 118 n) (nmL 97 m) = false := by simp [fullVX, nmL_len]; omega
                rw [hfull, if_neg (by decide), if_neg (by decide)] at hR
                have HR := Lib.hid hR
                have t1 : decide ((64 : Int) < (n : Int)) = false := by simp; omega
                have t2 : decide (64 < n) = false := by simp; omega
                have t3 : decide ((64 : Int) < (m : Int)) = false := by simp; omega
                have t4 : decide (64 < m) = false := by simp; omega
                clear hR hfull
                go_wp2_with (go_at_call 11; ((with_reducible refine HR.out.mono ?_); rintro e w7 ⟨v7, rfl, h7, hb7⟩; obtain ⟨b7, o7, k7, rfl, hb8, _, _, _, _, _, p0, p1, ⟨va, p2, hva⟩, ⟨vb, p3, hvb⟩, _⟩ := RowV.get (n := 1) h7; obtain ⟨Aa, ca, rfl, -⟩ := hva; obtain ⟨Ab, cb, rfl, -⟩ := hvb; simp only [nmL_len] at p2 p3))
                go_ret
                exact ⟨rfl, HBW.out.trans (hb7.mono HBW.out.size)⟩
end Go.Proofs.YtmhngbfpldiinaaDoor
