/-
  Layer 6's statements: two lists of names; the place of a function, and of a name.
-/
import Derived.Test.YtaajolemjgdfnaaDoorSpL
namespace Go.Proofs.YtaajolemjgdfnaaDoor
open Go Go.RowKit Go.Lib

/-- The place of a name in a list, or -1. -/
def slotP (l : List ByteArray) (s : ByteArray) : Int := if s ∈ l then ((l.findIdx fun x => decide (x = s) : Nat) : Int) else -1
def slotN : List ByteArray → ByteArray → Nat → Int
  | [], _, _ => -1
  | x :: r, s, k => if s = x then (k : Int) else slotN r s (k + 1)
theorem slotN_eq (s : ByteArray) : ∀ (l : List ByteArray) (k : Nat), slotN l s k = if s ∈ l then ((k + l.findIdx (fun x => decide (x = s)) : Nat) : Int) else -1
  | [], k => by simp [slotN]
  | x :: r, k => by
    unfold slotN
    by_cases h : s = x
    · subst h; simp [List.findIdx_cons]
    · rw [if_neg h, slotN_eq s r (k + 1), List.findIdx_cons]
      simp only [List.mem_cons, h, false_or, Ne.symm h, decide_false, cond_false]
      split <;> simp <;> omega
theorem slotP_eq (l : List ByteArray) (s : ByteArray) : slotP l s = slotN l s 0 := by rw [slotN_eq]; unfold slotP; simp

set_option maxRecDepth 100000 in
set_option maxHeartbeats 1000000 in
theorem index_any (B : Nat) (v : Value) (l : List ByteArray) (s : ByteArray) (w0 w : World) (hb : Below B w0 w) (hv : RowV (PsIn w0 l) B l.length v) :
    Calls Tryd.prog 21 #[v, .string s] w fun e w' => e = .returned (.int .i64 (slotP l s)) ∧ w = w' := by
  rw [slotP_eq]
  obtain ⟨A, cap, rfl, hc1, hc2, hrow⟩ := hv
  obtain ⟨len, hlen⟩ : ∃ len, l.length = len := ⟨_, rfl⟩
  rw [hlen] at hc1 hrow ⊢
  have HL := Lib.hid hlen; clear hlen
  have HB := Lib.hid hb; clear hb
  go_enter Tryd.func21, Tryd.ntmps21
  go_wp2
  go_loop [8] (fun i => ∃ (k : Nat) (r : List ByteArray), i = .int .i64 k ∧ k + r.length = len ∧ slotN l s 0 = slotN r s k ∧ (0 < r.length → ∃ b o, A = some ⟨b, o, none⟩ ∧ b < B ∧ PsIn w0 r b (o + k))) (fun i => len - (intOf i).toNat)
  case atStart => exact ⟨0, l, rfl, by have := HL.out; omega, rfl, by simpa [HL.out] using hrow⟩
  case round =>
    obtain ⟨k, r, rfl, hk, ho, hr1⟩ := hrel
    have HO := Lib.hid ho; clear ho
    cases r with
    | nil =>
      have hk0 : k = len := by simpa using hk
      subst hk0
      clear hk hr1 hrow
      go_wp2
      go_ret
      exact ⟨by rw [HO.out]; rfl, rfl⟩
    | cons x r =>
      have hlt : k < len := by simp at hk; omega
      obtain ⟨b, o, rfl, hb, c0, hxs, hr⟩ := hr1 (by simp)
      clear hr1 hrow
      have d0 := (HB.out.cell (p := ⟨b, o + k, none⟩) hb).trans c0
      have HK := Lib.hid hk
      clear hk c0
      by_cases h : s = x
      · subst h
        go_wp2
        go_ret
        exact ⟨by rw [HO.out]; unfold slotN; rw [if_pos rfl]; rfl, rfl⟩
      · have h1 : (s.toList == x.toList) = false := by
          rw [ByteArray.toList_eq, ByteArray.toList_eq]
          simpa using fun e => h (bs_eq e)
        have H := Lib.hid h
        clear h
        go_wp2
        go_round
        case rel => exact ⟨k + 1, r, by go_num, by have := HK.out; simp at this; omega, by rw [HO.out]; conv => lhs; unfold slotN; rw [if_neg H.out], fun _ => ⟨b, o, rfl, hb, by rw [show o + (k + 1) = o + k + 1 by omega]; exact hr⟩⟩
        case measure => simp [intOf]; omega
set_option maxHeartbeats 1000000 in
theorem slot_any (B : Nat) (v : Value) (l : List ByteArray) (s : ByteArray) (w0 w : World) (hb : Below B w0 w) (hv : RowV (PsIn w0 l) B l.length v) :
    Calls Tryd.prog 10 #[v, .string s] w fun e w' => e = .returned (.int .i64 (slotP l s)) ∧ w = w' := by
  have HI := Lib.hid (index_any B v l s w0 w hb hv)
  obtain ⟨A, cap, rfl, _⟩ := hv
  go_enter Tryd.func10, Tryd.ntmps10
  go_wp2_with (go_at_call 21; ((with_reducible refine HI.out.mono ?_); rintro e w1 ⟨rfl, rfl⟩))
  go_ret
  exact ⟨rfl, rfl⟩

theorem drewN_b (w : World) (n : Nat) : Below w.heap.size w (w.drewN n) := ⟨rfl, rfl, rfl, Nat.le_refl _, fun _ _ => rfl⟩
def SmRel (B : Nat) (w0 w : World) (n : Nat) (l m : List ByteArray) (A A' : Option Addr) (i : Value) (wr : World) : Prop :=
  ∃ (k : Nat) (r t : List ByteArray), i = .int .i64 k ∧ k + r.length = n ∧ k + t.length = n ∧ decide (l = m) = decide (r = t) ∧ (0 < r.length → ∃ b o, A = some ⟨b, o, none⟩ ∧ b < B ∧ PsIn w0 r b (o + k)) ∧ (0 < t.length → ∃ b o, A' = some ⟨b, o, none⟩ ∧ b < B ∧ PsIn w0 t b (o + k)) ∧ Below w.heap.size w wr
set_option maxRecDepth 100000 in
set_option maxHeartbeats 2000000 in
theorem same_any (B : Nat) (v v' : Value) (l m : List ByteArray) (w0 w : World) (hb : Below B w0 w) (hB : B ≤ w.heap.size) (hv : RowV (PsIn w0 l) B l.length v) (hv' : RowV (PsIn w0 m) B m.length v') :
    Calls Tryd.prog 12 #[v, v'] w fun e w' => e = .returned (.bool (decide (l = m))) ∧ Below w.heap.size w w' := by
  obtain ⟨A, cap, rfl, hc1, hc2, hrow⟩ := hv
  obtain ⟨A', cap', rfl, hc1', hc2', hrow'⟩ := hv'
  by_cases hlm : l.length = m.length
  · obtain ⟨n, hn⟩ : ∃ n, l.length = n := ⟨_, rfl⟩
    have hm : m.length = n := hlm.symm.trans hn
    rw [hn] at hc1 hrow ⊢
    rw [hm] at hc1' hrow' ⊢
    have HN := Lib.hid hn
    have HM := Lib.hid hm
    have HB := Lib.hid hb
    clear hlm hn hm hb
    go_enter Tryd.func12, Tryd.ntmps12
    go_wp2
    go_loopw [5] (fun i wr => SmRel B w0 w n l m A A' i wr) (fun i _ => n - (intOf i).toNat)
    case atStart => exact ⟨0, l, m, rfl, by have := HN.out; omega, by have := HM.out; omega, rfl, by simpa [HN.out] using hrow, by simpa [HM.out] using hrow', Below.refl _ _⟩
    case round =>
      obtain ⟨k, r, t, rfl, hk, hk', he, h1, h2, hbel⟩ := hrel
      have HE := Lib.hid he
      have HBL := Lib.hid hbel
      cases r with
      | nil =>
        have hk0 : k = n := by simpa using hk
        subst hk0
        have ht : t = [] := by cases t with | nil => rfl | cons _ _ => simp at hk'
        subst ht
        clear hk hk' he h1 h2 hbel hrow hrow'
        go_wp2
        go_ret
        exact ⟨by rw [HE.out]; rfl, HBL.out⟩
      | cons x r =>
        cases t with
        | nil => simp at hk hk'; omega
        | cons y t =>
          have hlt : k < n := by simp at hk; omega
          obtain ⟨b, o, rfl, hb, c0, hxs, hr⟩ := h1 (by simp)
          obtain ⟨b', o', rfl, hb', c0', hys, hr'⟩ := h2 (by simp)
          have d0 := (HB.out.cell (p := ⟨b, o + k, none⟩) hb).trans c0
          have d0' := (HB.out.cell (p := ⟨b', o' + k, none⟩) hb').trans c0'
          have e0 := (hbel.cell (p := ⟨b, o + k, none⟩) (by simp only; omega)).trans d0
          have e0' := (hbel.cell (p := ⟨b', o' + k, none⟩) (by simp only; omega)).trans d0'
          have HK := Lib.hid hk
          have HK' := Lib.hid hk'
          clear hk hk' he h1 h2 c0 c0' d0 d0' hrow hrow' hbel
          by_cases hxy : x = y
          · subst hxy
            go_wp2
            go_quiet (fail)
            go_wp2
            go_roundw
            case rel => exact ⟨k + 1, r, t, by go_num, by have := HK.out; simp at this; omega, by have := HK'.out; simp at this; omega, by rw [HE.out]; simp, fun _ => ⟨b, o, rfl, hb, by rw [show o + (k + 1) = o + k + 1 by omega]; exact hr⟩, fun _ => ⟨b', o', rfl, hb', by rw [show o' + (k + 1) = o' + k + 1 by omega]; exact hr'⟩, HBL.out.trans ((drewN_b _ _).mono HBL.out.size)⟩
            case measure => simp [intOf]; omega
          · have h1 : (x.toList == y.toList) = false := by
              rw [ByteArray.toList_eq, ByteArray.toList_eq]
              simpa using fun e => hxy (bs_eq e)
            have h2 : (x.toList != y.toList) = true := by rw [bne, h1]; rfl
            have H := Lib.hid hxy
            clear hxy
            go_wp2
            go_quiet (fail)
            go_wp2
            go_ret
            exact ⟨by rw [HE.out]; simp [H.out], HBL.out.trans ((drewN_b _ _).mono HBL.out.size)⟩
  · have hne : decide (l = m) = false := decide_eq_false fun e => hlm (by rw [e])
    have h1 : ((l.length : Int) != (m.length : Int)) = true := by simp; omega
    rw [hne]
    have H := Lib.hid hne
    clear hne
    go_enter Tryd.func12, Tryd.ntmps12
    go_wp2
    go_ret
    exact ⟨rfl, Below.refl _ _⟩

/-- The place of a function of a name, or -1: main is none. -/
def findN : List Sp → ByteArray → Nat → Int
  | [], _, _ => -1
  | x :: r, s, k => if 0 < k ∧ x.s = s then (k : Int) else findN r s (k + 1)
def FdRel (B : Nat) (w : World) (n : Nat) (l : List Sp) (s : ByteArray) (A : Option Addr) (i : Value) (wr : World) : Prop :=
  ∃ (k : Nat) (r : List Sp), i = .int .i64 k ∧ k + r.length = n ∧ findN l s 0 = findN r s k ∧ (0 < r.length → ∃ b o, A = some ⟨b, o, none⟩ ∧ b < B ∧ SpsIn B w r b (o + k * 4)) ∧ Below w.heap.size w wr
set_option maxRecDepth 100000 in
set_option maxHeartbeats 2000000 in
theorem find_any (B : Nat) (v : Value) (l : List Sp) (s : ByteArray) (w : World) (hB : B ≤ w.heap.size) (hv : SpV B w v l) :
    Calls Tryd.prog 13 #[v, .string s] w fun e w' => e = .returned (.int .i64 (findN l s 0)) ∧ Below w.heap.size w w' := by
  obtain ⟨A, cap, rfl, hc1, hc2, hrow⟩ := hv
  obtain ⟨n, hn⟩ : ∃ n, l.length = n := ⟨_, rfl⟩
  rw [hn] at hc1 hrow ⊢
  have HL := Lib.hid hn; clear hn
  go_enter Tryd.func13, Tryd.ntmps13
  go_wp2
  go_loopw [9] (fun i wr => FdRel B w n l s A i wr) (fun i _ => n - (intOf i).toNat)
  case atStart => exact ⟨0, l, rfl, by have := HL.out; omega, rfl, by simpa [HL.out] using hrow, Below.refl _ _⟩
  case round =>
    obtain ⟨k, r, rfl, hk, ho, hr1, hbel⟩ := hrel
    have HO := Lib.hid ho; clear ho
    have HB := Lib.hid hbel
    cases r with
    | nil =>
      have hk0 : k = n := by simpa using hk
      subst hk0
      clear hk hr1 hrow hbel
      go_wp2
      go_ret
      exact ⟨by rw [HO.out]; rfl, HB.out⟩
    | cons x r =>
      have hlt : k < n := by simp at hk; omega
      obtain ⟨b, o, rfl, hb, c0, c1, ⟨v2, c2, h2⟩, ⟨v3, c3, h3⟩, h4, hr⟩ := hr1 (by simp)
      clear hr1 hrow
      obtain ⟨A2, cap2, rfl, _⟩ := h2
      obtain ⟨A3, cap3, rfl, _⟩ := h3
      have hbw : b < w.heap.size := by omega
      have d0 := (hbel.cell (p := ⟨b, o + k * 4, none⟩) hbw).trans c0
      have d1 := (hbel.cell (p := ⟨b, o + k * 4 + 1, none⟩) hbw).trans c1
      have d2 := (hbel.cell (p := ⟨b, o + k * 4 + 2, none⟩) hbw).trans c2
      have d3 := (hbel.cell (p := ⟨b, o + k * 4 + 3, none⟩) hbw).trans c3
      clear c0 c1 c2 c3 hbel
      have HK := Lib.hid hk
      clear hk
      by_cases hk0 : 0 < k
      · have g1 : decide ((0 : Int) < (k : Int)) = true := by simp; omega
        have g2 : decide (0 < k) = true := by simp; omega
        by_cases h : x.s = s
        · subst h
          have HK0 := Lib.hid hk0
          go_wp2
          go_ret
          exact ⟨by rw [HO.out]; unfold findN; rw [if_pos ⟨HK0.out, rfl⟩]; rfl, HB.out.alloc HB.out.size _⟩
        · have h1 : (x.s.toList == s.toList) = false := by
            rw [ByteArray.toList_eq, ByteArray.toList_eq]
            simpa using fun e => h (bs_eq e)
          have H := Lib.hid h
          clear h
          go_wp2
          go_roundw
          case rel => exact ⟨k + 1, r, by go_num, by have := HK.out; simp at this; omega, by rw [HO.out]; conv => lhs; unfold findN; rw [if_neg (fun e => H.out e.2)], fun _ => ⟨b, o, rfl, hb, by rw [show o + (k + 1) * 4 = o + k * 4 + 4 by omega]; exact hr⟩, HB.out.alloc HB.out.size _⟩
          case measure => simp [intOf]; omega
      · have g1 : decide ((0 : Int) < (k : Int)) = false := by simp; omega
        have g2 : decide (0 < k) = false := by simp; omega
        have H := Lib.hid hk0
        clear hk0
        go_wp2
        go_roundw
        case rel => exact ⟨k + 1, r, by go_num, by have := HK.out; simp at this; omega, by rw [HO.out]; conv => lhs; unfold findN; rw [if_neg (fun e => H.out e.1)], fun _ => ⟨b, o, rfl, hb, by rw [show o + (k + 1) * 4 = o + k * 4 + 4 by omega]; exact hr⟩, HB.out.alloc HB.out.size _⟩
        case measure => simp [intOf]; omega
end Go.Proofs.YtaajolemjgdfnaaDoor
