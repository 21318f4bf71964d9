/-
  The contract of wrap.Parse, at every string: it tells what 'parseL' tells of the text's bytes; of what was there nothing has turned.
-/
import Derived.Test.YtaajolemjgdfnaaDoorChecked
import Derived.Test.YtaajolemjgdfnaaDoorPnP
import Derived.WalkKit
import Derived.Lib.Hide
import Derived.Lib.OthersKept
namespace Go.Proofs.YtaajolemjgdfnaaDoor
open Go Go.RowKit Go.Lib

/-- What is told of a number that is, or of none. -/
def told (o : Option Int) : Ending := .returned (.tuple #[.int .i64 (o.getD 0), .bool o.isSome])

/-- What holds at the head of each round of Parse's loop: the digits ahead of pos are done. -/
def ParseAt (s : ByteArray) (w : World) (v : Value) (wr : World) : Prop :=
  ∃ (pos : Nat) (n : Int), pos ≤ s.size ∧ 0 ≤ n ∧ n ≤ 9223372036854775807 ∧ v = .int .i64 n ∧ wr.heap[w.heap.size]? = some (.stringIter s pos) ∧ Below w.heap.size w wr ∧ pgo n (s.data.toList.drop pos) = pgo 0 s.data.toList

theorem pgo_no {s : ByteArray} {pos : Nat} {n c : Int} (hp : pos < s.size) (hc : c = ((s[pos]'hp).toNat : Int)) (h : c < 48 ∨ 57 < c ∨ (9223372036854775807 - (c - 48)) / 10 < n) : pgo n (s.data.toList.drop pos) = none := by
  rw [drop_at s pos hp, pgo_cons, if_neg (by omega)]

theorem pgo_yes {s : ByteArray} {pos : Nat} {n c : Int} (hp : pos < s.size) (hc : c = ((s[pos]'hp).toNat : Int)) (h : 48 ≤ c ∧ c ≤ 57 ∧ n ≤ (9223372036854775807 - (c - 48)) / 10) : pgo n (s.data.toList.drop pos) = pgo (n * 10 + (c - 48)) (s.data.toList.drop (pos + 1)) := by
  subst hc
  rw [drop_at s pos hp, pgo_cons, if_pos h]

theorem told_none : told none = .returned (.tuple #[.int .i64 0, .bool false]) := rfl
theorem told_some (n : Int) : told (some n) = .returned (.tuple #[.int .i64 n, .bool true]) := rfl

set_option maxHeartbeats 800000 in
set_option maxRecDepth 100000 in
theorem parse_loop1 (s : ByteArray) (w : World) (hs : s.size ≤ 9223372036854775807) (h0 : 0 < s.size) (h1 : (s.size : Int) ≤ 1) :
    Calls Tryd.prog 84 #[.string s] w fun e w' => e = told (pgo 0 s.data.toList) ∧ Below w.heap.size w w' := by
  have e1 : ¬ s.toList = [] := by
    rw [ByteArray.toList_eq]
    intro h
    have : s.data.toList.length = s.size := rfl
    rw [h] at this; simp at this; omega
  have e2 : s.toList.isEmpty = false := by simpa using e1
  go_enter Tryd.func84, Tryd.ntmps84
  go_wp2
  clear e1 e2
  go_loopw [4] (fun v wr => ParseAt s w v wr) (fun _ wr => s.size - wr.iterPos w.heap.size)
  case atStart =>
    refine ⟨0, 0, by omega, by omega, by omega, rfl, ?_, (Below.refl _ w).alloc (Nat.le_refl _) _, rfl⟩
    simpa using World.iter_heap w s 0
  case round =>
    obtain ⟨pos, n, hp1, hn0, hn1, rfl, hit, hbw, hgo⟩ := hrel
    have HG := Lib.hid hgo; clear hgo
    have hsz : w.heap.size < wr.heap.size := (Array.getElem?_eq_some_iff.1 hit).1
    by_cases hp : pos < s.size
    · by_cases ha : (s[pos]'hp).toNat < 128
      · have hbw2 := Lib.below_iterAt hbw (k := w.heap.size) (by omega) s (pos + 1)
        have hit2 := Lib.iterAt_heap wr (w.heap.size) s pos (pos + 1) hit
        have hnx : ∀ ty, (Instr.next (.pointer (some ⟨w.heap.size, 0, none⟩)) true ty).run Tryd.prog wr = _ := fun ty => Lib.run_next_ascii_at wr (w.heap.size) s pos ty hit hp ha
        obtain ⟨c, hc⟩ : ∃ c : Int, c = ((s[pos]'hp).toNat : Int) := ⟨_, rfl⟩
        rw [← hc] at hnx
        have hc0 : 0 ≤ c := by omega
        have hc1 : c < 128 := by omega
        have HC := Lib.hid hc; clear hc
        go_wp2
        · go_ret2
          exact ⟨by rw [← HG.out, pgo_no hp HC.out (by omega)]; rfl, hbw2⟩
        · go_ret2
          exact ⟨by rw [← HG.out, pgo_no hp HC.out (by omega)]; rfl, hbw2⟩
        · refine ⟨⟨pos + 1, _, by omega, by omega, by omega, rfl, hit2, hbw2, ?_⟩, ?_⟩
          · rw [← HG.out, pgo_yes hp HC.out (by omega)]
          · simp only [World.iterPos, hit2, hit]
            omega
        · go_ret2
          exact ⟨by rw [← HG.out, pgo_no hp HC.out (by omega)]; rfl, hbw2⟩
      · have hd := decode_high s pos hp (by omega)
        have hd1 := decode_le s pos
        have hbw2 := Lib.below_iterAt hbw (k := w.heap.size) (by omega) s (pos + (Utf8.decode s pos).2)
        have hnx : ∀ ty, (Instr.next (.pointer (some ⟨w.heap.size, 0, none⟩)) true ty).run Tryd.prog wr = _ := fun ty => Lib.run_next_any_at wr (w.heap.size) s pos ty hit hp
        obtain ⟨c, hc⟩ : ∃ c : Int, c = ((Utf8.decode s pos).1 : Int) := ⟨_, rfl⟩
        rw [← hc] at hnx
        have hc0 : 128 ≤ c := by omega
        have hc1 : c ≤ 2147483647 := by omega
        have hc2 : ¬ c < 48 := by omega
        have hc3 : 57 < c := by omega
        clear hc hd hd1
        go_wp2
        go_ret2
        exact ⟨by rw [← HG.out, pgo_no hp rfl (by omega)]; rfl, hbw2⟩
    · have hnx : ∀ ty, (Instr.next (.pointer (some ⟨w.heap.size, 0, none⟩)) true ty).run Tryd.prog wr = _ := fun ty => Lib.run_next_end_at wr (w.heap.size) s pos ty hit hp
      go_wp2
      go_ret2
      have hd : s.data.toList.drop pos = [] := List.drop_eq_nil_of_le (by have : s.data.toList.length = s.size := rfl
                                                                          omega)
      exact ⟨by rw [← HG.out, hd]; rfl, hbw⟩

set_option maxHeartbeats 800000 in
set_option maxRecDepth 100000 in
theorem parse_loop2 (s : ByteArray) (w : World) (hs : s.size ≤ 9223372036854775807) (h0 : 0 < s.size) (h1 : 1 < (s.size : Int)) (hz : s[0].toNat ≠ 48) :
    Calls Tryd.prog 84 #[.string s] w fun e w' => e = told (pgo 0 s.data.toList) ∧ Below w.heap.size w w' := by
  have e1 : ¬ s.toList = [] := by
    rw [ByteArray.toList_eq]
    intro h
    have : s.data.toList.length = s.size := rfl
    rw [h] at this; simp at this; omega
  have e2 : s.toList.isEmpty = false := by simpa using e1
  have e3 : ((s[0].toNat : Int) == 48) = false := by
    simp; omega
  clear hz
  go_enter Tryd.func84, Tryd.ntmps84
  go_wp2
  clear e1 e2
  clear e3
  go_loopw [4] (fun v wr => ParseAt s w v wr) (fun _ wr => s.size - wr.iterPos w.heap.size)
  case atStart =>
    refine ⟨0, 0, by omega, by omega, by omega, rfl, ?_, (Below.refl _ w).alloc (Nat.le_refl _) _, rfl⟩
    simpa using World.iter_heap w s 0
  case round =>
    obtain ⟨pos, n, hp1, hn0, hn1, rfl, hit, hbw, hgo⟩ := hrel
    have HG := Lib.hid hgo; clear hgo
    have hsz : w.heap.size < wr.heap.size := (Array.getElem?_eq_some_iff.1 hit).1
    by_cases hp : pos < s.size
    · by_cases ha : (s[pos]'hp).toNat < 128
      · have hbw2 := Lib.below_iterAt hbw (k := w.heap.size) (by omega) s (pos + 1)
        have hit2 := Lib.iterAt_heap wr (w.heap.size) s pos (pos + 1) hit
        have hnx : ∀ ty, (Instr.next (.pointer (some ⟨w.heap.size, 0, none⟩)) true ty).run Tryd.prog wr = _ := fun ty => Lib.run_next_ascii_at wr (w.heap.size) s pos ty hit hp ha
        obtain ⟨c, hc⟩ : ∃ c : Int, c = ((s[pos]'hp).toNat : Int) := ⟨_, rfl⟩
        rw [← hc] at hnx
        have hc0 : 0 ≤ c := by omega
        have hc1 : c < 128 := by omega
        have HC := Lib.hid hc; clear hc
        go_wp2
        · go_ret2
          exact ⟨by rw [← HG.out, pgo_no hp HC.out (by omega)]; rfl, hbw2⟩
        · go_ret2
          exact ⟨by rw [← HG.out, pgo_no hp HC.out (by omega)]; rfl, hbw2⟩
        · refine ⟨⟨pos + 1, _, by omega, by omega, by omega, rfl, hit2, hbw2, ?_⟩, ?_⟩
          · rw [← HG.out, pgo_yes hp HC.out (by omega)]
          · simp only [World.iterPos, hit2, hit]
            omega
        · go_ret2
          exact ⟨by rw [← HG.out, pgo_no hp HC.out (by omega)]; rfl, hbw2⟩
      · have hd := decode_high s pos hp (by omega)
        have hd1 := decode_le s pos
        have hbw2 := Lib.below_iterAt hbw (k := w.heap.size) (by omega) s (pos + (Utf8.decode s pos).2)
        have hnx : ∀ ty, (Instr.next (.pointer (some ⟨w.heap.size, 0, none⟩)) true ty).run Tryd.prog wr = _ := fun ty => Lib.run_next_any_at wr (w.heap.size) s pos ty hit hp
        obtain ⟨c, hc⟩ : ∃ c : Int, c = ((Utf8.decode s pos).1 : Int) := ⟨_, rfl⟩
        rw [← hc] at hnx
        have hc0 : 128 ≤ c := by omega
        have hc1 : c ≤ 2147483647 := by omega
        have hc2 : ¬ c < 48 := by omega
        have hc3 : 57 < c := by omega
        clear hc hd hd1
        go_wp2
        go_ret2
        exact ⟨by rw [← HG.out, pgo_no hp rfl (by omega)]; rfl, hbw2⟩
    · have hnx : ∀ ty, (Instr.next (.pointer (some ⟨w.heap.size, 0, none⟩)) true ty).run Tryd.prog wr = _ := fun ty => Lib.run_next_end_at wr (w.heap.size) s pos ty hit hp
      go_wp2
      go_ret2
      have hd : s.data.toList.drop pos = [] := List.drop_eq_nil_of_le (by have : s.data.toList.length = s.size := rfl
                                                                          omega)
      exact ⟨by rw [← HG.out, hd]; rfl, hbw⟩

set_option maxRecDepth 100000 in
theorem parse_empty (s : ByteArray) (w : World) (h0 : s.size = 0) :
    Calls Tryd.prog 84 #[.string s] w fun e w' => e = told none ∧ Below w.heap.size w w' := by
  have e1 : s.toList = [] := by
    rw [ByteArray.toList_eq]
    exact List.eq_nil_of_length_eq_zero h0
  have e2 : s.toList.isEmpty = true := by simpa using e1
  go_enter Tryd.func84, Tryd.ntmps84
  go_wp2
  go_ret2
  exact ⟨rfl, Below.refl _ _⟩

set_option maxRecDepth 100000 in
theorem parse_nought (s : ByteArray) (w : World) (hs : s.size ≤ 9223372036854775807) (h1 : 1 < (s.size : Int)) (h0 : 0 < s.size) (hz : s[0].toNat = 48) :
    Calls Tryd.prog 84 #[.string s] w fun e w' => e = told none ∧ Below w.heap.size w w' := by
  have e1 : ¬ s.toList = [] := by
    rw [ByteArray.toList_eq]
    intro h
    have : s.data.toList.length = s.size := rfl
    rw [h] at this; simp at this; omega
  have e2 : s.toList.isEmpty = false := by simpa using e1
  have e3 : ((s[0].toNat : Int) == 48) = true := by
    simp; omega
  clear hz
  go_enter Tryd.func84, Tryd.ntmps84
  go_wp2
  go_ret2
  exact ⟨rfl, Below.refl _ _⟩

/-- wrap.Parse, AT EVERY STRING. -/
theorem parse_any (s : ByteArray) (w : World) (hs : s.size ≤ 9223372036854775807) :
    Calls Tryd.prog 84 #[.string s] w fun e w' => e = told (parseL s.data.toList) ∧ Below w.heap.size w w' := by
  have hl : s.data.toList.length = s.size := rfl
  by_cases h0 : 0 < s.size
  · have hd := drop_at s 0 h0
    rw [List.drop_zero] at hd
    have hne : s.data.toList ≠ [] := by rw [hd]; simp
    have hh : s.data.toList.head? = some s[0] := by rw [hd]; rfl
    by_cases h1 : 1 < s.size
    · by_cases hz : s[0].toNat = 48
      · have : parseL s.data.toList = none := by
          unfold parseL
          rw [if_pos (Or.inr ⟨by omega, by rw [hh]; exact congrArg some (UInt8.toNat_inj.1 hz)⟩)]
        rw [this]
        exact parse_nought s w hs (by omega) h0 hz
      · have : parseL s.data.toList = pgo 0 s.data.toList := by
          unfold parseL
          rw [if_neg]
          rintro (h | ⟨_, h⟩)
          · exact hne h
          · rw [hh] at h
            exact hz (by rw [Option.some.inj h]; rfl)
        rw [this]
        exact parse_loop2 s w hs h0 (by omega) hz
    · have : parseL s.data.toList = pgo 0 s.data.toList := by
        unfold parseL
        rw [if_neg]
        rintro (h | ⟨h, _⟩)
        · exact hne h
        · omega
      rw [this]
      exact parse_loop1 s w hs h0 (by omega)
  · have : parseL s.data.toList = none := by
      unfold parseL
      rw [if_pos (Or.inl (List.eq_nil_of_length_eq_zero (by omega)))]
    rw [this]
    exact parse_empty s w (by omega)

end Go.Proofs.YtaajolemjgdfnaaDoor
