/-
  What parse tells of a right program's text: the program. Plain.
-/
import Derived.Test.YtppagjhmlgkamaaGreatDoorCq5
import Derived.Test.YtppagjhmlgkamaaGreatDoorCbSm
namespace Go.Proofs.YtppagjhmlgkamaaGreatDoor
open Go Go.RowKit Go.Lib

theorem sm_stepC {op n : Int} {s : ByteArray} {l : ES} {x y : SS} (h : fitP ⟨true, op, s, n, l, x, y⟩ = true) (hl : l.sok) (hx : x.ok = true) (hy : y.ok = true) {K : Nat} (kx : x.sokN K) (ky : y.sokN K) :
    ∃ N, StAt N ⟨op, s, n, l, x, y⟩ (stK op s.data.toList n l.tks x.tks y.tks (decide (0 < y.len))) (1 + max l.dn (max x.dn y.dn)) := by
  obtain ⟨m, rfl, h1, h9, hn, hlo, hhi, hle, hmo, hxb, hyb⟩ := fit_st h
  match m, h1, h9, hn, hlo, hhi, hle, hmo, hxb, hyb with
  | 1, _, _, hn, hlo, hhi, hle, hmo, hxb, hyb =>
    obtain rfl := int_nought hlo hhi
    obtain rfl := ss_nil (hxb.resolve_left (by decide))
    obtain rfl := ss_nil (hyb.resolve_left (by decide))
    obtain ⟨a, b, c, d, rfl⟩ := es_one hle hmo
    obtain ⟨N, f⟩ := hl.1.e
    refine ⟨N + 1, fun q o te X hq ho ht _ => ?_⟩
    obtain ⟨t, z, rfl, _, htx, hz⟩ := kts_cons (show kts te = (1, s.data.toList) :: (3, [61]) :: (exK a b c.data.toList d.tks ++ [(3, [59])]) from ht)
    obtain ⟨t1, z1, rfl, _, ht1, hz1⟩ := kts_cons hz
    obtain ⟨x1, z2, rfl, hx1, hz2⟩ := kts_split hz1
    obtain ⟨u, z3, rfl, _, hu, hz3⟩ := kts_cons hz2
    obtain rfl := kts_nil hz3
    obtain ⟨q, rfl⟩ : ∃ k, q = k + 1 := ⟨q - 1, by omega⟩
    simp only at htx ht1 hu
    simp only [ES.dn] at ho
    have e1 : t :: t1 :: (x1 ++ [u]) ++ X = t :: t1 :: (x1 ++ u :: X) := by simp
    rw [e1, sm_store htx hn]
    refine semi_ok (u := u) (X := X) ?_ hu
    rw [storeT, nameT_ok htx hn, ok_bind, isT_no (by rw [ht1]; decide)]
    simp only [Bool.false_eq_true, if_false]
    rw [want_ok ht1, ok_bind, f (q + 1) 1 o x1 (u :: X) (by omega) (by omega) hx1 (after59 hu).1 (by rw [(after59 hu).2]; decide), ok_bind]
    rfl
  | 2, _, _, hn, hlo, hhi, hle, hmo, hxb, hyb =>
    obtain rfl := int_nought hlo hhi
    obtain rfl := ss_nil (hxb.resolve_left (by decide))
    obtain rfl := ss_nil (hyb.resolve_left (by decide))
    obtain ⟨a, b, c, d, a', b', c', d', rfl⟩ := es_two hle hmo
    obtain ⟨N1, f1⟩ := hl.1.e
    obtain ⟨N2, f2⟩ := hl.2.1.e
    refine ⟨N1 + N2 + 1, fun q o te X hq ho ht _ => ?_⟩
    obtain ⟨t, z, rfl, _, htx, hz⟩ := kts_cons (show kts te = (1, s.data.toList) :: (3, [91]) :: (exK a b c.data.toList d.tks ++ (3, [93]) :: (3, [61]) :: (exK a' b' c'.data.toList d'.tks ++ [(3, [59])])) from ht)
    obtain ⟨t1, z1, rfl, _, ht1, hz1⟩ := kts_cons hz
    obtain ⟨x1, z2, rfl, hx1, hz2⟩ := kts_split hz1
    obtain ⟨t2, z3, rfl, _, ht2, hz3⟩ := kts_cons hz2
    obtain ⟨t3, z4, rfl, _, ht3, hz4⟩ := kts_cons hz3
    obtain ⟨x2, z5, rfl, hx2, hz5⟩ := kts_split hz4
    obtain ⟨u, z6, rfl, _, hu, hz6⟩ := kts_cons hz5
    obtain rfl := kts_nil hz6
    obtain ⟨q, rfl⟩ : ∃ k, q = k + 1 := ⟨q - 1, by omega⟩
    simp only at htx ht1 ht2 ht3 hu
    simp only [ES.dn] at ho
    have e1 : t :: t1 :: (x1 ++ t2 :: t3 :: (x2 ++ [u])) ++ X = t :: t1 :: (x1 ++ t2 :: (t3 :: (x2 ++ u :: X))) := by simp
    rw [e1, sm_store htx hn]
    refine semi_ok (u := u) (X := X) ?_ hu
    rw [storeT, nameT_ok htx hn, ok_bind, if_pos (isT_yes ht1), within_ok _ ht1 (by omega) ht2 (f1 (q + 1) 1 (o + 1) x1 (t2 :: (t3 :: (x2 ++ u :: X))) (by omega) (by omega) hx1 (after93 ht2).1 (by rw [(after93 ht2).2]; decide)), ok_bind,
      want_ok ht3, ok_bind, f2 (q + 1) 1 o x2 (u :: X) (by omega) (by omega) hx2 (after59 hu).1 (by rw [(after59 hu).2]; decide), ok_bind]
    rfl
  | 3, _, _, hn, hlo, hhi, hle, hmo, hxb, hyb =>
    have hlo' : (1 : Int) ≤ n := hlo
    have hhi' : n ≤ (4096 : Int) := hhi
    obtain rfl := es_nil hmo
    obtain rfl := ss_nil (hxb.resolve_left (by decide))
    obtain rfl := ss_nil (hyb.resolve_left (by decide))
    refine ⟨1, fun q o te X hq ho ht _ => ?_⟩
    obtain ⟨t, z, rfl, _, htx, hz⟩ := kts_cons (show kts te = [(1, [97, 114, 114, 97, 121]), (1, s.data.toList), (2, itoa n), (3, [59])] from ht)
    obtain ⟨t1, z1, rfl, _, ht1, hz1⟩ := kts_cons hz
    obtain ⟨t2, z2, rfl, hk2, ht2, hz2⟩ := kts_cons hz1
    obtain ⟨u, z3, rfl, _, hu, hz3⟩ := kts_cons hz2
    obtain rfl := kts_nil hz3
    obtain ⟨q, rfl⟩ : ∃ k, q = k + 1 := ⟨q - 1, by omega⟩
    simp only at htx ht1 hk2 ht2 hu
    show smT (q + 1) o (t :: t1 :: t2 :: u :: X) = _
    rw [smT, if_pos (isT_yes htx)]
    refine semi_ok (u := u) (X := X) ?_ hu
    have hnum : numT 1 4096 (t2 :: u :: X) = .ok n (u :: X) := by
      have hk' : (hdT (t2 :: u :: X)).kind = 2 := hk2
      have ht' : (hdT (t2 :: u :: X)).text = itoa n := ht2
      rw [numT, if_pos hk', ht', parse_itoa (by omega) (by omega)]
      simp only
      rw [if_neg (by omega)]
      rfl
    rw [List.tail_cons, nameT_ok ht1 hn, ok_bind, hnum, ok_bind]
    rfl
  | 4, _, _, hn, hlo, hhi, hle, hmo, hxb, hyb =>
    obtain rfl := int_nought hlo hhi
    obtain rfl := es_nil hmo
    obtain rfl := ss_nil (hxb.resolve_left (by decide))
    obtain rfl := ss_nil (hyb.resolve_left (by decide))
    refine ⟨1, fun q o te X hq ho ht _ => ?_⟩
    obtain ⟨t, z, rfl, _, htx, hz⟩ := kts_cons (show kts te = [(1, [105, 110, 112, 117, 116]), (1, s.data.toList), (3, [59])] from ht)
    obtain ⟨t1, z1, rfl, _, ht1, hz1⟩ := kts_cons hz
    obtain ⟨u, z3, rfl, _, hu, hz3⟩ := kts_cons hz1
    obtain rfl := kts_nil hz3
    obtain ⟨q, rfl⟩ : ∃ k, q = k + 1 := ⟨q - 1, by omega⟩
    simp only at htx ht1 hu
    show smT (q + 1) o (t :: t1 :: u :: X) = _
    rw [smT, isT_no (by rw [htx]; decide), isT_yes htx]
    simp only [Bool.false_eq_true, if_false, if_true]
    refine semi_ok (u := u) (X := X) ?_ hu
    rw [List.tail_cons, nameT_ok ht1 hn, ok_bind]
    rfl
  | 5, _, _, hn, hlo, hhi, hle, hmo, hxb, hyb =>
    exact st_tell (m := 5) (.inl rfl) (kw := [112, 114, 105, 110, 116]) (fun q o t X ht => by rw [smT, isT_no (by rw [ht]; decide), isT_no (by rw [ht]; decide), isT_yes ht]; rfl) (fun _ _ _ _ => rfl) h hl _ (by omega)
  | 6, _, _, hn, hlo, hhi, hle, hmo, hxb, hyb =>
    exact st_tell (m := 6) (.inr (.inl rfl)) (kw := [107, 101, 101, 112]) (fun q o t X ht => by rw [smT, isT_no (by rw [ht]; decide), isT_no (by rw [ht]; decide), isT_no (by rw [ht]; decide), isT_yes ht]; rfl) (fun _ _ _ _ => rfl) h hl _ (by omega)
  | 7, _, _, hn, hlo, hhi, hle, hmo, _, _ =>
    obtain rfl := named_nil hn
    obtain rfl := int_nought hlo hhi
    obtain ⟨a, b, c, d, rfl⟩ := es_one hle hmo
    obtain ⟨N, f⟩ := tell_ok hl.1.e 7
    refine ⟨N + K + x.len + y.len + 2, fun q o te X hq ho ht hX => ?_⟩
    obtain ⟨t, z, rfl, _, htx, hz⟩ := kts_cons (show kts te = (1, [105, 102]) :: (exK a b c.data.toList d.tks ++ (blkK x.tks ++ if decide (0 < y.len) = true then (1, [101, 108, 115, 101]) :: blkK y.tks else [])) from ht)
    obtain ⟨x1, z1, rfl, hx1, hz1⟩ := kts_split hz
    obtain ⟨x2, z2, rfl, hx2, hz2⟩ := kts_split hz1
    obtain ⟨q, rfl⟩ : ∃ k, q = k + 1 := ⟨q - 1, by omega⟩
    simp only at htx
    simp only [ES.dn] at ho
    obtain ⟨u1, v1, rfl, _, hu1, hv1⟩ := kts_cons hx2
    have e1 : t :: (x1 ++ (u1 :: v1 ++ z2)) ++ X = t :: (x1 ++ (u1 :: (v1 ++ (z2 ++ X)))) := by simp
    have hblk := block_ok' (N := K) hx kx q (q + 1) o (u1 :: v1) (z2 ++ X) (by omega) (by omega) (by omega) hx2
    rw [List.cons_append] at hblk
    rw [e1, smT, isT_no (by rw [htx]; decide), isT_no (by rw [htx]; decide), isT_no (by rw [htx]; decide), isT_no (by rw [htx]; decide), isT_no (by rw [htx]; decide), isT_yes htx]
    simp only [Bool.false_eq_true, if_false, if_true]
    rw [List.tail_cons, f (q + 1) o x1 _ (by omega) (by omega) hx1 (after123 hu1).1 (after123 hu1).2, ok_bind, hblk, ok_bind]
    by_cases hy0 : 0 < y.len
    · rw [decide_eq_true hy0] at hz2
      obtain ⟨te2, z3, rfl, _, hte, hz3⟩ := kts_cons (show kts z2 = (1, [101, 108, 115, 101]) :: blkK y.tks from hz2)
      have hblk2 := block_ok' (N := K) hy ky q (q + 1) o z3 X (by omega) (by omega) (by omega) hz3
      rw [List.cons_append, if_pos (isT_yes hte), List.tail_cons, hblk2, ok_bind, smSS_sms, smSS_sms]
      rfl
    · rw [decide_eq_false hy0] at hz2
      obtain rfl := kts_nil (show kts z2 = [] from hz2)
      obtain rfl := ss_nil (show y.len = 0 by omega)
      have hX' : isT X [101, 108, 115, 101] = false := hX
      rw [List.nil_append, hX', smSS_sms]
      rfl
  | 8, _, _, hn, hlo, hhi, hle, hmo, _, hyb =>
    obtain rfl := named_nil hn
    obtain rfl := int_nought hlo hhi
    obtain rfl := ss_nil (hyb.resolve_left (by decide))
    obtain ⟨a, b, c, d, rfl⟩ := es_one hle hmo
    obtain ⟨N, f⟩ := tell_ok hl.1.e 8
    refine ⟨N + K + x.len + 2, fun q o te X hq ho ht hX => ?_⟩
    obtain ⟨t, z, rfl, _, htx, hz⟩ := kts_cons (show kts te = (1, [119, 104, 105, 108, 101]) :: (exK a b c.data.toList d.tks ++ blkK x.tks) from ht)
    obtain ⟨x1, x2, rfl, hx1, hx2⟩ := kts_split hz
    obtain ⟨q, rfl⟩ : ∃ k, q = k + 1 := ⟨q - 1, by omega⟩
    simp only at htx
    simp only [ES.dn] at ho
    obtain ⟨u1, v1, rfl, _, hu1, hv1⟩ := kts_cons hx2
    have e1 : t :: (x1 ++ u1 :: v1) ++ X = t :: (x1 ++ (u1 :: (v1 ++ X))) := by simp
    have hblk := block_ok' (N := K) hx kx q (q + 1) o (u1 :: v1) X (by omega) (by omega) (by omega) hx2
    rw [List.cons_append] at hblk
    rw [e1, smT, isT_no (by rw [htx]; decide), isT_no (by rw [htx]; decide), isT_no (by rw [htx]; decide), isT_no (by rw [htx]; decide), isT_no (by rw [htx]; decide), isT_no (by rw [htx]; decide), isT_yes htx]
    simp only [Bool.false_eq_true, if_false, if_true]
    rw [List.tail_cons, f (q + 1) o x1 _ (by omega) (by omega) hx1 (after123 hu1).1 (after123 hu1).2, ok_bind, hblk, ok_bind, smSS_sms]
    rfl
  | 9, _, _, hn, hlo, hhi, hle, hmo, hxb, hyb =>
    exact st_tell (m := 9) (.inr (.inr rfl)) (kw := [114, 101, 116, 117, 114, 110]) (fun q o t X ht => by rw [smT, isT_no (by rw [ht]; decide), isT_no (by rw [ht]; decide), isT_no (by rw [ht]; decide), isT_no (by rw [ht]; decide), isT_yes ht]; rfl) (fun _ _ _ _ => rfl) h hl _ (by omega)
  | m + 10, _, h, _, _, _, _, _, _, _ => exact absurd h (by omega)

theorem SS.sok_all : ∀ l : SS, l.ok = true → ∃ N, l.sokN N
  | .nil, _ => ⟨0, trivial⟩
  | .cons op s n l x y r, h => by
    simp only [SS.ok, Bool.and_eq_true] at h
    obtain ⟨K1, k1⟩ := SS.sok_all x h.1.2.2.1
    obtain ⟨K2, k2⟩ := SS.sok_all y h.1.2.2.2
    obtain ⟨M, k3⟩ := SS.sok_all r h.2
    obtain ⟨N, f⟩ := sm_stepC h.1.1 (ES.sok_all l h.1.2.1) h.1.2.2.1 h.1.2.2.2 (SS.sokN_mono (Nat.le_max_left K1 K2) k1) (SS.sokN_mono (Nat.le_max_right K1 K2) k2)
    exact ⟨max N M, fun k o te X hk => f k o te X (Nat.le_trans (Nat.le_max_left _ _) hk), SS.sokN_mono (Nat.le_max_right _ _) k3⟩

theorem deep_mem : ∀ {r : SS} {t : Sm}, t ∈ sms r → (toSS t .nil).deep ≤ r.deep
  | .nil, t, h => by simp [sms] at h
  | .cons op s n l b e r, t, h => by
    have hc := deep_consC ⟨op, s, n, l, b, e⟩ r
    have hc' : (SS.cons op s n l b e r).deep = max (toSS ⟨op, s, n, l, b, e⟩ .nil).deep r.deep := hc
    rcases List.mem_cons.1 h with rfl | h
    · omega
    · have := deep_mem h
      omega
/-- A statement that stands in nothing. -/
theorem outer_ok {N : Nat} {r : SS} (hr : r.sokN N) (h64 : r.deep ≤ 64) (n o : Nat) (hn : N ≤ n) (ho : o + r.dn ≤ 256) {op m : Int} {s : ByteArray} {l : ES} {b e : SS} {te X : List Tok} (ht : kts te = stK op s.data.toList m l.tks b.tks e.tks (decide (0 < e.len))) (hX : NoElse X) (hm : (Sm.mk op s m l b e) ∈ sms r) :
    outerT n o (te ++ X) = .ok ⟨op, s, m, l, b, e⟩ X := by
  have hd := deep_mem hm
  rw [outerT, sok_mem hr op s m l b e hm n o te X hn ho ht hX, ok_bind, if_neg (by omega)]

theorem names_more (m : Nat) : ∀ (r : List ByteArray) (acc : List ByteArray) te tc X, psOk r = true → r.length + 1 ≤ m → acc.length + r.length ≤ 8 → kts te = restK [(3, [44])] (r.map fun s => [(1, s.data.toList)]) → tc.text = [41] → moreT nameT m acc (te ++ tc :: X) = .ok (acc ++ r) X := by
  induction m with
  | zero => intro r acc te tc X _ h; omega
  | succ m ih =>
    intro r acc te tc X hok hm h8 ht hc
    cases r with
    | nil =>
      obtain rfl := kts_nil ht
      rw [List.nil_append, moreT, isT_no (by rw [hc]; decide)]
      simp only [Bool.false_eq_true, if_false]
      rw [want_ok hc, ok_bind, List.append_nil]
    | cons s r =>
      simp only [psOk, Bool.and_eq_true] at hok
      obtain ⟨t, y, rfl, _, ht1, hy⟩ := kts_cons (show kts te = (3, [44]) :: (1, s.data.toList) :: restK [(3, [44])] (r.map fun s => [(1, s.data.toList)]) from ht)
      obtain ⟨u, z, rfl, _, hu, hz⟩ := kts_cons hy
      simp only at ht1 hu
      simp only [List.length_cons] at hm h8
      show moreT nameT (m + 1) acc (t :: u :: (z ++ tc :: X)) = _
      rw [moreT, if_pos (isT_yes ht1), if_neg (by omega), List.tail_cons, nameT_ok hu hok.1, ok_bind, ih r (acc ++ [s]) z tc X hok.2 (by omega) (by simp; omega) hz hc]
      simp
theorem params_ok (ps : List ByteArray) (hok : psOk ps = true) (h8 : ps.length ≤ 8) (m o : Nat) (te X : List Tok) (t1 tc : Tok) (hm : 10 ≤ m) (ho : o ≠ 256) (ht : kts te = gapK [(3, [44])] (ps.map fun s => [(1, s.data.toList)])) (h1 : t1.text = [40]) (hc : tc.text = [41]) :
    severalT nameT m o (t1 :: (te ++ tc :: X)) = .ok ps X := by
  cases ps with
  | nil =>
    obtain rfl := kts_nil ht
    rw [severalT, enter_ok h1 ho, ok_bind, List.nil_append, if_pos (isT_yes hc), want_ok hc]; rfl
  | cons s r =>
    simp only [psOk, Bool.and_eq_true] at hok
    obtain ⟨t, y, rfl, _, htx, hy⟩ := kts_cons (show kts te = (1, s.data.toList) :: restK [(3, [44])] (r.map fun s => [(1, s.data.toList)]) from ht)
    simp only at htx
    simp only [List.length_cons] at h8
    rw [severalT, enter_ok h1 ho, ok_bind, List.cons_append, isT_no (by rw [htx]; exact name_ne hok.1 (by decide))]
    simp only [Bool.false_eq_true, if_false]
    rw [nameT_ok htx hok.1, ok_bind, names_more m r [s] y tc X hok.2 (by omega) (by simp; omega) hy hc]
    rfl

def FnAt (N : Nat) (f : Fn) : Prop := ∀ n te X, N ≤ n → kts te = fnK f → funcT n (te ++ X) = .ok f X
theorem fn_okC {f : Fn} (h1 : nameB f.s = true) (h2 : psOk f.ps = true) (h8 : f.ps.length ≤ 8) (h3 : f.b.ok = true) (hd : f.b.deep ≤ 64) (hc : f.b.cnt ≤ 1000000000000) : ∃ N, FnAt N f := by
  obtain ⟨K, k⟩ := SS.sok_all f.b h3
  have hdn : f.b.dn ≤ 64 := by have := SS.deep_dn f.b hc; omega
  refine ⟨K + f.b.len + 12, fun n te X hn ht => ?_⟩
  obtain ⟨t, z, rfl, _, htx, hz⟩ := kts_cons (show kts te = (1, [102, 117, 110, 99]) :: (1, f.s.data.toList) :: (3, [40]) :: (gapK [(3, [44])] (f.ps.map fun s => [(1, s.data.toList)]) ++ (3, [41]) :: blkK f.b.tks) from ht)
  obtain ⟨t1, z1, rfl, _, ht1, hz1⟩ := kts_cons hz
  obtain ⟨t2, z2, rfl, _, ht2, hz2⟩ := kts_cons hz1
  obtain ⟨x1, z3, rfl, hx1, hz3⟩ := kts_split hz2
  obtain ⟨t3, z4, rfl, _, ht3, hz4⟩ := kts_cons hz3
  obtain ⟨t4, y, rfl, _, h4, hy⟩ := kts_cons (show kts z4 = (3, [123]) :: (f.b.tks ++ [(3, [125])]) from hz4)
  obtain ⟨x, z5, rfl, hx, hz5⟩ := kts_split hy
  obtain ⟨tc, z6, rfl, _, hc', hz6⟩ := kts_cons hz5
  obtain rfl := kts_nil hz6
  simp only at htx ht1 ht2 ht3 h4 hc'
  have e1 : t :: t1 :: t2 :: (x1 ++ t3 :: t4 :: (x ++ [tc])) ++ X = t :: t1 :: t2 :: (x1 ++ t3 :: (t4 :: (x ++ tc :: X))) := by simp
  rw [e1, funcT, want_ok htx, ok_bind, nameT_ok ht1 h1, ok_bind, params_ok f.ps h2 h8 n 0 x1 _ t2 t3 (by omega) (by decide) hx1 ht2 ht3, ok_bind, blockT, enter_ok h4 (by decide), ok_bind,
    body_ok _ f.b h3 (fun op s m l b e _ te X _ h5 h6 h7 => outer_ok k hd n 1 (by omega) (by omega) h5 h6 h7) n [] x tc X (by omega) hx hc', ok_bind, List.nil_append, smSS_sms]

def FsAt (N : Nat) : List Fn → Prop
  | [] => True
  | f :: r => FnAt N f ∧ FsAt N r
theorem FsAt.mono {N M : Nat} (h : N ≤ M) : ∀ {l : List Fn}, FsAt N l → FsAt M l
  | [], _ => trivial
  | _ :: _, ⟨h1, h2⟩ => ⟨fun n te X hn => h1 n te X (by omega), FsAt.mono h h2⟩
theorem fs_ok : ∀ l : List Fn, fsOk l = true → okL (fsPts l) = true → deepL (fsPts l) ≤ 64 → cntL (fsPts l) ≤ 1000000000000 → ∃ N, FsAt N l
  | [], _, _, _, _ => ⟨0, trivial⟩
  | f :: r, h1, h2, h3, h4 => by
    simp only [fsOk, Bool.and_eq_true] at h1
    simp only [fsPts, okL_append, Bool.and_eq_true, SS.okL] at h2
    simp only [fsPts, deepL_append, SS.deepL] at h3
    simp only [fsPts, cntL_append, SS.cntL] at h4
    have hp := h1.1.2
    unfold paramsB at hp
    simp only [Bool.and_eq_true, decide_eq_true_eq] at hp
    obtain ⟨N, f1⟩ := fn_okC h1.1.1 hp.2 hp.1 h2.1 (by omega) (by omega)
    obtain ⟨M, f2⟩ := fs_ok r h1.2 h2.2 (by omega) (by omega)
    exact ⟨max N M, fun n te X hn => f1 n te X (Nat.le_trans (Nat.le_max_left _ _) hn), FsAt.mono (Nat.le_max_right _ _) f2⟩
theorem funcs_ok {N : Nat} : ∀ (l : List Fn) (n m : Nat) (acc : List Fn) te X, FsAt N l → N ≤ n → l.length + 1 ≤ m → acc.length + l.length ≤ 32 → kts te = fsK l → isT X [102, 117, 110, 99] = false → funcsT n m acc (te ++ X) = .ok (acc ++ l) X
  | [], n, m, acc, te, X, _, _, hm, _, ht, hX => by
    obtain rfl := kts_nil ht
    obtain ⟨m, rfl⟩ : ∃ k, m = k + 1 := ⟨m - 1, by omega⟩
    rw [List.nil_append, funcsT, hX, List.append_nil]
    rfl
  | f :: r, n, m, acc, te, X, ⟨h1, h2⟩, hn, hm, h32, ht, hX => by
    obtain ⟨m, rfl⟩ : ∃ k, m = k + 1 := ⟨m - 1, by omega⟩
    obtain ⟨x, z, rfl, hx, hz⟩ := kts_split (show kts te = fnK f ++ fsK r from ht)
    simp only [List.length_cons] at hm h32
    have hx' := hx
    obtain ⟨u, y, rfl, _, hu, _⟩ := kts_cons (show kts x = (1, [102, 117, 110, 99]) :: _ from hx)
    rw [List.append_assoc, funcsT, List.cons_append, if_pos (isT_yes hu), if_neg (by omega), ← List.cons_append, h1 n _ _ hn hx', ok_bind, funcs_ok r n m (acc ++ [f]) z X h2 hn (by omega) (by simp; omega) hz hX]
    simp
theorem main_ok {N : Nat} {p : SS} (hp : p.sokN N) (h64 : p.deep ≤ 64) (n : Nat) (hn : N ≤ n) (hd : p.dn ≤ 256) : ∀ (r : SS), r.ok = true → (∀ t, t ∈ sms r → t ∈ sms p) → ∀ m (acc : List Sm) te X, r.len + 1 ≤ m → kts te = r.tks → (hdT X).kind = 4 → NoElse X → mainT n m acc (te ++ X) = .ok (acc ++ sms r) X
  | .nil, _, _ => fun m acc te X hm ht h4 _ => by
    obtain rfl := kts_nil ht
    obtain ⟨m, rfl⟩ : ∃ k, m = k + 1 := ⟨m - 1, by omega⟩
    rw [List.nil_append, mainT, if_pos h4, sms, List.append_nil]
  | .cons op s k l b e r, hok, hsub => fun m acc te X hm ht h4 hX => by
    have hok' := hok
    simp only [SS.ok, Bool.and_eq_true] at hok
    obtain ⟨m, rfl⟩ : ∃ k, m = k + 1 := ⟨m - 1, by omega⟩
    rcases ss_head (X := X) hok' ht with h0 | ⟨u, z, hu, hk1, _, _, _⟩
    · subst h0
      obtain ⟨t, k', hk, _⟩ := stK_head hok.1.1 (decide (0 < e.len))
      rw [SS.tks, hk] at ht
      cases ht
    · obtain ⟨x1, x2, rfl, hx1, hx2⟩ := kts_split (show kts te = _ ++ r.tks from ht)
      have hne : NoElse (x2 ++ X) := no_else hok.2 hx2 hX
      have hf : (hdT (x1 ++ x2 ++ X)).kind ≠ 4 := by
        rw [hu]
        show u.kind ≠ 4
        omega
      rw [mainT, if_neg hf, List.append_assoc, outer_ok hp h64 n 0 hn (by omega) hx1 hne (hsub _ List.mem_cons_self), ok_bind,
        main_ok hp h64 n hn hd r hok.2 (fun t h => hsub t (List.mem_cons_of_mem _ h)) m (acc ++ [Sm.mk op s k l b e]) x2 X (by simp only [SS.len] at hm; omega) hx2 h4 hX, sms]
      simp
/-- A right program's tokens are read as the program. -/
theorem prog_ok {p : Pg} (h : rightN p = 0) (hc : cntL p.pts ≤ 1000000000000) : ∃ N, ∀ n te k, N ≤ n → kts te = p.tks → progT n (te ++ [⟨4, [], k⟩]) = .ok p [⟨4, [], k⟩] := by
  unfold rightN at h
  split at h
  · rename_i hq
    split at h
    · cases h
    · rename_i h64
      simp only [Bool.and_eq_true, Pg.pts, okL_append, SS.okL] at hq
      simp only [Pg.pts, deepL_append, SS.deepL] at h64
      simp only [Pg.pts, cntL_append, SS.cntL] at hc
      have hf := hq.1
      unfold funcsB at hf
      simp only [Bool.and_eq_true, decide_eq_true_eq] at hf
      obtain ⟨N1, f1⟩ := fs_ok p.fs hf.2 hq.2.1 (by omega) (by omega)
      obtain ⟨N2, f2⟩ := SS.sok_all p.m hq.2.2
      have hdn : p.m.dn ≤ 64 := by have := SS.deep_dn p.m (by omega); omega
      refine ⟨N1 + N2 + p.fs.length + p.m.len + 2, fun n te k hn ht => ?_⟩
      obtain ⟨x, z, rfl, hx, hz⟩ := kts_split (show kts te = fsK p.fs ++ p.m.tks from ht)
      have hnf : isT (z ++ [⟨4, [], k⟩]) [102, 117, 110, 99] = false := by
        rcases ss_head (X := [⟨4, [], k⟩]) hq.2.2 hz with h0 | ⟨t, r, e, _, _, _, h4⟩
        · subst h0; exact isT_no (show ([] : List UInt8) ≠ _ by decide)
        · rw [e]; exact isT_no h4
      rw [progT, List.append_assoc, funcs_ok p.fs n n [] x _ f1 (by omega) (by omega) (by simp; omega) hx hnf, ok_bind,
        main_ok f2 (by omega) n (by omega) (by omega) p.m hq.2.2 (fun _ h => h) n [] z [⟨4, [], k⟩] (by omega) hz rfl (isT_no (show ([] : List UInt8) ≠ _ by decide)), ok_bind, List.nil_append, List.nil_append, smSS_sms]
  · cases h
end Go.Proofs.YtppagjhmlgkamaaGreatDoor
