/-
  The tokens of a program's text, as a function on trees; its text is these. Plain.
-/
import Derived.Test.YtppagjhmlgkamaaGreatDoorCq5
import Derived.Test.YtppagjhmlgkamaaGreatDoorCbLm
namespace Go.Proofs.YtppagjhmlgkamaaGreatDoor
open Go Go.RowKit Go.Lib

def restK (g : List TK) : List (List TK) → List TK
  | [] => []
  | a :: r => g ++ a ++ restK g r
def gapK (g : List TK) : List (List TK) → List TK
  | [] => []
  | a :: r => a ++ restK g r
def hdK (ts : List (List TK)) : List TK := ts.headD []
def opmT : List (List UInt8) := [[], [], [], [], [], [], [], [], [43], [45], [42], [47], [37], [60], [61, 61], [38], [124]]
def opm (op : Int) : List UInt8 := opmT.getD op.toNat []
def exK (op n : Int) (s : List UInt8) (ts : List (List TK)) : List TK :=
  if op = 1 then [(2, itoa n)]
  else if op = 2 then [(1, s)]
  else if op = 3 then [(1, [99, 108, 111, 99, 107])]
  else if op = 4 then (1, s) :: (3, [91]) :: (gapK [(3, [44])] ts ++ [(3, [93])])
  else if op = 5 then (1, s) :: (3, [40]) :: (gapK [(3, [44])] ts ++ [(3, [41])])
  else if op = 6 then (3, [45]) :: hdK ts
  else if op = 7 then (3, [33]) :: hdK ts
  else (3, [40]) :: (gapK [(3, opm op)] ts ++ [(3, [41])])
def ES.tks : ES → List (List TK)
  | .nil => []
  | .cons op n s l r => exK op n s.data.toList l.tks :: r.tks
def blkK (b : List TK) : List TK := (3, [123]) :: (b ++ [(3, [125])])
def stK (op : Int) (s : List UInt8) (n : Int) (ts : List (List TK)) (b e : List TK) (ne : Bool) : List TK :=
  if op = 1 then (1, s) :: (3, [61]) :: (hdK ts ++ [(3, [59])])
  else if op = 2 then (1, s) :: (3, [91]) :: (hdK ts ++ (3, [93]) :: (3, [61]) :: (hdK ts.tail ++ [(3, [59])]))
  else if op = 3 then [(1, [97, 114, 114, 97, 121]), (1, s), (2, itoa n), (3, [59])]
  else if op = 4 then [(1, [105, 110, 112, 117, 116]), (1, s), (3, [59])]
  else if op = 5 then (1, [112, 114, 105, 110, 116]) :: (hdK ts ++ [(3, [59])])
  else if op = 6 then (1, [107, 101, 101, 112]) :: (hdK ts ++ [(3, [59])])
  else if op = 7 then (1, [105, 102]) :: (hdK ts ++ (blkK b ++ if ne then (1, [101, 108, 115, 101]) :: blkK e else []))
  else if op = 8 then (1, [119, 104, 105, 108, 101]) :: (hdK ts ++ blkK b)
  else (1, [114, 101, 116, 117, 114, 110]) :: (hdK ts ++ [(3, [59])])
def SS.tks : SS → List TK
  | .nil => []
  | .cons op s n l b e r => stK op s.data.toList n l.tks b.tks e.tks (decide (0 < e.len)) ++ r.tks
def fnK (f : Fn) : List TK := (1, [102, 117, 110, 99]) :: (1, f.s.data.toList) :: (3, [40]) :: (gapK [(3, [44])] (f.ps.map fun s => [(1, s.data.toList)]) ++ (3, [41]) :: blkK f.b.tks)
def fsK : List Fn → List TK
  | [] => []
  | f :: r => fnK f ++ fsK r
def Pg.tks (p : Pg) : List TK := fsK p.fs ++ p.m.tks

def All2 : List (List UInt8) → List (List TK) → Prop
  | [], [] => True
  | a :: r, b :: s => LxW a b ∧ All2 r s
  | _, _ => False
theorem lx_rest {g : List UInt8} {gk : List TK} (hg : LxM g gk) (hh : Hd g) : ∀ {ts : List (List UInt8)} {ks : List (List TK)}, All2 ts ks → LxW (restT g ts) (restK gk ks) ∧ ∀ z, Parted z → Parted (restT g ts ++ z)
  | [], [], _ => ⟨LxM.nil.w, fun _ h => h⟩
  | a :: r, b :: s, ⟨h1, h2⟩ => by
    obtain ⟨i1, i2⟩ := lx_rest hg hh h2
    exact ⟨((hg.catW h1).catW i1 i2), fun z _ => by rw [restT]; exact ((hh.app a).app _).parted z⟩
  | [], _ :: _, h => h.elim
  | _ :: _, [], h => h.elim
theorem lx_gap {g : List UInt8} {gk : List TK} (hg : LxM g gk) (hh : Hd g) {ts : List (List UInt8)} {ks : List (List TK)} (h : All2 ts ks) : LxW (gapT g ts) (gapK gk ks) := by
  match ts, ks, h with
  | [], [], _ => exact LxM.nil.w
  | a :: r, b :: s, ⟨h1, h2⟩ =>
    obtain ⟨i1, i2⟩ := lx_rest hg hh h2
    exact h1.catW i1 i2
theorem lx_hd {ts : List (List UInt8)} {ks : List (List TK)} (h : All2 ts ks) : LxW (hdT' ts) (hdK ks) := by
  match ts, ks, h with
  | [], [], _ => exact LxM.nil.w
  | a :: r, b :: s, ⟨h1, h2⟩ => exact h1
theorem All2.tail {ts : List (List UInt8)} {ks : List (List TK)} (h : All2 ts ks) : All2 ts.tail ks.tail := by
  match ts, ks, h with
  | [], [], _ => exact trivial
  | a :: r, b :: s, ⟨_, h2⟩ => exact h2
theorem lx_comma : LxM [44, 32] [(3, [44])] := lx_44.cat lx_32
theorem hd_comma : Hd [44, 32] := ⟨44, [32], rfl, by decide, by decide⟩
theorem lx_opm {c : UInt8} (h : LxM [c] [(3, [c])]) : LxM [32, c, 32] [(3, [c])] := (lx_32.cat h).cat lx_32
theorem lx_betw (m : Nat) (h1 : 8 ≤ m) (h2 : m ≤ 16) : LxM (betw (m : Int)) [(3, opm (m : Int))] ∧ Hd (betw (m : Int)) := by
  match m, h1, h2 with
  | 8, _, _ => exact ⟨lx_opm (c := 43) (lx_mark (by decide) (by decide) (by decide) (by decide) (by decide) (by decide)), ⟨32, _, rfl, by decide, by decide⟩⟩
  | 9, _, _ => exact ⟨lx_opm (c := 45) (lx_mark (by decide) (by decide) (by decide) (by decide) (by decide) (by decide)), ⟨32, _, rfl, by decide, by decide⟩⟩
  | 10, _, _ => exact ⟨lx_opm (c := 42) (lx_mark (by decide) (by decide) (by decide) (by decide) (by decide) (by decide)), ⟨32, _, rfl, by decide, by decide⟩⟩
  | 11, _, _ => exact ⟨lx_opm (c := 47) (lx_mark (by decide) (by decide) (by decide) (by decide) (by decide) (by decide)), ⟨32, _, rfl, by decide, by decide⟩⟩
  | 12, _, _ => exact ⟨lx_opm (c := 37) (lx_mark (by decide) (by decide) (by decide) (by decide) (by decide) (by decide)), ⟨32, _, rfl, by decide, by decide⟩⟩
  | 13, _, _ => exact ⟨lx_opm (c := 60) (lx_mark (by decide) (by decide) (by decide) (by decide) (by decide) (by decide)), ⟨32, _, rfl, by decide, by decide⟩⟩
  | 14, _, _ => exact ⟨(lx_32.cat lx_ee).cat lx_32, ⟨32, _, rfl, by decide, by decide⟩⟩
  | 15, _, _ => exact ⟨lx_opm (c := 38) (lx_mark (by decide) (by decide) (by decide) (by decide) (by decide) (by decide)), ⟨32, _, rfl, by decide, by decide⟩⟩
  | 16, _, _ => exact ⟨lx_opm (c := 124) (lx_mark (by decide) (by decide) (by decide) (by decide) (by decide) (by decide)), ⟨32, _, rfl, by decide, by decide⟩⟩
  | m + 17, _, h => exact absurd h (by omega)

/-- What is right of an expression. -/
theorem fit_in {op n : Int} {s : ByteArray} {l : ES} (h : fitP ⟨false, op, s, n, l, .nil, .nil⟩ = true) :
    ∃ m : Nat, op = (m : Int) ∧ 1 ≤ m ∧ m ≤ 16 ∧ namedB (exprT.getD m sh0).name s = true ∧ (exprT.getD m sh0).low ≤ n ∧ n ≤ (exprT.getD m sh0).high ∧ (exprT.getD m sh0).least ≤ (l.len : Int) ∧ (l.len : Int) ≤ (exprT.getD m sh0).most := by
  unfold fitP fitQ shOf at h
  by_cases hop : 1 ≤ op ∧ op ≤ 16
  · simp only [Bool.false_eq_true, if_false, if_pos hop, Option.isSome_some, Option.getD_some, Bool.and_eq_true, decide_eq_true_eq] at h
    exact ⟨op.toNat, by omega, by omega, by omega, h.2.1, h.2.2.1, h.2.2.2.1, h.2.2.2.2.1, h.2.2.2.2.2.1⟩
  · simp only [Bool.false_eq_true, if_false, if_neg hop, Option.isSome_none, Bool.false_and] at h
theorem fit_st {op n : Int} {s : ByteArray} {l : ES} {x y : SS} (h : fitP ⟨true, op, s, n, l, x, y⟩ = true) :
    ∃ m : Nat, op = (m : Int) ∧ 1 ≤ m ∧ m ≤ 9 ∧ namedB (stmtT.getD m sh0).name s = true ∧ (stmtT.getD m sh0).low ≤ n ∧ n ≤ (stmtT.getD m sh0).high ∧ (stmtT.getD m sh0).least ≤ (l.len : Int) ∧ (l.len : Int) ≤ (stmtT.getD m sh0).most ∧
      ((stmtT.getD m sh0).body = true ∨ x.len = 0) ∧ ((stmtT.getD m sh0).other = true ∨ y.len = 0) := by
  unfold fitP fitQ shOf at h
  by_cases hop : 1 ≤ op ∧ op ≤ 9
  · simp only [if_true, if_pos hop, Option.isSome_some, Option.getD_some, Bool.and_eq_true, decide_eq_true_eq, Bool.or_eq_true] at h
    exact ⟨op.toNat, by omega, by omega, by omega, h.2.1, h.2.2.1, h.2.2.2.1, h.2.2.2.2.1, h.2.2.2.2.2.1, h.2.2.2.2.2.2.1, h.2.2.2.2.2.2.2⟩
  · simp only [if_true, if_neg hop, Option.isSome_none, Bool.false_and, Bool.false_eq_true] at h

theorem exX_two {op n : Int} {s : List UInt8} {ts : List (List UInt8)} (h : 8 ≤ op) : exX op n s ts = [40] ++ gapT (betw op) ts ++ [41] := by
  unfold exX
  rw [if_neg (by omega), if_neg (by omega), if_neg (by omega), if_neg (by omega), if_neg (by omega), if_neg (by omega), if_neg (by omega)]
theorem exK_two {op n : Int} {s : List UInt8} {ts : List (List TK)} (h : 8 ≤ op) : exK op n s ts = (3, [40]) :: (gapK [(3, opm op)] ts ++ [(3, [41])]) := by
  unfold exK
  rw [if_neg (by omega), if_neg (by omega), if_neg (by omega), if_neg (by omega), if_neg (by omega), if_neg (by omega), if_neg (by omega)]
theorem hdm (c : UInt8) (r : List UInt8) (h1 : inwB (bv c) = false := by decide) (h2 : c ≠ 61 := by decide) : Hd (c :: r) := ⟨c, r, rfl, h1, h2⟩

theorem ex_lx {op n : Int} {s : ByteArray} {l : ES} (h : fitP ⟨false, op, s, n, l, .nil, .nil⟩ = true) (hl : All2 l.txs l.tks) : LxW (exX op n s.data.toList l.txs) (exK op n s.data.toList l.tks) := by
  obtain ⟨m, rfl, h1, h16, hn, hlo, hhi, hle, hmo⟩ := fit_in h
  by_cases h8 : 8 ≤ m
  · rw [exX_two (by omega), exK_two (by omega)]
    obtain ⟨b1, b2⟩ := lx_betw m h8 h16
    exact ((lx_40.catW (lx_gap b1 b2 hl)).catM lx_41 (hdm 41 [])).w
  · match m, h1, h8, hn, hlo with
    | 1, _, _, _, hlo => exact lx_num hlo
    | 2, _, _, hn, _ => exact lx_name hn
    | 3, _, _, _, _ => exact lx_word (by decide) (by decide) (by decide)
    | 4, _, _, hn, _ => exact ((lx_name hn).catM (((lx_91.catW (lx_gap lx_comma hd_comma hl)).catM lx_93 (hdm 93 []))) (hdm 91 _)).w
    | 5, _, _, hn, _ => exact ((lx_name hn).catM (((lx_40.catW (lx_gap lx_comma hd_comma hl)).catM lx_41 (hdm 41 []))) (hdm 40 _)).w
    | 6, _, _, _, _ => exact lx_45.catW (lx_hd hl)
    | 7, _, _, _, _ => exact lx_33.catW (lx_hd hl)
    | m + 8, _, h, _, _ => exact absurd h (by omega)
theorem ES.lx : ∀ {l : ES}, l.ok = true → All2 l.txs l.tks
  | .nil, _ => trivial
  | .cons op n s l r, h => by
    simp only [ES.ok, Bool.and_eq_true] at h
    exact ⟨ex_lx h.1.1 (ES.lx h.1.2), ES.lx h.2⟩

theorem lx_kw {c : UInt8} {r : List UInt8} (h1 : letB (bv c) = true := by decide) (h2 : (c :: r).all (fun d => inwB (bv d)) = true := by decide) (h3 : (c :: r).length ≤ 32 := by decide) : LxM ((c :: r) ++ [32]) [(1, c :: r)] := (lx_word h1 h2 h3).catM lx_32 (hdm 32 [])
theorem lx_blk {b : List UInt8} {k : Nat} {ks : List TK} (h : LxM b ks) : LxM (blkT k b) (blkK ks) := by
  have := ((((lx_32.cat lx_123).cat lx_10).cat h).cat (lx_tabs k)).cat lx_125
  simpa [blkT, blkK] using this
theorem hd_blk (k : Nat) (b : List UInt8) : Hd (blkT k b) := by
  unfold blkT
  exact ⟨32, _, rfl, by decide, by decide⟩
theorem st_lx {k : Nat} {op n : Int} {s : ByteArray} {l : ES} {x y : SS} (h : fitP ⟨true, op, s, n, l, x, y⟩ = true) (hl : All2 l.txs l.tks) (hx : LxM (x.txt (k + 1)) x.tks) (hy : LxM (y.txt (k + 1)) y.tks) (ne : Bool) :
    LxM (stX k op s.data.toList n l.txs (x.txt (k + 1)) (y.txt (k + 1)) ne) (stK op s.data.toList n l.tks x.tks y.tks ne) := by
  obtain ⟨m, rfl, h1, h9, hn, hlo, _⟩ := fit_st h
  match m, h1, h9, hn, hlo with
  | 1, _, _, hn, _ =>
    have := (lx_name hn).catM (((lx_32.cat lx_eq).catW (lx_hd hl)).catM lx_59 (hdm 59 [])) (hdm 32 _)
    simpa [stX, stK] using this
  | 2, _, _, hn, _ =>
    have := (((lx_name hn).catM ((lx_91.catW (lx_hd hl)).catM lx_93 (hdm 93 [])) (hdm 91 _)).cat (lx_32.cat lx_eq)).cat ((lx_hd hl.tail).catM lx_59 (hdm 59 []))
    simpa [stX, stK] using this
  | 3, _, _, hn, hlo =>
    have := ((lx_kw (c := 97) (r := [114, 114, 97, 121])).cat ((lx_name hn).catM lx_32 (hdm 32 []))).cat ((lx_num (n := n) (by have : (1 : Int) ≤ n := hlo; omega)).catM lx_59 (hdm 59 []))
    simpa [stX, stK] using this
  | 4, _, _, hn, _ =>
    have := (lx_kw (c := 105) (r := [110, 112, 117, 116])).cat ((lx_name hn).catM lx_59 (hdm 59 []))
    simpa [stX, stK] using this
  | 5, _, _, _, _ =>
    have := (lx_kw (c := 112) (r := [114, 105, 110, 116])).cat ((lx_hd hl).catM lx_59 (hdm 59 []))
    simpa [stX, stK] using this
  | 6, _, _, _, _ =>
    have := (lx_kw (c := 107) (r := [101, 101, 112])).cat ((lx_hd hl).catM lx_59 (hdm 59 []))
    simpa [stX, stK] using this
  | 7, _, _, _, _ =>
    have h1 := (lx_kw (c := 105) (r := [102])).cat ((lx_hd hl).catM (lx_blk (k := k) hx) (hd_blk k _))
    cases ne with
    | false => simpa [stX, stK] using h1
    | true =>
      have h2 := h1.cat (lx_32.cat ((lx_word (c := 101) (r := [108, 115, 101]) (by decide) (by decide) (by decide)).catM (lx_blk (k := k) hy) (hd_blk k _)))
      simpa [stX, stK] using h2
  | 8, _, _, _, _ =>
    have h1 := (lx_kw (c := 119) (r := [104, 105, 108, 101])).cat ((lx_hd hl).catM (lx_blk (k := k) hx) (hd_blk k _))
    simpa [stX, stK] using h1
  | 9, _, _, _, _ =>
    have := (lx_kw (c := 114) (r := [101, 116, 117, 114, 110])).cat ((lx_hd hl).catM lx_59 (hdm 59 []))
    simpa [stX, stK] using this
  | m + 10, _, h, _, _ => exact absurd h (by omega)
theorem SS.lx : ∀ {l : SS} (k : Nat), l.ok = true → LxM (l.txt k) l.tks
  | .nil, _, _ => LxM.nil
  | .cons op s n l x y r, k, h => by
    simp only [SS.ok, Bool.and_eq_true] at h
    have := (((lx_tabs k).cat (st_lx (k := k) h.1.1 (ES.lx h.1.2.1) (SS.lx (k + 1) h.1.2.2.1) (SS.lx (k + 1) h.1.2.2.2) (decide (0 < y.len)))).cat lx_10).cat (SS.lx k h.2)
    simpa [SS.txt, SS.tks] using this
theorem ps_lx : ∀ {l : List ByteArray}, psOk l = true → All2 (l.map fun s => s.data.toList) (l.map fun s => [(1, s.data.toList)])
  | [], _ => trivial
  | s :: r, h => by
    simp only [psOk, Bool.and_eq_true] at h
    exact ⟨lx_name h.1, ps_lx h.2⟩
theorem fn_lx {f : Fn} (h1 : nameB f.s = true) (h2 : psOk f.ps = true) (h3 : f.b.ok = true) : LxM (fnX f) (fnK f) := by
  have := ((((lx_kw (c := 102) (r := [117, 110, 99])).cat ((lx_name h1).catM lx_40 (hdm 40 []))).catW (lx_gap lx_comma hd_comma (ps_lx h2))).catM (lx_41.cat (lx_blk (k := 0) (SS.lx 1 h3))) (hdm 41 _)).cat lx_10
  simpa [fnX, fnK] using this
theorem fs_lx : ∀ {l : List Fn}, fsOk l = true → okL (fsPts l) = true → LxM (fsX l) (fsK l)
  | [], _, _ => LxM.nil
  | f :: r, h1, h2 => by
    simp only [fsOk, Bool.and_eq_true] at h1
    simp only [fsPts, okL_append, Bool.and_eq_true, SS.okL] at h2
    have hp := h1.1.2
    unfold paramsB at hp
    simp only [Bool.and_eq_true] at hp
    exact (fn_lx h1.1.1 hp.2 h2.1).cat (fs_lx h1.2 h2.2)
theorem pg_lx {p : Pg} (h : rightN p = 0) : LxM p.txt p.tks := by
  unfold rightN at h
  split at h
  · rename_i hq
    simp only [Bool.and_eq_true, Pg.pts, okL_append, SS.okL] at hq
    have hf := hq.1
    unfold funcsB at hf
    simp only [Bool.and_eq_true] at hf
    exact (fs_lx hf.2 hq.2.1).cat (SS.lx 0 hq.2.2)
  · cases h
/-- A right program's text has these tokens. -/
theorem txt_lex {p : Pg} (h : rightN p = 0) : ∃ ts, lexS 0 p.txt = .ok ts ∧ kts ts = p.tks := by
  obtain ⟨ts, e1, e2⟩ := pg_lx h 0 []
  rw [List.append_nil, lexS_nil] at e1
  exact ⟨ts, by rw [e1]; simp [Res.app], e2⟩
end Go.Proofs.YtppagjhmlgkamaaGreatDoor
