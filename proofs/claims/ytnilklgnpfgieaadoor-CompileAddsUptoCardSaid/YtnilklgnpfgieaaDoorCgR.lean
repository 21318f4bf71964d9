/-
  Texts CgP CgR: put together.
-/
import Derived.Test.YtnilklgnpfgieaaDoorCpT
import Derived.Test.YtnilklgnpfgieaaDoorCfW
/-
  CompileAdds, plainly: the code of a program with Print of a number behind main.
-/
namespace Go.Proofs.YtnilklgnpfgieaaDoor
open Go Go.RowKit Go.Lib

def prn (n : Nat) : SS := .cons 5 noz 0 (.cons 1 n noz .nil .nil) .nil .nil .nil
def addPg (p : Pg) (n : Nat) : Pg := ⟨p.fs, p.m.app (prn n)⟩
theorem app_us : ∀ a b : SS, (a.app b).us = a.us ++ b.us
  | .nil, _ => rfl
  | .cons op s n l x y r, b => by rw [SS.app, SS.us, SS.us, app_us r b]; simp only [List.append_assoc]
theorem app_ok : ∀ a b : SS, (a.app b).ok = (a.ok && b.ok)
  | .nil, _ => rfl
  | .cons op s n l x y r, b => by rw [SS.app, SS.ok, SS.ok, app_ok r b]; simp only [Bool.and_assoc]
theorem app_deep : ∀ a b : SS, (a.app b).deep = max a.deep b.deep
  | .nil, b => by have := SS.deep_nn b; simp only [SS.app, SS.deep]; omega
  | .cons op s n l x y r, b => by rw [SS.app, SS.deep, SS.deep, app_deep r b]; omega
theorem app_cnt : ∀ a b : SS, (a.app b).cnt = a.cnt + b.cnt
  | .nil, b => by simp only [SS.app, SS.cnt]; omega
  | .cons op s n l x y r, b => by rw [SS.app, SS.cnt, SS.cnt, app_cnt r b]; omega
theorem app_cS (s : Sp) (pl : ByteArray → Int) : ∀ (a b : SS) (k : Nat), cS s pl (a.app b) k = cS s pl a k ++ cS s pl b (k + (cS s pl a k).length)
  | .nil, b, k => by simp [SS.app, cS]
  | .cons op x m l y e r, b, k => by
    rw [SS.app]
    simp only [cS]
    rw [app_cS s pl r b, List.append_assoc, List.length_append]
    simp only [Nat.add_assoc]
theorem prn_us (n : Nat) : (prn n).us = [] := rfl
theorem prn_ok (n : Nat) (hn : n ≤ 4611686018427387903) : (prn n).ok = true := by
  have h1 : ((n : Int) ≤ 9223372036854775807) := by omega
  have h2 : ((0 : Int) ≤ (n : Int)) := by omega
  simp [prn, SS.ok, ES.ok, fitP, fitQ, shOf, exprT, stmtT, namedB, sh0, ES.len, SS.len, noz, h1, h2]
theorem prn_deep (n : Nat) : (prn n).deep = 2 := by simp only [prn, SS.deep, ES.deep]; decide +kernel
theorem prn_cS (s : Sp) (pl : ByteArray → Int) (n k : Nat) : cS s pl (prn n) k = [(1, 0, (n : Int)), (19, 0, 0)] := by
  simp [prn, cS, cE, stI, mkI, doI]
theorem add_right {p : Pg} (n : Nat) (hn : n ≤ 4611686018427387903) (h : rightN p = 0) : rightN (addPg p n) = 0 := by
  unfold rightN at h ⊢
  split at h
  · rename_i h1
    split at h
    · cases h
    · rename_i h2
      rw [Bool.and_eq_true, Pg.pts, okL_append, Bool.and_eq_true, SS.okL] at h1
      rw [Pg.pts, deepL_append, SS.deepL] at h2
      have e1 : okL (addPg p n).pts = true := by
        rw [Pg.pts, okL_append, SS.okL]
        show (okL (fsPts p.fs) && (p.m.app (prn n)).ok) = true
        rw [app_ok, h1.2.1, h1.2.2, prn_ok n hn]
        rfl
      have e2 : ¬ 64 < deepL (addPg p n).pts := by
        rw [Pg.pts, deepL_append, SS.deepL]
        show ¬ 64 < max (deepL (fsPts p.fs)) (p.m.app (prn n)).deep
        rw [app_deep, prn_deep]
        omega
      have e3 : funcsB (addPg p n).fs = true := h1.1
      rw [if_pos (by rw [e1, e3]; rfl), if_neg e2]
  · cases h
theorem add_g (p : Pg) (n : Nat) (ar : ByteArray → Option Nat) : gFn ar (mainF (addPg p n)) = gFn ar (mainF p) := by
  rw [gFn_def, gFn_def]
  show Gt.run ar _ (p.m.app (prn n)).us = Gt.run ar _ p.m.us
  rw [app_us, prn_us, List.append_nil]
  rfl
theorem add_ok (p : Pg) (n : Nat) (ar : ByteArray → Option Nat) : okFn ar (mainF (addPg p n)) = okFn ar (mainF p) := by unfold okFn; rw [add_g]
theorem add_sp (p : Pg) (n : Nat) (ar : ByteArray → Option Nat) : spFn ar (mainF (addPg p n)) = spFn ar (mainF p) := by unfold spFn; rw [add_g]; rfl
theorem add_scopes (p : Pg) (n : Nat) : scopes (addPg p n) = scopes p := by
  unfold scopes
  rw [List.map_cons, List.map_cons]
  show spFn (arF p.fs) (mainF (addPg p n)) :: _ = _
  rw [add_sp]
  rfl
theorem add_err {p : Pg} (n : Nat) (hn : n ≤ 4611686018427387903) (h : resErr p = 0) : resErr (addPg p n) = 0 := by
  have hr := (nar_of h).1
  have h2 : (distinctN p.fs && (mainF p :: p.fs).all (okFn (arF p.fs))) = true := by
    cases h3 : (distinctN p.fs && (mainF p :: p.fs).all (okFn (arF p.fs))) with
    | true => rfl
    | false => rw [err_name hr h3] at h; cases h
  have h3 : (scopes p).any Sp.full = false := by
    rw [err_ok hr h2] at h
    cases h4 : (scopes p).any Sp.full with
    | false => rfl
    | true => rw [h4] at h; cases h
  rw [err_ok (add_right n hn hr) (by
    show (distinctN p.fs && (mainF (addPg p n) :: p.fs).all (okFn (arF p.fs))) = true
    rw [List.all_cons, add_ok, ← List.all_cons]
    exact h2), add_scopes, h3]
  rfl
/-- Main's function has two instructions more, ahead of the last two; all others are the same. -/
theorem add_cmp (p : Pg) (n : Nat) : ∃ (s : Sp) (C : List In3), (cFns p) = ⟨s.s, s.n, s.vs.length, s.xs.length, C ++ [(1, 0, 0), (18, 0, 0)]⟩ :: p.fs.map (fcP p) ∧
    cFns (addPg p n) = ⟨s.s, s.n, s.vs.length, s.xs.length, C ++ [(1, 0, (n : Int)), (19, 0, 0), (1, 0, 0), (18, 0, 0)]⟩ :: p.fs.map (fcP p) := by
  refine ⟨spFn (arF p.fs) (mainF p), cS (spFn (arF p.fs) (mainF p)) (plOf (scopes p)) p.m 0, ?_, ?_⟩
  · rfl
  · unfold cFns
    rw [List.map_cons]
    congr 1
    · unfold fcP fcOf
      rw [add_scopes]
      show (⟨_, _, _, _, _⟩ : Fc) = _
      rw [show (addPg p n).fs = p.fs from rfl, add_sp]
      unfold fnL
      rw [show (mainF (addPg p n)).b = p.m.app (prn n) from rfl, app_cS, prn_cS]
      simp
theorem add_cnt (p : Pg) (n : Nat) : cntL (addPg p n).pts = cntL p.pts + 2 := by
  rw [Pg.pts, Pg.pts, cntL_append, cntL_append, SS.cntL, SS.cntL]
  show cntL (fsPts p.fs) + (p.m.app (prn n)).cnt = _
  rw [app_cnt]
  simp only [prn, SS.cnt, ES.cnt]
  omega
end Go.Proofs.YtnilklgnpfgieaaDoor

/-
  CompileAdds: rows of both codes; the first instructions of a row.
-/
namespace Go.Proofs.YtnilklgnpfgieaaDoor
open Go Go.RowKit Go.Lib

theorem InsIn.take {W : World} : ∀ {L : List In3} {b o : Nat} (k : Nat), InsIn W L b o → InsIn W (L.take k) b o
  | [], _, _, k, _ => by rw [List.take_nil]; trivial
  | _ :: _, _, _, 0, _ => trivial
  | (op, a, n) :: r, b, o, k + 1, ⟨h0, h1, h2, h3, h4⟩ => ⟨h0, h1, h2, h3, InsIn.take k h4⟩
theorem inv_take {B : Nat} {W : World} {A : Option Addr} {n cap k : Nat} {L : List In3} (h : InV B W (.slice A n cap) L) (hk : k ≤ n) : InV B W (.slice A k cap) (L.take k) := by
  obtain ⟨A1, c1, e, h1, h2, h3⟩ := h
  injection e with e1 e2 e3
  subst e1 e2 e3
  have hl : (L.take k).length = k := by rw [List.length_take]; omega
  refine ⟨A, cap, by rw [hl], by rw [hl]; omega, h2, fun h0 => ?_⟩
  rw [hl] at h0
  obtain ⟨b, q, hA, hb, hin⟩ := h3 (by omega)
  exact ⟨b, q, hA, hb, hin.take k⟩
theorem take_app (C : List In3) (l : List In3) : (C ++ l).take C.length = C := by rw [List.take_left']; rfl
/-- The rows of both codes at a function but main. -/
theorem add_row {p : Pg} {n : Nat} {W : World} {g o g2 o2 k : Nat} (h1 : FcIn W.heap.size W (cFns p) g o) (h2 : FcIn W.heap.size W (cFns (addPg p n)) g2 o2) (hc : cntL p.pts ≤ 2000000) (hk : k < p.fs.length) :
    ∃ (L : List In3) (A4 A5 : Option Addr) (c4 c5 : Nat), W.cell? ⟨g, o + (k + 1) * 5 + 4, none⟩ = some (.slice A4 L.length c4) ∧ W.cell? ⟨g2, o2 + (k + 1) * 5 + 4, none⟩ = some (.slice A5 L.length c5) ∧ InV W.heap.size W (.slice A4 L.length c4) L ∧ InV W.heap.size W (.slice A5 L.length c5) L ∧ 0 < L.length ∧ L.length ≤ 10000000 := by
  obtain ⟨s, C, e1, e2⟩ := add_cmp p n
  obtain ⟨f, hf⟩ : ∃ f, p.fs[k]? = some f := ⟨_, List.getElem?_eq_getElem hk⟩
  have q1 : (cFns p)[k + 1]? = some (fcP p f) := by rw [e1, List.getElem?_cons_succ, List.getElem?_map, hf]; rfl
  have q2 : (cFns (addPg p n))[k + 1]? = some (fcP p f) := by rw [e2, List.getElem?_cons_succ, List.getElem?_map, hf]; rfl
  obtain ⟨_, _, _, _, v4, b4, hv4⟩ := FcIn.at_ h1 q1
  obtain ⟨_, _, _, _, v5, b5, hv5⟩ := FcIn.at_ h2 q2
  obtain ⟨A4, c4, rfl, _⟩ := id hv4
  obtain ⟨A5, c5, rfl, _⟩ := id hv5
  have hL : (fcP p f).L = fnL (spFn (arF p.fs) f) (plOf (scopes p)) f.b := rfl
  have hcc : cntL (fsPts p.fs) + p.m.cnt ≤ 2000000 := by simpa [Pg.pts, cntL_append, SS.cntL] using hc
  have hm := cnt_mem (List.mem_of_getElem? hf)
  have hs := fnL_small (spFn (arF p.fs) f) (plOf (scopes p)) f.b
  refine ⟨(fcP p f).L, A4, A5, c4, c5, b4, b5, hv4, hv5, ?_, ?_⟩
  · rw [hL]; simp [fnL]
  · rw [hL]; omega
end Go.Proofs.YtnilklgnpfgieaaDoor

