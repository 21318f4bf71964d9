/-
  CompileApart, plainly: the code of a program without the bodies of its functions.
-/
import Derived.Test.YtnilklgnpfgieaaDoorCpT
namespace Go.Proofs.YtnilklgnpfgieaaDoor
open Go Go.RowKit Go.Lib

def bare (f : Fn) : Fn := ⟨f.s, f.ps, .nil⟩
def barePg (p : Pg) : Pg := ⟨p.fs.map bare, p.m⟩
theorem arF_bare (fs : List Fn) : arF (fs.map bare) = arF fs := by
  funext s
  unfold arF
  rw [List.foldl_map]
  rfl
theorem distinct_bare (fs : List Fn) : distinctN (fs.map bare) = distinctN fs := by
  unfold distinctN
  rw [List.map_map]
  rfl
theorem fsPts_bare : ∀ fs : List Fn, fsPts (fs.map bare) = []
  | [] => rfl
  | f :: r => by rw [List.map_cons, fsPts, fsPts_bare r]; rfl
theorem fsOk_bare : ∀ fs : List Fn, fsOk (fs.map bare) = fsOk fs
  | [] => rfl
  | f :: r => by rw [List.map_cons, fsOk, fsOk, fsOk_bare r]; rfl
theorem bare_pts (p : Pg) : (barePg p).pts = p.m.pts := by
  unfold Pg.pts barePg
  rw [fsPts_bare]
  rfl
theorem bare_right {p : Pg} (h : rightN p = 0) : rightN (barePg p) = 0 := by
  unfold rightN at h ⊢
  split at h
  · rename_i h1
    split at h
    · cases h
    · rename_i h2
      rw [Bool.and_eq_true] at h1
      rw [Pg.pts, deepL_append] at h2
      rw [Pg.pts, okL_append, Bool.and_eq_true] at h1
      rw [bare_pts]
      have e1 : funcsB (barePg p).fs = true := by
        have := h1.1
        unfold funcsB barePg at *
        rw [List.length_map, fsOk_bare]
        exact this
      rw [if_pos (by rw [e1, h1.2.2]; rfl), if_neg (by omega)]
  · cases h
theorem run_okF (ar : ByteArray → Option Nat) : ∀ (l : List Us) (g : Gt), (Gt.run ar g l).ok = true → g.ok = true
  | [], _, h => h
  | u :: r, g, h => by
    have := run_okF ar r (Gt.step ar g u) h
    cases u with
    | call s n => simp only [Gt.step, Bool.and_eq_true] at this; exact this.1
    | _ => exact this
theorem bare_gFn (ar : ByteArray → Option Nat) (f : Fn) (h : okFn ar f = true) : (gFn ar (bare f)).vs.length = f.ps.length ∧ (gFn ar (bare f)).xs = [] ∧ okFn ar (bare f) = true := by
  unfold okFn at h ⊢
  rw [Bool.and_eq_true, gFn_def] at h
  have h1 := run_okF _ _ _ h.1
  simp only [decide_eq_true_eq] at h1
  have hx := (gParF_xs f.ps g0).1
  rw [gFn_def]
  show (gParF f.ps g0).vs.length = _ ∧ (gParF f.ps g0).xs = [] ∧ (decide ((gParF f.ps g0).vs.length = f.ps.length) && Gt.agree { gParF f.ps g0 with ok := decide ((gParF f.ps g0).vs.length = f.ps.length) }) = true
  have hx : (gParF f.ps g0).xs = [] := hx
  refine ⟨h1, hx, ?_⟩
  unfold Gt.agree
  simp only [hx, h1]
  simp
theorem bare_err {p : Pg} (h : resErr p = 0) : resErr (barePg p) = 0 := by
  have hr := (nar_of h).1
  have h2 : (distinctN p.fs && (mainF p :: p.fs).all (okFn (arF p.fs))) = true := by
    cases h3 : (distinctN p.fs && (mainF p :: p.fs).all (okFn (arF p.fs))) with
    | true => rfl
    | false => rw [err_name hr h3] at h; cases h
  have h3 : (scopes p).any Sp.full = false := by
    rw [err_ok hr h2] at h
    cases h4 : (scopes p).any Sp.full with
    | false => rfl
    | true => rw [h4] at h; cases h
  rw [Bool.and_eq_true, List.all_cons, Bool.and_eq_true, List.all_eq_true] at h2
  have hb : ∀ f, f ∈ p.fs → okFn (arF p.fs) f = true := fun f hf => h2.2.2 f hf
  rw [err_ok (bare_right hr) (by
    show (distinctN (p.fs.map bare) && (mainF p :: p.fs.map bare).all (okFn (arF (p.fs.map bare)))) = true
    rw [distinct_bare, arF_bare, h2.1, List.all_cons, h2.2.1, Bool.true_and, Bool.true_and, List.all_eq_true]
    intro f hf
    obtain ⟨x, hx, rfl⟩ := List.mem_map.1 hf
    exact (bare_gFn _ x (hb x hx)).2.2)]
  have h4 : (scopes (barePg p)).any Sp.full = false := by
    unfold scopes at h3 ⊢
    rw [List.map_cons, List.any_cons, Bool.or_eq_false_iff] at h3
    show (List.map (spFn (arF (p.fs.map bare))) (mainF p :: p.fs.map bare)).any Sp.full = false
    rw [arF_bare, List.map_cons, List.any_cons, h3.1, Bool.false_or, List.any_eq_false]
    intro s hs
    obtain ⟨f, hf, rfl⟩ := List.mem_map.1 hs
    obtain ⟨x, hx, rfl⟩ := List.mem_map.1 hf
    obtain ⟨g1, g2, _⟩ := bare_gFn (arF p.fs) x (hb x hx)
    have h8 := (right_lims hr).2 x hx
    simp only [Sp.full, spFn, g1, g2, List.length_nil, Bool.or_eq_true, decide_eq_true_eq]
    omega
  rw [h4]
  rfl
theorem plG_names : ∀ (a b : List Sp) (k : Nat) (d : Int) (s : ByteArray), a.map (·.s) = b.map (·.s) → plG a k d s = plG b k d s
  | [], [], _, _, _, _ => rfl
  | [], _ :: _, _, _, _, h => by cases h
  | _ :: _, [], _, _, _, h => by cases h
  | x :: a, y :: b, k, d, s, h => by
    rw [List.map_cons, List.map_cons] at h
    injection h with h1 h2
    unfold plG
    rw [h1]
    exact plG_names a b (k + 1) _ s h2
theorem bare_pl (p : Pg) : plOf (scopes (barePg p)) = plOf (scopes p) := by
  funext s
  unfold plOf
  apply plG_names
  unfold scopes barePg
  simp only [List.map_cons, List.map_map]
  rfl
/-- Main's function is the same; all others are Push of 0, and Return. -/
theorem bare_cmp {p : Pg} (h : resErr p = 0) : cFns (barePg p) = fcP p (mainF p) :: p.fs.map (fun f => ⟨f.s, f.ps.length, f.ps.length, 0, [(1, 0, 0), (18, 0, 0)]⟩) := by
  have hr := (nar_of h).1
  have h2 : (distinctN p.fs && (mainF p :: p.fs).all (okFn (arF p.fs))) = true := by
    cases h3 : (distinctN p.fs && (mainF p :: p.fs).all (okFn (arF p.fs))) with
    | true => rfl
    | false => rw [err_name hr h3] at h; cases h
  rw [Bool.and_eq_true, List.all_cons, Bool.and_eq_true, List.all_eq_true] at h2
  unfold cFns
  rw [List.map_cons]
  congr 1
  · unfold fcP fcOf
    rw [bare_pl]
    show (⟨_, _, _, _, _⟩ : Fc) = _
    rw [show (barePg p).fs = p.fs.map bare from rfl, arF_bare]
    rfl
  · show List.map _ (p.fs.map bare) = _
    rw [List.map_map]
    apply List.map_congr_left
    intro f hf
    obtain ⟨g1, g2, _⟩ := bare_gFn (arF p.fs) f (h2.2.2 f hf)
    show fcP (barePg p) (bare f) = _
    unfold fcP fcOf
    rw [show (barePg p).fs = p.fs.map bare from rfl, arF_bare]
    simp only [spFn, g1, g2]
    rfl
theorem fnL_small (s : Sp) (pl : ByteArray → Int) (b : SS) : (fnL s pl b).length ≤ 3 * b.cnt + 2 := by
  have := cS_len s pl b 0
  simp only [fnL, List.length_append, List.length_cons, List.length_nil]
  omega
theorem text_bare : (textT 0 [(1, 0, 0), (18, 0, 0)]).toArray = #[48, 32, 112, 117, 115, 104, 32, 48, 10, 49, 32, 114, 101, 116, 117, 114, 110, 10] := by decide +kernel
end Go.Proofs.YtnilklgnpfgieaaDoor
