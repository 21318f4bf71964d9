/-
  Two programs as one: right, and its text. Plain.
-/
import Derived.Test.YtppagjhmlgkamaaGreatDoorCz5
import Derived.Test.YtppagjhmlgkamaaGreatDoorCnZr
import Derived.Test.YtppagjhmlgkamaaGreatDoorCrAr
namespace Go.Proofs.YtppagjhmlgkamaaGreatDoor
open Go Go.RowKit Go.Lib

theorem SS.txt_app : ∀ (a b : SS) (k : Nat), (a.app b).txt k = a.txt k ++ b.txt k
  | .nil, _, _ => rfl
  | .cons op s n l x y r, b, k => by rw [SS.app, SS.txt, SS.txt, SS.txt_app r b k]; simp
theorem fsX_app : ∀ a b : List Fn, fsX (a ++ b) = fsX a ++ fsX b
  | [], _ => rfl
  | f :: r, b => by rw [List.cons_append, fsX, fsX, fsX_app r b, List.append_assoc]
theorem SS.ok_app : ∀ a b : SS, (a.app b).ok = (a.ok && b.ok)
  | .nil, _ => rfl
  | .cons op s n l x y r, b => by rw [SS.app, SS.ok, SS.ok, SS.ok_app r b]; simp only [Bool.and_assoc]
theorem SS.deep_app : ∀ a b : SS, (a.app b).deep = max a.deep b.deep
  | .nil, b => by have := SS.deep_nn b; simp only [SS.app, SS.deep]; omega
  | .cons op s n l x y r, b => by rw [SS.app, SS.deep, SS.deep, SS.deep_app r b]; omega
theorem SS.cnt_app : ∀ a b : SS, (a.app b).cnt = a.cnt + b.cnt
  | .nil, b => by simp only [SS.app, SS.cnt]; omega
  | .cons op s n l x y r, b => by rw [SS.app, SS.cnt, SS.cnt, SS.cnt_app r b]; omega
theorem fsPts_app : ∀ a b : List Fn, fsPts (a ++ b) = fsPts a ++ fsPts b
  | [], _ => rfl
  | f :: r, b => by rw [List.cons_append, fsPts, fsPts, fsPts_app r b, List.append_assoc]
theorem fsOk_app : ∀ a b : List Fn, fsOk (a ++ b) = (fsOk a && fsOk b)
  | [], _ => rfl
  | f :: r, b => by rw [List.cons_append, fsOk, fsOk, fsOk_app r b]; simp only [Bool.and_assoc]
theorem right_parts {p : Pg} (h : rightN p = 0) : (p.fs.length ≤ 32 ∧ fsOk p.fs = true) ∧ (okL (fsPts p.fs) = true ∧ p.m.ok = true) ∧ deepL (fsPts p.fs) ≤ 64 ∧ p.m.deep ≤ 64 := by
  unfold rightN at h
  split at h
  · rename_i hq
    split at h
    · cases h
    · rename_i h64
      simp only [Bool.and_eq_true, Pg.pts, okL_append, SS.okL] at hq
      simp only [Pg.pts, deepL_append, SS.deepL] at h64
      have hf := hq.1
      unfold funcsB at hf
      simp only [Bool.and_eq_true, decide_eq_true_eq] at hf
      exact ⟨hf, hq.2, by omega, by omega⟩
  · cases h
theorem right_of {p : Pg} (h1 : p.fs.length ≤ 32) (h2 : fsOk p.fs = true) (h3 : okL (fsPts p.fs) = true) (h4 : p.m.ok = true) (h5 : deepL (fsPts p.fs) ≤ 64) (h6 : p.m.deep ≤ 64) : rightN p = 0 := by
  unfold rightN
  have a : (funcsB p.fs && okL p.pts) = true := by
    simp only [Bool.and_eq_true, Pg.pts, okL_append, SS.okL]
    unfold funcsB
    simp only [Bool.and_eq_true, decide_eq_true_eq]
    exact ⟨⟨h1, h2⟩, h3, h4⟩
  have b : ¬ 64 < deepL p.pts := by
    simp only [Pg.pts, deepL_append, SS.deepL]
    omega
  rw [if_pos a, if_neg b]
theorem both_text {p q : Pg} (hp : rightN p = 0) (hq : rightN q = 0) (hl : p.fs.length + q.fs.length ≤ 32) : textP ⟨p.fs ++ q.fs, p.m.app q.m⟩ = fsX p.fs ++ fsX q.fs ++ p.m.txt 0 ++ q.m.txt 0 := by
  obtain ⟨⟨a1, a2⟩, ⟨a3, a4⟩, a5, a6⟩ := right_parts hp
  obtain ⟨⟨b1, b2⟩, ⟨b3, b4⟩, b5, b6⟩ := right_parts hq
  have hr : rightN ⟨p.fs ++ q.fs, p.m.app q.m⟩ = 0 := right_of (by simp only [List.length_append]; omega) (by rw [fsOk_app, a2, b2]; rfl) (by rw [fsPts_app, okL_append, a3, b3]; rfl) (by rw [SS.ok_app, a4, b4]; rfl) (by rw [fsPts_app, deepL_append]; omega) (by rw [SS.deep_app]; omega)
  unfold textP
  rw [if_pos hr]
  show fsX (p.fs ++ q.fs) ++ (p.m.app q.m).txt 0 = _
  rw [fsX_app, SS.txt_app]
  simp
theorem main_txt {p : Pg} (hp : rightN p = 0) : textP ⟨[], p.m⟩ = p.m.txt 0 := by
  obtain ⟨⟨a1, a2⟩, ⟨a3, a4⟩, a5, a6⟩ := right_parts hp
  have hr : rightN ⟨[], p.m⟩ = 0 := right_of (Nat.zero_le _) rfl rfl a4 (show (0 : Int) ≤ 64 by decide) a6
  unfold textP
  rw [if_pos hr]
  rfl
theorem fns_txt {p : Pg} (hp : rightN p = 0) : textP ⟨p.fs, .nil⟩ = fsX p.fs := by
  obtain ⟨⟨a1, a2⟩, ⟨a3, a4⟩, a5, a6⟩ := right_parts hp
  have hr : rightN ⟨p.fs, .nil⟩ = 0 := right_of a1 a2 a3 rfl a5 (show (0 : Int) ≤ 64 by decide)
  unfold textP
  rw [if_pos hr]
  show fsX p.fs ++ [] = _
  rw [List.append_nil]
theorem both_cnt (p q : Pg) : cntL (Pg.pts ⟨p.fs ++ q.fs, p.m.app q.m⟩) = cntL p.pts + cntL q.pts := by
  simp only [Pg.pts, fsPts_app, cntL_append, SS.cntL, SS.cnt_app]
  omega
end Go.Proofs.YtppagjhmlgkamaaGreatDoor
