/- Gates: the And of two literals of a graph. -/
import Derived.Test.YtjhkecnnhddhbaaGreatDoorGj
namespace Go.Proofs.YtjhkecnnhddhbaaGreatDoor
open Go.RowKit Go.Maps Go.WideMaps
set_option maxRecDepth 100000
set_option maxRecDepth 100000
set_option maxRecDepth 100000

/-- What And says. -/
def andE (ins : Int) (ps : List (Int × Int)) (a b : Int) : Int :=
  if chkE ins ps ≠ 0 then chkE ins ps else if [a, b].any (noLit (2 * (1 + ins + ps.length))) = true then 5 else if andOk ps a b = false then 2 else 0
def outIns (ins e : Int) : Int := if e = 0 then ins else 0
def outLit (ins : Int) (ps : List (Int × Int)) (a b e : Int) : Int := if e = 0 then andLit ins ps a b else 0
def outPs (ps : List (Int × Int)) (a b e : Int) : List (Int × Int) := if e = 0 then andPs ps a b else []

theorem out_no {ins : Int} {ps : List (Int × Int)} {a b e : Int} (h : e ≠ 0) : outIns ins e = 0 ∧ outLit ins ps a b e = 0 ∧ outPs ps a b e = [] := by
  unfold outIns outLit outPs; rw [if_neg h, if_neg h, if_neg h]; exact ⟨rfl, rfl, rfl⟩
theorem out_ok {ins : Int} {ps : List (Int × Int)} {a b : Int} : outIns ins 0 = ins ∧ outLit ins ps a b 0 = andLit ins ps a b ∧ outPs ps a b 0 = andPs ps a b := by
  unfold outIns outLit outPs; rw [if_pos rfl, if_pos rfl, if_pos rfl]; exact ⟨rfl, rfl, rfl⟩

/-- What And leaves. -/
def AndOut (w' : World) (e : Ending) (ins : Int) (ps : List (Int × Int)) (a b : Int) : Prop := ∃ pv cv,
  e = .returned (.tuple #[gval (outIns ins (andE ins ps a b)) pv (outPs ps a b (andE ins ps a b)).length cv, .int .i64 (outLit ins ps a b (andE ins ps a b)), .int .i64 (andE ins ps a b)]) ∧
      PairsAt w' pv (outPs ps a b (andE ins ps a b))
theorem andOut_no {w' : World} {ins : Int} {ps : List (Int × Int)} {a b e : Int} (he : andE ins ps a b = e) (hne : e ≠ 0) : AndOut w' (.returned (.tuple #[gval 0 none 0 0, .int .i64 0, .int .i64 e])) ins ps a b := by
  subst he
  obtain ⟨h1, h2, h3⟩ := out_no (ins := ins) (ps := ps) (a := a) (b := b) hne
  refine ⟨none, 0, ?_, ?_⟩
  · rw [h1, h2, h3]; rfl
  · rw [h3]; exact fun h => by simp at h
theorem andOut_ok {w' : World} {ins : Int} {ps : List (Int × Int)} {a b : Int} {pv : Option Addr} {cv : Nat} (he : andE ins ps a b = 0) (hp : PairsAt w' pv (andPs ps a b)) : AndOut w' (.returned (.tuple #[gval ins pv (andPs ps a b).length cv, .int .i64 (andLit ins ps a b), .int .i64 0])) ins ps a b := by
  obtain ⟨h1, h2, h3⟩ := out_ok (ins := ins) (ps := ps) (a := a) (b := b)
  unfold AndOut
  rw [he, h1, h2, h3]
  exact ⟨pv, cv, rfl, hp⟩

theorem two_any (f : Int → Bool) (a b : Int) : [a, b].any f = (f a || f b) := by simp

theorem pairs_two {w : World} {a b : Int} : IntsAt (w.alloc (.cells #[.int .i64 a, .int .i64 b] 3)) (some ⟨w.heap.size, 0, none⟩) [a, b] := fun _ => ⟨w.heap.size, 0, rfl, fun i hi => by
  match i, hi with
  | 0, _ => simp [go_sem]
  | 1, _ => simp [go_sem]⟩

end Go.Proofs.YtjhkecnnhddhbaaGreatDoor
