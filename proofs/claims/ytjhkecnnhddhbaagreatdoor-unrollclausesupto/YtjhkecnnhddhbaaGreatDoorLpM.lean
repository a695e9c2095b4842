/- What must be in any case, reckoned: the clauses of searchBegun. -/
import Derived.Test.YtjhkecnnhddhbaaGreatDoorLf
import Derived.RangeFuncNested
import Derived.RangeFuncBound
import Derived.RangeFuncCalls
import Derived.RangeFuncLeaves
import Derived.Sort.QuietIn
import Derived.WalkKit
import Derived.OwnWalkIn
import Derived.TacticsInMore
import Derived.LoopNIn
import Derived.LoopIn
import Derived.OrdersIn
import Derived.Shelf.Abstract
namespace Go.Proofs.YtjhkecnnhddhbaaGreatDoor.Sr
open Go.Proofs.YtjhkecnnhddhbaaGreatDoor.Pf
set_option maxRecDepth 100000
def c3 : List (List Int) := [[1, 2], [1, -2], [-1, 2]]
theorem m0 : ([1, 2] : List Int).mergeSort (fun x y => decide (x ≤ y)) = [1, 2] := by simp [List.mergeSort, List.MergeSort.Internal.splitInTwo]
theorem m1 : ([1, -2] : List Int).mergeSort (fun x y => decide (x ≤ y)) = [-2, 1] := by simp [List.mergeSort, List.MergeSort.Internal.splitInTwo]
theorem m2 : ([-1, 2] : List Int).mergeSort (fun x y => decide (x ≤ y)) = [-1, 2] := by simp [List.mergeSort, List.MergeSort.Internal.splitInTwo]
theorem m3 : ([1] : List Int).mergeSort (fun x y => decide (x ≤ y)) = [1] := by simp
theorem l0 : layD [] [1, 2] = [1, 2] := by unfold layD sortC; rw [m0]; rfl
theorem l1 : layD [] [1, -2] = [-2, 1] := by unfold layD sortC; rw [m1]; rfl
theorem l2 : layD [] [-1, 2] = [-1, 2] := by unfold layD sortC; rw [m2]; rfl
theorem l3 : layD [] [1] = [1] := by unfold layD sortC; rw [m3]; rfl
def B3 : Bd := ((Bd.nil.add [1, 2]).add [-2, 1]).add [-1, 2]
def B4 : Bd := B3.choose (-1)
structure Lz where
 S : Sx
 op : Int
 oth : List Int
end Go.Proofs.YtjhkecnnhddhbaaGreatDoor.Sr

namespace Go.Proofs.YtjhkecnnhddhbaaGreatDoor.Sr
open Go.RowKit Go.Maps Go.Proofs.YtjhkecnnhddhbaaGreatDoor.Pf
set_option maxRecDepth 100000
end Go.Proofs.YtjhkecnnhddhbaaGreatDoor.Sr

namespace Go.Proofs.YtjhkecnnhddhbaaGreatDoor.Sr
open Go.RowKit Go.Maps Go.Proofs.YtjhkecnnhddhbaaGreatDoor.Pf
set_option maxRecDepth 100000
end Go.Proofs.YtjhkecnnhddhbaaGreatDoor.Sr

namespace Go.Proofs.YtjhkecnnhddhbaaGreatDoor.Sr
open Go.RowKit Go.Maps Go.Proofs.YtjhkecnnhddhbaaGreatDoor.Pf
set_option maxRecDepth 100000
section
variable {base : Nat} {w : World} {s : Nat} {XB XQ : Nat → Prop} {R nS nW q gp gw gm gl : Nat} {vh vl vp : Value} {S : Sx}
end
end Go.Proofs.YtjhkecnnhddhbaaGreatDoor.Sr

namespace Go.Proofs.YtjhkecnnhddhbaaGreatDoor.Sr
open Go.RowKit Go.Maps Go.Proofs.YtjhkecnnhddhbaaGreatDoor.Pf
set_option maxRecDepth 100000
section
variable {base : Nat} {w : World} {s : Nat} {XB XQ : Nat → Prop} {R nS nW q gp gw gm gl : Nat} {vh vl vp : Value} {S : Sx}
end
end Go.Proofs.YtjhkecnnhddhbaaGreatDoor.Sr

namespace Go.Proofs.YtjhkecnnhddhbaaGreatDoor.Sr
open Go.RowKit Go.Maps Go.Proofs.YtjhkecnnhddhbaaGreatDoor.Pf
set_option maxRecDepth 100000
section
variable {F : Fence} {n : Nat} {P : Program} {ps : Array Tmp} {assign body : Code} {B : Nat}
end
end Go.Proofs.YtjhkecnnhddhbaaGreatDoor.Sr

namespace Go.Proofs.YtjhkecnnhddhbaaGreatDoor.Sr
open Go.RowKit Go.Maps Go.Proofs.YtjhkecnnhddhbaaGreatDoor.Pf
set_option maxRecDepth 100000
attribute [local go_sem] Oper.semAt_some
end Go.Proofs.YtjhkecnnhddhbaaGreatDoor.Sr

namespace Go.Proofs.YtjhkecnnhddhbaaGreatDoor.Sr
open Go.RowKit Go.Maps Go.Proofs.YtjhkecnnhddhbaaGreatDoor.Pf
set_option maxRecDepth 100000
theorem own_append {w : World} {vo : Value} {l : List Int} (h : w.ownsRow 0 3 1 vo l.length (l.map (Value.int .i64))) (v : Int) (hl : l.length < 1000000) (ty : TypeId) :
   ∃ vo' w', (Builtin.append_ #[25, 25] ty #[vo, .slice (some ⟨w.heap.size, 0, none⟩) 1 1]).run Tryz.prog (w.alloc (.cells #[.int .i64 v] 3)) = .ok vo' w' ∧ (∃ p c, vo' = .slice p (l.length + 1) c) ∧ w'.ownsRow 0 3 1 vo' (l ++ [v]).length ((l ++ [v]).map (Value.int .i64)) ∧ (∀ k, vo'.ownBlock = some k → vo.ownBlock = some k ∨ w.heap.size < k) ∧ (∀ k, k < w.heap.size → vo.ownBlock ≠ some k → w'.heap[k]? = w.heap[k]?) ∧ w.heap.size ≤ w'.heap.size ∧ w'.os = w.os ∧ w'.tape = w.tape ∧ w'.output = w.output := by
 obtain ⟨i0, hi, hz0, hz1, hz2⟩ := info_parts info3
 have hal : Below w.heap.size w (w.alloc (.cells #[.int .i64 v] 3)) := bal (Below.refl _ _) _
 have hown := h.alloc (.cells #[.int .i64 v] 3)
 obtain ⟨vh', w', hr, ho, hg, _⟩ := run_append_own (P := Tryz.prog) (w := w.alloc (.cells #[.int .i64 v] 3)) 0 25 ty 3 i0 (.int .i64 0) 1 8 Tryz.underlying25 hi hz0 hz1 hz2 rfl (by decide) vo l.length _ hown ⟨w.heap.size, 0, none⟩ 1 1 [.int .i64 v] rfl (one_newI _ w 3) (fun u hu => by simp at hu; subst hu; rfl) (by unfold maxLen; omega) (by omega) (Nat.zero_le _)
 have hsz := hg.size
 rw [World.size_alloc] at hsz
 have hold : ∀ k, k < w.heap.size → vo.ownBlock ≠ some k → w'.heap[k]? = w.heap[k]? := fun k hk hne => (hg.block k (by rw [World.size_alloc]; omega) (fun e => hne e.symm)).trans (hal.block k hk)
 have hnew : ∀ k, vh'.ownBlock = some k → vo.ownBlock = some k ∨ w.heap.size < k := by
   intro k hk
   rcases hown.2 with ⟨rfl, h0⟩ | ⟨g, cap, cur, rfl, _, hg', hn, hm, hs, ht⟩
   · have h2 := run_append_nil (P := Tryz.prog) (w.alloc (.cells #[.int .i64 v] 3)) 25 ty 3 i0 (.int .i64 0) Tryz.underlying25 hi hz0 ⟨w.heap.size, 0, none⟩ 1 1 [.int .i64 v] (by rw [hz1]; rfl) (one_newI _ w 3) (by decide) (by decide) (by rw [hz2]; decide)
     rw [hr] at h2
     injection h2 with h2
     subst h2
     simp [Value.ownBlock] at hk
     exact .inr (by omega)
   · by_cases hroom : l.length + 1 ≤ cap
     · have h2 := run_append_room (P := Tryz.prog) (w.alloc (.cells #[.int .i64 v] 3)) 25 ty 3 i0 Tryz.underlying25 hi g l.length cap cur hg' ⟨w.heap.size, 0, none⟩ 1 1 [.int .i64 v] (by rw [hz1]; rfl) (one_newI _ w 3) (fun u hu => by simp at hu; subst hu; rfl) hroom (by rw [hz1, hs]; simp; omega)
       rw [hr] at h2
       injection h2 with h2
       subst h2
       exact .inl hk
     · have h2 := run_append_grow (P := Tryz.prog) (w.alloc (.cells #[.int .i64 v] 3)) 25 ty 3 i0 (.int .i64 0) Tryz.underlying25 hi hz0 ⟨g, 0, none⟩ l.length cap (l.map (Value.int .i64)) (by rw [hz1]; simp) (hown.cells (g := g) rfl) ⟨w.heap.size, 0, none⟩ 1 1 [.int .i64 v] (by rw [hz1]; rfl) (one_newI _ w 3) (by omega) (by omega) (growslice_fits (by omega) (by rw [hz2]; omega))
       rw [hr] at h2
       injection h2 with h2
       subst h2
       simp [Value.ownBlock] at hk
       exact .inr (by omega)
 have ho' : w'.ownsRow 0 3 1 vh' (l ++ [v]).length ((l ++ [v]).map (Value.int .i64)) := by simpa using ho
 refine ⟨vh', w', hr, ?_, ho', hnew, hold, by omega, hg.os, hg.tape, hg.output⟩
 rcases ho'.2 with ⟨_, h0⟩ | ⟨g, cap, cur, e, _⟩
 · simp at h0
 · exact ⟨_, cap, by rw [e, List.length_append]; rfl⟩
section
variable (T : Lz) (x : Int) (l : List Int)
end
section
variable {base : Nat} {w : World} {s : Nat} {XB XQ : Nat → Prop} {R nS nW q gp gw gm gl : Nat} {vh vl vp : Value} {S : Sx}
end
structure Free (base s : Nat) (XB XQ : Nat → Prop) (gm gl g : Nat) : Prop where
 b : ¬ XB g
 q : ¬ XQ g
 m : g ≠ gm
 l : g ≠ gl
 s : g ≠ s
 base : base ≤ g
section
variable {base : Nat} {w : World} {s : Nat} {XB XQ : Nat → Prop} {R nS nW q gp gw gm gl : Nat} {vh vl vp : Value} {gs go gt : Nat} {vo : Value} {T : Lz}
end
end Go.Proofs.YtjhkecnnhddhbaaGreatDoor.Sr

namespace Go.Proofs.YtjhkecnnhddhbaaGreatDoor.Sr
open Go.RowKit Go.Maps Go.Proofs.YtjhkecnnhddhbaaGreatDoor.Pf
set_option maxRecDepth 100000
section
variable {l n : Nat} {P : Program} {ops : Array Oper} {Q : Exit → Act → World → Prop} {md : Region.Mode}
end
section
variable {w0 : World} {vo0 : Value} {base s : Nat} {XB XQ : Nat → Prop} {R nS nW q gp gw gm gl : Nat} {vh vl vp : Value} {gs go gt g1 cg : Nat} {c : List Int} {T : Lz} {W : World}
end
end Go.Proofs.YtjhkecnnhddhbaaGreatDoor.Sr

namespace Go.Proofs.YtjhkecnnhddhbaaGreatDoor.Sr
open Go.RowKit Go.Maps Go.Proofs.YtjhkecnnhddhbaaGreatDoor.Pf Go.Shelf
set_option maxRecDepth 100000
attribute [local go_sem] Oper.semAt_some
end Go.Proofs.YtjhkecnnhddhbaaGreatDoor.Sr
