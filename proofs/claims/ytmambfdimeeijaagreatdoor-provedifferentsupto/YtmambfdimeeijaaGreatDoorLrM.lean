/- A searcher goes back to a level. -/
import Derived.Test.YtmambfdimeeijaaGreatDoorLcM
import Derived.Test.YtmambfdimeeijaaGreatDoorPga
import Derived.RangeFuncNested
import Derived.RangeFuncBound
import Derived.RangeFuncCalls
import Derived.RangeFuncLeaves
import Derived.Sort.QuietIn
import Derived.WalkKit
import Derived.OwnWalkIn
import Derived.TacticsInMore
import Derived.LoopNIn
import Derived.LoopIn
import Derived.Laws.ResultCell
namespace Go.Proofs.YtmambfdimeeijaaGreatDoor.Sr
open Go.RowKit Go.Maps Go.Proofs.YtmambfdimeeijaaGreatDoor.Pf
set_option maxRecDepth 100000
set_option maxRecDepth 100000
set_option autoImplicit false
end Go.Proofs.YtmambfdimeeijaaGreatDoor.Sr

namespace Go.Proofs.YtmambfdimeeijaaGreatDoor.Sr
open Go.RowKit Go.Maps Go.Proofs.YtmambfdimeeijaaGreatDoor.Pf
set_option maxRecDepth 100000
set_option maxRecDepth 100000
set_option autoImplicit false
end Go.Proofs.YtmambfdimeeijaaGreatDoor.Sr

namespace Go.Proofs.YtmambfdimeeijaaGreatDoor.Sr
open Go.RowKit Go.Maps Go.Proofs.YtmambfdimeeijaaGreatDoor.Pf
set_option maxRecDepth 100000
set_option maxRecDepth 100000
set_option autoImplicit false
def newSx (V : Nat) (B : Bd) (most : Int) : Sx := ⟨B, newQ V V, V, most, 0, List.replicate V 0, List.replicate (V + 1) 0, 100, 100⟩
theorem ser_new {base V : Nat} {W : World} {s R nS nW q gp gw gm gl a1 a2 b1 b2 : Nat} {XB XQ : Nat -> Prop} {vh vl : Value} {B : Bd} {most : Int}
 (hbk : W.heap[s]? = some (.cells #[.pointer (some ⟨R, 0, none⟩), .pointer (some ⟨q, 0, none⟩), .int .i64 V, vl, .int .i64 most, .slice none 0 0, .int .i64 0, .slice (some ⟨gm, 0, none⟩) V V, .slice (some ⟨gl, 0, none⟩) (V + 1) (V + 1), .int .i64 100, .int .i64 100] 212 (0, 0)))
 (hbd : BdAt W XB R nS nW B) (hq : Qm W XQ q gp gw vh (newQ V V)) (hgm : W.heap[gm]? = some (.cells (Array.replicate V (.int .i64 0)) 3 (0, 0))) (hgl : W.heap[gl]? = some (.cells (Array.replicate (V + 1) (.int .i64 0)) 3 (0, 0)))
 (hA : ∀ g, XB g -> a1 <= g /\ g < a2) (hB : ∀ g, XQ g -> b1 <= g /\ g < b2) (h1 : base <= a1 /\ a1 <= a2 /\ a2 <= b1 /\ b1 <= b2 /\ b2 <= s) (h2 : base <= gm /\ gm < s /\ (gm < a1 \/ (a2 <= gm /\ gm < b1) \/ b2 <= gm)) (h3 : base <= gl /\ gl < s /\ (gl < a1 \/ (a2 <= gl /\ gl < b1) \/ b2 <= gl)) (h4 : gm ≠ gl) :
 Ser base W s XB XQ R nS nW q gp gw gm gl vh vl (.slice none 0 0) (newSx V B most) := by
 refine ⟨by simp only [newSx, List.length_replicate]; exact hbk, hbd, hq, by rw [hgm]; simp [newSx], by rw [hgl]; simp [newSx], fun g ha hb => ?_, fun h => ?_, fun h => ?_, fun h => ?_, fun h => ?_, fun h => ?_, fun h => ?_, h4, fun g h => ?_, fun g h => ?_, by omega, by omega, by omega⟩
 · have := hA g ha; have := hB g hb; omega
 · have := hA _ h; omega
 · have := hB _ h; omega
 · have := hA _ h; omega
 · have := hB _ h; omega
 · have := hA _ h; omega
 · have := hB _ h; omega
 · have := hA g h; omega
 · have := hB g h; omega
theorem heap_new_at {w : World} {o : Obj} {k : Nat} (h : k = w.heap.size) : (w.alloc o).heap[k]? = some o := by
 subst h
 exact heap_alloc_new w o
theorem heap_drew_at {w : World} {k : Nat} : w.drew.heap[k]? = w.heap[k]? := rfl
theorem BdAt.later {w w1 : World} {X : Nat -> Prop} {R nS nW : Nat} {B : Bd} (h : BdAt w X R nS nW B) (hb : Below w.heap.size w w1) : BdAt w1 X R nS nW B := BdAt.apart h hb.size fun g hg => hb.block g (BdAt.xb h g hg)
def NsOut (w : World) (V : Nat) (L : List (List Int)) (vl : Value) (most : Int) (e : Ending) (w' : World) : Prop :=
 (∃ s R nS nW q gp gw gm gl vh B XB XQ, e = .returned (.pointer (some ⟨s, 0, none⟩)) /\ Ser w.heap.size w' s XB XQ R nS nW q gp gw gm gl vh vl (.slice none 0 0) (newSx V B most) /\ Inv V L (fun _ => False) B /\ (B.level = 0 /\ ∃ g f, spreadN g (addAll L) = some (B, f)) /\ (B.lost = false -> B.spread = B.sp.length) /\ B.cl.length <= L.length /\ nS <= 1000000000 /\ nW <= 1000000000000) /\ Below w.heap.size w w'
set_option maxHeartbeats 8000000 in
theorem newS_any (V : Nat) (hV : V <= 100000) (p : Option Addr) (cap : Nat) (rs : List Row) (hl : rs.length <= 800000) (hx : ∀ r ∈ rs, r.ns.length <= 200 /\ ∀ x ∈ r.ns, Num V x) (fuel : Int) (hf : 0 <= fuel /\ fuel <= 1000000000) (w : World) (hC : ClAt w p rs) :
 Calls Tryz.prog 177 #[cval V p rs.length cap, .int .i64 fuel] w (NsOut w V (rs.map (·.ns)) (.slice p rs.length cap) (fuel * 100)) := by
 have hb0 : Below w.heap.size w (w.alloc (.cells #[.int .i64 V, .slice p rs.length cap] 30)) := bal (Below.refl _ _) _
 have m0 : (w.alloc (.cells #[.int .i64 V, .slice p rs.length cap] 30)).cell? ⟨w.heap.size, 0, none⟩ = some (.int .i64 V) := by simp [go_sem]
 have m1 : (w.alloc (.cells #[.int .i64 V, .slice p rs.length cap] 30)).cell? ⟨w.heap.size, 1, none⟩ = some (.slice p rs.length cap) := by simp [go_sem]
 have HNW := hide (fun (W : World) (hb : Below (w.alloc (.cells #[.int .i64 V, .slice p rs.length cap] 30)).heap.size (w.alloc (.cells #[.int .i64 V, .slice p rs.length cap] 30)) W) => new_any V (by omega) V p cap rs hl hx W (hC.later (bthen hb0 hb)))
 have HNQ := hide (fun (W : World) => newQ_any V (by omega) W)
 have HB0 := hide hb0
 have HSW : Hid ((w.alloc (.cells #[.int .i64 V, .slice p rs.length cap] 30)).heap.size = w.heap.size + 1) := by unfold Hid; simp
 have hmk1 := make_zeros V (by omega)
 have hmk2 := make_zeros (V + 1) (by omega)
 have hv1 : ((V + 1 : Nat) : Int) = (V : Int) + 1 := by omega
 rw [hv1] at hmk2
 have wa : IntKind.i64.wrap ((V : Int) + 1) = (V : Int) + 1 := by rw [IntKind.wrap_i64]; omega
 have wb : IntKind.i64.wrap (fuel * 100) = fuel * 100 := by rw [IntKind.wrap_i64]; omega
 unfold cval
 unfold cval at HNW
 clear hx hC hb0
 go_enter Tryz.func177, Tryz.ntmps177
 go_wp2_with fail
 generalize w.alloc (.cells #[.int .i64 V, .slice p rs.length cap] 30) = w0 at *
 go_region_held3 (fun w' => w'.cell? ⟨w.heap.size, 0, none⟩ = some (.int .i64 V) /\ w'.cell? ⟨w.heap.size, 1, none⟩ = some (.slice p rs.length cap))
  (first | exact ⟨m0, m1⟩ | exact ⟨cell_later (w := w0) (by (repeat (first | exact Below.refl _ _ | refine bal ?_ _ | refine Below.drew ?_ | refine bthen ?_ hbA | refine bthen ?_ hbB))) m0, cell_later (w := w0) (by (repeat (first | exact Below.refl _ _ | refine bal ?_ _ | refine Below.drew ?_ | refine bthen ?_ hbA | refine bthen ?_ hbB))) m1⟩ | go_keep)
  (first
   | (go_at_call 187; refine (HNW.out _ (by (repeat (first | exact Below.refl _ _ | refine bal ?_ _ | refine Below.drew ?_ | refine bthen ?_ hbA | refine bthen ?_ hbB)))).mono ?_; rintro e wA ⟨R, B, XB, nS, nW, rfl, hbd, hbA, hxA, hI, hlv, hsp, hcl, hn1, hn2⟩)
   | (go_at_call 188; refine (HNQ.out _).mono ?_; rintro e wB ⟨⟨q, gp, gw, rfl, XQ, ⟨vh, hq⟩, hxq⟩, hbB⟩))
 all_goals
  have szA := hbA.size
  have szB := hbB.size
  have sz0 := HB0.out.size
  have szw := HSW.out
  have hxA2 : ∀ g, XB g -> _ /\ g < wA.heap.size := fun g hg => ⟨hxA g hg, BdAt.xb hbd g hg⟩
  have hxq2 : ∀ g, XQ g -> _ /\ g < wB.heap.size := fun g hg => ⟨hxq g hg, hq.xb g hg⟩
  simp only [World.size_alloc, World.size_drew] at szA szB
  have HXA := hide hxA2
  have HXQ := hide hxq2
  have HRS := hide (And.intro hI (And.intro hlv (And.intro hsp (And.intro hcl (And.intro hn1 hn2)))))
  clear hxA hxq hxA2 hxq2 hI hlv hsp hcl hn1 hn2
  go_wp2
  go_ret
  refine ⟨⟨_, R, nS, nW, q, gp, gw, _, _, vh, B, XB, XQ, rfl, ser_new (heap_new_at (by simp; done)) (BdAt.later hbd ?c1) (hq.later ?c2) ?hgm ?hgl HXA.out HXQ.out ?h1 ?h2 ?h3 ?h4, HRS.out⟩, bthen HB0.out ?bw⟩
  case c1 => (repeat (first | exact Below.refl _ _ | refine bthen ?_ hbB | refine bthen ?_ hbA | refine bal ?_ _ | refine Below.drew ?_))
  case c2 => (repeat (first | exact Below.refl _ _ | refine bthen ?_ hbB | refine bthen ?_ hbA | refine bal ?_ _ | refine Below.drew ?_))
  case bw => (repeat (first | exact Below.refl _ _ | refine bthen ?_ hbB | refine bthen ?_ hbA | refine bal ?_ _ | refine Below.drew ?_))
  case hgm => (repeat (first | exact heap_new_at (by simp; done) | refine (hbB.block _ (by first | (simp; done) | (simp; omega) | omega)).trans ?_ | refine (hbA.block _ (by first | (simp; done) | (simp; omega) | omega)).trans ?_ | refine (Below.heap_alloc _ _ _ (by first | (simp; done) | (simp; omega) | omega)).trans ?_ | rw [heap_drew_at]))
  case hgl => (repeat (first | exact heap_new_at (by simp; done) | refine (hbB.block _ (by first | (simp; done) | (simp; omega) | omega)).trans ?_ | refine (hbA.block _ (by first | (simp; done) | (simp; omega) | omega)).trans ?_ | refine (Below.heap_alloc _ _ _ (by first | (simp; done) | (simp; omega) | omega)).trans ?_ | rw [heap_drew_at]))
  case h1 => simp only [World.size_alloc, World.size_drew]; omega
  case h2 => simp only [World.size_alloc, World.size_drew]; omega
  case h3 => simp only [World.size_alloc, World.size_drew]; omega
  case h4 => omega
end Go.Proofs.YtmambfdimeeijaaGreatDoor.Sr

namespace Go.Proofs.YtmambfdimeeijaaGreatDoor.Sr
open Go.Proofs.YtmambfdimeeijaaGreatDoor.Pf
set_option maxRecDepth 100000
set_option maxRecDepth 100000
set_option autoImplicit false
def c3 : List (List Int) := [[1, 2], [1, -2], [-1, 2]]
theorem m0 : ([1, 2] : List Int).mergeSort (fun x y => decide (x <= y)) = [1, 2] := by simp [List.mergeSort, List.MergeSort.Internal.splitInTwo]
theorem m1 : ([1, -2] : List Int).mergeSort (fun x y => decide (x <= y)) = [-2, 1] := by simp [List.mergeSort, List.MergeSort.Internal.splitInTwo]
theorem m2 : ([-1, 2] : List Int).mergeSort (fun x y => decide (x <= y)) = [-1, 2] := by simp [List.mergeSort, List.MergeSort.Internal.splitInTwo]
theorem m3 : ([1] : List Int).mergeSort (fun x y => decide (x <= y)) = [1] := by simp
theorem l0 : layD [] [1, 2] = [1, 2] := by unfold layD sortC; rw [m0]; rfl
theorem l1 : layD [] [1, -2] = [-2, 1] := by unfold layD sortC; rw [m1]; rfl
theorem l2 : layD [] [-1, 2] = [-1, 2] := by unfold layD sortC; rw [m2]; rfl
theorem l3 : layD [] [1] = [1] := by unfold layD sortC; rw [m3]; rfl
def B3 : Bd := ((Bd.nil.add [1, 2]).add [-2, 1]).add [-1, 2]
def B4 : Bd := B3.choose (-1)
structure Lz where
 S : Sx
 op : Int
 oth : List Int
end Go.Proofs.YtmambfdimeeijaaGreatDoor.Sr

namespace Go.Proofs.YtmambfdimeeijaaGreatDoor.Sr
open Go.RowKit Go.Maps Go.Proofs.YtmambfdimeeijaaGreatDoor.Pf
set_option maxRecDepth 100000
set_option maxRecDepth 100000
set_option autoImplicit false
end Go.Proofs.YtmambfdimeeijaaGreatDoor.Sr

namespace Go.Proofs.YtmambfdimeeijaaGreatDoor.Sr
open Go.RowKit Go.Maps Go.Proofs.YtmambfdimeeijaaGreatDoor.Pf
set_option maxRecDepth 100000
set_option maxRecDepth 100000
set_option autoImplicit false
end Go.Proofs.YtmambfdimeeijaaGreatDoor.Sr

namespace Go.Proofs.YtmambfdimeeijaaGreatDoor.Sr
open Go.RowKit Go.Maps Go.Proofs.YtmambfdimeeijaaGreatDoor.Pf
set_option maxRecDepth 100000
set_option maxRecDepth 100000
set_option autoImplicit false
section
variable {base : Nat} {w : World} {s : Nat} {XB XQ : Nat -> Prop} {R nS nW q gp gw gm gl : Nat} {vh vl vp : Value} {S : Sx}
end
end Go.Proofs.YtmambfdimeeijaaGreatDoor.Sr

namespace Go.Proofs.YtmambfdimeeijaaGreatDoor.Sr
open Go.RowKit Go.Maps Go.Proofs.YtmambfdimeeijaaGreatDoor.Pf
set_option maxRecDepth 100000
set_option maxRecDepth 100000
set_option autoImplicit false
section
variable {base : Nat} {w : World} {s : Nat} {XB XQ : Nat -> Prop} {R nS nW q gp gw gm gl : Nat} {vh vl vp : Value} {S : Sx}
end
end Go.Proofs.YtmambfdimeeijaaGreatDoor.Sr

namespace Go.Proofs.YtmambfdimeeijaaGreatDoor.Sr
open Go.RowKit Go.Maps Go.Proofs.YtmambfdimeeijaaGreatDoor.Pf
set_option maxRecDepth 100000
set_option maxRecDepth 100000
set_option autoImplicit false
section
variable {F : Fence} {n : Nat} {P : Program} {ps : Array Tmp} {assign body : Code} {B : Nat}
end
end Go.Proofs.YtmambfdimeeijaaGreatDoor.Sr

namespace Go.Proofs.YtmambfdimeeijaaGreatDoor.Sr
open Go.RowKit Go.Maps Go.Proofs.YtmambfdimeeijaaGreatDoor.Pf
set_option maxRecDepth 100000
set_option maxRecDepth 100000
set_option autoImplicit false
attribute [local go_sem] Oper.semAt_some
end Go.Proofs.YtmambfdimeeijaaGreatDoor.Sr

namespace Go.Proofs.YtmambfdimeeijaaGreatDoor.Sr
open Go.RowKit Go.Maps Go.Proofs.YtmambfdimeeijaaGreatDoor.Pf
set_option maxRecDepth 100000
set_option maxRecDepth 100000
set_option autoImplicit false
theorem own_append {w : World} {vo : Value} {l : List Int} (h : w.ownsRow 0 3 1 vo l.length (l.map (Value.int .i64))) (v : Int) (hl : l.length < 1000000) (ty : TypeId) :
 ∃ vo' w', (Builtin.append_ #[25, 25] ty #[vo, .slice (some ⟨w.heap.size, 0, none⟩) 1 1]).run Tryz.prog (w.alloc (.cells #[.int .i64 v] 3)) = .ok vo' w' /\ (∃ p c, vo' = .slice p (l.length + 1) c) /\ w'.ownsRow 0 3 1 vo' (l ++ [v]).length ((l ++ [v]).map (Value.int .i64)) /\ (∀ k, vo'.ownBlock = some k -> vo.ownBlock = some k \/ w.heap.size < k) /\ (∀ k, k < w.heap.size -> vo.ownBlock ≠ some k -> w'.heap[k]? = w.heap[k]?) /\ w.heap.size <= w'.heap.size /\ w'.os = w.os /\ w'.tape = w.tape /\ w'.output = w.output := by
 obtain ⟨i0, hi, hz0, hz1, hz2⟩ := info_parts info3
 have hal : Below w.heap.size w (w.alloc (.cells #[.int .i64 v] 3)) := bal (Below.refl _ _) _
 have hown := h.alloc (.cells #[.int .i64 v] 3)
 obtain ⟨vh', w', hr, ho, hg, _⟩ := run_append_own (P := Tryz.prog) (w := w.alloc (.cells #[.int .i64 v] 3)) 0 25 ty 3 i0 (.int .i64 0) 1 8 Tryz.underlying25 hi hz0 hz1 hz2 rfl (by decide) vo l.length _ hown ⟨w.heap.size, 0, none⟩ 1 1 [.int .i64 v] rfl (one_newI _ w 3) (fun u hu => by simp at hu; subst hu; rfl) (by unfold maxLen; omega) (by omega) (Nat.zero_le _)
 have hsz := hg.size
 rw [World.size_alloc] at hsz
 have hold : ∀ k, k < w.heap.size -> vo.ownBlock ≠ some k -> w'.heap[k]? = w.heap[k]? := fun k hk hne => (hg.block k (by rw [World.size_alloc]; omega) (fun e => hne e.symm)).trans (hal.block k hk)
 have hnew : ∀ k, vh'.ownBlock = some k -> vo.ownBlock = some k \/ w.heap.size < k := by
  intro k hk
  rcases hown.2 with ⟨rfl, h0⟩ | ⟨g, cap, cur, rfl, _, hg', hn, hm, hs, ht⟩
  · have h2 := run_append_nil (P := Tryz.prog) (w.alloc (.cells #[.int .i64 v] 3)) 25 ty 3 i0 (.int .i64 0) Tryz.underlying25 hi hz0 ⟨w.heap.size, 0, none⟩ 1 1 [.int .i64 v] (by rw [hz1]; rfl) (one_newI _ w 3) (by decide) (by decide) (by rw [hz2]; decide)
   rw [hr] at h2
   injection h2 with h2
   subst h2
   simp [Value.ownBlock] at hk
   exact .inr (by omega)
  · by_cases hroom : l.length + 1 <= cap
   · have h2 := run_append_room (P := Tryz.prog) (w.alloc (.cells #[.int .i64 v] 3)) 25 ty 3 i0 Tryz.underlying25 hi g l.length cap cur hg' ⟨w.heap.size, 0, none⟩ 1 1 [.int .i64 v] (by rw [hz1]; rfl) (one_newI _ w 3) (fun u hu => by simp at hu; subst hu; rfl) hroom (by rw [hz1, hs]; simp; omega)
    rw [hr] at h2
    injection h2 with h2
    subst h2
    exact .inl hk
   · have h2 := run_append_grow (P := Tryz.prog) (w.alloc (.cells #[.int .i64 v] 3)) 25 ty 3 i0 (.int .i64 0) Tryz.underlying25 hi hz0 ⟨g, 0, none⟩ l.length cap (l.map (Value.int .i64)) (by rw [hz1]; simp) (hown.cells (g := g) rfl) ⟨w.heap.size, 0, none⟩ 1 1 [.int .i64 v] (by rw [hz1]; rfl) (one_newI _ w 3) (by omega) (by omega) (growslice_fits (by omega) (by rw [hz2]; omega))
    rw [hr] at h2
    injection h2 with h2
    subst h2
    simp [Value.ownBlock] at hk
    exact .inr (by omega)
 have ho' : w'.ownsRow 0 3 1 vh' (l ++ [v]).length ((l ++ [v]).map (Value.int .i64)) := by simpa using ho
 refine ⟨vh', w', hr, ?_, ho', hnew, hold, by omega, hg.os, hg.tape, hg.output⟩
 rcases ho'.2 with ⟨_, h0⟩ | ⟨g, cap, cur, e, _⟩
 · simp at h0
 · exact ⟨_, cap, by rw [e, List.length_append]; rfl⟩
section
variable (T : Lz) (x : Int) (l : List Int)
end
section
variable {base : Nat} {w : World} {s : Nat} {XB XQ : Nat -> Prop} {R nS nW q gp gw gm gl : Nat} {vh vl vp : Value} {S : Sx}
end
structure Free (base s : Nat) (XB XQ : Nat -> Prop) (gm gl g : Nat) : Prop where
 b : ¬ XB g
 q : ¬ XQ g
 m : g ≠ gm
 l : g ≠ gl
 s : g ≠ s
 base : base <= g
section
variable {base : Nat} {w : World} {s : Nat} {XB XQ : Nat -> Prop} {R nS nW q gp gw gm gl : Nat} {vh vl vp : Value} {gs go gt : Nat} {vo : Value} {T : Lz}
end
end Go.Proofs.YtmambfdimeeijaaGreatDoor.Sr

namespace Go.Proofs.YtmambfdimeeijaaGreatDoor.Sr
open Go.RowKit Go.Maps Go.Proofs.YtmambfdimeeijaaGreatDoor.Pf
set_option maxRecDepth 100000
set_option maxRecDepth 100000
set_option autoImplicit false
section
variable {base : Nat} {w : World} {s : Nat} {XB XQ : Nat -> Prop} {R nS nW q gp gw gm gl : Nat} {vh vl vp : Value} {S : Sx}
theorem Ser.free (h : Ser base w s XB XQ R nS nW q gp gw gm gl vh vl vp S) {g : Nat} (hg : w.heap.size <= g) : Free base s XB XQ gm gl g := by
 obtain ⟨h1, h2, h3⟩ := h.ss
 have h4 := h.sx
 exact ⟨fun e => by have := BdAt.xb h.bd g e; omega, fun e => by have := h.qu.xb g e; omega, by omega, by omega, by omega, by omega⟩
end
end Go.Proofs.YtmambfdimeeijaaGreatDoor.Sr

namespace Go.Proofs.YtmambfdimeeijaaGreatDoor.Sr
open Go.RowKit Go.Maps Go.Proofs.YtmambfdimeeijaaGreatDoor.Pf
set_option maxRecDepth 100000
set_option maxRecDepth 100000
set_option autoImplicit false
theorem info38 : (Tryz.prog.info? 25).map (fun i => (i.zero, i.size, i.bytes)) = some (some (.slice none 0 0), 1, 24) := by kernel_rfl
theorem own_append22 {w : World} {vp : Value} {n : Nat} {xs : List Value} (h : w.ownsRow 0 25 1 vp n xs) (p : Option Addr) (k c : Nat) (hl : n < 1000000) (ty : TypeId) :
 ∃ vp' w', (Builtin.append_ #[28, 28] ty #[vp, .slice (some ⟨w.heap.size, 0, none⟩) 1 1]).run Tryz.prog (w.alloc (.cells #[.slice p k c] 25)) = .ok vp' w' /\ w'.ownsRow 0 25 1 vp' (n + 1) (xs ++ [.slice p k c]) /\ (∀ g, g < w.heap.size -> vp.ownBlock ≠ some g -> w'.heap[g]? = w.heap[g]?) /\ w.heap.size <= w'.heap.size /\ w'.os = w.os /\ w'.tape = w.tape /\ w'.output = w.output /\ ∃ p' k' c', vp' = .slice p' k' c' := by
 obtain ⟨i0, hi, hz0, hz1, hz2⟩ := info_parts info38
 have hal : Below w.heap.size w (w.alloc (.cells #[.slice p k c] 25)) := bal (Below.refl _ _) _
 obtain ⟨vp', w', hr, ho, hg, _⟩ := run_append_own (P := Tryz.prog) (w := w.alloc (.cells #[.slice p k c] 25)) 0 28 ty 25 i0 (.slice none 0 0) 1 24 Tryz.underlying28 hi hz0 hz1 hz2 rfl (by decide) vp n _ (h.alloc (.cells #[.slice p k c] 25)) ⟨w.heap.size, 0, none⟩ 1 1 [.slice p k c] rfl (one_newI _ w 25) (fun u hu => by simp at hu; subst hu; rfl) (by unfold maxLen; omega) (by omega) (Nat.zero_le _)
 have hsz := hg.size
 rw [World.size_alloc] at hsz
 refine ⟨vp', w', hr, ho, fun g hk hne => (hg.block g (by rw [World.size_alloc]; omega) (fun e => hne e.symm)).trans (hal.block g hk), by omega, hg.os, hg.tape, hg.output, ?_⟩
 rcases ho.2 with ⟨e, _⟩ | ⟨g, cap, cur, e, _⟩
 · exact ⟨_, _, _, e⟩
 · exact ⟨_, _, _, e⟩
end Go.Proofs.YtmambfdimeeijaaGreatDoor.Sr
