/- A searcher goes back to a level. -/
import Derived.Test.YtmambfdimeeijaaGreatDoorLcM
import Derived.Test.YtmambfdimeeijaaGreatDoorPga
import Derived.RangeFuncNested
import Derived.RangeFuncBound
import Derived.RangeFuncCalls
import Derived.RangeFuncLeaves
import Derived.Sort.QuietIn
import Derived.WalkKit
import Derived.OwnWalkIn
import Derived.TacticsInMore
import Derived.LoopNIn
import Derived.LoopIn
import Derived.Laws.ResultCell
import Derived.Deep.LoopGhost
import Derived.Laws.Rows
namespace Go.Proofs.YtmambfdimeeijaaGreatDoor.Sr
open Go.RowKit Go.Maps Go.Proofs.YtmambfdimeeijaaGreatDoor.Pf
set_option maxRecDepth 100000
end Go.Proofs.YtmambfdimeeijaaGreatDoor.Sr

namespace Go.Proofs.YtmambfdimeeijaaGreatDoor.Sr
open Go.RowKit Go.Maps Go.Proofs.YtmambfdimeeijaaGreatDoor.Pf
set_option maxRecDepth 100000
end Go.Proofs.YtmambfdimeeijaaGreatDoor.Sr

namespace Go.Proofs.YtmambfdimeeijaaGreatDoor.Sr
open Go.RowKit Go.Maps Go.Proofs.YtmambfdimeeijaaGreatDoor.Pf
set_option maxRecDepth 100000
def newSx (V : Nat) (B : Bd) (most : Int) : Sx := ⟨B, newQ V V, V, most, 0, List.replicate V 0, List.replicate (V + 1) 0, 100, 100⟩
theorem ser_new {base V : Nat} {W : World} {s R nS nW q gp gw gm gl a1 a2 b1 b2 : Nat} {XB XQ : Nat → Prop} {vh vl : Value} {B : Bd} {most : Int}
   (hbk : W.heap[s]? = some (.cells #[.pointer (some ⟨R, 0, none⟩), .pointer (some ⟨q, 0, none⟩), .int .i64 V, vl, .int .i64 most, .slice none 0 0, .int .i64 0, .slice (some ⟨gm, 0, none⟩) V V, .slice (some ⟨gl, 0, none⟩) (V + 1) (V + 1), .int .i64 100, .int .i64 100] 212 (0, 0)))
   (hbd : BdAt W XB R nS nW B) (hq : Qm W XQ q gp gw vh (newQ V V)) (hgm : W.heap[gm]? = some (.cells (Array.replicate V (.int .i64 0)) 3 (0, 0))) (hgl : W.heap[gl]? = some (.cells (Array.replicate (V + 1) (.int .i64 0)) 3 (0, 0)))
   (hA : ∀ g, XB g → a1 ≤ g ∧ g < a2) (hB : ∀ g, XQ g → b1 ≤ g ∧ g < b2) (h1 : base ≤ a1 ∧ a1 ≤ a2 ∧ a2 ≤ b1 ∧ b1 ≤ b2 ∧ b2 ≤ s) (h2 : base ≤ gm ∧ gm < s ∧ (gm < a1 ∨ (a2 ≤ gm ∧ gm < b1) ∨ b2 ≤ gm)) (h3 : base ≤ gl ∧ gl < s ∧ (gl < a1 ∨ (a2 ≤ gl ∧ gl < b1) ∨ b2 ≤ gl)) (h4 : gm ≠ gl) :
   Ser base W s XB XQ R nS nW q gp gw gm gl vh vl (.slice none 0 0) (newSx V B most) := by
 refine ⟨by simp only [newSx, List.length_replicate]; exact hbk, hbd, hq, by rw [hgm]; simp [newSx], by rw [hgl]; simp [newSx], fun g ha hb => ?_, fun h => ?_, fun h => ?_, fun h => ?_, fun h => ?_, fun h => ?_, fun h => ?_, h4, fun g h => ?_, fun g h => ?_, by omega, by omega, by omega⟩
 · have := hA g ha; have := hB g hb; omega
 · have := hA _ h; omega
 · have := hB _ h; omega
 · have := hA _ h; omega
 · have := hB _ h; omega
 · have := hA _ h; omega
 · have := hB _ h; omega
 · have := hA g h; omega
 · have := hB g h; omega
theorem heap_new_at {w : World} {o : Obj} {k : Nat} (h : k = w.heap.size) : (w.alloc o).heap[k]? = some o := by
 subst h
 exact heap_alloc_new w o
theorem heap_drew_at {w : World} {k : Nat} : w.drew.heap[k]? = w.heap[k]? := rfl
theorem BdAt.later {w w1 : World} {X : Nat → Prop} {R nS nW : Nat} {B : Bd} (h : BdAt w X R nS nW B) (hb : Below w.heap.size w w1) : BdAt w1 X R nS nW B := BdAt.apart h hb.size fun g hg => hb.block g (BdAt.xb h g hg)
def NsOut (w : World) (V : Nat) (L : List (List Int)) (vl : Value) (most : Int) (e : Ending) (w' : World) : Prop :=
 (∃ s R nS nW q gp gw gm gl vh B XB XQ, e = .returned (.pointer (some ⟨s, 0, none⟩)) ∧ Ser w.heap.size w' s XB XQ R nS nW q gp gw gm gl vh vl (.slice none 0 0) (newSx V B most) ∧ Inv V L (fun _ => False) B ∧ (B.level = 0 ∧ ∃ g f, spreadN g (addAll L) = some (B, f)) ∧ (B.lost = false → B.spread = B.sp.length) ∧ B.cl.length ≤ L.length ∧ nS ≤ 1000000000 ∧ nW ≤ 1000000000000) ∧ Below w.heap.size w w'
set_option maxHeartbeats 8000000 in
theorem newS_any (V : Nat) (hV : V ≤ 100000) (p : Option Addr) (cap : Nat) (rs : List Row) (hl : rs.length ≤ 800000) (hx : ∀ r ∈ rs, r.ns.length ≤ 200 ∧ ∀ x ∈ r.ns, Num V x) (fuel : Int) (hf : 0 ≤ fuel ∧ fuel ≤ 1000000000) (w : World) (hC : ClAt w p rs) :
   Calls Tryz.prog 177 #[cval V p rs.length cap, .int .i64 fuel] w (NsOut w V (rs.map (·.ns)) (.slice p rs.length cap) (fuel * 100)) := by
 have hb0 : Below w.heap.size w (w.alloc (.cells #[.int .i64 V, .slice p rs.length cap] 30)) := bal (Below.refl _ _) _
 have m0 : (w.alloc (.cells #[.int .i64 V, .slice p rs.length cap] 30)).cell? ⟨w.heap.size, 0, none⟩ = some (.int .i64 V) := by simp [go_sem]
 have m1 : (w.alloc (.cells #[.int .i64 V, .slice p rs.length cap] 30)).cell? ⟨w.heap.size, 1, none⟩ = some (.slice p rs.length cap) := by simp [go_sem]
 have HNW := hide (fun (W : World) (hb : Below (w.alloc (.cells #[.int .i64 V, .slice p rs.length cap] 30)).heap.size (w.alloc (.cells #[.int .i64 V, .slice p rs.length cap] 30)) W) => new_any V (by omega) V p cap rs hl hx W (hC.later (bthen hb0 hb)))
 have HNQ := hide (fun (W : World) => newQ_any V (by omega) W)
 have HB0 := hide hb0
 have HSW : Hid ((w.alloc (.cells #[.int .i64 V, .slice p rs.length cap] 30)).heap.size = w.heap.size + 1) := by unfold Hid; simp
 have hmk1 := make_zeros V (by omega)
 have hmk2 := make_zeros (V + 1) (by omega)
 have hv1 : ((V + 1 : Nat) : Int) = (V : Int) + 1 := by omega
 rw [hv1] at hmk2
 have wa : IntKind.i64.wrap ((V : Int) + 1) = (V : Int) + 1 := by rw [IntKind.wrap_i64]; omega
 have wb : IntKind.i64.wrap (fuel * 100) = fuel * 100 := by rw [IntKind.wrap_i64]; omega
 unfold cval
 unfold cval at HNW
 clear hx hC hb0
 go_enter Tryz.func177, Tryz.ntmps177
 go_wp2_with fail
 generalize w.alloc (.cells #[.int .i64 V, .slice p rs.length cap] 30) = w0 at *
 go_region_held3 (fun w' => w'.cell? ⟨w.heap.size, 0, none⟩ = some (.int .i64 V) ∧ w'.cell? ⟨w.heap.size, 1, none⟩ = some (.slice p rs.length cap))
   (first | exact ⟨m0, m1⟩ | exact ⟨cell_later (w := w0) (by (repeat (first | exact Below.refl _ _ | refine bal ?_ _ | refine Below.drew ?_ | refine bthen ?_ hbA | refine bthen ?_ hbB))) m0, cell_later (w := w0) (by (repeat (first | exact Below.refl _ _ | refine bal ?_ _ | refine Below.drew ?_ | refine bthen ?_ hbA | refine bthen ?_ hbB))) m1⟩ | go_keep)
   (first
     | (go_at_call 187; refine (HNW.out _ (by (repeat (first | exact Below.refl _ _ | refine bal ?_ _ | refine Below.drew ?_ | refine bthen ?_ hbA | refine bthen ?_ hbB)))).mono ?_; rintro e wA ⟨R, B, XB, nS, nW, rfl, hbd, hbA, hxA, hI, hlv, hsp, hcl, hn1, hn2⟩)
     | (go_at_call 188; refine (HNQ.out _).mono ?_; rintro e wB ⟨⟨q, gp, gw, rfl, XQ, ⟨vh, hq⟩, hxq⟩, hbB⟩))
 all_goals
   have szA := hbA.size
   have szB := hbB.size
   have sz0 := HB0.out.size
   have szw := HSW.out
   have hxA2 : ∀ g, XB g → _ ∧ g < wA.heap.size := fun g hg => ⟨hxA g hg, BdAt.xb hbd g hg⟩
   have hxq2 : ∀ g, XQ g → _ ∧ g < wB.heap.size := fun g hg => ⟨hxq g hg, hq.xb g hg⟩
   simp only [World.size_alloc, World.size_drew] at szA szB
   have HXA := hide hxA2
   have HXQ := hide hxq2
   have HRS := hide (And.intro hI (And.intro hlv (And.intro hsp (And.intro hcl (And.intro hn1 hn2)))))
   clear hxA hxq hxA2 hxq2 hI hlv hsp hcl hn1 hn2
   go_wp2
   go_ret
   refine ⟨⟨_, R, nS, nW, q, gp, gw, _, _, vh, B, XB, XQ, rfl, ser_new (heap_new_at (by simp; done)) (BdAt.later hbd ?c1) (hq.later ?c2) ?hgm ?hgl HXA.out HXQ.out ?h1 ?h2 ?h3 ?h4, HRS.out⟩, bthen HB0.out ?bw⟩
   case c1 => (repeat (first | exact Below.refl _ _ | refine bthen ?_ hbB | refine bthen ?_ hbA | refine bal ?_ _ | refine Below.drew ?_))
   case c2 => (repeat (first | exact Below.refl _ _ | refine bthen ?_ hbB | refine bthen ?_ hbA | refine bal ?_ _ | refine Below.drew ?_))
   case bw => (repeat (first | exact Below.refl _ _ | refine bthen ?_ hbB | refine bthen ?_ hbA | refine bal ?_ _ | refine Below.drew ?_))
   case hgm => (repeat (first | exact heap_new_at (by simp; done) | refine (hbB.block _ (by first | (simp; done) | (simp; omega) | omega)).trans ?_ | refine (hbA.block _ (by first | (simp; done) | (simp; omega) | omega)).trans ?_ | refine (Below.heap_alloc _ _ _ (by first | (simp; done) | (simp; omega) | omega)).trans ?_ | rw [heap_drew_at]))
   case hgl => (repeat (first | exact heap_new_at (by simp; done) | refine (hbB.block _ (by first | (simp; done) | (simp; omega) | omega)).trans ?_ | refine (hbA.block _ (by first | (simp; done) | (simp; omega) | omega)).trans ?_ | refine (Below.heap_alloc _ _ _ (by first | (simp; done) | (simp; omega) | omega)).trans ?_ | rw [heap_drew_at]))
   case h1 => simp only [World.size_alloc, World.size_drew]; omega
   case h2 => simp only [World.size_alloc, World.size_drew]; omega
   case h3 => simp only [World.size_alloc, World.size_drew]; omega
   case h4 => omega
end Go.Proofs.YtmambfdimeeijaaGreatDoor.Sr

namespace Go.Proofs.YtmambfdimeeijaaGreatDoor.Sr
open Go.Proofs.YtmambfdimeeijaaGreatDoor.Pf
set_option maxRecDepth 100000
def c3 : List (List Int) := [[1, 2], [1, -2], [-1, 2]]
theorem m0 : ([1, 2] : List Int).mergeSort (fun x y => decide (x ≤ y)) = [1, 2] := by simp [List.mergeSort, List.MergeSort.Internal.splitInTwo]
theorem m1 : ([1, -2] : List Int).mergeSort (fun x y => decide (x ≤ y)) = [-2, 1] := by simp [List.mergeSort, List.MergeSort.Internal.splitInTwo]
theorem m2 : ([-1, 2] : List Int).mergeSort (fun x y => decide (x ≤ y)) = [-1, 2] := by simp [List.mergeSort, List.MergeSort.Internal.splitInTwo]
theorem m3 : ([1] : List Int).mergeSort (fun x y => decide (x ≤ y)) = [1] := by simp
theorem l0 : layD [] [1, 2] = [1, 2] := by unfold layD sortC; rw [m0]; rfl
theorem l1 : layD [] [1, -2] = [-2, 1] := by unfold layD sortC; rw [m1]; rfl
theorem l2 : layD [] [-1, 2] = [-1, 2] := by unfold layD sortC; rw [m2]; rfl
theorem l3 : layD [] [1] = [1] := by unfold layD sortC; rw [m3]; rfl
def B3 : Bd := ((Bd.nil.add [1, 2]).add [-2, 1]).add [-1, 2]
def B4 : Bd := B3.choose (-1)
structure Lz where
 S : Sx
 op : Int
 oth : List Int
end Go.Proofs.YtmambfdimeeijaaGreatDoor.Sr

namespace Go.Proofs.YtmambfdimeeijaaGreatDoor.Sr
open Go.RowKit Go.Maps Go.Proofs.YtmambfdimeeijaaGreatDoor.Pf
set_option maxRecDepth 100000
end Go.Proofs.YtmambfdimeeijaaGreatDoor.Sr

namespace Go.Proofs.YtmambfdimeeijaaGreatDoor.Sr
open Go.RowKit Go.Maps Go.Proofs.YtmambfdimeeijaaGreatDoor.Pf
set_option maxRecDepth 100000
end Go.Proofs.YtmambfdimeeijaaGreatDoor.Sr

namespace Go.Proofs.YtmambfdimeeijaaGreatDoor.Sr
open Go.RowKit Go.Maps Go.Proofs.YtmambfdimeeijaaGreatDoor.Pf
set_option maxRecDepth 100000
end Go.Proofs.YtmambfdimeeijaaGreatDoor.Sr

namespace Go.Proofs.YtmambfdimeeijaaGreatDoor.Sr
open Go.RowKit Go.Maps Go.Proofs.YtmambfdimeeijaaGreatDoor.Pf
set_option maxRecDepth 100000
end Go.Proofs.YtmambfdimeeijaaGreatDoor.Sr

namespace Go.Proofs.YtmambfdimeeijaaGreatDoor.Sr
open Go.RowKit Go.Maps Go.Proofs.YtmambfdimeeijaaGreatDoor.Pf
set_option maxRecDepth 100000
end Go.Proofs.YtmambfdimeeijaaGreatDoor.Sr

namespace Go.Proofs.YtmambfdimeeijaaGreatDoor.Sr
open Go.RowKit Go.Maps Go.Proofs.YtmambfdimeeijaaGreatDoor.Pf
set_option maxRecDepth 100000
attribute [local go_sem] Oper.semAt_some
end Go.Proofs.YtmambfdimeeijaaGreatDoor.Sr

namespace Go.Proofs.YtmambfdimeeijaaGreatDoor.Sr
open Go.RowKit Go.Maps Go.Proofs.YtmambfdimeeijaaGreatDoor.Pf
set_option maxRecDepth 100000
theorem own_append {w : World} {vo : Value} {l : List Int} (h : w.ownsRow 0 3 1 vo l.length (l.map (Value.int .i64))) (v : Int) (hl : l.length < 1000000) (ty : TypeId) :
   ∃ vo' w', (Builtin.append_ #[25, 25] ty #[vo, .slice (some ⟨w.heap.size, 0, none⟩) 1 1]).run Tryz.prog (w.alloc (.cells #[.int .i64 v] 3)) = .ok vo' w' ∧ (∃ p c, vo' = .slice p (l.length + 1) c) ∧ w'.ownsRow 0 3 1 vo' (l ++ [v]).length ((l ++ [v]).map (Value.int .i64)) ∧ (∀ k, vo'.ownBlock = some k → vo.ownBlock = some k ∨ w.heap.size < k) ∧ (∀ k, k < w.heap.size → vo.ownBlock ≠ some k → w'.heap[k]? = w.heap[k]?) ∧ w.heap.size ≤ w'.heap.size ∧ w'.os = w.os ∧ w'.tape = w.tape ∧ w'.output = w.output := by
 obtain ⟨i0, hi, hz0, hz1, hz2⟩ := info_parts info3
 have hal : Below w.heap.size w (w.alloc (.cells #[.int .i64 v] 3)) := bal (Below.refl _ _) _
 have hown := h.alloc (.cells #[.int .i64 v] 3)
 obtain ⟨vh', w', hr, ho, hg, _⟩ := run_append_own (P := Tryz.prog) (w := w.alloc (.cells #[.int .i64 v] 3)) 0 25 ty 3 i0 (.int .i64 0) 1 8 Tryz.underlying25 hi hz0 hz1 hz2 rfl (by decide) vo l.length _ hown ⟨w.heap.size, 0, none⟩ 1 1 [.int .i64 v] rfl (one_newI _ w 3) (fun u hu => by simp at hu; subst hu; rfl) (by unfold maxLen; omega) (by omega) (Nat.zero_le _)
 have hsz := hg.size
 rw [World.size_alloc] at hsz
 have hold : ∀ k, k < w.heap.size → vo.ownBlock ≠ some k → w'.heap[k]? = w.heap[k]? := fun k hk hne => (hg.block k (by rw [World.size_alloc]; omega) (fun e => hne e.symm)).trans (hal.block k hk)
 have hnew : ∀ k, vh'.ownBlock = some k → vo.ownBlock = some k ∨ w.heap.size < k := by
   intro k hk
   rcases hown.2 with ⟨rfl, h0⟩ | ⟨g, cap, cur, rfl, _, hg', hn, hm, hs, ht⟩
   · have h2 := run_append_nil (P := Tryz.prog) (w.alloc (.cells #[.int .i64 v] 3)) 25 ty 3 i0 (.int .i64 0) Tryz.underlying25 hi hz0 ⟨w.heap.size, 0, none⟩ 1 1 [.int .i64 v] (by rw [hz1]; rfl) (one_newI _ w 3) (by decide) (by decide) (by rw [hz2]; decide)
     rw [hr] at h2
     injection h2 with h2
     subst h2
     simp [Value.ownBlock] at hk
     exact .inr (by omega)
   · by_cases hroom : l.length + 1 ≤ cap
     · have h2 := run_append_room (P := Tryz.prog) (w.alloc (.cells #[.int .i64 v] 3)) 25 ty 3 i0 Tryz.underlying25 hi g l.length cap cur hg' ⟨w.heap.size, 0, none⟩ 1 1 [.int .i64 v] (by rw [hz1]; rfl) (one_newI _ w 3) (fun u hu => by simp at hu; subst hu; rfl) hroom (by rw [hz1, hs]; simp; omega)
       rw [hr] at h2
       injection h2 with h2
       subst h2
       exact .inl hk
     · have h2 := run_append_grow (P := Tryz.prog) (w.alloc (.cells #[.int .i64 v] 3)) 25 ty 3 i0 (.int .i64 0) Tryz.underlying25 hi hz0 ⟨g, 0, none⟩ l.length cap (l.map (Value.int .i64)) (by rw [hz1]; simp) (hown.cells (g := g) rfl) ⟨w.heap.size, 0, none⟩ 1 1 [.int .i64 v] (by rw [hz1]; rfl) (one_newI _ w 3) (by omega) (by omega) (growslice_fits (by omega) (by rw [hz2]; omega))
       rw [hr] at h2
       injection h2 with h2
       subst h2
       simp [Value.ownBlock] at hk
       exact .inr (by omega)
 have ho' : w'.ownsRow 0 3 1 vh' (l ++ [v]).length ((l ++ [v]).map (Value.int .i64)) := by simpa using ho
 refine ⟨vh', w', hr, ?_, ho', hnew, hold, by omega, hg.os, hg.tape, hg.output⟩
 rcases ho'.2 with ⟨_, h0⟩ | ⟨g, cap, cur, e, _⟩
 · simp at h0
 · exact ⟨_, cap, by rw [e, List.length_append]; rfl⟩
structure Free (base s : Nat) (XB XQ : Nat → Prop) (gm gl g : Nat) : Prop where
 b : ¬ XB g
 q : ¬ XQ g
 m : g ≠ gm
 l : g ≠ gl
 s : g ≠ s
 base : base ≤ g
end Go.Proofs.YtmambfdimeeijaaGreatDoor.Sr

namespace Go.Proofs.YtmambfdimeeijaaGreatDoor.Sr
open Go.RowKit Go.Maps Go.Proofs.YtmambfdimeeijaaGreatDoor.Pf
set_option maxRecDepth 100000
section
variable {base : Nat} {w : World} {s : Nat} {XB XQ : Nat → Prop} {R nS nW q gp gw gm gl : Nat} {vh vl vp : Value} {S : Sx}
theorem Ser.free (h : Ser base w s XB XQ R nS nW q gp gw gm gl vh vl vp S) {g : Nat} (hg : w.heap.size ≤ g) : Free base s XB XQ gm gl g := by
 obtain ⟨h1, h2, h3⟩ := h.ss
 have h4 := h.sx
 exact ⟨fun e => by have := BdAt.xb h.bd g e; omega, fun e => by have := h.qu.xb g e; omega, by omega, by omega, by omega, by omega⟩
end
end Go.Proofs.YtmambfdimeeijaaGreatDoor.Sr

namespace Go.Proofs.YtmambfdimeeijaaGreatDoor.Sr
open Go.RowKit Go.Maps Go.Proofs.YtmambfdimeeijaaGreatDoor.Pf
set_option maxRecDepth 100000
theorem info38 : (Tryz.prog.info? 25).map (fun i => (i.zero, i.size, i.bytes)) = some (some (.slice none 0 0), 1, 24) := by kernel_rfl
theorem own_append22 {w : World} {vp : Value} {n : Nat} {xs : List Value} (h : w.ownsRow 0 25 1 vp n xs) (p : Option Addr) (k c : Nat) (hl : n < 1000000) (ty : TypeId) :
   ∃ vp' w', (Builtin.append_ #[28, 28] ty #[vp, .slice (some ⟨w.heap.size, 0, none⟩) 1 1]).run Tryz.prog (w.alloc (.cells #[.slice p k c] 25)) = .ok vp' w' ∧ w'.ownsRow 0 25 1 vp' (n + 1) (xs ++ [.slice p k c]) ∧ (∀ g, g < w.heap.size → vp.ownBlock ≠ some g → w'.heap[g]? = w.heap[g]?) ∧ w.heap.size ≤ w'.heap.size ∧ w'.os = w.os ∧ w'.tape = w.tape ∧ w'.output = w.output ∧ ∃ p' k' c', vp' = .slice p' k' c' := by
 obtain ⟨i0, hi, hz0, hz1, hz2⟩ := info_parts info38
 have hal : Below w.heap.size w (w.alloc (.cells #[.slice p k c] 25)) := bal (Below.refl _ _) _
 obtain ⟨vp', w', hr, ho, hg, _⟩ := run_append_own (P := Tryz.prog) (w := w.alloc (.cells #[.slice p k c] 25)) 0 28 ty 25 i0 (.slice none 0 0) 1 24 Tryz.underlying28 hi hz0 hz1 hz2 rfl (by decide) vp n _ (h.alloc (.cells #[.slice p k c] 25)) ⟨w.heap.size, 0, none⟩ 1 1 [.slice p k c] rfl (one_newI _ w 25) (fun u hu => by simp at hu; subst hu; rfl) (by unfold maxLen; omega) (by omega) (Nat.zero_le _)
 have hsz := hg.size
 rw [World.size_alloc] at hsz
 refine ⟨vp', w', hr, ho, fun g hk hne => (hg.block g (by rw [World.size_alloc]; omega) (fun e => hne e.symm)).trans (hal.block g hk), by omega, hg.os, hg.tape, hg.output, ?_⟩
 rcases ho.2 with ⟨e, _⟩ | ⟨g, cap, cur, e, _⟩
 · exact ⟨_, _, _, e⟩
 · exact ⟨_, _, _, e⟩
end Go.Proofs.YtmambfdimeeijaaGreatDoor.Sr

namespace Go.Proofs.YtmambfdimeeijaaGreatDoor.Sr
open Go.RowKit Go.Maps Go.Proofs.YtmambfdimeeijaaGreatDoor.Pf
set_option maxRecDepth 100000
structure ChOk (n : Nat) (S : Sx) : Prop where
 q : QOk n S.Q
 nn : n ≤ 200000
 ln : S.lean.length = n
 sp : S.B.sp.length ≤ 1000000
 lv : 0 ≤ S.B.level ∧ S.B.level ≤ 1000000
structure SpOk (V : Int) (L : List (List Int)) (ch : Int → Prop) (S : Sx) : Prop where
 inv : Inv V L ch S.B
 lost : S.B.lost = false
 vv : V ≤ 200000
 cl : S.B.cl.length ≤ 800000
 few : S.V ≤ 14
def Run (V : Int) (n : Nat) (k : Nat) (_b : Bool) (L : List (List Int)) (ch : Int → Prop) (S S' : Sx) : Prop := k = 0 ∧ ∃ B' g, SpOk V L ch S ∧ spreadN g S.B = some (B', -1) ∧ ChOk n { S with B := B' } ∧ Sx.choose { S with B := B' } = (S', false) ∧ S'.V ≤ 14
theorem Run.ends {V : Int} {n : Nat} {b : Bool} {L : List (List Int)} {ch : Int → Prop} {S S' : Sx} {B' : Bd} {g : Nat} (h1 : SpOk V L ch S) (h2 : spreadN g S.B = some (B', -1)) (h3 : ChOk n { S with B := B' }) (h4 : Sx.choose { S with B := B' } = (S', false)) (h5 : S'.V ≤ 14) : Run V n 0 b L ch S S' := ⟨rfl, B', g, h1, h2, h3, h4, h5⟩
def RnI (base : Nat) (w : World) (G s R q gp gw gm gl : Nat) (vl : Value) (V : Int) (n : Nat) (Sf : Sx) (k : Nat) (wr : World) : Prop :=
 ∃ XB XQ nS nW vh vp b L ch S, Ser base wr s XB XQ R nS nW q gp gw gm gl vh vl vp S ∧ (b = true → vp = .slice none 0 0) ∧ Run V n k b L ch S Sf ∧ nS + k * 1000000 ≤ 5000000000000 ∧ nW + k * 1000000000000 ≤ 400000000000000000 ∧ Below base w wr ∧ wr.heap[G]? = some (.cells #[.int .i64 0, .slice none 0 0, .slice none 0 0] 175) ∧ Free base s XB XQ gm gl G
def RuOut (base : Nat) (w : World) (Sf : Sx) (e : Ending) (w' : World) : Prop := ∃ g, e = .returned (.agg #[.int .i64 1, .slice (some ⟨g, 0, none⟩) Sf.V Sf.V, .slice none 0 0]) ∧ w'.heap[g]? = some (.cells ((valN Sf.B Sf.V Sf.V).map Value.bool).toArray 4 (0, 0)) ∧ base ≤ g ∧ Below base w w'
theorem BdAt.lo {w : World} {X : Nat → Prop} {R nS nW : Nat} {B : Bd} (h : BdAt w X R nS nW B) : w.cell? ⟨R, 3, none⟩ = some (.bool B.lost) := by
 obtain ⟨S, W, vc, vs, wk, cg, cc, wv, h⟩ := h
 exact h.c3
set_option maxHeartbeats 8000000 in
theorem run_s (base : Nat) (w : World) (s : Nat) (XB XQ : Nat → Prop) (R nS nW q gp gw gm gl : Nat) (vh vl : Value) (S Sf : Sx) (h : Ser base w s XB XQ R nS nW q gp gw gm gl vh vl (.slice none 0 0) S) (V : Int) (n k : Nat) (L : List (List Int)) (hr : Run V n k true L (fun _ => False) S Sf) (hnS : nS + k * 1000000 ≤ 5000000000000) (hnW : nW + k * 1000000000000 ≤ 400000000000000000) :
   Calls Tryz.prog 178 #[.pointer (some ⟨s, 0, none⟩)] w (RuOut base w Sf) := by
 have hbs : base ≤ w.heap.size := by have := h.sx; have := h.ss.1; omega
 have HI0 : Hid (RnI base w w.heap.size s R q gp gw gm gl vl V n Sf k (w.alloc (.cells #[.int .i64 0, .slice none 0 0, .slice none 0 0] 175))) := ⟨XB, XQ, nS, nW, vh, .slice none 0 0, true, L, fun _ => False, S, h.later (bal (Below.refl _ _) _), fun _ => rfl, hr, hnS, hnW, (bal (Below.refl _ w) _).mono hbs, (MapKept.heap_alloc w _).1, h.free (Nat.le_refl _)⟩
 clear h hr hnS hnW
 go_enter Tryz.func178, Tryz.ntmps178
 go_wp2_with fail
 generalize w.alloc (.cells #[.int .i64 0, .slice none 0 0, .slice none 0 0] 175) = w0 at *
 generalize w.heap.size = G at *
 go_loopg [] k (fun k wr => Hid (RnI base w G s R q gp gw gm gl vl V n Sf k wr))
 case atStart => exact HI0
 case round =>
   clear HI0
   obtain ⟨XB1, XQ1, nS1, nW1, vh1, vp1, b1, L1, ch1, S1, hs, hvp, hR, hbS, hbW, hbw, hG, hFG⟩ := hrel.out
   clear hrel
   have s0 := hs.s0
   have c3 := BdAt.lo hs.bd
   have HS := hide hs
   have HVP := hide hvp
   have HBW := hide hbw
   have HG := hide (And.intro hG hFG)
   clear hs hvp hbw hG hFG
   obtain ⟨rfl, B9, g9, a1, a2, a3, a4, a5⟩ := hR
   focus
     rw [a1.lost] at c3
     have HSP := hide (spread_any wr XB1 R nS1 nW1 S1.B HS.out.bd V L1 ch1 a1.inv a1.vv a1.cl (by omega) (by omega))
     have HLO := hide a1.lost
     have HFW := hide a1.few
     have hV2 : (2 * V + 1).toNat ≤ 400001 := by have := a1.vv; omega
     go_wp2_with fail
     refine HSP.out.mono ?_
     rintro e wa ⟨f, B2, X2, nS2, nW2, rfl, hb2, hF2, hn2, hm2, hl2, hspr⟩
     obtain ⟨g', he⟩ := hspr.ex
     have hone := spread_one he a2
     injection hone with e1 e2
     subst e1
     subst e2
     have HSA := hide (HS.out.board hb2 hF2)
     have HBA := hide (HBW.out.trans (HS.out.bw hF2))
     have hsz : wr.heap.size ≤ wa.heap.size := hF2.size
     have hGl : G < wr.heap.size := (Array.getElem?_eq_some_iff.1 HG.out.1).1
     have HGA : Hid (wa.heap[G]? = some (.cells #[.int .i64 0, .slice none 0 0, .slice none 0 0] 175) ∧ Free base s X2 XQ1 gm gl G) := ⟨(hF2.far G hGl HG.out.2.b).trans HG.out.1, fun e => HG.out.2.b (hF2.fro G hGl e), HG.out.2.q, HG.out.2.m, HG.out.2.l, HG.out.2.s, HG.out.2.base⟩
     have hlo2 : B2.lost = false := (hspr.ok rfl).2.2.trans HLO.out
     have s0 := HSA.out.s0
     have c3 := BdAt.lo HSA.out.bd
     simp only at c3
     rw [hlo2] at c3
     clear hb2 hF2 hspr he HSP HS HBW HG hlo2 a1 a2
     have HCH := hide (choose_s base wa s X2 XQ1 R nS2 nW2 q gp gw gm gl vh1 vl vp1 _ HSA.out n a3.q a3.nn a3.ln a3.sp (by omega) a3.lv)
     have HA4 := hide a4
     clear a3 a4
     go_wp2_with fail
     refine HCH.out.mono ?_
     rintro e wb ⟨rfl, ⟨XB3, XQ3, nS3, vh3, hs3, hn3, hst3⟩, hb3⟩
     rw [HA4.out]
     rw [HA4.out] at hs3
     simp only at hs3
     have hGl2 : G < wa.heap.size := (Array.getElem?_eq_some_iff.1 HGA.out.1).1
     have HGB : Hid (wb.heap[G]? = some (.cells #[.int .i64 0, .slice none 0 0, .slice none 0 0] 175)) := (hst3.far G hGl2 HGA.out.2.b HGA.out.2.q).trans HGA.out.1
     have HBB := hide (HBA.out.trans hb3)
     have HVA := hide (values_s base wb s XB3 XQ3 R nS3 nW2 q gp gw gm gl vh3 vl vp1 _ hs3 (by omega))
     have hbs2 : base ≤ wb.heap.size := by have := hs3.sx; have := hs3.ss.1; omega
     have HGF := hide HGA.out.2.base
     clear hs3 hst3 hb3 HCH HSA HBA HGA c3 s0
     go_wp2_with fail
     refine HVA.out.mono ?_
     rintro e wc ⟨gv, rfl, hgv, hgs, hbc⟩
     have hGlb : G < wb.heap.size := (Array.getElem?_eq_some_iff.1 HGB.out).1
     have HGC : Hid (wc.heap[G]? = some (.cells #[.int .i64 0, .slice none 0 0, .slice none 0 0] 175)) := (hbc.block G hGlb).trans HGB.out
     have HBC := hide (HBB.out.trans (hbc.mono hbs2))
     have HGV := hide hgv
     have hne : gv ≠ G := by omega
     have q0 : wc.cell? ⟨G, 0, none⟩ = some (.int .i64 0) := by rw [Lib.cell_of_heap HGC.out]; rfl
     have q1 : wc.cell? ⟨G, 1, none⟩ = some (.slice none 0 0) := by rw [Lib.cell_of_heap HGC.out]; rfl
     have q2 : wc.cell? ⟨G, 2, none⟩ = some (.slice none 0 0) := by rw [Lib.cell_of_heap HGC.out]; rfl
     have z0 : wc.frozen? ⟨G, 0, none⟩ = false := Lib.frozen_of_heap HGC.out 0
     have z1 : wc.frozen? ⟨G, 1, none⟩ = false := Lib.frozen_of_heap HGC.out 1
     have z2 : wc.frozen? ⟨G, 2, none⟩ = false := Lib.frozen_of_heap HGC.out 2
     have HGZ : Hid ((((wc.setCell ⟨G, 0, none⟩ (.int .i64 1)).setCell ⟨G, 1, none⟩ (.slice (some ⟨gv, 0, none⟩) Sf.V Sf.V)).setCell ⟨G, 2, none⟩ (.slice none 0 0)).heap[G]? = some (.cells #[.int .i64 1, .slice (some ⟨gv, 0, none⟩) Sf.V Sf.V, .slice none 0 0] 175)) := by
       unfold Hid
       rw [heap_setCell_same _ _ _ _ _ _ (heap_setCell_same _ _ _ _ _ _ (heap_setCell_same _ _ _ _ _ _ HGC.out))]
       rfl
     have HGW : Hid ((((wc.setCell ⟨G, 0, none⟩ (.int .i64 1)).setCell ⟨G, 1, none⟩ (.slice (some ⟨gv, 0, none⟩) Sf.V Sf.V)).setCell ⟨G, 2, none⟩ (.slice none 0 0)).heap[gv]? = some (.cells ((valN Sf.B Sf.V Sf.V).map Value.bool).toArray 4 (0, 0))) := by
       unfold Hid
       rw [heap_setCell_other _ _ _ _ (show gv ≠ G from hne), heap_setCell_other _ _ _ _ (show gv ≠ G from hne), heap_setCell_other _ _ _ _ (show gv ≠ G from hne)]
       exact HGV.out
     have HBZ : Hid (Below base w (((wc.setCell ⟨G, 0, none⟩ (.int .i64 1)).setCell ⟨G, 1, none⟩ (.slice (some ⟨gv, 0, none⟩) Sf.V Sf.V)).setCell ⟨G, 2, none⟩ (.slice none 0 0))) := ((HBC.out.setCell (p := ⟨G, 0, none⟩) HGF.out _).setCell (p := ⟨G, 1, none⟩) HGF.out _).setCell (p := ⟨G, 2, none⟩) HGF.out _
     have hbg : base ≤ gv := by omega
     clear hgv hbc HVA HGB HBB HGC HBC HGV
     go_wp2
     try simp only [Exit.inBlock, Exit.then]
     refine bodyPost_ret (results_cell_row rfl _ _ G 175 _ _ _ rfl HGZ.out Tryz.underlying175 rfl (by kernel_rfl)) rfl ?_
     exact ⟨gv, rfl, HGW.out, hbg, HBZ.out⟩
end Go.Proofs.YtmambfdimeeijaaGreatDoor.Sr

namespace Go.Proofs.YtmambfdimeeijaaGreatDoor.Sr
open Go.Proofs.YtmambfdimeeijaaGreatDoor.Pf
set_option maxRecDepth 100000
theorem chOk_of {n : Nat} {S : Sx} (h : (S.Q.pl.length = n ∧ S.Q.wt.length = n ∧ (∀ v ∈ S.Q.hp, 0 ≤ v ∧ v < n) ∧ S.Q.hp.length ≤ 1000000 ∧ n ≤ 1000000) ∧ n ≤ 200000 ∧ S.lean.length = n ∧ S.B.sp.length ≤ 1000000 ∧ 0 ≤ S.B.level ∧ S.B.level ≤ 1000000) : ChOk n S :=
 ⟨⟨h.1.1, h.1.2.1, h.1.2.2.1, h.1.2.2.2.1, h.1.2.2.2.2⟩, h.2.1, h.2.2.1, h.2.2.2.1, h.2.2.2.2⟩
end Go.Proofs.YtmambfdimeeijaaGreatDoor.Sr

namespace Go.Proofs.YtmambfdimeeijaaGreatDoor.Sr
open Go.RowKit Go.Maps Go.Proofs.YtmambfdimeeijaaGreatDoor.Pf
set_option maxRecDepth 100000
theorem row_bools {w : World} {g : Nat} {l : List Bool} (h : w.heap[g]? = some (.cells (l.map Value.bool).toArray 4 (0, 0))) : BoolsAt w (some ⟨g, 0, none⟩) l := fun _ => ⟨g, 0, rfl, fun i hi => by
 rw [Lib.cell_of_heap h, List.getElem?_toArray, List.getElem?_map, Nat.zero_add, List.getElem?_eq_getElem hi]
 rfl⟩
def SoOut (w : World) (Sf : Sx) (e : Ending) (w' : World) : Prop := ∃ g, e = .returned (.tuple #[.agg #[.int .i64 1, .slice (some ⟨g, 0, none⟩) Sf.V Sf.V, .slice none 0 0], .int .i64 0]) ∧ BoolsAt w' (some ⟨g, 0, none⟩) (valN Sf.B Sf.V Sf.V) ∧ Below w.heap.size w w'
set_option maxHeartbeats 8000000 in
theorem solve_s (V : Nat) (hV : V ≤ 14) (p : Option Addr) (cap : Nat) (rs : List Row) (hl : rs.length ≤ 800000) (hx : ∀ r ∈ rs, r.ns.length ≤ 200 ∧ ∀ x ∈ r.ns, Num V x) (hck : chkC V (numsOf rs) = 0) (fuel : Int) (hf : 0 ≤ fuel ∧ fuel ≤ 1000000) (Sf : Sx) (k : Nat) (hk : k ≤ 1000)
   (hrun : ∀ B, Inv V (numsOf rs) (fun _ => False) B → B.level = 0 → (∃ g f, spreadN g (addAll (numsOf rs)) = some (B, f)) → ∃ n, Run V n k true (numsOf rs) (fun _ => False) (newSx V B (fuel * 100)) Sf) (w : World) (hC : ClAt w p rs) :
   Calls Tryz.prog 159 #[cval V p rs.length cap, .int .i64 fuel] w (SoOut w Sf) := by
 have hb0 : Below w.heap.size w ((w.alloc (.cells #[.int .i64 V, .slice p rs.length cap] 30)).alloc (.cells #[.int .i64 0, .slice none 0 0, .slice none 0 0] 175)) := bal (bal (Below.refl _ _) _) _
 have HB0 := hide hb0
 have HCK := hide (checkC_any (V : Int) p cap rs (by omega) (fun r hr => by have := (hx r hr).1; unfold maxLen; omega) ((w.alloc (.cells #[.int .i64 V, .slice p rs.length cap] 30)).alloc (.cells #[.int .i64 0, .slice none 0 0, .slice none 0 0] 175)) (hC.later hb0))
 rw [hck] at HCK
 have HX := hide hx
 have HC := hide hC
 have HR := hide hrun
 have x0 : ((w.alloc (.cells #[.int .i64 V, .slice p rs.length cap] 30)).alloc (.cells #[.int .i64 0, .slice none 0 0, .slice none 0 0] 175)).cell? ⟨w.heap.size, 0, none⟩ = some (.int .i64 V) := by simp [go_sem]
 have x1 : ((w.alloc (.cells #[.int .i64 V, .slice p rs.length cap] 30)).alloc (.cells #[.int .i64 0, .slice none 0 0, .slice none 0 0] 175)).cell? ⟨w.heap.size, 1, none⟩ = some (.slice p rs.length cap) := by simp [go_sem]
 have HG : Hid (((w.alloc (.cells #[.int .i64 V, .slice p rs.length cap] 30)).alloc (.cells #[.int .i64 0, .slice none 0 0, .slice none 0 0] 175)).heap[w.heap.size + 1]? = some (.cells #[.int .i64 0, .slice none 0 0, .slice none 0 0] 175)) := by
   have := (MapKept.heap_alloc (w.alloc (.cells #[.int .i64 V, .slice p rs.length cap] 30)) (.cells #[.int .i64 0, .slice none 0 0, .slice none 0 0] 175)).1
   rw [World.size_alloc] at this
   exact this
 have hfl : decide (fuel < 0) = false := by simp; omega
 have hfg : decide (1000000 < fuel) = false := by simp; omega
 clear hx hC hrun hb0 hck
 unfold cval at *
 go_enter Tryz.func159, Tryz.ntmps159
 go_wp2_with fail
 generalize (w.alloc (.cells #[.int .i64 V, .slice p rs.length cap] 30)).alloc (.cells #[.int .i64 0, .slice none 0 0, .slice none 0 0] 175) = w1 at *
 refine HCK.out.mono ?_
 rintro e w2 ⟨rfl, hb2⟩
 have y0 := cell_later hb2 x0
 have y1 := cell_later hb2 x1
 have HG2 : Hid (w2.heap[w.heap.size + 1]? = some (.cells #[.int .i64 0, .slice none 0 0, .slice none 0 0] 175)) := (hb2.block _ (Array.getElem?_eq_some_iff.1 HG.out).1).trans HG.out
 have HB2 := hide (bthen HB0.out hb2)
 have HNS := hide (newS_any V (by omega) p cap rs hl HX.out fuel ⟨by omega, by omega⟩ w2 (HC.out.later HB2.out))
 unfold cval at HNS
 clear hb2 x0 x1 HCK HG HB0
 generalize hG : w.heap.size + 1 = G at *
 go_wp2_with fail
 refine HNS.out.mono ?_
 rintro e w3 ⟨⟨s, R, nS, nW, q, gp, gw, gm, gl, vh, B, XB, XQ, rfl, hser, hinv, ⟨hlv, hsp⟩, -, -, hnS, hnW⟩, hb3⟩
 obtain ⟨n, hR⟩ := HR.out B hinv hlv hsp
 have HRN := hide (run_s w2.heap.size w3 s XB XQ R nS nW q gp gw gm gl vh _ _ Sf hser V n k _ hR (by omega) (by omega))
 have hG2 : G < w2.heap.size := (Array.getElem?_eq_some_iff.1 HG2.out).1
 have HG3 : Hid (w3.heap[G]? = some (.cells #[.int .i64 0, .slice none 0 0, .slice none 0 0] 175)) := (hb3.block G hG2).trans HG2.out
 have HB3 := hide hb3
 clear hser hinv hlv hsp hb3 HNS HG2 y0 y1 hR
 go_wp2_with fail
 refine HRN.out.mono ?_
 rintro e w4 ⟨g, rfl, hg, hgb, hb4⟩
 have HG4 : Hid (w4.heap[G]? = some (.cells #[.int .i64 0, .slice none 0 0, .slice none 0 0] 175)) := (hb4.block G hG2).trans HG3.out
 have HB4 := hide (bthen HB2.out (HB3.out.trans hb4))
 have hne : g ≠ G := by omega
 have q0 : w4.cell? ⟨G, 0, none⟩ = some (.int .i64 0) := by rw [Lib.cell_of_heap HG4.out]; rfl
 have q1 : w4.cell? ⟨G, 1, none⟩ = some (.slice none 0 0) := by rw [Lib.cell_of_heap HG4.out]; rfl
 have q2 : w4.cell? ⟨G, 2, none⟩ = some (.slice none 0 0) := by rw [Lib.cell_of_heap HG4.out]; rfl
 have z0 : w4.frozen? ⟨G, 0, none⟩ = false := Lib.frozen_of_heap HG4.out 0
 have z1 : w4.frozen? ⟨G, 1, none⟩ = false := Lib.frozen_of_heap HG4.out 1
 have z2 : w4.frozen? ⟨G, 2, none⟩ = false := Lib.frozen_of_heap HG4.out 2
 have HGZ : Hid ((((w4.setCell ⟨G, 0, none⟩ (.int .i64 1)).setCell ⟨G, 1, none⟩ (.slice (some ⟨g, 0, none⟩) Sf.V Sf.V)).setCell ⟨G, 2, none⟩ (.slice none 0 0)).heap[G]? = some (.cells #[.int .i64 1, .slice (some ⟨g, 0, none⟩) Sf.V Sf.V, .slice none 0 0] 175)) := by
   unfold Hid
   rw [heap_setCell_same _ _ _ _ _ _ (heap_setCell_same _ _ _ _ _ _ (heap_setCell_same _ _ _ _ _ _ HG4.out))]
   rfl
 have HGW : Hid (BoolsAt (((w4.setCell ⟨G, 0, none⟩ (.int .i64 1)).setCell ⟨G, 1, none⟩ (.slice (some ⟨g, 0, none⟩) Sf.V Sf.V)).setCell ⟨G, 2, none⟩ (.slice none 0 0)) (some ⟨g, 0, none⟩) (valN Sf.B Sf.V Sf.V)) := by
   refine row_bools ?_
   rw [heap_setCell_other _ _ _ _ (show g ≠ G from hne), heap_setCell_other _ _ _ _ (show g ≠ G from hne), heap_setCell_other _ _ _ _ (show g ≠ G from hne)]
   exact hg
 have HBZ : Hid (Below w.heap.size w (((w4.setCell ⟨G, 0, none⟩ (.int .i64 1)).setCell ⟨G, 1, none⟩ (.slice (some ⟨g, 0, none⟩) Sf.V Sf.V)).setCell ⟨G, 2, none⟩ (.slice none 0 0))) := ((HB4.out.setCell (p := ⟨G, 0, none⟩) (show w.heap.size ≤ G by omega) _).setCell (p := ⟨G, 1, none⟩) (show w.heap.size ≤ G by omega) _).setCell (p := ⟨G, 2, none⟩) (show w.heap.size ≤ G by omega) _
 clear hg hgb hb4 HRN HG3 HG4 HB2 HB3 HB4
 go_wp2
 try simp only [Exit.inBlock, Exit.then]
 refine bodyPost_ret ((results_cell_tmp rfl _ _ _).trans (?_ : _ = Result.ok (.tuple #[.agg #[.int .i64 1, .slice (some ⟨g, 0, none⟩) Sf.V Sf.V, .slice none 0 0], .int .i64 0]) _)) rfl ⟨g, rfl, HGW.out, HBZ.out⟩
 have hld := run_loadVar_row (P := Tryz.prog) _ G 175 175 _ _ _ HGZ.out Tryz.underlying175 rfl (by kernel_rfl)
 generalize ((w4.setCell ⟨G, 0, none⟩ (.int .i64 1)).setCell ⟨G, 1, none⟩ (.slice (some ⟨g, 0, none⟩) Sf.V Sf.V)).setCell ⟨G, 2, none⟩ (.slice none 0 0) = w5 at *
 simp [asAddr, hld, Result.andThen]
end Go.Proofs.YtmambfdimeeijaaGreatDoor.Sr

namespace Go.Proofs.YtmambfdimeeijaaGreatDoor.Sr
open Go.RowKit Go.Maps Go.Proofs.YtmambfdimeeijaaGreatDoor.Pf
set_option maxRecDepth 100000
set_option maxHeartbeats 4000000 in
theorem refused_few (s : Nat) (pl pp : Option Addr) (n m cl pc : Nat) (hr : n + m ≤ 800000) (w : World) (h3 : w.cell? ⟨s, 3, none⟩ = some (.slice pl n cl)) :
   Calls Tryz.prog 194 #[.pointer (some ⟨s, 0, none⟩), .slice pp m pc] w fun e w' => e = .returned (.agg #[.int .i64 2, .slice none 0 0, .slice pp m pc]) ∧ Below w.heap.size w w' := by
 have hb1 : Below w.heap.size w (w.alloc (.cells #[.int .i64 0, .slice none 0 0, .slice none 0 0] 175)) := bal (Below.refl _ _) _
 have y3 := cell_later hb1 h3
 have ww := wrap_in (800000 - (n : Int)) (by omega) (by omega)
 have hfit : decide ((m : Int) ≤ 800000 - (n : Int)) = true := by simp; omega
 clear hb1 h3
 go_enter Tryz.func194, Tryz.ntmps194
 go_wp2
 try simp only [Exit.inBlock, Exit.then]
 refine bodyPost_ret (results_cell_row rfl _ _ w.heap.size 175 _ _ _ rfl (MapKept.heap_alloc w _).1 Tryz.underlying175 rfl (by kernel_rfl)) rfl ?_
 exact ⟨rfl, bal (Below.refl _ _) _⟩
def RnNo (w : World) (base : Nat) (e : Ending) (w' : World) : Prop := ∃ p c, e = .returned (.agg #[.int .i64 2, .slice none 0 0, .slice p 1 c]) ∧ Below base w w'
set_option maxHeartbeats 4000000 in
theorem run_lost (base : Nat) (w : World) (s : Nat) (XB XQ : Nat → Prop) (R nS nW q gp gw gm gl : Nat) (vh : Value) (pl : Option Addr) (n cl : Nat) (S : Sx) (h : Ser base w s XB XQ R nS nW q gp gw gm gl vh (.slice pl n cl) (.slice none 0 0) S) (hlo : S.B.lost = true) (hn : n + 1 ≤ 800000) :
   Calls Tryz.prog 178 #[.pointer (some ⟨s, 0, none⟩)] w (RnNo w base) := by
 have hbs : base ≤ w.heap.size := by have := h.sx; have := h.ss.1; omega
 have hb1 : Below w.heap.size w (w.alloc (.cells #[.int .i64 0, .slice none 0 0, .slice none 0 0] 175)) := bal (Below.refl _ _) _
 have HS := hide (h.later hb1)
 have HG : Hid ((w.alloc (.cells #[.int .i64 0, .slice none 0 0, .slice none 0 0] 175)).heap[w.heap.size]? = some (.cells #[.int .i64 0, .slice none 0 0, .slice none 0 0] 175)) := (MapKept.heap_alloc w _).1
 have HB1 := hide (hb1.mono hbs)
 have hGs : w.heap.size < (w.alloc (.cells #[.int .i64 0, .slice none 0 0, .slice none 0 0] 175)).heap.size := by simp
 clear h hb1
 go_enter Tryz.func178, Tryz.ntmps178
 go_wp2_with fail
 generalize w.alloc (.cells #[.int .i64 0, .slice none 0 0, .slice none 0 0] 175) = w1 at *
 generalize w.heap.size = G at *
 obtain ⟨vp1, w2, hr2, ho2, hold2, hsz2, o2, t2, u2, ⟨p2, k2, c2, hv2⟩⟩ := own_append22 (row_nil w1 0 25 1) none 0 0 (by decide) 28
 have hb2 : Below w1.heap.size w1 w2 := ⟨o2, t2, u2, hsz2, fun g hg => hold2 g hg fun e => by cases e⟩
 have hk2 : k2 = 1 := by
   rcases ho2.2 with ⟨e, h0⟩ | ⟨g, cap, cur, e, _⟩
   · simp at h0
   · rw [hv2] at e
     simp at e
     omega
 subst hk2
 subst hv2
 have s0 := HS.out.s0
 have c3 := BdAt.lo HS.out.bd
 rw [hlo] at c3
 have s5 := HS.out.s5
 have HS2 := hide (HS.out.later hb2)
 have HRF := hide (refused_few s pl p2 n 1 cl c2 hn w2 HS2.out.s3)
 have HG2 : Hid (w2.heap[G]? = some (.cells #[.int .i64 0, .slice none 0 0, .slice none 0 0] 175)) := (hb2.block G hGs).trans HG.out
 have hb12 : base ≤ w1.heap.size := by omega
 have HB2 := hide (HB1.out.trans (hb2.mono hb12))
 have hG2 : G < w2.heap.size := Nat.lt_of_lt_of_le hGs hb2.size
 clear ho2 hold2 hsz2 o2 t2 u2 hb2 HS HG HB1
 go_loopg [] 0 (fun _ wr => wr = w1)
 case atStart => rfl
 case round =>
   subst hrel
   go_wp2_with (at_builtin; refine Lib.wpList_append_run _ rfl _ _ _ _ rfl _ _ rfl rfl _ _ hr2 ?_)
   refine HRF.out.mono ?_
   rintro e w3 ⟨rfl, hb3⟩
   have HG3 : Hid (w3.heap[G]? = some (.cells #[.int .i64 0, .slice none 0 0, .slice none 0 0] 175)) := (hb3.block G hG2).trans HG2.out
   have HB3 := hide (HB2.out.trans (hb3.mono (by omega)))
   have q0 : w3.cell? ⟨G, 0, none⟩ = some (.int .i64 0) := by rw [Lib.cell_of_heap HG3.out]; rfl
   have q1 : w3.cell? ⟨G, 1, none⟩ = some (.slice none 0 0) := by rw [Lib.cell_of_heap HG3.out]; rfl
   have q2 : w3.cell? ⟨G, 2, none⟩ = some (.slice none 0 0) := by rw [Lib.cell_of_heap HG3.out]; rfl
   have z0 : w3.frozen? ⟨G, 0, none⟩ = false := Lib.frozen_of_heap HG3.out 0
   have z1 : w3.frozen? ⟨G, 1, none⟩ = false := Lib.frozen_of_heap HG3.out 1
   have z2 : w3.frozen? ⟨G, 2, none⟩ = false := Lib.frozen_of_heap HG3.out 2
   have HGZ : Hid ((((w3.setCell ⟨G, 0, none⟩ (.int .i64 2)).setCell ⟨G, 1, none⟩ (.slice none 0 0)).setCell ⟨G, 2, none⟩ (.slice p2 1 c2)).heap[G]? = some (.cells #[.int .i64 2, .slice none 0 0, .slice p2 1 c2] 175)) := by
     unfold Hid
     rw [heap_setCell_same _ _ _ _ _ _ (heap_setCell_same _ _ _ _ _ _ (heap_setCell_same _ _ _ _ _ _ HG3.out))]
     rfl
   have HBZ : Hid (Below base w (((w3.setCell ⟨G, 0, none⟩ (.int .i64 2)).setCell ⟨G, 1, none⟩ (.slice none 0 0)).setCell ⟨G, 2, none⟩ (.slice p2 1 c2))) := ((HB3.out.setCell (p := ⟨G, 0, none⟩) hbs _).setCell (p := ⟨G, 1, none⟩) hbs _).setCell (p := ⟨G, 2, none⟩) hbs _
   clear hb3 HG3 HB3
   go_wp2
   try simp only [Exit.inBlock, Exit.then]
   refine bodyPost_ret (results_cell_row rfl _ _ G 175 _ _ _ rfl HGZ.out Tryz.underlying175 rfl (by kernel_rfl)) rfl ?_
   exact ⟨p2, c2, rfl, HBZ.out⟩
def SoNo (w : World) (e : Ending) (w' : World) : Prop := ∃ p c, e = .returned (.tuple #[.agg #[.int .i64 2, .slice none 0 0, .slice p 1 c], .int .i64 0]) ∧ Below w.heap.size w w'
set_option maxHeartbeats 8000000 in
theorem solve_lost (V : Nat) (hV : V ≤ 14) (p : Option Addr) (cap : Nat) (rs : List Row) (hl : rs.length + 1 ≤ 800000) (hx : ∀ r ∈ rs, r.ns.length ≤ 200 ∧ ∀ x ∈ r.ns, Num V x) (hck : chkC V (numsOf rs) = 0) (fuel : Int) (hf : 0 ≤ fuel ∧ fuel ≤ 1000000) 
   (hrun : ∀ B, Inv V (numsOf rs) (fun _ => False) B → (∃ g f, spreadN g (addAll (numsOf rs)) = some (B, f)) → B.lost = true) (w : World) (hC : ClAt w p rs) :
   Calls Tryz.prog 159 #[cval V p rs.length cap, .int .i64 fuel] w (SoNo w) := by
 have hb0 : Below w.heap.size w ((w.alloc (.cells #[.int .i64 V, .slice p rs.length cap] 30)).alloc (.cells #[.int .i64 0, .slice none 0 0, .slice none 0 0] 175)) := bal (bal (Below.refl _ _) _) _
 have HB0 := hide hb0
 have HCK := hide (checkC_any (V : Int) p cap rs (by omega) (fun r hr => by have := (hx r hr).1; unfold maxLen; omega) ((w.alloc (.cells #[.int .i64 V, .slice p rs.length cap] 30)).alloc (.cells #[.int .i64 0, .slice none 0 0, .slice none 0 0] 175)) (hC.later hb0))
 rw [hck] at HCK
 have HX := hide hx
 have HC := hide hC
 have HR := hide hrun
 have x0 : ((w.alloc (.cells #[.int .i64 V, .slice p rs.length cap] 30)).alloc (.cells #[.int .i64 0, .slice none 0 0, .slice none 0 0] 175)).cell? ⟨w.heap.size, 0, none⟩ = some (.int .i64 V) := by simp [go_sem]
 have x1 : ((w.alloc (.cells #[.int .i64 V, .slice p rs.length cap] 30)).alloc (.cells #[.int .i64 0, .slice none 0 0, .slice none 0 0] 175)).cell? ⟨w.heap.size, 1, none⟩ = some (.slice p rs.length cap) := by simp [go_sem]
 have HG : Hid (((w.alloc (.cells #[.int .i64 V, .slice p rs.length cap] 30)).alloc (.cells #[.int .i64 0, .slice none 0 0, .slice none 0 0] 175)).heap[w.heap.size + 1]? = some (.cells #[.int .i64 0, .slice none 0 0, .slice none 0 0] 175)) := by
   have := (MapKept.heap_alloc (w.alloc (.cells #[.int .i64 V, .slice p rs.length cap] 30)) (.cells #[.int .i64 0, .slice none 0 0, .slice none 0 0] 175)).1
   rw [World.size_alloc] at this
   exact this
 have hfl : decide (fuel < 0) = false := by simp; omega
 have hfg : decide (1000000 < fuel) = false := by simp; omega
 clear hx hC hrun hb0 hck
 unfold cval at *
 go_enter Tryz.func159, Tryz.ntmps159
 go_wp2_with fail
 generalize (w.alloc (.cells #[.int .i64 V, .slice p rs.length cap] 30)).alloc (.cells #[.int .i64 0, .slice none 0 0, .slice none 0 0] 175) = w1 at *
 refine HCK.out.mono ?_
 rintro e w2 ⟨rfl, hb2⟩
 have y0 := cell_later hb2 x0
 have y1 := cell_later hb2 x1
 have HG2 : Hid (w2.heap[w.heap.size + 1]? = some (.cells #[.int .i64 0, .slice none 0 0, .slice none 0 0] 175)) := (hb2.block _ (Array.getElem?_eq_some_iff.1 HG.out).1).trans HG.out
 have HB2 := hide (bthen HB0.out hb2)
 have HNS := hide (newS_any V (by omega) p cap rs (by omega) HX.out fuel ⟨by omega, by omega⟩ w2 (HC.out.later HB2.out))
 unfold cval at HNS
 clear hb2 x0 x1 HCK HG HB0
 generalize hG : w.heap.size + 1 = G at *
 go_wp2_with fail
 refine HNS.out.mono ?_
 rintro e w3 ⟨⟨s, R, nS, nW, q, gp, gw, gm, gl, vh, B, XB, XQ, rfl, hser, hinv, ⟨hlv, hsp⟩, -, -, hnS, hnW⟩, hb3⟩
 have hR := HR.out B hinv hsp
 have HRN := hide (run_lost w2.heap.size w3 s XB XQ R nS nW q gp gw gm gl vh _ _ _ _ hser hR hl)
 have hG2 : G < w2.heap.size := (Array.getElem?_eq_some_iff.1 HG2.out).1
 have HG3 : Hid (w3.heap[G]? = some (.cells #[.int .i64 0, .slice none 0 0, .slice none 0 0] 175)) := (hb3.block G hG2).trans HG2.out
 have HB3 := hide hb3
 clear hser hinv hlv hsp hb3 HNS HG2 y0 y1 hR
 go_wp2_with fail
 refine HRN.out.mono ?_
 rintro e w4 ⟨pp, pc, rfl, hb4⟩
 have HG4 : Hid (w4.heap[G]? = some (.cells #[.int .i64 0, .slice none 0 0, .slice none 0 0] 175)) := (hb4.block G hG2).trans HG3.out
 have HB4 := hide (bthen HB2.out (HB3.out.trans hb4))
 have q0 : w4.cell? ⟨G, 0, none⟩ = some (.int .i64 0) := by rw [Lib.cell_of_heap HG4.out]; rfl
 have q1 : w4.cell? ⟨G, 1, none⟩ = some (.slice none 0 0) := by rw [Lib.cell_of_heap HG4.out]; rfl
 have q2 : w4.cell? ⟨G, 2, none⟩ = some (.slice none 0 0) := by rw [Lib.cell_of_heap HG4.out]; rfl
 have z0 : w4.frozen? ⟨G, 0, none⟩ = false := Lib.frozen_of_heap HG4.out 0
 have z1 : w4.frozen? ⟨G, 1, none⟩ = false := Lib.frozen_of_heap HG4.out 1
 have z2 : w4.frozen? ⟨G, 2, none⟩ = false := Lib.frozen_of_heap HG4.out 2
 have HGZ : Hid ((((w4.setCell ⟨G, 0, none⟩ (.int .i64 2)).setCell ⟨G, 1, none⟩ (.slice none 0 0)).setCell ⟨G, 2, none⟩ (.slice pp 1 pc)).heap[G]? = some (.cells #[.int .i64 2, .slice none 0 0, .slice pp 1 pc] 175)) := by
   unfold Hid
   rw [heap_setCell_same _ _ _ _ _ _ (heap_setCell_same _ _ _ _ _ _ (heap_setCell_same _ _ _ _ _ _ HG4.out))]
   rfl
 have HBZ : Hid (Below w.heap.size w (((w4.setCell ⟨G, 0, none⟩ (.int .i64 2)).setCell ⟨G, 1, none⟩ (.slice none 0 0)).setCell ⟨G, 2, none⟩ (.slice pp 1 pc))) := ((HB4.out.setCell (p := ⟨G, 0, none⟩) (show w.heap.size ≤ G by omega) _).setCell (p := ⟨G, 1, none⟩) (show w.heap.size ≤ G by omega) _).setCell (p := ⟨G, 2, none⟩) (show w.heap.size ≤ G by omega) _
 clear hb4 HRN HG3 HG4 HB2 HB3 HB4
 go_wp2
 try simp only [Exit.inBlock, Exit.then]
 refine bodyPost_ret ((results_cell_tmp rfl _ _ _).trans (?_ : _ = Result.ok (.tuple #[.agg #[.int .i64 2, .slice none 0 0, .slice pp 1 pc], .int .i64 0]) _)) rfl ⟨pp, pc, rfl, HBZ.out⟩
 have hld := run_loadVar_row (P := Tryz.prog) _ G 175 175 _ _ _ HGZ.out Tryz.underlying175 rfl (by kernel_rfl)
 generalize ((w4.setCell ⟨G, 0, none⟩ (.int .i64 2)).setCell ⟨G, 1, none⟩ (.slice none 0 0)).setCell ⟨G, 2, none⟩ (.slice pp 1 pc) = w5 at *
 simp [asAddr, hld, Result.andThen]
end Go.Proofs.YtmambfdimeeijaaGreatDoor.Sr
