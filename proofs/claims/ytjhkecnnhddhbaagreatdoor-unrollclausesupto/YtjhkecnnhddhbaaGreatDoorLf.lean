/- A searcher is made. -/
import Derived.Test.YtjhkecnnhddhbaaGreatDoorLeM
namespace Go.Proofs.YtjhkecnnhddhbaaGreatDoor.Sr
open Go.RowKit Go.Maps Go.Proofs.YtjhkecnnhddhbaaGreatDoor.Pf
set_option maxRecDepth 100000
def newSx (V : Nat) (B : Bd) (most : Int) : Sx := ⟨B, newQ V V, V, most, 0, List.replicate V 0, List.replicate (V + 1) 0, 100, 100⟩
theorem ser_new {base V : Nat} {W : World} {s R nS nW q gp gw gm gl a1 a2 b1 b2 : Nat} {XB XQ : Nat → Prop} {vh vl : Value} {B : Bd} {most : Int}
   (hbk : W.heap[s]? = some (.cells #[.pointer (some ⟨R, 0, none⟩), .pointer (some ⟨q, 0, none⟩), .int .i64 V, vl, .int .i64 most, .slice none 0 0, .int .i64 0, .slice (some ⟨gm, 0, none⟩) V V, .slice (some ⟨gl, 0, none⟩) (V + 1) (V + 1), .int .i64 100, .int .i64 100] 204 (0, 0)))
   (hbd : BdAt W XB R nS nW B) (hq : Qm W XQ q gp gw vh (newQ V V)) (hgm : W.heap[gm]? = some (.cells (Array.replicate V (.int .i64 0)) 3 (0, 0))) (hgl : W.heap[gl]? = some (.cells (Array.replicate (V + 1) (.int .i64 0)) 3 (0, 0)))
   (hA : ∀ g, XB g → a1 ≤ g ∧ g < a2) (hB : ∀ g, XQ g → b1 ≤ g ∧ g < b2) (h1 : base ≤ a1 ∧ a1 ≤ a2 ∧ a2 ≤ b1 ∧ b1 ≤ b2 ∧ b2 ≤ s) (h2 : base ≤ gm ∧ gm < s ∧ (gm < a1 ∨ (a2 ≤ gm ∧ gm < b1) ∨ b2 ≤ gm)) (h3 : base ≤ gl ∧ gl < s ∧ (gl < a1 ∨ (a2 ≤ gl ∧ gl < b1) ∨ b2 ≤ gl)) (h4 : gm ≠ gl) :
   Ser base W s XB XQ R nS nW q gp gw gm gl vh vl (.slice none 0 0) (newSx V B most) := by
 refine ⟨by simp only [newSx, List.length_replicate]; exact hbk, hbd, hq, by rw [hgm]; simp [newSx], by rw [hgl]; simp [newSx], fun g ha hb => ?_, fun h => ?_, fun h => ?_, fun h => ?_, fun h => ?_, fun h => ?_, fun h => ?_, h4, fun g h => ?_, fun g h => ?_, by omega, by omega, by omega⟩
 · have := hA g ha; have := hB g hb; omega
 · have := hA _ h; omega
 · have := hB _ h; omega
 · have := hA _ h; omega
 · have := hB _ h; omega
 · have := hA _ h; omega
 · have := hB _ h; omega
 · have := hA g h; omega
 · have := hB g h; omega
theorem heap_new_at {w : World} {o : Obj} {k : Nat} (h : k = w.heap.size) : (w.alloc o).heap[k]? = some o := by
 subst h
 exact heap_alloc_new w o
theorem heap_drew_at {w : World} {k : Nat} : w.drew.heap[k]? = w.heap[k]? := rfl
theorem BdAt.later {w w1 : World} {X : Nat → Prop} {R nS nW : Nat} {B : Bd} (h : BdAt w X R nS nW B) (hb : Below w.heap.size w w1) : BdAt w1 X R nS nW B := BdAt.apart h hb.size fun g hg => hb.block g (BdAt.xb h g hg)
def NsOut (w : World) (V : Nat) (L : List (List Int)) (vl : Value) (most : Int) (e : Ending) (w' : World) : Prop :=
 (∃ s R nS nW q gp gw gm gl vh B XB XQ, e = .returned (.pointer (some ⟨s, 0, none⟩)) ∧ Ser w.heap.size w' s XB XQ R nS nW q gp gw gm gl vh vl (.slice none 0 0) (newSx V B most) ∧ Inv V L (fun _ => False) B ∧ (B.level = 0 ∧ ∃ g f, spreadN g (addAll L) = some (B, f)) ∧ (B.lost = false → B.spread = B.sp.length) ∧ B.cl.length ≤ L.length ∧ nS ≤ 1000000000 ∧ nW ≤ 1000000000000) ∧ Below w.heap.size w w'
set_option maxHeartbeats 8000000 in
theorem newS_any (V : Nat) (hV : V ≤ 100000) (p : Option Addr) (cap : Nat) (rs : List Row) (hl : rs.length ≤ 800000) (hx : ∀ r ∈ rs, r.ns.length ≤ 200 ∧ ∀ x ∈ r.ns, Num V x) (fuel : Int) (hf : 0 ≤ fuel ∧ fuel ≤ 1000000000) (w : World) (hC : ClAt w p rs) :
   Calls Tryz.prog 158 #[cval V p rs.length cap, .int .i64 fuel] w (NsOut w V (rs.map (·.ns)) (.slice p rs.length cap) (fuel * 100)) := by
 have hb0 : Below w.heap.size w (w.alloc (.cells #[.int .i64 V, .slice p rs.length cap] 30)) := bal (Below.refl _ _) _
 have m0 : (w.alloc (.cells #[.int .i64 V, .slice p rs.length cap] 30)).cell? ⟨w.heap.size, 0, none⟩ = some (.int .i64 V) := by simp [go_sem]
 have m1 : (w.alloc (.cells #[.int .i64 V, .slice p rs.length cap] 30)).cell? ⟨w.heap.size, 1, none⟩ = some (.slice p rs.length cap) := by simp [go_sem]
 have HNW := hide (fun (W : World) (hb : Below (w.alloc (.cells #[.int .i64 V, .slice p rs.length cap] 30)).heap.size (w.alloc (.cells #[.int .i64 V, .slice p rs.length cap] 30)) W) => new_any V (by omega) V p cap rs hl hx W (hC.later (bthen hb0 hb)))
 have HNQ := hide (fun (W : World) => newQ_any V (by omega) W)
 have HB0 := hide hb0
 have HSW : Hid ((w.alloc (.cells #[.int .i64 V, .slice p rs.length cap] 30)).heap.size = w.heap.size + 1) := by unfold Hid; simp
 have hmk1 := make_zeros V (by omega)
 have hmk2 := make_zeros (V + 1) (by omega)
 have hv1 : ((V + 1 : Nat) : Int) = (V : Int) + 1 := by omega
 rw [hv1] at hmk2
 have wa : IntKind.i64.wrap ((V : Int) + 1) = (V : Int) + 1 := by rw [IntKind.wrap_i64]; omega
 have wb : IntKind.i64.wrap (fuel * 100) = fuel * 100 := by rw [IntKind.wrap_i64]; omega
 unfold cval
 unfold cval at HNW
 clear hx hC hb0
 go_enter Tryz.func158, Tryz.ntmps158
 go_wp2_with fail
 generalize w.alloc (.cells #[.int .i64 V, .slice p rs.length cap] 30) = w0 at *
 go_region_held3 (fun w' => w'.cell? ⟨w.heap.size, 0, none⟩ = some (.int .i64 V) ∧ w'.cell? ⟨w.heap.size, 1, none⟩ = some (.slice p rs.length cap))
   (first | exact ⟨m0, m1⟩ | exact ⟨cell_later (w := w0) (by (repeat (first | exact Below.refl _ _ | refine bal ?_ _ | refine Below.drew ?_ | refine bthen ?_ hbA | refine bthen ?_ hbB))) m0, cell_later (w := w0) (by (repeat (first | exact Below.refl _ _ | refine bal ?_ _ | refine Below.drew ?_ | refine bthen ?_ hbA | refine bthen ?_ hbB))) m1⟩ | go_keep)
   (first
     | (go_at_call 176; refine (HNW.out _ (by (repeat (first | exact Below.refl _ _ | refine bal ?_ _ | refine Below.drew ?_ | refine bthen ?_ hbA | refine bthen ?_ hbB)))).mono ?_; rintro e wA ⟨R, B, XB, nS, nW, rfl, hbd, hbA, hxA, hI, hlv, hsp, hcl, hn1, hn2⟩)
     | (go_at_call 177; refine (HNQ.out _).mono ?_; rintro e wB ⟨⟨q, gp, gw, rfl, XQ, ⟨vh, hq⟩, hxq⟩, hbB⟩))
 all_goals
   have szA := hbA.size
   have szB := hbB.size
   have sz0 := HB0.out.size
   have szw := HSW.out
   have hxA2 : ∀ g, XB g → _ ∧ g < wA.heap.size := fun g hg => ⟨hxA g hg, BdAt.xb hbd g hg⟩
   have hxq2 : ∀ g, XQ g → _ ∧ g < wB.heap.size := fun g hg => ⟨hxq g hg, hq.xb g hg⟩
   simp only [World.size_alloc, World.size_drew] at szA szB
   have HXA := hide hxA2
   have HXQ := hide hxq2
   have HRS := hide (And.intro hI (And.intro hlv (And.intro hsp (And.intro hcl (And.intro hn1 hn2)))))
   clear hxA hxq hxA2 hxq2 hI hlv hsp hcl hn1 hn2
   go_wp2
   go_ret
   refine ⟨⟨_, R, nS, nW, q, gp, gw, _, _, vh, B, XB, XQ, rfl, ser_new (heap_new_at (by simp; done)) (BdAt.later hbd ?c1) (hq.later ?c2) ?hgm ?hgl HXA.out HXQ.out ?h1 ?h2 ?h3 ?h4, HRS.out⟩, bthen HB0.out ?bw⟩
   case c1 => (repeat (first | exact Below.refl _ _ | refine bthen ?_ hbB | refine bthen ?_ hbA | refine bal ?_ _ | refine Below.drew ?_))
   case c2 => (repeat (first | exact Below.refl _ _ | refine bthen ?_ hbB | refine bthen ?_ hbA | refine bal ?_ _ | refine Below.drew ?_))
   case bw => (repeat (first | exact Below.refl _ _ | refine bthen ?_ hbB | refine bthen ?_ hbA | refine bal ?_ _ | refine Below.drew ?_))
   case hgm => (repeat (first | exact heap_new_at (by simp; done) | refine (hbB.block _ (by first | (simp; done) | (simp; omega) | omega)).trans ?_ | refine (hbA.block _ (by first | (simp; done) | (simp; omega) | omega)).trans ?_ | refine (Below.heap_alloc _ _ _ (by first | (simp; done) | (simp; omega) | omega)).trans ?_ | rw [heap_drew_at]))
   case hgl => (repeat (first | exact heap_new_at (by simp; done) | refine (hbB.block _ (by first | (simp; done) | (simp; omega) | omega)).trans ?_ | refine (hbA.block _ (by first | (simp; done) | (simp; omega) | omega)).trans ?_ | refine (Below.heap_alloc _ _ _ (by first | (simp; done) | (simp; omega) | omega)).trans ?_ | rw [heap_drew_at]))
   case h1 => simp only [World.size_alloc, World.size_drew]; omega
   case h2 => simp only [World.size_alloc, World.size_drew]; omega
   case h3 => simp only [World.size_alloc, World.size_drew]; omega
   case h4 => omega
end Go.Proofs.YtjhkecnnhddhbaaGreatDoor.Sr
