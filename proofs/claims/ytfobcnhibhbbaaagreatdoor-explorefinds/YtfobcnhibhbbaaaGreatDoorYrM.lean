/- A region that draws its order, inside a round: as everywhere, where it defers nothing. -/
import Derived.Test.YtfobcnhibhbbaaaGreatDoorYnM
import Derived.Deep.RegionHeld3
import Derived.OrdersIn
import Derived.Test.YtfobcnhibhbbaaaGreatDoorYo
import Derived.Test.YtfobcnhibhbbaaaGreatDoorYp
namespace Go.Proofs.YtfobcnhibhbbaaaGreatDoor.Ev.Xp
open Go.RowKit
set_option maxRecDepth 100000
section
variable {l n : Nat} {P : Program} {ops : Array Oper} {Q : Exit → Act → World → Prop} {md : Region.Mode}
theorem wpOp_round {i : Nat} {K : Act → World → Prop} {a : Act} {w : World} (hQ : ¬ LetsOut Q) (hnd : ∀ o, ops[i]? = some o → ∀ c, o.op ≠ .defer c) (h : wpOp P ops Q i K a w) : wpOpIn (Fence.wide.inRound l) n P ops Q i K a w := by
  unfold wpOp at h
  unfold wpOpIn
  cases ho : ops[i]? with
  | none => simpa [ho] using h
  | some o =>
    simp only [ho] at h ⊢
    split
    · rename_i hw
      simp only [hw, if_true, Oper.wp] at h
      refine ⟨fun _ _ => trivial, ?_⟩
      rw [show (Fence.wide.inRound l).round = some l from rfl, Oper.semAt_eq _ _ _ (hnd o ho)]
      replace h : o.upon P a K Q ((execOp a.eval o).run P w) := h.resolve_right fun e => hQ e.2
      generalize (execOp a.eval o).run P w = r at *
      have hd : (Fence.wide.inRound l).depth.isSome = true → 1 ≤ n := fun e => by simp [Fence.wide] at e
      cases r with
      | ok x w' =>
        cases x <;> simp only [Oper.upon, Oper.uponIn] at h ⊢
        case value v => exact h
        case skip => exact h
        case defer d => exact h
        case enter f args => exact ⟨hd, CallsIn.inRound l (callsIn_wide.2 h)⟩
        case row row args => exact ⟨hd, fun c cs _ => let ⟨v, w', r, s⟩ := h c cs; ⟨v, w', r, stepsIn_wide.2 s⟩⟩
      | halt x w' => cases x <;> simp only [Oper.upon, Oper.uponIn] at h ⊢ <;> exact h
    · rename_i hw
      simp only [hw] at h
      exact ⟨fun _ _ => trivial, h⟩
theorem wpAny_round (hQ : ¬ LetsOut Q) (hnd : ∀ (i : Nat) (o : Oper), ops[i]? = some o → ∀ c, o.op ≠ .defer c) : ∀ (fuel : Nat) (listed : Array Bool) (a : Act) (w : World), wpAny P md ops Q fuel listed a w → wpAnyIn (Fence.wide.inRound l) n P md ops Q fuel listed a w
  | 0, _, _, _, h => h
  | fuel + 1, _, _, _, h => ⟨h.1, fun i hi => wpOpIn_mono (fun a' w' h' => wpAny_round hQ hnd fuel _ a' w' h') (wpOp_round hQ (hnd i) (h.2 i hi))⟩
/-- None of them defers. -/
def noDefer (ops : Array Oper) : Bool := ops.toList.all fun o => match o.op with | .defer _ => false | _ => true
theorem noDefer_at (h : noDefer ops = true) : ∀ (i : Nat) (o : Oper), ops[i]? = some o → ∀ c, o.op ≠ .defer c := fun i o ho c e => by
  have := List.all_eq_true.1 h o (by rw [← Array.mem_def]; exact Array.mem_of_getElem? ho)
  rw [e] at this
  cases this
theorem wpIn_round_held {S : World → Prop} {id : Nat} {a : Act} {w : World} (hm : P.follows .mixedOrders = true) (hQ : ¬ LetsOut Q) (hnd : noDefer ops = true) (hS : S w.drew) (h : S w.drew → wpAnyH P .any ops Q S ops.size (Array.replicate ops.size false) a w.drew) : (Code.region id ops true).wpIn (Fence.wide.inRound l) n P Q a w :=
  wpIn_region_any hm (wpAny_round hQ (noDefer_at hnd) _ _ _ _ (wpAny_of_held _ _ _ _ (h hS)))
end
end Go.Proofs.YtfobcnhibhbbaaaGreatDoor.Ev.Xp

namespace Go.Proofs.YtfobcnhibhbbaaaGreatDoor.Ev.Xp
open Go.RowKit Go.Maps Go.WideMaps Go.WideShapes
set_option maxRecDepth 100000

/-- A model in memory. -/
structure MdAt (m : Mv) (ns : List Nd) (is xs : List (Int × Int)) (bs hs : List Int) (W : World) : Prop where
  nd : NodesAt W m.a0 ns
  pi : PairsAt W m.a1 is
  px : PairsAt W m.a2 xs
  ib : IntsAt W m.a3 bs
  ih : IntsAt W m.a4 hs
theorem MdAt.later {m : Mv} {ns : List Nd} {is xs : List (Int × Int)} {bs hs : List Int} {w W : World} (h : MdAt m ns is xs bs hs w) (hb : Below w.heap.size w W) : MdAt m ns is xs bs hs W := ⟨h.nd.later hb, h.pi.later hb, h.px.later hb, h.ib.later hb, h.ih.later hb⟩
/-- Nothing but X has changed; of what was there X' has only what X had. -/
structure Fz (X : Nat → Prop) (w w' : World) (X' : Nat → Prop) : Prop where
  os : w'.os = w.os
  tape : w'.tape = w.tape
  output : w'.output = w.output
  size : w.heap.size ≤ w'.heap.size
  far : ∀ g, g < w.heap.size → ¬ X g → w'.heap[g]? = w.heap[g]?
  fro : ∀ g, g < w.heap.size → X' g → X g
theorem Fr.fz {X X' : Nat → Prop} {w w' : World} (h : Fr X w w' X') : Fz X w w' X' := ⟨h.os, h.tape, h.output, h.size, h.far, h.fro⟩
theorem Fz.refl (X : Nat → Prop) (w : World) : Fz X w w X := (Fr.refl X w).fz
theorem Fz.trans {X Y Z : Nat → Prop} {a b c : World} (h : Fz X a b Y) (k : Fz Y b c Z) : Fz X a c Z :=
  ⟨k.os.trans h.os, k.tape.trans h.tape, k.output.trans h.output, Nat.le_trans h.size k.size, fun g hg hx => (k.far g (Nat.lt_of_lt_of_le hg h.size) fun e => hx (h.fro g hg e)).trans (h.far g hg hx), fun g hg e => h.fro g hg (k.fro g (Nat.lt_of_lt_of_le hg h.size) e)⟩
theorem Fz.less {X Y Y' : Nat → Prop} {a b : World} (h : Fz X a b Y) (hy : ∀ g, Y' g → Y g) : Fz X a b Y' := ⟨h.os, h.tape, h.output, h.size, h.far, fun g hg e => h.fro g hg (hy g e)⟩
theorem Fz.quiet {X : Nat → Prop} {a b : World} (h : Below a.heap.size a b) : Fz X a b X := (Fr.quiet h).fz
theorem Fz.below {X Y : Nat → Prop} {a b : World} (h : Fz X a b Y) {base : Nat} (hb : base ≤ a.heap.size) (hx : ∀ g, X g → base ≤ g) : Below base a b :=
  ⟨h.os, h.tape, h.output, h.size, fun k hk => h.far k (by omega) fun e => by have := hx k e; omega⟩
theorem Fz.cell {X Y : Nat → Prop} {a b : World} (h : Fz X a b Y) {q : Addr} {v : Value} (hq : a.cell? q = some v) (hx : ¬ X q.block) : b.cell? q = some v := by
  rw [World.cell?_of_block (w := a) (h.far _ (World.block_lt_of_cell? _ _ hq) hx)]
  exact hq
theorem Fz.kq {X Y : Nat → Prop} {a b : World} (h : Fz X a b Y) : Kq a.heap.size X a b := ⟨h.size, h.far⟩
theorem Fz.kq2 {X Y Z : Nat → Prop} {w a b : World} (h0 : Fz X w a Y) (h : Fz Y a b Z) : Kq w.heap.size X a b := ⟨h.size, fun g hg hx => h.far g (Nat.lt_of_lt_of_le hg h0.size) fun e => hx (h0.fro g hg e)⟩
/-- A model that lies apart from what changes. -/
def Env (m : Mv) (ns : List Nd) (is xs : List (Int × Int)) (bs hs : List Int) (X : Nat → Prop) (w : World) : Prop := ∀ W, Kq w.heap.size X w W → MdAt m ns is xs bs hs W
section
variable {m : Mv} {ns : List Nd} {is xs : List (Int × Int)} {bs hs : List Int} {X X' : Nat → Prop} {w W : World}
theorem Env.now (h : Env m ns is xs bs hs X w) : MdAt m ns is xs bs hs w := h w (Kq.refl _ _ _)
theorem Env.go (h : Env m ns is xs bs hs X w) (hf : Fz X w W X') : Env m ns is xs bs hs X' W := fun V hV =>
  h V ⟨Nat.le_trans hf.size hV.size, fun g hg hx => (hV.far g (Nat.lt_of_lt_of_le hg hf.size) fun e => hx (hf.fro g hg e)).trans (hf.far g hg hx)⟩
theorem Env.less (h : Env m ns is xs bs hs X w) (hx : ∀ g, X' g → X g) : Env m ns is xs bs hs X' w := fun V hV => h V ⟨hV.size, fun g hg e => hV.far g hg fun e' => e (hx g e')⟩
/-- A model that lay there when nothing was one's own. -/
theorem Env.of_new (h : MdAt m ns is xs bs hs w) (hb : Below w.heap.size w W) (hx : ∀ g, X g → w.heap.size ≤ g) : Env m ns is xs bs hs X W := fun V hV => by
  have key : ∀ {q : Addr} {v : Value}, w.cell? q = some v → V.cell? q = some v := fun {q v} hq => by
    have hl := World.block_lt_of_cell? _ _ hq
    rw [World.cell?_of_block (w := w) ((hV.far _ (Nat.lt_of_lt_of_le hl hb.size) fun e => by have := hx _ e; omega).trans (hb.block _ hl))]
    exact hq
  refine ⟨fun h0 => ?_, fun h0 => ?_, fun h0 => ?_, fun h0 => ?_, fun h0 => ?_⟩
  · obtain ⟨b, off, e, hc⟩ := h.nd h0
    refine ⟨b, off, e, fun i hi => ?_⟩
    obtain ⟨q0, q1, q2, q3, q4, q5⟩ := hc i hi
    exact ⟨key q0, key q1, key q2, key q3, key q4, key q5⟩
  · obtain ⟨b, off, e, hc⟩ := h.pi h0
    exact ⟨b, off, e, fun i hi => ⟨key (hc i hi).1, key (hc i hi).2⟩⟩
  · obtain ⟨b, off, e, hc⟩ := h.px h0
    exact ⟨b, off, e, fun i hi => ⟨key (hc i hi).1, key (hc i hi).2⟩⟩
  · obtain ⟨b, off, e, hc⟩ := h.ib h0
    exact ⟨b, off, e, fun i hi => key (hc i hi)⟩
  · obtain ⟨b, off, e, hc⟩ := h.ih h0
    exact ⟨b, off, e, fun i hi => key (hc i hi)⟩
end
section
variable {w W : World} {X : Nat → Prop} {B S nM : Nat} {v0 v1 v2 v3 v4 va : Value} {n : Nat} {m : List (Sg × Nat)} {rows : List Rw} {f : Fd}
/-- What is one's own, but for blocks that are neither the map nor cells. -/
def onlyC (X : Nat → Prop) (S : Nat) (w : World) (g : Nat) : Prop := X g ∧ (g = S ∨ ∃ cs T fr, w.heap[g]? = some (.cells cs T fr))
theorem Ex.only (h : Ex w X B S nM v0 v1 v2 v3 v4 va n m rows f) : Ex w (onlyC X S w) B S nM v0 v1 v2 v3 v4 va n m rows f := by
  refine ⟨h.bd, h.mt, ?_, fun r hr => ⟨(h.rin r hr).1, fun a h0 e hx => (h.rin r hr).2 a h0 e hx.1⟩, h.ft, h.n10, ⟨h.xe, .inr ⟨_, _, _, h.bd⟩⟩, ⟨h.xs, .inl rfl⟩, fun g hg => h.xb g hg.1⟩
  rcases h.ah with h1 | ⟨g, off, cap, cur, e, hb, hX, h1, h2, h3⟩
  · exact .inl h1
  · exact .inr ⟨g, off, cap, cur, e, hb, ⟨hX, .inr ⟨_, _, _, hb⟩⟩, h1, h2, h3⟩
theorem Ex.mono (h : Ex w X B S nM v0 v1 v2 v3 v4 va n m rows f) {nM' : Nat} (hn : nM ≤ nM') : Ex w X B S nM' v0 v1 v2 v3 v4 va n m rows f := by
  obtain ⟨D, h1, h2⟩ := h.mt
  exact ⟨h.bd, ⟨D, h1.mono hn, h2⟩, h.ah, h.rin, h.ft, h.n10, h.xe, h.xs, h.xb⟩
theorem Ex.grown {V : World} {row : Option Nat} {b0 : Nat} (h : Ex w X B S nM v0 v1 v2 v3 v4 va n m rows f) (hg : w.grownBy V row) (hr : ∀ r, row = some r → b0 ≤ r ∧ ∃ o : Obj, w.heap[r]? = some o ∧ o.isCells = false) (hS : S < b0) : Ex V X B S nM v0 v1 v2 v3 v4 va n m rows f := by
  have hc : ∀ {g : Nat} {cs : Array Value} {T : TypeId} {fr : Nat × Nat}, w.heap[g]? = some (.cells cs T fr) → V.heap[g]? = w.heap[g]? := fun {g cs T fr} hb => hg.block g (Array.getElem?_eq_some_iff.1 hb).1 fun e => by
    obtain ⟨_, o, h1, h2⟩ := hr g e.symm
    rw [hb] at h1
    injection h1 with h1
    subst h1
    cases h2
  refine ⟨(hc h.bd).trans h.bd, ?_, h.ah.same (fun _ e => e) (fun g hg' => ?_), fun r hr' => ⟨ints_same (h.rin r hr').1 fun a h0 e => ?_, (h.rin r hr').2⟩, h.ft, h.n10, h.xe, h.xs, fun g hg' => Nat.lt_of_lt_of_le (h.xb g hg') hg.size⟩
  · obtain ⟨D, h1, h2⟩ := h.mt
    exact ⟨D, map_same h1 (hg.block S h1.lt fun e => by have := (hr S e.symm).1; omega), h2⟩
  · obtain ⟨_, cur, hb⟩ := ah_block h.ah hg'
    exact hc hb
  · obtain ⟨b, off, e2, hcc⟩ := (h.rin r hr').1 h0
    rw [e] at e2
    injection e2 with e2
    subst e2
    have hq := hcc 0 h0
    have hlt : b < w.heap.size := World.block_lt_of_cell? _ _ hq
    refine hg.block b hlt fun e3 => ?_
    obtain ⟨_, o, h1, h2⟩ := hr b e3.symm
    unfold World.cell? at hq
    simp only [h1] at hq
    cases o <;> simp_all [Obj.isCells]
theorem Fz.grown {V : World} {row : Option Nat} {X' : Nat → Prop} (h : Fz X w W X') (hg : W.grownBy V row) (hr : ∀ r, row = some r → w.heap.size ≤ r) : Fz X w V X' :=
  ⟨hg.os.trans h.os, hg.tape.trans h.tape, hg.output.trans h.output, Nat.le_trans h.size hg.size, fun g hg' hx => (hg.block g (Nat.lt_of_lt_of_le hg' h.size) fun e => by have := hr g e.symm; omega).trans (h.far g hg' hx), h.fro⟩
/-- What is neither the map nor cells lies as it lay. -/
theorem Fz.keeps {X' : Nat → Prop} {b0 : Nat} (h : Fz (onlyC X S w) w W X') (hS : S < b0) : KeepsFrom b0 w W :=
  ⟨h.size, fun k o hb hk ho => (h.far k (Array.getElem?_eq_some_iff.1 hk).1 fun e => by
    rcases e.2 with rfl | ⟨cs, T, fr, hc⟩
    · omega
    · rw [hk] at hc
      injection hc with hc
      subst hc
      cases ho).trans hk⟩
end
end Go.Proofs.YtfobcnhibhbbaaaGreatDoor.Ev.Xp
