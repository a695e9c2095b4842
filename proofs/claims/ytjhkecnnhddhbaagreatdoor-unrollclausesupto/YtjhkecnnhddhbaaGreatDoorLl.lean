/- A range over a function that hands over values, one after another, or passes some by: a law of our own, for a body that never leaves. -/
import Derived.Test.YtjhkecnnhddhbaaGreatDoorLk
import Derived.RangeFuncNested
import Derived.RangeFuncBound
import Derived.RangeFuncCalls
import Derived.RangeFuncLeaves
namespace Go.Proofs.YtjhkecnnhddhbaaGreatDoor.Sr
open Go.RowKit Go.Maps Go.Proofs.YtjhkecnnhddhbaaGreatDoor.Pf
set_option maxRecDepth 100000
set_option autoImplicit false

/-- How a round's body ends: it goes on. -/
def goesOn (B : Nat) (I : World → Prop) (W : World) : Exit → Act → World → Prop
  | .normal, _, W' => KeepsFrom B W W' ∧ I W'
  | _, _, _ => False
/-- A loop's record, at a state of it, when no round has left it. -/
def lpR (fn : FuncId) (t : Array Value) (ps : Array Tmp) (assign body : Code) (B : Nat) (st : LoopState) : Loop := { state := st, pending := none, fn := fn, tmps := t, params := ps, assign := assign, body := body, defers := B }
/-- What the walk of a loop keeps between two rounds: the caller's word, its record, and the block for what is deferred. -/
structure LpJ (R : LoopState → Loop) (B : Nat) (I : Nat → World → Prop) (k : Nat) (W : World) : Prop where
  inv : I k W
  rec' : W.heap[B + 1]? = some (.loop (R .ready))
  dfr : W.heap[B]? = some (.deferred (some []))
theorem lpJ_abides {R : LoopState → Loop} {B C : Nat} {I : Nat → World → Prop} (hI : OwnFrom B I) (hC : B ≤ C) : AbidesFrom C (LpJ R B I) := fun k U V row h hg hr =>
  ⟨hI k U V row h.inv hg fun r e => by obtain ⟨h1, o, h2, h3⟩ := hr r e; exact ⟨Nat.le_trans hC h1, o, h2, Obj.not_cells_of_walk h3⟩,
   (grownBy_keeps hg (fun r e => (hr r e).2) h.rec' rfl).trans h.rec', (grownBy_keeps hg (fun r e => (hr r e).2) h.dfr rfl).trans h.dfr⟩
section
variable {F : Fence} {n : Nat} {P : Program} {ps : Array Tmp} {assign body : Code} {B : Nat}
/-- One round: the values are assigned, the body goes on. -/
theorem round_C {fn : FuncId} {t : Array Value} (hfn : F.fn fn) {I : Nat → World → Prop} (hI : OwnFrom B I) {a1 : Act} {args : Array Value} (hsz : args.size = ps.size) {k : Nat} {W : World}
    (hassign : ∀ K : Act → World → Prop, K a1 W → assign.wpIn (F.inRound (B + 1)) n P (Exit.then K (fun _ _ _ => False)) { tmps := (ps.zip args).foldl (fun t (p, v) => t.setIfInBounds p v) t, defers := [] } W)
    (hbody : body.wpIn (F.inRound (B + 1)) n P (goesOn B (I (k + 1)) (W.putObj (B + 1) (.loop (lpR fn t ps assign body B .busy)))) a1 (W.putObj (B + 1) (.loop (lpR fn t ps assign body B .busy)))) (h : LpJ (lpR fn t ps assign body B) B I k W) :
    YieldAt F n P (B + 1) args W fun e W' => e = .returned (.bool true) ∧ LpJ (lpR fn t ps assign body B) B I (k + 1) W' := by
  have hin : B + 1 < W.heap.size := (Array.getElem?_eq_some_iff.1 h.rec').1
  have hbusy : (W.putObj (B + 1) (.loop (lpR fn t ps assign body B .busy))).heap[B + 1]? = some (.loop (lpR fn t ps assign body B .busy)) := World.putObj_heap_same hin
  have hdf : (W.putObj (B + 1) (.loop (lpR fn t ps assign body B .busy))).heap[B]? = some (.deferred (some [])) := (World.putObj_heap_other (Nat.ne_of_lt (Nat.lt_succ_self B))).trans h.dfr
  refine ⟨fn, _, assign, body, run_yield h.rec' hsz, roundIn_of_wpIn hfn (hassign _ ⟨_, run_beginRound h.rec' rfl, wpIn_mono hbody fun e a3 V hp => ?_⟩)⟩
  match e, hp with
  | .normal, ⟨k1, k3⟩ =>
    have hr := k1.same _ _ (Nat.le_succ B) hbusy rfl
    have hV := (Array.getElem?_eq_some_iff.1 hr).1
    exact ⟨_, _, run_endRound none hr, rfl, ⟨hI.putObj _ k3 (Nat.le_succ B) hr rfl, World.putObj_heap_same hV, (World.putObj_heap_other (Nat.ne_of_lt (Nat.lt_succ_self B))).trans (k1.same _ _ (Nat.le_refl B) hdf rfl)⟩⟩
end
/-- The function hands over, for each of N places, some values (Y k), or passes it by. U says what the function itself may do to the memory ahead of all. -/
def SeqC (F : Fence) (n : Nat) (P : Program) (g : Nat) (lb : Array Value) (m N : Nat) (Y : Nat → Option (Array Value)) (U : (World → Prop) → Prop) (Vw : Nat → World → Prop) (w : World) : Prop :=
  ∀ (l : Nat) (J : Nat → World → Prop) (W : World), Below w.heap.size w W → AbidesFrom W.heap.size J → U (J 0) → (∀ k W1, k ≤ N → J k W1 → Vw k W1) →
    (∀ k W1, J k W1 → k < N → Y k = none → J (k + 1) W1) →
    (∀ k a W1, J k W1 → k < N → Y k = some a → a.size = m ∧ YieldAt F (n - 1) P l a W1 fun e W' => e = .returned (.bool true) ∧ J (k + 1) W') →
    J 0 W → CallsIn F n P g (#[.func (.yield l) #[] #[]] ++ lb) W fun e W' => (∃ v, e = .returned v) ∧ J N W'
theorem wp_rangeC {F : Fence} {n : Nat} {P : Program} {g : Operand} {ps : Array Tmp} {assign body : Code} {Q : Exit → Act → World → Prop} {a : Act} {w : World} (hro : F.round = none) (h1 : 1 ≤ n) {gf : Nat} {lb : Array Value} (hg : a.eval g = .func (.func gf) #[] lb) (hFg : F.fn gf) (eg : ∀ args w, (callFunc gf args).run P w = .ok (.enter gf args) w)
    {N : Nat} {Y : Nat → Option (Array Value)} {U : (World → Prop) → Prop} {Vw : Nat → World → Prop} {w0 : World} (hseq : SeqC F (n - 1) P gf lb ps.size N Y U Vw w0) (hb0 : Below w0.heap.size w0 w)
    (I : Nat → World → Prop) (hI : OwnFrom w.heap.size I) (h0 : I 0 w) (hU : ∀ R, U (LpJ R w.heap.size I 0)) (hV : ∀ k W1, k ≤ N → I k W1 → Vw k W1) (hsk : ∀ k W1, I k W1 → k < N → Y k = none → I (k + 1) W1) (hys : ∀ k x, k < N → Y k = some x → x.size = ps.size) (a1 : Array Value → Act)
    (hassign : ∀ (l k : Nat) (x : Array Value) (W : World) (K : Act → World → Prop), k < N → Y k = some x → K (a1 x) W → assign.wpIn (F.inRound l) (n - 1 - 1) P (Exit.then K (fun _ _ _ => False)) { tmps := (ps.zip x).foldl (fun t (p, v) => t.setIfInBounds p v) a.tmps, defers := [] } W)
    (hbody : ∀ (l k : Nat) (x : Array Value) (W : World), I k W → k < N → Y k = some x → body.wpIn (F.inRound l) (n - 1 - 1) P (goesOn w.heap.size (I (k + 1)) W) (a1 x) W)
    (hdone : ∀ (D : Nat) (W : World), w.heap.size ≤ D → I N W → W.heap[D]? = some (.deferred (some [])) → Q .normal { a with defers := { target := .collected D, args := #[] } :: a.defers } W) :
    (Code.rangeFunc g ps assign body).wpIn F n P Q a w := by
  refine wpIn_rangeFunc fun fn hfn => ?_
  generalize hR : lpR fn a.tmps ps assign body w.heap.size = R
  have hJ : LpJ R w.heap.size I 0 ((w.alloc (.deferred (some []))).alloc (.loop (R .ready))) := by
    refine ⟨hI.alloc _ (hI.alloc _ h0), ?_, ((bal (Below.refl _ (w.alloc (.deferred (some [])))) _).block w.heap.size (by simp)).trans (MapKept.heap_alloc w _).1⟩
    have := (MapKept.heap_alloc (w.alloc (.deferred (some []))) (.loop (R .ready))).1
    rw [World.size_alloc] at this
    exact this
  have hend := (hseq (w.heap.size + 1) (LpJ R w.heap.size I) ((w.alloc (.deferred (some []))).alloc (.loop (R .ready))) (bal (bal hb0 _) _) (lpJ_abides hI (by rw [World.size_alloc, World.size_alloc]; omega)) (hU R) (fun k W1 hk h => hV k W1 hk h.inv) (fun k W1 h hk hy => ⟨hsk k W1 h.inv hk hy, h.rec', h.dfr⟩) (fun k x W h hk hx => by
      subst hR
      exact ⟨hys k x hk hx, round_C hfn hI (hys k x hk hx) (fun K => hassign _ k x W K hk hx) (hbody _ k x _ (hI.putObj _ h.inv (Nat.le_succ _) h.rec' rfl) hk hx) h⟩) hJ)
  have hin : (Instr.enterLoop fn a.tmps ps assign body F.round).run P w = .ok (w.heap.size + 1, [{ target := .collected w.heap.size, args := #[] }]) ((w.alloc (.deferred (some []))).alloc (.loop (R .ready))) := by
    rw [hro, ← hR]; exact run_enterLoop_outer _ _ _ _ _
  generalize (w.alloc (.deferred (some []))).alloc (.loop (R .ready)) = V at *
  refine ⟨_, _, V, { target := .fn (.func gf) lb, args := #[.func (.yield (w.heap.size + 1)) #[] #[]] }, V, gf, _, V, hin, ?_, ?_, ?_, fun _ => h1, hend.mono ?_⟩
  · simp only [resolve, hg]
    simp [go_sem]
  · intro f' hf'
    simp [Target.leads] at hf'
    exact hf' ▸ hFg
  · simp [invoke, go_sem, eg]
  · rintro e W ⟨⟨v, rfl⟩, h⟩
    subst hR
    exact ⟨_, _, run_endLoop h.rec' (by simp [lpR]), hdone w.heap.size _ (Nat.le_refl _) (hI.putObj _ h.inv (Nat.le_succ _) h.rec' rfl) ((World.putObj_heap_other (Nat.ne_of_lt (Nat.lt_succ_self _))).trans h.dfr)⟩
end Go.Proofs.YtjhkecnnhddhbaaGreatDoor.Sr
