/- What must be in any case, reckoned: the clauses of searchBegun. -/
import Derived.Test.YtkinmangilbeeaaGreatDoorLfM
import Derived.RangeFuncNested
import Derived.RangeFuncBound
import Derived.RangeFuncCalls
import Derived.RangeFuncLeaves
namespace Go.Proofs.YtkinmangilbeeaaGreatDoor.Sr
open Go.Proofs.YtkinmangilbeeaaGreatDoor.Pf
set_option maxRecDepth 100000

def c3 : List (List Int) := [[1, 2], [1, -2], [-1, 2]]
theorem m0 : ([1, 2] : List Int).mergeSort (fun x y => decide (x ≤ y)) = [1, 2] := by simp [List.mergeSort, List.MergeSort.Internal.splitInTwo]
theorem m1 : ([1, -2] : List Int).mergeSort (fun x y => decide (x ≤ y)) = [-2, 1] := by simp [List.mergeSort, List.MergeSort.Internal.splitInTwo]
theorem m2 : ([-1, 2] : List Int).mergeSort (fun x y => decide (x ≤ y)) = [-1, 2] := by simp [List.mergeSort, List.MergeSort.Internal.splitInTwo]
theorem m3 : ([1] : List Int).mergeSort (fun x y => decide (x ≤ y)) = [1] := by simp
theorem l0 : layD [] [1, 2] = [1, 2] := by unfold layD sortC; rw [m0]; rfl
theorem l1 : layD [] [1, -2] = [-2, 1] := by unfold layD sortC; rw [m1]; rfl
theorem l2 : layD [] [-1, 2] = [-1, 2] := by unfold layD sortC; rw [m2]; rfl
theorem l3 : layD [] [1] = [1] := by unfold layD sortC; rw [m3]; rfl
def B3 : Bd := ((Bd.nil.add [1, 2]).add [-2, 1]).add [-1, 2]
theorem add3 : addAll c3 = B3 := by
  have e0 : Bd.nil.st = [] := rfl
  have e1 : (Bd.nil.add [1, 2]).st = [] := by decide +kernel
  have e2 : ((Bd.nil.add [1, 2]).add [-2, 1]).st = [] := by decide +kernel
  unfold addAll c3 B3
  simp only [List.foldl_cons, List.foldl_nil]
  rw [e0, l0, e1, l1, e2, l2]
theorem spr0 : spreadN 1 B3 = some (B3, -1) := by
  rw [spreadN, if_neg (by decide +kernel)]
/-- Behind the first choice. -/
def B4 : Bd := B3.choose (-1)
theorem spr1 : ((spreadN 5 B4).map fun r => (r.1.sp, r.1.cl, r.2)) = some ([(-1, 1, -1), (2, 1, 0)], [[2, 1], [-2, 1], [-1, 2]], 1) := by decide +kernel
/-- While a lesson is made: the searcher, how many are open, the others. -/
structure Lz where
  S : Sx
  op : Int
  oth : List Int
/-- Is a number of a clause none of the causes? -/
def Lz.skip (T : Lz) (x : Int) : Bool := decide (-x ∉ T.S.B.st) || decide (lvOf T.S.B x = 0) || decide (T.S.marks.getD (T.S.B.st.idxOf (-x)) 0 = T.S.lessons)
/-- A number of a clause is met. -/
def Lz.meet1 (T : Lz) (x : Int) : Lz := if T.skip x then T else
  ⟨{ T.S with marks := T.S.marks.set (T.S.B.st.idxOf (-x)) T.S.lessons, Q := T.S.Q.meet x.natAbs }, if lvOf T.S.B x = T.S.B.level then T.op + 1 else T.op, if lvOf T.S.B x = T.S.B.level then T.oth else T.oth ++ [x]⟩
def Lz.meet (T : Lz) (c : List Int) : Lz := c.foldl Lz.meet1 T
/-- The searcher of searchBegun, as its first clause fails: what the first meeting makes of it. -/
theorem met0 : ((spreadN 5 B4).map fun r => let T := (Lz.meet ⟨{ newSx 2 r.1 100000 with Q := (newQ 2 2).hpop, lessons := 1 }, 0, []⟩ (r.1.cl.getD r.2.toNat [])); (T.S.marks, T.S.Q.hp, T.S.Q.wt, T.op, T.oth)) = some ([1, 1], [2], [0, 1024, 1024], 2, []) := by decide +kernel
end Go.Proofs.YtkinmangilbeeaaGreatDoor.Sr

namespace Go.Proofs.YtkinmangilbeeaaGreatDoor.Sr
open Go.RowKit Go.Maps Go.Proofs.YtkinmangilbeeaaGreatDoor.Pf
set_option maxRecDepth 100000

/-- What causes leaves. -/
def CsOut (w : World) (s : Nat) (c : Int) (e : Ending) (w' : World) : Prop := ∃ g1 g2, e = .returned (.func (.func 104) #[] #[.pointer (some ⟨g1, 0, none⟩), .pointer (some ⟨g2, 0, none⟩)]) ∧ w'.cell? ⟨g1, 0, none⟩ = some (.pointer (some ⟨s, 0, none⟩)) ∧ w'.cell? ⟨g2, 0, none⟩ = some (.int .i64 c) ∧ Below w.heap.size w w'
set_option maxHeartbeats 1000000 in
theorem causes_any (s : Nat) (c : Int) (w : World) : Calls Tryz.prog 79 #[.pointer (some ⟨s, 0, none⟩), .int .i64 c] w (CsOut w s c) := by
  have hmf : ∀ (fn : Fn) (first cap : Array Value) (w : World), (Instr.makeFunc fn first cap).run Tryz.prog w = .ok (.func fn first cap) w := fun _ _ _ _ => rfl
  go_enter Tryz.func79, Tryz.ntmps79
  go_wp2
  go_ret
  refine ⟨_, _, rfl, ?_, ?_, bal (bal (Below.refl _ _) _) _⟩
  · simp [go_sem]
  · simp [go_sem]
end Go.Proofs.YtkinmangilbeeaaGreatDoor.Sr

namespace Go.Proofs.YtkinmangilbeeaaGreatDoor.Sr
open Go.RowKit Go.Maps Go.Proofs.YtkinmangilbeeaaGreatDoor.Pf
set_option maxRecDepth 100000

set_option maxHeartbeats 1000000 in
theorem indexFunc_none (p : Option Addr) (c : Nat) (f : Value) (w : World) : Calls Tryz.prog 31 #[.slice p 0 c, f] w fun e w' => e = .returned (.int .i64 (-1)) ∧ w' = w := by
  go_enter Tryz.func31, Tryz.ntmps31
  go_wp2_with fail
  go_loopw [8] (fun t wr => t = .int .i64 0 ∧ wr = w) (fun _ _ => 0)
  case atStart => exact ⟨rfl, rfl⟩
  case round =>
    obtain ⟨rfl, rfl⟩ := hrel
    go_wp2
    go_ret
    exact ⟨rfl, rfl⟩
set_option maxHeartbeats 1000000 in
theorem deleteFunc_none (p : Option Addr) (c : Nat) (f : Value) (w : World) : Calls Tryz.prog 83 #[.slice p 0 c, f] w fun e w' => e = .returned (.slice p 0 c) ∧ w' = w := by
  go_enter Tryz.func83, Tryz.ntmps83
  go_wp2_with fail
  refine (indexFunc_none p c f w).mono ?_
  rintro e w1 ⟨rfl, rfl⟩
  go_wp2
  go_ret
  exact ⟨rfl, rfl⟩
end Go.Proofs.YtkinmangilbeeaaGreatDoor.Sr

namespace Go.Proofs.YtkinmangilbeeaaGreatDoor.Sr
open Go.RowKit Go.Maps Go.Proofs.YtkinmangilbeeaaGreatDoor.Pf
set_option maxRecDepth 100000

section
variable {base : Nat} {w : World} {s : Nat} {XB XQ : Nat → Prop} {R nS nW q gp gw gm gl : Nat} {vh vl vp : Value} {S : Sx}
theorem Ser.sm (h : Ser base w s XB XQ R nS nW q gp gw gm gl vh vl vp S) : s ≠ gm := by
  rintro rfl
  have h1 := h.ma
  rw [h.bk] at h1
  injection h1 with h1
  injection h1 with _ h2
  exact absurd h2 (by decide)
/-- A mark is set. -/
theorem Ser.setM (h : Ser base w s XB XQ R nS nW q gp gw gm gl vh vl vp S) (a : Nat) (x : Int) : Ser base (w.setCell ⟨gm, a, none⟩ (.int .i64 x)) s XB XQ R nS nW q gp gw gm gl vh vl vp { S with marks := S.marks.set a x } := by
  have hset : ∀ k, k ≠ gm → (w.setCell ⟨gm, a, none⟩ (.int .i64 x)).heap[k]? = w.heap[k]? := fun k hk => heap_setCell_other _ _ _ _ (by simpa using hk)
  refine ⟨?_, BdAt.apart h.bd (by simp) fun g hg => hset g fun e => h.mb (e ▸ hg), h.qu.far (by simp) fun g hg => hset g fun e => h.mq (e ▸ hg), ?_, (hset gl h.ml.symm).trans h.ln, h.bq, h.sb, h.sq, h.mb, h.mq, h.lb, h.lq, h.ml, h.bx, h.qx, h.sx, h.mx, h.lx⟩
  · rw [hset s h.sm, h.bk]
    simp
  · rw [heap_setCell_same _ _ _ _ _ _ h.ma, map_set]
/-- A field of the searcher's own is written. -/
theorem Ser.own (h : Ser base w s XB XQ R nS nW q gp gw gm gl vh vl vp S) {k : Nat} {u vp' : Value} {S' : Sx} (hB : S'.B = S.B) (hQ : S'.Q = S.Q) (hm : S'.marks = S.marks) (hl : S'.lean = S.lean)
    (hbk : (w.setCell ⟨s, k, none⟩ u).heap[s]? = some (.cells #[.pointer (some ⟨R, 0, none⟩), .pointer (some ⟨q, 0, none⟩), .int .i64 S'.V, vl, .int .i64 S'.most, vp', .int .i64 S'.lessons, .slice (some ⟨gm, 0, none⟩) S'.marks.length S'.marks.length, .slice (some ⟨gl, 0, none⟩) S'.lean.length S'.lean.length, .int .i64 S'.round, .int .i64 S'.left] 82 (0, 0))) :
    Ser base (w.setCell ⟨s, k, none⟩ u) s XB XQ R nS nW q gp gw gm gl vh vl vp' S' := by
  have hset : ∀ j, j ≠ s → (w.setCell ⟨s, k, none⟩ u).heap[j]? = w.heap[j]? := fun j hj => heap_setCell_other _ _ _ _ (by simpa using hj)
  exact ⟨hbk, by rw [hB]; exact BdAt.apart h.bd (by simp) fun g hg => hset g fun e => h.sb (e ▸ hg), by rw [hQ]; exact h.qu.far (by simp) fun g hg => hset g fun e => h.sq (e ▸ hg), by rw [hm]; exact (hset gm h.sm.symm).trans h.ma, by rw [hl]; exact (hset gl h.sl.symm).trans h.ln, h.bq, h.sb, h.sq, h.mb, h.mq, h.lb, h.lq, h.ml, h.bx, h.qx, h.sx, h.mx, h.lx⟩
theorem Ser.setLessons (h : Ser base w s XB XQ R nS nW q gp gw gm gl vh vl vp S) (x : Int) : Ser base (w.setCell ⟨s, 6, none⟩ (.int .i64 x)) s XB XQ R nS nW q gp gw gm gl vh vl vp { S with lessons := x } :=
  h.own rfl rfl rfl rfl (by rw [heap_setCell_same _ _ _ _ _ _ h.bk]; rfl)
theorem Ser.setProof (h : Ser base w s XB XQ R nS nW q gp gw gm gl vh vl vp S) (v : Value) : Ser base (w.setCell ⟨s, 5, none⟩ v) s XB XQ R nS nW q gp gw gm gl vh vl v S :=
  h.own rfl rfl rfl rfl (by rw [heap_setCell_same _ _ _ _ _ _ h.bk]; rfl)
theorem Ser.setRound (h : Ser base w s XB XQ R nS nW q gp gw gm gl vh vl vp S) (x : Int) : Ser base (w.setCell ⟨s, 9, none⟩ (.int .i64 x)) s XB XQ R nS nW q gp gw gm gl vh vl vp { S with round := x } :=
  h.own rfl rfl rfl rfl (by rw [heap_setCell_same _ _ _ _ _ _ h.bk]; rfl)
theorem Ser.setLeft (h : Ser base w s XB XQ R nS nW q gp gw gm gl vh vl vp S) (x : Int) : Ser base (w.setCell ⟨s, 10, none⟩ (.int .i64 x)) s XB XQ R nS nW q gp gw gm gl vh vl vp { S with left := x } :=
  h.own rfl rfl rfl rfl (by rw [heap_setCell_same _ _ _ _ _ _ h.bk]; rfl)
end
end Go.Proofs.YtkinmangilbeeaaGreatDoor.Sr

namespace Go.Proofs.YtkinmangilbeeaaGreatDoor.Sr
open Go.RowKit Go.Maps Go.Proofs.YtkinmangilbeeaaGreatDoor.Pf
set_option maxRecDepth 100000

theorem BdAt.work {w : World} {X : Nat → Prop} {R nS nW : Nat} {B : Bd} (h : BdAt w X R nS nW B) (x : Int) : BdAt (w.setCell ⟨R, 4, none⟩ (.int .i64 x)) X R nS nW B ∧ X R ∧ (∃ wk, w.cell? ⟨R, 4, none⟩ = some (.int .i64 wk)) ∧ w.frozen? ⟨R, 4, none⟩ = false := by
  obtain ⟨S, W, vc, vs, wk, cg, cc, wv, h⟩ := h
  refine ⟨⟨S, W, vc, vs, x, cg, cc, wv, ?_⟩, h.xr, ⟨wk, h.c4⟩, h.fz 4⟩
  exact h.board ((Below.refl 0 w).setCell (Nat.zero_le _) _).size (fun g hg => Below.heap_setCell _ _ _ _ hg) B.level B.lost B.spread x (by rw [heap_setCell_same _ _ _ _ _ _ h.bd]; rfl)
section
variable {base : Nat} {w : World} {s : Nat} {XB XQ : Nat → Prop} {R nS nW q gp gw gm gl : Nat} {vh vl vp : Value} {S : Sx}
theorem Ser.work (h : Ser base w s XB XQ R nS nW q gp gw gm gl vh vl vp S) (x : Int) : Ser base (w.setCell ⟨R, 4, none⟩ (.int .i64 x)) s XB XQ R nS nW q gp gw gm gl vh vl vp S :=
  h.board (BdAt.work h.bd x).1 (Fr.set (q := ⟨R, 4, none⟩) (BdAt.work h.bd x).2.1 _)
end
end Go.Proofs.YtkinmangilbeeaaGreatDoor.Sr

namespace Go.Proofs.YtkinmangilbeeaaGreatDoor.Sr
open Go.RowKit Go.Maps Go.Proofs.YtkinmangilbeeaaGreatDoor.Pf
set_option maxRecDepth 100000

/-- How a round's body ends: it goes on. -/
def goesOn (B : Nat) (I : World → Prop) (W : World) : Exit → Act → World → Prop
  | .normal, _, W' => KeepsFrom B W W' ∧ I W'
  | _, _, _ => False
/-- A loop's record, at a state of it, when no round has left it. -/
def lpR (fn : FuncId) (t : Array Value) (ps : Array Tmp) (assign body : Code) (B : Nat) (st : LoopState) : Loop := { state := st, pending := none, fn := fn, tmps := t, params := ps, assign := assign, body := body, defers := B }
/-- What the walk of a loop keeps between two rounds: the caller's word, its record, and the block for what is deferred. -/
structure LpJ (R : LoopState → Loop) (B : Nat) (I : Nat → World → Prop) (k : Nat) (W : World) : Prop where
  inv : I k W
  rec' : W.heap[B + 1]? = some (.loop (R .ready))
  dfr : W.heap[B]? = some (.deferred (some []))
theorem lpJ_abides {R : LoopState → Loop} {B C : Nat} {I : Nat → World → Prop} (hI : OwnFrom B I) (hC : B ≤ C) : AbidesFrom C (LpJ R B I) := fun k U V row h hg hr =>
  ⟨hI k U V row h.inv hg fun r e => by obtain ⟨h1, o, h2, h3⟩ := hr r e; exact ⟨Nat.le_trans hC h1, o, h2, Obj.not_cells_of_walk h3⟩,
   (grownBy_keeps hg (fun r e => (hr r e).2) h.rec' rfl).trans h.rec', (grownBy_keeps hg (fun r e => (hr r e).2) h.dfr rfl).trans h.dfr⟩
section
variable {F : Fence} {n : Nat} {P : Program} {ps : Array Tmp} {assign body : Code} {B : Nat}
/-- One round: the values are assigned, the body goes on. -/
theorem round_C {fn : FuncId} {t : Array Value} (hfn : F.fn fn) {I : Nat → World → Prop} (hI : OwnFrom B I) {a1 : Act} {args : Array Value} (hsz : args.size = ps.size) {k : Nat} {W : World}
    (hassign : ∀ K : Act → World → Prop, K a1 W → assign.wpIn (F.inRound (B + 1)) n P (Exit.then K (fun _ _ _ => False)) { tmps := (ps.zip args).foldl (fun t (p, v) => t.setIfInBounds p v) t, defers := [] } W)
    (hbody : body.wpIn (F.inRound (B + 1)) n P (goesOn B (I (k + 1)) (W.putObj (B + 1) (.loop (lpR fn t ps assign body B .busy)))) a1 (W.putObj (B + 1) (.loop (lpR fn t ps assign body B .busy)))) (h : LpJ (lpR fn t ps assign body B) B I k W) :
    YieldAt F n P (B + 1) args W fun e W' => e = .returned (.bool true) ∧ LpJ (lpR fn t ps assign body B) B I (k + 1) W' := by
  have hin : B + 1 < W.heap.size := (Array.getElem?_eq_some_iff.1 h.rec').1
  have hbusy : (W.putObj (B + 1) (.loop (lpR fn t ps assign body B .busy))).heap[B + 1]? = some (.loop (lpR fn t ps assign body B .busy)) := World.putObj_heap_same hin
  have hdf : (W.putObj (B + 1) (.loop (lpR fn t ps assign body B .busy))).heap[B]? = some (.deferred (some [])) := (World.putObj_heap_other (Nat.ne_of_lt (Nat.lt_succ_self B))).trans h.dfr
  refine ⟨fn, _, assign, body, run_yield h.rec' hsz, roundIn_of_wpIn hfn (hassign _ ⟨_, run_beginRound h.rec' rfl, wpIn_mono hbody fun e a3 V hp => ?_⟩)⟩
  match e, hp with
  | .normal, ⟨k1, k3⟩ =>
    have hr := k1.same _ _ (Nat.le_succ B) hbusy rfl
    have hV := (Array.getElem?_eq_some_iff.1 hr).1
    exact ⟨_, _, run_endRound none hr, rfl, ⟨hI.putObj _ k3 (Nat.le_succ B) hr rfl, World.putObj_heap_same hV, (World.putObj_heap_other (Nat.ne_of_lt (Nat.lt_succ_self B))).trans (k1.same _ _ (Nat.le_refl B) hdf rfl)⟩⟩
end
/-- The function hands over, for each of N places, some values (Y k), or passes it by. U says what the function itself may do to the memory ahead of all. -/
def SeqC (F : Fence) (n : Nat) (P : Program) (g : Nat) (lb : Array Value) (m N : Nat) (Y : Nat → Option (Array Value)) (U : (World → Prop) → Prop) (Vw : Nat → World → Prop) (w : World) : Prop :=
  ∀ (l : Nat) (J : Nat → World → Prop) (W : World), Below w.heap.size w W → AbidesFrom W.heap.size J → U (J 0) → (∀ k W1, k ≤ N → J k W1 → Vw k W1) →
    (∀ k W1, J k W1 → k < N → Y k = none → J (k + 1) W1) →
    (∀ k a W1, J k W1 → k < N → Y k = some a → a.size = m ∧ YieldAt F (n - 1) P l a W1 fun e W' => e = .returned (.bool true) ∧ J (k + 1) W') →
    J 0 W → CallsIn F n P g (#[.func (.yield l) #[] #[]] ++ lb) W fun e W' => (∃ v, e = .returned v) ∧ J N W'
theorem wp_rangeC {F : Fence} {n : Nat} {P : Program} {g : Operand} {ps : Array Tmp} {assign body : Code} {Q : Exit → Act → World → Prop} {a : Act} {w : World} (hro : F.round = none) (h1 : 1 ≤ n) {gf : Nat} {lb : Array Value} (hg : a.eval g = .func (.func gf) #[] lb) (hFg : F.fn gf) (eg : ∀ args w, (callFunc gf args).run P w = .ok (.enter gf args) w)
    {N : Nat} {Y : Nat → Option (Array Value)} {U : (World → Prop) → Prop} {Vw : Nat → World → Prop} {w0 : World} (hseq : SeqC F (n - 1) P gf lb ps.size N Y U Vw w0) (hb0 : Below w0.heap.size w0 w)
    (I : Nat → World → Prop) (hI : OwnFrom w.heap.size I) (h0 : I 0 w) (hU : ∀ R, U (LpJ R w.heap.size I 0)) (hV : ∀ k W1, k ≤ N → I k W1 → Vw k W1) (hsk : ∀ k W1, I k W1 → k < N → Y k = none → I (k + 1) W1) (hys : ∀ k x, k < N → Y k = some x → x.size = ps.size) (a1 : Array Value → Act)
    (hassign : ∀ (l k : Nat) (x : Array Value) (W : World) (K : Act → World → Prop), k < N → Y k = some x → K (a1 x) W → assign.wpIn (F.inRound l) (n - 1 - 1) P (Exit.then K (fun _ _ _ => False)) { tmps := (ps.zip x).foldl (fun t (p, v) => t.setIfInBounds p v) a.tmps, defers := [] } W)
    (hbody : ∀ (l k : Nat) (x : Array Value) (W : World), I k W → k < N → Y k = some x → body.wpIn (F.inRound l) (n - 1 - 1) P (goesOn w.heap.size (I (k + 1)) W) (a1 x) W)
    (hdone : ∀ (D : Nat) (W : World), w.heap.size ≤ D → I N W → W.heap[D]? = some (.deferred (some [])) → Q .normal { a with defers := { target := .collected D, args := #[] } :: a.defers } W) :
    (Code.rangeFunc g ps assign body).wpIn F n P Q a w := by
  refine wpIn_rangeFunc fun fn hfn => ?_
  generalize hR : lpR fn a.tmps ps assign body w.heap.size = R
  have hJ : LpJ R w.heap.size I 0 ((w.alloc (.deferred (some []))).alloc (.loop (R .ready))) := by
    refine ⟨hI.alloc _ (hI.alloc _ h0), ?_, ((bal (Below.refl _ (w.alloc (.deferred (some [])))) _).block w.heap.size (by simp)).trans (MapKept.heap_alloc w _).1⟩
    have := (MapKept.heap_alloc (w.alloc (.deferred (some []))) (.loop (R .ready))).1
    rw [World.size_alloc] at this
    exact this
  have hend := (hseq (w.heap.size + 1) (LpJ R w.heap.size I) ((w.alloc (.deferred (some []))).alloc (.loop (R .ready))) (bal (bal hb0 _) _) (lpJ_abides hI (by rw [World.size_alloc, World.size_alloc]; omega)) (hU R) (fun k W1 hk h => hV k W1 hk h.inv) (fun k W1 h hk hy => ⟨hsk k W1 h.inv hk hy, h.rec', h.dfr⟩) (fun k x W h hk hx => by
      subst hR
      exact ⟨hys k x hk hx, round_C hfn hI (hys k x hk hx) (fun K => hassign _ k x W K hk hx) (hbody _ k x _ (hI.putObj _ h.inv (Nat.le_succ _) h.rec' rfl) hk hx) h⟩) hJ)
  have hin : (Instr.enterLoop fn a.tmps ps assign body F.round).run P w = .ok (w.heap.size + 1, [{ target := .collected w.heap.size, args := #[] }]) ((w.alloc (.deferred (some []))).alloc (.loop (R .ready))) := by
    rw [hro, ← hR]; exact run_enterLoop_outer _ _ _ _ _
  generalize (w.alloc (.deferred (some []))).alloc (.loop (R .ready)) = V at *
  refine ⟨_, _, V, { target := .fn (.func gf) lb, args := #[.func (.yield (w.heap.size + 1)) #[] #[]] }, V, gf, _, V, hin, ?_, ?_, ?_, fun _ => h1, hend.mono ?_⟩
  · simp only [resolve, hg]
    simp [go_sem]
  · intro f' hf'
    simp [Target.leads] at hf'
    exact hf' ▸ hFg
  · simp [invoke, go_sem, eg]
  · rintro e W ⟨⟨v, rfl⟩, h⟩
    subst hR
    exact ⟨_, _, run_endLoop h.rec' (by simp [lpR]), hdone w.heap.size _ (Nat.le_refl _) (hI.putObj _ h.inv (Nat.le_succ _) h.rec' rfl) ((World.putObj_heap_other (Nat.ne_of_lt (Nat.lt_succ_self _))).trans h.dfr)⟩
end Go.Proofs.YtkinmangilbeeaaGreatDoor.Sr
