/- A number of a clause is met: memory, and regions that draw their order inside a round. -/
import Derived.Test.YtkinmangilbeeaaGreatDoorLn
import Derived.OrdersIn
namespace Go.Proofs.YtkinmangilbeeaaGreatDoor.Sr
open Go.RowKit Go.Maps Go.Proofs.YtkinmangilbeeaaGreatDoor.Pf
set_option maxRecDepth 100000
section
variable {l n : Nat} {P : Program} {ops : Array Oper} {Q : Exit → Act → World → Prop} {md : Region.Mode}
theorem wpOp_round {i : Nat} {K : Act → World → Prop} {a : Act} {w : World} (hQ : ¬ LetsOut Q) (hnd : ∀ o, ops[i]? = some o → ∀ c, o.op ≠ .defer c) (h : wpOp P ops Q i K a w) : wpOpIn (Fence.wide.inRound l) n P ops Q i K a w := by
  unfold wpOp at h
  unfold wpOpIn
  cases ho : ops[i]? with
  | none => simpa [ho] using h
  | some o =>
    simp only [ho] at h ⊢
    split
    · rename_i hw
      simp only [hw, if_true, Oper.wp] at h
      refine ⟨fun _ _ => trivial, ?_⟩
      rw [show (Fence.wide.inRound l).round = some l from rfl, Oper.semAt_eq _ _ _ (hnd o ho)]
      replace h : o.upon P a K Q ((execOp a.eval o).run P w) := h.resolve_right fun e => hQ e.2
      generalize (execOp a.eval o).run P w = r at *
      have hd : (Fence.wide.inRound l).depth.isSome = true → 1 ≤ n := fun e => by simp [Fence.wide] at e
      cases r with
      | ok x w' =>
        cases x <;> simp only [Oper.upon, Oper.uponIn] at h ⊢
        case value v => exact h
        case skip => exact h
        case defer d => exact h
        case enter f args => exact ⟨hd, CallsIn.inRound l (callsIn_wide.2 h)⟩
        case row row args => exact ⟨hd, fun c cs _ => let ⟨v, w', r, s⟩ := h c cs; ⟨v, w', r, stepsIn_wide.2 s⟩⟩
      | halt x w' => cases x <;> simp only [Oper.upon, Oper.uponIn] at h ⊢ <;> exact h
    · rename_i hw
      simp only [hw] at h
      exact ⟨fun _ _ => trivial, h⟩
theorem wpAny_round (hQ : ¬ LetsOut Q) (hnd : ∀ (i : Nat) (o : Oper), ops[i]? = some o → ∀ c, o.op ≠ .defer c) : ∀ (fuel : Nat) (listed : Array Bool) (a : Act) (w : World), wpAny P md ops Q fuel listed a w → wpAnyIn (Fence.wide.inRound l) n P md ops Q fuel listed a w
  | 0, _, _, _, h => h
  | fuel + 1, _, _, _, h => ⟨h.1, fun i hi => wpOpIn_mono (fun a' w' h' => wpAny_round hQ hnd fuel _ a' w' h') (wpOp_round hQ (hnd i) (h.2 i hi))⟩
/-- None of them defers. -/
def noDefer (ops : Array Oper) : Bool := ops.toList.all fun o => match o.op with | .defer _ => false | _ => true
theorem noDefer_at (h : noDefer ops = true) : ∀ (i : Nat) (o : Oper), ops[i]? = some o → ∀ c, o.op ≠ .defer c := fun i o ho c e => by
  have := List.all_eq_true.1 h o (by rw [← Array.mem_def]; exact Array.mem_of_getElem? ho)
  rw [e] at this
  cases this
theorem wpIn_round_held {S : World → Prop} {id : Nat} {a : Act} {w : World} (hm : P.follows .mixedOrders = true) (hQ : ¬ LetsOut Q) (hnd : noDefer ops = true) (hS : S w.drew) (h : S w.drew → wpAnyH P .any ops Q S ops.size (Array.replicate ops.size false) a w.drew) : (Code.region id ops true).wpIn (Fence.wide.inRound l) n P Q a w :=
  wpIn_region_any hm (wpAny_round hQ (noDefer_at hnd) _ _ _ _ (wpAny_of_held _ _ _ _ (h hS)))
end
theorem wpListIn_append_run {F : Fence} {n : Nat} {P : Program} (w : World) {ops : Array Oper} {rest : List Oper} {o : Oper} {a : Act} {Q : Exit → Act → World → Prop}
    (hg : o.guard = none) (s x : Operand) (t tn : TypeId) (hop : o.op = Op.call { callee := Callee.builtin Builtin.append, args := #[s, x], argTypes := #[t, tn] }) (vs vx : Value) (hs : a.eval s = vs) (hx : a.eval x = vx)
    (v' : Value) (w' : World) (hrun : (Builtin.append_ #[t, tn] o.type #[vs, vx]).run P w = .ok v' w') (hK : wpListIn F n P ops Q rest (a.put o.dst v') w') : wpListIn F n P ops Q (o :: rest) a w := by
  refine wpListIn_plain hg fun K hK' => ?_
  unfold Oper.wpIn
  refine ⟨?_, ?_⟩
  · simp [Oper.about, hop, resolve, Target.leads, Sem.run_pure]
  · rw [Oper.semAt_plain F _ _ (by rw [hop]; intro c hc'; cases hc')]
    simp [execOp, hop, resolve, invoke, builtin, hs, hx, hrun, Result.andThen]
    exact hK' _ _ hK
/-- What causes leaves, and that it is new. -/
def CsNew (w : World) (s : Nat) (c : Int) (e : Ending) (w' : World) : Prop := ∃ g1 g2, e = .returned (.func (.func 104) #[] #[.pointer (some ⟨g1, 0, none⟩), .pointer (some ⟨g2, 0, none⟩)]) ∧ w'.heap[g1]? = some (.cells #[.pointer (some ⟨s, 0, none⟩)] 55) ∧ w'.cell? ⟨g2, 0, none⟩ = some (.int .i64 c) ∧ w.heap.size ≤ g1 ∧ w.heap.size ≤ g2 ∧ Below w.heap.size w w'
set_option maxHeartbeats 1000000 in
theorem causes_new (s : Nat) (c : Int) (w : World) : Calls Tryz.prog 79 #[.pointer (some ⟨s, 0, none⟩), .int .i64 c] w (CsNew w s c) := by
  have hmf : ∀ (fn : Fn) (first cap : Array Value) (w : World), (Instr.makeFunc fn first cap).run Tryz.prog w = .ok (.func fn first cap) w := fun _ _ _ _ => rfl
  go_enter Tryz.func79, Tryz.ntmps79
  go_wp2
  go_ret
  refine ⟨_, _, rfl, ?_, ?_, Nat.le_refl _, by simp, bal (bal (Below.refl _ _) _) _⟩
  · exact ((bal (Below.refl _ (w.alloc (.cells #[.pointer (some ⟨s, 0, none⟩)] 55))) _).block w.heap.size (by simp)).trans (MapKept.heap_alloc w _).1
  · simp [go_sem]
theorem ints_at_same {w w1 : World} {g : Nat} {c : List Int} (h : IntsAt w (some ⟨g, 0, none⟩) c) (hb : w1.heap[g]? = w.heap[g]?) : IntsAt w1 (some ⟨g, 0, none⟩) c := fun h0 => by
  obtain ⟨b, off, e, hc⟩ := h h0
  obtain ⟨rfl, rfl⟩ : g = b ∧ 0 = off := by simpa using e
  exact ⟨_, _, rfl, fun i hi => (World.cell?_of_block (a := ⟨g, 0 + i, none⟩) hb).trans (hc i hi)⟩
/-- Between two causes. -/
structure Mt (w0 : World) (vo0 : Value) (base s : Nat) (XB XQ : Nat → Prop) (R nS nW q gp gw gm gl : Nat) (vh vl vp : Value) (gs go gt g1 cg : Nat) (c : List Int) (T : Lz) (W : World) : Prop where
  ls : ∃ vo, Ls base W s XB XQ R nS nW q gp gw gm gl vh vl vp gs go gt vo T ∧ (∀ g, vo.ownBlock = some g → g ≠ g1) ∧ ∀ g, g < w0.heap.size → vo.ownBlock = some g → vo0.ownBlock = some g
  k1 : W.heap[g1]? = some (.cells #[.pointer (some ⟨s, 0, none⟩)] 55)
  cl : IntsAt W (some ⟨cg, 0, none⟩) c
  bw : Below base w0 W
  fr : ∀ g, g < w0.heap.size → Free base s XB XQ gm gl g → g ≠ go → g ≠ gt → vo0.ownBlock ≠ some g → W.heap[g]? = w0.heap[g]?
section
variable {w0 : World} {vo0 : Value} {base s : Nat} {XB XQ : Nat → Prop} {R nS nW q gp gw gm gl : Nat} {vh vl vp : Value} {gs go gt g1 cg : Nat} {c : List Int} {T : Lz} {W : World}
theorem keeps_of {B : Nat} {W W' : World} (hs : W.heap.size ≤ W'.heap.size) (h : ∀ (k : Nat) (o : Obj), B ≤ k → W.heap[k]? = some o → o.isCells = false → W'.heap[k]? = W.heap[k]?) : KeepsFrom B W W' := ⟨hs, fun k o hB hk ho => (h k o hB hk ho).trans hk⟩
theorem keeps_set {B g a : Nat} {W : World} {v : Value} {cs : Array Value} {ty : TypeId} {z : Nat × Nat} (h : W.heap[g]? = some (.cells cs ty z)) : KeepsFrom B W (W.setCell ⟨g, a, none⟩ v) :=
  keeps_of (by simp) fun k o _ hk ho => heap_setCell_other _ _ _ _ (by
    rintro rfl
    rw [h] at hk
    injection hk with hk
    subst hk
    cases ho)
theorem keeps_below {B : Nat} {W W' : World} (h : Below W.heap.size W W') : KeepsFrom B W W' := keeps_of h.size fun k _ _ hk _ => h.block k (Array.getElem?_eq_some_iff.1 hk).1
theorem Mt.later {W' : World} (h : Mt w0 vo0 base s XB XQ R nS nW q gp gw gm gl vh vl vp gs go gt g1 cg c T W) (hb : Below W.heap.size W W') (hcg : cg < W.heap.size) : Mt w0 vo0 base s XB XQ R nS nW q gp gw gm gl vh vl vp gs go gt g1 cg c T W' := by
  obtain ⟨vo, h1, h2, h3⟩ := h.ls
  have hw0 := h.bw.size
  have hs := h1.ser.sx
  have hl := h1.ser.ss.1
  exact ⟨⟨vo, h1.later hb, h2, h3⟩, (hb.block g1 (Array.getElem?_eq_some_iff.1 h.k1).1).trans h.k1, ints_at_same h.cl (hb.block cg hcg), h.bw.trans (hb.mono (by omega)), fun g hg hf a b c => (hb.block g (by omega)).trans (h.fr g hg hf a b c)⟩
/-- It stands whatever grows, and whatever else is written behind it. -/
theorem Mt.own {B : Nat} {F : Nat → Lz} (hB : ∀ g, XB g ∨ XQ g → g < B) (hcg : cg < B) (hbs : base ≤ B) (hwB : w0.heap.size ≤ B) : OwnFrom B (fun k W => Mt w0 vo0 base s XB XQ R nS nW q gp gw gm gl vh vl vp gs go gt g1 cg c (F k) W) := fun k U V row h hg hr => by
  obtain ⟨vo, h1, h2, h3⟩ := h.ls
  have hw0 := h.bw.size
  refine ⟨⟨vo, h1.grown hg hB hr, h2, h3⟩, ?_, ?_, ?_, fun g hgl hf a b c => (hg.block g (by omega) fun e => by have := (hr g e.symm).1; omega).trans (h.fr g hgl hf a b c)⟩
  · refine (hg.block g1 (Array.getElem?_eq_some_iff.1 h.k1).1 fun e => ?_).trans h.k1
    obtain ⟨_, o, h3, h4⟩ := hr g1 e.symm
    rw [h.k1] at h3
    injection h3 with h3
    subst h3
    cases h4
  · intro h0
    obtain ⟨b, off, e, hc⟩ := h.cl h0
    obtain ⟨rfl, rfl⟩ : cg = b ∧ 0 = off := by simpa using e
    have hlt := World.block_lt_of_cell? _ _ (hc 0 h0)
    exact ints_at_same h.cl (hg.block cg hlt fun e => by have := (hr cg e.symm).1; omega) h0
  · exact h.bw.trans ⟨hg.os, hg.tape, hg.output, hg.size, fun k hk => by
      by_cases hlt : k < U.heap.size
      · exact hg.block k hlt fun e => by have := (hr k e.symm).1; omega
      · have := h1.ser.sx; have := h1.ser.ss.1; omega⟩
theorem Mt.work (h : Mt w0 vo0 base s XB XQ R nS nW q gp gw gm gl vh vl vp gs go gt g1 cg c T W) (x : Int) (f1 : ¬ XB g1) (ncg : cg ≠ R) : Mt w0 vo0 base s XB XQ R nS nW q gp gw gm gl vh vl vp gs go gt g1 cg c T (W.setCell ⟨R, 4, none⟩ (.int .i64 x)) := by
  obtain ⟨vo, h1, h2, h3⟩ := h.ls
  have hw0 := h.bw.size
  have hx := (BdAt.work h1.ser.bd x).2.1
  exact ⟨⟨vo, h1.work x, h2, h3⟩, (heap_setCell_other _ _ _ _ (show g1 ≠ R from fun e => f1 (e ▸ hx))).trans h.k1, ints_at_same h.cl (heap_setCell_other _ _ _ _ (show cg ≠ R from ncg)), h.bw.trans ((Below.refl base W).setCell (p := ⟨R, 4, none⟩) (h1.ser.bx R hx) _), fun g hg hf a b c => (heap_setCell_other _ _ _ _ (show g ≠ R from fun e => hf.b (e ▸ hx))).trans (h.fr g hg hf a b c)⟩
theorem Mt.setM (h : Mt w0 vo0 base s XB XQ R nS nW q gp gw gm gl vh vl vp gs go gt g1 cg c T W) (a : Nat) (x : Int) (f1 : g1 ≠ gm) (xc : XB cg) (B : Nat) :
    Mt w0 vo0 base s XB XQ R nS nW q gp gw gm gl vh vl vp gs go gt g1 cg c { T with S := { T.S with marks := T.S.marks.set a x } } (W.setCell ⟨gm, a, none⟩ (.int .i64 x)) ∧ KeepsFrom B W (W.setCell ⟨gm, a, none⟩ (.int .i64 x)) := by
  obtain ⟨vo, h1, h2, h3⟩ := h.ls
  have hw0 := h.bw.size
  exact ⟨⟨⟨vo, h1.setM a x, h2, h3⟩, (heap_setCell_other _ _ _ _ (show g1 ≠ gm from f1)).trans h.k1, ints_at_same h.cl (heap_setCell_other _ _ _ _ (show cg ≠ gm from fun e => h1.ser.mb (e ▸ xc))), h.bw.trans ((Below.refl base W).setCell (p := ⟨gm, a, none⟩) h1.ser.mx _), fun g hg hf a b c => (heap_setCell_other _ _ _ _ (show g ≠ gm from hf.m)).trans (h.fr g hg hf a b c)⟩, keeps_set h1.ser.ma⟩
theorem Mt.queue (h : Mt w0 vo0 base s XB XQ R nS nW q gp gw gm gl vh vl vp gs go gt g1 cg c T W) {W' : World} {Q' : Qu} (hq : Qm W' XQ q gp gw vh Q') (hF : Fr XQ W W' XQ) (f1 : ¬ XQ g1) (xc : XB cg) {B : Nat} (hB : ∀ g, XB g ∨ XQ g → g < B) :
    Mt w0 vo0 base s XB XQ R nS nW q gp gw gm gl vh vl vp gs go gt g1 cg c { T with S := { T.S with Q := Q' } } W' ∧ KeepsFrom B W W' := by
  obtain ⟨vo, h1, h2, h3⟩ := h.ls
  have hw0 := h.bw.size
  exact ⟨⟨⟨vo, h1.queue hq hF, h2, h3⟩, (hF.far g1 (Array.getElem?_eq_some_iff.1 h.k1).1 f1).trans h.k1, ints_at_same h.cl (hF.far cg (BdAt.xb h1.ser.bd cg xc) (h1.ser.bq cg xc)), h.bw.trans (h1.ser.qw hF), fun g hg hf a b c => (hF.far g (by omega) hf.q).trans (h.fr g hg hf a b c)⟩, keeps_of hF.size fun k o hk ho _ => hF.far k (Array.getElem?_eq_some_iff.1 ho).1 fun e => by have := hB k (.inr e); omega⟩
theorem Mt.setO (h : Mt w0 vo0 base s XB XQ R nS nW q gp gw gm gl vh vl vp gs go gt g1 cg c T W) (x : Int) (f1 : g1 ≠ go) (xc : XB cg) (B : Nat) :
    Mt w0 vo0 base s XB XQ R nS nW q gp gw gm gl vh vl vp gs go gt g1 cg c { T with op := x } (W.setCell ⟨go, 0, none⟩ (.int .i64 x)) ∧ KeepsFrom B W (W.setCell ⟨go, 0, none⟩ (.int .i64 x)) := by
  obtain ⟨vo, h1, h2, h3⟩ := h.ls
  have hw0 := h.bw.size
  exact ⟨⟨⟨vo, h1.setO x, h2, h3⟩, (heap_setCell_other _ _ _ _ (show g1 ≠ go from f1)).trans h.k1, ints_at_same h.cl (heap_setCell_other _ _ _ _ (show cg ≠ go from fun e => h1.f2.b (e ▸ xc))), h.bw.trans ((Below.refl base W).setCell (p := ⟨go, 0, none⟩) h1.f2.base _), fun g hg hf a b c => (heap_setCell_other _ _ _ _ (show g ≠ go from a)).trans (h.fr g hg hf a b c)⟩, keeps_set h1.c2⟩
theorem Mt.push (h : Mt w0 vo0 base s XB XQ R nS nW q gp gw gm gl vh vl vp gs go gt g1 cg c T W) (x : Int) (hl : T.oth.length < 1000000) (f1 : g1 ≠ gt) (xc : XB cg) (B : Nat) :
    ∃ vo vo' w', W.cell? ⟨gt, 0, none⟩ = some vo ∧ w'.cell? ⟨gt, 0, none⟩ = some vo ∧ w'.frozen? ⟨gt, 0, none⟩ = false ∧ (∃ p c, vo = .slice p T.oth.length c) ∧ (Builtin.append_ #[38, 38] 38 #[vo, .slice (some ⟨W.heap.size, 0, none⟩) 1 1]).run Tryz.prog (W.alloc (.cells #[.int .i64 x] 3)) = .ok vo' w' ∧ (∃ p c, vo' = .slice p (T.oth.length + 1) c) ∧
      Mt w0 vo0 base s XB XQ R nS nW q gp gw gm gl vh vl vp gs go gt g1 cg c { T with oth := T.oth ++ [x] } (w'.setCell ⟨gt, 0, none⟩ vo') ∧ KeepsFrom B W (w'.setCell ⟨gt, 0, none⟩ vo') := by
  obtain ⟨vo, h1, h2, h3⟩ := h.ls
  have hw0 := h.bw.size
  obtain ⟨vo', w', hr, hsl, hgt, hL, hnew, hfar, hbw⟩ := h1.push x hl
  have hk1 := (Array.getElem?_eq_some_iff.1 h.k1).1
  refine ⟨vo, vo', w', h1.d3, (World.cell?_of_block (a := ⟨gt, 0, none⟩) hgt).trans h1.d3, (World.frozen?_of_block (a := ⟨gt, 0, none⟩) hgt).trans h1.z3, h1.sl, hr, hsl, ⟨⟨vo', hL, fun g hg => ?_, fun g hg e => ?_⟩, (hfar g1 hk1 (fun e => h2 g1 e rfl) f1).trans h.k1, ints_at_same h.cl (hfar cg (BdAt.xb h1.ser.bd cg xc) (fun e => (h1.fo cg e).1.b xc) fun e => h1.f3.b (e ▸ xc)), h.bw.trans hbw, fun g hg hf a b c => (hfar g (by omega) (fun e => c (h3 g hg e)) b).trans (h.fr g hg hf a b c)⟩, keeps_of hbw.size fun k o _ hk ho => hfar k (Array.getElem?_eq_some_iff.1 hk).1 (fun e => ?_) ?_⟩
  · rcases hnew g hg with e | e
    · exact h2 g e
    · omega
  · rcases hnew g e with e | e
    · exact h3 g hg e
    · omega
  · rcases h1.row.2 with ⟨rfl, _⟩ | ⟨g', cap, cur, rfl, _, hcc, _⟩
    · cases e
    · simp [Value.ownBlock] at e
      subst e
      rw [hcc] at hk
      injection hk with hk
      subst hk
      cases ho
  · rintro rfl
    rw [h1.c3] at hk
    injection hk with hk
    subst hk
    cases ho
end
end Go.Proofs.YtkinmangilbeeaaGreatDoor.Sr
