/- All words of a kind's nodes: the walk of what makes the function that tells them. -/
import Derived.Test.YtfobcnhibhbbaaaGreatDoorEbM
import Derived.Test.YtfobcnhibhbbaaaGreatDoorMk
import Derived.Test.YtfobcnhibhbbaaaGreatDoorMeM
import Derived.Test.YtfobcnhibhbbaaaGreatDoorEd
import Derived.Test.YtfobcnhibhbbaaaGreatDoorEaM
import Derived.RangeFuncNested
import Derived.RangeFuncBound
import Derived.RangeFuncCalls
import Derived.RangeFuncLeaves
namespace Go.Proofs.YtfobcnhibhbbaaaGreatDoor.Ev.Xp
open Go.RowKit Go.Maps Go.WideMaps Go.WideShapes
set_option maxRecDepth 100000

/-- A list that was made since, and its room. -/
structure NL (n0 : Nat) (w : World) (p : Option Addr) (cap : Nat) (l : List Int) : Prop where
  ints : IntsAt w p l
  lc : l.length ≤ cap
  cm : cap ≤ maxLen
  fr : ∀ a, p = some a → n0 ≤ a.block
theorem NL.mono {n0 n1 : Nat} {w : World} {p : Option Addr} {cap : Nat} {l : List Int} (h : NL n1 w p cap l) (hn : n0 ≤ n1) : NL n0 w p cap l := ⟨h.ints, h.lc, h.cm, fun a e => Nat.le_trans hn (h.fr a e)⟩
theorem NL.later {n0 : Nat} {w w1 : World} {p : Option Addr} {cap : Nat} {l : List Int} (h : NL n0 w p cap l) (hb : Below w.heap.size w w1) : NL n0 w1 p cap l := ⟨h.ints.later hb, h.lc, h.cm, h.fr⟩
theorem NL.nil (n0 : Nat) (w : World) : NL n0 w none 0 [] := ⟨fun h => by simp at h, Nat.zero_le _, Nat.zero_le _, fun a e => by cases e⟩
theorem NL.sl {n0 : Nat} {w : World} {p : Option Addr} {cap : Nat} {l : List Int} (h : NL n0 w p cap l) : SL w (.slice p l.length cap) l := ⟨p, cap, rfl, h.ints, h.lc, h.cm⟩
theorem owns_nl {w : World} {base : Nat} {v : Value} {l : List Int} (h : w.ownsRow base 3 1 v l.length (l.map (Value.int .i64))) : ∃ p cap, v = .slice p l.length cap ∧ NL base w p cap l := by
  obtain ⟨p, cap, e, hI⟩ := owns_ints h
  subst e
  refine ⟨p, cap, rfl, hI, ?_, ?_, ?_⟩
  all_goals
    rcases h.2 with ⟨e, h0⟩ | ⟨g, cap', cur, e, hg, hh, hn, hm, hs, ht⟩
    · injection e with e1 e2 e3
      subst e1 e3
      first | omega | exact Nat.zero_le _ | exact fun a e => by cases e
    · injection e with e1 e2 e3
      subst e1 e3
      first | exact hn | exact hm | exact fun a e => by cases e; exact hg
set_option maxRecDepth 100000 in
set_option maxHeartbeats 1000000 in
theorem ofKind_new (p0 : Option Addr) (cap0 : Nat) (ns : List Nd) (hl : ns.length ≤ 2932031007402) (kind : Int) (w : World) (hN : NodesAt w p0 ns) :
    Calls Tryz.prog 52 #[.slice p0 ns.length cap0, .int .i64 kind] w fun e w' =>
      ∃ p cap, e = .returned (.slice p (sel (isK ns kind) ns.length).length cap) ∧ NL w.heap.size w' p cap (sel (isK ns kind) ns.length) ∧ Below w.heap.size w w' := by
  obtain ⟨i0, hi, hz0, hz1, hz2⟩ := info_parts info3
  go_enter Tryz.func52, Tryz.ntmps52
  go_wp2
  go_loopw [5, 10] (fun v i wr => ∃ k : Nat, k ≤ ns.length ∧ i = .int .i64 k ∧ wr.ownsRow w.heap.size 3 1 v (sel (isK ns kind) k).length ((sel (isK ns kind) k).map (Value.int .i64)) ∧ Below w.heap.size w wr) (fun _ i _ => ns.length - (intOf i).toNat)
  case atStart => exact ⟨0, Nat.zero_le _, rfl, World.ownsRow_nil _ _ _ _, Below.refl _ _⟩
  case round =>
    obtain ⟨k, hk, rfl, hown, hbw⟩ := hrel
    have hsz := hbw.size
    by_cases hlt : k < ns.length
    · obtain ⟨b, off, rfl, hc⟩ := (hN.later hbw) (by omega)
      obtain ⟨d0, d1, d2, d3, d4, d5⟩ := hc k hlt
      have HI := hide (isK_at (kind := kind) hlt)
      clear hc
      generalize ns[k] = nd at *
      obtain ⟨kd, v, x, y, z, n⟩ := nd
      simp only at *
      cases hf : (kd == kind)
      · have HS : Hid (sel (isK ns kind) (k + 1) = sel (isK ns kind) k) := sel_no (by rw [HI.out, hf])
        clear HI
        go_wp2
        go_roundw
        case rel => exact ⟨k + 1, by omega, by go_num, by rw [HS.out]; exact hown.alloc _, bal hbw _⟩
        case measure => simp [intOf]; omega
      · have HS : Hid (sel (isK ns kind) (k + 1) = sel (isK ns kind) k ++ [(k : Int)]) := sel_yes (by rw [HI.out, hf])
        have hsl := sel_len (isK ns kind) k
        clear HI
        generalize sel (isK ns kind) k = l at *
        go_wp2_with (at_builtin; refine wpList_append_own _ rfl _ _ 24 rfl w.heap.size 3 i0 (.int .i64 0) 1 8 Tryz.underlying24 hi hz0 hz1 hz2 rfl (by decide) _ _ _ rfl ((hown.alloc _).alloc _) ⟨wr.heap.size + 1, 0, none⟩ 1 1 [.int .i64 (k : Int)] rfl rfl ?c1 ?c2 ?c3 ?c4 ?c5 ?_)
        case c1 =>
          intro j u hj
          match j, hj with
          | 0, hj => simp at hj; subst hj; simp [Addr.add]
        case c2 => intro u hu; simp at hu; subst hu; rfl
        case c3 => unfold maxLen; omega
        case c4 => omega
        case c5 => simp; omega
        intro v' w1 hown' hgrow _
        have R := owns_later2 hown hown' hgrow hbw (by omega)
        rw [← HS.out] at R
        clear hown' hgrow hown
        go_wp2
        go_roundw
        case rel => exact ⟨k + 1, by omega, by go_num, R.1, R.2⟩
        case measure => simp [intOf]; omega
    · obtain rfl : k = ns.length := by omega
      obtain ⟨p, cap, rfl, hI⟩ := owns_nl hown
      go_wp2
      go_ret
      exact ⟨p, cap, rfl, hI, hbw⟩
/-- What the function that tells all words has at hand: the model, the kind, its nodes. -/
structure Aw (w : World) (b2 b3 b5 : Nat) (m : Mv) (ns : List Nd) (kind : Int) : Prop where
  box : Box w b2 m ns.length
  kd : w.cell? ⟨b3, 0, none⟩ = some (.int .i64 kind)
  nd : ∃ p cap, w.cell? ⟨b5, 0, none⟩ = some (.slice p (sel (isK ns kind) ns.length).length cap) ∧ IntsAt w p (sel (isK ns kind) ns.length)
theorem Aw.later {w w1 : World} {b2 b3 b5 : Nat} {m : Mv} {ns : List Nd} {kind : Int} (h : Aw w b2 b3 b5 m ns kind) (hb : Below w.heap.size w w1) : Aw w1 b2 b3 b5 m ns kind := by
  obtain ⟨p, cap, h1, h2⟩ := h.nd
  exact ⟨h.box.later hb, cell_later hb h.kd, p, cap, cell_later hb h1, h2.later hb⟩
set_option maxHeartbeats 2000000 in
theorem allWords_any (m : Mv) (ns : List Nd) (hl : ns.length ≤ 80) (kind : Int) (w : World) (hN : NodesAt w m.a0 ns) :
    Calls Tryz.prog 30 #[m.val ns.length, .int .i64 kind] w fun e w' => ∃ b2 b3 b5, e = .returned (.func (.func 61) #[] #[.pointer (some ⟨b2, 0, none⟩), .pointer (some ⟨b3, 0, none⟩), .pointer (some ⟨b5, 0, none⟩)]) ∧ (∀ W : World, (∀ g, w.heap.size ≤ g → g < w'.heap.size → W.heap[g]? = w'.heap[g]?) → Aw W b2 b3 b5 m ns kind) ∧ Below w.heap.size w w' := by
  have hmf : ∀ (fn : Fn) (first cap : Array Value) (w : World), (Instr.makeFunc fn first cap).run Tryz.prog w = .ok (.func fn first cap) w := fun _ _ _ _ => rfl
  have hb1 : Below w.heap.size w ((w.alloc (.cells (m.cells ns.length) 26)).alloc (.cells #[.int .i64 kind] 3)) := bal (bal (Below.refl _ _) _) _
  have HBX := hide ((Box.new w m ns.length).later (bal (Below.refl _ _) (.cells #[.int .i64 kind] 3)))
  have k0 : ((w.alloc (.cells (m.cells ns.length) 26)).alloc (.cells #[.int .i64 kind] 3)).cell? ⟨w.heap.size + 1, 0, none⟩ = some (.int .i64 kind) := by simp [go_sem]
  have HK0 := hide k0
  have HOK := hide (ofKind_new m.a0 m.c0 ns (by omega) kind _ (hN.later hb1))
  have HB1 := hide hb1
  clear hb1 hN k0
  go_enter Tryz.func30, Tryz.ntmps30
  go_wp2_with fail
  refine HOK.out.mono ?_
  rintro e w2 ⟨p, cap, rfl, hI, hb2⟩
  have HB2 := hide (bthen HB1.out hb2)
  have HBX2 := hide (HBX.out.later hb2)
  have HK2 := hide (cell_later hb2 HK0.out)
  have HI2 := hide hI
  clear hI hb2 HOK
  generalize hS : (sel (isK ns kind) ns.length) = S at *
  have HS := hide hS
  clear hS
  go_wp2_with fail
  go_ret
  have hal : Below w2.heap.size w2 (w2.alloc (.cells #[.slice p S.length cap] 24)) := bal (Below.refl _ _) _
  have hA : Aw (w2.alloc (.cells #[.slice p S.length cap] 24)) w.heap.size (w.heap.size + 1) w2.heap.size m ns kind := ⟨HBX2.out.later hal, cell_later hal HK2.out, p, cap, (by rw [HS.out]; simp [go_sem]), (by rw [HS.out]; exact HI2.out.ints.later hal)⟩
  have hsz := HB2.out.size
  refine ⟨_, _, _, rfl, fun W hk => ?_, bthen HB2.out hal⟩
  have hc : ∀ (q : Addr) (v : Value), w.heap.size ≤ q.block → (w2.alloc (.cells #[.slice p S.length cap] 24)).cell? q = some v → W.cell? q = some v := fun q v h1 h2 => by
    rw [World.cell?_of_block (hk q.block h1 (World.block_lt_of_cell? _ _ h2))]
    exact h2
  refine ⟨hA.box.kept fun a v ha hv => hc a v (by rw [ha]; exact Nat.le_refl _) hv, hc _ _ (Nat.le_succ _) hA.kd, p, cap, hc _ _ hsz ?_, fun h0 => ?_⟩
  · rw [HS.out]; simp [go_sem]
  · rw [HS.out] at h0 ⊢
    obtain ⟨b, off, e, hcc⟩ := (HI2.out.ints.later hal) h0
    have hfr : w.heap.size ≤ b := by
      have h1 := HI2.out.fr _ e
      simp at h1
      omega
    exact ⟨b, off, e, fun i hi => hc _ _ hfr (hcc i hi)⟩
end Go.Proofs.YtfobcnhibhbbaaaGreatDoor.Ev.Xp

namespace Go.Proofs.YtfobcnhibhbbaaaGreatDoor.Ev.Xp
open Go.RowKit
set_option maxRecDepth 100000

/-- The function hands over N lists, one after another: the k-th is vals k; M says what holds of a list at hand. -/
def SeqM (F : Fence) (n : Nat) (P : Program) (g : Nat) (lb : Array Value) (M : Rw → World → Prop) (Kp : World → World → Prop) (N : Nat) (vals : Nat → List Int) (w : World) : Prop :=
  ∀ (l : Nat) (J : Nat → World → Prop) (W : World), Below w.heap.size w W → AbidesFrom W.heap.size J →
    (∀ k x W1, J k W1 → k < N → x.ns = vals k → M x W1 → YieldAt F (n - 1) P l #[x.v] W1 fun e W' => e = .returned (.bool true) ∧ J (k + 1) W' ∧ Kp W1 W') →
    J 0 W → CallsIn F n P g (#[.func (.yield l) #[] #[]] ++ lb) W fun e W' => (∃ v, e = .returned v) ∧ J N W'
/-- How a round's body ends: it goes on. -/
def goesOn (B : Nat) (Kp : World → World → Prop) (I : World → Prop) (W : World) : Exit → Act → World → Prop
  | .normal, _, W' => KeepsFrom B W W' ∧ Kp W W' ∧ I W'
  | _, _, _ => False
/-- A loop's record, at a state of it, when no round has left it. -/
def lpR (fn : FuncId) (t : Array Value) (p : Tmp) (assign body : Code) (B : Nat) (st : LoopState) : Loop := { state := st, pending := none, fn := fn, tmps := t, params := #[p], assign := assign, body := body, defers := B }
/-- What the walk of a loop keeps between two rounds: the caller's word, its record, and the block for what is deferred. -/
structure LpJ (R : LoopState → Loop) (B : Nat) (I : Nat → World → Prop) (k : Nat) (W : World) : Prop where
  inv : I k W
  rec' : W.heap[B + 1]? = some (.loop (R .ready))
  dfr : W.heap[B]? = some (.deferred (some []))
theorem lpJ_abides {R : LoopState → Loop} {B C : Nat} {I : Nat → World → Prop} (hI : OwnFrom B I) (hC : B ≤ C) : AbidesFrom C (LpJ R B I) := fun k U V row h hg hr =>
  ⟨hI k U V row h.inv hg fun r e => by obtain ⟨h1, o, h2, h3⟩ := hr r e; exact ⟨Nat.le_trans hC h1, o, h2, Obj.not_cells_of_walk h3⟩,
   (grownBy_keeps hg (fun r e => (hr r e).2) h.rec' rfl).trans h.rec', (grownBy_keeps hg (fun r e => (hr r e).2) h.dfr rfl).trans h.dfr⟩
section
variable {F : Fence} {n : Nat} {P : Program} {p : Tmp} {assign body : Code} {B : Nat} {Kp : World → World → Prop}
/-- One round: the list is assigned, the body goes on. -/
theorem round_M {fn : FuncId} {t : Array Value} (hfn : F.fn fn) {I : Nat → World → Prop} (hI : OwnFrom B I) (hKt : ∀ {A B C : World}, Kp A B → Kp B C → Kp A C) (hKb : ∀ (W : World) (l : Nat) (o o' : Obj), B ≤ l → W.heap[l]? = some o → o.isCells = false → o.isWalk = false → Kp W (W.putObj l o')) {a1 : Act} {x : Rw} {k : Nat} {W : World}
    (hassign : ∀ K : Act → World → Prop, K a1 W → assign.wpIn (F.inRound (B + 1)) n P (Exit.then K (fun _ _ _ => False)) { tmps := (#[p].zip #[x.v]).foldl (fun t (p, v) => t.setIfInBounds p v) t, defers := [] } W)
    (hbody : body.wpIn (F.inRound (B + 1)) n P (goesOn B Kp (I (k + 1)) (W.putObj (B + 1) (.loop (lpR fn t p assign body B .busy)))) a1 (W.putObj (B + 1) (.loop (lpR fn t p assign body B .busy)))) (h : LpJ (lpR fn t p assign body B) B I k W) :
    YieldAt F n P (B + 1) #[x.v] W fun e W' => e = .returned (.bool true) ∧ LpJ (lpR fn t p assign body B) B I (k + 1) W' ∧ Kp W W' := by
  have hin : B + 1 < W.heap.size := (Array.getElem?_eq_some_iff.1 h.rec').1
  have hbusy : (W.putObj (B + 1) (.loop (lpR fn t p assign body B .busy))).heap[B + 1]? = some (.loop (lpR fn t p assign body B .busy)) := World.putObj_heap_same hin
  have hdf : (W.putObj (B + 1) (.loop (lpR fn t p assign body B .busy))).heap[B]? = some (.deferred (some [])) := (World.putObj_heap_other (Nat.ne_of_lt (Nat.lt_succ_self B))).trans h.dfr
  have hkeep := hKb W (B + 1) _ (.loop (lpR fn t p assign body B .busy)) (Nat.le_succ B) h.rec' rfl rfl
  refine ⟨fn, _, assign, body, run_yield h.rec' rfl, roundIn_of_wpIn hfn (hassign _ ⟨_, run_beginRound h.rec' rfl, wpIn_mono hbody fun e a3 V hp => ?_⟩)⟩
  match e, hp with
  | .normal, ⟨k1, k2, k3⟩ =>
    have hr := k1.same _ _ (Nat.le_succ B) hbusy rfl
    have hV := (Array.getElem?_eq_some_iff.1 hr).1
    exact ⟨_, _, run_endRound none hr, rfl, ⟨hI.putObj _ k3 (Nat.le_succ B) hr rfl, World.putObj_heap_same hV, (World.putObj_heap_other (Nat.ne_of_lt (Nat.lt_succ_self B))).trans (k1.same _ _ (Nat.le_refl B) hdf rfl)⟩, hKt (hKt hkeep k2) (hKb V (B + 1) _ _ (Nat.le_succ B) hr rfl rfl)⟩
end
theorem wp_rangeM {F : Fence} {n : Nat} {P : Program} {g : Operand} {p : Tmp} {assign body : Code} {Q : Exit → Act → World → Prop} {a : Act} {w : World} (hro : F.round = none) (h1 : 1 ≤ n) {gf : Nat} {lb : Array Value} (hg : a.eval g = .func (.func gf) #[] lb) (hFg : F.fn gf) (eg : ∀ args w, (callFunc gf args).run P w = .ok (.enter gf args) w)
    {M : Rw → World → Prop} {Kp : World → World → Prop} {N : Nat} {vals : Nat → List Int} {w0 : World} (hseq : SeqM F (n - 1) P gf lb M Kp N vals w0)
    (hKt : ∀ {A B C : World}, Kp A B → Kp B C → Kp A C) (hKb : ∀ (W : World) (l : Nat) (o o' : Obj), w.heap.size ≤ l → W.heap[l]? = some o → o.isCells = false → o.isWalk = false → Kp W (W.putObj l o')) (hb0 : Below w0.heap.size w0 w)
    (hM : ∀ x (W : World) (l : Nat) (o o' : Obj), w.heap.size ≤ l → W.heap[l]? = some o → o.isCells = false → M x W → M x (W.putObj l o'))
    (I : Nat → World → Prop) (hI : OwnFrom w.heap.size I) (h0 : I 0 w) (a1 : Rw → Act)
    (hassign : ∀ (l : Nat) (x : Rw) (W : World) (K : Act → World → Prop), K (a1 x) W → assign.wpIn (F.inRound l) (n - 1 - 1) P (Exit.then K (fun _ _ _ => False)) { tmps := (#[p].zip #[x.v]).foldl (fun t (p, v) => t.setIfInBounds p v) a.tmps, defers := [] } W)
    (hbody : ∀ (l k : Nat) (x : Rw) (W : World), I k W → k < N → x.ns = vals k → M x W → body.wpIn (F.inRound l) (n - 1 - 1) P (goesOn w.heap.size Kp (I (k + 1)) W) (a1 x) W)
    (hdone : ∀ (D : Nat) (W : World), w.heap.size ≤ D → I N W → W.heap[D]? = some (.deferred (some [])) → Q .normal { a with defers := { target := .collected D, args := #[] } :: a.defers } W) :
    (Code.rangeFunc g #[p] assign body).wpIn F n P Q a w := by
  refine wpIn_rangeFunc fun fn hfn => ?_
  generalize hR : lpR fn a.tmps p assign body w.heap.size = R
  have hJ : LpJ R w.heap.size I 0 ((w.alloc (.deferred (some []))).alloc (.loop (R .ready))) := by
    refine ⟨hI.alloc _ (hI.alloc _ h0), ?_, ((bal (Below.refl _ (w.alloc (.deferred (some [])))) _).block w.heap.size (by simp)).trans (MapKept.heap_alloc w _).1⟩
    have := (MapKept.heap_alloc (w.alloc (.deferred (some []))) (.loop (R .ready))).1
    rw [World.size_alloc] at this
    exact this
  have hend := (hseq (w.heap.size + 1) (LpJ R w.heap.size I) ((w.alloc (.deferred (some []))).alloc (.loop (R .ready))) (bal (bal hb0 _) _) (lpJ_abides hI (by rw [World.size_alloc, World.size_alloc]; omega)) (fun k x W h hk hx hm => by
      subst hR
      exact round_M (Kp := Kp) hfn hI (fun {_ _ _} => hKt) hKb (hassign _ x W) (hbody _ k x _ (hI.putObj _ h.inv (Nat.le_succ _) h.rec' rfl) hk hx (hM x W _ _ _ (Nat.le_succ _) h.rec' rfl hm)) h) hJ)
  have hin : (Instr.enterLoop fn a.tmps #[p] assign body F.round).run P w = .ok (w.heap.size + 1, [{ target := .collected w.heap.size, args := #[] }]) ((w.alloc (.deferred (some []))).alloc (.loop (R .ready))) := by
    rw [hro, ← hR]; exact run_enterLoop_outer _ _ _ _ _
  generalize (w.alloc (.deferred (some []))).alloc (.loop (R .ready)) = V at *
  refine ⟨_, _, V, { target := .fn (.func gf) lb, args := #[.func (.yield (w.heap.size + 1)) #[] #[]] }, V, gf, _, V, hin, ?_, ?_, ?_, fun _ => h1, hend.mono ?_⟩
  · simp only [resolve, hg]
    simp [go_sem]
  · intro f' hf'
    simp [Target.leads] at hf'
    exact hf' ▸ hFg
  · simp [invoke, go_sem, eg]
  · rintro e W ⟨⟨v, rfl⟩, h⟩
    subst hR
    exact ⟨_, _, run_endLoop h.rec' (by simp [lpR]), hdone w.heap.size _ (Nat.le_refl _) (hI.putObj _ h.inv (Nat.le_succ _) h.rec' rfl) ((World.putObj_heap_other (Nat.ne_of_lt (Nat.lt_succ_self _))).trans h.dfr)⟩
end Go.Proofs.YtfobcnhibhbbaaaGreatDoor.Ev.Xp
