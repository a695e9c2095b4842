/- Gates: what a graph is that comes in; lists of numbers, and of bools. -/
import Derived.Test.YtabnimgpednhjabGreatRows
import Derived.Test.YtabnimgpednhjabGreatGlM
import Derived.ProofKit
import Derived.SizedLaws
import Derived.OpenShut
import Derived.ChangeOld
import Derived.Below
import Derived.Deep.Slices
import Derived.Test.YtabnimgpednhjabGreatGc
namespace Go.Proofs.YtabnimgpednhjabGreat.Gg
open Go.ChangeShapes Go.WideShapes Go.ChangeAt Go.RowKit Go.Deep
set_option maxRecDepth 100000

theorem own : ownKnob Tryz.prog.godebug = none := by kernel_rfl
theorem laidOut : laidOutB Tryz.prog = true := by kernel_rfl
theorem cells3 : Tryz.prog.cellsOf 3 = 1 := by kernel_rfl
theorem cells4 : Tryz.prog.cellsOf 4 = 1 := by kernel_rfl
theorem cells22 : Tryz.prog.cellsOf 22 = 1 := by kernel_rfl
theorem cells24 : Tryz.prog.cellsOf 24 = 2 := by kernel_rfl
theorem cells55 : Tryz.prog.cellsOf 81 = 2 := by kernel_rfl
theorem bytes3 : Tryz.prog.bytesOf 3 = 8 := by kernel_rfl
theorem bytes4 : Tryz.prog.bytesOf 4 = 1 := by kernel_rfl
theorem bytes55 : Tryz.prog.bytesOf 81 = 16 := by kernel_rfl

theorem wf_of {n : Int} (h : (Lit.int .i64 n).wf = true) : Wf n := by
  unfold Lit.wf at h
  simp only [Bool.and_eq_true, decide_eq_true_eq] at h
  exact ⟨h.1, h.2⟩

section
variable {H : Type} {enc : TypeId × Value → H} {W : World} {base : Nat} {sp : Nat → Bool} {held : Bool} {fuel : Nat} {v : Value} {x : DataW H × List MemPlace}

theorem weigh {t e : TypeId} {es ss : List (DataW H)} (hu : Tryz.prog.underlying t = some (.slice e)) (h : ((DataW.slice es ss).weights Tryz.prog t).all (· ≤ reachBytes) = true) : es.length * Tryz.prog.bytesOf e ≤ reachBytes := by
  have h1 := List.all_eq_true.1 h ((es.length + ss.length) * Tryz.prog.bytesOf e) (by simp [DataW.weights, hu])
  have h2 : (es.length + ss.length) * Tryz.prog.bytesOf e ≤ reachBytes := by simpa using h1
  exact Nat.le_trans (Nat.mul_le_mul_right _ (Nat.le_add_right _ _)) h2

theorem in_ints (h : DataW.trod enc Tryz.prog W base sp held fuel 25 [v] = some x) :
    ∃ p c l, v = .slice p (List.length l) c ∧ IntsAt W p l ∧ ((x.1.weights Tryz.prog 25).all (· ≤ reachBytes) = true → l.length ≤ 17592186043904) := by
  rcases open_ints Tryz.underlying25 Tryz.underlying3 cells3 h with ⟨hcs, hx⟩ | ⟨a, len, cap, zs, hcs, _, hl, hm, hz, hx, hcell, _⟩
  · simp at hcs
    exact ⟨none, 0, [], hcs, fun h => by simp at h, fun _ => by simp⟩
  · simp at hcs
    have hlz : len ≤ zs.length := by rw [hz]; split <;> omega
    refine ⟨some a, cap, zs.take len, by rw [hcs, List.length_take, Nat.min_eq_left hlz], ?_, ?_⟩
    · intro h0
      rw [List.length_take, Nat.min_eq_left hlz] at h0
      obtain ⟨b, off, spot⟩ := a
      have hspot : spot = none := by simpa [Addr.add] using World.cell?_spot (hcell 0 (by omega))
      subst hspot
      refine ⟨b, off, rfl, fun i hi => ?_⟩
      have hi' : i < zs.length := by rw [List.length_take] at hi; omega
      have := hcell i hi'
      rw [Addr.add_lit] at this
      rw [this]
      simp [List.getD, List.getElem?_eq_getElem hi']
    · intro hw
      subst hx
      have := weigh Tryz.underlying25 hw
      rw [bytes3] at this
      simp only [lits, List.length_map, reachBytes] at this
      omega

theorem in_bools (h : DataW.trod enc Tryz.prog W base sp held fuel 44 [v] = some x) :
    ∃ p c l, v = .slice p (List.length l) c ∧ (p = none → c = 0) ∧ BoolsAt W p l ∧ l.length ≤ maxLen := by
  rcases open_slice1 Tryz.underlying44 cells4 h with ⟨hcs, hx⟩ | ⟨a, len, cap, m, n, V, D, Pl, hcs, _, hl, hm, hmm, hx, hcell⟩
  · simp at hcs
    exact ⟨none, 0, [], hcs, fun _ => rfl, fun h => by simp at h, by simp⟩
  · simp at hcs
    have hlm : len ≤ m := by rw [hmm]; split <;> omega
    obtain ⟨F, hF⟩ := choose_lt (α := Bool) (n := len) (p := fun i b => V i = .bool b) (fun i hi => by
      obtain ⟨b, h1, _⟩ := DataW.trod_bool Tryz.underlying4 (hcell i (by omega)).2
      exact ⟨b, by simpa using h1⟩)
    have hlen : ((List.range len).map F).length = len := by simp
    refine ⟨some a, cap, (List.range len).map F, by rw [hcs, hlen], (fun h => by cases h), ?_, by rw [hlen]; omega⟩
    intro h0
    rw [hlen] at h0
    obtain ⟨b, off, spot⟩ := a
    have hspot : spot = none := by simpa [Addr.add] using World.cell?_spot (hcell 0 (by omega)).1
    subst hspot
    refine ⟨b, off, rfl, fun i hi => ?_⟩
    have hi' : i < len := by rw [hlen] at hi; exact hi
    have := (hcell i (by omega)).1
    rw [Addr.add_lit, hF i hi'] at this
    rw [this, List.getElem_map, List.getElem_range]

theorem in_pairs (h : DataW.trod enc Tryz.prog W base sp held fuel 22 [v] = some x) :
    ∃ p c l, v = .slice p (List.length l) c ∧ (p = none → c = 0) ∧ PairsAt W p l ∧ WfP l ∧ ((x.1.weights Tryz.prog 22).all (· ≤ reachBytes) = true → l.length ≤ 8796093021952) := by
  rcases open_slice Tryz.underlying22 h with ⟨hcs, hx⟩ | ⟨a, len, cap, m, n, D, Pl, hcs, _, hl, hm, hmm, hx, hcell⟩
  · simp at hcs
    exact ⟨none, 0, [], hcs, fun _ => rfl, fun h => by simp at h, fun i h => by simp at h, fun _ => by simp⟩
  · simp at hcs
    have hlm : len ≤ m := by rw [hmm]; split <;> omega
    have key : ∀ i, i < len → ∃ q : Int × Int, W.cell? (a.add (i * 2 + 0)) = some (.int .i64 q.1) ∧ W.cell? (a.add (i * 2 + 1)) = some (.int .i64 q.2) ∧ Wf q.1 ∧ Wf q.2 := by
      intro i hi
      obtain ⟨cs, hc, ht⟩ := hcell i (by omega)
      rw [cells55] at hc
      obtain ⟨_, hlen, hat⟩ := World.cells?_some hc
      obtain ⟨y, q, _, _, _, hl2, hx2⟩ := DataW.trod_array Tryz.underlying81 ht
      match cs, hlen with
      | [w0, w1], _ =>
        have e0 := hx2 0 (by omega)
        have e1 := hx2 1 (by omega)
        rw [List.getElem?_eq_getElem (by omega)] at e0 e1
        obtain ⟨n0, h0, _, f0⟩ := DataW.trod_int Tryz.underlying3 e0
        obtain ⟨n1, h1, _, f1⟩ := DataW.trod_int Tryz.underlying3 e1
        simp [cells3] at h0 h1
        subst h0 h1
        have g : ∀ j, (a.add (i * 2)).add j = a.add (i * 2 + j) := fun j => Go.Deep.add_add _ _ _
        refine ⟨(n0, n1), ?_, ?_, wf_of f0, wf_of f1⟩
        · have := hat 0 (by omega); rw [g] at this; exact this
        · have := hat 1 (by omega); rw [g] at this; exact this
    obtain ⟨F, hF⟩ := choose_lt key
    have hlen : ((List.range len).map F).length = len := by simp
    refine ⟨some a, cap, (List.range len).map F, by rw [hcs, hlen], (fun h => by cases h), ?_, ?_, ?_⟩
    · intro h0
      rw [hlen] at h0
      obtain ⟨b, off, spot⟩ := a
      have hspot : spot = none := by simpa [Addr.add] using World.cell?_spot (hF 0 (by omega)).1
      subst hspot
      refine ⟨b, off, rfl, fun i hi => ?_⟩
      have hi' : i < len := by rw [hlen] at hi; exact hi
      obtain ⟨e0, e1, _⟩ := hF i hi'
      rw [Addr.add_lit] at e0 e1
      rw [List.getElem_map, List.getElem_range]
      exact ⟨e0, by rw [Nat.add_assoc]; exact e1⟩
    · intro i hi
      have hi' : i < len := by rw [hlen] at hi; exact hi
      rw [List.getElem_map, List.getElem_range]
      exact (hF i hi').2.2
    · intro hw
      subst hx
      have := weigh Tryz.underlying22 hw
      rw [bytes55] at this
      simp only [List.length_map, List.length_range, reachBytes] at this
      rw [hlen]
      omega

theorem two_cells {α : Type} {cs : Array α} (h : cs.size = 2) : ∃ c0 c1, cs = #[c0, c1] := by
  obtain ⟨l⟩ := cs
  match l, h with
  | [a, b], _ => exact ⟨a, b, rfl⟩

end

set_option maxRecDepth 100000 in
theorem in_graph {H : Type} {enc : TypeId × Value → H} {W : World} {r : Reach} {b0 base : Nat} {sp : Nat → Bool} {held : Bool} {v : Value} {d : DataW H} {p : List MemPlace}
    (hv : Value.okWide Tryz.prog W r b0 24 v) (h : DataW.Trod enc Tryz.prog W base sp held 24 v d p) :
    ∃ ins q c ps, v = gval ins q (List.length ps) c ∧ (q = none → c = 0) ∧ PairsAt W q ps ∧ WfP ps ∧ ((d.weights Tryz.prog 24).all (· ≤ reachBytes) = true → ps.length ≤ 8796093021952) := by
  obtain ⟨cs, rfl, hsz⟩ := okWide_struct Tryz.underlying24 hv
  obtain ⟨v0, v1, rfl⟩ := two_cells (hsz.trans cells24)
  obtain ⟨fuel, hf⟩ := h
  simp only [Value.cells] at hf
  obtain ⟨y, m, _, hxy, _, hl, hx⟩ := DataW.trod_struct Tryz.underlying24 hf
  have hl2 : y.length = 2 := hl
  match y, hl2 with
  | [y0, y1], _ =>
    have e0 := hx 0 _ rfl
    have e1 := hx 1 _ rfl
    simp [cells3] at e0
    simp [cells22] at e1
    obtain ⟨n0, g0, _⟩ := DataW.trod_int Tryz.underlying3 e0
    simp at g0
    subst g0
    obtain ⟨a1, c1, ps, rfl, N1, H1, F1, L1⟩ := in_pairs e1
    have hd : d = .agg [y0.1, y1.1] := by simpa using congrArg Prod.fst hxy
    refine ⟨n0, a1, c1, ps, rfl, N1, H1, F1, fun hs => L1 ?_⟩
    rw [hd] at hs
    simp only [DataW.weights, Tryz.underlying24, List.map_cons, List.map_nil, DataW.weightsEach, List.all_append, Bool.and_eq_true] at hs
    exact hs.2.1

end Go.Proofs.YtabnimgpednhjabGreat.Gg

namespace Go.Proofs.YtabnimgpednhjabGreat.Gg
open Go.RowKit Go.Maps Go.WideMaps
set_option maxRecDepth 100000

theorem info3 : (Tryz.prog.info? 3).map (fun i => (i.zero, i.size, i.bytes)) = some (some (.int .i64 0), 1, 8) := by kernel_rfl
theorem owns_ints {w : World} {base : Nat} {v : Value} {l : List Int} (h : w.ownsRow base 3 1 v l.length (l.map (Value.int .i64))) : ∃ p cap, v = .slice p l.length cap ∧ IntsAt w p l ∧ (p = none → cap = 0) := by
  have h3 := h
  obtain ⟨h1, h2⟩ := h
  rcases h2 with ⟨rfl, h0⟩ | ⟨g, cap, cur, rfl, hg, hh, hn, hm, hs, ht⟩
  · exact ⟨none, 0, by rw [h0], fun h => by omega, fun _ => rfl⟩
  · refine ⟨_, cap, rfl, fun _ => ⟨g, 0, rfl, fun i hi => ?_⟩, fun h => by cases h⟩
    have := h3.cellAt i (by omega)
    rw [Nat.zero_add, this, List.getElem?_map, List.getElem?_eq_getElem hi]
    rfl
theorem ints_cells {w : World} {l : List Int} {ad : Addr} (h : IntsAt w (some ad) l) : ∀ j u, (l.map (Value.int .i64))[j]? = some u → w.cell? (ad.add j) = some u := by
  intro j u hj
  obtain ⟨hjl, hju⟩ := List.getElem?_eq_some_iff.1 hj
  have hjl' : j < l.length := by simpa using hjl
  obtain ⟨b, off, h, hc⟩ := h (by omega)
  cases h
  rw [Addr.add_lit, hc j hjl', ← hju]
  simp

theorem wp_append_ints {w : World} {o : Oper} {a : Act} {K : Act → World → Prop} {Q : Exit → Act → World → Prop} (s x : Operand)
    (ho : o.op = .call { callee := .builtin .append, args := #[s, x], argTypes := #[25, 25] })
    (base : Nat) (v : Value) (u l : List Int) (hs : a.eval s = v) (hown : w.ownsRow base 3 1 v u.length (u.map (Value.int .i64))) (p : Option Addr) (c : Nat) (hx : a.eval x = .slice p l.length c) (hB : IntsAt w p l) (hnil : p = none → c = 0)
    (hb : u.length + l.length ≤ 17592186044416) (hbase : base ≤ w.heap.size)
    (hK : ∀ v' w', w'.ownsRow base 3 1 v' (u ++ l).length ((u ++ l).map (Value.int .i64)) → w.grownBy w' v.ownBlock → K (a.put o.dst v') w') : o.wp Tryz.prog a w K Q := by
  obtain ⟨i0, hi, hz0, hz1, hz2⟩ := info_parts info3
  cases p with
  | none =>
    have h0 : l = [] := by
      cases l with
      | nil => rfl
      | cons a t => obtain ⟨b, off, h, _⟩ := hB (by simp); cases h
    subst h0
    obtain rfl := hnil rfl
    have hrun := run_append_owned_none (P := Tryz.prog) (w := w) base 25 o.type 3 i0 1 Tryz.underlying25 hi v u.length _ hown
    unfold Oper.wp
    simp only [List.length_nil] at hx
    simp [execOp, ho, resolve, invoke, builtin, hs, hx, hrun, Result.andThen]
    exact hK v w (by simpa using hown) ⟨rfl, rfl, rfl, Nat.le_refl _, fun _ _ _ => rfl⟩
  | some ad =>
    refine wp_append_own w s x 25 ho base 3 i0 (.int .i64 0) 1 8 Tryz.underlying25 hi hz0 hz1 hz2 rfl (by decide) v u.length _ hs hown ad l.length c (l.map (Value.int .i64)) hx (by simp) (ints_cells hB) ?_ (by unfold maxLen; omega) (by omega) hbase (fun v' w' a b _ => hK v' w' (by simpa using a) b)
    intro u hu
    obtain ⟨x, _, rfl⟩ := List.mem_map.1 hu
    rfl

theorem wpList_append_ints {w : World} {ops : Array Oper} {rest : List Oper} {o : Oper} {a : Act} {Q : Exit → Act → World → Prop} (hgd : o.guard = none) (s x : Operand)
    (ho : o.op = .call { callee := .builtin .append, args := #[s, x], argTypes := #[25, 25] })
    (base : Nat) (v : Value) (u l : List Int) (hs : a.eval s = v) (hown : w.ownsRow base 3 1 v u.length (u.map (Value.int .i64))) (p : Option Addr) (c : Nat) (hx : a.eval x = .slice p l.length c) (hB : IntsAt w p l) (hnil : p = none → c = 0)
    (hb : u.length + l.length ≤ 17592186044416) (hbase : base ≤ w.heap.size)
    (hK : ∀ v' w', w'.ownsRow base 3 1 v' (u ++ l).length ((u ++ l).map (Value.int .i64)) → w.grownBy w' v.ownBlock → wpList Tryz.prog ops Q rest (a.put o.dst v') w') : wpList Tryz.prog ops Q (o :: rest) a w :=
  wpList_plain hgd fun _ hK' => wp_append_ints s x ho base v u l hs hown p c hx hB hnil hb hbase fun v' w' h1 h2 => hK' _ _ (hK v' w' h1 h2)

theorem step_append_ints {w : World} {ops : Array Oper} {o : Oper} {a : Act} {K : Act → World → Prop} {Q : Exit → Act → World → Prop} {E : Prop} (hgd : o.guard = none) (s x : Operand)
    (ho : o.op = .call { callee := .builtin .append, args := #[s, x], argTypes := #[25, 25] })
    (base : Nat) (v : Value) (u l : List Int) (hs : a.eval s = v) (hown : w.ownsRow base 3 1 v u.length (u.map (Value.int .i64))) (p : Option Addr) (c : Nat) (hx : a.eval x = .slice p l.length c) (hB : IntsAt w p l) (hnil : p = none → c = 0)
    (hb : u.length + l.length ≤ 17592186044416) (hbase : base ≤ w.heap.size)
    (hK : ∀ v' w', w'.ownsRow base 3 1 v' (u ++ l).length ((u ++ l).map (Value.int .i64)) → w.grownBy w' v.ownBlock → K (a.put o.dst v') w') :
    if Region.wanted o (yielded ops a.tmps) = true then Oper.wp Tryz.prog o a w K Q else E := by
  have hw : Region.wanted o (yielded ops a.tmps) = true := by simp [Region.wanted, hgd]
  rw [if_pos hw]
  exact wp_append_ints s x ho base v u l hs hown p c hx hB hnil hb hbase hK

theorem ints_one {w : World} (x : Int) : IntsAt (w.alloc (.cells #[.int .i64 x] 3)) (some ⟨w.heap.size, 0, none⟩) [x] := fun _ => ⟨w.heap.size, 0, rfl, fun i hi => by
  match i, hi with
  | 0, _ => simp [go_sem]⟩

theorem owns_intsN {w : World} {base n : Nat} {v : Value} {l : List Int} (hn : l.length = n) (h : w.ownsRow base 3 1 v n (l.map (Value.int .i64))) : ∃ p cap, v = .slice p n cap ∧ IntsAt w p l ∧ (p = none → cap = 0) := by
  subst hn; exact owns_ints h
theorem IntsAt.grown {w w1 : World} {row : Option Nat} {b : Nat} {l : List Int} (h : IntsAt w (some ⟨b, 0, none⟩) l) (hg : w.grownBy w1 row) (hne : some b ≠ row) : IntsAt w1 (some ⟨b, 0, none⟩) l := by
  intro h0
  obtain ⟨b', o', e, hc⟩ := h h0
  cases e
  exact ⟨b, 0, rfl, fun i hi => hg.cell (hc i hi) hne⟩

/-- The first numbers. -/
def upto (k : Nat) : List Int := (List.range k).map (fun i : Nat => (i : Int))
theorem upto_succ (k : Nat) : upto (k + 1) = upto k ++ [(k : Int)] := by simp [upto, List.range_succ]
theorem upto_len (k : Nat) : (upto k).length = k := by simp [upto]
theorem upto_no (k : Nat) (e : Int) (h : (k : Int) ≤ e) : (upto k).any (noLit e) = false := by
  rw [List.any_eq_false]
  intro x hx
  obtain ⟨i, hi, rfl⟩ := List.mem_map.1 hx
  have := List.mem_range.1 hi
  simp [noLit]
  omega

end Go.Proofs.YtabnimgpednhjabGreat.Gg
