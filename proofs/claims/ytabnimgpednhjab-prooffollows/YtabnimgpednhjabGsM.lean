/- Gates: what a graph is that comes in; lists of numbers, and of bools. -/
import Derived.Test.YtabnimgpednhjabRows
import Derived.Test.YtabnimgpednhjabGo
import Derived.ProofKit
import Derived.SizedLaws
import Derived.OpenShut
import Derived.ChangeOld
import Derived.Below
import Derived.Deep.Slices
namespace Go.Proofs.Ytabnimgpednhjab
open Go.ChangeShapes Go.WideShapes Go.ChangeAt Go.RowKit Go.Deep
set_option maxRecDepth 100000

theorem own : ownKnob Try.prog.godebug = none := by kernel_rfl
theorem laidOut : laidOutB Try.prog = true := by kernel_rfl
theorem cells3 : Try.prog.cellsOf 3 = 1 := by kernel_rfl
theorem cells4 : Try.prog.cellsOf 4 = 1 := by kernel_rfl
theorem cells22 : Try.prog.cellsOf 22 = 1 := by kernel_rfl
theorem cells24 : Try.prog.cellsOf 24 = 2 := by kernel_rfl
theorem cells55 : Try.prog.cellsOf 69 = 2 := by kernel_rfl
theorem bytes3 : Try.prog.bytesOf 3 = 8 := by kernel_rfl
theorem bytes4 : Try.prog.bytesOf 4 = 1 := by kernel_rfl
theorem bytes55 : Try.prog.bytesOf 69 = 16 := by kernel_rfl

theorem wf_of {n : Int} (h : (Lit.int .i64 n).wf = true) : Wf n := by
  unfold Lit.wf at h
  simp only [Bool.and_eq_true, decide_eq_true_eq] at h
  exact ⟨h.1, h.2⟩

section
variable {H : Type} {enc : TypeId × Value → H} {W : World} {base : Nat} {sp : Nat → Bool} {held : Bool} {fuel : Nat} {v : Value} {x : DataW H × List MemPlace}

theorem weigh {t e : TypeId} {es ss : List (DataW H)} (hu : Try.prog.underlying t = some (.slice e)) (h : ((DataW.slice es ss).weights Try.prog t).all (· ≤ reachBytes) = true) : es.length * Try.prog.bytesOf e ≤ reachBytes := by
  have h1 := List.all_eq_true.1 h ((es.length + ss.length) * Try.prog.bytesOf e) (by simp [DataW.weights, hu])
  have h2 : (es.length + ss.length) * Try.prog.bytesOf e ≤ reachBytes := by simpa using h1
  exact Nat.le_trans (Nat.mul_le_mul_right _ (Nat.le_add_right _ _)) h2

theorem in_ints (h : DataW.trod enc Try.prog W base sp held fuel 36 [v] = some x) :
    ∃ p c l, v = .slice p (List.length l) c ∧ IntsAt W p l ∧ ((x.1.weights Try.prog 36).all (· ≤ reachBytes) = true → l.length ≤ 17592186043904) := by
  rcases open_ints Try.underlying36 Try.underlying3 cells3 h with ⟨hcs, hx⟩ | ⟨a, len, cap, zs, hcs, _, hl, hm, hz, hx, hcell, _⟩
  · simp at hcs
    exact ⟨none, 0, [], hcs, fun h => by simp at h, fun _ => by simp⟩
  · simp at hcs
    have hlz : len ≤ zs.length := by rw [hz]; split <;> omega
    refine ⟨some a, cap, zs.take len, by rw [hcs, List.length_take, Nat.min_eq_left hlz], ?_, ?_⟩
    · intro h0
      rw [List.length_take, Nat.min_eq_left hlz] at h0
      obtain ⟨b, off, spot⟩ := a
      have hspot : spot = none := by simpa [Addr.add] using World.cell?_spot (hcell 0 (by omega))
      subst hspot
      refine ⟨b, off, rfl, fun i hi => ?_⟩
      have hi' : i < zs.length := by rw [List.length_take] at hi; omega
      have := hcell i hi'
      rw [Addr.add_lit] at this
      rw [this]
      simp [List.getD, List.getElem?_eq_getElem hi']
    · intro hw
      subst hx
      have := weigh Try.underlying36 hw
      rw [bytes3] at this
      simp only [lits, List.length_map, reachBytes] at this
      omega

theorem in_bools (h : DataW.trod enc Try.prog W base sp held fuel 35 [v] = some x) :
    ∃ p c l, v = .slice p (List.length l) c ∧ (p = none → c = 0) ∧ BoolsAt W p l ∧ l.length ≤ maxLen := by
  rcases open_slice1 Try.underlying35 cells4 h with ⟨hcs, hx⟩ | ⟨a, len, cap, m, n, V, D, Pl, hcs, _, hl, hm, hmm, hx, hcell⟩
  · simp at hcs
    exact ⟨none, 0, [], hcs, fun _ => rfl, fun h => by simp at h, by simp⟩
  · simp at hcs
    have hlm : len ≤ m := by rw [hmm]; split <;> omega
    obtain ⟨F, hF⟩ := choose_lt (α := Bool) (n := len) (p := fun i b => V i = .bool b) (fun i hi => by
      obtain ⟨b, h1, _⟩ := DataW.trod_bool Try.underlying4 (hcell i (by omega)).2
      exact ⟨b, by simpa using h1⟩)
    have hlen : ((List.range len).map F).length = len := by simp
    refine ⟨some a, cap, (List.range len).map F, by rw [hcs, hlen], (fun h => by cases h), ?_, by rw [hlen]; omega⟩
    intro h0
    rw [hlen] at h0
    obtain ⟨b, off, spot⟩ := a
    have hspot : spot = none := by simpa [Addr.add] using World.cell?_spot (hcell 0 (by omega)).1
    subst hspot
    refine ⟨b, off, rfl, fun i hi => ?_⟩
    have hi' : i < len := by rw [hlen] at hi; exact hi
    have := (hcell i (by omega)).1
    rw [Addr.add_lit, hF i hi'] at this
    rw [this, List.getElem_map, List.getElem_range]

theorem in_pairs (h : DataW.trod enc Try.prog W base sp held fuel 22 [v] = some x) :
    ∃ p c l, v = .slice p (List.length l) c ∧ (p = none → c = 0) ∧ PairsAt W p l ∧ WfP l ∧ ((x.1.weights Try.prog 22).all (· ≤ reachBytes) = true → l.length ≤ 8796093021952) := by
  rcases open_slice Try.underlying22 h with ⟨hcs, hx⟩ | ⟨a, len, cap, m, n, D, Pl, hcs, _, hl, hm, hmm, hx, hcell⟩
  · simp at hcs
    exact ⟨none, 0, [], hcs, fun _ => rfl, fun h => by simp at h, fun i h => by simp at h, fun _ => by simp⟩
  · simp at hcs
    have hlm : len ≤ m := by rw [hmm]; split <;> omega
    have key : ∀ i, i < len → ∃ q : Int × Int, W.cell? (a.add (i * 2 + 0)) = some (.int .i64 q.1) ∧ W.cell? (a.add (i * 2 + 1)) = some (.int .i64 q.2) ∧ Wf q.1 ∧ Wf q.2 := by
      intro i hi
      obtain ⟨cs, hc, ht⟩ := hcell i (by omega)
      rw [cells55] at hc
      obtain ⟨_, hlen, hat⟩ := World.cells?_some hc
      obtain ⟨y, q, _, _, _, hl2, hx2⟩ := DataW.trod_array Try.underlying69 ht
      match cs, hlen with
      | [w0, w1], _ =>
        have e0 := hx2 0 (by omega)
        have e1 := hx2 1 (by omega)
        rw [List.getElem?_eq_getElem (by omega)] at e0 e1
        obtain ⟨n0, h0, _, f0⟩ := DataW.trod_int Try.underlying3 e0
        obtain ⟨n1, h1, _, f1⟩ := DataW.trod_int Try.underlying3 e1
        simp [cells3] at h0 h1
        subst h0 h1
        have g : ∀ j, (a.add (i * 2)).add j = a.add (i * 2 + j) := fun j => Go.Deep.add_add _ _ _
        refine ⟨(n0, n1), ?_, ?_, wf_of f0, wf_of f1⟩
        · have := hat 0 (by omega); rw [g] at this; exact this
        · have := hat 1 (by omega); rw [g] at this; exact this
    obtain ⟨F, hF⟩ := choose_lt key
    have hlen : ((List.range len).map F).length = len := by simp
    refine ⟨some a, cap, (List.range len).map F, by rw [hcs, hlen], (fun h => by cases h), ?_, ?_, ?_⟩
    · intro h0
      rw [hlen] at h0
      obtain ⟨b, off, spot⟩ := a
      have hspot : spot = none := by simpa [Addr.add] using World.cell?_spot (hF 0 (by omega)).1
      subst hspot
      refine ⟨b, off, rfl, fun i hi => ?_⟩
      have hi' : i < len := by rw [hlen] at hi; exact hi
      obtain ⟨e0, e1, _⟩ := hF i hi'
      rw [Addr.add_lit] at e0 e1
      rw [List.getElem_map, List.getElem_range]
      exact ⟨e0, by rw [Nat.add_assoc]; exact e1⟩
    · intro i hi
      have hi' : i < len := by rw [hlen] at hi; exact hi
      rw [List.getElem_map, List.getElem_range]
      exact (hF i hi').2.2
    · intro hw
      subst hx
      have := weigh Try.underlying22 hw
      rw [bytes55] at this
      simp only [List.length_map, List.length_range, reachBytes] at this
      rw [hlen]
      omega

theorem two_cells {α : Type} {cs : Array α} (h : cs.size = 2) : ∃ c0 c1, cs = #[c0, c1] := by
  obtain ⟨l⟩ := cs
  match l, h with
  | [a, b], _ => exact ⟨a, b, rfl⟩

end

set_option maxRecDepth 100000 in
theorem in_graph {H : Type} {enc : TypeId × Value → H} {W : World} {r : Reach} {b0 base : Nat} {sp : Nat → Bool} {held : Bool} {v : Value} {d : DataW H} {p : List MemPlace}
    (hv : Value.okWide Try.prog W r b0 24 v) (h : DataW.Trod enc Try.prog W base sp held 24 v d p) :
    ∃ ins q c ps, v = gval ins q (List.length ps) c ∧ (q = none → c = 0) ∧ PairsAt W q ps ∧ WfP ps ∧ ((d.weights Try.prog 24).all (· ≤ reachBytes) = true → ps.length ≤ 8796093021952) := by
  obtain ⟨cs, rfl, hsz⟩ := okWide_struct Try.underlying24 hv
  obtain ⟨v0, v1, rfl⟩ := two_cells (hsz.trans cells24)
  obtain ⟨fuel, hf⟩ := h
  simp only [Value.cells] at hf
  obtain ⟨y, m, _, hxy, _, hl, hx⟩ := DataW.trod_struct Try.underlying24 hf
  have hl2 : y.length = 2 := hl
  match y, hl2 with
  | [y0, y1], _ =>
    have e0 := hx 0 _ rfl
    have e1 := hx 1 _ rfl
    simp [cells3] at e0
    simp [cells22] at e1
    obtain ⟨n0, g0, _⟩ := DataW.trod_int Try.underlying3 e0
    simp at g0
    subst g0
    obtain ⟨a1, c1, ps, rfl, N1, H1, F1, L1⟩ := in_pairs e1
    have hd : d = .agg [y0.1, y1.1] := by simpa using congrArg Prod.fst hxy
    refine ⟨n0, a1, c1, ps, rfl, N1, H1, F1, fun hs => L1 ?_⟩
    rw [hd] at hs
    simp only [DataW.weights, Try.underlying24, List.map_cons, List.map_nil, DataW.weightsEach, List.all_append, Bool.and_eq_true] at hs
    exact hs.2.1

end Go.Proofs.Ytabnimgpednhjab

namespace Go.Proofs.Ytabnimgpednhjab

theorem andAt_app (ps : List (Int × Int)) (p : Int × Int) (k : Nat) (h : k ≤ ps.length) (x : Int × Int) : andAt (ps ++ [p]) k x = andAt ps k x := by
  unfold andAt
  rw [List.take_append_of_le_length h]
theorem getD_app (ps : List (Int × Int)) (p : Int × Int) (k : Nat) (h : k < ps.length) : (ps ++ [p])[k]? = ps[k]? := List.getElem?_append_left h
theorem stN_app (ins : Int) (ps : List (Int × Int)) (p : Int × Int) (k : Nat) (h : k ≤ ps.length) : stN ins (ps ++ [p]) k = stN ins ps k := by
  induction k with
  | zero => rfl
  | succ k ih => simp only [stN]; rw [ih (by omega), getD_app ps p k (by omega)]
theorem dupN_app (ps : List (Int × Int)) (p : Int × Int) (k : Nat) (h : k ≤ ps.length) : dupN (ps ++ [p]) k = dupN ps k := by
  induction k with
  | zero => rfl
  | succ k ih =>
    simp only [dupN]
    rw [ih (by omega), getD_app ps p k (by omega)]
    cases ps[k]? with
    | none => rfl
    | some q => simp only []; rw [andAt_app ps p k (by omega)]
theorem nodesV_app (bs : List Bool) (ps : List (Int × Int)) (p : Int × Int) (k : Nat) (h : k ≤ ps.length) : nodesV bs (ps ++ [p]) k = nodesV bs ps k := by
  induction k with
  | zero => rfl
  | succ k ih => simp only [nodesV]; rw [ih (by omega), getD_app ps p k (by omega)]
theorem nodesV_pre (bs : List Bool) (ps : List (Int × Int)) {i k : Nat} (h : i ≤ k) : ∃ t, nodesV bs ps k = nodesV bs ps i ++ t := by
  induction k with
  | zero => obtain rfl : i = 0 := by omega
            exact ⟨[], by simp⟩
  | succ k ih =>
    by_cases e : i = k + 1
    · subst e; exact ⟨[], by simp⟩
    · obtain ⟨t, ht⟩ := ih (by omega)
      simp only [nodesV]
      rw [ht, List.append_assoc]
      exact ⟨_, rfl⟩
theorem litV_app (v t : List Bool) (x : Int) (h0 : 0 ≤ x) (hx : x < 2 * v.length) : litV (v ++ t) x = litV v x := by
  unfold litV
  congr 1
  rw [List.getD_eq_getElem?_getD, List.getD_eq_getElem?_getD, List.getElem?_append_left (by omega)]

theorem chk_keep {ins : Int} {ps : List (Int × Int)} (hc : chkE ins ps = 0) {x y : Int} (hx : 0 ≤ x) (hxy : x ≤ y) (hy : y < 2 * (1 + ins + ps.length)) (hok : makOk ps x y = true) : chkE ins (makPs ps x y) = 0 := by
  obtain ⟨h0, h1, hlen, hst, hd⟩ := chk_zero hc
  by_cases c1 : x = 0 ∨ x = turn y
  · rw [(mak_no (ins := ins) c1).2.2]; exact hc
  by_cases c2 : x = 1 ∨ x = y
  · rw [(mak_one (ins := ins) c1 c2).2.2]; exact hc
  rw [(mak_add (ins := ins) c1 c2).2.1] at hok
  rw [(mak_add (ins := ins) c1 c2).2.2]
  unfold addPs
  by_cases c3 : 0 ≤ andAt ps ps.length (x, y)
  · rw [if_pos c3]; exact hc
  have c4 : ps.length < 1000000 := by simpa [addOk, c3] using hok
  rw [if_neg c3, if_neg (by omega)]
  have hlast : (ps ++ [(x, y)])[ps.length]? = some (x, y) := by simp
  have c5 : ¬ x / 2 = y / 2 := fun h => c1 (Or.inr (turn_iff.2 ⟨h, fun e => c2 (Or.inr e)⟩))
  refine chk_ok (btw_true.2 ⟨h0, h1⟩) (by simp; omega) ?_ ?_
  · rw [List.length_append]
    show stN ins (ps ++ [(x, y)]) (ps.length + 1) = true
    simp only [stN]
    rw [stN_app ins ps _ _ (Nat.le_refl _), hst, hlast]
    simp [standB]
    omega
  · rw [List.length_append]
    show dupN (ps ++ [(x, y)]) (ps.length + 1) = false
    simp only [dupN]
    rw [dupN_app ps _ _ (Nat.le_refl _), hd, hlast]
    simp only []
    rw [andAt_app ps _ _ (Nat.le_refl _)]
    simpa using c3

theorem len_keep (ps : List (Int × Int)) (x y : Int) : ps.length ≤ (makPs ps x y).length := by
  unfold makPs addPs
  split
  · omega
  split
  · omega
  split
  · omega
  split
  · omega
  · simp

theorem nodes_keep (bs : List Bool) (ps : List (Int × Int)) (x y : Int) : ∃ t, nodesV bs (makPs ps x y) (makPs ps x y).length = nodesV bs ps ps.length ++ t := by
  unfold makPs addPs
  split
  · exact ⟨[], by simp⟩
  split
  · exact ⟨[], by simp⟩
  split
  · exact ⟨[], by simp⟩
  split
  · exact ⟨[], by simp⟩
  · rw [List.length_append]
    show ∃ t, nodesV bs (ps ++ [(x, y)]) (ps.length + 1) = _
    simp only [nodesV]
    rw [nodesV_app bs ps _ _ (Nat.le_refl _)]
    exact ⟨_, rfl⟩

theorem litV_zero (bs : List Bool) (ps : List (Int × Int)) (k : Nat) : litV (nodesV bs ps k) 0 = false ∧ litV (nodesV bs ps k) 1 = true := by
  obtain ⟨t, ht⟩ := nodesV_pre bs ps (Nat.zero_le k)
  rw [ht]
  constructor <;> simp [litV, nodesV, odd]

theorem litV_turn (v : List Bool) (y : Int) : litV v (turn y) = !litV v y := by
  unfold litV turn
  cases ho : odd y
  · have e : y % 2 = 0 := by simp [odd] at ho; omega
    simp only [Bool.false_eq_true, if_false]
    have e2 : odd (y + 1) = true := by simp [odd]; omega
    have e3 : (y + 1) / 2 = y / 2 := by omega
    rw [e2, e3]
    cases v.getD (y / 2).toNat false <;> rfl
  · have e : y % 2 = 1 := by simpa [odd] using ho
    simp only [if_true]
    have e2 : odd (y - 1) = false := by simp [odd]; omega
    have e3 : (y - 1) / 2 = y / 2 := by omega
    rw [e2, e3]
    cases v.getD (y / 2).toNat false <;> rfl

theorem andAt_is {ps : List (Int × Int)} {n : Nat} {x : Int × Int} (h : 0 ≤ andAt ps n x) : ∃ i : Nat, andAt ps n x = i ∧ ∃ (hi : i < ps.length), i < n ∧ ps[i] = x := by
  unfold andAt at *
  cases e : (ps.take n).findIdx? (· == x) with
  | none => rw [e] at h; simp at h
  | some i =>
    rw [List.findIdx?_eq_some_iff_getElem] at e
    obtain ⟨h1, h2, _⟩ := e
    rw [List.length_take] at h1
    rw [List.getElem_take] at h2
    exact ⟨i, rfl, by omega, by omega, by simpa using h2⟩

theorem lit_even (v : List Bool) (n : Nat) (h : n < v.length) : litV v (2 * (n : Int)) = v[n] := by
  unfold litV
  have e1 : odd (2 * (n : Int)) = false := by simp [odd]
  have e2 : (2 * (n : Int)) / 2 = n := by omega
  rw [e1, e2, Int.toNat_natCast, getD_bools h]
  cases v[n] <;> rfl

theorem node_is (bs : List Bool) (ps : List (Int × Int)) (hst : stN bs.length ps ps.length = true) (i : Nat) (hi : i < ps.length) :
    litV (nodesV bs ps ps.length) (2 * (1 + (bs.length : Int) + i)) = (litV (nodesV bs ps ps.length) ps[i].1 && litV (nodesV bs ps ps.length) ps[i].2) := by
  have hs : standB ps[i].1 ps[i].2 (1 + bs.length + i) = true := by
    have := stN_down (k := i + 1) hst (by omega)
    rw [stN_succ hi, Bool.and_eq_true] at this
    exact this.2
  obtain ⟨a0, a1, b0, b1⟩ := stand_bd hs
  have hl := nodesV_len bs ps i
  obtain ⟨t, ht⟩ := nodesV_pre bs ps (show i + 1 ≤ ps.length by omega)
  rw [ht, nodesV_succ hi, List.append_assoc]
  have e : (2 * (1 + (bs.length : Int) + i)) = 2 * ((1 + bs.length + i : Nat) : Int) := by omega
  rw [e, lit_even _ _ (by simp [hl]), litV_app _ _ _ a0 (by rw [hl]; omega), litV_app _ _ _ b0 (by rw [hl]; omega)]
  rw [List.getElem_append_right (by omega)]
  simp [hl]

theorem keep_lit (ps : List (Int × Int)) (bs : List Bool) (hc : chkE bs.length ps = 0) {x y : Int} (hx : 0 ≤ x) (hxy : x ≤ y) (hy : y < 2 * (1 + (bs.length : Int) + ps.length)) (hok : makOk ps x y = true) :
    litV (nodesV bs (makPs ps x y) (makPs ps x y).length) (makLit bs.length ps x y) = (litV (nodesV bs ps ps.length) x && litV (nodesV bs ps ps.length) y) := by
  obtain ⟨h0, h1, hlen, hst, hd⟩ := chk_zero hc
  by_cases c1 : x = 0 ∨ x = turn y
  · rw [(mak_no (ins := bs.length) c1).1, (mak_no (ins := bs.length) c1).2.2, (litV_zero bs ps _).1]
    rcases c1 with c1 | c1
    · rw [c1, (litV_zero bs ps _).1]; rfl
    · rw [c1, litV_turn _ _]; cases litV (nodesV bs ps ps.length) y <;> rfl
  by_cases c2 : x = 1 ∨ x = y
  · rw [(mak_one (ins := bs.length) c1 c2).1, (mak_one (ins := bs.length) c1 c2).2.2]
    rcases c2 with c2 | c2
    · rw [c2, (litV_zero bs ps _).2]; rfl
    · rw [c2]; cases litV (nodesV bs ps ps.length) y <;> rfl
  rw [(mak_add (ins := bs.length) c1 c2).2.1] at hok
  have hk := chk_keep hc hx hxy hy (by rw [(mak_add (ins := bs.length) c1 c2).2.1]; exact hok)
  rw [(mak_add (ins := bs.length) c1 c2).2.2] at hk ⊢
  rw [(mak_add (ins := bs.length) c1 c2).1]
  unfold addPs addLit at *
  by_cases c3 : 0 ≤ andAt ps ps.length (x, y)
  · rw [if_pos c3, if_pos c3]
    obtain ⟨i, e1, hi, _, e2⟩ := andAt_is c3
    rw [e1, node_is bs ps hst i hi, e2]
  have c4 : ps.length < 1000000 := by simpa [addOk, c3] using hok
  rw [if_neg c3, if_neg (by omega)] at hk ⊢
  rw [if_neg c3, if_neg (by omega)]
  obtain ⟨_, _, _, hst2, _⟩ := chk_zero hk
  have := node_is bs (ps ++ [(x, y)]) hst2 ps.length (by simp)
  rw [this, List.getElem_append_right (Nat.le_refl _)]
  simp only [Nat.sub_self, List.getElem_cons_zero]
  have hl := nodesV_len bs ps ps.length
  have hn : nodesV bs (ps ++ [(x, y)]) (ps ++ [(x, y)]).length = nodesV bs ps ps.length ++ [litV (nodesV bs ps ps.length) x && litV (nodesV bs ps ps.length) y] := by
    rw [List.length_append]
    show nodesV bs (ps ++ [(x, y)]) (ps.length + 1) = _
    rw [nodesV_succ (by simp), nodesV_app bs ps _ _ (Nat.le_refl _), List.getElem_append_right (Nat.le_refl _)]
    simp
  rw [hn, litV_app _ _ x hx (by rw [hl]; omega), litV_app _ _ y (by omega) (by rw [hl]; omega)]

theorem lit_keep_bd {ins : Int} {ps : List (Int × Int)} (h0 : 0 ≤ ins) {x y : Int} (hx : 0 ≤ x) (hxy : x ≤ y) (hy : y < 2 * (1 + ins + ps.length)) (hok : makOk ps x y = true) : 0 ≤ makLit ins ps x y ∧ makLit ins ps x y < 2 * (1 + ins + (makPs ps x y).length) := by
  by_cases c1 : x = 0 ∨ x = turn y
  · rw [(mak_no (ins := ins) c1).1, (mak_no (ins := ins) c1).2.2]; omega
  by_cases c2 : x = 1 ∨ x = y
  · rw [(mak_one (ins := ins) c1 c2).1, (mak_one (ins := ins) c1 c2).2.2]; omega
  rw [(mak_add (ins := ins) c1 c2).2.1] at hok
  rw [(mak_add (ins := ins) c1 c2).1, (mak_add (ins := ins) c1 c2).2.2]
  unfold addPs addLit
  by_cases c3 : 0 ≤ andAt ps ps.length (x, y)
  · rw [if_pos c3, if_pos c3]
    obtain ⟨i, e1, hi, _⟩ := andAt_is c3
    rw [e1]; omega
  have c4 : ps.length < 1000000 := by simpa [addOk, c3] using hok
  rw [if_neg c3, if_neg c3, if_neg (by omega), if_neg (by omega), List.length_append]
  simp
  omega

theorem ande_zero {ins : Int} {ps : List (Int × Int)} {a b : Int} (h : andE ins ps a b = 0) : chkE ins ps = 0 ∧ 0 ≤ a ∧ a < 2 * (1 + ins + ps.length) ∧ 0 ≤ b ∧ b < 2 * (1 + ins + ps.length) ∧ andOk ps a b = true := by
  unfold andE at h
  by_cases c : chkE ins ps = 0
  · rw [if_neg (by simpa using c)] at h
    split at h
    · cases h
    rename_i c2
    split at h
    · cases h
    rename_i c3
    have c2' : [a, b].any (noLit (2 * (1 + ins + ps.length))) = false := by simpa using c2
    rw [two_any, Bool.or_eq_false_iff] at c2'
    simp [noLit] at c2'
    exact ⟨c, by omega, by omega, by omega, by omega, by simpa using c3⟩
  · rw [if_pos c] at h; exact absurd h c

end Go.Proofs.Ytabnimgpednhjab
