/- What a model is that passes Check: its numbers are small, and those that a node does not take are 0. -/
import Derived.Test.YtabnimgpednhjaaDoorJgM
import Derived.Test.YtabnimgpednhjaaDoorNeM
import Derived.Deep.RegionLaw
import Derived.Test.YtabnimgpednhjaaDoorKfM
import Derived.Test.YtabnimgpednhjaaDoorJkM
namespace Go.Proofs.YtabnimgpednhjaaDoor
open Go.RowKit
set_option maxRecDepth 100000

structure NdOk (i : Nat) (x : Ev.Nd) : Prop where
  kind : 1 ≤ x.kind ∧ x.kind ≤ 23
  width : 1 ≤ x.width ∧ x.width ≤ 8
  a : if 0 < Ev.takes x.kind then 0 ≤ x.a ∧ x.a < i else x.a = 0
  b : if 1 < Ev.takes x.kind then 0 ≤ x.b ∧ x.b < i else x.b = 0
  c : if 2 < Ev.takes x.kind then 0 ≤ x.c ∧ x.c < i else x.c = 0
  n : if hasN x.kind = true then 0 ≤ x.n ∧ x.n < 256 else x.n = 0
theorem badOn_no {t i num x : Int} (h : Ev.badOn t i num x = false) : if i < t then 0 ≤ x ∧ x < num else x = 0 := by
  unfold Ev.badOn at h
  split at h
  · rename_i h1
    rw [if_pos h1]
    simp at h
    omega
  · rename_i h1
    rw [if_neg h1]
    simpa using h
theorem two_le {v : Int} (h : 1 ≤ v ∧ v ≤ 8) : Ev.two v ≤ 256 := by
  rcases Ev.nine (w := v) (by omega) with rfl | rfl | rfl | rfl | rfl | rfl | rfl | rfl | rfl <;> decide
theorem fit_n {k own n a b c : Int} (h : Ev.fitE k own n a b c = 0) (h4 : 4 ≤ k) : if hasN k = true then 0 ≤ n ∧ n < 256 else n = 0 := by
  unfold Ev.fitE at h
  split at h
  · omega
  split at h
  · omega
  rename_i ho
  simp only [Bool.not_eq_false, Ev.btw_true] at ho
  split at h
  · omega
  rename_i hr
  split at h
  · omega
  rename_i hn
  split at h
  · rename_i hm
    by_cases hk : k = 21
    · subst hk
      rw [if_pos (by decide)]
      have hs : Ev.shape 21 = 6 := by decide
      rw [hs] at hm
      simp [Ev.metS, Ev.metOk, Ev.askOk] at hm
      simp [Ev.rngOk, Ev.takes, Ev.btw] at hr
      omega
    · rw [if_neg (by unfold hasN; simp; omega)]
      omega
  · omega
theorem node_facts {ns : List Ev.Nd} {i : Nat} {x : Ev.Nd} (h : Ev.nodeE ns i x = 0) : NdOk i x := by
  unfold Ev.nodeE at h
  split at h
  · omega
  rename_i h1
  split at h
  · omega
  rename_i h2
  simp only [Bool.not_eq_false, Ev.btw_true] at h1 h2
  split at h
  · rename_i h4
    unfold Ev.opE at h
    split at h
    · omega
    rename_i hb
    simp only [Bool.or_eq_true, not_or, Bool.not_eq_true] at hb
    exact ⟨h1, h2, badOn_no hb.1.1, badOn_no hb.1.2, badOn_no hb.2, fit_n h h4⟩
  · rename_i h4
    have ht : Ev.takes x.kind = 0 := by unfold Ev.takes; (repeat' split) <;> omega
    unfold Ev.leafE at h
    split at h
    · omega
    rename_i hc
    split at h
    · omega
    rename_i hn
    split at h
    · omega
    rename_i ha
    have hw := two_le h2
    refine ⟨h1, h2, by rw [ht]; simp; omega, by rw [ht]; simp; omega, by rw [ht]; simp; omega, ?_⟩
    by_cases h1k : x.kind = 1
    · rw [if_pos (by rw [h1k]; decide)]
      have : Ev.isW x.n x.width = true := by
        cases e : Ev.isW x.n x.width
        · exact absurd ⟨h1k, e⟩ hc
        · rfl
      rw [Ev.isW_iff] at this
      omega
    · rw [if_neg (by unfold hasN; simp; omega)]
      omega
theorem NdOk.ok {i : Nat} {x : Ev.Nd} (h : NdOk i x) (hi : i ≤ 80) : (toD x).ok := by
  obtain ⟨h1, h2, h3, h4, h5, h6⟩ := h
  intro j
  unfold Nd6.at' toD
  split
  · show _ ≤ ((x.kind.toNat : Nat) : Int) ∧ ((x.kind.toNat : Nat) : Int) ≤ _; omega
  · show _ ≤ x.width ∧ x.width ≤ _; omega
  · show _ ≤ x.a ∧ x.a ≤ _; split at h3 <;> omega
  · show _ ≤ x.b ∧ x.b ≤ _; split at h4 <;> omega
  · show _ ≤ x.c ∧ x.c ≤ _; split at h5 <;> omega
  · show _ ≤ x.n ∧ x.n ≤ _; split at h6 <;> omega
structure MdOk (ns : List Ev.Nd) (is xs : List (Int × Int)) (bs hs : List Int) : Prop where
  len : ns.length ≤ 80 ∧ is.length ≤ 80 ∧ xs.length ≤ 80 ∧ bs.length ≤ 8 ∧ hs.length ≤ 8
  ns : ∀ (i : Nat) (h : i < ns.length), NdOk i ns[i]
  is : ∀ p ∈ is, (0 ≤ p.1 ∧ p.1 < 80) ∧ 0 ≤ p.2 ∧ p.2 < 80
  xs : ∀ p ∈ xs, (0 ≤ p.1 ∧ p.1 < 80) ∧ 0 ≤ p.2 ∧ p.2 < 80
  bs : ∀ n ∈ bs, 0 ≤ n ∧ n < 80
  hs : ∀ n ∈ hs, 0 ≤ n ∧ n < 80
theorem model_facts {ns : List Ev.Nd} {is xs : List (Int × Int)} {bs hs : List Int} (h : Ev.checkE ns is xs bs hs = 0) : MdOk ns is xs bs hs := by
  obtain ⟨m1, m2, m3, m4, m5, m6, m7, m8⟩ := model_ok h
  obtain ⟨_, h4, h5, h6⟩ := Ev.check_zero h
  have hmk : (∀ n ∈ bs, 0 ≤ n ∧ n < 80) ∧ ∀ n ∈ hs, 0 ≤ n ∧ n < 80 := by
    unfold Ev.marksE at h6
    split at h6
    · omega
    split at h6
    · omega
    rename_i hb
    simp only [Bool.or_eq_true, not_or, List.any_eq_true, not_exists, not_and, Bool.not_eq_true, Bool.not_eq_false'] at hb
    refine ⟨fun n hn => ?_, fun n hn => ?_⟩
    · have := Ev.isN_true.1 (by simpa using hb.1 n hn); omega
    · have := Ev.isN_true.1 (by simpa using hb.2 n hn); omega
  refine ⟨⟨m1, m2, m3, m4, m5⟩, fun i hi => ?_, m7, m8, hmk.1, hmk.2⟩
  have hz := Ev.firstN_zero.1 h4 i hi
  rw [Ev.nodeAtE_at hi] at hz
  exact node_facts hz
theorem MdOk.ok {ns : List Ev.Nd} {is xs : List (Int × Int)} {bs hs : List Int} (h : MdOk ns is xs bs hs) : ∀ x ∈ ns, (toD x).ok := fun x hx => by
  obtain ⟨i, hi, rfl⟩ := List.getElem_of_mem hx
  exact (h.ns i hi).ok (by have := h.len.1; omega)
end Go.Proofs.YtabnimgpednhjaaDoor

namespace Go.Proofs.YtabnimgpednhjaaDoor.Ev
open Go.RowKit
set_option maxRecDepth 100000

def BoolsAt (w : World) (p : Option Addr) (l : List Bool) : Prop :=
  0 < l.length → ∃ b, p = some ⟨b, 0, none⟩ ∧ ∀ (i : Nat) (h : i < l.length), w.cell? ⟨b, i, none⟩ = some (.bool l[i])

theorem BoolsAt.later {w w1 : World} {p : Option Addr} {l : List Bool} (h : BoolsAt w p l) (hb : Below w.heap.size w w1) : BoolsAt w1 p l := by
  intro h0
  obtain ⟨b, hp, hc⟩ := h h0
  exact ⟨b, hp, fun i hi => cell_later hb (hc i hi)⟩

theorem owns_bools {w : World} {base : Nat} {v : Value} {l : List Bool} (h : w.ownsRow base 4 1 v l.length (l.map Value.bool)) : ∃ p cap, v = .slice p l.length cap ∧ BoolsAt w p l := by
  obtain ⟨h1, h2⟩ := h
  rcases h2 with ⟨rfl, h0⟩ | ⟨g, cap, cur, rfl, hg, hh, hn, hm, hs, ht⟩
  · refine ⟨none, 0, by rw [h0], fun h => by omega⟩
  · refine ⟨_, cap, rfl, fun _ => ⟨g, rfl, fun i hi => ?_⟩⟩
    have h3 : w.ownsRow base 4 1 (.slice (some ⟨g, 0, none⟩) l.length cap) l.length (l.map Value.bool) := ⟨h1, .inr ⟨g, cap, cur, rfl, hg, hh, hn, hm, hs, ht⟩⟩
    have := h3.cellAt i (by omega)
    simpa [hi] using this

theorem ownsB_later {w w' : World} {base : Nat} {v : Value} {l : List Bool} {o o2 : Obj} {x : Bool} {u : Value} (hu : w.ownsRow base 4 1 u l.length (l.map Value.bool))
    (hown : w'.ownsRow base 4 1 v (l.length + 1) (l.map Value.bool ++ [.bool x])) (hg : ((w.alloc o).alloc o2).grownBy w' u.ownBlock) {w0 : World} (hb : Below base w0 w) (hB : base ≤ w.heap.size) :
    w'.ownsRow base 4 1 v (l ++ [x]).length ((l ++ [x]).map Value.bool) ∧ Below base w0 w' := by
  refine ⟨by simpa using hown, ((hb.alloc hB o).alloc (by simp; omega) o2).grown hg (by simp; omega) (fun j hj => (hu.lt j hj).1)⟩

theorem getD_cell {w : World} {b : Nat} {l : List Bool} (hc : ∀ (i : Nat) (h : i < l.length), w.cell? ⟨b, i, none⟩ = some (.bool l[i])) (x : Int) (h0 : 0 ≤ x) (h1 : x < l.length) :
    w.cell? ⟨b, x.toNat, none⟩ = some (.bool (l.getD x.toNat false)) := by
  rw [hc x.toNat (by omega)]
  simp [List.getD, List.getElem?_eq_getElem (show x.toNat < l.length from by omega)]

end Go.Proofs.YtabnimgpednhjaaDoor.Ev

namespace Go.Proofs.YtabnimgpednhjaaDoor.Ev
open Go.RowKit
set_option maxRecDepth 100000

theorem step_append_ints {ops : Array Oper} {o : Oper} {a : Act} {w : World} {K : Act → World → Prop} {Q : Exit → Act → World → Prop} {E : Prop}
    (hg : o.guard = none) (s x : Operand) (hop : o.op = Op.call { callee := Callee.builtin Builtin.append, args := #[s, x], argTypes := #[24, 24] })
    (base : Nat) (v : Value) (l0 : List Int) (hs : a.eval s = v) (hown : w.ownsRow base 3 1 v l0.length (l0.map (Value.int .i64))) (p : Option Addr) (c : Nat) (l : List Int) (hx : a.eval x = .slice p l.length c) (hI : IntsAt w p l) (hnil : p = none → c = 0)
    (hb : l0.length + l.length ≤ 1000) (hbase : base ≤ w.heap.size)
    (hK : ∀ v' w', w'.ownsRow base 3 1 v' (l0 ++ l).length ((l0 ++ l).map (Value.int .i64)) → w.grownBy w' v.ownBlock → K (a.put o.dst v') w') :
    if Region.wanted o (yielded ops a.tmps) = true then Oper.wp Tryd.prog o a w K Q else E := by
  obtain ⟨i0, hi, hz0, hz1, hz2⟩ := info_parts info3
  have hw : Region.wanted o (yielded ops a.tmps) = true := by simp [Region.wanted, hg]
  rw [if_pos hw]
  cases p with
  | none =>
    have h0 : l = [] := by
      cases l with
      | nil => rfl
      | cons a t => obtain ⟨b, off, h, _⟩ := hI (by simp); cases h
    subst h0
    obtain rfl := hnil rfl
    have hrun := run_append_owned_none (P := Tryd.prog) (w := w) base 24 o.type 3 i0 1 Tryd.underlying24 hi v l0.length _ hown
    unfold Oper.wp
    simp only [List.length_nil] at hx
    simp [execOp, hop, resolve, invoke, builtin, hs, hx, hrun, Result.andThen]
    exact hK v w (by simpa using hown) ⟨rfl, rfl, rfl, Nat.le_refl _, fun _ _ _ => rfl⟩
  | some ad =>
    refine wp_append_own w s x 24 hop base 3 i0 (.int .i64 0) 1 8 Tryd.underlying24 hi hz0 hz1 hz2 rfl (by decide) v l0.length _ hs hown ad l.length c (l.map (Value.int .i64)) hx (by simp) ?_ ?_ (by unfold maxLen; omega) (by omega) hbase (fun v' w' a b _ => hK v' w' (by simpa using a) b)
    · intro j u hj
      obtain ⟨hjl, hju⟩ := List.getElem?_eq_some_iff.1 hj
      have hjl' : j < l.length := by simpa using hjl
      obtain ⟨b, off, h, hc⟩ := hI (by omega)
      cases h
      rw [Addr.add_lit, hc j hjl', ← hju]
      simp
    · intro u hu
      obtain ⟨x, _, rfl⟩ := List.mem_map.1 hu
      rfl

theorem btw_isN (len : Nat) (s : Int) : btw s 0 ((len : Int) - 1) = isN len s := by
  rw [Bool.eq_iff_iff, btw_true, isN_true]
  omega

theorem pairE_bad {ns : List Nd} {s x : Int} (h : isN ns.length s = false ∨ kdOf ns s ≠ 3 ∨ isN ns.length x = false) : pairE ns s x = 5 := by
  unfold pairE; rw [if_pos h]
theorem nextE_bad {ns : List Nd} {s x : Int} (h : isN ns.length s = false ∨ kdOf ns s ≠ 3 ∨ isN ns.length x = false) : nextE ns (s, x) = 5 := pairE_bad h
theorem initE_bad {ns : List Nd} {s x : Int} (h : isN ns.length s = false ∨ kdOf ns s ≠ 3 ∨ isN ns.length x = false) : initE ns (s, x) = 5 := by
  unfold initE; simp only; rw [pairE_bad h, if_pos (by omega)]

theorem pairs_hit1 {ns : List Nd} {is xs : List (Int × Int)} {e : Int} (h : firstE (initE ns) is = e) (he : e ≠ 0) : pairsE ns is xs = e := by
  unfold pairsE; rw [h, if_pos he]
theorem firstE_all {f : Int × Int → Int} {l : List (Int × Int)} (h : ∀ p ∈ l, f p = 0) : firstE f l = 0 := firstE_miss f l (fun _ hi => h _ (List.getElem_mem hi))
theorem pairs_hit2 {ns : List Nd} {is xs : List (Int × Int)} {e : Int} (h0 : ∀ p ∈ is, initE ns p = 0) (h : firstE (nextE ns) xs = e) (he : e ≠ 0) : pairsE ns is xs = e := by
  unfold pairsE; rw [firstE_all h0, if_neg (by simp), h, if_pos he]
theorem pairs_dup {ns : List Nd} {is xs : List (Int × Int)} (h0 : ∀ p ∈ is, initE ns p = 0) (h : ∀ p ∈ xs, nextE ns p = 0) : pairsE ns is xs = if dup (fsts is) || dup (fsts xs) then 6 else 0 := by
  unfold pairsE; rw [firstE_all h0, if_neg (by simp), firstE_all h, if_neg (by simp)]

theorem dup_step {l : List (Int × Int)} {k : Nat} (hk : k < l.length) (hd : dup (fsts (l.take k)) = false) (h : ∀ i (hi : i < l.length), i < k → l[i].1 ≠ l[k].1) : dup (fsts (l.take (k + 1))) = false := by
  rw [fsts_take l k hk, dup_snoc, hd, Bool.false_or]
  cases hc : (fsts (l.take k)).contains l[k].1
  · rfl
  · exfalso
    simp only [fsts, List.contains_iff_mem, List.mem_map] at hc
    obtain ⟨p, hp, he⟩ := hc
    obtain ⟨i, hi, rfl⟩ := List.getElem_of_mem hp
    rw [List.length_take] at hi
    rw [List.getElem_take] at he
    exact h i (by omega) (by omega) he

theorem dup_hit {l : List (Int × Int)} {k j : Nat} (hk : k < l.length) (hj : j < k) (h : l[k].1 = l[j].1) : dup (fsts l) = true := by
  have h1 : dup (fsts (l.take (k + 1))) = true := by
    rw [fsts_take l k hk, dup_snoc]
    have : (fsts (l.take k)).contains l[k].1 = true := by
      simp only [fsts, List.contains_iff_mem, List.mem_map]
      exact ⟨l[j], List.mem_take_iff_getElem.2 ⟨j, by omega, rfl⟩, h.symm⟩
    rw [this, Bool.or_true]
  have h2 : fsts l = fsts (l.take (k + 1)) ++ fsts (l.drop (k + 1)) := by
    unfold fsts; rw [← List.map_append, List.take_append_drop]
  rw [h2]
  exact dup_mono _ _ h1

/-- What is told once pairs have passed. -/
theorem marks_plain {ns : List Nd} {xs : List (Int × Int)} {bs hs : List Int} (hx : ∀ p ∈ xs, pairE ns p.1 p.2 = 0) (hd : dup (fsts xs) = false) :
    marksE ns xs bs hs = if xs.length ≠ (sel (isK ns 3) ns.length).length then 5 else if (bs ++ hs).any (fun x => !isN ns.length x) then 5 else if (bs ++ hs).any (fun x => wdOf ns x != 1) then 1 else 0 := by
  unfold marksE
  rw [← List.any_append, ← List.any_append]
  by_cases h : (sel (isK ns 3) ns.length).any (fun s => !hasSt s xs) = false
  · rw [h, if_neg (by simp), if_neg (show ¬ (xs.length ≠ (sel (isK ns 3) ns.length).length) from fun e => e ((pigeon hx hd).2 h))]
  · rw [if_pos (by simpa using h), if_pos (fun e => h ((pigeon hx hd).1 e))]

end Go.Proofs.YtabnimgpednhjaaDoor.Ev

namespace Go.Proofs.YtabnimgpednhjaaDoor
open Go.RowKit Go.Deep
set_option maxRecDepth 100000

end Go.Proofs.YtabnimgpednhjaaDoor
