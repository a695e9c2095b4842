/- What lies in memory while the plain text reads a model. -/
import Derived.Test.YtabnimgpednhjaaGreatDoorKkM
import Derived.Test.YtabnimgpednhjaaGreatDoorKd
import Derived.Test.YtabnimgpednhjaaGreatDoorNi
namespace Go.Proofs.YtabnimgpednhjaaGreatDoor
open Go.RowKit Go.Deep
set_option maxRecDepth 100000

theorem cutAll_len (s : ByteArray) (c : Int) : (cutAll s c).length ≤ s.size + 1 := by
  have := cutN_len s c s.size
  unfold cutAll
  simp
  omega
/-- What the plain text holds of a model while it is read. -/
structure Pm (w : World) (base R : Nat) (v0 v1 v2 v3 v4 : Value) (ns : List Ev.Nd) (is xs : List (Int × Int)) (bs hs : List Int) : Prop where
  c : w.heap[R]? = some (.cells #[v0, v1, v2, v3, v4] 26 (0, 0))
  r0 : w.ownsRow base 47 6 v0 ns.length (flatN ns)
  r1 : w.ownsRow base 58 2 v1 is.length (flatP is)
  r2 : w.ownsRow base 58 2 v2 xs.length (flatP xs)
  r3 : w.ownsRow base 3 1 v3 bs.length (bs.map (Value.int .i64))
  r4 : w.ownsRow base 3 1 v4 hs.length (hs.map (Value.int .i64))
  a12 : Apart v1 v2
  a34 : Apart v3 v4
  hR : base ≤ R
theorem Pm.later {w w' : World} {base R : Nat} {v0 v1 v2 v3 v4 : Value} {ns : List Ev.Nd} {is xs : List (Int × Int)} {bs hs : List Int} (h : Pm w base R v0 v1 v2 v3 v4 ns is xs bs hs) (hb : Below w.heap.size w w') : Pm w' base R v0 v1 v2 v3 v4 ns is xs bs hs :=
  ⟨(hb.block _ (Array.getElem?_eq_some_iff.1 h.c).1).trans h.c, own_belowG h.r0 hb, own_belowG h.r1 hb, own_belowG h.r2 hb, own_belowG h.r3 hb, own_belowG h.r4 hb, h.a12, h.a34, h.hR⟩
section putsP
variable {w w' : World} {base R : Nat} {v0 v1 v2 v3 v4 v' : Value} {ns : List Ev.Nd} {is xs : List (Int × Int)} {bs hs : List Int}
theorem Pm.put0 {ns' : List Ev.Nd} (h : Pm w base R v0 v1 v2 v3 v4 ns is xs bs hs) (hc : w'.heap[R]? = some (.cells ((#[v0, v1, v2, v3, v4] : Array Value).setIfInBounds 0 v') 26 (0, 0))) (hr : w'.ownsRow base 47 6 v' ns'.length (flatN ns')) (hk : Kept w w' R v0) : Pm w' base R v' v1 v2 v3 v4 ns' is xs bs hs :=
  ⟨hc, hr, own_kept h.r1 hk (ownBlock_neG h.r1 h.c (by decide)) (apart_kinds h.r1 h.r0 (by decide)), own_kept h.r2 hk (ownBlock_neG h.r2 h.c (by decide)) (apart_kinds h.r2 h.r0 (by decide)), own_kept h.r3 hk (ownBlock_neG h.r3 h.c (by decide)) (apart_kinds h.r3 h.r0 (by decide)), own_kept h.r4 hk (ownBlock_neG h.r4 h.c (by decide)) (apart_kinds h.r4 h.r0 (by decide)), h.a12, h.a34, h.hR⟩
theorem Pm.put1 {is' : List (Int × Int)} (h : Pm w base R v0 v1 v2 v3 v4 ns is xs bs hs) (hc : w'.heap[R]? = some (.cells ((#[v0, v1, v2, v3, v4] : Array Value).setIfInBounds 1 v') 26 (0, 0))) (hr : w'.ownsRow base 58 2 v' is'.length (flatP is')) (hk : Kept w w' R v1) (hat : v'.ownBlock = v1.ownBlock ∨ ∃ g, v'.ownBlock = some g ∧ w.heap.size ≤ g) : Pm w' base R v0 v' v2 v3 v4 ns is' xs bs hs :=
  ⟨hc, own_kept h.r0 hk (ownBlock_neG h.r0 h.c (by decide)) (apart_kinds h.r0 h.r1 (by decide)), hr, own_kept h.r2 hk (ownBlock_neG h.r2 h.c (by decide)) h.a12.symm, own_kept h.r3 hk (ownBlock_neG h.r3 h.c (by decide)) (apart_kinds h.r3 h.r1 (by decide)), own_kept h.r4 hk (ownBlock_neG h.r4 h.c (by decide)) (apart_kinds h.r4 h.r1 (by decide)), apart_new h.a12 h.r2 hat, h.a34, h.hR⟩
theorem Pm.put2 {xs' : List (Int × Int)} (h : Pm w base R v0 v1 v2 v3 v4 ns is xs bs hs) (hc : w'.heap[R]? = some (.cells ((#[v0, v1, v2, v3, v4] : Array Value).setIfInBounds 2 v') 26 (0, 0))) (hr : w'.ownsRow base 58 2 v' xs'.length (flatP xs')) (hk : Kept w w' R v2) (hat : v'.ownBlock = v2.ownBlock ∨ ∃ g, v'.ownBlock = some g ∧ w.heap.size ≤ g) : Pm w' base R v0 v1 v' v3 v4 ns is xs' bs hs :=
  ⟨hc, own_kept h.r0 hk (ownBlock_neG h.r0 h.c (by decide)) (apart_kinds h.r0 h.r2 (by decide)), own_kept h.r1 hk (ownBlock_neG h.r1 h.c (by decide)) h.a12, hr, own_kept h.r3 hk (ownBlock_neG h.r3 h.c (by decide)) (apart_kinds h.r3 h.r2 (by decide)), own_kept h.r4 hk (ownBlock_neG h.r4 h.c (by decide)) (apart_kinds h.r4 h.r2 (by decide)), (apart_new h.a12.symm h.r1 hat).symm, h.a34, h.hR⟩
theorem Pm.put3 {bs' : List Int} (h : Pm w base R v0 v1 v2 v3 v4 ns is xs bs hs) (hc : w'.heap[R]? = some (.cells ((#[v0, v1, v2, v3, v4] : Array Value).setIfInBounds 3 v') 26 (0, 0))) (hr : w'.ownsRow base 3 1 v' bs'.length (bs'.map (Value.int .i64))) (hk : Kept w w' R v3) (hat : v'.ownBlock = v3.ownBlock ∨ ∃ g, v'.ownBlock = some g ∧ w.heap.size ≤ g) : Pm w' base R v0 v1 v2 v' v4 ns is xs bs' hs :=
  ⟨hc, own_kept h.r0 hk (ownBlock_neG h.r0 h.c (by decide)) (apart_kinds h.r0 h.r3 (by decide)), own_kept h.r1 hk (ownBlock_neG h.r1 h.c (by decide)) (apart_kinds h.r1 h.r3 (by decide)), own_kept h.r2 hk (ownBlock_neG h.r2 h.c (by decide)) (apart_kinds h.r2 h.r3 (by decide)), hr, own_kept h.r4 hk (ownBlock_neG h.r4 h.c (by decide)) h.a34.symm, h.a12, apart_new h.a34 h.r4 hat, h.hR⟩
theorem Pm.put4 {hs' : List Int} (h : Pm w base R v0 v1 v2 v3 v4 ns is xs bs hs) (hc : w'.heap[R]? = some (.cells ((#[v0, v1, v2, v3, v4] : Array Value).setIfInBounds 4 v') 26 (0, 0))) (hr : w'.ownsRow base 3 1 v' hs'.length (hs'.map (Value.int .i64))) (hk : Kept w w' R v4) (hat : v'.ownBlock = v4.ownBlock ∨ ∃ g, v'.ownBlock = some g ∧ w.heap.size ≤ g) : Pm w' base R v0 v1 v2 v3 v' ns is xs bs hs' :=
  ⟨hc, own_kept h.r0 hk (ownBlock_neG h.r0 h.c (by decide)) (apart_kinds h.r0 h.r4 (by decide)), own_kept h.r1 hk (ownBlock_neG h.r1 h.c (by decide)) (apart_kinds h.r1 h.r4 (by decide)), own_kept h.r2 hk (ownBlock_neG h.r2 h.c (by decide)) (apart_kinds h.r2 h.r4 (by decide)), own_kept h.r3 hk (ownBlock_neG h.r3 h.c (by decide)) h.a34, hr, h.a12, (apart_new h.a34.symm h.r3 hat).symm, h.hR⟩
end putsP

theorem Pm.other {w : World} {base R : Nat} {v0 v1 v2 v3 v4 : Value} {ns : List Ev.Nd} {is xs : List (Int × Int)} {bs hs : List Int} (h : Pm w base R v0 v1 v2 v3 v4 ns is xs bs hs) {b : Nat} (hb : b < base) (o : Nat) (u : Value) : Pm (w.setCell ⟨b, o, none⟩ u) base R v0 v1 v2 v3 v4 ns is xs bs hs := by
  have hR := h.hR
  have key : ∀ {e : TypeId} {sz n : Nat} {v : Value} {l : List Value}, w.ownsRow base e sz v n l → (w.setCell ⟨b, o, none⟩ u).ownsRow base e sz v n l := fun hr => ownsRow_setCell_other hr (fun e => by have h2 : base ≤ b := (hr.lt _ e).1; omega) u
  exact ⟨(heap_setCell_other _ _ _ _ (show R ≠ b by omega)).trans h.c, key h.r0, key h.r1, key h.r2, key h.r3, key h.r4, h.a12, h.a34, hR⟩
theorem Pm.parts {w : World} {base R : Nat} {v0 v1 v2 v3 v4 : Value} {ns : List Ev.Nd} {is xs : List (Int × Int)} {bs hs : List Int} (h : Pm w base R v0 v1 v2 v3 v4 ns is xs bs hs) :
    ∃ a0 a1 a2 a3 a4 c0 c1 c2 c3 c4, v0 = .slice a0 ns.length c0 ∧ v1 = .slice a1 is.length c1 ∧ v2 = .slice a2 xs.length c2 ∧ v3 = .slice a3 bs.length c3 ∧ v4 = .slice a4 hs.length c4 ∧ (a3 = none → c3 = 0) ∧ (a4 = none → c4 = 0) ∧ Ev.NodesAt w a0 ns ∧ Ev.PairsAt w a1 is ∧ Ev.PairsAt w a2 xs ∧ Ev.IntsAt w a3 bs ∧ Ev.IntsAt w a4 hs := by
  have nilc : ∀ {l : List Int} {v : Value} {p : Option Addr} {n c : Nat}, w.ownsRow base 3 1 v l.length (l.map (Value.int .i64)) → v = .slice p n c → p = none → c = 0 := fun hr hv hp => by
    subst hp
    rcases hr.2 with ⟨h1, _⟩ | ⟨g, cap, cur, h1, _⟩
    · rw [h1] at hv; cases hv; rfl
    · rw [h1] at hv; cases hv
  obtain ⟨a0, c0, e0, n0⟩ := nodes_of h.r0
  obtain ⟨a1, c1, e1, n1⟩ := pairs_of h.r1
  obtain ⟨a2, c2, e2, n2⟩ := pairs_of h.r2
  obtain ⟨a3, c3, e3, n3⟩ := Ev.owns_ints h.r3
  obtain ⟨a4, c4, e4, n4⟩ := Ev.owns_ints h.r4
  exact ⟨a0, a1, a2, a3, a4, c0, c1, c2, c3, c4, e0, e1, e2, e3, e4, nilc h.r3 e3, nilc h.r4 e4, n0, n1, n2, n3, n4⟩
theorem Pm.model {w : World} {base R : Nat} {v0 v1 v2 v3 v4 : Value} {m : Md} (h : Pm w base R v0 v1 v2 v3 v4 m.ns m.is m.xs m.bs m.hs) : IsModel w (.agg #[v0, v1, v2, v3, v4]) m := by
  obtain ⟨a0, a1, a2, a3, a4, c0, c1, c2, c3, c4, rfl, rfl, rfl, rfl, rfl, -, -, h0, h1, h2, h3, h4⟩ := h.parts
  exact ⟨a0, a1, a2, a3, a4, c0, c1, c2, c3, c4, rfl, h0, h1, h2, h3, h4⟩
/-- The plain text holds a model. -/
def HoldsP (w : World) (R : Nat) (m : Md) : Prop := ∃ v0 v1 v2 v3 v4, Pm w R R v0 v1 v2 v3 v4 m.ns m.is m.xs m.bs m.hs
theorem HoldsP.later {w w' : World} {R : Nat} {m : Md} (h : HoldsP w R m) (hb : Below w.heap.size w w') : HoldsP w' R m := by
  obtain ⟨v0, v1, v2, v3, v4, h⟩ := h
  exact ⟨v0, v1, v2, v3, v4, h.later hb⟩
/-- What is so between two lines. -/
structure Pl (ls : List ByteArray) (w1 wr : World) (k : Nat) (m : Md) : Prop where
  holds : HoldsP wr w1.heap.size m
  bel : Below w1.heap.size w1 wr
  read : readP m (ls.drop k) (k + 1) = readP Md0 ls 1
  within : m.within k
/-- What sort a word is. -/
theorem sortB_ne : sortB 1 ≠ sortB 2 ∧ sortB 1 ≠ sortB 3 ∧ sortB 1 ≠ sortB 4 ∧ sortB 2 ≠ sortB 3 ∧ sortB 2 ≠ sortB 4 ∧ sortB 3 ≠ sortB 4 := by
  refine ⟨?_, ?_, ?_, ?_, ?_, ?_⟩ <;> (intro h; have := congrArg bl h; revert this; decide)
theorem sortN_iff {a : ByteArray} {j : Nat} (h : 1 ≤ j) (h4 : j ≤ 4) : sortN a = j ↔ a = sortB j := by
  obtain ⟨n1, n2, n3, n4, n5, n6⟩ := sortB_ne
  have : j = 1 ∨ j = 2 ∨ j = 3 ∨ j = 4 := by omega
  unfold sortN
  simp only [findW]
  constructor
  · intro e
    split at e
    · rename_i h1; subst e; exact h1.symm
    · split at e
      · rename_i h1; subst e; exact h1.symm
      · split at e
        · rename_i h1; subst e; exact h1.symm
        · split at e
          · rename_i h1; subst e; exact h1.symm
          · omega
  · rintro rfl
    rcases this with rfl | rfl | rfl | rfl
    · simp
    · rw [if_neg n1]; simp
    · rw [if_neg n2, if_neg n4]; simp
    · rw [if_neg n3, if_neg n5, if_neg n6]; simp
theorem cmp_yes {a : ByteArray} {l : List UInt8} (h : a = ⟨l.toArray⟩) : (a.toList == l) = true := by
  subst h
  rw [ByteArray.toList_eq]
  simp
theorem cmp_no {a : ByteArray} {l : List UInt8} (h : a ≠ ⟨l.toArray⟩) : (a.toList == l) = false := by
  rw [beq_eq_false_iff_ne]
  intro e
  rw [ByteArray.toList_eq] at e
  exact h (ba_eq (by rw [bl, e]))
theorem sort_cmp {a : ByteArray} {s : Nat} (hs : sortN a = s) : (a.toList == [105, 110, 105, 116]) = decide (s = 1) ∧ (a.toList == [110, 101, 120, 116]) = decide (s = 2) ∧ (a.toList == [98, 97, 100]) = decide (s = 3) ∧ (a.toList == [104, 111, 108, 100]) = decide (s = 4) := by
  subst hs
  have key : ∀ (j : Nat) (l : List UInt8), 1 ≤ j → j ≤ 4 → sortB j = ⟨l.toArray⟩ → (a.toList == l) = decide (sortN a = j) := fun j l h1 h4 hl => by
    by_cases h : sortN a = j
    · rw [decide_eq_true h, cmp_yes (((sortN_iff h1 h4).1 h).trans hl)]
    · rw [decide_eq_false h, cmp_no (fun e => h ((sortN_iff h1 h4).2 (e.trans hl.symm)))]
  exact ⟨key 1 _ (by omega) (by omega) rfl, key 2 _ (by omega) (by omega) rfl, key 3 _ (by omega) (by omega) rfl, key 4 _ (by omega) (by omega) rfl⟩
theorem kindW_le (ws : List ByteArray) : kindW ws ≤ 23 := by
  unfold kindW
  split
  · exact kindN_le _
  · omega
theorem drop_at {ls : List ByteArray} {k : Nat} (h : k < ls.length) : ls.drop k = ls[k] :: ls.drop (k + 1) := List.drop_eq_getElem_cons h
theorem drop_ne {ls : List ByteArray} {k : Nat} (h : k + 1 < ls.length) : ls.drop (k + 1) ≠ [] := fun e => by
  have := congrArg List.length e
  rw [List.length_drop] at this
  simp at this
  omega
theorem mem_le_sum {l : List (List UInt8)} {x : List UInt8} (h : x ∈ l) : x.length ≤ (l.map List.length).sum := by
  induction l with
  | nil => cases h
  | cons a l ih =>
    simp only [List.map_cons, List.sum_cons]
    rcases List.mem_cons.1 h with rfl | h
    · omega
    · have := ih h; omega
theorem piece_le {t x : ByteArray} (h : x ∈ cutAll t 10) : x.size ≤ t.size := by
  have h1 := splitL_len 10 (bl t)
  have h2 := mem_le_sum (l := splitL 10 (bl t)) (x := bl x) (by rw [← cut_split t 10]; exact List.mem_map.2 ⟨x, h, rfl⟩)
  have h3 : 0 < (splitL 10 (bl t)).length := List.length_pos_iff.2 (splitL_ne _ _)
  have e1 : t.size = (bl t).length := Lib.size_eq t
  have e2 : x.size = (bl x).length := Lib.size_eq x
  omega
theorem ints_oneP (w : World) (x : Int) : Ev.IntsAt (w.alloc (.cells #[.int .i64 x] 3)) (some ⟨w.heap.size, 0, none⟩) [x] := fun _ => ⟨w.heap.size, 0, rfl, fun i hi => by
  match i, hi with
  | 0, _ => simp [go_sem]⟩
end Go.Proofs.YtabnimgpednhjaaGreatDoor

namespace Go.Proofs.YtabnimgpednhjaaGreatDoor
open Go.RowKit Go.Deep
set_option maxRecDepth 100000
/-- The block of a number within a code. -/
def findBlock (n : Nat) : Code → Option Code
  | .block m b => if m = n then some (.block m b) else findBlock n b
  | .seq a b => match findBlock n a with | some c => some c | none => findBlock n b
  | .cond _ t e => match findBlock n t with | some c => some c | none => findBlock n e
  | .loop b => findBlock n b
  | _ => none
theorem blk7 (Q : Exit → Act → World → Prop) (a : Act) (w : World) (h : False) : Code.wp Tryz.prog ((((Tryz.f10.body).bind (findBlock 7)).getD .skip)) Q a w := by
  simp only [Tryz.f10, findBlock, Option.bind, Option.getD, Nat.reduceEqDiff, reduceIte]
  exact h.elim
end Go.Proofs.YtabnimgpednhjaaGreatDoor
