/- Cone: its contract. -/
import Derived.Test.YtabnimgpednhjaaDoorNkM
import Derived.Test.YtabnimgpednhjaaDoorJfM
namespace Go.Proofs.YtabnimgpednhjaaDoor.Ev
open Go.RowKit
set_option maxRecDepth 100000

/-- What Cone tells beside its list. -/
def coneE (ns : List Nd) (is xs : List (Int × Int)) (bs hs rs : List Int) : Int :=
  if checkE ns is xs bs hs ≠ 0 then checkE ns is xs bs hs else if rs.any (fun x => !isN ns.length x) then 5 else 0

/-- The list that Cone tells, beside its number. -/
def ConeIs (ns : List Nd) (is xs : List (Int × Int)) (rs : List Int) (co : Int) (l : List Int) : Prop := if co = 0 then ∃ S, l = sel S ns.length ∧ IsCone ns is xs rs S else l = []
theorem ConeIs.yes {ns : List Nd} {is xs : List (Int × Int)} {rs : List Int} {co : Int} {S : Nat → Bool} (h : co = 0) (hS : IsCone ns is xs rs S) : ConeIs ns is xs rs co (sel S ns.length) := by
  unfold ConeIs; rw [if_pos h]; exact ⟨S, rfl, hS⟩
theorem ConeIs.no {ns : List Nd} {is xs : List (Int × Int)} {rs : List Int} {co : Int} (h : co ≠ 0) : ConeIs ns is xs rs co [] := by
  unfold ConeIs; rw [if_neg h]

theorem firstE_zero {f : Int × Int → Int} {l : List (Int × Int)} (h : firstE f l = 0) : ∀ p ∈ l, f p = 0 := by
  induction l with
  | nil => intro p hp; cases hp
  | cons q t ih =>
    simp only [firstE] at h
    by_cases hq : f q = 0
    · rw [if_neg (by simp [hq])] at h
      intro p hp
      rcases List.mem_cons.1 hp with rfl | hp
      · exact hq
      · exact ih h p hp
    · rw [if_pos hq] at h
      exact absurd h hq

theorem pairs_zero {ns : List Nd} {is xs : List (Int × Int)} (h : pairsE ns is xs = 0) : (∀ p ∈ is, initE ns p = 0) ∧ (∀ p ∈ xs, pairE ns p.1 p.2 = 0) ∧ dup (fsts is) = false ∧ dup (fsts xs) = false := by
  unfold pairsE at h
  by_cases h1 : firstE (initE ns) is = 0
  · rw [if_neg (by simp [h1])] at h
    by_cases h2 : firstE (nextE ns) xs = 0
    · rw [if_neg (by simp [h2])] at h
      by_cases h3 : (dup (fsts is) || dup (fsts xs)) = true
      · rw [if_pos h3] at h; omega
      · simp only [Bool.or_eq_true, not_or, Bool.not_eq_true] at h3
        exact ⟨firstE_zero h1, firstE_zero h2, h3.1, h3.2⟩
    · rw [if_pos h2] at h; exact absurd h h2
  · rw [if_pos h1] at h; exact absurd h h1

theorem check_zero {ns : List Nd} {is xs : List (Int × Int)} {bs hs : List Int} (h : checkE ns is xs bs hs = 0) :
    (ns.length ≤ 80 ∧ bs.length ≤ 8 ∧ hs.length ≤ 8) ∧ firstN (nodeAtE ns) ns.length = 0 ∧ pairsE ns is xs = 0 ∧ marksE ns xs bs hs = 0 := by
  unfold checkE at h
  by_cases h1 : 80 < ns.length ∨ 8 < bs.length ∨ 8 < hs.length
  · rw [if_pos h1] at h; omega
  rw [if_neg h1] at h
  by_cases h2 : firstN (nodeAtE ns) ns.length = 0
  · rw [if_neg (by simp [h2])] at h
    by_cases h3 : 6 < sumW ns (sel (isK ns 2) ns.length) ∨ 10 < sumW ns (sel (isK ns 3) ns.length)
    · rw [if_pos h3] at h; omega
    rw [if_neg h3] at h
    by_cases h4 : pairsE ns is xs = 0
    · rw [if_neg (by simp [h4])] at h
      exact ⟨by omega, h2, h4, h⟩
    · rw [if_pos h4] at h; exact absurd h h4
  · rw [if_pos h2] at h; exact absurd h h2

theorem check_lok {ns : List Nd} {is xs : List (Int × Int)} {bs hs : List Int} (h : checkE ns is xs bs hs = 0) : ns.length ≤ 80 ∧ Lok ns is xs ∧ dup (fsts is) = false ∧ dup (fsts xs) = false := by
  obtain ⟨h1, h2, h3, _⟩ := check_zero h
  obtain ⟨p1, p2, p3, p4⟩ := pairs_zero h3
  exact ⟨h1.1, lok_of (nodes_ok h2).2 (fun p hp => init_zero (p1 p hp)) p2, p3, p4⟩

theorem owns_lenOf {w : World} {base : Nat} {e : TypeId} {size : Nat} {v : Value} {n : Nat} {xs : List Value} (h : w.ownsRow base e size v n xs) : lenOf v = n := by
  rcases h.2 with ⟨rfl, rfl⟩ | ⟨g, cap, cur, rfl, _⟩ <;> rfl

theorem Box.kept {w w' : World} {B : Nat} {m : Mv} {l0 : Nat} (h : Box w B m l0) (hk : ∀ a v, a.block = B → w.cell? a = some v → w'.cell? a = some v) : Box w' B m l0 := by
  obtain ⟨q0, q1, q2, q3, q4⟩ := h
  exact ⟨hk _ _ rfl q0, hk _ _ rfl q1, hk _ _ rfl q2, hk _ _ rfl q3, hk _ _ rfl q4⟩

end Go.Proofs.YtabnimgpednhjaaDoor.Ev

namespace Go.Proofs.YtabnimgpednhjaaDoor
open Go.RowKit
set_option maxRecDepth 100000

def toD (x : Ev.Nd) : Nd6 := ⟨x.kind.toNat, x.width, x.a, x.b, x.c, x.n⟩
def okD (x : Ev.Nd) : Prop := (1 ≤ x.kind ∧ x.kind ≤ 23) ∧ (toD x).ok
/-- A node's line. -/
def nodeT (i : Nat) (x : Ev.Nd) : List UInt8 := lineN (wordsD (i : Int) (toD x) (manyN (toD x).k)) (wordsD (i : Int) (toD x) (manyN (toD x).k)).length ++ [10]
def nodesT (ns : List Ev.Nd) : Nat → List UInt8
  | 0 => []
  | k + 1 => nodesT ns k ++ (match ns[k]? with | some x => nodeT k x | none => [])
theorem nodesT_succ {ns : List Ev.Nd} {k : Nat} (h : k < ns.length) : nodesT ns (k + 1) = nodesT ns k ++ nodeT k ns[k] := by
  simp [nodesT, List.getElem?_eq_getElem h]
def pairL (l : List (Int × Int)) : List (List Int) := l.map fun m => [m.1, m.2]
def markL (l : List Int) : List (List Int) := l.map fun m => [m]
/-- A model's text. -/
def modelT (ns : List Ev.Nd) (is xs : List (Int × Int)) (bs hs : List Int) : List UInt8 :=
  nodesT ns ns.length ++ linesT (sortB 1) (pairL is) is.length ++ linesT (sortB 2) (pairL xs) xs.length ++ linesT (sortB 3) (markL bs) bs.length ++ linesT (sortB 4) (markL hs) hs.length
theorem lineN_len {ws : List ByteArray} (h : ∀ x ∈ ws, x.size ≤ 21) (k : Nat) (hk : k ≤ ws.length) : (lineN ws k).length ≤ 22 * k := by
  induction k with
  | zero => simp [lineN]
  | succ k ih =>
    have h1 := h ws[k] (List.getElem_mem (by omega))
    have h2 := ih (by omega)
    have h3 : ws[k].data.toList.length = ws[k].size := Array.length_toList
    rw [lineN_succ (by omega), List.length_append, List.length_append, h3]
    split <;> simp <;> omega
theorem kind_size (k : Nat) : (kindB k).size ≤ 21 := by
  have : ∀ k, k < 24 → (kindB k).size ≤ 21 := by decide +kernel
  by_cases h : k < 24
  · exact this k h
  · have e : kindL.getD k [] = [] := by
      rw [List.getD, List.getElem?_eq_none (by have : kindL.length = 24 := rfl; omega)]
      rfl
    unfold kindB
    rw [e]
    decide
theorem words_size {num : Int} (h0 : -9223372036854775808 ≤ num) (h1 : num ≤ 9223372036854775807) {d : Nd6} (hd : d.ok) (j : Nat) : ∀ x ∈ wordsD num d j, x.size ≤ 21 := by
  intro x hx
  unfold wordsD at hx
  rcases List.mem_append.1 hx with h | h
  · simp at h
    rcases h with rfl | rfl
    · exact itoaB_size h0 h1
    · exact kind_size _
  · obtain ⟨i, _, rfl⟩ := List.mem_map.1 h
    exact itoaB_size (hd _).1 (hd _).2
theorem nodeT_len {i : Nat} (hi : i ≤ 1000) {x : Ev.Nd} (hx : (toD x).ok) : (nodeT i x).length ≤ 200 := by
  have h := lineN_len (words_size (num := (i : Int)) (by omega) (by omega) hx (manyN (toD x).k)) _ (Nat.le_refl _)
  have hm := manyN_bd (toD x).k
  rw [wordsD_len] at h
  unfold nodeT
  rw [List.length_append, wordsD_len]
  simp only [List.length_cons, List.length_nil]
  omega
theorem nodesT_len {ns : List Ev.Nd} (hl : ns.length ≤ 80) (h : ∀ x ∈ ns, (toD x).ok) (k : Nat) (hk : k ≤ ns.length) : (nodesT ns k).length ≤ 200 * k := by
  induction k with
  | zero => simp [nodesT]
  | succ k ih =>
    have h1 := nodeT_len (i := k) (by omega) (h ns[k] (List.getElem_mem (by omega)))
    have h2 := ih (by omega)
    rw [nodesT_succ (by omega), List.length_append]
    omega
theorem pairs_len {ns : List Ev.Nd} {xs : List (Int × Int)} (hx : ∀ p ∈ xs, Ev.pairE ns p.1 p.2 = 0) (hd : Ev.dup (Ev.fsts xs) = false) : xs.length ≤ ns.length := by
  have h1 := Ev.sub_len (l := Ev.fsts xs) (r := (List.range ns.length).map fun i : Nat => (i : Int)) (Ev.dup_nodup hd) (fun x hx' => by
    obtain ⟨p, hp, rfl⟩ := List.mem_map.1 hx'
    have := (Ev.pairE_zero (hx p hp)).1
    exact List.mem_map.2 ⟨p.1.toNat, List.mem_range.2 (by omega), by omega⟩)
  have h2 : (Ev.fsts xs).length = xs.length := by unfold Ev.fsts; rw [List.length_map]
  rw [List.length_map, List.length_range, h2] at h1
  exact h1
/-- What a model is that passes its check. -/
theorem model_ok {ns : List Ev.Nd} {is xs : List (Int × Int)} {bs hs : List Int} (h : Ev.checkE ns is xs bs hs = 0) :
    ns.length ≤ 80 ∧ is.length ≤ 80 ∧ xs.length ≤ 80 ∧ bs.length ≤ 8 ∧ hs.length ≤ 8 ∧ (∀ x ∈ ns, 1 ≤ x.kind ∧ x.kind ≤ 23) ∧ (∀ p ∈ is, (0 ≤ p.1 ∧ p.1 < 80) ∧ 0 ≤ p.2 ∧ p.2 < 80) ∧ (∀ p ∈ xs, (0 ≤ p.1 ∧ p.1 < 80) ∧ 0 ≤ p.2 ∧ p.2 < 80) := by
  obtain ⟨⟨h1, h2, h3⟩, h4, h5, _⟩ := Ev.check_zero h
  obtain ⟨p1, p2, p3, p4⟩ := Ev.pairs_zero h5
  have q1 := pairs_len (fun p hp => Ev.init_zero (p1 p hp)) p3
  have q2 := pairs_len p2 p4
  refine ⟨h1, by omega, by omega, h2, h3, fun x hx => ?_, fun p hp => ?_, fun p hp => ?_⟩
  · obtain ⟨i, hi, rfl⟩ := List.getElem_of_mem hx
    have hz := Ev.firstN_zero.1 h4 i hi
    rw [Ev.nodeAtE_at hi] at hz
    exact (Ev.node_zero hz).2.1
  · have := Ev.pairE_zero (Ev.init_zero (p1 p hp)); omega
  · have := Ev.pairE_zero (p2 p hp); omega
end Go.Proofs.YtabnimgpednhjaaDoor
