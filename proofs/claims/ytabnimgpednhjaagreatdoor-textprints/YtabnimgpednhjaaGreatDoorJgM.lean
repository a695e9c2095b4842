/- The nodes on which one leans. -/
import Derived.Test.YtabnimgpednhjaaGreatDoorNeM
import Derived.Test.YtabnimgpednhjaaGreatDoorNh
import Derived.Laws.AppendOwnNone
import Derived.Lib.SliceRun
import Derived.Test.YtabnimgpednhjaaGreatDoorJfM
namespace Go.Proofs.YtabnimgpednhjaaGreatDoor.Ev
open Go.RowKit
set_option maxRecDepth 100000

theorem ofSt_take (s : Int) (l : List (Int × Int)) (k : Nat) (h : k < l.length) : ofSt s (l.take (k + 1)) = ofSt s (l.take k) ++ (if l[k].1 == s then [l[k].2] else []) := by
  unfold ofSt
  rw [List.take_succ_eq_append_getElem h, List.filter_append, List.map_append]
  cases hf : (l[k].1 == s) <;> simp [hf]

theorem ofSt_len (s : Int) (l : List (Int × Int)) (k : Nat) : (ofSt s (l.take k)).length ≤ k := by
  unfold ofSt
  rw [List.length_map]
  have := List.length_filter_le (fun p : Int × Int => p.1 == s) (l.take k)
  rw [List.length_take] at this
  omega

theorem ofSt_len2 (s : Int) (l : List (Int × Int)) : (ofSt s l).length ≤ l.length := by
  have := ofSt_len s l l.length
  rwa [List.take_length] at this

theorem owns_cap {w : World} {base : Nat} {p : Option Addr} {n cap : Nat} {l : List Value} (h : w.ownsRow base 3 1 (.slice p n cap) n l) : p = none → cap = 0 := by
  intro hp
  subst hp
  rcases h.2 with ⟨h1, _⟩ | ⟨g, cap', cur, h1, _⟩
  · injection h1
  · cases h1

theorem operandsS_any (x : Nd) (w : World) :
    Calls Tryz.prog 77 #[.agg #[.int .i64 x.kind, .int .i64 x.width, .int .i64 x.a, .int .i64 x.b, .int .i64 x.c, .int .i64 x.n]] w fun e w' =>
      ∃ g, e = .returned (.slice (some ⟨g, 0, none⟩) (opsL x).length 3) ∧ IntsAt w' (some ⟨g, 0, none⟩) (opsL x) ∧ Below w.heap.size w w' := by
  obtain ⟨h1, h2⟩ := takes_nat x.kind
  refine (operands_at x.kind x.width x.a x.b x.c x.n (takes x.kind).toNat h1 h2 w).mono ?_
  rintro e w' ⟨g, rfl, hI, hb⟩
  exact ⟨g, by rw [opsL_len], hI, hb⟩

/-- The nodes of the pairs of a state, of none, one or both lists. -/
def leanN (i : Int) (is xs : List (Int × Int)) : Nat → List Int
  | 0 => []
  | 1 => ofSt i is
  | _ => ofSt i is ++ ofSt i xs

end Go.Proofs.YtabnimgpednhjaaGreatDoor.Ev

namespace Go.Proofs.YtabnimgpednhjaaGreatDoor.Ev
open Go.RowKit
set_option maxRecDepth 100000

theorem owns_below {w w1 : World} {base : Nat} {e : TypeId} {size : Nat} {v : Value} {n : Nat} {xs : List Value} (h : w.ownsRow base e size v n xs) (hb : Below w.heap.size w w1) : w1.ownsRow base e size v n xs := by
  refine ⟨h.1, ?_⟩
  rcases h.2 with h0 | ⟨g, cap, cur, hv, hg, hh, r⟩
  · exact .inl h0
  · refine .inr ⟨g, cap, cur, hv, hg, ?_, r⟩
    obtain ⟨h1, _⟩ := Array.getElem?_eq_some_iff.1 hh
    rw [hb.block g h1]
    exact hh

theorem owns_set {w : World} {base : Nat} {e : TypeId} {size : Nat} {v : Value} {n : Nat} {xs : List Value} (h : w.ownsRow base e size v n xs) (a : Addr) (u : Value) (ha : a.block < base) : (w.setCell a u).ownsRow base e size v n xs := by
  refine ⟨h.1, ?_⟩
  rcases h.2 with h0 | ⟨g, cap, cur, hv, hg, hh, r⟩
  · exact .inl h0
  · refine .inr ⟨g, cap, cur, hv, hg, ?_, r⟩
    rw [Below.heap_setCell w a u g (by omega)]
    exact hh

theorem owns_pop {w : World} {base : Nat} {g cap : Nat} {l : List Int} {x : Int} (h : w.ownsRow base 3 1 (.slice (some ⟨g, 0, none⟩) (l.length + 1) cap) (l.length + 1) ((l ++ [x]).map (Value.int .i64))) :
    w.ownsRow base 3 1 (.slice (some ⟨g, 0, none⟩) l.length cap) l.length (l.map (Value.int .i64)) := by
  obtain ⟨h1, h2⟩ := h
  rcases h2 with ⟨h0, _⟩ | ⟨g', cap', cur, hv, hg, hh, hn, hcap, hsz, htake⟩
  · cases h0
  · cases hv
    refine ⟨by simp, .inr ⟨g, cap, cur, rfl, hg, hh, by omega, hcap, hsz, ?_⟩⟩
    have h3 : (cur.toList.take ((l.length + 1) * 1)).take (l.length * 1) = ((l ++ [x]).map (Value.int .i64)).take (l.length * 1) := by rw [htake]
    rw [List.take_take, Nat.min_eq_left (by omega)] at h3
    rw [h3, List.map_append]
    simp

theorem owns_last {w : World} {base : Nat} {v : Value} {l : List Int} {x : Int} (h : w.ownsRow base 3 1 v (l ++ [x]).length ((l ++ [x]).map (Value.int .i64))) :
    ∃ g cap, v = .slice (some ⟨g, 0, none⟩) (l.length + 1) cap ∧ base ≤ g ∧ l.length + 1 ≤ cap ∧ cap ≤ maxLen ∧ w.cell? ⟨g, l.length, none⟩ = some (.int .i64 x) ∧ w.ownsRow base 3 1 (.slice (some ⟨g, 0, none⟩) l.length cap) l.length (l.map (Value.int .i64)) := by
  have e : (l ++ [x]).length = l.length + 1 := by simp
  rw [e] at h
  rcases h.2 with ⟨h0, h1⟩ | ⟨g, cap, cur, rfl, hg, hh, hn, hcap, hsz, htake⟩
  · omega
  · refine ⟨g, cap, rfl, hg, hn, hcap, ?_, owns_pop h⟩
    rw [h.cellAt l.length (by omega), List.getElem?_map]
    simp

theorem BRow_uniq {w : World} {g : Nat} {b b' : List Bool} (h : BRow w g b) (h' : BRow w g b') (hl : b.length = b'.length) : b = b' := by
  refine List.ext_getElem hl (fun i h1 h2 => ?_)
  have := (h i h1).1.symm.trans (h' i h2).1
  injection this with this
  injection this

/-- How many have not been met. -/
def isF : Option Value → Bool
 | some (.bool false) => true
 | _ => false
def cntW (w : World) (g n : Nat) : Nat := (List.range n).countP fun i => isF (w.cell? ⟨g, i, none⟩)
theorem cntW_eq {w : World} {g n : Nat} {b : List Bool} (hR : BRow w g b) (hn : b.length = n) : cntW w g n = b.count false := by
 subst hn
 have h : ∀ k, k ≤ b.length → (List.range k).countP (fun i => isF (w.cell? ⟨g, i, none⟩)) = (b.take k).count false := by
   intro k
   induction k with
   | zero => intro _; simp
   | succ k ih =>
     intro hk
     have hc := (hR k (by omega)).1
     rw [List.range_succ, List.countP_append, ih (by omega), List.take_succ_eq_append_getElem (by omega), List.count_append]
     simp only [List.countP_cons, List.countP_nil, hc]
     cases hb : b[k] <;> simp [isF]
 have := h b.length (Nat.le_refl _)
 rw [List.take_length] at this
 exact this
theorem count_set (b : List Bool) (k : Nat) (hk : k < b.length) (h : b.getD k false = false) : (b.set k true).count false + 1 = b.count false := by
  induction b generalizing k with
  | nil => simp at hk
  | cons a t ih =>
    cases k with
    | zero =>
      simp only [List.getD_cons_zero] at h
      subst h
      simp
    | succ k =>
      have := ih k (by simpa using hk) (by simpa using h)
      simp only [List.set_cons_succ, List.count_cons]
      omega

theorem BRow.grown {w w' : World} {g : Nat} {b : List Bool} {row : Option Nat} (h : BRow w g b) (hg : w.grownBy w' row) (hne : some g ≠ row) : BRow w' g b := fun j hj => by
  obtain ⟨h1, h2⟩ := h j hj
  have hlt := World.block_lt_of_cell? w _ h1
  exact ⟨hg.cell h1 hne, (World.frozen?_of_block (hg.block g hlt hne)).trans h2⟩

/-- A state that is there once has one pair. -/
theorem ofSt_one {s : Int} {l : List (Int × Int)} (h : dup (fsts l) = false) : (ofSt s l).length ≤ 1 := by
  induction l with
  | nil => simp [ofSt]
  | cons p t ih =>
    have h' : dup (p.1 :: fsts t) = false := h
    simp only [dup, Bool.or_eq_false_iff] at h'
    have ht := ih h'.2
    unfold ofSt at ht ⊢
    by_cases hp : (p.1 == s) = true
    · rw [List.filter_cons_of_pos (by simpa using hp)]
      have : t.filter (fun p => p.1 == s) = [] := by
        rw [List.filter_eq_nil_iff]
        intro q hq hqs
        have hc : (fsts t).contains p.1 = true := by
          simp only [beq_iff_eq] at hp hqs
          simp only [fsts, List.contains_iff_mem, List.mem_map]
          exact ⟨q, hq, by omega⟩
        rw [h'.1] at hc
        cases hc
      simp [this]
    · rw [List.filter_cons_of_neg (by simpa using hp)]
      exact ht

theorem leanL_len {ns : List Nd} {is xs : List (Int × Int)} (hi : dup (fsts is) = false) (hx : dup (fsts xs) = false) (i : Nat) : (leanL ns is xs i).length ≤ 3 := by
  unfold leanL
  split
  · have h1 := ofSt_one (s := i) hi
    have h2 := ofSt_one (s := i) hx
    rw [List.length_append]
    omega
  · unfold opsAt
    split
    · unfold opsL
      rw [List.length_take]
      simp
      omega
    · simp

def lenOf : Value → Nat | .slice _ n _ => n | _ => 0

end Go.Proofs.YtabnimgpednhjaaGreatDoor.Ev

namespace Go.Proofs.YtabnimgpednhjaaGreatDoor.Ev
open Go.RowKit
set_option maxRecDepth 100000

/-- What Cone tells beside its list. -/
def coneE (ns : List Nd) (is xs : List (Int × Int)) (bs hs rs : List Int) : Int :=
  if checkE ns is xs bs hs ≠ 0 then checkE ns is xs bs hs else if rs.any (fun x => !isN ns.length x) then 5 else 0

/-- The list that Cone tells, beside its number. -/
def ConeIs (ns : List Nd) (is xs : List (Int × Int)) (rs : List Int) (co : Int) (l : List Int) : Prop := if co = 0 then ∃ S, l = sel S ns.length ∧ IsCone ns is xs rs S else l = []
theorem ConeIs.yes {ns : List Nd} {is xs : List (Int × Int)} {rs : List Int} {co : Int} {S : Nat → Bool} (h : co = 0) (hS : IsCone ns is xs rs S) : ConeIs ns is xs rs co (sel S ns.length) := by
  unfold ConeIs; rw [if_pos h]; exact ⟨S, rfl, hS⟩
theorem ConeIs.no {ns : List Nd} {is xs : List (Int × Int)} {rs : List Int} {co : Int} (h : co ≠ 0) : ConeIs ns is xs rs co [] := by
  unfold ConeIs; rw [if_neg h]

theorem firstE_zero {f : Int × Int → Int} {l : List (Int × Int)} (h : firstE f l = 0) : ∀ p ∈ l, f p = 0 := by
  induction l with
  | nil => intro p hp; cases hp
  | cons q t ih =>
    simp only [firstE] at h
    by_cases hq : f q = 0
    · rw [if_neg (by simp [hq])] at h
      intro p hp
      rcases List.mem_cons.1 hp with rfl | hp
      · exact hq
      · exact ih h p hp
    · rw [if_pos hq] at h
      exact absurd h hq

theorem pairs_zero {ns : List Nd} {is xs : List (Int × Int)} (h : pairsE ns is xs = 0) : (∀ p ∈ is, initE ns p = 0) ∧ (∀ p ∈ xs, pairE ns p.1 p.2 = 0) ∧ dup (fsts is) = false ∧ dup (fsts xs) = false := by
  unfold pairsE at h
  by_cases h1 : firstE (initE ns) is = 0
  · rw [if_neg (by simp [h1])] at h
    by_cases h2 : firstE (nextE ns) xs = 0
    · rw [if_neg (by simp [h2])] at h
      by_cases h3 : (dup (fsts is) || dup (fsts xs)) = true
      · rw [if_pos h3] at h; omega
      · simp only [Bool.or_eq_true, not_or, Bool.not_eq_true] at h3
        exact ⟨firstE_zero h1, firstE_zero h2, h3.1, h3.2⟩
    · rw [if_pos h2] at h; exact absurd h h2
  · rw [if_pos h1] at h; exact absurd h h1

theorem check_zero {ns : List Nd} {is xs : List (Int × Int)} {bs hs : List Int} (h : checkE ns is xs bs hs = 0) :
    (ns.length ≤ 80 ∧ bs.length ≤ 8 ∧ hs.length ≤ 8) ∧ firstN (nodeAtE ns) ns.length = 0 ∧ pairsE ns is xs = 0 ∧ marksE ns xs bs hs = 0 := by
  unfold checkE at h
  by_cases h1 : 80 < ns.length ∨ 8 < bs.length ∨ 8 < hs.length
  · rw [if_pos h1] at h; omega
  rw [if_neg h1] at h
  by_cases h2 : firstN (nodeAtE ns) ns.length = 0
  · rw [if_neg (by simp [h2])] at h
    by_cases h3 : 6 < sumW ns (sel (isK ns 2) ns.length) ∨ 10 < sumW ns (sel (isK ns 3) ns.length)
    · rw [if_pos h3] at h; omega
    rw [if_neg h3] at h
    by_cases h4 : pairsE ns is xs = 0
    · rw [if_neg (by simp [h4])] at h
      exact ⟨by omega, h2, h4, h⟩
    · rw [if_pos h4] at h; exact absurd h h4
  · rw [if_pos h2] at h; exact absurd h h2

theorem check_lok {ns : List Nd} {is xs : List (Int × Int)} {bs hs : List Int} (h : checkE ns is xs bs hs = 0) : ns.length ≤ 80 ∧ Lok ns is xs ∧ dup (fsts is) = false ∧ dup (fsts xs) = false := by
  obtain ⟨h1, h2, h3, _⟩ := check_zero h
  obtain ⟨p1, p2, p3, p4⟩ := pairs_zero h3
  exact ⟨h1.1, lok_of (nodes_ok h2).2 (fun p hp => init_zero (p1 p hp)) p2, p3, p4⟩

theorem owns_lenOf {w : World} {base : Nat} {e : TypeId} {size : Nat} {v : Value} {n : Nat} {xs : List Value} (h : w.ownsRow base e size v n xs) : lenOf v = n := by
  rcases h.2 with ⟨rfl, rfl⟩ | ⟨g, cap, cur, rfl, _⟩ <;> rfl

theorem Box.kept {w w' : World} {B : Nat} {m : Mv} {l0 : Nat} (h : Box w B m l0) (hk : ∀ a v, a.block = B → w.cell? a = some v → w'.cell? a = some v) : Box w' B m l0 := by
  obtain ⟨q0, q1, q2, q3, q4⟩ := h
  exact ⟨hk _ _ rfl q0, hk _ _ rfl q1, hk _ _ rfl q2, hk _ _ rfl q3, hk _ _ rfl q4⟩

end Go.Proofs.YtabnimgpednhjaaGreatDoor.Ev

namespace Go.Proofs.YtabnimgpednhjaaGreatDoor
open Go.RowKit
set_option maxRecDepth 100000

def toD (x : Ev.Nd) : Nd6 := ⟨x.kind.toNat, x.width, x.a, x.b, x.c, x.n⟩
def okD (x : Ev.Nd) : Prop := (1 ≤ x.kind ∧ x.kind ≤ 23) ∧ (toD x).ok
/-- A node's line. -/
def nodeT (i : Nat) (x : Ev.Nd) : List UInt8 := lineN (wordsD (i : Int) (toD x) (manyN (toD x).k)) (wordsD (i : Int) (toD x) (manyN (toD x).k)).length ++ [10]
def nodesT (ns : List Ev.Nd) : Nat → List UInt8
  | 0 => []
  | k + 1 => nodesT ns k ++ (match ns[k]? with | some x => nodeT k x | none => [])
theorem nodesT_succ {ns : List Ev.Nd} {k : Nat} (h : k < ns.length) : nodesT ns (k + 1) = nodesT ns k ++ nodeT k ns[k] := by
  simp [nodesT, List.getElem?_eq_getElem h]
def pairL (l : List (Int × Int)) : List (List Int) := l.map fun m => [m.1, m.2]
def markL (l : List Int) : List (List Int) := l.map fun m => [m]
/-- A model's text. -/
def modelT (ns : List Ev.Nd) (is xs : List (Int × Int)) (bs hs : List Int) : List UInt8 :=
  nodesT ns ns.length ++ linesT (sortB 1) (pairL is) is.length ++ linesT (sortB 2) (pairL xs) xs.length ++ linesT (sortB 3) (markL bs) bs.length ++ linesT (sortB 4) (markL hs) hs.length
theorem lineN_len {ws : List ByteArray} (h : ∀ x ∈ ws, x.size ≤ 21) (k : Nat) (hk : k ≤ ws.length) : (lineN ws k).length ≤ 22 * k := by
  induction k with
  | zero => simp [lineN]
  | succ k ih =>
    have h1 := h ws[k] (List.getElem_mem (by omega))
    have h2 := ih (by omega)
    have h3 : ws[k].data.toList.length = ws[k].size := Array.length_toList
    rw [lineN_succ (by omega), List.length_append, List.length_append, h3]
    split <;> simp <;> omega
theorem kind_size (k : Nat) : (kindB k).size ≤ 21 := by
  have : ∀ k, k < 24 → (kindB k).size ≤ 21 := by decide +kernel
  by_cases h : k < 24
  · exact this k h
  · have e : kindL.getD k [] = [] := by
      rw [List.getD, List.getElem?_eq_none (by have : kindL.length = 24 := rfl; omega)]
      rfl
    unfold kindB
    rw [e]
    decide
theorem words_size {num : Int} (h0 : -9223372036854775808 ≤ num) (h1 : num ≤ 9223372036854775807) {d : Nd6} (hd : d.ok) (j : Nat) : ∀ x ∈ wordsD num d j, x.size ≤ 21 := by
  intro x hx
  unfold wordsD at hx
  rcases List.mem_append.1 hx with h | h
  · simp at h
    rcases h with rfl | rfl
    · exact itoaB_size h0 h1
    · exact kind_size _
  · obtain ⟨i, _, rfl⟩ := List.mem_map.1 h
    exact itoaB_size (hd _).1 (hd _).2
theorem nodeT_len {i : Nat} (hi : i ≤ 1000) {x : Ev.Nd} (hx : (toD x).ok) : (nodeT i x).length ≤ 200 := by
  have h := lineN_len (words_size (num := (i : Int)) (by omega) (by omega) hx (manyN (toD x).k)) _ (Nat.le_refl _)
  have hm := manyN_bd (toD x).k
  rw [wordsD_len] at h
  unfold nodeT
  rw [List.length_append, wordsD_len]
  simp only [List.length_cons, List.length_nil]
  omega
theorem nodesT_len {ns : List Ev.Nd} (hl : ns.length ≤ 80) (h : ∀ x ∈ ns, (toD x).ok) (k : Nat) (hk : k ≤ ns.length) : (nodesT ns k).length ≤ 200 * k := by
  induction k with
  | zero => simp [nodesT]
  | succ k ih =>
    have h1 := nodeT_len (i := k) (by omega) (h ns[k] (List.getElem_mem (by omega)))
    have h2 := ih (by omega)
    rw [nodesT_succ (by omega), List.length_append]
    omega
theorem pairs_len {ns : List Ev.Nd} {xs : List (Int × Int)} (hx : ∀ p ∈ xs, Ev.pairE ns p.1 p.2 = 0) (hd : Ev.dup (Ev.fsts xs) = false) : xs.length ≤ ns.length := by
  have h1 := Ev.sub_len (l := Ev.fsts xs) (r := (List.range ns.length).map fun i : Nat => (i : Int)) (Ev.dup_nodup hd) (fun x hx' => by
    obtain ⟨p, hp, rfl⟩ := List.mem_map.1 hx'
    have := (Ev.pairE_zero (hx p hp)).1
    exact List.mem_map.2 ⟨p.1.toNat, List.mem_range.2 (by omega), by omega⟩)
  have h2 : (Ev.fsts xs).length = xs.length := by unfold Ev.fsts; rw [List.length_map]
  rw [List.length_map, List.length_range, h2] at h1
  exact h1
/-- What a model is that passes its check. -/
theorem model_ok {ns : List Ev.Nd} {is xs : List (Int × Int)} {bs hs : List Int} (h : Ev.checkE ns is xs bs hs = 0) :
    ns.length ≤ 80 ∧ is.length ≤ 80 ∧ xs.length ≤ 80 ∧ bs.length ≤ 8 ∧ hs.length ≤ 8 ∧ (∀ x ∈ ns, 1 ≤ x.kind ∧ x.kind ≤ 23) ∧ (∀ p ∈ is, (0 ≤ p.1 ∧ p.1 < 80) ∧ 0 ≤ p.2 ∧ p.2 < 80) ∧ (∀ p ∈ xs, (0 ≤ p.1 ∧ p.1 < 80) ∧ 0 ≤ p.2 ∧ p.2 < 80) := by
  obtain ⟨⟨h1, h2, h3⟩, h4, h5, _⟩ := Ev.check_zero h
  obtain ⟨p1, p2, p3, p4⟩ := Ev.pairs_zero h5
  have q1 := pairs_len (fun p hp => Ev.init_zero (p1 p hp)) p3
  have q2 := pairs_len p2 p4
  refine ⟨h1, by omega, by omega, h2, h3, fun x hx => ?_, fun p hp => ?_, fun p hp => ?_⟩
  · obtain ⟨i, hi, rfl⟩ := List.getElem_of_mem hx
    have hz := Ev.firstN_zero.1 h4 i hi
    rw [Ev.nodeAtE_at hi] at hz
    exact (Ev.node_zero hz).2.1
  · have := Ev.pairE_zero (Ev.init_zero (p1 p hp)); omega
  · have := Ev.pairE_zero (p2 p hp); omega
end Go.Proofs.YtabnimgpednhjaaGreatDoor
