/- The nodes on which one leans. -/
import Derived.Test.YtabnimgpednhjaaDoorNeM
import Derived.Test.YtabnimgpednhjaaDoorNh
import Derived.Laws.AppendOwnNone
import Derived.Lib.SliceRun
namespace Go.Proofs.YtabnimgpednhjaaDoor.Ev
open Go.RowKit
set_option maxRecDepth 100000

theorem ofSt_take (s : Int) (l : List (Int × Int)) (k : Nat) (h : k < l.length) : ofSt s (l.take (k + 1)) = ofSt s (l.take k) ++ (if l[k].1 == s then [l[k].2] else []) := by
  unfold ofSt
  rw [List.take_succ_eq_append_getElem h, List.filter_append, List.map_append]
  cases hf : (l[k].1 == s) <;> simp [hf]

theorem ofSt_len (s : Int) (l : List (Int × Int)) (k : Nat) : (ofSt s (l.take k)).length ≤ k := by
  unfold ofSt
  rw [List.length_map]
  have := List.length_filter_le (fun p : Int × Int => p.1 == s) (l.take k)
  rw [List.length_take] at this
  omega

theorem ofSt_len2 (s : Int) (l : List (Int × Int)) : (ofSt s l).length ≤ l.length := by
  have := ofSt_len s l l.length
  rwa [List.take_length] at this

theorem owns_cap {w : World} {base : Nat} {p : Option Addr} {n cap : Nat} {l : List Value} (h : w.ownsRow base 3 1 (.slice p n cap) n l) : p = none → cap = 0 := by
  intro hp
  subst hp
  rcases h.2 with ⟨h1, _⟩ | ⟨g, cap', cur, h1, _⟩
  · injection h1
  · cases h1

theorem operandsS_any (x : Nd) (w : World) :
    Calls Tryd.prog 60 #[.agg #[.int .i64 x.kind, .int .i64 x.width, .int .i64 x.a, .int .i64 x.b, .int .i64 x.c, .int .i64 x.n]] w fun e w' =>
      ∃ g, e = .returned (.slice (some ⟨g, 0, none⟩) (opsL x).length 3) ∧ IntsAt w' (some ⟨g, 0, none⟩) (opsL x) ∧ Below w.heap.size w w' := by
  obtain ⟨h1, h2⟩ := takes_nat x.kind
  refine (operands_at x.kind x.width x.a x.b x.c x.n (takes x.kind).toNat h1 h2 w).mono ?_
  rintro e w' ⟨g, rfl, hI, hb⟩
  exact ⟨g, by rw [opsL_len], hI, hb⟩

/-- The nodes of the pairs of a state, of none, one or both lists. -/
def leanN (i : Int) (is xs : List (Int × Int)) : Nat → List Int
  | 0 => []
  | 1 => ofSt i is
  | _ => ofSt i is ++ ofSt i xs

end Go.Proofs.YtabnimgpednhjaaDoor.Ev

namespace Go.Proofs.YtabnimgpednhjaaDoor.Ev
open Go.RowKit
set_option maxRecDepth 100000

theorem owns_below {w w1 : World} {base : Nat} {e : TypeId} {size : Nat} {v : Value} {n : Nat} {xs : List Value} (h : w.ownsRow base e size v n xs) (hb : Below w.heap.size w w1) : w1.ownsRow base e size v n xs := by
  refine ⟨h.1, ?_⟩
  rcases h.2 with h0 | ⟨g, cap, cur, hv, hg, hh, r⟩
  · exact .inl h0
  · refine .inr ⟨g, cap, cur, hv, hg, ?_, r⟩
    obtain ⟨h1, _⟩ := Array.getElem?_eq_some_iff.1 hh
    rw [hb.block g h1]
    exact hh

theorem owns_set {w : World} {base : Nat} {e : TypeId} {size : Nat} {v : Value} {n : Nat} {xs : List Value} (h : w.ownsRow base e size v n xs) (a : Addr) (u : Value) (ha : a.block < base) : (w.setCell a u).ownsRow base e size v n xs := by
  refine ⟨h.1, ?_⟩
  rcases h.2 with h0 | ⟨g, cap, cur, hv, hg, hh, r⟩
  · exact .inl h0
  · refine .inr ⟨g, cap, cur, hv, hg, ?_, r⟩
    rw [Below.heap_setCell w a u g (by omega)]
    exact hh

theorem owns_pop {w : World} {base : Nat} {g cap : Nat} {l : List Int} {x : Int} (h : w.ownsRow base 3 1 (.slice (some ⟨g, 0, none⟩) (l.length + 1) cap) (l.length + 1) ((l ++ [x]).map (Value.int .i64))) :
    w.ownsRow base 3 1 (.slice (some ⟨g, 0, none⟩) l.length cap) l.length (l.map (Value.int .i64)) := by
  obtain ⟨h1, h2⟩ := h
  rcases h2 with ⟨h0, _⟩ | ⟨g', cap', cur, hv, hg, hh, hn, hcap, hsz, htake⟩
  · cases h0
  · cases hv
    refine ⟨by simp, .inr ⟨g, cap, cur, rfl, hg, hh, by omega, hcap, hsz, ?_⟩⟩
    have h3 : (cur.toList.take ((l.length + 1) * 1)).take (l.length * 1) = ((l ++ [x]).map (Value.int .i64)).take (l.length * 1) := by rw [htake]
    rw [List.take_take, Nat.min_eq_left (by omega)] at h3
    rw [h3, List.map_append]
    simp

theorem owns_last {w : World} {base : Nat} {v : Value} {l : List Int} {x : Int} (h : w.ownsRow base 3 1 v (l ++ [x]).length ((l ++ [x]).map (Value.int .i64))) :
    ∃ g cap, v = .slice (some ⟨g, 0, none⟩) (l.length + 1) cap ∧ base ≤ g ∧ l.length + 1 ≤ cap ∧ cap ≤ maxLen ∧ w.cell? ⟨g, l.length, none⟩ = some (.int .i64 x) ∧ w.ownsRow base 3 1 (.slice (some ⟨g, 0, none⟩) l.length cap) l.length (l.map (Value.int .i64)) := by
  have e : (l ++ [x]).length = l.length + 1 := by simp
  rw [e] at h
  rcases h.2 with ⟨h0, h1⟩ | ⟨g, cap, cur, rfl, hg, hh, hn, hcap, hsz, htake⟩
  · omega
  · refine ⟨g, cap, rfl, hg, hn, hcap, ?_, owns_pop h⟩
    rw [h.cellAt l.length (by omega), List.getElem?_map]
    simp

theorem BRow_uniq {w : World} {g : Nat} {b b' : List Bool} (h : BRow w g b) (h' : BRow w g b') (hl : b.length = b'.length) : b = b' := by
  refine List.ext_getElem hl (fun i h1 h2 => ?_)
  have := (h i h1).1.symm.trans (h' i h2).1
  injection this with this
  injection this

/-- How many have not been met. -/
def isF : Option Value → Bool
 | some (.bool false) => true
 | _ => false
def cntW (w : World) (g n : Nat) : Nat := (List.range n).countP fun i => isF (w.cell? ⟨g, i, none⟩)
theorem cntW_eq {w : World} {g n : Nat} {b : List Bool} (hR : BRow w g b) (hn : b.length = n) : cntW w g n = b.count false := by
 subst hn
 have h : ∀ k, k ≤ b.length → (List.range k).countP (fun i => isF (w.cell? ⟨g, i, none⟩)) = (b.take k).count false := by
   intro k
   induction k with
   | zero => intro _; simp
   | succ k ih =>
     intro hk
     have hc := (hR k (by omega)).1
     rw [List.range_succ, List.countP_append, ih (by omega), List.take_succ_eq_append_getElem (by omega), List.count_append]
     simp only [List.countP_cons, List.countP_nil, hc]
     cases hb : b[k] <;> simp [isF]
 have := h b.length (Nat.le_refl _)
 rw [List.take_length] at this
 exact this
theorem count_set (b : List Bool) (k : Nat) (hk : k < b.length) (h : b.getD k false = false) : (b.set k true).count false + 1 = b.count false := by
  induction b generalizing k with
  | nil => simp at hk
  | cons a t ih =>
    cases k with
    | zero =>
      simp only [List.getD_cons_zero] at h
      subst h
      simp
    | succ k =>
      have := ih k (by simpa using hk) (by simpa using h)
      simp only [List.set_cons_succ, List.count_cons]
      omega

theorem BRow.grown {w w' : World} {g : Nat} {b : List Bool} {row : Option Nat} (h : BRow w g b) (hg : w.grownBy w' row) (hne : some g ≠ row) : BRow w' g b := fun j hj => by
  obtain ⟨h1, h2⟩ := h j hj
  have hlt := World.block_lt_of_cell? w _ h1
  exact ⟨hg.cell h1 hne, (World.frozen?_of_block (hg.block g hlt hne)).trans h2⟩

/-- A state that is there once has one pair. -/
theorem ofSt_one {s : Int} {l : List (Int × Int)} (h : dup (fsts l) = false) : (ofSt s l).length ≤ 1 := by
  induction l with
  | nil => simp [ofSt]
  | cons p t ih =>
    have h' : dup (p.1 :: fsts t) = false := h
    simp only [dup, Bool.or_eq_false_iff] at h'
    have ht := ih h'.2
    unfold ofSt at ht ⊢
    by_cases hp : (p.1 == s) = true
    · rw [List.filter_cons_of_pos (by simpa using hp)]
      have : t.filter (fun p => p.1 == s) = [] := by
        rw [List.filter_eq_nil_iff]
        intro q hq hqs
        have hc : (fsts t).contains p.1 = true := by
          simp only [beq_iff_eq] at hp hqs
          simp only [fsts, List.contains_iff_mem, List.mem_map]
          exact ⟨q, hq, by omega⟩
        rw [h'.1] at hc
        cases hc
      simp [this]
    · rw [List.filter_cons_of_neg (by simpa using hp)]
      exact ht

theorem leanL_len {ns : List Nd} {is xs : List (Int × Int)} (hi : dup (fsts is) = false) (hx : dup (fsts xs) = false) (i : Nat) : (leanL ns is xs i).length ≤ 3 := by
  unfold leanL
  split
  · have h1 := ofSt_one (s := i) hi
    have h2 := ofSt_one (s := i) hx
    rw [List.length_append]
    omega
  · unfold opsAt
    split
    · unfold opsL
      rw [List.length_take]
      simp
      omega
    · simp

def lenOf : Value → Nat | .slice _ n _ => n | _ => 0

end Go.Proofs.YtabnimgpednhjaaDoor.Ev
