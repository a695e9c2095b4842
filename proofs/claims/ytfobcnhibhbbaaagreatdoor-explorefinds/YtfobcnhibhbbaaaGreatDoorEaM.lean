/- The nodes on which one leans. -/
import Derived.Test.YtfobcnhibhbbaaaGreatDoorNhM
import Derived.Laws.AppendOwnNone
import Derived.Lib.SliceRun
import Derived.Test.YtfobcnhibhbbaaaGreatDoorAbM
namespace Go.Proofs.YtfobcnhibhbbaaaGreatDoor.Ev
open Go.RowKit
set_option maxRecDepth 100000

theorem ofSt_take (s : Int) (l : List (Int × Int)) (k : Nat) (h : k < l.length) : ofSt s (l.take (k + 1)) = ofSt s (l.take k) ++ (if l[k].1 == s then [l[k].2] else []) := by
  unfold ofSt
  rw [List.take_succ_eq_append_getElem h, List.filter_append, List.map_append]
  cases hf : (l[k].1 == s) <;> simp [hf]

theorem ofSt_len (s : Int) (l : List (Int × Int)) (k : Nat) : (ofSt s (l.take k)).length ≤ k := by
  unfold ofSt
  rw [List.length_map]
  have := List.length_filter_le (fun p : Int × Int => p.1 == s) (l.take k)
  rw [List.length_take] at this
  omega

theorem ofSt_len2 (s : Int) (l : List (Int × Int)) : (ofSt s l).length ≤ l.length := by
  have := ofSt_len s l l.length
  rwa [List.take_length] at this

theorem owns_cap {w : World} {base : Nat} {p : Option Addr} {n cap : Nat} {l : List Value} (h : w.ownsRow base 3 1 (.slice p n cap) n l) : p = none → cap = 0 := by
  intro hp
  subst hp
  rcases h.2 with ⟨h1, _⟩ | ⟨g, cap', cur, h1, _⟩
  · injection h1
  · cases h1

theorem operandsS_any (x : Nd) (w : World) :
    Calls Tryz.prog 76 #[.agg #[.int .i64 x.kind, .int .i64 x.width, .int .i64 x.a, .int .i64 x.b, .int .i64 x.c, .int .i64 x.n]] w fun e w' =>
      ∃ g, e = .returned (.slice (some ⟨g, 0, none⟩) (opsL x).length 3) ∧ IntsAt w' (some ⟨g, 0, none⟩) (opsL x) ∧ Below w.heap.size w w' := by
  obtain ⟨h1, h2⟩ := takes_nat x.kind
  refine (operands_at x.kind x.width x.a x.b x.c x.n (takes x.kind).toNat h1 h2 w).mono ?_
  rintro e w' ⟨g, rfl, hI, hb⟩
  exact ⟨g, by rw [opsL_len], hI, hb⟩

/-- The nodes of the pairs of a state, of none, one or both lists. -/
def leanN (i : Int) (is xs : List (Int × Int)) : Nat → List Int
  | 0 => []
  | 1 => ofSt i is
  | _ => ofSt i is ++ ofSt i xs

end Go.Proofs.YtfobcnhibhbbaaaGreatDoor.Ev

namespace Go.Proofs.YtfobcnhibhbbaaaGreatDoor.Ev
open Go.RowKit
set_option maxRecDepth 100000

theorem owns_below {w w1 : World} {base : Nat} {e : TypeId} {size : Nat} {v : Value} {n : Nat} {xs : List Value} (h : w.ownsRow base e size v n xs) (hb : Below w.heap.size w w1) : w1.ownsRow base e size v n xs := by
  refine ⟨h.1, ?_⟩
  rcases h.2 with h0 | ⟨g, cap, cur, hv, hg, hh, r⟩
  · exact .inl h0
  · refine .inr ⟨g, cap, cur, hv, hg, ?_, r⟩
    obtain ⟨h1, _⟩ := Array.getElem?_eq_some_iff.1 hh
    rw [hb.block g h1]
    exact hh

theorem owns_set {w : World} {base : Nat} {e : TypeId} {size : Nat} {v : Value} {n : Nat} {xs : List Value} (h : w.ownsRow base e size v n xs) (a : Addr) (u : Value) (ha : a.block < base) : (w.setCell a u).ownsRow base e size v n xs := by
  refine ⟨h.1, ?_⟩
  rcases h.2 with h0 | ⟨g, cap, cur, hv, hg, hh, r⟩
  · exact .inl h0
  · refine .inr ⟨g, cap, cur, hv, hg, ?_, r⟩
    rw [Below.heap_setCell w a u g (by omega)]
    exact hh

theorem owns_pop {w : World} {base : Nat} {g cap : Nat} {l : List Int} {x : Int} (h : w.ownsRow base 3 1 (.slice (some ⟨g, 0, none⟩) (l.length + 1) cap) (l.length + 1) ((l ++ [x]).map (Value.int .i64))) :
    w.ownsRow base 3 1 (.slice (some ⟨g, 0, none⟩) l.length cap) l.length (l.map (Value.int .i64)) := by
  obtain ⟨h1, h2⟩ := h
  rcases h2 with ⟨h0, _⟩ | ⟨g', cap', cur, hv, hg, hh, hn, hcap, hsz, htake⟩
  · cases h0
  · cases hv
    refine ⟨by simp, .inr ⟨g, cap, cur, rfl, hg, hh, by omega, hcap, hsz, ?_⟩⟩
    have h3 : (cur.toList.take ((l.length + 1) * 1)).take (l.length * 1) = ((l ++ [x]).map (Value.int .i64)).take (l.length * 1) := by rw [htake]
    rw [List.take_take, Nat.min_eq_left (by omega)] at h3
    rw [h3, List.map_append]
    simp

theorem owns_last {w : World} {base : Nat} {v : Value} {l : List Int} {x : Int} (h : w.ownsRow base 3 1 v (l ++ [x]).length ((l ++ [x]).map (Value.int .i64))) :
    ∃ g cap, v = .slice (some ⟨g, 0, none⟩) (l.length + 1) cap ∧ base ≤ g ∧ l.length + 1 ≤ cap ∧ cap ≤ maxLen ∧ w.cell? ⟨g, l.length, none⟩ = some (.int .i64 x) ∧ w.ownsRow base 3 1 (.slice (some ⟨g, 0, none⟩) l.length cap) l.length (l.map (Value.int .i64)) := by
  have e : (l ++ [x]).length = l.length + 1 := by simp
  rw [e] at h
  rcases h.2 with ⟨h0, h1⟩ | ⟨g, cap, cur, rfl, hg, hh, hn, hcap, hsz, htake⟩
  · omega
  · refine ⟨g, cap, rfl, hg, hn, hcap, ?_, owns_pop h⟩
    rw [h.cellAt l.length (by omega), List.getElem?_map]
    simp

theorem BRow_uniq {w : World} {g : Nat} {b b' : List Bool} (h : BRow w g b) (h' : BRow w g b') (hl : b.length = b'.length) : b = b' := by
  refine List.ext_getElem hl (fun i h1 h2 => ?_)
  have := (h i h1).1.symm.trans (h' i h2).1
  injection this with this
  injection this

/-- How many have not been met. -/
def isF : Option Value → Bool
 | some (.bool false) => true
 | _ => false
def cntW (w : World) (g n : Nat) : Nat := (List.range n).countP fun i => isF (w.cell? ⟨g, i, none⟩)
theorem cntW_eq {w : World} {g n : Nat} {b : List Bool} (hR : BRow w g b) (hn : b.length = n) : cntW w g n = b.count false := by
 subst hn
 have h : ∀ k, k ≤ b.length → (List.range k).countP (fun i => isF (w.cell? ⟨g, i, none⟩)) = (b.take k).count false := by
   intro k
   induction k with
   | zero => intro _; simp
   | succ k ih =>
     intro hk
     have hc := (hR k (by omega)).1
     rw [List.range_succ, List.countP_append, ih (by omega), List.take_succ_eq_append_getElem (by omega), List.count_append]
     simp only [List.countP_cons, List.countP_nil, hc]
     cases hb : b[k] <;> simp [isF]
 have := h b.length (Nat.le_refl _)
 rw [List.take_length] at this
 exact this
theorem count_set (b : List Bool) (k : Nat) (hk : k < b.length) (h : b.getD k false = false) : (b.set k true).count false + 1 = b.count false := by
  induction b generalizing k with
  | nil => simp at hk
  | cons a t ih =>
    cases k with
    | zero =>
      simp only [List.getD_cons_zero] at h
      subst h
      simp
    | succ k =>
      have := ih k (by simpa using hk) (by simpa using h)
      simp only [List.set_cons_succ, List.count_cons]
      omega

theorem BRow.grown {w w' : World} {g : Nat} {b : List Bool} {row : Option Nat} (h : BRow w g b) (hg : w.grownBy w' row) (hne : some g ≠ row) : BRow w' g b := fun j hj => by
  obtain ⟨h1, h2⟩ := h j hj
  have hlt := World.block_lt_of_cell? w _ h1
  exact ⟨hg.cell h1 hne, (World.frozen?_of_block (hg.block g hlt hne)).trans h2⟩

/-- A state that is there once has one pair. -/
theorem ofSt_one {s : Int} {l : List (Int × Int)} (h : dup (fsts l) = false) : (ofSt s l).length ≤ 1 := by
  induction l with
  | nil => simp [ofSt]
  | cons p t ih =>
    have h' : dup (p.1 :: fsts t) = false := h
    simp only [dup, Bool.or_eq_false_iff] at h'
    have ht := ih h'.2
    unfold ofSt at ht ⊢
    by_cases hp : (p.1 == s) = true
    · rw [List.filter_cons_of_pos (by simpa using hp)]
      have : t.filter (fun p => p.1 == s) = [] := by
        rw [List.filter_eq_nil_iff]
        intro q hq hqs
        have hc : (fsts t).contains p.1 = true := by
          simp only [beq_iff_eq] at hp hqs
          simp only [fsts, List.contains_iff_mem, List.mem_map]
          exact ⟨q, hq, by omega⟩
        rw [h'.1] at hc
        cases hc
      simp [this]
    · rw [List.filter_cons_of_neg (by simpa using hp)]
      exact ht

theorem leanL_len {ns : List Nd} {is xs : List (Int × Int)} (hi : dup (fsts is) = false) (hx : dup (fsts xs) = false) (i : Nat) : (leanL ns is xs i).length ≤ 3 := by
  unfold leanL
  split
  · have h1 := ofSt_one (s := i) hi
    have h2 := ofSt_one (s := i) hx
    rw [List.length_append]
    omega
  · unfold opsAt
    split
    · unfold opsL
      rw [List.length_take]
      simp
      omega
    · simp

def lenOf : Value → Nat | .slice _ n _ => n | _ => 0

end Go.Proofs.YtfobcnhibhbbaaaGreatDoor.Ev

namespace Go.Proofs.YtfobcnhibhbbaaaGreatDoor.Ev
open Go.RowKit
set_option maxRecDepth 100000

/-- What Cone tells beside its list. -/
def coneE (ns : List Nd) (is xs : List (Int × Int)) (bs hs rs : List Int) : Int :=
  if checkE ns is xs bs hs ≠ 0 then checkE ns is xs bs hs else if rs.any (fun x => !isN ns.length x) then 5 else 0

/-- The list that Cone tells, beside its number. -/
def ConeIs (ns : List Nd) (is xs : List (Int × Int)) (rs : List Int) (co : Int) (l : List Int) : Prop := if co = 0 then ∃ S, l = sel S ns.length ∧ IsCone ns is xs rs S else l = []
theorem ConeIs.yes {ns : List Nd} {is xs : List (Int × Int)} {rs : List Int} {co : Int} {S : Nat → Bool} (h : co = 0) (hS : IsCone ns is xs rs S) : ConeIs ns is xs rs co (sel S ns.length) := by
  unfold ConeIs; rw [if_pos h]; exact ⟨S, rfl, hS⟩
theorem ConeIs.no {ns : List Nd} {is xs : List (Int × Int)} {rs : List Int} {co : Int} (h : co ≠ 0) : ConeIs ns is xs rs co [] := by
  unfold ConeIs; rw [if_neg h]

theorem firstE_zero {f : Int × Int → Int} {l : List (Int × Int)} (h : firstE f l = 0) : ∀ p ∈ l, f p = 0 := by
  induction l with
  | nil => intro p hp; cases hp
  | cons q t ih =>
    simp only [firstE] at h
    by_cases hq : f q = 0
    · rw [if_neg (by simp [hq])] at h
      intro p hp
      rcases List.mem_cons.1 hp with rfl | hp
      · exact hq
      · exact ih h p hp
    · rw [if_pos hq] at h
      exact absurd h hq

theorem pairs_zero {ns : List Nd} {is xs : List (Int × Int)} (h : pairsE ns is xs = 0) : (∀ p ∈ is, initE ns p = 0) ∧ (∀ p ∈ xs, pairE ns p.1 p.2 = 0) ∧ dup (fsts is) = false ∧ dup (fsts xs) = false := by
  unfold pairsE at h
  by_cases h1 : firstE (initE ns) is = 0
  · rw [if_neg (by simp [h1])] at h
    by_cases h2 : firstE (nextE ns) xs = 0
    · rw [if_neg (by simp [h2])] at h
      by_cases h3 : (dup (fsts is) || dup (fsts xs)) = true
      · rw [if_pos h3] at h; omega
      · simp only [Bool.or_eq_true, not_or, Bool.not_eq_true] at h3
        exact ⟨firstE_zero h1, firstE_zero h2, h3.1, h3.2⟩
    · rw [if_pos h2] at h; exact absurd h h2
  · rw [if_pos h1] at h; exact absurd h h1

theorem check_zero {ns : List Nd} {is xs : List (Int × Int)} {bs hs : List Int} (h : checkE ns is xs bs hs = 0) :
    (ns.length ≤ 80 ∧ bs.length ≤ 8 ∧ hs.length ≤ 8) ∧ firstN (nodeAtE ns) ns.length = 0 ∧ pairsE ns is xs = 0 ∧ marksE ns xs bs hs = 0 := by
  unfold checkE at h
  by_cases h1 : 80 < ns.length ∨ 8 < bs.length ∨ 8 < hs.length
  · rw [if_pos h1] at h; omega
  rw [if_neg h1] at h
  by_cases h2 : firstN (nodeAtE ns) ns.length = 0
  · rw [if_neg (by simp [h2])] at h
    by_cases h3 : 6 < sumW ns (sel (isK ns 2) ns.length) ∨ 10 < sumW ns (sel (isK ns 3) ns.length)
    · rw [if_pos h3] at h; omega
    rw [if_neg h3] at h
    by_cases h4 : pairsE ns is xs = 0
    · rw [if_neg (by simp [h4])] at h
      exact ⟨by omega, h2, h4, h⟩
    · rw [if_pos h4] at h; exact absurd h h4
  · rw [if_pos h2] at h; exact absurd h h2

theorem check_lok {ns : List Nd} {is xs : List (Int × Int)} {bs hs : List Int} (h : checkE ns is xs bs hs = 0) : ns.length ≤ 80 ∧ Lok ns is xs ∧ dup (fsts is) = false ∧ dup (fsts xs) = false := by
  obtain ⟨h1, h2, h3, _⟩ := check_zero h
  obtain ⟨p1, p2, p3, p4⟩ := pairs_zero h3
  exact ⟨h1.1, lok_of (nodes_ok h2).2 (fun p hp => init_zero (p1 p hp)) p2, p3, p4⟩

theorem owns_lenOf {w : World} {base : Nat} {e : TypeId} {size : Nat} {v : Value} {n : Nat} {xs : List Value} (h : w.ownsRow base e size v n xs) : lenOf v = n := by
  rcases h.2 with ⟨rfl, rfl⟩ | ⟨g, cap, cur, rfl, _⟩ <;> rfl

theorem Box.kept {w w' : World} {B : Nat} {m : Mv} {l0 : Nat} (h : Box w B m l0) (hk : ∀ a v, a.block = B → w.cell? a = some v → w'.cell? a = some v) : Box w' B m l0 := by
  obtain ⟨q0, q1, q2, q3, q4⟩ := h
  exact ⟨hk _ _ rfl q0, hk _ _ rfl q1, hk _ _ rfl q2, hk _ _ rfl q3, hk _ _ rfl q4⟩

end Go.Proofs.YtfobcnhibhbbaaaGreatDoor.Ev

namespace Go.Proofs.YtfobcnhibhbbaaaGreatDoor.Ev
open Go.RowKit
set_option maxRecDepth 100000

theorem one_kinds {k : Int} (h : takes k = 1) (h4 : 4 ≤ k ∧ k ≤ 23) : k = 4 ∨ k = 5 ∨ k = 21 ∨ k = 22 ∨ k = 23 := by
  rcases kinds20 h4 with rfl | rfl | rfl | rfl | rfl | rfl | rfl | rfl | rfl | rfl | rfl | rfl | rfl | rfl | rfl | rfl | rfl | rfl | rfl | rfl
  all_goals first | (simp; done) | (exfalso; revert h; decide)

theorem nat_lt_two {x : Nat} {v : Int} (h : x < 2 ^ v.toNat) : isW (x : Int) v = true := isW_iff.2 ⟨by omega, by rw [two_nat]; exact_mod_cast h⟩
theorem lt_nat {a v : Int} (h : isW a v = true) : a.toNat < 2 ^ v.toNat := by
  have := isW_iff.1 h
  rw [two_nat] at this
  omega
theorem emod_isW (x v : Int) : isW (x % two v) v = true := isW_iff.2 ⟨Int.emod_nonneg _ (by have := two_pos v; omega), Int.emod_lt_of_pos _ (two_pos v)⟩

/-- What an operation makes is a word of its width. -/
theorem made_isW {k v a b c n wa wb wc : Int} (hfit : fitE k v n wa wb wc = 0) (ha : isW a wa = true) (hb : isW b wb = true) (hc : isW c wc = true) : isW (madeE k v a b c n wa wb) v = true := by
  obtain ⟨hv, hr, hok, hn, hk⟩ := fit_zero hfit
  have h0 := isW_iff.1 ha
  have h1 := isW_iff.1 hb
  have tv := two_pos v
  rcases kinds20 hk with rfl | rfl | rfl | rfl | rfl | rfl | rfl | rfl | rfl | rfl | rfl | rfl | rfl | rfl | rfl | rfl | rfl | rfl | rfl | rfl
  all_goals simp only [okOf] at hok
  all_goals simp only [madeE]
  · obtain rfl : wa = v := by simpa using hok
    refine isW_iff.2 ?_
    simp only [if_pos]
    omega
  · exact emod_isW _ _
  · obtain ⟨rfl, rfl⟩ : wa = v ∧ wb = wa := by simp at hok; omega
    exact nat_lt_two (Nat.lt_of_le_of_lt Nat.and_le_left (lt_nat ha))
  · obtain ⟨rfl, rfl⟩ : wa = v ∧ wb = wa := by simp at hok; omega
    exact nat_lt_two (Nat.or_lt_two_pow (lt_nat ha) (lt_nat hb))
  · obtain ⟨rfl, rfl⟩ : wa = v ∧ wb = wa := by simp at hok; omega
    exact nat_lt_two (Nat.xor_lt_two_pow (lt_nat ha) (lt_nat hb))
  · exact emod_isW _ _
  · exact emod_isW _ _
  · exact emod_isW _ _
  · obtain ⟨rfl, rfl⟩ : wa = v ∧ wb = wa := by simp at hok; omega
    have e1 := Int.ediv_nonneg h0.1 h1.1
    have e2 := Int.ediv_le_self b h0.1
    refine isW_iff.2 ?_
    simp
    split <;> omega
  · obtain ⟨rfl, rfl⟩ : wa = v ∧ wb = wa := by simp at hok; omega
    refine isW_iff.2 ?_
    simp
    split
    · omega
    · have e1 := Int.emod_nonneg a (show b ≠ 0 from by assumption)
      have e2 := Int.emod_lt_of_pos a (show 0 < b from by omega)
      omega
  · simp
    split
    · exact isW_iff.2 ⟨by omega, tv⟩
    · exact emod_isW _ _
  · obtain ⟨rfl, rfl⟩ : wa = v ∧ wb = wa := by simp at hok; omega
    have tb := two_pos b
    have e1 := Int.ediv_nonneg h0.1 (show 0 ≤ two b from by omega)
    have e2 := Int.ediv_le_self (two b) h0.1
    refine isW_iff.2 ?_
    simp
    split <;> omega
  · obtain ⟨_, rfl⟩ : wa = wb ∧ v = 1 := by simpa using hok
    simp [yesOf]
    split <;> decide
  · obtain ⟨_, rfl⟩ : wa = wb ∧ v = 1 := by simpa using hok
    simp [yesOf]
    split <;> decide
  · obtain ⟨_, rfl⟩ : wa = wb ∧ v = 1 := by simpa using hok
    simp [yesOf]
    split <;> decide
  · obtain ⟨⟨_, rfl⟩, rfl⟩ : (wa = 1 ∧ wb = v) ∧ wc = wb := by simp at hok; omega
    simp
    split
    · exact hb
    · exact hc
  · obtain rfl : wa + wb = v := by simpa using hok
    obtain ⟨wa0, wb0, _⟩ := rng_bd hr
    have e : two (wa + wb) = two wa * two wb := by
      unfold two
      rw [Int.toNat_add (by omega) (by omega), Int.pow_add]
    have hm := Int.mul_le_mul_of_nonneg_right (show a ≤ two wa - 1 from by omega) (show 0 ≤ two wb from by omega)
    have hp := Int.mul_nonneg h0.1 (show 0 ≤ two wb from by omega)
    refine isW_iff.2 ?_
    simp
    rw [e]
    rw [Int.sub_mul] at hm
    omega
  · exact emod_isW _ _
  · have hle : wa ≤ v := by simpa using hok
    obtain ⟨wa0, _, _⟩ := rng_bd hr
    have := two_mono wa v (by omega) hle
    refine isW_iff.2 ?_
    simp
    omega
  · exact emod_isW _ _

/-- How many nodes of a kind stand ahead. -/
def ahead (ns : List Nd) (kind : Int) (k : Nat) : Nat := (sel (isK ns kind) k).length
/-- The word of an operand; 0 where none is taken. -/
def opv (vs : List Int) (t i x : Int) : Int := if i < t then vs.getD x.toNat 0 else 0
/-- The word of a node, by those ahead of it. -/
def valAt (ns : List Nd) (sts ins vs : List Int) (k : Nat) : Int :=
  match ns[k]? with
  | none => 0
  | some x => if x.kind = 1 then x.n else if x.kind = 2 then ins.getD (ahead ns 2 k) 0 else if x.kind = 3 then sts.getD (ahead ns 3 k) 0
    else madeE x.kind x.width (opv vs (takes x.kind) 0 x.a) (opv vs (takes x.kind) 1 x.b) (opv vs (takes x.kind) 2 x.c) x.n (wds ns (takes x.kind) 0 x.a) (wds ns (takes x.kind) 1 x.b)
/-- The words of the first k nodes. -/
def vals (ns : List Nd) (sts ins : List Int) : Nat → List Int
  | 0 => []
  | k + 1 => vals ns sts ins k ++ [valAt ns sts ins (vals ns sts ins k) k]
theorem vals_len (ns : List Nd) (sts ins : List Int) (k : Nat) : (vals ns sts ins k).length = k := by
  induction k with
  | zero => rfl
  | succ k ih => simp [vals, ih]

/-- May these be the words of the nodes of a kind? -/
def wordsE (ns : List Nd) (kind : Int) (l : List Int) : Int :=
  if l.length ≠ (sel (isK ns kind) ns.length).length then 2
  else if (List.range l.length).any (fun i => !isW (l.getD i 0) (wdOf ns ((sel (isK ns kind) ns.length).getD i 0))) then 3 else 0

theorem sel_prefix (f : Nat → Bool) {k n : Nat} (h : k ≤ n) : (sel f k) <+: (sel f n) := by
  induction n with
  | zero => obtain rfl : k = 0 := by omega
            exact List.prefix_refl _
  | succ n ih =>
    rcases Nat.lt_or_ge k (n + 1) with h1 | h1
    · refine List.IsPrefix.trans (ih (by omega)) ?_
      cases hf : f n
      · rw [sel_no hf]; exact List.prefix_refl _
      · rw [sel_yes hf]; exact List.prefix_append _ _
    · obtain rfl : k = n + 1 := by omega
      exact List.prefix_refl _

/-- The node k, of a kind, is the one at its place among them. -/
theorem sel_place {f : Nat → Bool} {k n : Nat} (hk : k < n) (hf : f k = true) : (sel f k).length < (sel f n).length ∧ (sel f n).getD (sel f k).length 0 = (k : Int) := by
  have h := sel_prefix f (show k + 1 ≤ n from hk)
  rw [sel_yes hf] at h
  obtain ⟨t, ht⟩ := h
  rw [← ht]
  constructor
  · simp
  · simp [List.getD]

theorem words_zero {ns : List Nd} {kind : Int} {l : List Int} (h : wordsE ns kind l = 0) : l.length = (sel (isK ns kind) ns.length).length ∧ ∀ k, k < ns.length → isK ns kind k = true → ahead ns kind k < l.length ∧ isW (l.getD (ahead ns kind k) 0) (wdOf ns k) = true := by
  unfold wordsE at h
  by_cases h1 : l.length = (sel (isK ns kind) ns.length).length
  · rw [if_neg (by simp [h1])] at h
    refine ⟨h1, fun k hk hf => ?_⟩
    obtain ⟨p1, p2⟩ := sel_place hk hf
    have hlt : ahead ns kind k < l.length := by unfold ahead; omega
    refine ⟨hlt, ?_⟩
    by_cases h2 : (List.range l.length).any (fun i => !isW (l.getD i 0) (wdOf ns ((sel (isK ns kind) ns.length).getD i 0))) = true
    · rw [if_pos h2] at h; omega
    · have := List.any_eq_false.1 ((Bool.not_eq_true _).mp h2) (ahead ns kind k) (List.mem_range.2 hlt)
      rw [show (sel (isK ns kind) ns.length).getD (ahead ns kind k) 0 = (k : Int) from p2] at this
      simpa using this
  · rw [if_pos h1] at h; omega

end Go.Proofs.YtfobcnhibhbbaaaGreatDoor.Ev
