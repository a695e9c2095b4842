/- The plain text: every node's check; what a list has; inputs and states of a model. -/
import Derived.Test.YtfobcnhibhbbaaaNc
import Derived.Test.YtfobcnhibhbbaaaNd
import Derived.Test.YtfobcnhibhbbaaaMn
import Derived.Laws.AppendOwnNone
import Derived.Lib.SliceRun
namespace Go.Proofs.Ytfobcnhibhbbaaa
open Go.RowKit
set_option maxRecDepth 100000

theorem checkNodeR_any (p : Option Addr) (cap : Nat) (ns : List Nd) (hl : ns.length ≤ 80) (i : Nat) (hi : i < ns.length) (w : World) (hN : NodesAt w p ns) :
    Calls Try.prog 18 #[.slice p ns.length cap, .int .i64 i] w fun e w' => e = .returned (.int .i64 (nodeE ns i ns[i])) ∧ Below w.heap.size w w' := by
  by_cases hk : btw ns[i].kind 1 23 = true
  · by_cases hv : btw ns[i].width 1 8 = true
    · have hk2 := btw_true.1 hk
      by_cases h4 : 4 ≤ ns[i].kind
      · rcases takes_op h4 hk2.2 with ht | ht | ht
        · exact checkNodeR_op1 p cap ns hl i hi w hN h4 hk2.2 hv ht
        · exact checkNodeR_op2 p cap ns hl i hi w hN h4 hk2.2 hv ht
        · exact checkNodeR_op3 p cap ns hl i hi w hN h4 hk2.2 hv ht
      · have h3 : ns[i].kind = 1 ∨ ns[i].kind = 2 ∨ ns[i].kind = 3 := by omega
        rcases h3 with h | h | h
        · exact checkNodeR_1 p cap ns hl i hi w hN h hv
        · exact checkNodeR_2 p cap ns hl i hi w hN h hv
        · exact checkNodeR_3 p cap ns hl i hi w hN h hv
    · exact checkNodeR_bad p cap ns hl i hi w hN (.inr (by simpa using hv))
  · exact checkNodeR_bad p cap ns hl i hi w hN (.inl (by simpa using hk))

set_option maxRecDepth 100000 in
set_option maxHeartbeats 1000000 in
theorem inputs_any (a0 a1 a2 a3 a4 : Option Addr) (c0 c1 c2 c3 c4 : Nat) (ns : List Nd) (is xs : List (Int × Int)) (bs hs : List Int) (hln : ns.length ≤ 2932031007402) (hli : is.length ≤ 8796093022208) (hlx : xs.length ≤ 8796093022208) (hlb : bs.length ≤ maxLen) (hlh : hs.length ≤ maxLen) (w : World)
    (hN : NodesAt w a0 ns) (hI : PairsAt w a1 is) (hX : PairsAt w a2 xs) (hBs : IntsAt w a3 bs) (hHs : IntsAt w a4 hs) :
    Calls Try.prog 37 #[Mv.val ⟨a0, c0, a1, is.length, c1, a2, xs.length, c2, a3, bs.length, c3, a4, hs.length, c4⟩ ns.length] w fun e w' =>
      ∃ p cap l, e = .returned (.tuple #[.slice p l.length cap, .int .i64 (checkE ns is xs bs hs)]) ∧ l = (if checkE ns is xs bs hs = 0 then sel (isK ns 2) ns.length else []) ∧ IntsAt w' p l ∧ Below w.heap.size w w' := by
  have HB0 : Hid (Below w.heap.size w (w.alloc (.cells (Mv.cells ⟨a0, c0, a1, is.length, c1, a2, xs.length, c2, a3, bs.length, c3, a4, hs.length, c4⟩ ns.length) 26))) := bal (Below.refl _ _) _
  have HBx := hide (Box.new w ⟨a0, c0, a1, is.length, c1, a2, xs.length, c2, a3, bs.length, c3, a4, hs.length, c4⟩ ns.length)
  have HK := hide (fun _ : Unit => check_any a0 a1 a2 a3 a4 c0 c1 c2 c3 c4 ns is xs bs hs (by unfold maxLen; omega) hli hlx hlb hlh _ (hN.later HB0.out) (hI.later HB0.out) (hX.later HB0.out) (hBs.later HB0.out) (hHs.later HB0.out))
  generalize checkE ns is xs bs hs = ce at *
  go_enter Try.func37, Try.ntmps37
  go_wp2_with fail
  refine (HK.out ()).mono ?_
  rintro e w1 ⟨rfl, hb1⟩
  have hbw := bthen HB0.out hb1
  have HBB := hide (HBx.out.later hb1)
  have hbox := HBB.out
  simp only [Box] at hbox
  obtain ⟨q0, q1, q2, q3, q4⟩ := hbox
  by_cases hce : ce = 0
  · subst hce
    have HO := hide (fun _ : Unit => ofKind_any a0 c0 ns hln 2 w1 (hN.later hbw))
    go_wp2_with fail
    refine (HO.out ()).mono ?_
    rintro e w2 ⟨p, cap, rfl, hl, hb2⟩
    go_wp2
    go_ret2
    exact ⟨p, cap, _, rfl, by simp, hl, bthen hbw hb2⟩
  · have hne : (ce != 0) = true := by simp [hce]
    have HE := hide hce
    clear hce
    go_wp2
    go_ret2
    exact ⟨none, 0, [], rfl, by first | rfl | rw [if_neg HE.out], fun h => by simp at h, hbw⟩

end Go.Proofs.Ytfobcnhibhbbaaa

namespace Go.Proofs.Ytfobcnhibhbbaaa
open Go.RowKit
set_option maxRecDepth 100000

theorem sub_len {l r : List Int} (hl : l.Nodup) (hs : ∀ x ∈ l, x ∈ r) : l.length ≤ r.length := by
  induction l generalizing r with
  | nil => simp
  | cons a t ih =>
    have ha : a ∈ r := hs a (by simp)
    have hn := List.nodup_cons.1 hl
    have h1 : t.length ≤ (r.erase a).length := ih hn.2 (fun x hx => (List.mem_erase_of_ne (fun (h : x = a) => hn.1 (h ▸ hx))).2 (hs x (by simp [hx])))
    rw [List.length_erase_of_mem ha] at h1
    have : 0 < r.length := List.length_pos_of_mem ha
    simp only [List.length_cons]
    omega

theorem dup_nodup {l : List Int} (h : dup l = false) : l.Nodup := by
  induction l with
  | nil => simp
  | cons a t ih =>
    simp only [dup, Bool.or_eq_false_iff] at h
    refine List.nodup_cons.2 ⟨?_, ih h.2⟩
    intro hm
    have : t.contains a = true := by simpa using hm
    rw [h.1] at this
    cases this

theorem mem_sel {f : Nat → Bool} {k : Nat} {x : Int} : x ∈ sel f k ↔ ∃ i, i < k ∧ f i = true ∧ x = i := by
  unfold sel
  simp only [List.mem_map, List.mem_filter, List.mem_range]
  constructor
  · rintro ⟨i, ⟨h1, h2⟩, rfl⟩; exact ⟨i, h1, h2, rfl⟩
  · rintro ⟨i, h1, h2, rfl⟩; exact ⟨i, ⟨h1, h2⟩, rfl⟩

theorem sel_rises (f : Nat → Bool) (k : Nat) : (sel f k).Pairwise (· < ·) := by
  induction k with
  | zero => simp [sel]
  | succ k ih =>
    cases h : f k
    · rw [sel_no h]; exact ih
    · rw [sel_yes h, List.pairwise_append]
      refine ⟨ih, by simp, ?_⟩
      intro a ha b hb
      obtain ⟨i, hi, _, rfl⟩ := mem_sel.1 ha
      simp at hb
      omega

theorem sel_nodup (f : Nat → Bool) (k : Nat) : (sel f k).Nodup :=
  (sel_rises f k).imp (fun h => by omega)

theorem isK_kdOf {ns : List Nd} {kind x : Int} (h0 : 0 ≤ x) (h1 : x < ns.length) : isK ns kind x.toNat = (kdOf ns x == kind) := by
  unfold isK kdOf
  rw [List.getElem?_eq_getElem (by omega)]

theorem pigeon {ns : List Nd} {xs : List (Int × Int)} (hx : ∀ p ∈ xs, pairE ns p.1 p.2 = 0) (hd : dup (fsts xs) = false) :
    (xs.length = (sel (isK ns 3) ns.length).length) ↔ ((sel (isK ns 3) ns.length).any (fun s => !hasSt s xs) = false) := by
  have hnd := dup_nodup hd
  have hlen : (fsts xs).length = xs.length := by simp [fsts]
  have hsub : ∀ x ∈ fsts xs, x ∈ sel (isK ns 3) ns.length := by
    intro x h
    unfold fsts at h
    obtain ⟨p, hp, rfl⟩ := List.mem_map.1 h
    obtain ⟨⟨h0, h1⟩, _, hk, _⟩ := pairE_zero (hx p hp)
    refine mem_sel.2 ⟨p.1.toNat, by omega, ?_, by omega⟩
    rw [isK_kdOf h0 h1, hk]; rfl
  have hst : ∀ s, hasSt s xs = true ↔ s ∈ fsts xs := by
    intro s
    unfold hasSt fsts
    simp only [List.any_eq_true, beq_iff_eq, List.mem_map]
  constructor
  · intro he
    refine List.any_eq_false.2 (fun s hs => ?_)
    have : hasSt s xs = true := by
      rw [hst]
      refine Classical.byContradiction fun hno => ?_
      have := sub_len (l := s :: fsts xs) (r := sel (isK ns 3) ns.length) (List.nodup_cons.2 ⟨hno, hnd⟩) (by
        intro x h
        rcases List.mem_cons.1 h with rfl | h
        · exact hs
        · exact hsub x h)
      simp only [List.length_cons] at this
      omega
    rw [this]; simp
  · intro he
    have h1 := sub_len hnd hsub
    have h2 := sub_len (sel_nodup (isK ns 3) ns.length) (r := fsts xs) (by
      intro s hs
      have := List.any_eq_false.1 he s hs
      rw [← hst]
      simpa using this)
    omega

/-- What the nodes' own words are made of. -/
def opsAt (ns : List Nd) (i : Nat) : List Int := match ns[i]? with | some x => opsL x | none => []
theorem opsAt_at {ns : List Nd} {i : Nat} (h : i < ns.length) : opsAt ns i = opsL ns[i] := by
  unfold opsAt; rw [List.getElem?_eq_getElem h]
/-- The nodes of the pairs of a state. -/
def ofSt (s : Int) (l : List (Int × Int)) : List Int := (l.filter (fun p => p.1 == s)).map (·.2)
/-- The nodes on which one leans at once. -/
def leanL (ns : List Nd) (is xs : List (Int × Int)) (i : Nat) : List Int := if isK ns 3 i then ofSt i is ++ ofSt i xs else opsAt ns i

def Closed (ns : List Nd) (is xs : List (Int × Int)) (S : Nat → Bool) : Prop := ∀ i, i < ns.length → S i = true → ∀ y ∈ leanL ns is xs i, S y.toNat = true
def Roots (rs : List Int) (S : Nat → Bool) : Prop := ∀ r ∈ rs, S r.toNat = true

/-- The least closed set that has the roots. -/
structure IsCone (ns : List Nd) (is xs : List (Int × Int)) (rs : List Int) (S : Nat → Bool) : Prop where
  root : Roots rs S
  clo : Closed ns is xs S
  least : ∀ T, Roots rs T → Closed ns is xs T → ∀ i, i < ns.length → S i = true → T i = true

theorem sel_congr {S T : Nat → Bool} {n : Nat} (h : ∀ i, i < n → S i = T i) : sel S n = sel T n := by
  induction n with
  | zero => rfl
  | succ n ih =>
    have h1 := ih (fun i hi => h i (by omega))
    have h2 := h n (by omega)
    cases hT : T n
    · rw [sel_no hT, sel_no (h2.trans hT), h1]
    · rw [sel_yes hT, sel_yes (h2.trans hT), h1]

theorem bool_iff {a b : Bool} (h : a = true ↔ b = true) : a = b := by cases a <;> cases b <;> simp_all

theorem cone_one {ns : List Nd} {is xs : List (Int × Int)} {rs : List Int} {S T : Nat → Bool} (h : IsCone ns is xs rs S) (k : IsCone ns is xs rs T) : sel S ns.length = sel T ns.length :=
  sel_congr fun i hi => bool_iff ⟨h.least T k.root k.clo i hi, k.least S h.root h.clo i hi⟩

theorem cone_again {ns : List Nd} {is xs : List (Int × Int)} {rs : List Int} {S T : Nat → Bool} (h : IsCone ns is xs rs S) (k : IsCone ns is xs (sel S ns.length) T) : sel T ns.length = sel S ns.length :=
  sel_congr fun i hi => bool_iff ⟨k.least S (fun r hr => by obtain ⟨j, _, hS, rfl⟩ := mem_sel.1 hr; simpa using hS) h.clo i hi,
    fun hS => by have := k.root (i : Int) (mem_sel.2 ⟨i, hi, hS, rfl⟩); simpa using this⟩

/-- All nodes on which one leans are there. -/
def Lok (ns : List Nd) (is xs : List (Int × Int)) : Prop := ∀ i, i < ns.length → ∀ y ∈ leanL ns is xs i, 0 ≤ y ∧ y < ns.length

theorem lok_of {ns : List Nd} {is xs : List (Int × Int)} (hO : Ook ns) (hi : ∀ p ∈ is, pairE ns p.1 p.2 = 0) (hx : ∀ p ∈ xs, pairE ns p.1 p.2 = 0) : Lok ns is xs := by
  intro i hlt y hy
  unfold leanL at hy
  cases hk : isK ns 3 i
  · rw [if_neg (by simp [hk]), opsAt_at hlt] at hy
    have := hO i hlt y hy
    omega
  · rw [if_pos hk] at hy
    have key : ∀ l : List (Int × Int), (∀ p ∈ l, pairE ns p.1 p.2 = 0) → y ∈ ofSt i l → 0 ≤ y ∧ y < ns.length := by
      intro l hl hm
      unfold ofSt at hm
      obtain ⟨p, hp, rfl⟩ := List.mem_map.1 hm
      exact (pairE_zero (hl p (List.mem_filter.1 hp).1)).2.1
    rcases List.mem_append.1 hy with h | h
    · exact key is hi h
    · exact key xs hx h

/-- What holds as the work goes on: met so far, and still to do. -/
structure Work (ns : List Nd) (is xs : List (Int × Int)) (rs : List Int) (b : List Bool) (l : List Int) : Prop where
  len : b.length = ns.length
  rng : ∀ y ∈ l, 0 ≤ y ∧ y < ns.length
  root : ∀ r ∈ rs, b.getD r.toNat false = true ∨ r ∈ l
  clo : ∀ i, i < ns.length → b.getD i false = true → ∀ y ∈ leanL ns is xs i, b.getD y.toNat false = true ∨ y ∈ l
  least : ∀ T, Roots rs T → Closed ns is xs T → (∀ i, i < ns.length → b.getD i false = true → T i = true) ∧ (∀ y ∈ l, T y.toNat = true)

theorem getD_rep (n i : Nat) : (List.replicate n false).getD i false = false := by
  simp only [List.getD, List.getElem?_replicate]
  split <;> rfl

theorem Work.start {ns : List Nd} {is xs : List (Int × Int)} {rs : List Int} (h : ∀ r ∈ rs, 0 ≤ r ∧ r < ns.length) : Work ns is xs rs (List.replicate ns.length false) rs :=
  ⟨by simp, h, fun r hr => .inr hr, fun i _ hi => (by rw [getD_rep] at hi; cases hi), fun T hT _ => ⟨fun i _ hi => (by rw [getD_rep] at hi; cases hi), hT⟩⟩

theorem Work.met {ns : List Nd} {is xs : List (Int × Int)} {rs : List Int} {b : List Bool} {l : List Int} {x : Int} (h : Work ns is xs rs b (l ++ [x])) (hb : b.getD x.toNat false = true) : Work ns is xs rs b l := by
  refine ⟨h.len, fun y hy => h.rng y (List.mem_append.2 (.inl hy)), ?_, ?_, ?_⟩
  · intro r hr
    rcases h.root r hr with h1 | h1
    · exact .inl h1
    · rcases List.mem_append.1 h1 with h2 | h2
      · exact .inr h2
      · rw [List.mem_singleton.1 h2]; exact .inl hb
  · intro i hi hbi y hy
    rcases h.clo i hi hbi y hy with h1 | h1
    · exact .inl h1
    · rcases List.mem_append.1 h1 with h2 | h2
      · exact .inr h2
      · rw [List.mem_singleton.1 h2]; exact .inl hb
  · intro T h1 h2
    obtain ⟨h3, h4⟩ := h.least T h1 h2
    exact ⟨h3, fun y hy => h4 y (List.mem_append.2 (.inl hy))⟩

theorem getD_set (b : List Bool) (k j : Nat) (hk : k < b.length) : (b.set k true).getD j false = if j = k then true else b.getD j false := by
  simp only [List.getD, List.getElem?_set]
  by_cases h : j = k
  · subst h; simp [hk]
  · have h' : ¬ k = j := fun e => h e.symm
    simp [h, h']

theorem Work.more {ns : List Nd} {is xs : List (Int × Int)} {rs : List Int} {b : List Bool} {l : List Int} {x : Int} (hL : Lok ns is xs) (h : Work ns is xs rs b (l ++ [x])) : Work ns is xs rs (b.set x.toNat true) (l ++ leanL ns is xs x.toNat) := by
  have hx := h.rng x (by simp)
  have hlt : x.toNat < b.length := by have := h.len; omega
  have up : ∀ j, b.getD j false = true → (b.set x.toNat true).getD j false = true := by
    intro j hj; rw [getD_set _ _ _ hlt]; split
    · rfl
    · exact hj
  have here : (b.set x.toNat true).getD x.toNat false = true := by rw [getD_set _ _ _ hlt, if_pos rfl]
  refine ⟨by simpa using h.len, ?_, ?_, ?_, ?_⟩
  · intro y hy
    rcases List.mem_append.1 hy with h1 | h1
    · exact h.rng y (List.mem_append.2 (.inl h1))
    · exact hL _ (by omega) y h1
  · intro r hr
    rcases h.root r hr with h1 | h1
    · exact .inl (up _ h1)
    · rcases List.mem_append.1 h1 with h2 | h2
      · exact .inr (List.mem_append.2 (.inl h2))
      · rw [List.mem_singleton.1 h2]; exact .inl here
  · intro i hi hbi y hy
    by_cases he : i = x.toNat
    · subst he; exact .inr (List.mem_append.2 (.inr hy))
    · rw [getD_set _ _ _ hlt, if_neg he] at hbi
      rcases h.clo i hi hbi y hy with h1 | h1
      · exact .inl (up _ h1)
      · rcases List.mem_append.1 h1 with h2 | h2
        · exact .inr (List.mem_append.2 (.inl h2))
        · rw [List.mem_singleton.1 h2]; exact .inl here
  · intro T h1 h2
    obtain ⟨h3, h4⟩ := h.least T h1 h2
    have hTx := h4 x (by simp)
    refine ⟨fun i hi hbi => ?_, fun y hy => ?_⟩
    · by_cases he : i = x.toNat
      · subst he; exact hTx
      · rw [getD_set _ _ _ hlt, if_neg he] at hbi
        exact h3 i hi hbi
    · rcases List.mem_append.1 hy with h5 | h5
      · exact h4 y (List.mem_append.2 (.inl h5))
      · exact h2 _ (by omega) hTx y h5

theorem Work.done {ns : List Nd} {is xs : List (Int × Int)} {rs : List Int} {b : List Bool} (h : Work ns is xs rs b []) : IsCone ns is xs rs (fun i => b.getD i false) :=
  ⟨fun r hr => (h.root r hr).resolve_right (by simp), fun i hi hb y hy => (h.clo i hi hb y hy).resolve_right (by simp), fun T h1 h2 => (h.least T h1 h2).1⟩


end Go.Proofs.Ytfobcnhibhbbaaa

namespace Go.Proofs.Ytfobcnhibhbbaaa
open Go.RowKit
set_option maxRecDepth 100000

theorem ofSt_take (s : Int) (l : List (Int × Int)) (k : Nat) (h : k < l.length) : ofSt s (l.take (k + 1)) = ofSt s (l.take k) ++ (if l[k].1 == s then [l[k].2] else []) := by
  unfold ofSt
  rw [List.take_succ_eq_append_getElem h, List.filter_append, List.map_append]
  cases hf : (l[k].1 == s) <;> simp [hf]

theorem ofSt_len (s : Int) (l : List (Int × Int)) (k : Nat) : (ofSt s (l.take k)).length ≤ k := by
  unfold ofSt
  rw [List.length_map]
  have := List.length_filter_le (fun p : Int × Int => p.1 == s) (l.take k)
  rw [List.length_take] at this
  omega

theorem ofSt_len2 (s : Int) (l : List (Int × Int)) : (ofSt s l).length ≤ l.length := by
  have := ofSt_len s l l.length
  rwa [List.take_length] at this

theorem owns_cap {w : World} {base : Nat} {p : Option Addr} {n cap : Nat} {l : List Value} (h : w.ownsRow base 3 1 (.slice p n cap) n l) : p = none → cap = 0 := by
  intro hp
  subst hp
  rcases h.2 with ⟨h1, _⟩ | ⟨g, cap', cur, h1, _⟩
  · injection h1
  · cases h1

theorem operandsS_any (x : Nd) (w : World) :
    Calls Try.prog 70 #[.agg #[.int .i64 x.kind, .int .i64 x.width, .int .i64 x.a, .int .i64 x.b, .int .i64 x.c, .int .i64 x.n]] w fun e w' =>
      ∃ g, e = .returned (.slice (some ⟨g, 0, none⟩) (opsL x).length 3) ∧ IntsAt w' (some ⟨g, 0, none⟩) (opsL x) ∧ Below w.heap.size w w' := by
  obtain ⟨h1, h2⟩ := takes_nat x.kind
  refine (operands_at x.kind x.width x.a x.b x.c x.n (takes x.kind).toNat h1 h2 w).mono ?_
  rintro e w' ⟨g, rfl, hI, hb⟩
  exact ⟨g, by rw [opsL_len], hI, hb⟩

/-- The nodes of the pairs of a state, of none, one or both lists. -/
def leanN (i : Int) (is xs : List (Int × Int)) : Nat → List Int
  | 0 => []
  | 1 => ofSt i is
  | _ => ofSt i is ++ ofSt i xs

end Go.Proofs.Ytfobcnhibhbbaaa

namespace Go.Proofs.Ytfobcnhibhbbaaa
open Go.RowKit
set_option maxRecDepth 100000

theorem owns_below {w w1 : World} {base : Nat} {e : TypeId} {size : Nat} {v : Value} {n : Nat} {xs : List Value} (h : w.ownsRow base e size v n xs) (hb : Below w.heap.size w w1) : w1.ownsRow base e size v n xs := by
  refine ⟨h.1, ?_⟩
  rcases h.2 with h0 | ⟨g, cap, cur, hv, hg, hh, r⟩
  · exact .inl h0
  · refine .inr ⟨g, cap, cur, hv, hg, ?_, r⟩
    obtain ⟨h1, _⟩ := Array.getElem?_eq_some_iff.1 hh
    rw [hb.block g h1]
    exact hh

theorem owns_set {w : World} {base : Nat} {e : TypeId} {size : Nat} {v : Value} {n : Nat} {xs : List Value} (h : w.ownsRow base e size v n xs) (a : Addr) (u : Value) (ha : a.block < base) : (w.setCell a u).ownsRow base e size v n xs := by
  refine ⟨h.1, ?_⟩
  rcases h.2 with h0 | ⟨g, cap, cur, hv, hg, hh, r⟩
  · exact .inl h0
  · refine .inr ⟨g, cap, cur, hv, hg, ?_, r⟩
    rw [Below.heap_setCell w a u g (by omega)]
    exact hh

theorem owns_pop {w : World} {base : Nat} {g cap : Nat} {l : List Int} {x : Int} (h : w.ownsRow base 3 1 (.slice (some ⟨g, 0, none⟩) (l.length + 1) cap) (l.length + 1) ((l ++ [x]).map (Value.int .i64))) :
    w.ownsRow base 3 1 (.slice (some ⟨g, 0, none⟩) l.length cap) l.length (l.map (Value.int .i64)) := by
  obtain ⟨h1, h2⟩ := h
  rcases h2 with ⟨h0, _⟩ | ⟨g', cap', cur, hv, hg, hh, hn, hcap, hsz, htake⟩
  · cases h0
  · cases hv
    refine ⟨by simp, .inr ⟨g, cap, cur, rfl, hg, hh, by omega, hcap, hsz, ?_⟩⟩
    have h3 : (cur.toList.take ((l.length + 1) * 1)).take (l.length * 1) = ((l ++ [x]).map (Value.int .i64)).take (l.length * 1) := by rw [htake]
    rw [List.take_take, Nat.min_eq_left (by omega)] at h3
    rw [h3, List.map_append]
    simp

theorem owns_last {w : World} {base : Nat} {v : Value} {l : List Int} {x : Int} (h : w.ownsRow base 3 1 v (l ++ [x]).length ((l ++ [x]).map (Value.int .i64))) :
    ∃ g cap, v = .slice (some ⟨g, 0, none⟩) (l.length + 1) cap ∧ base ≤ g ∧ l.length + 1 ≤ cap ∧ cap ≤ maxLen ∧ w.cell? ⟨g, l.length, none⟩ = some (.int .i64 x) ∧ w.ownsRow base 3 1 (.slice (some ⟨g, 0, none⟩) l.length cap) l.length (l.map (Value.int .i64)) := by
  have e : (l ++ [x]).length = l.length + 1 := by simp
  rw [e] at h
  rcases h.2 with ⟨h0, h1⟩ | ⟨g, cap, cur, rfl, hg, hh, hn, hcap, hsz, htake⟩
  · omega
  · refine ⟨g, cap, rfl, hg, hn, hcap, ?_, owns_pop h⟩
    rw [h.cellAt l.length (by omega), List.getElem?_map]
    simp

theorem BRow_uniq {w : World} {g : Nat} {b b' : List Bool} (h : BRow w g b) (h' : BRow w g b') (hl : b.length = b'.length) : b = b' := by
  refine List.ext_getElem hl (fun i h1 h2 => ?_)
  have := (h i h1).1.symm.trans (h' i h2).1
  injection this with this
  injection this

/-- How many have not been met. -/
def isF : Option Value → Bool
 | some (.bool false) => true
 | _ => false
def cntW (w : World) (g n : Nat) : Nat := (List.range n).countP fun i => isF (w.cell? ⟨g, i, none⟩)
theorem cntW_eq {w : World} {g n : Nat} {b : List Bool} (hR : BRow w g b) (hn : b.length = n) : cntW w g n = b.count false := by
 subst hn
 have h : ∀ k, k ≤ b.length → (List.range k).countP (fun i => isF (w.cell? ⟨g, i, none⟩)) = (b.take k).count false := by
   intro k
   induction k with
   | zero => intro _; simp
   | succ k ih =>
     intro hk
     have hc := (hR k (by omega)).1
     rw [List.range_succ, List.countP_append, ih (by omega), List.take_succ_eq_append_getElem (by omega), List.count_append]
     simp only [List.countP_cons, List.countP_nil, hc]
     cases hb : b[k] <;> simp [isF]
 have := h b.length (Nat.le_refl _)
 rw [List.take_length] at this
 exact this
theorem count_set (b : List Bool) (k : Nat) (hk : k < b.length) (h : b.getD k false = false) : (b.set k true).count false + 1 = b.count false := by
  induction b generalizing k with
  | nil => simp at hk
  | cons a t ih =>
    cases k with
    | zero =>
      simp only [List.getD_cons_zero] at h
      subst h
      simp
    | succ k =>
      have := ih k (by simpa using hk) (by simpa using h)
      simp only [List.set_cons_succ, List.count_cons]
      omega

theorem BRow.grown {w w' : World} {g : Nat} {b : List Bool} {row : Option Nat} (h : BRow w g b) (hg : w.grownBy w' row) (hne : some g ≠ row) : BRow w' g b := fun j hj => by
  obtain ⟨h1, h2⟩ := h j hj
  have hlt := World.block_lt_of_cell? w _ h1
  exact ⟨hg.cell h1 hne, (World.frozen?_of_block (hg.block g hlt hne)).trans h2⟩

/-- A state that is there once has one pair. -/
theorem ofSt_one {s : Int} {l : List (Int × Int)} (h : dup (fsts l) = false) : (ofSt s l).length ≤ 1 := by
  induction l with
  | nil => simp [ofSt]
  | cons p t ih =>
    have h' : dup (p.1 :: fsts t) = false := h
    simp only [dup, Bool.or_eq_false_iff] at h'
    have ht := ih h'.2
    unfold ofSt at ht ⊢
    by_cases hp : (p.1 == s) = true
    · rw [List.filter_cons_of_pos (by simpa using hp)]
      have : t.filter (fun p => p.1 == s) = [] := by
        rw [List.filter_eq_nil_iff]
        intro q hq hqs
        have hc : (fsts t).contains p.1 = true := by
          simp only [beq_iff_eq] at hp hqs
          simp only [fsts, List.contains_iff_mem, List.mem_map]
          exact ⟨q, hq, by omega⟩
        rw [h'.1] at hc
        cases hc
      simp [this]
    · rw [List.filter_cons_of_neg (by simpa using hp)]
      exact ht

theorem leanL_len {ns : List Nd} {is xs : List (Int × Int)} (hi : dup (fsts is) = false) (hx : dup (fsts xs) = false) (i : Nat) : (leanL ns is xs i).length ≤ 3 := by
  unfold leanL
  split
  · have h1 := ofSt_one (s := i) hi
    have h2 := ofSt_one (s := i) hx
    rw [List.length_append]
    omega
  · unfold opsAt
    split
    · unfold opsL
      rw [List.length_take]
      simp
      omega
    · simp

def lenOf : Value → Nat | .slice _ n _ => n | _ => 0

end Go.Proofs.Ytfobcnhibhbbaaa

namespace Go.Proofs.Ytfobcnhibhbbaaa
open Go.RowKit
set_option maxRecDepth 100000

/-- What Cone tells beside its list. -/
def coneE (ns : List Nd) (is xs : List (Int × Int)) (bs hs rs : List Int) : Int :=
  if checkE ns is xs bs hs ≠ 0 then checkE ns is xs bs hs else if rs.any (fun x => !isN ns.length x) then 5 else 0

/-- The list that Cone tells, beside its number. -/
def ConeIs (ns : List Nd) (is xs : List (Int × Int)) (rs : List Int) (co : Int) (l : List Int) : Prop := if co = 0 then ∃ S, l = sel S ns.length ∧ IsCone ns is xs rs S else l = []
theorem ConeIs.yes {ns : List Nd} {is xs : List (Int × Int)} {rs : List Int} {co : Int} {S : Nat → Bool} (h : co = 0) (hS : IsCone ns is xs rs S) : ConeIs ns is xs rs co (sel S ns.length) := by
  unfold ConeIs; rw [if_pos h]; exact ⟨S, rfl, hS⟩
theorem ConeIs.no {ns : List Nd} {is xs : List (Int × Int)} {rs : List Int} {co : Int} (h : co ≠ 0) : ConeIs ns is xs rs co [] := by
  unfold ConeIs; rw [if_neg h]

theorem firstE_zero {f : Int × Int → Int} {l : List (Int × Int)} (h : firstE f l = 0) : ∀ p ∈ l, f p = 0 := by
  induction l with
  | nil => intro p hp; cases hp
  | cons q t ih =>
    simp only [firstE] at h
    by_cases hq : f q = 0
    · rw [if_neg (by simp [hq])] at h
      intro p hp
      rcases List.mem_cons.1 hp with rfl | hp
      · exact hq
      · exact ih h p hp
    · rw [if_pos hq] at h
      exact absurd h hq

theorem pairs_zero {ns : List Nd} {is xs : List (Int × Int)} (h : pairsE ns is xs = 0) : (∀ p ∈ is, initE ns p = 0) ∧ (∀ p ∈ xs, pairE ns p.1 p.2 = 0) ∧ dup (fsts is) = false ∧ dup (fsts xs) = false := by
  unfold pairsE at h
  by_cases h1 : firstE (initE ns) is = 0
  · rw [if_neg (by simp [h1])] at h
    by_cases h2 : firstE (nextE ns) xs = 0
    · rw [if_neg (by simp [h2])] at h
      by_cases h3 : (dup (fsts is) || dup (fsts xs)) = true
      · rw [if_pos h3] at h; omega
      · simp only [Bool.or_eq_true, not_or, Bool.not_eq_true] at h3
        exact ⟨firstE_zero h1, firstE_zero h2, h3.1, h3.2⟩
    · rw [if_pos h2] at h; exact absurd h h2
  · rw [if_pos h1] at h; exact absurd h h1

theorem check_zero {ns : List Nd} {is xs : List (Int × Int)} {bs hs : List Int} (h : checkE ns is xs bs hs = 0) :
    (ns.length ≤ 80 ∧ bs.length ≤ 8 ∧ hs.length ≤ 8) ∧ firstN (nodeAtE ns) ns.length = 0 ∧ pairsE ns is xs = 0 ∧ marksE ns xs bs hs = 0 := by
  unfold checkE at h
  by_cases h1 : 80 < ns.length ∨ 8 < bs.length ∨ 8 < hs.length
  · rw [if_pos h1] at h; omega
  rw [if_neg h1] at h
  by_cases h2 : firstN (nodeAtE ns) ns.length = 0
  · rw [if_neg (by simp [h2])] at h
    by_cases h3 : 6 < sumW ns (sel (isK ns 2) ns.length) ∨ 10 < sumW ns (sel (isK ns 3) ns.length)
    · rw [if_pos h3] at h; omega
    rw [if_neg h3] at h
    by_cases h4 : pairsE ns is xs = 0
    · rw [if_neg (by simp [h4])] at h
      exact ⟨by omega, h2, h4, h⟩
    · rw [if_pos h4] at h; exact absurd h h4
  · rw [if_pos h2] at h; exact absurd h h2

theorem check_lok {ns : List Nd} {is xs : List (Int × Int)} {bs hs : List Int} (h : checkE ns is xs bs hs = 0) : ns.length ≤ 80 ∧ Lok ns is xs ∧ dup (fsts is) = false ∧ dup (fsts xs) = false := by
  obtain ⟨h1, h2, h3, _⟩ := check_zero h
  obtain ⟨p1, p2, p3, p4⟩ := pairs_zero h3
  exact ⟨h1.1, lok_of (nodes_ok h2).2 (fun p hp => init_zero (p1 p hp)) p2, p3, p4⟩

theorem owns_lenOf {w : World} {base : Nat} {e : TypeId} {size : Nat} {v : Value} {n : Nat} {xs : List Value} (h : w.ownsRow base e size v n xs) : lenOf v = n := by
  rcases h.2 with ⟨rfl, rfl⟩ | ⟨g, cap, cur, rfl, _⟩ <;> rfl

theorem Box.kept {w w' : World} {B : Nat} {m : Mv} {l0 : Nat} (h : Box w B m l0) (hk : ∀ a v, a.block = B → w.cell? a = some v → w'.cell? a = some v) : Box w' B m l0 := by
  obtain ⟨q0, q1, q2, q3, q4⟩ := h
  exact ⟨hk _ _ rfl q0, hk _ _ rfl q1, hk _ _ rfl q2, hk _ _ rfl q3, hk _ _ rfl q4⟩

end Go.Proofs.Ytfobcnhibhbbaaa
