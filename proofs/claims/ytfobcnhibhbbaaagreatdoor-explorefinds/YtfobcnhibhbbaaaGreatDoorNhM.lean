/- The plain text: a node is checked. -/
import Derived.Test.YtfobcnhibhbbaaaGreatDoorMn
namespace Go.Proofs.YtfobcnhibhbbaaaGreatDoor.Ev
open Go.RowKit
set_option maxRecDepth 100000

end Go.Proofs.YtfobcnhibhbbaaaGreatDoor.Ev

namespace Go.Proofs.YtfobcnhibhbbaaaGreatDoor.Ev
open Go.RowKit
set_option maxRecDepth 100000

theorem btw_isW (n v : Int) (hv : 0 ≤ v ∧ v ≤ 8) : btw n 0 (wrap64 (two v - 1)) = isW n v := by
  have := two_bd hv
  rw [show wrap64 (two v - 1) = two v - 1 from by unfold wrap64; omega, Bool.eq_iff_iff, btw_true, isW_iff]
  omega


end Go.Proofs.YtfobcnhibhbbaaaGreatDoor.Ev

namespace Go.Proofs.YtfobcnhibhbbaaaGreatDoor.Ev
open Go.RowKit
set_option maxRecDepth 100000

end Go.Proofs.YtfobcnhibhbbaaaGreatDoor.Ev

namespace Go.Proofs.YtfobcnhibhbbaaaGreatDoor.Ev
open Go.RowKit
set_option maxRecDepth 100000

/-- The bits of the first k nodes of a kind. -/
theorem sum_sel (ns : List Nd) (kind : Int) (k : Nat) : sumW ns (sel (isK ns kind) (k + 1)) = sumW ns (sel (isK ns kind) k) + if isK ns kind k then wdOf ns k else 0 := by
  cases h : isK ns kind k
  · rw [sel_no h]; simp
  · rw [sel_yes h]
    unfold sumW
    simp only [List.map_append, List.sum_append, List.map_cons, List.map_nil, List.sum_cons, List.sum_nil]
    simp

theorem sum_sel_bd {ns : List Nd} (h : Wok ns) (kind : Int) (k : Nat) : 0 ≤ sumW ns (sel (isK ns kind) k) ∧ sumW ns (sel (isK ns kind) k) ≤ 8 * k := by
  induction k with
  | zero => simp [sumW, sel]
  | succ k ih =>
    rw [sum_sel]
    have := wdOf_bd h k
    split <;> omega

end Go.Proofs.YtfobcnhibhbbaaaGreatDoor.Ev

namespace Go.Proofs.YtfobcnhibhbbaaaGreatDoor.Ev
open Go.RowKit
set_option maxRecDepth 100000

set_option maxRecDepth 100000 in
set_option maxHeartbeats 1000000 in
theorem inputs_any (a0 a1 a2 a3 a4 : Option Addr) (c0 c1 c2 c3 c4 : Nat) (ns : List Nd) (is xs : List (Int × Int)) (bs hs : List Int) (hln : ns.length ≤ 2932031007402) (hli : is.length ≤ 8796093022208) (hlx : xs.length ≤ 8796093022208) (hlb : bs.length ≤ maxLen) (hlh : hs.length ≤ maxLen) (w : World)
    (hN : NodesAt w a0 ns) (hI : PairsAt w a1 is) (hX : PairsAt w a2 xs) (hBs : IntsAt w a3 bs) (hHs : IntsAt w a4 hs) :
    Calls Tryz.prog 35 #[Mv.val ⟨a0, c0, a1, is.length, c1, a2, xs.length, c2, a3, bs.length, c3, a4, hs.length, c4⟩ ns.length] w fun e w' =>
      ∃ p cap l, e = .returned (.tuple #[.slice p l.length cap, .int .i64 (checkE ns is xs bs hs)]) ∧ l = (if checkE ns is xs bs hs = 0 then sel (isK ns 2) ns.length else []) ∧ IntsAt w' p l ∧ Below w.heap.size w w' := by
  have HB0 : Hid (Below w.heap.size w (w.alloc (.cells (Mv.cells ⟨a0, c0, a1, is.length, c1, a2, xs.length, c2, a3, bs.length, c3, a4, hs.length, c4⟩ ns.length) 26))) := bal (Below.refl _ _) _
  have HBx := hide (Box.new w ⟨a0, c0, a1, is.length, c1, a2, xs.length, c2, a3, bs.length, c3, a4, hs.length, c4⟩ ns.length)
  have HK := hide (fun _ : Unit => check_any a0 a1 a2 a3 a4 c0 c1 c2 c3 c4 ns is xs bs hs (by unfold maxLen; omega) hli hlx hlb hlh _ (hN.later HB0.out) (hI.later HB0.out) (hX.later HB0.out) (hBs.later HB0.out) (hHs.later HB0.out))
  generalize checkE ns is xs bs hs = ce at *
  go_enter Tryz.func35, Tryz.ntmps35
  go_wp2_with fail
  refine (HK.out ()).mono ?_
  rintro e w1 ⟨rfl, hb1⟩
  have hbw := bthen HB0.out hb1
  have HBB := hide (HBx.out.later hb1)
  have hbox := HBB.out
  simp only [Box] at hbox
  obtain ⟨q0, q1, q2, q3, q4⟩ := hbox
  by_cases hce : ce = 0
  · subst hce
    have HO := hide (fun _ : Unit => ofKind_any a0 c0 ns hln 2 w1 (hN.later hbw))
    go_wp2_with fail
    refine (HO.out ()).mono ?_
    rintro e w2 ⟨p, cap, rfl, hl, hb2⟩
    go_wp2
    go_ret2
    exact ⟨p, cap, _, rfl, by simp, hl, bthen hbw hb2⟩
  · have hne : (ce != 0) = true := by simp [hce]
    have HE := hide hce
    clear hce
    go_wp2
    go_ret2
    exact ⟨none, 0, [], rfl, by first | rfl | rw [if_neg HE.out], fun h => by simp at h, hbw⟩

end Go.Proofs.YtfobcnhibhbbaaaGreatDoor.Ev

namespace Go.Proofs.YtfobcnhibhbbaaaGreatDoor.Ev
open Go.RowKit
set_option maxRecDepth 100000

theorem sub_len {l r : List Int} (hl : l.Nodup) (hs : ∀ x ∈ l, x ∈ r) : l.length ≤ r.length := by
  induction l generalizing r with
  | nil => simp
  | cons a t ih =>
    have ha : a ∈ r := hs a (by simp)
    have hn := List.nodup_cons.1 hl
    have h1 : t.length ≤ (r.erase a).length := ih hn.2 (fun x hx => (List.mem_erase_of_ne (fun (h : x = a) => hn.1 (h ▸ hx))).2 (hs x (by simp [hx])))
    rw [List.length_erase_of_mem ha] at h1
    have : 0 < r.length := List.length_pos_of_mem ha
    simp only [List.length_cons]
    omega

theorem dup_nodup {l : List Int} (h : dup l = false) : l.Nodup := by
  induction l with
  | nil => simp
  | cons a t ih =>
    simp only [dup, Bool.or_eq_false_iff] at h
    refine List.nodup_cons.2 ⟨?_, ih h.2⟩
    intro hm
    have : t.contains a = true := by simpa using hm
    rw [h.1] at this
    cases this

theorem mem_sel {f : Nat → Bool} {k : Nat} {x : Int} : x ∈ sel f k ↔ ∃ i, i < k ∧ f i = true ∧ x = i := by
  unfold sel
  simp only [List.mem_map, List.mem_filter, List.mem_range]
  constructor
  · rintro ⟨i, ⟨h1, h2⟩, rfl⟩; exact ⟨i, h1, h2, rfl⟩
  · rintro ⟨i, h1, h2, rfl⟩; exact ⟨i, ⟨h1, h2⟩, rfl⟩

theorem sel_rises (f : Nat → Bool) (k : Nat) : (sel f k).Pairwise (· < ·) := by
  induction k with
  | zero => simp [sel]
  | succ k ih =>
    cases h : f k
    · rw [sel_no h]; exact ih
    · rw [sel_yes h, List.pairwise_append]
      refine ⟨ih, by simp, ?_⟩
      intro a ha b hb
      obtain ⟨i, hi, _, rfl⟩ := mem_sel.1 ha
      simp at hb
      omega

theorem sel_nodup (f : Nat → Bool) (k : Nat) : (sel f k).Nodup :=
  (sel_rises f k).imp (fun h => by omega)

theorem isK_kdOf {ns : List Nd} {kind x : Int} (h0 : 0 ≤ x) (h1 : x < ns.length) : isK ns kind x.toNat = (kdOf ns x == kind) := by
  unfold isK kdOf
  rw [List.getElem?_eq_getElem (by omega)]

theorem pigeon {ns : List Nd} {xs : List (Int × Int)} (hx : ∀ p ∈ xs, pairE ns p.1 p.2 = 0) (hd : dup (fsts xs) = false) :
    (xs.length = (sel (isK ns 3) ns.length).length) ↔ ((sel (isK ns 3) ns.length).any (fun s => !hasSt s xs) = false) := by
  have hnd := dup_nodup hd
  have hlen : (fsts xs).length = xs.length := by simp [fsts]
  have hsub : ∀ x ∈ fsts xs, x ∈ sel (isK ns 3) ns.length := by
    intro x h
    unfold fsts at h
    obtain ⟨p, hp, rfl⟩ := List.mem_map.1 h
    obtain ⟨⟨h0, h1⟩, _, hk, _⟩ := pairE_zero (hx p hp)
    refine mem_sel.2 ⟨p.1.toNat, by omega, ?_, by omega⟩
    rw [isK_kdOf h0 h1, hk]; rfl
  have hst : ∀ s, hasSt s xs = true ↔ s ∈ fsts xs := by
    intro s
    unfold hasSt fsts
    simp only [List.any_eq_true, beq_iff_eq, List.mem_map]
  constructor
  · intro he
    refine List.any_eq_false.2 (fun s hs => ?_)
    have : hasSt s xs = true := by
      rw [hst]
      refine Classical.byContradiction fun hno => ?_
      have := sub_len (l := s :: fsts xs) (r := sel (isK ns 3) ns.length) (List.nodup_cons.2 ⟨hno, hnd⟩) (by
        intro x h
        rcases List.mem_cons.1 h with rfl | h
        · exact hs
        · exact hsub x h)
      simp only [List.length_cons] at this
      omega
    rw [this]; simp
  · intro he
    have h1 := sub_len hnd hsub
    have h2 := sub_len (sel_nodup (isK ns 3) ns.length) (r := fsts xs) (by
      intro s hs
      have := List.any_eq_false.1 he s hs
      rw [← hst]
      simpa using this)
    omega

/-- What the nodes' own words are made of. -/
def opsAt (ns : List Nd) (i : Nat) : List Int := match ns[i]? with | some x => opsL x | none => []
theorem opsAt_at {ns : List Nd} {i : Nat} (h : i < ns.length) : opsAt ns i = opsL ns[i] := by
  unfold opsAt; rw [List.getElem?_eq_getElem h]
/-- The nodes of the pairs of a state. -/
def ofSt (s : Int) (l : List (Int × Int)) : List Int := (l.filter (fun p => p.1 == s)).map (·.2)
/-- The nodes on which one leans at once. -/
def leanL (ns : List Nd) (is xs : List (Int × Int)) (i : Nat) : List Int := if isK ns 3 i then ofSt i is ++ ofSt i xs else opsAt ns i

def Closed (ns : List Nd) (is xs : List (Int × Int)) (S : Nat → Bool) : Prop := ∀ i, i < ns.length → S i = true → ∀ y ∈ leanL ns is xs i, S y.toNat = true
def Roots (rs : List Int) (S : Nat → Bool) : Prop := ∀ r ∈ rs, S r.toNat = true

/-- The least closed set that has the roots. -/
structure IsCone (ns : List Nd) (is xs : List (Int × Int)) (rs : List Int) (S : Nat → Bool) : Prop where
  root : Roots rs S
  clo : Closed ns is xs S
  least : ∀ T, Roots rs T → Closed ns is xs T → ∀ i, i < ns.length → S i = true → T i = true

theorem sel_congr {S T : Nat → Bool} {n : Nat} (h : ∀ i, i < n → S i = T i) : sel S n = sel T n := by
  induction n with
  | zero => rfl
  | succ n ih =>
    have h1 := ih (fun i hi => h i (by omega))
    have h2 := h n (by omega)
    cases hT : T n
    · rw [sel_no hT, sel_no (h2.trans hT), h1]
    · rw [sel_yes hT, sel_yes (h2.trans hT), h1]

theorem bool_iff {a b : Bool} (h : a = true ↔ b = true) : a = b := by cases a <;> cases b <;> simp_all

theorem cone_one {ns : List Nd} {is xs : List (Int × Int)} {rs : List Int} {S T : Nat → Bool} (h : IsCone ns is xs rs S) (k : IsCone ns is xs rs T) : sel S ns.length = sel T ns.length :=
  sel_congr fun i hi => bool_iff ⟨h.least T k.root k.clo i hi, k.least S h.root h.clo i hi⟩

theorem cone_again {ns : List Nd} {is xs : List (Int × Int)} {rs : List Int} {S T : Nat → Bool} (h : IsCone ns is xs rs S) (k : IsCone ns is xs (sel S ns.length) T) : sel T ns.length = sel S ns.length :=
  sel_congr fun i hi => bool_iff ⟨k.least S (fun r hr => by obtain ⟨j, _, hS, rfl⟩ := mem_sel.1 hr; simpa using hS) h.clo i hi,
    fun hS => by have := k.root (i : Int) (mem_sel.2 ⟨i, hi, hS, rfl⟩); simpa using this⟩

/-- All nodes on which one leans are there. -/
def Lok (ns : List Nd) (is xs : List (Int × Int)) : Prop := ∀ i, i < ns.length → ∀ y ∈ leanL ns is xs i, 0 ≤ y ∧ y < ns.length

theorem lok_of {ns : List Nd} {is xs : List (Int × Int)} (hO : Ook ns) (hi : ∀ p ∈ is, pairE ns p.1 p.2 = 0) (hx : ∀ p ∈ xs, pairE ns p.1 p.2 = 0) : Lok ns is xs := by
  intro i hlt y hy
  unfold leanL at hy
  cases hk : isK ns 3 i
  · rw [if_neg (by simp [hk]), opsAt_at hlt] at hy
    have := hO i hlt y hy
    omega
  · rw [if_pos hk] at hy
    have key : ∀ l : List (Int × Int), (∀ p ∈ l, pairE ns p.1 p.2 = 0) → y ∈ ofSt i l → 0 ≤ y ∧ y < ns.length := by
      intro l hl hm
      unfold ofSt at hm
      obtain ⟨p, hp, rfl⟩ := List.mem_map.1 hm
      exact (pairE_zero (hl p (List.mem_filter.1 hp).1)).2.1
    rcases List.mem_append.1 hy with h | h
    · exact key is hi h
    · exact key xs hx h

/-- What holds as the work goes on: met so far, and still to do. -/
structure Work (ns : List Nd) (is xs : List (Int × Int)) (rs : List Int) (b : List Bool) (l : List Int) : Prop where
  len : b.length = ns.length
  rng : ∀ y ∈ l, 0 ≤ y ∧ y < ns.length
  root : ∀ r ∈ rs, b.getD r.toNat false = true ∨ r ∈ l
  clo : ∀ i, i < ns.length → b.getD i false = true → ∀ y ∈ leanL ns is xs i, b.getD y.toNat false = true ∨ y ∈ l
  least : ∀ T, Roots rs T → Closed ns is xs T → (∀ i, i < ns.length → b.getD i false = true → T i = true) ∧ (∀ y ∈ l, T y.toNat = true)

theorem getD_rep (n i : Nat) : (List.replicate n false).getD i false = false := by
  simp only [List.getD, List.getElem?_replicate]
  split <;> rfl

theorem Work.start {ns : List Nd} {is xs : List (Int × Int)} {rs : List Int} (h : ∀ r ∈ rs, 0 ≤ r ∧ r < ns.length) : Work ns is xs rs (List.replicate ns.length false) rs :=
  ⟨by simp, h, fun r hr => .inr hr, fun i _ hi => (by rw [getD_rep] at hi; cases hi), fun T hT _ => ⟨fun i _ hi => (by rw [getD_rep] at hi; cases hi), hT⟩⟩

theorem Work.met {ns : List Nd} {is xs : List (Int × Int)} {rs : List Int} {b : List Bool} {l : List Int} {x : Int} (h : Work ns is xs rs b (l ++ [x])) (hb : b.getD x.toNat false = true) : Work ns is xs rs b l := by
  refine ⟨h.len, fun y hy => h.rng y (List.mem_append.2 (.inl hy)), ?_, ?_, ?_⟩
  · intro r hr
    rcases h.root r hr with h1 | h1
    · exact .inl h1
    · rcases List.mem_append.1 h1 with h2 | h2
      · exact .inr h2
      · rw [List.mem_singleton.1 h2]; exact .inl hb
  · intro i hi hbi y hy
    rcases h.clo i hi hbi y hy with h1 | h1
    · exact .inl h1
    · rcases List.mem_append.1 h1 with h2 | h2
      · exact .inr h2
      · rw [List.mem_singleton.1 h2]; exact .inl hb
  · intro T h1 h2
    obtain ⟨h3, h4⟩ := h.least T h1 h2
    exact ⟨h3, fun y hy => h4 y (List.mem_append.2 (.inl hy))⟩

theorem getD_set (b : List Bool) (k j : Nat) (hk : k < b.length) : (b.set k true).getD j false = if j = k then true else b.getD j false := by
  simp only [List.getD, List.getElem?_set]
  by_cases h : j = k
  · subst h; simp [hk]
  · have h' : ¬ k = j := fun e => h e.symm
    simp [h, h']

theorem Work.more {ns : List Nd} {is xs : List (Int × Int)} {rs : List Int} {b : List Bool} {l : List Int} {x : Int} (hL : Lok ns is xs) (h : Work ns is xs rs b (l ++ [x])) : Work ns is xs rs (b.set x.toNat true) (l ++ leanL ns is xs x.toNat) := by
  have hx := h.rng x (by simp)
  have hlt : x.toNat < b.length := by have := h.len; omega
  have up : ∀ j, b.getD j false = true → (b.set x.toNat true).getD j false = true := by
    intro j hj; rw [getD_set _ _ _ hlt]; split
    · rfl
    · exact hj
  have here : (b.set x.toNat true).getD x.toNat false = true := by rw [getD_set _ _ _ hlt, if_pos rfl]
  refine ⟨by simpa using h.len, ?_, ?_, ?_, ?_⟩
  · intro y hy
    rcases List.mem_append.1 hy with h1 | h1
    · exact h.rng y (List.mem_append.2 (.inl h1))
    · exact hL _ (by omega) y h1
  · intro r hr
    rcases h.root r hr with h1 | h1
    · exact .inl (up _ h1)
    · rcases List.mem_append.1 h1 with h2 | h2
      · exact .inr (List.mem_append.2 (.inl h2))
      · rw [List.mem_singleton.1 h2]; exact .inl here
  · intro i hi hbi y hy
    by_cases he : i = x.toNat
    · subst he; exact .inr (List.mem_append.2 (.inr hy))
    · rw [getD_set _ _ _ hlt, if_neg he] at hbi
      rcases h.clo i hi hbi y hy with h1 | h1
      · exact .inl (up _ h1)
      · rcases List.mem_append.1 h1 with h2 | h2
        · exact .inr (List.mem_append.2 (.inl h2))
        · rw [List.mem_singleton.1 h2]; exact .inl here
  · intro T h1 h2
    obtain ⟨h3, h4⟩ := h.least T h1 h2
    have hTx := h4 x (by simp)
    refine ⟨fun i hi hbi => ?_, fun y hy => ?_⟩
    · by_cases he : i = x.toNat
      · subst he; exact hTx
      · rw [getD_set _ _ _ hlt, if_neg he] at hbi
        exact h3 i hi hbi
    · rcases List.mem_append.1 hy with h5 | h5
      · exact h4 y (List.mem_append.2 (.inl h5))
      · exact h2 _ (by omega) hTx y h5

theorem Work.done {ns : List Nd} {is xs : List (Int × Int)} {rs : List Int} {b : List Bool} (h : Work ns is xs rs b []) : IsCone ns is xs rs (fun i => b.getD i false) :=
  ⟨fun r hr => (h.root r hr).resolve_right (by simp), fun i hi hb y hy => (h.clo i hi hb y hy).resolve_right (by simp), fun T h1 h2 => (h.least T h1 h2).1⟩


end Go.Proofs.YtfobcnhibhbbaaaGreatDoor.Ev
