/- slices.Concat of clauses. -/
import Derived.Test.YtkinmangilbeeaaGreatDoorPu
import Derived.Lib.AppendZerosOnto
namespace Go.Proofs.YtkinmangilbeeaaGreatDoor.Pf
open Go.RowKit Go.Maps Go.WideMaps
set_option maxRecDepth 100000

set_option maxHeartbeats 2000000 in
theorem grow0_any (w : World) : Calls Tryz.prog 33 #[.slice none 0 0, .int .i64 0] w fun e w' => e = .returned (.slice none 0 0) ∧ w' = w := by
  go_enter Tryz.func33, Tryz.ntmps33
  go_wp2
  go_ret
  exact ⟨rfl, rfl⟩
set_option maxHeartbeats 2000000 in
theorem grow_any (n : Nat) (h0 : 0 < n) (hn : n ≤ 1000000000000) (w : World) :
    Calls Tryz.prog 33 #[.slice none 0 0, .int .i64 n] w fun e w' => ∃ v, e = .returned v ∧ w'.ownsRow w.heap.size 38 1 v 0 [] ∧ Below w.heap.size w w' := by
  obtain ⟨i0, hi, hz, hs, hby⟩ := info_parts infoR
  have hold : (Builtin.firstCells i0.size 0 (.slice none 0 0)).run Tryz.prog w.drew = .ok ([] : List Value).toArray w.drew := run_firstCells_none w.drew i0.size 0 0 0
  have hG : n ≤ grownCap w n 0 38 := grownCap_ge w _ _ _
  have hG2 := grownCap_le_maxLen w n 0 38 (by unfold maxLen; omega)
  have hrz : ∀ ty, (Builtin.append_ #[22, 3] ty #[.slice none 0 0, .int .i64 (n : Int)]).run Tryz.prog w =
      .ok (.slice (some ⟨w.heap.size, 0, none⟩) n (grownCap w n 0 38)) (w.drew.alloc (.cells (([] : List Value).toArray ++ Builtin.zeroCells (Value.slice none 0 0).cells n ++ Builtin.zeroCells (Value.slice none 0 0).cells (grownCap w n 0 38 - n)) 38)) := fun ty => by
    have h := Lib.run_append_grow_zeros w 22 3 ty 38 i0 (.slice none 0 0) .i64 .i64 Tryz.underlying22 Tryz.underlying3 hi hz none 0 0 [] hold n h0 (by omega) (by omega) (by omega) (by rw [hby]; omega) (by rw [Nat.zero_add]; exact growslice_fits h0 (by rw [hby]; omega))
    simpa using h
  generalize grownCap w n 0 38 = G at *
  have hw1 : ¬ ((n : Int) < 0) := by omega
  have hgt : (n : Int) > 0 := by omega
  have hw2 : wrap64 ((n : Int) - 0) = n := by unfold wrap64; omega
  clear hold hi hz
  go_enter Tryz.func33, Tryz.ntmps33
  go_wp2_with (at_builtin; refine Lib.wpList_append_run _ rfl _ _ _ _ rfl _ _ rfl rfl _ _ (hrz _) ?_)
  go_ret
  refine ⟨_, rfl, ⟨rfl, Or.inr ⟨w.heap.size, G, _, rfl, Nat.le_refl _, heap_alloc_new w _, Nat.zero_le _, hG2, ?_, ?_⟩⟩, ((Below.refl w.heap.size w).alloc (Nat.le_refl _) _).drew⟩
  · simp [Builtin.zeroCells]
    omega
  · simp
theorem growN_any (n : Nat) (hn : n ≤ 1000000000000) (w : World) : Calls Tryz.prog 33 #[.slice none 0 0, .int .i64 n] w fun e w' => ∃ v, e = .returned v ∧ w'.ownsRow w.heap.size 38 1 v 0 [] ∧ Below w.heap.size w w' := by
  by_cases h0 : 0 < n
  · exact grow_any n h0 hn w
  · obtain rfl : n = 0 := by omega
    exact (grow0_any w).mono fun e w' ⟨h1, h2⟩ => by
      subst h2
      exact ⟨_, h1, World.ownsRow_nil _ _ _ _, Below.refl _ _⟩

set_option maxHeartbeats 2000000 in
theorem growB_any (n : Nat) (h0 : 0 < n) (hn : n ≤ 11728124029610) (w : World) :
    Calls Tryz.prog 33 #[.slice none 0 0, .int .i64 n] w fun e w' => ∃ G, n ≤ G ∧ e = .returned (.slice (some ⟨w.heap.size, 0, none⟩) 0 G) ∧ w'.ownsRow w.heap.size 38 1 (.slice (some ⟨w.heap.size, 0, none⟩) 0 G) 0 [] ∧ Below w.heap.size w w' := by
  obtain ⟨i0, hi, hz, hs, hby⟩ := info_parts infoR
  have hold : (Builtin.firstCells i0.size 0 (.slice none 0 0)).run Tryz.prog w.drew = .ok ([] : List Value).toArray w.drew := run_firstCells_none w.drew i0.size 0 0 0
  have hG : n ≤ grownCap w n 0 38 := grownCap_ge w _ _ _
  have hG2 := grownCap_le_maxLen w n 0 38 (by unfold maxLen; omega)
  have hnx : Builtin.nextslicecap n 0 = n := by unfold Builtin.nextslicecap; rw [if_pos (by omega)]
  have hrz : ∀ ty, (Builtin.append_ #[22, 3] ty #[.slice none 0 0, .int .i64 (n : Int)]).run Tryz.prog w =
      .ok (.slice (some ⟨w.heap.size, 0, none⟩) n (grownCap w n 0 38)) (w.drew.alloc (.cells (([] : List Value).toArray ++ Builtin.zeroCells (Value.slice none 0 0).cells n ++ Builtin.zeroCells (Value.slice none 0 0).cells (grownCap w n 0 38 - n)) 38)) := fun ty => by
    have h := Lib.run_append_grow_zeros w 22 3 ty 38 i0 (.slice none 0 0) .i64 .i64 Tryz.underlying22 Tryz.underlying3 hi hz none 0 0 [] hold n h0 (by omega) (by omega) (by omega) (by rw [hby]; omega) (by rw [Nat.zero_add, hnx, hby]; omega)
    simpa using h
  generalize grownCap w n 0 38 = G at *
  have hw1 : ¬ ((n : Int) < 0) := by omega
  have hgt : (n : Int) > 0 := by omega
  have hw2 : wrap64 ((n : Int) - 0) = n := by unfold wrap64; omega
  clear hold hi hz hnx
  go_enter Tryz.func33, Tryz.ntmps33
  go_wp2_with (at_builtin; refine Lib.wpList_append_run _ rfl _ _ _ _ rfl _ _ rfl rfl _ _ (hrz _) ?_)
  go_ret
  refine ⟨G, hG, rfl, ⟨rfl, Or.inr ⟨w.heap.size, G, _, rfl, Nat.le_refl _, heap_alloc_new w _, Nat.zero_le _, hG2, ?_, ?_⟩⟩, ((Below.refl w.heap.size w).alloc (Nat.le_refl _) _).drew⟩
  · simp [Builtin.zeroCells]
    omega
  · simp

/-- A list of clauses, where it lies. -/
structure Lst where
  at' : Option Addr
  rs : List Row
  cap : Nat
def Lst.v (r : Lst) : Value := .slice r.at' r.rs.length r.cap
def LstsAt (w : World) (p : Option Addr) (l : List Lst) : Prop := 0 < l.length → ∃ b off, p = some ⟨b, off, none⟩ ∧ ∀ i (hi : i < l.length), w.cell? ⟨b, off + i, none⟩ = some l[i].v
theorem LstsAt.later {w w' : World} {p : Option Addr} {l : List Lst} (h : LstsAt w p l) (hb : Below w.heap.size w w') : LstsAt w' p l := fun h0 => by
  obtain ⟨b, off, h1, h2⟩ := h h0
  exact ⟨b, off, h1, fun i hi => cell_later hb (h2 i hi)⟩
theorem owns_rows {w : World} {base : Nat} {v : Value} {l : List Row} (h : w.ownsRow base 38 1 v l.length (l.map Row.v)) : ∃ p cap, v = .slice p l.length cap ∧ RowsAt w p l ∧ (p = none → cap = 0) := by
  have h3 := h
  obtain ⟨h1, h2⟩ := h
  rcases h2 with ⟨rfl, h0⟩ | ⟨g, cap, cur, rfl, hg, hh, hn, hm, hs, ht⟩
  · exact ⟨none, 0, by rw [h0], fun h => by omega, fun _ => rfl⟩
  · refine ⟨_, cap, rfl, fun _ => ⟨g, 0, rfl, fun i hi => ?_⟩, fun h => by cases h⟩
    have := h3.cellAt i (by omega)
    rw [Nat.zero_add, this, List.getElem?_map, List.getElem?_eq_getElem hi]
    rfl
theorem rows_cells {w : World} {l : List Row} {ad : Addr} (h : RowsAt w (some ad) l) : ∀ j u, (l.map Row.v)[j]? = some u → w.cell? (ad.add j) = some u := by
  intro j u hj
  obtain ⟨hjl, hju⟩ := List.getElem?_eq_some_iff.1 hj
  have hjl' : j < l.length := by simpa using hjl
  obtain ⟨b, off, h, hc⟩ := h (by omega)
  cases h
  rw [Addr.add_lit, hc j hjl', ← hju]
  simp
theorem wp_append_rows {w : World} {o : Oper} {a : Act} {K : Act → World → Prop} {Q : Exit → Act → World → Prop} (s x : Operand)
    (ho : o.op = .call { callee := .builtin .append, args := #[s, x], argTypes := #[22, 22] })
    (base : Nat) (v : Value) (u l : List Row) (hs : a.eval s = v) (hown : w.ownsRow base 38 1 v u.length (u.map Row.v)) (p : Option Addr) (c : Nat) (hx : a.eval x = .slice p l.length c) (hB : RowsAt w p l) (hnil : p = none → c = 0)
    (hb : u.length + l.length ≤ 1000000000000) (hbase : base ≤ w.heap.size)
    (hK : ∀ v' w', w'.ownsRow base 38 1 v' (u ++ l).length ((u ++ l).map Row.v) → w.grownBy w' v.ownBlock → K (a.put o.dst v') w') : o.wp Tryz.prog a w K Q := by
  obtain ⟨i0, hi, hz0, hz1, hz2⟩ := info_parts infoR
  cases p with
  | none =>
    have h0 : l = [] := by
      cases l with
      | nil => rfl
      | cons a t => obtain ⟨b, off, h, _⟩ := hB (by simp); cases h
    subst h0
    obtain rfl := hnil rfl
    have hrun := run_append_owned_none (P := Tryz.prog) (w := w) base 22 o.type 38 i0 1 Tryz.underlying22 hi v u.length _ hown
    unfold Oper.wp
    simp only [List.length_nil] at hx
    simp [execOp, ho, resolve, invoke, builtin, hs, hx, hrun, Result.andThen]
    exact hK v w (by simpa using hown) ⟨rfl, rfl, rfl, Nat.le_refl _, fun _ _ _ => rfl⟩
  | some ad =>
    refine wp_append_own w s x 22 ho base 38 i0 (.slice none 0 0) 1 24 Tryz.underlying22 hi hz0 hz1 hz2 rfl (by decide) v u.length _ hs hown ad l.length c (l.map Row.v) hx (by simp) (rows_cells hB) ?_ (by unfold maxLen; omega) (by omega) hbase (fun v' w' a b _ => hK v' w' (by simpa using a) b)
    intro u hu
    obtain ⟨x, _, rfl⟩ := List.mem_map.1 hu
    rfl
theorem wpList_append_rows {w : World} {ops : Array Oper} {rest : List Oper} {o : Oper} {a : Act} {Q : Exit → Act → World → Prop} (hgd : o.guard = none) (s x : Operand)
    (ho : o.op = .call { callee := .builtin .append, args := #[s, x], argTypes := #[22, 22] })
    (base : Nat) (v : Value) (u l : List Row) (hs : a.eval s = v) (hown : w.ownsRow base 38 1 v u.length (u.map Row.v)) (p : Option Addr) (c : Nat) (hx : a.eval x = .slice p l.length c) (hB : RowsAt w p l) (hnil : p = none → c = 0)
    (hb : u.length + l.length ≤ 1000000000000) (hbase : base ≤ w.heap.size)
    (hK : ∀ v' w', w'.ownsRow base 38 1 v' (u ++ l).length ((u ++ l).map Row.v) → w.grownBy w' v.ownBlock → wpList Tryz.prog ops Q rest (a.put o.dst v') w') : wpList Tryz.prog ops Q (o :: rest) a w :=
  wpList_plain hgd fun _ hK' => wp_append_rows s x ho base v u l hs hown p c hx hB hnil hb hbase fun v' w' h1 h2 => hK' _ _ (hK v' w' h1 h2)
/-- All clauses of the first lists. -/
def flatR (l : List Lst) (k : Nat) : List Row := (l.take k).flatMap Lst.rs
theorem flatR_succ (l : List Lst) (k : Nat) (h : k < l.length) : flatR l (k + 1) = flatR l k ++ l[k].rs := by
  unfold flatR
  rw [List.take_succ_eq_append_getElem h, List.flatMap_append]
  simp
theorem flatR_all (l : List Lst) : flatR l l.length = l.flatMap Lst.rs := by simp [flatR]
theorem flatR_zero (l : List Lst) : flatR l 0 = [] := by simp [flatR]
theorem flatR_le (l : List Lst) (k : Nat) : (flatR l k).length ≤ (l.flatMap Lst.rs).length := by
  unfold flatR
  conv => rhs; rw [← List.take_append_drop k l, List.flatMap_append, List.length_append]
  omega

set_option maxHeartbeats 4000000 in
theorem concat_any (l : List Lst) (p : Option Addr) (cap : Nat) (w : World) (hl : l.length ≤ 1000) (hF : (l.flatMap Lst.rs).length ≤ 1000000000000) (hR : LstsAt w p l) (hIn : ∀ r ∈ l, RowsAt w r.at' r.rs ∧ (r.at' = none → r.cap = 0)) :
    Calls Tryz.prog 22 #[.slice p l.length cap] w fun e w' => ∃ q k, e = .returned (.slice q (l.flatMap Lst.rs).length k) ∧ RowsAt w' q (l.flatMap Lst.rs) ∧ (q = none → k = 0) ∧ Below w.heap.size w w' := by
  have HR := hide hR
  have HIN := hide hIn
  have HLE := hide (flatR_le l)
  have HFA := hide (flatR_all l)
  generalize l.flatMap Lst.rs = F at *
  clear hR hIn
  go_enter Tryz.func22, Tryz.ntmps22
  go_wp2
  go_loopw [3, 11] (fun s i wr => ∃ k : Nat, k ≤ l.length ∧ i = .int .i64 k ∧ s = .int .i64 (flatR l k).length ∧ wr = w) (fun _ i _ => l.length - (intOf i).toNat)
  case atStart => exact ⟨0, Nat.zero_le _, rfl, by rw [flatR_zero]; rfl, rfl⟩
  case round =>
    obtain ⟨k, hk, rfl, rfl, hw⟩ := hrel
    have hw' := hw.symm
    subst hw'
    clear hw
    by_cases hlt : k < l.length
    · obtain ⟨b, off, rfl, hc⟩ := HR.out (by omega)
      have hck := hc k hlt
      have hki : (k : Int) < (l.length : Int) := by omega
      have HS := hide (flatR_succ l k hlt)
      have h1 := HLE.out (k + 1)
      rw [HS.out, List.length_append] at h1
      clear hc
      generalize l[k] = r at *
      obtain ⟨ra, rn, rc⟩ := r
      simp only [Lst.v] at hck h1
      generalize hu : flatR l k = u at *
      have hge : ¬ ((u.length : Int) + (rn.length : Int) < 0) := by omega
      have hwr : wrap64 ((u.length : Int) + (rn.length : Int)) = (u.length : Int) + (rn.length : Int) := by unfold wrap64; omega
      clear hu
      go_wp2
      go_roundw
      case rel => exact ⟨k + 1, by omega, by go_num, by rw [HS.out, List.length_append]; simp, trivial⟩
      case measure => simp [intOf]; omega
    · obtain rfl : k = l.length := by omega
      have hki : ¬ (l.length : Int) < (l.length : Int) := by omega
      rw [HFA.out]
      have HG := hide (growN_any F.length (by omega) w)
      go_wp2_with fail
      refine HG.out.mono ?_
      rintro e w1 ⟨v, rfl, hown, hb1⟩
      have HO1 := hide hown
      have HB1 := hide hb1
      clear hown hb1 HG
      go_wp2
      go_loopw [6, 27] (fun v i w2 => ∃ k : Nat, k ≤ l.length ∧ i = .int .i64 k ∧ Hid (w2.ownsRow w.heap.size 38 1 v (flatR l k).length ((flatR l k).map Row.v)) ∧ Hid (Below w.heap.size w w2)) (fun _ i _ => l.length - (intOf i).toNat)
      case atStart => exact ⟨0, Nat.zero_le _, rfl, by rw [flatR_zero]; exact HO1.out, HB1⟩
      case round =>
        obtain ⟨k, hk, rfl, HO, HB⟩ := hrel
        by_cases hlt : k < l.length
        · obtain ⟨b, off, hpe, hc⟩ := (HR.out.later HB.out) (by omega)
          subst hpe
          have hck := hc k hlt
          have hkj : (k : Int) < (l.length : Int) := by omega
          have HS := hide (flatR_succ l k hlt)
          have h2 := HLE.out (k + 1)
          rw [HS.out, List.length_append] at h2
          have HRI := hide (HIN.out l[k] (List.getElem_mem hlt))
          clear hc
          generalize l[k] = r at *
          obtain ⟨ra, rn, rc⟩ := r
          simp only [Lst.v] at hck h2
          generalize hu : flatR l k = u at *
          have HI2 : Hid (RowsAt wr ra rn) := HRI.out.1.later HB.out
          clear hu
          go_wp2_with (at_builtin; refine wpList_append_rows rfl _ _ rfl w.heap.size _ u rn rfl HO.out _ _ rfl HI2.out HRI.out.2 (by omega) (HB.out.size) ?_)
          intro v' w6 hown6 hg6
          have HB6 := hide (HB.out.grown hg6 HB.out.size (fun j hj => (HO.out.lt j hj).1))
          have HO6 := hide (show w6.ownsRow w.heap.size 38 1 v' (flatR l (k + 1)).length ((flatR l (k + 1)).map Row.v) by
            rw [HS.out]
            simpa using hown6)
          clear hown6 hg6 HO HB HI2
          go_wp2
          go_roundw
          case rel => exact ⟨k + 1, by omega, by go_num, HO6, HB6⟩
          case measure => simp [intOf]; omega
        · obtain rfl : k = l.length := by omega
          have hkj : ¬ (l.length : Int) < (l.length : Int) := by omega
          have hown := HO.out
          rw [HFA.out] at hown
          obtain ⟨pv, cv, rfl, hiv, hnv⟩ := owns_rows hown
          have HIV := hide (And.intro hiv hnv)
          clear hown hiv hnv HO
          go_wp2
          go_ret
          exact ⟨pv, cv, rfl, HIV.out.1, HIV.out.2, HB.out⟩

set_option maxHeartbeats 4000000 in
theorem concatB_any (l : List Lst) (p : Option Addr) (cap : Nat) (w : World) (hl : l.length ≤ 1000) (hF0 : 0 < (l.flatMap Lst.rs).length) (hF : (l.flatMap Lst.rs).length ≤ 11728124029610) (hR : LstsAt w p l) (hIn : ∀ r ∈ l, RowsAt w r.at' r.rs ∧ (r.at' = none → r.cap = 0)) :
    Calls Tryz.prog 22 #[.slice p l.length cap] w fun e w' => ∃ q k, e = .returned (.slice q (l.flatMap Lst.rs).length k) ∧ RowsAt w' q (l.flatMap Lst.rs) ∧ (q = none → k = 0) ∧ Below w.heap.size w w' := by
  have HR := hide hR
  have HIN := hide hIn
  have HLE := hide (flatR_le l)
  have HFA := hide (flatR_all l)
  generalize l.flatMap Lst.rs = F at *
  clear hR hIn
  go_enter Tryz.func22, Tryz.ntmps22
  go_wp2
  go_loopw [3, 11] (fun s i wr => ∃ k : Nat, k ≤ l.length ∧ i = .int .i64 k ∧ s = .int .i64 (flatR l k).length ∧ wr = w) (fun _ i _ => l.length - (intOf i).toNat)
  case atStart => exact ⟨0, Nat.zero_le _, rfl, by rw [flatR_zero]; rfl, rfl⟩
  case round =>
    obtain ⟨k, hk, rfl, rfl, hw⟩ := hrel
    have hw' := hw.symm
    subst hw'
    clear hw
    by_cases hlt : k < l.length
    · obtain ⟨b, off, rfl, hc⟩ := HR.out (by omega)
      have hck := hc k hlt
      have hki : (k : Int) < (l.length : Int) := by omega
      have HS := hide (flatR_succ l k hlt)
      have h1 := HLE.out (k + 1)
      rw [HS.out, List.length_append] at h1
      clear hc
      generalize l[k] = r at *
      obtain ⟨ra, rn, rc⟩ := r
      simp only [Lst.v] at hck h1
      generalize hu : flatR l k = u at *
      have hge : ¬ ((u.length : Int) + (rn.length : Int) < 0) := by omega
      have hwr : wrap64 ((u.length : Int) + (rn.length : Int)) = (u.length : Int) + (rn.length : Int) := by unfold wrap64; omega
      clear hu
      go_wp2
      go_roundw
      case rel => exact ⟨k + 1, by omega, by go_num, by rw [HS.out, List.length_append]; simp, trivial⟩
      case measure => simp [intOf]; omega
    · obtain rfl : k = l.length := by omega
      have hki : ¬ (l.length : Int) < (l.length : Int) := by omega
      rw [HFA.out]
      have HG := hide (growB_any F.length hF0 (by omega) w)
      go_wp2_with fail
      refine HG.out.mono ?_
      rintro e w1 ⟨G, hGF, rfl, hown, hb1⟩
      have HO1 := hide hown
      have HB1 := hide hb1
      clear hown hb1 HG
      go_wp2
      go_loopw [6, 27] (fun v i w2 => ∃ k K : Nat, k ≤ l.length ∧ i = .int .i64 k ∧ v = .slice (some ⟨w.heap.size, 0, none⟩) K G ∧ Hid ((flatR l k).length = K ∧ w2.ownsRow w.heap.size 38 1 (.slice (some ⟨w.heap.size, 0, none⟩) K G) K ((flatR l k).map Row.v)) ∧ Hid (Below w.heap.size w w2)) (fun _ i _ => l.length - (intOf i).toNat)
      case atStart => exact ⟨0, 0, Nat.zero_le _, rfl, rfl, by rw [flatR_zero]; exact ⟨rfl, HO1.out⟩, HB1⟩
      case round =>
        obtain ⟨k, K, hk, rfl, rfl, HO, HB⟩ := hrel
        by_cases hlt : k < l.length
        · obtain ⟨b, off, hpe, hc⟩ := (HR.out.later HB.out) (by omega)
          subst hpe
          have hck := hc k hlt
          have hkj : (k : Int) < (l.length : Int) := by omega
          have HS := hide (flatR_succ l k hlt)
          have h2 := HLE.out (k + 1)
          rw [HS.out, List.length_append, HO.out.1] at h2
          have HRI := hide (HIN.out l[k] (List.getElem_mem hlt))
          clear hc
          generalize l[k] = r at *
          obtain ⟨ra, rn, rc⟩ := r
          simp only [Lst.v] at hck h2
          generalize hu : flatR l k = u at *
          have HI2 : Hid (RowsAt wr ra rn) := HRI.out.1.later HB.out
          clear hu
          obtain ⟨i0, hi, hz, hs, hby⟩ := info_parts infoR
          obtain ⟨m, hm⟩ : ∃ m, rn.length = m := ⟨_, rfl⟩
          have HMM := hide hm
          have HNON : Hid (ra = none → m = 0 ∧ rc = 0) := fun e => by
            refine ⟨?_, HRI.out.2 e⟩
            rcases Nat.eq_zero_or_pos rn.length with h | h
            · omega
            · obtain ⟨b', off', h', _⟩ := HI2.out h
              rw [e] at h'; cases h'
          have HCE : Hid (∀ ad, ra = some ad → ∀ j u, (rn.map Row.v)[j]? = some u → wr.cell? (ad.add j) = some u) := fun ad e => rows_cells (by rw [← e]; exact HI2.out)
          have HON : Hid (∀ u ∈ rn.map Row.v, u.oneCell' = true) := fun u hu => by
            obtain ⟨x, _, rfl⟩ := List.mem_map.1 hu
            rfl
          have HLM : Hid ((rn.map Row.v).length = m * 1) := by rw [Hid, List.length_map, hm]; omega
          have hfit : K + m ≤ G := by omega
          rw [hm] at hck
          clear hm
          go_wp2_with (at_builtin; refine wpList_append_fits_any _ rfl _ _ 22 rfl w.heap.size 38 i0 1 Tryz.underlying22 hi hs w.heap.size K G _ rfl HO.out.2 ra m rc (rn.map Row.v) rfl HLM.out HNON.out HCE.out HON.out hfit ?_)
          intro w6 hown6 hg6
          have HB6 := hide (HB.out.grown hg6 HB.out.size (fun j hj => (HO.out.2.lt j hj).1))
          have HO6 : Hid ((flatR l (k + 1)).length = K + m ∧ w6.ownsRow w.heap.size 38 1 (.slice (some ⟨w.heap.size, 0, none⟩) (K + m) G) (K + m) ((flatR l (k + 1)).map Row.v)) := by
            unfold Hid
            rw [HS.out, List.length_append, HO.out.1, HMM.out, List.map_append]
            exact ⟨rfl, hown6⟩
          clear hown6 hg6 HO HB HI2
          go_wp2
          go_roundw
          case rel => exact ⟨k + 1, K + m, by omega, by go_num, rfl, HO6, HB6⟩
          case measure => simp [intOf]; omega
        · obtain rfl : k = l.length := by omega
          have hkj : ¬ (l.length : Int) < (l.length : Int) := by omega
          have hown := HO.out
          rw [HFA.out] at hown
          obtain ⟨hK, hown⟩ := hown
          rw [← hK] at hown
          obtain ⟨pv, cv, hv, hiv, hnv⟩ := owns_rows hown
          have HIV := hide (And.intro hK (And.intro hv (And.intro hiv hnv)))
          clear hown hiv hnv HO hv hK
          go_wp2
          go_ret
          obtain ⟨hK, hv, hiv, hnv⟩ := HIV.out
          subst hK
          injection hv with hv1 _ hv3
          subst hv3 hv1
          exact ⟨_, G, rfl, hiv, hnv, HB.out⟩
theorem concatA_any (l : List Lst) (p : Option Addr) (cap : Nat) (w : World) (hl : l.length ≤ 1000) (hF : (l.flatMap Lst.rs).length ≤ 11728124029610) (hR : LstsAt w p l) (hIn : ∀ r ∈ l, RowsAt w r.at' r.rs ∧ (r.at' = none → r.cap = 0)) :
    Calls Tryz.prog 22 #[.slice p l.length cap] w fun e w' => ∃ q k, e = .returned (.slice q (l.flatMap Lst.rs).length k) ∧ RowsAt w' q (l.flatMap Lst.rs) ∧ (q = none → k = 0) ∧ Below w.heap.size w w' := by
  by_cases h0 : 0 < (l.flatMap Lst.rs).length
  · exact concatB_any l p cap w hl h0 hF hR hIn
  · exact concat_any l p cap w hl (by omega) hR hIn
end Go.Proofs.YtkinmangilbeeaaGreatDoor.Pf
