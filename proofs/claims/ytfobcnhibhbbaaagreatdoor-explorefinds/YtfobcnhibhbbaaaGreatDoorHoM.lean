/- slices.Concat of lists. -/
import Derived.Test.YtfobcnhibhbbaaaGreatDoorHmM
namespace Go.Proofs.YtfobcnhibhbbaaaGreatDoor
open Go.RowKit
set_option maxRecDepth 100000

theorem owns_ints {w : World} {base : Nat} {v : Value} {l : List Int} (h : w.ownsRow base 3 1 v l.length (l.map (Value.int .i64))) : ∃ p cap, v = .slice p l.length cap ∧ IntsAt w p l ∧ (p = none → cap = 0) := by
  have h3 := h
  obtain ⟨h1, h2⟩ := h
  rcases h2 with ⟨rfl, h0⟩ | ⟨g, cap, cur, rfl, hg, hh, hn, hm, hs, ht⟩
  · exact ⟨none, 0, by rw [h0], fun h => by omega, fun _ => rfl⟩
  · refine ⟨_, cap, rfl, fun _ => ⟨g, 0, rfl, fun i hi => ?_⟩, fun h => by cases h⟩
    have := h3.cellAt i (by omega)
    rw [Nat.zero_add, this, List.getElem?_map, List.getElem?_eq_getElem hi]
    rfl
theorem ints_cells {w : World} {l : List Int} {ad : Addr} (h : IntsAt w (some ad) l) : ∀ j u, (l.map (Value.int .i64))[j]? = some u → w.cell? (ad.add j) = some u := by
  intro j u hj
  obtain ⟨hjl, hju⟩ := List.getElem?_eq_some_iff.1 hj
  have hjl' : j < l.length := by simpa using hjl
  obtain ⟨b, off, h, hc⟩ := h (by omega)
  cases h
  rw [Addr.add_lit, hc j hjl', ← hju]
  simp

theorem wp_append_ints {w : World} {o : Oper} {a : Act} {K : Act → World → Prop} {Q : Exit → Act → World → Prop} (s x : Operand)
    (ho : o.op = .call { callee := .builtin .append, args := #[s, x], argTypes := #[24, 24] })
    (base : Nat) (v : Value) (u l : List Int) (hs : a.eval s = v) (hown : w.ownsRow base 3 1 v u.length (u.map (Value.int .i64))) (p : Option Addr) (c : Nat) (hx : a.eval x = .slice p l.length c) (hB : IntsAt w p l) (hnil : p = none → c = 0)
    (hb : u.length + l.length ≤ 17592186044416) (hbase : base ≤ w.heap.size)
    (hK : ∀ v' w', w'.ownsRow base 3 1 v' (u ++ l).length ((u ++ l).map (Value.int .i64)) → w.grownBy w' v.ownBlock → K (a.put o.dst v') w') : o.wp Tryz.prog a w K Q := by
  obtain ⟨i0, hi, hz0, hz1, hz2⟩ := info_parts info3
  cases p with
  | none =>
    have h0 : l = [] := by
      cases l with
      | nil => rfl
      | cons a t => obtain ⟨b, off, h, _⟩ := hB (by simp); cases h
    subst h0
    obtain rfl := hnil rfl
    have hrun := run_append_owned_none (P := Tryz.prog) (w := w) base 24 o.type 3 i0 1 Tryz.underlying24 hi v u.length _ hown
    unfold Oper.wp
    simp only [List.length_nil] at hx
    simp [execOp, ho, resolve, invoke, builtin, hs, hx, hrun, Result.andThen]
    exact hK v w (by simpa using hown) ⟨rfl, rfl, rfl, Nat.le_refl _, fun _ _ _ => rfl⟩
  | some ad =>
    refine wp_append_own w s x 24 ho base 3 i0 (.int .i64 0) 1 8 Tryz.underlying24 hi hz0 hz1 hz2 rfl (by decide) v u.length _ hs hown ad l.length c (l.map (Value.int .i64)) hx (by simp) (ints_cells hB) ?_ (by unfold maxLen; omega) (by omega) hbase (fun v' w' a b _ => hK v' w' (by simpa using a) b)
    intro u hu
    obtain ⟨x, _, rfl⟩ := List.mem_map.1 hu
    rfl

theorem wpList_append_ints {w : World} {ops : Array Oper} {rest : List Oper} {o : Oper} {a : Act} {Q : Exit → Act → World → Prop} (hgd : o.guard = none) (s x : Operand)
    (ho : o.op = .call { callee := .builtin .append, args := #[s, x], argTypes := #[24, 24] })
    (base : Nat) (v : Value) (u l : List Int) (hs : a.eval s = v) (hown : w.ownsRow base 3 1 v u.length (u.map (Value.int .i64))) (p : Option Addr) (c : Nat) (hx : a.eval x = .slice p l.length c) (hB : IntsAt w p l) (hnil : p = none → c = 0)
    (hb : u.length + l.length ≤ 17592186044416) (hbase : base ≤ w.heap.size)
    (hK : ∀ v' w', w'.ownsRow base 3 1 v' (u ++ l).length ((u ++ l).map (Value.int .i64)) → w.grownBy w' v.ownBlock → wpList Tryz.prog ops Q rest (a.put o.dst v') w') : wpList Tryz.prog ops Q (o :: rest) a w :=
  wpList_plain hgd fun _ hK' => wp_append_ints s x ho base v u l hs hown p c hx hB hnil hb hbase fun v' w' h1 h2 => hK' _ _ (hK v' w' h1 h2)


theorem belowAl {w w1 w2 : World} (h : Below w.heap.size w w1) (k : Below w1.heap.size w1 w2) : Below w.heap.size w w2 := h.trans (k.mono h.size)
/-- All numbers of the first lists; how many they are. -/
def flatN (l : List Row) (k : Nat) : List Int := (l.take k).flatMap Row.ns
theorem flatN_succ (l : List Row) (k : Nat) (h : k < l.length) : flatN l (k + 1) = flatN l k ++ l[k].ns := by
  unfold flatN
  rw [List.take_succ_eq_append_getElem h, List.flatMap_append]
  simp
theorem flatN_all (l : List Row) : flatN l l.length = l.flatMap Row.ns := by simp [flatN]
theorem flatN_zero (l : List Row) : flatN l 0 = [] := by simp [flatN]
theorem flatN_le (l : List Row) (h : ∀ r ∈ l, r.ns.length ≤ 20) (k : Nat) (hk : k ≤ l.length) : (flatN l k).length ≤ 20 * k := by
  induction k with
  | zero => simp [flatN]
  | succ k ih =>
    rw [flatN_succ l k (by omega), List.length_append]
    have := h _ (List.getElem_mem (show k < l.length by omega))
    have := ih (by omega)
    omega

theorem growN_any (n : Nat) (hn : n ≤ 1000000000) (w : World) : Calls Tryz.prog 67 #[.slice none 0 0, .int .i64 n] w fun e w' => ∃ v, e = .returned v ∧ w'.ownsRow w.heap.size 3 1 v 0 [] ∧ Below w.heap.size w w' := by
  by_cases h0 : 0 < n
  · exact grow_any n h0 hn w
  · obtain rfl : n = 0 := by omega
    exact (grow0_any w).mono fun e w' ⟨h1, h2⟩ => by
      subst h2
      exact ⟨_, h1, World.ownsRow_nil _ _ _ _, Below.refl _ _⟩

set_option maxHeartbeats 4000000 in
theorem concat_any (l : List Row) (p : Option Addr) (cap : Nat) (w : World) (hl : l.length ≤ 1000) (h20 : ∀ r ∈ l, r.ns.length ≤ 20) (hR : RowsAt w p l) (hIn : ∀ r ∈ l, IntsAt w r.at' r.ns ∧ (r.at' = none → r.cap = 0)) :
    Calls Tryz.prog 41 #[.slice p l.length cap] w fun e w' => ∃ q k, e = .returned (.slice q (l.flatMap Row.ns).length k) ∧ IntsAt w' q (l.flatMap Row.ns) ∧ (q = none → k = 0) ∧ Below w.heap.size w w' := by
  have HR := hide hR
  have HIN := hide hIn
  have HLE := hide (flatN_le l h20)
  have HFA := hide (flatN_all l)
  generalize l.flatMap Row.ns = F at *
  clear hR hIn h20
  go_enter Tryz.func41, Tryz.ntmps41
  go_wp2
  go_loopw [3, 11] (fun s i wr => ∃ k : Nat, k ≤ l.length ∧ i = .int .i64 k ∧ s = .int .i64 (flatN l k).length ∧ wr = w) (fun _ i _ => l.length - (intOf i).toNat)
  case atStart => exact ⟨0, Nat.zero_le _, rfl, by rw [flatN_zero]; rfl, rfl⟩
  case round =>
    obtain ⟨k, hk, rfl, rfl, hw⟩ := hrel
    have hw' := hw.symm
    subst hw'
    clear hw
    by_cases hlt : k < l.length
    · obtain ⟨b, off, rfl, hc⟩ := HR.out (by omega)
      have hck := hc k hlt
      have hki : (k : Int) < (l.length : Int) := by omega
      have HS := hide (flatN_succ l k hlt)
      have h1 := HLE.out (k + 1) (by omega)
      rw [HS.out, List.length_append] at h1
      clear hc
      generalize l[k] = r at *
      obtain ⟨ra, rn, rc⟩ := r
      simp only [Row.v] at hck h1
      generalize hu : flatN l k = u at *
      have hge : ¬ ((u.length : Int) + (rn.length : Int) < 0) := by omega
      have hwr : wrap64 ((u.length : Int) + (rn.length : Int)) = (u.length : Int) + (rn.length : Int) := by unfold wrap64; omega
      clear hu
      go_wp2
      go_roundw
      case rel => exact ⟨k + 1, by omega, by go_num, by rw [HS.out, List.length_append]; simp, trivial⟩
      case measure => simp [intOf]; omega
    · obtain rfl : k = l.length := by omega
      have hki : ¬ (l.length : Int) < (l.length : Int) := by omega
      have h1 := HLE.out l.length (Nat.le_refl _)
      rw [HFA.out] at h1 ⊢
      have HG := hide (growN_any F.length (by omega) w)
      go_wp2_with fail
      refine HG.out.mono ?_
      rintro e w1 ⟨v, rfl, hown, hb1⟩
      have HO1 := hide hown
      have HB1 := hide hb1
      clear hown hb1 HG
      go_wp2
      go_loopw [6, 27] (fun v i w2 => ∃ k : Nat, k ≤ l.length ∧ i = .int .i64 k ∧ Hid (w2.ownsRow w.heap.size 3 1 v (flatN l k).length ((flatN l k).map (Value.int .i64))) ∧ Hid (Below w.heap.size w w2)) (fun _ i _ => l.length - (intOf i).toNat)
      case atStart => exact ⟨0, Nat.zero_le _, rfl, by rw [flatN_zero]; exact HO1.out, HB1⟩
      case round =>
        obtain ⟨k, hk, rfl, HO, HB⟩ := hrel
        by_cases hlt : k < l.length
        · obtain ⟨b, off, hpe, hc⟩ := (HR.out.later HB.out) (by omega)
          subst hpe
          have hck := hc k hlt
          have hkj : (k : Int) < (l.length : Int) := by omega
          have HS := hide (flatN_succ l k hlt)
          have h2 := HLE.out (k + 1) (by omega)
          rw [HS.out, List.length_append] at h2
          have HRI := hide (HIN.out l[k] (List.getElem_mem hlt))
          clear hc
          generalize l[k] = r at *
          obtain ⟨ra, rn, rc⟩ := r
          simp only [Row.v] at hck h2
          generalize hu : flatN l k = u at *
          have HI2 : Hid (IntsAt wr ra rn) := HRI.out.1.later HB.out
          clear hu
          go_wp2_with (at_builtin; refine wpList_append_ints rfl _ _ rfl w.heap.size _ u rn rfl HO.out _ _ rfl HI2.out HRI.out.2 (by omega) (HB.out.size) ?_)
          intro v' w6 hown6 hg6
          have HB6 := hide (HB.out.grown hg6 HB.out.size (fun j hj => (HO.out.lt j hj).1))
          have HO6 := hide (show w6.ownsRow w.heap.size 3 1 v' (flatN l (k + 1)).length ((flatN l (k + 1)).map (Value.int .i64)) by
            rw [HS.out]
            simpa using hown6)
          clear hown6 hg6 HO HB HI2
          go_wp2
          go_roundw
          case rel => exact ⟨k + 1, by omega, by go_num, HO6, HB6⟩
          case measure => simp [intOf]; omega
        · obtain rfl : k = l.length := by omega
          have hkj : ¬ (l.length : Int) < (l.length : Int) := by omega
          have hown := HO.out
          rw [HFA.out] at hown
          obtain ⟨pv, cv, rfl, hiv, hnv⟩ := owns_ints hown
          have HIV := hide (And.intro hiv hnv)
          clear hown hiv hnv HO
          go_wp2
          go_ret
          exact ⟨pv, cv, rfl, HIV.out.1, HIV.out.2, HB.out⟩
end Go.Proofs.YtfobcnhibhbbaaaGreatDoor

namespace Go.Proofs.YtfobcnhibhbbaaaGreatDoor
open Go.RowKit
set_option maxRecDepth 100000

theorem bal {w w1 : World} (h : Below w.heap.size w w1) (o : Obj) : Below w.heap.size w (w1.alloc o) := h.alloc h.size o
theorem info22 : (Tryz.prog.info? 24).map (fun i => (i.zero, i.size, i.bytes)) = some (some (.slice none 0 0), 1, 24) := by kernel_rfl
theorem owns_rows {w : World} {base : Nat} {v : Value} {l : List Row} (h : w.ownsRow base 24 1 v l.length (l.map Row.v)) : ∃ p cap, v = .slice p l.length cap ∧ RowsAt w p l ∧ (p = none → cap = 0) := by
  have h3 := h
  obtain ⟨h1, h2⟩ := h
  rcases h2 with ⟨rfl, h0⟩ | ⟨g, cap, cur, rfl, hg, hh, hn, hm, hs, ht⟩
  · exact ⟨none, 0, by rw [h0], fun h => by omega, fun _ => rfl⟩
  · refine ⟨_, cap, rfl, fun _ => ⟨g, 0, rfl, fun i hi => ?_⟩, fun h => by cases h⟩
    have := h3.cellAt i (by omega)
    rw [Nat.zero_add, this, List.getElem?_map, List.getElem?_eq_getElem hi]
    rfl
theorem rows_cells {w : World} {l : List Row} {ad : Addr} (h : RowsAt w (some ad) l) : ∀ j u, (l.map Row.v)[j]? = some u → w.cell? (ad.add j) = some u := by
  intro j u hj
  obtain ⟨hjl, hju⟩ := List.getElem?_eq_some_iff.1 hj
  have hjl' : j < l.length := by simpa using hjl
  obtain ⟨b, off, h, hc⟩ := h (by omega)
  cases h
  rw [Addr.add_lit, hc j hjl', ← hju]
  simp
theorem wpList_append_rows {w : World} {ops : Array Oper} {rest : List Oper} {o : Oper} {a : Act} {Q : Exit → Act → World → Prop} (hgd : o.guard = none) (s x : Operand)
    (ho : o.op = .call { callee := .builtin .append, args := #[s, x], argTypes := #[27, 27] })
    (base : Nat) (v : Value) (u l : List Row) (hs : a.eval s = v) (hown : w.ownsRow base 24 1 v u.length (u.map Row.v)) (p : Option Addr) (c : Nat) (hx : a.eval x = .slice p l.length c) (hB : RowsAt w p l) (hnil : p = none → c = 0)
    (hb : u.length + l.length ≤ 5864062014805) (hbase : base ≤ w.heap.size)
    (hK : ∀ v' w', w'.ownsRow base 24 1 v' (u ++ l).length ((u ++ l).map Row.v) → w.grownBy w' v.ownBlock → wpList Tryz.prog ops Q rest (a.put o.dst v') w') : wpList Tryz.prog ops Q (o :: rest) a w := by
  refine wpList_plain hgd fun _ hK' => ?_
  have hKK := fun v' w' h1 h2 => hK' _ _ (hK v' w' h1 h2)
  clear hK hK'
  obtain ⟨i0, hi, hz0, hz1, hz2⟩ := info_parts info22
  cases p with
  | none =>
    have h0 : l = [] := by
      cases l with
      | nil => rfl
      | cons a t => obtain ⟨b, off, h, _⟩ := hB (by simp); cases h
    subst h0
    obtain rfl := hnil rfl
    have hrun := run_append_owned_none (P := Tryz.prog) (w := w) base 27 o.type 24 i0 1 Tryz.underlying27 hi v u.length _ hown
    unfold Oper.wp
    simp only [List.length_nil] at hx
    simp [execOp, ho, resolve, invoke, builtin, hs, hx, hrun, Result.andThen]
    exact hKK v w (by simpa using hown) ⟨rfl, rfl, rfl, Nat.le_refl _, fun _ _ _ => rfl⟩
  | some ad =>
    refine wp_append_own w s x 27 ho base 24 i0 (.slice none 0 0) 1 24 Tryz.underlying27 hi hz0 hz1 hz2 rfl (by decide) v u.length _ hs hown ad l.length c (l.map Row.v) hx (by simp) (rows_cells hB) ?_ (by unfold maxLen; omega) (by omega) hbase (fun v' w' a b _ => hKK v' w' (by simpa using a) b)
    intro u hu
    obtain ⟨x, _, rfl⟩ := List.mem_map.1 hu
    rfl
theorem own_row1 (r : Row) (w : World) : (w.alloc (.cells #[r.v] 24)).ownsRow w.heap.size 24 1 (.slice (some ⟨w.heap.size, 0, none⟩) 1 1) 1 [r.v] :=
  ⟨rfl, .inr ⟨w.heap.size, 1, _, rfl, Nat.le_refl _, heap_alloc_new w _, Nat.le_refl _, by decide, rfl, rfl⟩⟩

/-- What lies in a row of lists: each list, in place. -/
def InAt (w : World) (l : List Row) : Prop := ∀ r ∈ l, IntsAt w r.at' r.ns ∧ (r.at' = none → r.cap = 0)
theorem InAt.later {w w' : World} {l : List Row} (h : InAt w l) (hb : Below w.heap.size w w') : InAt w' l := fun r hr => ⟨(h r hr).1.later hb, (h r hr).2⟩

def fitE (s : Row) (l : List Row) : Int := if 41 < l.length then 2 else if (s :: l).any longB then 2 else if ((s :: l).flatMap Row.ns).any farB then 3 else 0
abbrev tval (s : Row) (p : Option Addr) (len cap : Nat) : Value := .agg #[s.v, .slice p len cap]
theorem no_long {l : List Row} (h : l.any longB = false) : ∀ r ∈ l, r.ns.length ≤ 20 := fun r hr => by
  have := List.any_eq_false.1 h r hr
  simp [longB] at this
  omega

set_option maxHeartbeats 4000000 in
theorem fit_any (s : Row) (p : Option Addr) (cap : Nat) (l : List Row) (w : World) (hl : l.length ≤ 5864062014800) (hR : RowsAt w p l) (hnil : p = none → cap = 0) (hI : InAt w (s :: l)) :
    Calls Tryz.prog 21 #[tval s p l.length cap] w fun e w' => e = .returned (.int .i64 (fitE s l)) ∧ Below w.heap.size w w' := by
  by_cases h41 : 41 < l.length
  · have HE : Hid (fitE s l = 2) := by unfold fitE; rw [if_pos h41]; trivial
    have h41' : (41 : Int) < (l.length : Int) := by omega
    clear hR hI
    generalize fitE s l = x at *
    generalize s.v = sv at *
    go_enter Tryz.func21, Tryz.ntmps21
    go_wp2
    go_ret
    exact ⟨ret_int HE.out.symm, bal (Below.refl _ _) _⟩
  · have hE : fitE s l = if (s :: l).any longB then 2 else if ((s :: l).flatMap Row.ns).any farB then 3 else 0 := by unfold fitE; rw [if_neg h41]
    have h41' : ¬ (41 : Int) < (l.length : Int) := by omega
    have HI := hide hI
    have HE := hide hE
    generalize fitE s l = x at *
    generalize hr : (s :: l) = L at *
    have hL : l.length + 1 = L.length := by rw [← hr]; rfl
    obtain ⟨sa, sn, sc⟩ := s
    have hv : (⟨sa, sn, sc⟩ : Row).v = .slice sa sn.length sc := rfl
    have hO := own_row1 ⟨sa, sn, sc⟩ (w.alloc (.cells #[(⟨sa, sn, sc⟩ : Row).v, .slice p l.length cap] 29))
    unfold tval
    rw [hv] at hO ⊢
    have hbA : Below w.heap.size w ((w.alloc (.cells #[.slice sa sn.length sc, .slice p l.length cap] 29)).alloc (.cells #[.slice sa sn.length sc] 24)) := bal (bal (Below.refl _ _) _) _
    have HO : Hid (((w.alloc (.cells #[.slice sa sn.length sc, .slice p l.length cap] 29)).alloc (.cells #[.slice sa sn.length sc] 24)).ownsRow (w.heap.size + 1) 24 1 (.slice (some ⟨w.heap.size + 1, 0, none⟩) ([(⟨sa, sn, sc⟩ : Row)].length) 1) ([(⟨sa, sn, sc⟩ : Row)].length) ([(⟨sa, sn, sc⟩ : Row)].map Row.v)) := by
      have e : (w.alloc (.cells #[.slice sa sn.length sc, .slice p l.length cap] 29)).heap.size = w.heap.size + 1 := by simp
      rw [e] at hO
      exact hO
    have HR := hide (hR.later hbA)
    have HB := hide hbA
    have HLL : Hid ([⟨sa, sn, sc⟩] ++ l = L) := hr
    clear hR hI hbA hE hr hv hO
    go_enter Tryz.func21, Tryz.ntmps21
    go_wp2_with (at_builtin; refine wpList_append_rows rfl _ _ rfl (w.heap.size + 1) _ [⟨sa, sn, sc⟩] l rfl HO.out _ _ rfl HR.out hnil (by simp; omega) (by simp) ?_)
    intro v w1 hown hg
    have hB1 := HB.out.grown hg HB.out.size (fun j hj => by simp [Value.ownBlock] at hj; omega)
    have hmap : (⟨sa, sn, sc⟩ : Row).v :: l.map Row.v = L.map Row.v := by rw [← HLL.out]; rfl
    rw [hmap] at hown
    obtain ⟨q, qc, rfl, hR1, hn1⟩ := owns_rows hown
    have HB1 := hide hB1
    have HR1 := hide hR1
    have HI1 := hide (HI.out.later hB1)
    have hLb : L.length ≤ 42 := by omega
    clear hown hg hB1 hR1 HO HR HB HLL HI hnil hl h41 h41'
    have HC := hide (anyLong_any L q qc w1 (by omega) HR1.out)
    cases hlong : L.any longB
    · have h20 := no_long hlong
      rw [hlong] at HC HE
      have HC2 := hide (concat_any L q qc w1 (by omega) h20 HR1.out HI1.out)
      have hfl := flatN_le L h20 L.length (Nat.le_refl _)
      rw [flatN_all] at hfl
      have HF := hide (fun w p c h => anyFar_any (L.flatMap Row.ns) p c w (by omega) h)
      generalize L.flatMap Row.ns = F at *
      clear hlong h20
      go_wp2_with fail
      refine HC.out.mono ?_
      rintro e w2 ⟨rfl, rfl⟩
      go_wp2_with fail
      refine HC2.out.mono ?_
      rintro e w3 ⟨q2, k2, rfl, hI3, hn3, hb3⟩
      have HF3 := hide (HF.out _ q2 k2 hI3)
      have HB3 := hide (belowAl HB1.out hb3)
      clear hI3 hn3 hb3 HF HB1 HC HC2 HR1 HI1
      cases hfar : F.any farB
      · rw [hfar] at HF3 HE
        have HX := hide hfar
        clear hfar
        go_wp2_with fail
        refine HF3.out.mono ?_
        rintro e w4 ⟨rfl, rfl⟩
        go_wp2
        go_ret
        exact ⟨ret_int (by simpa using HE.out.symm), HB3.out⟩
      · rw [hfar] at HF3 HE
        have HX := hide hfar
        clear hfar
        go_wp2_with fail
        refine HF3.out.mono ?_
        rintro e w4 ⟨rfl, rfl⟩
        go_wp2
        go_ret
        exact ⟨ret_int (by simpa using HE.out.symm), HB3.out⟩
    · rw [hlong] at HC HE
      have HX := hide hlong
      clear hlong
      go_wp2_with fail
      refine HC.out.mono ?_
      rintro e w2 ⟨rfl, rfl⟩
      go_wp2
      go_ret
      exact ⟨ret_int (by simpa using HE.out.symm), HB1.out⟩
end Go.Proofs.YtfobcnhibhbbaaaGreatDoor
