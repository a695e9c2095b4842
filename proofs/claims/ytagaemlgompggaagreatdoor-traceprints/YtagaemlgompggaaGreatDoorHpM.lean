/- trace.fit: may a trace be printed? -/
import Derived.Test.YtagaemlgompggaaGreatDoorHnM
namespace Go.Proofs.YtagaemlgompggaaGreatDoor
open Go.RowKit
set_option maxRecDepth 100000

theorem bal {w w1 : World} (h : Below w.heap.size w w1) (o : Obj) : Below w.heap.size w (w1.alloc o) := h.alloc h.size o
theorem info22 : (Tryz.prog.info? 22).map (fun i => (i.zero, i.size, i.bytes)) = some (some (.slice none 0 0), 1, 24) := by kernel_rfl
theorem owns_rows {w : World} {base : Nat} {v : Value} {l : List Row} (h : w.ownsRow base 22 1 v l.length (l.map Row.v)) : ∃ p cap, v = .slice p l.length cap ∧ RowsAt w p l ∧ (p = none → cap = 0) := by
  have h3 := h
  obtain ⟨h1, h2⟩ := h
  rcases h2 with ⟨rfl, h0⟩ | ⟨g, cap, cur, rfl, hg, hh, hn, hm, hs, ht⟩
  · exact ⟨none, 0, by rw [h0], fun h => by omega, fun _ => rfl⟩
  · refine ⟨_, cap, rfl, fun _ => ⟨g, 0, rfl, fun i hi => ?_⟩, fun h => by cases h⟩
    have := h3.cellAt i (by omega)
    rw [Nat.zero_add, this, List.getElem?_map, List.getElem?_eq_getElem hi]
    rfl
theorem rows_cells {w : World} {l : List Row} {ad : Addr} (h : RowsAt w (some ad) l) : ∀ j u, (l.map Row.v)[j]? = some u → w.cell? (ad.add j) = some u := by
  intro j u hj
  obtain ⟨hjl, hju⟩ := List.getElem?_eq_some_iff.1 hj
  have hjl' : j < l.length := by simpa using hjl
  obtain ⟨b, off, h, hc⟩ := h (by omega)
  cases h
  rw [Addr.add_lit, hc j hjl', ← hju]
  simp
theorem wpList_append_rows {w : World} {ops : Array Oper} {rest : List Oper} {o : Oper} {a : Act} {Q : Exit → Act → World → Prop} (hgd : o.guard = none) (s x : Operand)
    (ho : o.op = .call { callee := .builtin .append, args := #[s, x], argTypes := #[23, 23] })
    (base : Nat) (v : Value) (u l : List Row) (hs : a.eval s = v) (hown : w.ownsRow base 22 1 v u.length (u.map Row.v)) (p : Option Addr) (c : Nat) (hx : a.eval x = .slice p l.length c) (hB : RowsAt w p l) (hnil : p = none → c = 0)
    (hb : u.length + l.length ≤ 5864062014805) (hbase : base ≤ w.heap.size)
    (hK : ∀ v' w', w'.ownsRow base 22 1 v' (u ++ l).length ((u ++ l).map Row.v) → w.grownBy w' v.ownBlock → wpList Tryz.prog ops Q rest (a.put o.dst v') w') : wpList Tryz.prog ops Q (o :: rest) a w := by
  refine wpList_plain hgd fun _ hK' => ?_
  have hKK := fun v' w' h1 h2 => hK' _ _ (hK v' w' h1 h2)
  clear hK hK'
  obtain ⟨i0, hi, hz0, hz1, hz2⟩ := info_parts info22
  cases p with
  | none =>
    have h0 : l = [] := by
      cases l with
      | nil => rfl
      | cons a t => obtain ⟨b, off, h, _⟩ := hB (by simp); cases h
    subst h0
    obtain rfl := hnil rfl
    have hrun := run_append_owned_none (P := Tryz.prog) (w := w) base 23 o.type 22 i0 1 Tryz.underlying23 hi v u.length _ hown
    unfold Oper.wp
    simp only [List.length_nil] at hx
    simp [execOp, ho, resolve, invoke, builtin, hs, hx, hrun, Result.andThen]
    exact hKK v w (by simpa using hown) ⟨rfl, rfl, rfl, Nat.le_refl _, fun _ _ _ => rfl⟩
  | some ad =>
    refine wp_append_own w s x 23 ho base 22 i0 (.slice none 0 0) 1 24 Tryz.underlying23 hi hz0 hz1 hz2 rfl (by decide) v u.length _ hs hown ad l.length c (l.map Row.v) hx (by simp) (rows_cells hB) ?_ (by unfold maxLen; omega) (by omega) hbase (fun v' w' a b _ => hKK v' w' (by simpa using a) b)
    intro u hu
    obtain ⟨x, _, rfl⟩ := List.mem_map.1 hu
    rfl
theorem own_row1 (r : Row) (w : World) : (w.alloc (.cells #[r.v] 22)).ownsRow w.heap.size 22 1 (.slice (some ⟨w.heap.size, 0, none⟩) 1 1) 1 [r.v] :=
  ⟨rfl, .inr ⟨w.heap.size, 1, _, rfl, Nat.le_refl _, heap_alloc_new w _, Nat.le_refl _, by decide, rfl, rfl⟩⟩

/-- What lies in a row of lists: each list, in place. -/
def InAt (w : World) (l : List Row) : Prop := ∀ r ∈ l, IntsAt w r.at' r.ns ∧ (r.at' = none → r.cap = 0)
theorem InAt.later {w w' : World} {l : List Row} (h : InAt w l) (hb : Below w.heap.size w w') : InAt w' l := fun r hr => ⟨(h r hr).1.later hb, (h r hr).2⟩

def fitE (s : Row) (l : List Row) : Int := if 41 < l.length then 2 else if (s :: l).any longB then 2 else if ((s :: l).flatMap Row.ns).any farB then 3 else 0
abbrev tval (s : Row) (p : Option Addr) (len cap : Nat) : Value := .agg #[s.v, .slice p len cap]
theorem no_long {l : List Row} (h : l.any longB = false) : ∀ r ∈ l, r.ns.length ≤ 20 := fun r hr => by
  have := List.any_eq_false.1 h r hr
  simp [longB] at this
  omega

set_option maxHeartbeats 4000000 in
theorem fit_any (s : Row) (p : Option Addr) (cap : Nat) (l : List Row) (w : World) (hl : l.length ≤ 5864062014800) (hR : RowsAt w p l) (hnil : p = none → cap = 0) (hI : InAt w (s :: l)) :
    Calls Tryz.prog 11 #[tval s p l.length cap] w fun e w' => e = .returned (.int .i64 (fitE s l)) ∧ Below w.heap.size w w' := by
  by_cases h41 : 41 < l.length
  · have HE : Hid (fitE s l = 2) := by unfold fitE; rw [if_pos h41]; trivial
    have h41' : (41 : Int) < (l.length : Int) := by omega
    clear hR hI
    generalize fitE s l = x at *
    generalize s.v = sv at *
    go_enter Tryz.func11, Tryz.ntmps11
    go_wp2
    go_ret
    exact ⟨ret_int HE.out.symm, bal (Below.refl _ _) _⟩
  · have hE : fitE s l = if (s :: l).any longB then 2 else if ((s :: l).flatMap Row.ns).any farB then 3 else 0 := by unfold fitE; rw [if_neg h41]
    have h41' : ¬ (41 : Int) < (l.length : Int) := by omega
    have HI := hide hI
    have HE := hide hE
    generalize fitE s l = x at *
    generalize hr : (s :: l) = L at *
    have hL : l.length + 1 = L.length := by rw [← hr]; rfl
    obtain ⟨sa, sn, sc⟩ := s
    have hv : (⟨sa, sn, sc⟩ : Row).v = .slice sa sn.length sc := rfl
    have hO := own_row1 ⟨sa, sn, sc⟩ (w.alloc (.cells #[(⟨sa, sn, sc⟩ : Row).v, .slice p l.length cap] 25))
    unfold tval
    rw [hv] at hO ⊢
    have hbA : Below w.heap.size w ((w.alloc (.cells #[.slice sa sn.length sc, .slice p l.length cap] 25)).alloc (.cells #[.slice sa sn.length sc] 22)) := bal (bal (Below.refl _ _) _) _
    have HO : Hid (((w.alloc (.cells #[.slice sa sn.length sc, .slice p l.length cap] 25)).alloc (.cells #[.slice sa sn.length sc] 22)).ownsRow (w.heap.size + 1) 22 1 (.slice (some ⟨w.heap.size + 1, 0, none⟩) ([(⟨sa, sn, sc⟩ : Row)].length) 1) ([(⟨sa, sn, sc⟩ : Row)].length) ([(⟨sa, sn, sc⟩ : Row)].map Row.v)) := by
      have e : (w.alloc (.cells #[.slice sa sn.length sc, .slice p l.length cap] 25)).heap.size = w.heap.size + 1 := by simp
      rw [e] at hO
      exact hO
    have HR := hide (hR.later hbA)
    have HB := hide hbA
    have HLL : Hid ([⟨sa, sn, sc⟩] ++ l = L) := hr
    clear hR hI hbA hE hr hv hO
    go_enter Tryz.func11, Tryz.ntmps11
    go_wp2_with (at_builtin; refine wpList_append_rows rfl _ _ rfl (w.heap.size + 1) _ [⟨sa, sn, sc⟩] l rfl HO.out _ _ rfl HR.out hnil (by simp; omega) (by simp) ?_)
    intro v w1 hown hg
    have hB1 := HB.out.grown hg HB.out.size (fun j hj => by simp [Value.ownBlock] at hj; omega)
    have hmap : (⟨sa, sn, sc⟩ : Row).v :: l.map Row.v = L.map Row.v := by rw [← HLL.out]; rfl
    rw [hmap] at hown
    obtain ⟨q, qc, rfl, hR1, hn1⟩ := owns_rows hown
    have HB1 := hide hB1
    have HR1 := hide hR1
    have HI1 := hide (HI.out.later hB1)
    have hLb : L.length ≤ 42 := by omega
    clear hown hg hB1 hR1 HO HR HB HLL HI hnil hl h41 h41'
    have HC := hide (anyLong_any L q qc w1 (by omega) HR1.out)
    cases hlong : L.any longB
    · have h20 := no_long hlong
      rw [hlong] at HC HE
      have HC2 := hide (concat_any L q qc w1 (by omega) h20 HR1.out HI1.out)
      have hfl := flatN_le L h20 L.length (Nat.le_refl _)
      rw [flatN_all] at hfl
      have HF := hide (fun w p c h => anyFar_any (L.flatMap Row.ns) p c w (by omega) h)
      generalize L.flatMap Row.ns = F at *
      clear hlong h20
      go_wp2_with fail
      refine HC.out.mono ?_
      rintro e w2 ⟨rfl, rfl⟩
      go_wp2_with fail
      refine HC2.out.mono ?_
      rintro e w3 ⟨q2, k2, rfl, hI3, hn3, hb3⟩
      have HF3 := hide (HF.out _ q2 k2 hI3)
      have HB3 := hide (belowAl HB1.out hb3)
      clear hI3 hn3 hb3 HF HB1 HC HC2 HR1 HI1
      cases hfar : F.any farB
      · rw [hfar] at HF3 HE
        have HX := hide hfar
        clear hfar
        go_wp2_with fail
        refine HF3.out.mono ?_
        rintro e w4 ⟨rfl, rfl⟩
        go_wp2
        go_ret
        exact ⟨ret_int (by simpa using HE.out.symm), HB3.out⟩
      · rw [hfar] at HF3 HE
        have HX := hide hfar
        clear hfar
        go_wp2_with fail
        refine HF3.out.mono ?_
        rintro e w4 ⟨rfl, rfl⟩
        go_wp2
        go_ret
        exact ⟨ret_int (by simpa using HE.out.symm), HB3.out⟩
    · rw [hlong] at HC HE
      have HX := hide hlong
      clear hlong
      go_wp2_with fail
      refine HC.out.mono ?_
      rintro e w2 ⟨rfl, rfl⟩
      go_wp2
      go_ret
      exact ⟨ret_int (by simpa using HE.out.symm), HB1.out⟩
end Go.Proofs.YtagaemlgompggaaGreatDoor

namespace Go.Proofs.YtagaemlgompggaaGreatDoor
open Go.RowKit
set_option maxRecDepth 100000

theorem past1 {w : World} {p : Addr} {v : Value} (h : w.cell? p = some v) (o : Obj) : (w.alloc o).cell? p = some v := cell_later (bal (Below.refl _ _) o) h
def startB : ByteArray := ⟨#[115, 116, 97, 114, 116]⟩
def inB : ByteArray := ⟨#[105, 110]⟩
/-- A line's bytes: a word, and numbers behind it. -/
def lineT (s : ByteArray) (ns : List Int) : List UInt8 := lineN (s :: ns.map itoaB) (ns.length + 1) ++ [10]
/-- The lines of the first Inputs. -/
def bodyT (l : List Row) : Nat → List UInt8
  | 0 => []
  | k + 1 => bodyT l k ++ (match l[k]? with | some r => lineT inB r.ns | none => [])
theorem bodyT_succ {l : List Row} {k : Nat} (h : k < l.length) : bodyT l (k + 1) = bodyT l k ++ lineT inB l[k].ns := by
  simp [bodyT, List.getElem?_eq_getElem h]
def printT (s : Row) (l : List Row) : List UInt8 := lineT startB s.ns ++ bodyT l l.length

def Near (ns : List Int) : Prop := ∀ n ∈ ns, 0 ≤ n ∧ n ≤ 255
theorem lineT_len {s : ByteArray} {ns : List Int} (hb : ∀ n ∈ ns, -9223372036854775808 ≤ n ∧ n ≤ 9223372036854775807) : (lineT s ns).length ≤ s.size + 22 * ns.length + 1 := by
  have h := wordN_size (s := s) hb ns.length (Nat.le_refl _)
  have h2 := wordN_line s ns ns.length (Nat.le_refl _)
  have h3 : (wordN s ns ns.length).data.toList.length = (wordN s ns ns.length).size := Array.length_toList
  unfold lineT
  rw [List.length_append, ← h2, h3]
  simp only [List.length_cons, List.length_nil]
  omega
theorem bodyT_len {l : List Row} (h20 : ∀ r ∈ l, r.ns.length ≤ 20 ∧ Near r.ns) (k : Nat) (hk : k ≤ l.length) : (bodyT l k).length ≤ 500 * k := by
  induction k with
  | zero => simp [bodyT]
  | succ k ih =>
    have hm := h20 l[k] (List.getElem_mem (by omega))
    have h1 := lineT_len (s := inB) (ns := l[k].ns) (fun n hn => by have := hm.2 n hn; omega)
    have h2 := ih (by omega)
    have h3 := hm.1
    have h4 : inB.size = 2 := rfl
    rw [bodyT_succ (by omega), List.length_append]
    omega
theorem fitE_zero {s : Row} {l : List Row} (h : fitE s l = 0) : l.length ≤ 41 ∧ ∀ r ∈ s :: l, r.ns.length ≤ 20 ∧ Near r.ns := by
  unfold fitE at h
  split at h
  · simp at h
  · rename_i h1
    split at h
    · simp at h
    · rename_i h2
      split at h
      · simp at h
      · rename_i h3
        refine ⟨by omega, fun r hr => ⟨no_long (by simpa using h2) r hr, fun n hn => ?_⟩⟩
        have h3' : ((s :: l).flatMap Row.ns).any farB = false := by simpa using h3
        have := List.any_eq_false.1 h3' n (List.mem_flatMap.2 ⟨r, hr, hn⟩)
        rw [farB_true] at this
        omega
theorem fresh_builder (w : World) : Lib.IsBuilder 41 5 w.heap.size w.heap.size (Lib.byteCells []) (w.alloc (.cells #[.pointer none, .slice none 0 0] 41)) :=
  .inl ⟨Nat.le_refl _, .slice none 0 0, heap_alloc_new w _, World.ownsRow_nil _ _ _ _, by simp [Value.ownBlock]⟩

set_option maxHeartbeats 8000000 in
theorem print_any (s : Row) (p : Option Addr) (cap : Nat) (l : List Row) (w : World) (hl : l.length ≤ 5864062014800) (hR : RowsAt w p l) (hnil : p = none → cap = 0) (hI : InAt w (s :: l)) (htab : Lib.TabIs Tryz.prog w "internal/strconv.uint64pow10" .u64 Lib.pow10Tab) :
    Calls Tryz.prog 5 #[tval s p l.length cap] w fun e w' => ∃ t : List UInt8, e = .returned (.tuple #[.string ⟨t.toArray⟩, .int .i64 (fitE s l)]) ∧ (fitE s l = 0 → t = printT s l) ∧ (fitE s l ≠ 0 → t = []) ∧ Below w.heap.size w w' := by
  have hB0 : Below w.heap.size w (w.alloc (.cells #[s.v, .slice p l.length cap] 25)) := bal (Below.refl _ _) _
  have HCK := hide (fit_any s p cap l _ hl (hR.later hB0) hnil (hI.later hB0))
  have HR0 := hide hR
  have HI := hide hI
  have HT := hide htab
  unfold tval at HCK ⊢
  by_cases hc : fitE s l = 0
  · obtain ⟨h41, hall⟩ := fitE_zero hc
    have HIS := hide (fun (w' : World) (hb : Below w.heap.size w w') => ((hI.later hb) s (List.mem_cons_self ..)).1)
    have HNS := hide (hall s (List.mem_cons_self ..))
    have HNR : Hid (∀ r ∈ l, r.ns.length ≤ 20 ∧ Near r.ns) := fun r hr => hall r (List.mem_cons_of_mem _ hr)
    have HIR : Hid (∀ (w' : World), Below w.heap.size w w' → ∀ r ∈ l, IntsAt w' r.at' r.ns) := fun w' hb r hr => ((hI.later hb) r (List.mem_cons_of_mem _ hr)).1
    have HP : Hid (printT s l = lineT startB s.ns ++ bodyT l l.length) := rfl
    rw [hc] at HCK ⊢
    generalize printT s l = PT at *
    clear hc hR hI htab hall HI
    obtain ⟨sa, sn, sc⟩ := s
    unfold Row.v at HCK ⊢
    unfold Row.v at hB0
    simp only at *
    go_enter Tryz.func5, Tryz.ntmps5
    go_wp2_with fail
    refine HCK.out.mono ?_
    rintro e w1 ⟨rfl, hb1⟩
    have HB1 := hide (belowAl hB0 hb1)
    have q0 := cell_later hb1 (a := ⟨w.heap.size, 0, none⟩) (v := .slice sa sn.length sc) (by simp [go_sem])
    have q1 := cell_later hb1 (a := ⟨w.heap.size, 1, none⟩) (v := .slice p l.length cap) (by simp [go_sem])
    have hsz1 := hb1.size
    simp at hsz1
    have a0 := past1 q0 (.cells #[.pointer none, .slice none 0 0] 41)
    have a1 := past1 q1 (.cells #[.pointer none, .slice none 0 0] 41)
    clear hb1 hB0 HCK
    have hbA : Below w1.heap.size w1 (w1.alloc (.cells #[.pointer none, .slice none 0 0] 41)) := bal (Below.refl _ _) _
    have HB2 := hide (belowAl HB1.out hbA)
    have hn20 := HNS.out.1
    have HLN := hide (lineT_len (s := startB) (ns := sn) (fun n hn => by have := HNS.out.2 n hn; omega))
    have HNB := hide (numbers_any w1.heap.size w1.heap.size [] startB sa sc sn _ (fresh_builder w1) (HIS.out _ HB2.out) (by omega) (fun n hn => by have := HNS.out.2 n hn; omega)
      (by
        have h := HLN.out
        have h4 : startB.size = 5 := rfl
        unfold lineT at h
        rw [List.length_append] at h
        simp only [List.length_cons, List.length_nil] at h ⊢
        omega) (by simp) (tab_later HT.out HB2.out))
    rw [List.nil_append, show lineN (startB :: sn.map itoaB) (sn.length + 1) ++ [10] = lineT startB sn from rfl] at HNB
    have hst : (⟨#[115, 116, 97, 114, 116]⟩ : ByteArray) = startB := rfl
    rw [← hst] at HNB
    have HST := hide hst
    clear hbA hst
    go_wp2_with fail
    refine HNB.out.mono ?_
    rintro e w4 ⟨rfl, hbu, hb4, _⟩
    have p0 := hb4.cell (p := ⟨w.heap.size, 0, none⟩) (by simp; omega)
    have p1 := hb4.cell (p := ⟨w.heap.size, 1, none⟩) (by simp; omega)
    rw [a0] at p0
    rw [a1] at p1
    have hsz4 := hb4.size
    simp at hsz4
    have HB4 := hide (HB2.out.trans (hb4.mono (by omega)))
    rw [HST.out] at hbu
    have HBU := hide hbu
    have HSL : Hid ((lineT startB sn).length ≤ 500 ∧ lineT startB sn ≠ []) := ⟨by
      have h := HLN.out
      have h4 : startB.size = 5 := rfl
      omega, by simp [lineT]⟩
    clear hb4 hbu a0 a1 q0 q1 HNB HB2 HLN HST HIS HNS
    generalize hM : w1.heap.size = M at *
    clear hM
    generalize lineT startB sn = HD at *
    go_wp2
    go_loopw [19] (fun i wr => ∃ k : Nat, k ≤ l.length ∧ i = .int .i64 k ∧ Hid (Lib.IsBuilder 41 5 M M (Lib.byteCells (HD ++ bodyT l k)) wr ∧ Below M w4 wr)) (fun i _ => l.length - (intOf i).toNat)
    case atStart => exact ⟨0, Nat.zero_le _, rfl, by simpa [bodyT] using HBU.out, Below.refl _ _⟩
    case round =>
      clear HBU
      obtain ⟨k, hk, rfl, HR⟩ := hrel
      have hszw := HR.out.2.size
      have HBW := hide (HB4.out.trans (HR.out.2.mono (by omega)))
      have HTL := hide (bodyT_len HNR.out k hk)
      by_cases hlt : k < l.length
      · obtain ⟨b, off, rfl, hc⟩ := (HR0.out.later HBW.out) (by omega)
        have hck := hc k hlt
        have hki : (k : Int) < (l.length : Int) := by omega
        have HTS := hide (bodyT_succ hlt)
        have HWR := hide (HNR.out l[k] (List.getElem_mem hlt))
        have HIK := hide (HIR.out wr HBW.out l[k] (List.getElem_mem hlt))
        clear hc
        generalize l[k] = r at *
        obtain ⟨ra, rn, rc⟩ := r
        unfold Row.v at hck
        simp only at *
        have hr20 := HWR.out.1
        have HLN := hide (lineT_len (s := inB) (ns := rn) (fun n hn => by have := HWR.out.2 n hn; omega))
        have HNB := hide (numbers_any M M (HD ++ bodyT l k) inB ra rc rn wr HR.out.1 HIK.out (by omega) (fun n hn => by have := HWR.out.2 n hn; omega)
          (by
            have h := HLN.out
            have h4 : inB.size = 2 := rfl
            have h5 := HSL.out.1
            have h6 := HTL.out
            unfold lineT at h
            rw [List.length_append] at h
            simp only [List.length_cons, List.length_nil, List.length_append] at h ⊢
            omega) (by omega) (tab_later HT.out HBW.out))
        rw [List.append_assoc, show lineN (inB :: rn.map itoaB) (rn.length + 1) ++ [10] = lineT inB rn from rfl, List.append_assoc, ← HTS.out] at HNB
        have hst : (⟨#[105, 110]⟩ : ByteArray) = inB := rfl
        rw [← hst] at HNB
        clear hst
        go_wp2_with fail
        refine HNB.out.mono ?_
        rintro e w6 ⟨rfl, hu6, hb6, _⟩
        have HV : Hid (Lib.IsBuilder 41 5 M M (Lib.byteCells (HD ++ bodyT l (k + 1))) w6 ∧ Below M w4 w6) := ⟨hu6, HR.out.2.trans hb6⟩
        clear hu6 hb6 HR HNB HIK HBW
        go_wp2
        go_roundw
        case rel => exact ⟨k + 1, by omega, by go_num, HV⟩
        case measure => simp [intOf]; omega
      · obtain rfl : k = l.length := by omega
        have hki : ¬ (l.length : Int) < (l.length : Int) := by omega
        have HSA := hide (string_any M M (HD ++ bodyT l l.length) wr HR.out.1 (by simp [HSL.out.2]))
        rw [← HP.out] at HSA
        go_wp2_with fail
        refine HSA.out.mono ?_
        rintro e w6 ⟨rfl, hb6⟩
        have HB6 := hide (HBW.out.trans (hb6.mono (by omega)))
        clear hb6 HSA
        go_wp2
        go_ret2
        exact ⟨_, rfl, fun _ => rfl, fun h => absurd rfl h, HB6.out⟩
  · have hne : (fitE s l != 0) = true := by simpa using hc
    have HNZ := hide hc
    clear hc hR hI htab HI HR0
    generalize fitE s l = R at *
    generalize s.v = sv at *
    go_enter Tryz.func5, Tryz.ntmps5
    go_wp2_with fail
    refine HCK.out.mono ?_
    rintro e w1 ⟨rfl, hb1⟩
    have HB1 := hide (belowAl hB0 hb1)
    clear hb1 hB0 HCK
    go_wp2
    go_ret2
    exact ⟨[], rfl, fun h => absurd h HNZ.out, fun _ => rfl, HB1.out⟩
end Go.Proofs.YtagaemlgompggaaGreatDoor
