/- trace.Print. -/
import Derived.Test.YtfobcnhibhbbaaaGreatDoorHoM
namespace Go.Proofs.YtfobcnhibhbbaaaGreatDoor
open Go.RowKit
set_option maxRecDepth 100000

theorem past1 {w : World} {p : Addr} {v : Value} (h : w.cell? p = some v) (o : Obj) : (w.alloc o).cell? p = some v := cell_later (bal (Below.refl _ _) o) h
def startB : ByteArray := ⟨#[115, 116, 97, 114, 116]⟩
def inB : ByteArray := ⟨#[105, 110]⟩
/-- A line's bytes: a word, and numbers behind it. -/
def lineT (s : ByteArray) (ns : List Int) : List UInt8 := lineN (s :: ns.map itoaB) (ns.length + 1) ++ [10]
/-- The lines of the first Inputs. -/
def bodyT (l : List Row) : Nat → List UInt8
  | 0 => []
  | k + 1 => bodyT l k ++ (match l[k]? with | some r => lineT inB r.ns | none => [])
theorem bodyT_succ {l : List Row} {k : Nat} (h : k < l.length) : bodyT l (k + 1) = bodyT l k ++ lineT inB l[k].ns := by
  simp [bodyT, List.getElem?_eq_getElem h]
def printT (s : Row) (l : List Row) : List UInt8 := lineT startB s.ns ++ bodyT l l.length

def Near (ns : List Int) : Prop := ∀ n ∈ ns, 0 ≤ n ∧ n ≤ 255
theorem lineT_len {s : ByteArray} {ns : List Int} (hb : ∀ n ∈ ns, -9223372036854775808 ≤ n ∧ n ≤ 9223372036854775807) : (lineT s ns).length ≤ s.size + 22 * ns.length + 1 := by
  have h := wordN_size (s := s) hb ns.length (Nat.le_refl _)
  have h2 := wordN_line s ns ns.length (Nat.le_refl _)
  have h3 : (wordN s ns ns.length).data.toList.length = (wordN s ns ns.length).size := Array.length_toList
  unfold lineT
  rw [List.length_append, ← h2, h3]
  simp only [List.length_cons, List.length_nil]
  omega
theorem bodyT_len {l : List Row} (h20 : ∀ r ∈ l, r.ns.length ≤ 20 ∧ Near r.ns) (k : Nat) (hk : k ≤ l.length) : (bodyT l k).length ≤ 500 * k := by
  induction k with
  | zero => simp [bodyT]
  | succ k ih =>
    have hm := h20 l[k] (List.getElem_mem (by omega))
    have h1 := lineT_len (s := inB) (ns := l[k].ns) (fun n hn => by have := hm.2 n hn; omega)
    have h2 := ih (by omega)
    have h3 := hm.1
    have h4 : inB.size = 2 := rfl
    rw [bodyT_succ (by omega), List.length_append]
    omega
theorem fitE_zero {s : Row} {l : List Row} (h : fitE s l = 0) : l.length ≤ 41 ∧ ∀ r ∈ s :: l, r.ns.length ≤ 20 ∧ Near r.ns := by
  unfold fitE at h
  split at h
  · simp at h
  · rename_i h1
    split at h
    · simp at h
    · rename_i h2
      split at h
      · simp at h
      · rename_i h3
        refine ⟨by omega, fun r hr => ⟨no_long (by simpa using h2) r hr, fun n hn => ?_⟩⟩
        have h3' : ((s :: l).flatMap Row.ns).any farB = false := by simpa using h3
        have := List.any_eq_false.1 h3' n (List.mem_flatMap.2 ⟨r, hr, hn⟩)
        rw [farB_true] at this
        omega
theorem fresh_builder (w : World) : Lib.IsBuilder 71 5 w.heap.size w.heap.size (Lib.byteCells []) (w.alloc (.cells #[.pointer none, .slice none 0 0] 71)) :=
  .inl ⟨Nat.le_refl _, .slice none 0 0, heap_alloc_new w _, World.ownsRow_nil _ _ _ _, by simp [Value.ownBlock]⟩

set_option maxHeartbeats 8000000 in
theorem print_any (s : Row) (p : Option Addr) (cap : Nat) (l : List Row) (w : World) (hl : l.length ≤ 5864062014800) (hR : RowsAt w p l) (hnil : p = none → cap = 0) (hI : InAt w (s :: l)) (htab : Lib.TabIs Tryz.prog w "internal/strconv.uint64pow10" .u64 Lib.pow10Tab) :
    Calls Tryz.prog 11 #[tval s p l.length cap] w fun e w' => ∃ t : List UInt8, e = .returned (.tuple #[.string ⟨t.toArray⟩, .int .i64 (fitE s l)]) ∧ (fitE s l = 0 → t = printT s l) ∧ (fitE s l ≠ 0 → t = []) ∧ Below w.heap.size w w' := by
  have hB0 : Below w.heap.size w (w.alloc (.cells #[s.v, .slice p l.length cap] 29)) := bal (Below.refl _ _) _
  have HCK := hide (fit_any s p cap l _ hl (hR.later hB0) hnil (hI.later hB0))
  have HR0 := hide hR
  have HI := hide hI
  have HT := hide htab
  unfold tval at HCK ⊢
  by_cases hc : fitE s l = 0
  · obtain ⟨h41, hall⟩ := fitE_zero hc
    have HIS := hide (fun (w' : World) (hb : Below w.heap.size w w') => ((hI.later hb) s (List.mem_cons_self ..)).1)
    have HNS := hide (hall s (List.mem_cons_self ..))
    have HNR : Hid (∀ r ∈ l, r.ns.length ≤ 20 ∧ Near r.ns) := fun r hr => hall r (List.mem_cons_of_mem _ hr)
    have HIR : Hid (∀ (w' : World), Below w.heap.size w w' → ∀ r ∈ l, IntsAt w' r.at' r.ns) := fun w' hb r hr => ((hI.later hb) r (List.mem_cons_of_mem _ hr)).1
    have HP : Hid (printT s l = lineT startB s.ns ++ bodyT l l.length) := rfl
    rw [hc] at HCK ⊢
    generalize printT s l = PT at *
    clear hc hR hI htab hall HI
    obtain ⟨sa, sn, sc⟩ := s
    unfold Row.v at HCK ⊢
    unfold Row.v at hB0
    simp only at *
    go_enter Tryz.func11, Tryz.ntmps11
    go_wp2_with fail
    refine HCK.out.mono ?_
    rintro e w1 ⟨rfl, hb1⟩
    have HB1 := hide (belowAl hB0 hb1)
    have q0 := cell_later hb1 (a := ⟨w.heap.size, 0, none⟩) (v := .slice sa sn.length sc) (by simp [go_sem])
    have q1 := cell_later hb1 (a := ⟨w.heap.size, 1, none⟩) (v := .slice p l.length cap) (by simp [go_sem])
    have hsz1 := hb1.size
    simp at hsz1
    have a0 := past1 q0 (.cells #[.pointer none, .slice none 0 0] 71)
    have a1 := past1 q1 (.cells #[.pointer none, .slice none 0 0] 71)
    clear hb1 hB0 HCK
    have hbA : Below w1.heap.size w1 (w1.alloc (.cells #[.pointer none, .slice none 0 0] 71)) := bal (Below.refl _ _) _
    have HB2 := hide (belowAl HB1.out hbA)
    have hn20 := HNS.out.1
    have HLN := hide (lineT_len (s := startB) (ns := sn) (fun n hn => by have := HNS.out.2 n hn; omega))
    have HNB := hide (numbers_any w1.heap.size w1.heap.size [] startB sa sc sn _ (fresh_builder w1) (HIS.out _ HB2.out) (by omega) (fun n hn => by have := HNS.out.2 n hn; omega)
      (by
        have h := HLN.out
        have h4 : startB.size = 5 := rfl
        unfold lineT at h
        rw [List.length_append] at h
        simp only [List.length_cons, List.length_nil] at h ⊢
        omega) (by simp) (tab_later HT.out HB2.out))
    rw [List.nil_append, show lineN (startB :: sn.map itoaB) (sn.length + 1) ++ [10] = lineT startB sn from rfl] at HNB
    have hst : (⟨#[115, 116, 97, 114, 116]⟩ : ByteArray) = startB := rfl
    rw [← hst] at HNB
    have HST := hide hst
    clear hbA hst
    go_wp2_with fail
    refine HNB.out.mono ?_
    rintro e w4 ⟨rfl, hbu, hb4, _⟩
    have p0 := hb4.cell (p := ⟨w.heap.size, 0, none⟩) (by simp; omega)
    have p1 := hb4.cell (p := ⟨w.heap.size, 1, none⟩) (by simp; omega)
    rw [a0] at p0
    rw [a1] at p1
    have hsz4 := hb4.size
    simp at hsz4
    have HB4 := hide (HB2.out.trans (hb4.mono (by omega)))
    rw [HST.out] at hbu
    have HBU := hide hbu
    have HSL : Hid ((lineT startB sn).length ≤ 500 ∧ lineT startB sn ≠ []) := ⟨by
      have h := HLN.out
      have h4 : startB.size = 5 := rfl
      omega, by simp [lineT]⟩
    clear hb4 hbu a0 a1 q0 q1 HNB HB2 HLN HST HIS HNS
    generalize hM : w1.heap.size = M at *
    clear hM
    generalize lineT startB sn = HD at *
    go_wp2
    go_loopw [19] (fun i wr => ∃ k : Nat, k ≤ l.length ∧ i = .int .i64 k ∧ Hid (Lib.IsBuilder 71 5 M M (Lib.byteCells (HD ++ bodyT l k)) wr ∧ Below M w4 wr)) (fun i _ => l.length - (intOf i).toNat)
    case atStart => exact ⟨0, Nat.zero_le _, rfl, by simpa [bodyT] using HBU.out, Below.refl _ _⟩
    case round =>
      clear HBU
      obtain ⟨k, hk, rfl, HR⟩ := hrel
      have hszw := HR.out.2.size
      have HBW := hide (HB4.out.trans (HR.out.2.mono (by omega)))
      have HTL := hide (bodyT_len HNR.out k hk)
      by_cases hlt : k < l.length
      · obtain ⟨b, off, rfl, hc⟩ := (HR0.out.later HBW.out) (by omega)
        have hck := hc k hlt
        have hki : (k : Int) < (l.length : Int) := by omega
        have HTS := hide (bodyT_succ hlt)
        have HWR := hide (HNR.out l[k] (List.getElem_mem hlt))
        have HIK := hide (HIR.out wr HBW.out l[k] (List.getElem_mem hlt))
        clear hc
        generalize l[k] = r at *
        obtain ⟨ra, rn, rc⟩ := r
        unfold Row.v at hck
        simp only at *
        have hr20 := HWR.out.1
        have HLN := hide (lineT_len (s := inB) (ns := rn) (fun n hn => by have := HWR.out.2 n hn; omega))
        have HNB := hide (numbers_any M M (HD ++ bodyT l k) inB ra rc rn wr HR.out.1 HIK.out (by omega) (fun n hn => by have := HWR.out.2 n hn; omega)
          (by
            have h := HLN.out
            have h4 : inB.size = 2 := rfl
            have h5 := HSL.out.1
            have h6 := HTL.out
            unfold lineT at h
            rw [List.length_append] at h
            simp only [List.length_cons, List.length_nil, List.length_append] at h ⊢
            omega) (by omega) (tab_later HT.out HBW.out))
        rw [List.append_assoc, show lineN (inB :: rn.map itoaB) (rn.length + 1) ++ [10] = lineT inB rn from rfl, List.append_assoc, ← HTS.out] at HNB
        have hst : (⟨#[105, 110]⟩ : ByteArray) = inB := rfl
        rw [← hst] at HNB
        clear hst
        go_wp2_with fail
        refine HNB.out.mono ?_
        rintro e w6 ⟨rfl, hu6, hb6, _⟩
        have HV : Hid (Lib.IsBuilder 71 5 M M (Lib.byteCells (HD ++ bodyT l (k + 1))) w6 ∧ Below M w4 w6) := ⟨hu6, HR.out.2.trans hb6⟩
        clear hu6 hb6 HR HNB HIK HBW
        go_wp2
        go_roundw
        case rel => exact ⟨k + 1, by omega, by go_num, HV⟩
        case measure => simp [intOf]; omega
      · obtain rfl : k = l.length := by omega
        have hki : ¬ (l.length : Int) < (l.length : Int) := by omega
        have HSA := hide (string_any M M (HD ++ bodyT l l.length) wr HR.out.1 (by simp [HSL.out.2]))
        rw [← HP.out] at HSA
        go_wp2_with fail
        refine HSA.out.mono ?_
        rintro e w6 ⟨rfl, hb6⟩
        have HB6 := hide (HBW.out.trans (hb6.mono (by omega)))
        clear hb6 HSA
        go_wp2
        go_ret2
        exact ⟨_, rfl, fun _ => rfl, fun h => absurd rfl h, HB6.out⟩
  · have hne : (fitE s l != 0) = true := by simpa using hc
    have HNZ := hide hc
    clear hc hR hI htab HI HR0
    generalize fitE s l = R at *
    generalize s.v = sv at *
    go_enter Tryz.func11, Tryz.ntmps11
    go_wp2_with fail
    refine HCK.out.mono ?_
    rintro e w1 ⟨rfl, hb1⟩
    have HB1 := hide (belowAl hB0 hb1)
    clear hb1 hB0 HCK
    go_wp2
    go_ret2
    exact ⟨[], rfl, fun h => absurd h HNZ.out, fun _ => rfl, HB1.out⟩
end Go.Proofs.YtfobcnhibhbbaaaGreatDoor

namespace Go.Proofs.YtfobcnhibhbbaaaGreatDoor
open Go.RowKit
set_option maxRecDepth 100000

def manyN (L : List Row) (k : Nat) : Bool := decide (42 < L.length) || (L.take k).any longB
theorem manyN_succ {L : List Row} {k : Nat} (h : k < L.length) : manyN L (k + 1) = (manyN L k || longB L[k]) := by
  unfold manyN
  rw [List.take_succ_eq_append_getElem h, List.any_append]
  simp [Bool.or_assoc]
def farN (L : List Row) (k : Nat) : Bool := (flatN L k).any farB
def farJ (f : Bool) (ns : List Int) (j : Nat) : Bool := f || (ns.take j).any farB
theorem farJ_succ {f : Bool} {ns : List Int} {j : Nat} (h : j < ns.length) : farJ f ns (j + 1) = (farJ f ns j || farB ns[j]) := by
  unfold farJ
  rw [List.take_succ_eq_append_getElem h, List.any_append]
  simp [Bool.or_assoc]
theorem farN_succ {L : List Row} {k : Nat} (h : k < L.length) : farN L (k + 1) = farJ (farN L k) L[k].ns L[k].ns.length := by
  unfold farN farJ
  rw [flatN_succ L k h, List.any_append, List.take_length]
/-- The text of the first lists. -/
def bodyL (L : List Row) : Nat → List UInt8
  | 0 => []
  | k + 1 => bodyL L k ++ (match L[k]? with | some r => lineT (if k = 0 then startB else inB) r.ns | none => [])
theorem bodyL_succ {L : List Row} {k : Nat} (h : k < L.length) : bodyL L (k + 1) = bodyL L k ++ lineT (if k = 0 then startB else inB) L[k].ns := by
  simp [bodyL, List.getElem?_eq_getElem h]
theorem bodyL_all (s : Row) (l : List Row) : ∀ k, k ≤ l.length → bodyL (s :: l) (k + 1) = lineT startB s.ns ++ bodyT l k
  | 0, _ => by simp [bodyL, bodyT]
  | k + 1, h => by
    rw [bodyL_succ (by simp; omega), bodyL_all s l k (by omega), bodyT_succ (by omega)]
    simp [List.append_assoc]
theorem bodyL_print (s : Row) (l : List Row) : bodyL (s :: l) (s :: l).length = printT s l := bodyL_all s l l.length (Nat.le_refl _)
def Wide (r : Row) : Prop := r.ns.length ≤ 17592186044416 ∧ ∀ n ∈ r.ns, -9223372036854775808 ≤ n ∧ n ≤ 9223372036854775807
theorem bodyL_len {L : List Row} (h : ∀ r ∈ L, Wide r) (k : Nat) (hk : k ≤ L.length) : (bodyL L k).length ≤ 387028092977200 * k := by
  induction k with
  | zero => simp [bodyL]
  | succ k ih =>
    have hm := h L[k] (List.getElem_mem (by omega))
    have h1 := lineT_len (s := if k = 0 then startB else inB) (ns := L[k].ns) hm.2
    have h2 := ih (by omega)
    have h3 := hm.1
    have h4 : (if k = 0 then startB else inB).size ≤ 5 := by split <;> decide
    rw [bodyL_succ (by omega), List.length_append]
    omega
theorem plain_line (s : ByteArray) (ns : List Int) : wordN s ns ns.length ++ ⟨#[10]⟩ = ⟨(lineT s ns).toArray⟩ := by
  have h2 := wordN_line s ns ns.length (Nat.le_refl _)
  unfold lineT
  rw [← h2]
  apply ByteArray.ext
  exact Array.toList_inj.1 (by simp)
theorem app_text (a b : List UInt8) : (⟨a.toArray⟩ : ByteArray) ++ ⟨b.toArray⟩ = ⟨(a ++ b).toArray⟩ := by simp [ByteArray.ext_iff]
theorem text_size (a : List UInt8) : (⟨a.toArray⟩ : ByteArray).size = a.length := by simp [ByteArray.size]

end Go.Proofs.YtfobcnhibhbbaaaGreatDoor

namespace Go.Proofs.YtfobcnhibhbbaaaGreatDoor
open Go.RowKit
set_option maxRecDepth 100000

/-- The numbers of a text's lines, each behind the word 'in'. -/
def insN : Nat → ByteArray → Option (List (List Int))
  | 0, s => if s.size = 0 then some [] else none
  | f + 1, s => if s.size = 0 then some [] else match readN s inB with | some ns => (insN f (restOf s)).map (ns :: ·) | none => none
theorem insN_nil {s : ByteArray} (f : Nat) (h : s.size = 0) : insN f s = some [] := by cases f <;> simp [insN, h]
theorem insN_some {s : ByteArray} {ns : List Int} (f : Nat) (h : s.size ≠ 0) (hr : readN s inB = some ns) : insN (f + 1) s = (insN f (restOf s)).map (ns :: ·) := by
  simp [insN, h, hr]
theorem insN_none {s : ByteArray} (f : Nat) (h : s.size ≠ 0) (hr : readN s inB = none) : insN (f + 1) s = none := by
  simp [insN, h, hr]
theorem restOf_le (s : ByteArray) : (restOf s).size ≤ s.size := by
  show (Lib.cut s.data.toList [10]).2.1.toArray.size ≤ s.data.size
  rw [List.size_toArray, ← Array.length_toList]
  unfold Lib.cut
  split
  · simp [List.length_drop]
  · simp
theorem restOf_lt {s : ByteArray} (h0 : s.size ≠ 0) (he : endsOf s = true) : (restOf s).size < s.size := by
  have h1 : s.data.toList.length ≠ 0 := by rw [Array.length_toList]; exact h0
  show (Lib.cut s.data.toList [10]).2.1.toArray.size < s.data.size
  rw [List.size_toArray, ← Array.length_toList]
  unfold endsOf at he
  unfold Lib.cut at he ⊢
  split
  · simp only [List.length_drop, List.length_cons, List.length_nil]
    omega
  · rename_i h
    rw [if_neg h] at he
    cases he
theorem readN_ends {s f : ByteArray} {ns : List Int} (h : readN s f = some ns) : endsOf s = true := by
  unfold readN at h
  split at h
  · split at h
    · rename_i h2; exact h2.1
    · cases h
  · cases h

/-- A list of numbers, in a block of its own. -/
def Ints3 (w : World) (r : Row) : Prop := (r.at' = none ∧ r.ns = [] ∧ r.cap = 0) ∨ ∃ g c fz, r.at' = some ⟨g, 0, none⟩ ∧ w.heap[g]? = some (.cells c 3 fz) ∧ ∀ i (hi : i < r.ns.length), c[i]? = some (.int .i64 r.ns[i])
theorem Ints3.kept {w w' : World} {r : Row} {b : Nat} (h : Ints3 w r) (hk : Lib.OthersKept 24 (some b) w w') (hb : ∀ c fz, w.heap[b]? ≠ some (.cells c 3 fz)) : Ints3 w' r := by
  rcases h with h | ⟨g, c, fz, h1, h2, h3⟩
  · exact .inl h
  · refine .inr ⟨g, c, fz, h1, hk g _ h2 ?_ ?_, h3⟩
    · rintro e
      cases e
      exact hb _ _ h2
    · rintro c' fz' e
      cases e
theorem Ints3.ints {w : World} {r : Row} (h : Ints3 w r) : IntsAt w r.at' r.ns ∧ (r.at' = none → r.cap = 0) := by
  rcases h with ⟨h1, h2, h3⟩ | ⟨g, c, fz, h1, h2, h3⟩
  · exact ⟨fun h => by rw [h2] at h; simp at h, fun _ => h3⟩
  · refine ⟨fun _ => ⟨g, 0, h1, fun i hi => ?_⟩, fun h => by rw [h1] at h; cases h⟩
    rw [Nat.zero_add, Lib.cell_of_heap h2]
    exact h3 i hi
theorem ints3_of {w : World} {base : Nat} {v : Value} {ns : List Int} (h : w.ownsRow base 3 1 v ns.length (ns.map (Value.int .i64))) : ∃ r : Row, v = r.v ∧ r.ns = ns ∧ Ints3 w r := by
  rcases h.2 with ⟨rfl, h0⟩ | ⟨g, cap, cur, rfl, hg, hh, hn, hm, hs, ht⟩
  · have : ns = [] := List.length_eq_zero_iff.1 h0
    subst this
    exact ⟨⟨none, [], 0⟩, rfl, rfl, .inl ⟨rfl, rfl, rfl⟩⟩
  · refine ⟨⟨some ⟨g, 0, none⟩, ns, cap⟩, rfl, rfl, .inr ⟨g, cur, _, rfl, hh, fun i hi => ?_⟩⟩
    have e : (cur.toList.take (ns.length * 1))[i]? = (ns.map (Value.int .i64))[i]? := by rw [ht]
    rw [List.getElem?_take_of_lt (by simp at hi; omega), List.getElem?_map, List.getElem?_eq_getElem hi] at e
    rw [← Array.getElem?_toList]
    exact e

/-- What lies in memory while a text is parsed. -/
structure Pst (w0 wr : World) (s : Row) (iv : Value) (rws : List Row) : Prop where
  res : wr.heap[w0.heap.size]? = some (.cells #[.slice none 0 0, .slice none 0 0] 29 (0, 0))
  tr : wr.heap[w0.heap.size + 1]? = some (.cells #[s.v, iv] 29 (0, 0))
  own : wr.ownsRow w0.heap.size 24 1 iv rws.length (rws.map Row.v)
  st : Ints3 wr s
  ins : ∀ r ∈ rws, Ints3 wr r
  bel : Below w0.heap.size w0 wr
theorem Pst.no3 {w0 wr : World} {s : Row} {iv : Value} {rws : List Row} (h : Pst w0 wr s iv rws) : ∀ c fz, wr.heap[w0.heap.size + 1]? ≠ some (.cells c 3 fz) := by
  intro c fz e
  rw [h.tr] at e
  simp at e
theorem Pst.size {w0 wr : World} {s : Row} {iv : Value} {rws : List Row} (h : Pst w0 wr s iv rws) : w0.heap.size + 2 ≤ wr.heap.size := by
  have := (Array.getElem?_eq_some_iff.1 h.tr).1
  omega
theorem Pst.call {w0 wr w1 : World} {s : Row} {iv : Value} {rws : List Row} (h : Pst w0 wr s iv rws) (hb : Below wr.heap.size wr w1) : Pst w0 w1 s iv rws := by
  have hk : Lib.OthersKept 24 (some (w0.heap.size + 1)) wr w1 := others_of hb (Nat.le_refl _)
  have hsz := h.size
  exact ⟨(hb.block _ (by omega)).trans h.res, (hb.block _ (by omega)).trans h.tr, own_below h.own hb, h.st.kept hk h.no3, fun r hr => (h.ins r hr).kept hk h.no3, h.bel.trans (hb.mono (by omega))⟩
theorem Pst.start {w0 wr : World} {s r : Row} {iv : Value} {rws : List Row} (h : Pst w0 wr s iv rws) (hr : Ints3 wr r) : Pst w0 (wr.setCell ⟨w0.heap.size + 1, 0, none⟩ r.v) r iv rws := by
  have hk : Lib.OthersKept 24 (some (w0.heap.size + 1)) wr (wr.setCell ⟨w0.heap.size + 1, 0, none⟩ r.v) := (Lib.OthersKept.refl 24 (some (w0.heap.size + 1)) wr).setCell ⟨w0.heap.size + 1, 0, none⟩ rfl _
  refine ⟨?_, ?_, ?_, hr.kept hk h.no3, fun q hq => (h.ins q hq).kept hk h.no3, h.bel.setCell (by simp) _⟩
  · rw [heap_setCell_other _ _ _ _ (by simp)]; exact h.res
  · rw [heap_setCell_same _ _ _ _ _ _ h.tr]; rfl
  · exact ownsRow_setCell_other h.own (Lib.ownBlock_ne h.own h.tr (by decide)) _
theorem Pst.put {w0 w1 w2 : World} {s r : Row} {iv iv' : Value} {rws : List Row} (h : Pst w0 w1 s iv rws) (hr : Ints3 w1 r) (o : Obj) (hg : (w1.alloc o).grownBy w2 iv.ownBlock) (hown : w2.ownsRow w0.heap.size 24 1 iv' (rws ++ [r]).length ((rws ++ [r]).map Row.v)) :
    Pst w0 (w2.setCell ⟨w0.heap.size + 1, 1, none⟩ iv') s iv' (rws ++ [r]) := by
  have h1 := h.call (bal (Below.refl _ _) o)
  have hk1 : Lib.OthersKept 24 (some (w0.heap.size + 1)) (w1.alloc o) w2 := (Lib.OthersKept.refl _ _ _).grown hg (own_kind h1.own)
  have hne := Lib.ownBlock_ne h1.own h1.tr (by decide)
  have hsz := h1.size
  have t2 : w2.heap[w0.heap.size + 1]? = some (.cells #[s.v, iv] 29 (0, 0)) := (hg.block _ (by omega) (fun e => hne e.symm)).trans h1.tr
  have hne0 := Lib.ownBlock_ne h1.own h1.res (by decide)
  have hk : Lib.OthersKept 24 (some (w0.heap.size + 1)) (w1.alloc o) (w2.setCell ⟨w0.heap.size + 1, 1, none⟩ iv') := hk1.setCell ⟨w0.heap.size + 1, 1, none⟩ rfl _
  have hr1 : Ints3 (w1.alloc o) r := hr.kept (b := w0.heap.size + 1) (others_of (bal (Below.refl _ _) o) (Nat.le_refl _)) h.no3
  refine ⟨?_, ?_, ?_, h1.st.kept hk h1.no3, fun q hq => ?_, ?_⟩
  · rw [heap_setCell_other _ _ _ _ (by simp)]; exact (hg.block _ (by omega) (fun e => hne0 e.symm)).trans h1.res
  · rw [heap_setCell_same _ _ _ _ _ _ t2]; rfl
  · exact ownsRow_setCell_other hown (Lib.ownBlock_ne hown t2 (by decide)) _
  · rcases List.mem_append.1 hq with hq | hq
    · exact (h1.ins q hq).kept hk h1.no3
    · rw [List.mem_singleton.1 hq]; exact hr1.kept hk h1.no3
  · exact (h1.bel.grown hg (by omega) (fun j hj => (h1.own.lt j hj).1)).setCell (by simp) _
end Go.Proofs.YtfobcnhibhbbaaaGreatDoor
