/- The plain PrintTrace. -/
import Derived.Test.YtagaemlgompggaaGreatDoorHpM
namespace Go.Proofs.YtagaemlgompggaaGreatDoor
open Go.RowKit
set_option maxRecDepth 100000

def manyN (L : List Row) (k : Nat) : Bool := decide (42 < L.length) || (L.take k).any longB
theorem manyN_succ {L : List Row} {k : Nat} (h : k < L.length) : manyN L (k + 1) = (manyN L k || longB L[k]) := by
  unfold manyN
  rw [List.take_succ_eq_append_getElem h, List.any_append]
  simp [Bool.or_assoc]
def farN (L : List Row) (k : Nat) : Bool := (flatN L k).any farB
def farJ (f : Bool) (ns : List Int) (j : Nat) : Bool := f || (ns.take j).any farB
theorem farJ_succ {f : Bool} {ns : List Int} {j : Nat} (h : j < ns.length) : farJ f ns (j + 1) = (farJ f ns j || farB ns[j]) := by
  unfold farJ
  rw [List.take_succ_eq_append_getElem h, List.any_append]
  simp [Bool.or_assoc]
theorem farN_succ {L : List Row} {k : Nat} (h : k < L.length) : farN L (k + 1) = farJ (farN L k) L[k].ns L[k].ns.length := by
  unfold farN farJ
  rw [flatN_succ L k h, List.any_append, List.take_length]
/-- The text of the first lists. -/
def bodyL (L : List Row) : Nat → List UInt8
  | 0 => []
  | k + 1 => bodyL L k ++ (match L[k]? with | some r => lineT (if k = 0 then startB else inB) r.ns | none => [])
theorem bodyL_succ {L : List Row} {k : Nat} (h : k < L.length) : bodyL L (k + 1) = bodyL L k ++ lineT (if k = 0 then startB else inB) L[k].ns := by
  simp [bodyL, List.getElem?_eq_getElem h]
theorem bodyL_all (s : Row) (l : List Row) : ∀ k, k ≤ l.length → bodyL (s :: l) (k + 1) = lineT startB s.ns ++ bodyT l k
  | 0, _ => by simp [bodyL, bodyT]
  | k + 1, h => by
    rw [bodyL_succ (by simp; omega), bodyL_all s l k (by omega), bodyT_succ (by omega)]
    simp [List.append_assoc]
theorem bodyL_print (s : Row) (l : List Row) : bodyL (s :: l) (s :: l).length = printT s l := bodyL_all s l l.length (Nat.le_refl _)
def Wide (r : Row) : Prop := r.ns.length ≤ 17592186044416 ∧ ∀ n ∈ r.ns, -9223372036854775808 ≤ n ∧ n ≤ 9223372036854775807
theorem bodyL_len {L : List Row} (h : ∀ r ∈ L, Wide r) (k : Nat) (hk : k ≤ L.length) : (bodyL L k).length ≤ 387028092977200 * k := by
  induction k with
  | zero => simp [bodyL]
  | succ k ih =>
    have hm := h L[k] (List.getElem_mem (by omega))
    have h1 := lineT_len (s := if k = 0 then startB else inB) (ns := L[k].ns) hm.2
    have h2 := ih (by omega)
    have h3 := hm.1
    have h4 : (if k = 0 then startB else inB).size ≤ 5 := by split <;> decide
    rw [bodyL_succ (by omega), List.length_append]
    omega
theorem plain_line (s : ByteArray) (ns : List Int) : wordN s ns ns.length ++ ⟨#[10]⟩ = ⟨(lineT s ns).toArray⟩ := by
  have h2 := wordN_line s ns ns.length (Nat.le_refl _)
  unfold lineT
  rw [← h2]
  apply ByteArray.ext
  exact Array.toList_inj.1 (by simp)
theorem app_text (a b : List UInt8) : (⟨a.toArray⟩ : ByteArray) ++ ⟨b.toArray⟩ = ⟨(a ++ b).toArray⟩ := by simp [ByteArray.ext_iff]
theorem text_size (a : List UInt8) : (⟨a.toArray⟩ : ByteArray).size = a.length := by simp [ByteArray.size]

set_option maxHeartbeats 8000000 in
theorem printTrace_any (s : Row) (p : Option Addr) (cap : Nat) (l : List Row) (w : World) (hl : l.length ≤ 5864062014800) (hR : RowsAt w p l) (hnil : p = none → cap = 0) (hI : InAt w (s :: l)) (hw : ∀ r ∈ s :: l, Wide r) :
    Calls Tryz.prog 6 #[tval s p l.length cap] w fun e w' => ∃ t : List UInt8, e = .returned (.tuple #[.string ⟨t.toArray⟩, .int .i64 (fitE s l)]) ∧ (fitE s l = 0 → t = printT s l) ∧ (fitE s l ≠ 0 → t = []) ∧ Below w.heap.size w w' := by
  have HI := hide hI
  have HW := hide hw
  have HP := hide (bodyL_print s l)
  have HF0 : Hid (∀ L, L = s :: l → fitE s l = if manyN L L.length then 2 else if farN L L.length then 3 else 0) := by
    rintro L rfl
    unfold fitE manyN farN
    rw [flatN_all, List.take_length, show decide (42 < (s :: l).length) = decide (41 < l.length) from decide_eq_decide.2 (by simp only [List.length_cons]; omega)]
    generalize (s :: l).any longB = b
    by_cases h41 : 41 < l.length <;> cases b <;> simp [h41]
  generalize fitE s l = x at *
  generalize printT s l = PT at *
  generalize hr : (s :: l) = L at *
  have HFE := hide (HF0.out L rfl)
  clear HF0
  have hL : l.length + 1 = L.length := by rw [← hr]; rfl
  obtain ⟨sa, sn, sc⟩ := s
  have hv : (⟨sa, sn, sc⟩ : Row).v = .slice sa sn.length sc := rfl
  have hO := own_row1 ⟨sa, sn, sc⟩ (w.alloc (.cells #[(⟨sa, sn, sc⟩ : Row).v, .slice p l.length cap] 25))
  unfold tval
  rw [hv] at hO ⊢
  have hbA : Below w.heap.size w ((w.alloc (.cells #[.slice sa sn.length sc, .slice p l.length cap] 25)).alloc (.cells #[.slice sa sn.length sc] 22)) := bal (bal (Below.refl _ _) _) _
  have HO : Hid (((w.alloc (.cells #[.slice sa sn.length sc, .slice p l.length cap] 25)).alloc (.cells #[.slice sa sn.length sc] 22)).ownsRow (w.heap.size + 1) 22 1 (.slice (some ⟨w.heap.size + 1, 0, none⟩) ([(⟨sa, sn, sc⟩ : Row)].length) 1) ([(⟨sa, sn, sc⟩ : Row)].length) ([(⟨sa, sn, sc⟩ : Row)].map Row.v)) := by
    have e : (w.alloc (.cells #[.slice sa sn.length sc, .slice p l.length cap] 25)).heap.size = w.heap.size + 1 := by simp
    rw [e] at hO
    exact hO
  have HR := hide (hR.later hbA)
  have HB := hide hbA
  have HLL : Hid ([⟨sa, sn, sc⟩] ++ l = L) := hr
  clear hR hI hbA hr hv hO hw
  go_enter Tryz.func6, Tryz.ntmps6
  go_wp2_with (at_builtin; refine wpList_append_rows rfl _ _ rfl (w.heap.size + 1) _ [⟨sa, sn, sc⟩] l rfl HO.out _ _ rfl HR.out hnil (by simp; omega) (by simp) ?_)
  intro v w1 hown hg
  have hB1 := HB.out.grown hg HB.out.size (fun j hj => by simp [Value.ownBlock] at hj; omega)
  have hmap : (⟨sa, sn, sc⟩ : Row).v :: l.map Row.v = L.map Row.v := by rw [← HLL.out]; rfl
  rw [hmap] at hown
  obtain ⟨q, qc, rfl, hR1, hn1⟩ := owns_rows hown
  have HB1 := hide hB1
  have HR1 := hide hR1
  have HI1 := hide (HI.out.later hB1)
  have hLb : L.length ≤ 5864062014801 := by omega
  clear hown hg hB1 hR1 HO HR HB HLL HI hnil hl hmap hL
  have h42 : decide ((42 : Int) < (L.length : Int)) = manyN L 0 := by simp [manyN]; omega
  have HLZ := hide (bodyL_len HW.out)
  have HM0 : Hid (manyN L 0 = true → 42 < L.length) := by intro h; simpa [manyN] using h
  go_wp2
  clear h42
  go_loopw [5, 6, 7, 8] (fun m f t i wr => ∃ k : Nat, k ≤ L.length ∧ m = .bool (manyN L k) ∧ f = .bool (farN L k) ∧ t = .string ⟨(bodyL L k).toArray⟩ ∧ i = .int .i64 k ∧ Hid (Below w.heap.size w wr ∧ Below w1.heap.size w1 wr)) (fun _ _ _ i _ => L.length - (intOf i).toNat)
  case atStart => exact ⟨0, Nat.zero_le _, rfl, rfl, rfl, rfl, HB1.out, Below.refl _ _⟩
  case round =>
    obtain ⟨k, hk, rfl, rfl, rfl, rfl, HR⟩ := hrel
    by_cases hlt : k < L.length
    · have hki : (k : Int) < (L.length : Int) := by omega
      cases hm : manyN L k
      · obtain ⟨b, off, rfl, hc⟩ := (HR1.out.later HR.out.2) (by omega)
        have hck := hc k hlt
        have hk42 : L.length ≤ 42 := by
          have h := hm
          simp [manyN] at h
          exact h.1
        have HMS := hide (manyN_succ hlt)
        rw [hm, Bool.false_or] at HMS
        have HFS := hide (farN_succ hlt)
        have HBS := hide (bodyL_succ hlt)
        have HZ := hide (HLZ.out k hk)
        have HWR := hide (HW.out L[k] (List.getElem_mem hlt))
        have HIK := hide (fun (w' : World) (hb : Below w1.heap.size w1 w') => ((HI1.out.later hb) L[k] (List.getElem_mem hlt)).1)
        have HMM := hide hm
        clear hc hm
        generalize L[k] = r at *
        obtain ⟨ra, rn, rc⟩ := r
        unfold Row.v at hck
        have HLO : Hid (longB ⟨ra, rn, rc⟩ = decide (20 < rn.length)) := rfl
        simp only at *
        generalize hf0 : farN L k = f0 at *
        generalize hT0 : bodyL L k = T0 at *
        clear hf0 hT0
        have hrl := HWR.out.1
        have h20 : decide ((20 : Int) < (rn.length : Int)) = longB ⟨ra, rn, rc⟩ := by rw [HLO.out]; exact decide_eq_decide.2 (by omega)
        generalize longB ⟨ra, rn, rc⟩ = lb at *
        go_wp2
        clear h20
        go_loopw [6, 9] (fun f j wq => ∃ i : Nat, i ≤ rn.length ∧ f = .bool (farJ f0 rn i) ∧ j = .int .i64 i ∧ wq = wr) (fun _ j _ => rn.length - (intOf j).toNat)
        case atStart => exact ⟨0, Nat.zero_le _, by simp [farJ], rfl, rfl⟩
        case round =>
          obtain ⟨i, hi, rfl, rfl, hwq⟩ := hrel
          have hwq' := hwq.symm
          subst hwq'
          clear hwq
          by_cases hit : i < rn.length
          · obtain ⟨g, io, hga, hic⟩ := (HIK.out wr HR.out.2) (by omega)
            subst hga
            have hci := hic i hit
            have hii : (i : Int) < (rn.length : Int) := by omega
            have HJS := hide (farJ_succ (f := f0) hit)
            clear hic
            generalize rn[i] = n at *
            generalize farJ f0 rn i = fj at *
            cases fj
            · have HBT := hide (btw_far n)
              rw [Bool.false_or] at HJS
              generalize farB n = fb at *
              go_wp2_with fail
              refine (between_any n 0 255 _).mono ?_
              rintro e w5 ⟨rfl, rfl⟩
              rw [HBT.out]
              go_wp2
              go_roundw
              case rel => exact ⟨i + 1, by omega, by rw [HJS.out], by go_num, trivial⟩
              case measure => simp [intOf]; omega
            · rw [Bool.true_or] at HJS
              go_wp2
              go_roundw
              case rel => exact ⟨i + 1, by omega, by rw [HJS.out], by go_num, trivial⟩
              case measure => simp [intOf]; omega
          · obtain rfl : i = rn.length := by omega
            have hii : ¬ (rn.length : Int) < (rn.length : Int) := by omega
            rw [← HFS.out]
            generalize hf1 : farN L (k + 1) = f1 at *
            have HF1 := hide hf1
            clear hf1
            by_cases hk0 : k = 0
            · subst hk0
              simp only [Nat.add_zero] at hck
              have HPL := hide (pline_any startB ra rc rn wr (by decide) (HIK.out _ HR.out.2) (by omega) HWR.out.2)
              rw [plain_line] at HPL
              have HLT := hide (lineT_len (s := startB) (ns := rn) HWR.out.2)
              rw [if_pos rfl] at HBS
              generalize lineT startB rn = lt at *
              have hst : (⟨#[115, 116, 97, 114, 116]⟩ : ByteArray) = startB := rfl
              rw [← hst] at HPL
              have h4 : startB.size = 5 := rfl
              have s1 : (⟨T0.toArray⟩ : ByteArray).size ≤ 16255179905042400 := by rw [text_size]; have := HZ.out; omega
              have s2 : (⟨lt.toArray⟩ : ByteArray).size ≤ 387028092977200 := by rw [text_size]; have := HLT.out; omega
              clear hst
              go_wp2_with fail
              refine HPL.out.mono ?_
              rintro e w6 ⟨rfl, hb6⟩
              have HV : Hid (Below w.heap.size w w6 ∧ Below w1.heap.size w1 w6) := ⟨belowAl HR.out.1 hb6, belowAl HR.out.2 hb6⟩
              clear hb6 HPL
              go_wp2
              go_roundw
              case rel => exact ⟨1, by omega, by rw [HMS.out], by rw [← HF1.out], by rw [HBS.out, app_text], rfl, HV⟩
              case measure => simp [intOf]; omega
            · have hk0' : ¬ (k : Int) = 0 := by omega
              have HPL := hide (pline_any inB ra rc rn wr (by decide) (HIK.out _ HR.out.2) (by omega) HWR.out.2)
              rw [plain_line] at HPL
              have HLT := hide (lineT_len (s := inB) (ns := rn) HWR.out.2)
              rw [if_neg hk0] at HBS
              generalize lineT inB rn = lt at *
              have hst : (⟨#[105, 110]⟩ : ByteArray) = inB := rfl
              rw [← hst] at HPL
              have h4 : inB.size = 2 := rfl
              have s1 : (⟨T0.toArray⟩ : ByteArray).size ≤ 16255179905042400 := by rw [text_size]; have := HZ.out; omega
              have s2 : (⟨lt.toArray⟩ : ByteArray).size ≤ 387028092977200 := by rw [text_size]; have := HLT.out; omega
              clear hst
              go_wp2_with fail
              refine HPL.out.mono ?_
              rintro e w6 ⟨rfl, hb6⟩
              have HV : Hid (Below w.heap.size w w6 ∧ Below w1.heap.size w1 w6) := ⟨belowAl HR.out.1 hb6, belowAl HR.out.2 hb6⟩
              clear hb6 HPL
              go_wp2
              go_roundw
              case rel => exact ⟨k + 1, by omega, by rw [HMS.out], by rw [HF1.out], by rw [HBS.out, app_text], by go_num, HV⟩
              case measure => simp [intOf]; omega
      · have hX : x = 2 := by
          have h : manyN L L.length = true := by
            have h2 := hm
            unfold manyN at h2 ⊢
            simp only [Bool.or_eq_true] at h2 ⊢
            rcases h2 with h2 | h2
            · exact .inl h2
            · refine .inr ?_
              rw [List.take_length]
              obtain ⟨y, hy, hl⟩ := List.any_eq_true.1 h2
              exact List.any_eq_true.2 ⟨y, List.mem_of_mem_take hy, hl⟩
          have h3 := HFE.out
          rw [if_pos h] at h3
          exact h3
        have HMM := hide hm
        clear hm
        generalize hf0 : farN L k = f0 at *
        generalize hT0 : bodyL L k = T0 at *
        clear hf0 hT0 HFE HP HW HLZ HM0
        subst hX
        go_wp2
        go_ret2
        first | exact ⟨[], rfl, fun h => (by cases h), fun _ => rfl, HR.out.1⟩ | exact ⟨[], rfl, rfl, HR.out.1⟩
    · obtain rfl : k = L.length := by omega
      have hki : ¬ (L.length : Int) < (L.length : Int) := by omega
      rw [HP.out]
      cases hm : manyN L L.length
      · cases hf : farN L L.length
        · have hX : x = 0 := by have h3 := HFE.out; rw [hm, hf] at h3; simpa using h3
          have HM := hide hm
          have HF := hide hf
          clear hm hf HFE HM0
          subst hX
          go_wp2
          go_ret2
          first | exact ⟨PT, rfl, fun _ => rfl, fun h => absurd rfl h, HR.out.1⟩ | exact ⟨PT, rfl, rfl, HR.out.1⟩
        · have hX : x = 3 := by have h3 := HFE.out; rw [hm, hf] at h3; simpa using h3
          have HM := hide hm
          have HF := hide hf
          clear hm hf HFE HM0
          subst hX
          go_wp2
          go_ret2
          first | exact ⟨[], rfl, fun h => (by cases h), fun _ => rfl, HR.out.1⟩ | exact ⟨[], rfl, rfl, HR.out.1⟩
      · have hX : x = 2 := by have h3 := HFE.out; rw [hm] at h3; simpa using h3
        have HM := hide hm
        generalize farN L L.length = f0 at *
        clear hm HFE HM0
        subst hX
        go_wp2
        go_ret2
        first | exact ⟨[], rfl, fun h => (by cases h), fun _ => rfl, HR.out.1⟩ | exact ⟨[], rfl, rfl, HR.out.1⟩
end Go.Proofs.YtagaemlgompggaaGreatDoor
