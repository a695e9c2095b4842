/- Lists that are the same. -/
import Derived.Test.YtjhkecnnhddhbaaGreatDoorCeM
import Derived.Deep.QuietTactic
import Derived.BigQuiet
import Derived.Deep.RegionHeld3
import Derived.Test.YtjhkecnnhddhbaaGreatDoorTrM
import Derived.Laws.ResultCell
import Derived.Deep.CutRange
import Derived.Deep.CutBlock
namespace Go.Proofs.YtjhkecnnhddhbaaGreatDoor
open Go.RowKit Go.Maps Go.WideMaps
set_option maxRecDepth 100000
set_option autoImplicit false
theorem bdnW {w w1 : World} (h : Below w.heap.size w w1) (n : Nat) : Below w.heap.size w (w1.drewN n) := bdn h n
set_option maxHeartbeats 4000000 in
theorem sameInts_any (p q : Option Addr) (cp cq : Nat) (l r : List Int) (hl : l.length ≤ maxLen) (hr : r.length ≤ maxLen) (w : World) (hP : IntsAt w p l) (hQ : IntsAt w q r) :
   Calls Tryz.prog 83 #[.slice p l.length cp, .slice q r.length cq] w fun e w' => e = .returned (.bool (decide (l = r))) ∧ Below w.heap.size w w' := by
 unfold maxLen at hl hr
 by_cases hlen : l.length = r.length
 · have hne : ((l.length : Int) != (r.length : Int)) = false := by simp [hlen]
   have HL := hide hlen
   clear hlen
   go_enter Tryz.func83, Tryz.ntmps83
   go_wp2
   go_loopw [5] (fun i wr => ∃ k : Nat, k ≤ l.length ∧ i = .int .i64 k ∧ Below w.heap.size w wr ∧ Hid (∀ i (h1 : i < l.length) (h2 : i < r.length), i < k → l[i] = r[i])) (fun i _ => l.length - (intOf i).toNat)
   case atStart => exact ⟨0, Nat.zero_le _, rfl, Below.refl _ _, fun i h1 h2 h => by omega⟩
   case round =>
     obtain ⟨k, hk, rfl, hbw, hz⟩ := hrel
     by_cases hlt : k < l.length
     · have hlt2 : k < r.length := by have := HL.out; omega
       obtain ⟨b, off, rfl, hc⟩ := (hP.later hbw) (by omega)
       obtain ⟨b2, off2, rfl, hc2⟩ := (hQ.later hbw) (by omega)
       have d0 := hc k hlt
       have d1 := hc2 k hlt2
       have hi1 : (k : Int) < (l.length : Int) := by omega
       have hi2 : (k : Int) < (r.length : Int) := by omega
       have HN : Hid (l[k] = r[k] → ∀ i (h1 : i < l.length) (h2 : i < r.length), i < k + 1 → l[i] = r[i]) := by
         intro h i h1 h2 hik
         rcases Nat.lt_succ_iff_lt_or_eq.1 hik with h3 | rfl
         · exact hz.out i h1 h2 h3
         · exact h
       have HD : Hid (l[k] ≠ r[k] → decide (l = r) = false) := by
         intro h
         refine decide_eq_false (fun e => h ?_)
         subst e
         rfl
       clear hc hc2 hz
       generalize l[k] = x at *
       generalize r[k] = y at *
       by_cases hxy : x = y
       · have e1 : (x != y) = false := by simp [hxy]
         have HN2 := hide (HN.out hxy)
         clear hxy HN HD
         go_wp2
         go_quiet (fail)
         go_wp2
         go_roundw
         case rel => exact ⟨k + 1, by omega, by go_num, bdnW hbw _, HN2⟩
         case measure => simp [intOf]; omega
       · have e1 : (x != y) = true := by simp [hxy]
         have HD2 := hide (HD.out hxy)
         clear hxy HN HD
         go_wp2
         go_quiet (fail)
         go_wp2
         go_ret
         exact ⟨ret_bool HD2.out.symm, bdnW hbw _⟩
     · have HD : Hid (decide (l = r) = true) := by
         refine decide_eq_true (List.ext_getElem HL.out (fun i h1 h2 => hz.out i h1 h2 (by omega)))
       clear hz
       go_wp2
       go_ret
       exact ⟨ret_bool HD.out.symm, hbw⟩
 · have hne : ((l.length : Int) != (r.length : Int)) = true := by simp; omega
   have HD : Hid (decide (l = r) = false) := decide_eq_false (fun e => hlen (by rw [e]))
   clear hlen
   go_enter Tryz.func83, Tryz.ntmps83
   go_wp2
   go_ret
   exact ⟨ret_bool HD.out.symm, Below.refl _ _⟩
set_option maxHeartbeats 4000000 in
theorem sameLists_any (p q : Option Addr) (cp cq : Nat) (l r : List Row) (hl : l.length ≤ 9000000000000000000) (hr : r.length ≤ 9000000000000000000) (hwl : ∀ x ∈ l, x.ns.length ≤ maxLen) (hwr : ∀ x ∈ r, x.ns.length ≤ maxLen) (w : World) (hP : RowsAt w p l) (hQ : RowsAt w q r) (hI : InAt w l) (hJ : InAt w r) :
   Calls Tryz.prog 60 #[.slice p l.length cp, .slice q r.length cq] w fun e w' => e = .returned (.bool (decide (l.map Row.ns = r.map Row.ns))) ∧ Below w.heap.size w w' := by
 have HP := hide hP
 have HQ := hide hQ
 have HI := hide hI
 have HJ := hide hJ
 have HWL := hide hwl
 have HWR := hide hwr
 have HS := hide (show decide (l.map Row.ns = r.map Row.ns) = decide (l.map Row.ns = r.map Row.ns) from rfl)
 generalize hR : decide (l.map Row.ns = r.map Row.ns) = R at *
 have HR := hide hR
 clear hP hQ hI hJ hwl hwr hR HS
 by_cases hlen : l.length = r.length
 · have hne : ((l.length : Int) != (r.length : Int)) = false := by simp [hlen]
   have HL := hide hlen
   clear hlen
   go_enter Tryz.func60, Tryz.ntmps60
   go_wp2
   go_loopw [5] (fun i wr => ∃ k : Nat, k ≤ l.length ∧ i = .int .i64 k ∧ Hid (∀ i (hi : i < l.length) (hj : i < r.length), i < k → l[i].ns = r[i].ns) ∧ Hid (Below w.heap.size w wr)) (fun i _ => l.length - (intOf i).toNat)
   case atStart => exact ⟨0, Nat.zero_le _, rfl, fun i hi hj h => by omega, Below.refl _ _⟩
   case round =>
     obtain ⟨k, hk, rfl, hno, HB⟩ := hrel
     by_cases hlt : k < l.length
     · have hlt2 : k < r.length := by have := HL.out; omega
       obtain ⟨b1, o1, hp1, hc1⟩ := (HP.out.later HB.out) (by omega)
       obtain ⟨b2, o2, hp2, hc2⟩ := (HQ.out.later HB.out) (by omega)
       subst hp1
       subst hp2
       have c1 := hc1 k hlt
       have c2 := hc2 k hlt2
       have hki : (k : Int) < (l.length : Int) := by omega
       have hkj : (k : Int) < (r.length : Int) := by omega
       have hk0 : (0 : Int) ≤ (k : Int) := by omega
       have HNN : Hid (l[k].ns = r[k].ns → ∀ i (hi : i < l.length) (hj : i < r.length), i < k + 1 → l[i].ns = r[i].ns) := by
         intro he i hi hj h
         rcases Nat.lt_succ_iff_lt_or_eq.1 h with h1 | rfl
         · exact hno.out i hi hj h1
         · exact he
       have HX : Hid (l[k].ns ≠ r[k].ns → R = false) := by
         intro hne
         rw [← HR.out, decide_eq_false_iff_not]
         intro e
         apply hne
         have e1 : (l.map Row.ns)[k]? = (r.map Row.ns)[k]? := by rw [e]
         rw [List.getElem?_map, List.getElem?_map, List.getElem?_eq_getElem hlt, List.getElem?_eq_getElem hlt2] at e1
         simpa using e1
       have w1 := HWL.out l[k] (List.getElem_mem hlt)
       have w2 := HWR.out r[k] (List.getElem_mem hlt2)
       have HI1 := hide (fun (w' : World) (hb : Below w.heap.size w w') => (HI.out.later hb) l[k] (List.getElem_mem hlt))
       have HI2 := hide (fun (w' : World) (hb : Below w.heap.size w w') => (HJ.out.later hb) r[k] (List.getElem_mem hlt2))
       clear hc1 hc2 hno
       generalize l[k] = x at *
       generalize r[k] = y at *
       obtain ⟨xa, xn, xc⟩ := x
       obtain ⟨ya, yn, yc⟩ := y
       unfold Row.v at c1 c2
       simp only at *
       have hbd : Below wr.heap.size wr wr.drew := (Below.refl _ wr).drew
       have HC := hide (sameInts_any xa ya xc yc xn yn w1 w2 wr.drew (HI1.out _ (bthen HB.out hbd)) (HI2.out _ (bthen HB.out hbd)))
       by_cases hxy : xn = yn
       · have HK := hide (HNN.out hxy)
         rw [decide_eq_true hxy] at HC
         clear HNN HX hxy
         go_wp2
         go_region_held3 (fun w' => w'.cell? ⟨b1, o1 + k, none⟩ = some (.slice xa xn.length xc) ∧ w'.cell? ⟨b2, o2 + k, none⟩ = some (.slice ya yn.length yc))
           (first | exact ⟨c1, c2⟩ | exact ⟨cell_later hb2 c1, cell_later hb2 c2⟩ | go_keep)
           ((go_at_call 83; refine HC.out.mono ?_; rintro e w2' ⟨rfl, hb2⟩))
         have HB2 := hide (bthen HB.out (bthen hbd hb2))
         clear hb2 hbd HC c1 c2
         go_wp2
         go_roundw
         case rel => exact ⟨k + 1, by omega, by go_num, HK, HB2⟩
         case measure => simp [intOf]; omega
       · have HK := hide (HX.out hxy)
         rw [decide_eq_false hxy] at HC
         clear HNN HX hxy
         go_wp2
         go_region_held3 (fun w' => w'.cell? ⟨b1, o1 + k, none⟩ = some (.slice xa xn.length xc) ∧ w'.cell? ⟨b2, o2 + k, none⟩ = some (.slice ya yn.length yc))
           (first | exact ⟨c1, c2⟩ | exact ⟨cell_later hb2 c1, cell_later hb2 c2⟩ | go_keep)
           ((go_at_call 83; refine HC.out.mono ?_; rintro e w2' ⟨rfl, hb2⟩))
         have HB2 := hide (bthen HB.out (bthen hbd hb2))
         clear hb2 hbd HC c1 c2
         go_wp2
         go_ret
         exact ⟨ret_bool HK.out.symm, HB2.out⟩
     · have HK : Hid (R = true) := by
         rw [Hid, ← HR.out, decide_eq_true_iff]
         refine List.ext_getElem (by simp; exact HL.out) fun i hi hj => ?_
         rw [List.getElem_map, List.getElem_map]
         exact hno.out i (by simpa using hi) (by simpa using hj) (by simp at hi; omega)
       have hki : ¬ (k : Int) < (l.length : Int) := by omega
       go_wp2
       go_ret
       exact ⟨ret_bool HK.out.symm, HB.out⟩
 · have hne : ((l.length : Int) != (r.length : Int)) = true := by simp; omega
   have HK : Hid (R = false) := by
     rw [Hid, ← HR.out, decide_eq_false_iff_not]
     intro e
     have := congrArg List.length e
     simp at this
     exact hlen this
   clear hlen
   go_enter Tryz.func60, Tryz.ntmps60
   go_wp2
   go_ret
   exact ⟨ret_bool HK.out.symm, Below.refl _ _⟩
end Go.Proofs.YtjhkecnnhddhbaaGreatDoor

namespace Go.Proofs.YtjhkecnnhddhbaaGreatDoor
open Go.RowKit Go.Maps Go.WideMaps
set_option maxRecDepth 100000
set_option autoImplicit false
set_option maxHeartbeats 4000000 in
theorem doneC_ok (V : Int) (p : Option Addr) (cap : Nat) (rs : List Row) (hl : rs.length ≤ 8796093022208) (hin : ∀ r ∈ rs, r.ns.length ≤ maxLen) (hE : chkC V (numsOf rs) = 0) (w : World) (hC : ClAt w p rs) :
   Calls Tryz.prog 6 #[cval V p rs.length cap] w fun e w' => e = .returned (.tuple #[cval V p rs.length cap, .int .i64 0]) ∧ Below w.heap.size w w' := by
 have hB0 : Below w.heap.size w ((w.alloc (.cells #[.int .i64 V, .slice p rs.length cap] 30)).alloc (.cells #[.int .i64 0, .slice none 0 0] 30)) := bal (bal (Below.refl _ _) _) _
 have hG : ((w.alloc (.cells #[.int .i64 V, .slice p rs.length cap] 30)).alloc (.cells #[.int .i64 0, .slice none 0 0] 30)).heap[w.heap.size + 1]? = some (.cells #[.int .i64 0, .slice none 0 0] 30) := alloc_at (by simp)
 have x0 : ((w.alloc (.cells #[.int .i64 V, .slice p rs.length cap] 30)).alloc (.cells #[.int .i64 0, .slice none 0 0] 30)).cell? ⟨w.heap.size, 0, none⟩ = some (.int .i64 V) := by simp [go_sem]
 have x1 : ((w.alloc (.cells #[.int .i64 V, .slice p rs.length cap] 30)).alloc (.cells #[.int .i64 0, .slice none 0 0] 30)).cell? ⟨w.heap.size, 1, none⟩ = some (.slice p rs.length cap) := by simp [go_sem]
 have HC := hide (checkClauses_any V p cap rs hl hin _ (hC.later hB0))
 rw [hE] at HC
 have HB0 := hide hB0
 have HG := hide hG
 clear hB0 hC hG
 go_enter Tryz.func6, Tryz.ntmps6
 go_wp2_with fail
 generalize (w.alloc (.cells #[.int .i64 V, .slice p rs.length cap] 30)).alloc (.cells #[.int .i64 0, .slice none 0 0] 30) = w1 at *
 have hGl : w.heap.size + 1 < w1.heap.size := (Array.getElem?_eq_some_iff.1 HG.out).1
 refine HC.out.mono ?_
 rintro e w2 ⟨rfl, hb2⟩
 have y0 := cell_later hb2 x0
 have y1 := cell_later hb2 x1
 have HB2 := hide (bthen HB0.out hb2)
 have HR := hide (r30 ((hb2.block _ hGl).trans HG.out))
 obtain ⟨g0, g1, f0, f1⟩ := HR.out.1
 clear hb2 x0 x1 HC
 go_wp2
 refine bodyPost_ret (res30 rfl _ rfl (HR.out.2 _ _)) rfl ?_
 exact ⟨rfl, (HB2.out.setCell (p := ⟨w.heap.size + 1, 0, none⟩) (by simp) _).setCell (p := ⟨w.heap.size + 1, 1, none⟩) (by simp) _⟩
set_option maxHeartbeats 4000000 in
theorem doneC_no (V : Int) (p : Option Addr) (cap : Nat) (rs : List Row) (hl : rs.length ≤ 8796093022208) (hin : ∀ r ∈ rs, r.ns.length ≤ maxLen) (hE : chkC V (numsOf rs) ≠ 0) (w : World) (hC : ClAt w p rs) :
   Calls Tryz.prog 6 #[cval V p rs.length cap] w fun e w' => e = .returned (.tuple #[cval 0 none 0 0, .int .i64 (chkC V (numsOf rs))]) ∧ Below w.heap.size w w' := by
 have hB0 : Below w.heap.size w ((w.alloc (.cells #[.int .i64 V, .slice p rs.length cap] 30)).alloc (.cells #[.int .i64 0, .slice none 0 0] 30)) := bal (bal (Below.refl _ _) _) _
 have hG : ((w.alloc (.cells #[.int .i64 V, .slice p rs.length cap] 30)).alloc (.cells #[.int .i64 0, .slice none 0 0] 30)).heap[w.heap.size + 1]? = some (.cells #[.int .i64 0, .slice none 0 0] 30) := alloc_at (by simp)
 have x0 : ((w.alloc (.cells #[.int .i64 V, .slice p rs.length cap] 30)).alloc (.cells #[.int .i64 0, .slice none 0 0] 30)).cell? ⟨w.heap.size, 0, none⟩ = some (.int .i64 V) := by simp [go_sem]
 have x1 : ((w.alloc (.cells #[.int .i64 V, .slice p rs.length cap] 30)).alloc (.cells #[.int .i64 0, .slice none 0 0] 30)).cell? ⟨w.heap.size, 1, none⟩ = some (.slice p rs.length cap) := by simp [go_sem]
 have HC := hide (checkClauses_any V p cap rs hl hin _ (hC.later hB0))
 have hEb : (chkC V (numsOf rs) != 0) = true := by simpa using hE
 have HB0 := hide hB0
 have HG := hide hG
 clear hB0 hC hG hE
 generalize chkC V (numsOf rs) = E at *
 go_enter Tryz.func6, Tryz.ntmps6
 go_wp2_with fail
 generalize (w.alloc (.cells #[.int .i64 V, .slice p rs.length cap] 30)).alloc (.cells #[.int .i64 0, .slice none 0 0] 30) = w1 at *
 have hGl : w.heap.size + 1 < w1.heap.size := (Array.getElem?_eq_some_iff.1 HG.out).1
 refine HC.out.mono ?_
 rintro e w2 ⟨rfl, hb2⟩
 have HB2 := hide (bthen HB0.out hb2)
 have HR := hide (r30 ((hb2.block _ hGl).trans HG.out))
 obtain ⟨g0, g1, f0, f1⟩ := HR.out.1
 clear hb2 x0 x1 HC
 go_wp2
 refine bodyPost_ret (res30 rfl _ rfl (HR.out.2 _ _)) rfl ?_
 exact ⟨rfl, (HB2.out.setCell (p := ⟨w.heap.size + 1, 0, none⟩) (by simp) _).setCell (p := ⟨w.heap.size + 1, 1, none⟩) (by simp) _⟩
set_option maxHeartbeats 4000000 in
theorem sameCl_any (V : Int) (p q : Option Addr) (cp cq : Nat) (l r : List Row) (hl : l.length ≤ 9000000000000000000) (hr : r.length ≤ 9000000000000000000) (hwl : ∀ x ∈ l, x.ns.length ≤ maxLen) (hwr : ∀ x ∈ r, x.ns.length ≤ maxLen) (hn : numsOf l = numsOf r) (w : World) (hP : ClAt w p l) (hQ : ClAt w q r) :
   Calls Tryz.prog 31 #[cval V p l.length cp, cval V q r.length cq] w fun e w' => e = .returned (.bool true) ∧ Below w.heap.size w w' := by
 have hB0 : Below w.heap.size w ((w.alloc (.cells #[.int .i64 V, .slice p l.length cp] 30)).alloc (.cells #[.int .i64 V, .slice q r.length cq] 30)) := bal (bal (Below.refl _ _) _) _
 have x0 : ((w.alloc (.cells #[.int .i64 V, .slice p l.length cp] 30)).alloc (.cells #[.int .i64 V, .slice q r.length cq] 30)).cell? ⟨w.heap.size, 0, none⟩ = some (.int .i64 V) := by simp [go_sem]
 have x1 : ((w.alloc (.cells #[.int .i64 V, .slice p l.length cp] 30)).alloc (.cells #[.int .i64 V, .slice q r.length cq] 30)).cell? ⟨w.heap.size, 1, none⟩ = some (.slice p l.length cp) := by simp [go_sem]
 have y0 : ((w.alloc (.cells #[.int .i64 V, .slice p l.length cp] 30)).alloc (.cells #[.int .i64 V, .slice q r.length cq] 30)).cell? ⟨w.heap.size + 1, 0, none⟩ = some (.int .i64 V) := by simp [go_sem]
 have y1 : ((w.alloc (.cells #[.int .i64 V, .slice p l.length cp] 30)).alloc (.cells #[.int .i64 V, .slice q r.length cq] 30)).cell? ⟨w.heap.size + 1, 1, none⟩ = some (.slice q r.length cq) := by simp [go_sem]
 have HL := hide (sameLists_any p q cp cq l r hl hr hwl hwr _ (hP.later hB0).rows (hQ.later hB0).rows (hP.later hB0).inn (hQ.later hB0).inn)
 rw [show decide (l.map Row.ns = r.map Row.ns) = true from decide_eq_true hn] at HL
 have HB0 := hide hB0
 clear hB0 hP hQ hn
 go_enter Tryz.func31, Tryz.ntmps31
 go_wp2_with fail
 generalize (w.alloc (.cells #[.int .i64 V, .slice p l.length cp] 30)).alloc (.cells #[.int .i64 V, .slice q r.length cq] 30) = w1 at *
 refine HL.out.mono ?_
 rintro e w2 ⟨rfl, hb2⟩
 have HB2 := hide (bthen HB0.out hb2)
 clear hb2 HL
 go_wp2
 go_ret
 exact ⟨rfl, HB2.out⟩
set_option maxHeartbeats 4000000 in
theorem are_any (E V V2 : Int) (p q : Option Addr) (cp cq : Nat) (l r : List Row) (hl : l.length ≤ 9000000000000000000) (hr : r.length ≤ 9000000000000000000) (hwl : ∀ x ∈ l, x.ns.length ≤ maxLen) (hwr : ∀ x ∈ r, x.ns.length ≤ maxLen)
   (hno : E ≠ 0 → V = 0 ∧ numsOf l = []) (hok : E = 0 → V = V2 ∧ numsOf l = numsOf r) (w : World) (hP : ClAt w p l) (hQ : ClAt w q r) :
   Calls Tryz.prog 9 #[cval V p l.length cp, .int .i64 E, .int .i64 E, cval V2 q r.length cq] w fun e w' => e = .returned (.bool true) ∧ Below w.heap.size w w' := by
 have hB0 : Below w.heap.size w ((w.alloc (.cells #[.int .i64 V, .slice p l.length cp] 30)).alloc (.cells #[.int .i64 V2, .slice q r.length cq] 30)) := bal (bal (Below.refl _ _) _) _
 by_cases hE : E = 0
 · obtain ⟨rfl, hn⟩ := hok hE
   subst hE
   have HL := hide (sameCl_any V p q cp cq l r hl hr hwl hwr hn _ (hP.later hB0) (hQ.later hB0))
   have HB0 := hide hB0
   clear hB0 hP hQ hn hno hok
   go_enter Tryz.func9, Tryz.ntmps9
   go_wp2_with fail
   refine HL.out.mono ?_
   rintro e w2 ⟨rfl, hb2⟩
   have HB2 := hide (bthen HB0.out hb2)
   clear hb2 HL
   go_wp2
   go_ret
   exact ⟨rfl, HB2.out⟩
 · obtain ⟨rfl, hn⟩ := hno hE
   have hEb : (E != 0) = true := by simpa using hE
   have hb1 : Below w.heap.size w ((w.alloc (.cells #[.int .i64 0, .slice p l.length cp] 30)).alloc (.cells #[.int .i64 0, .slice none 0 0] 30)) := bal (bal (Below.refl _ _) _) _
   have HL := hide (sameCl_any 0 p none cp 0 l [] hl (by simp) hwl (fun x hx => by cases hx) hn _ (hP.later hb1) (clAt_nil _))
   have HB0 := hide hb1
   clear hP hQ hn hno hok hb1
   go_enter Tryz.func9, Tryz.ntmps9
   go_wp2_with fail
   refine HL.out.mono ?_
   rintro e w2 ⟨rfl, hb2⟩
   have HB2 := hide (bthen HB0.out hb2)
   clear hb2 HL
   go_wp2
   go_ret
   exact ⟨rfl, HB2.out⟩
end Go.Proofs.YtjhkecnnhddhbaaGreatDoor

namespace Go.Proofs.YtjhkecnnhddhbaaGreatDoor
open Go.RowKit Go.Maps Go.WideMaps
set_option maxRecDepth 100000
set_option autoImplicit false
theorem own_append_i {w : World} {base n : Nat} {vp : Value} {xs : List Int} {y : Int} (h : w.ownsRow base 3 1 vp n (xs.map (Value.int .i64))) (hb : base ≤ w.heap.size) (hl : n ≤ 3000000) :
   ∃ p c w', (Builtin.append_ #[25, 25] 25 #[vp, .slice (some ⟨w.heap.size, 0, none⟩) 1 1]).run Tryz.prog (w.alloc (.cells #[.int .i64 y] 3)) = .ok (.slice p (n + 1) c) w' ∧ w'.ownsRow base 3 1 (.slice p (n + 1) c) (n + 1) ((xs ++ [y]).map (Value.int .i64)) ∧ (w.alloc (.cells #[.int .i64 y] 3)).grownBy w' vp.ownBlock := by
 obtain ⟨i0, hi, hz0, hz1, hz2⟩ := info_parts info3
 obtain ⟨vp', w', hr, ho, hg, _⟩ := run_append_own (P := Tryz.prog) (w := w.alloc (.cells #[.int .i64 y] 3)) base 25 25 3 i0 (.int .i64 0) 1 8 Tryz.underlying25 hi hz0 hz1 hz2 rfl (by decide) vp n _ (h.alloc (.cells #[.int .i64 y] 3)) ⟨w.heap.size, 0, none⟩ 1 1 [.int .i64 y] rfl
   (fun j u hj => by
     match j, hj with
     | 0, hj => simp at hj; subst hj; simp [go_sem, Addr.add]) (fun u hu => by simp at hu; subst hu; rfl) (by unfold maxLen; omega) (by omega) (by simp; omega)
 have ho' : w'.ownsRow base 3 1 vp' (n + 1) ((xs ++ [y]).map (Value.int .i64)) := by simpa using ho
 rcases ho'.2 with ⟨_, h0⟩ | ⟨g, cap, cur, rfl, _⟩
 · omega
 · exact ⟨_, cap, w', hr, ho', hg⟩
theorem own_app_below {wc w8 w9 : World} {n : Nat} {vp : Value} {xs : List Value} {o : Obj} (h : w8.ownsRow wc.heap.size 3 1 vp n xs) (hb : Below wc.heap.size wc w8) (hg : (w8.alloc o).grownBy w9 vp.ownBlock) : Below wc.heap.size wc w9 :=
 (bal hb o).grown hg (by have := hb.size; simp; omega) (fun k hk => (h.lt k hk).1)
theorem own_apart {w1 wc wr : World} {M : Nat} {V : Int} {L : List (List Int)} {n : Nat} {xs : List Value} {pl : Option Addr} {cl : Nat} {v : Value} {rs : List Row} {a : Addr} (_hs : Sc w1 wc M V L) (h : wr.ownsRow wc.heap.size 3 1 (.slice pl n cl) n xs) (_hb : Below wc.heap.size wc wr)
   (hc : Cm wr M M v V rs) (ha : pl = some a) (e : v.ownBlock = some a.block) : False := by
 subst ha
 rcases h.2 with ⟨e1, _⟩ | ⟨g, cap, cur, e1, _, hh, _⟩
 · cases e1
 · rcases hc.row.2 with ⟨e2, _⟩ | ⟨g2, cap2, cur2, e2, _, hh2, _⟩
   · subst e2; simp [Value.ownBlock] at e
   · subst e2
     cases e1
     have e3 : g2 = g := by simpa [Value.ownBlock] using e
     rw [e3, hh] at hh2
     cases hh2
section
attribute [-go_sem] Builtin.append_
set_option maxHeartbeats 16000000 in
theorem st_bad {code : Code} (hcode : code = seq7 37) {r0 r5 r6 r7 r13 r14 r15 r16 r17 r18 r19 r20 r21 r22 r23 r24 r25 r26 r27 r28 r29 r30 r31 r32 r33 r34 r35 r36 r37 r38 r39 r40 r41 r42 r43 r44 r45 r46 r47 r48 r49 r50 r51 r52 r53 r54 r55 r56 r57 r58 r59 r60 r61 r62 r63 r64 r65 r66 r67 r68 r69 r70 r71 r72 r73 r74 r75 r76 r77 r78 r79 r80 r81 r82 r83 r84 r85 r86 r87 r88 r89 r90 r91 r92 r93 r94 r95 r96 r97 r98 r99 r100 r101 r102 r103 r104 r105 r106 r107 r108 r109 r110 r111 r112 r113 r114 r115 r116 r117 r118 r119 r120 r121 r122 r123 r124 r125 r126 r127 r128 r129 r130 r131 r132 r133 r134 r135 r136 r137 r138 r139 r140 r141 r142 r143 r144 r145 r146 r147 r148 r149 r150 r151 r152 r153 r154 r155 r156 r157 r158 r159 r160 r161 r162 r163 r164 r165 r166 r167 r168 r169 r170 r171 r172 r173 r174 r175 r176 r177 r178 r179 r180 r181 r182 r183 r184 r185 r186 r187 r188 r189 r190 r191 r192 r193 r194 r195 r196 r197 r198 r199 r200 r201 r202 r203 r204 r205 r206 r207 r208 r209 r210 r211 r212 r213 r214 r215 r216 r217 r218 r219 r220 r221 r222 r223 r224 r225 r226 r227 r228 r229 r230 r231 r232 r233 r234 r235 r236 r237 r238 r239 r240 r241 r242 r243 r244 r245 r246 r247 r248 r249 r250 r251 r252 r253 r254 r255 r256 r257 r258 r259 r260 r261 r262 r263 r264 r265 r266 r267 r268 r269 r270 r271 r272 r273 r274 r275 r276 r277 r278 r279 r280 r281 r282 r283 r284 r285 r286 r287 r288 r289 r290 r291 r292 r293 r294 r295 r296 r297 r298 r299 r300 r301 r302 r303 r304 r305 r306 r307 r308 r309 r310 r311 r312 r313 r314 r315 r316 r317 : Value} (w w1 : World) (B G F M : Nat) (C : Ci) (last : Nat) (begun : Bool) (V : Int) (L : List (List Int)) (wc : World) (HX : Hid (Fx w w1 B G F M C last)) (HS : Hid (Sc w1 wc M V L)) (HL : Hid (L.length ≤ 1000000000)) :
   Code.wp Tryz.prog code (bodyPost Tryz.prog Tryz.f7 (StO w V (L ++ badC C last))) ⟨#[r0, .int .i64 last, .bool begun, .bool false, .pointer (some ⟨B, 0, none⟩), r5, r6, r7, .pointer (some ⟨G, 0, none⟩), .pointer (some ⟨F, 0, none⟩), .pointer (some ⟨M, 0, none⟩), .func (.func 23) #[] #[.pointer (some ⟨M, 0, none⟩)], .func (.func 24) #[] #[.pointer (some ⟨F, 0, none⟩), .pointer (some ⟨B, 0, none⟩)], r13, r14, r15, r16, r17, r18, r19, r20, r21, r22, r23, r24, r25, r26, r27, r28, r29, r30, r31, r32, r33, r34, r35, r36, r37, r38, r39, r40, r41, r42, r43, r44, r45, r46, r47, r48, r49, r50, r51, r52, r53, r54, r55, r56, r57, r58, r59, r60, r61, r62, r63, r64, r65, r66, r67, r68, r69, r70, r71, r72, r73, r74, r75, r76, r77, r78, r79, r80, r81, r82, r83, r84, r85, r86, r87, r88, r89, r90, r91, r92, r93, r94, r95, r96, r97, r98, r99, r100, r101, r102, r103, r104, r105, r106, r107, r108, r109, r110, r111, r112, r113, r114, r115, r116, r117, r118, r119, r120, r121, r122, r123, r124, r125, r126, r127, r128, r129, r130, r131, r132, r133, r134, r135, r136, r137, r138, r139, r140, r141, r142, r143, r144, r145, r146, r147, r148, r149, r150, r151, r152, r153, r154, r155, r156, r157, r158, r159, r160, r161, r162, r163, r164, r165, r166, r167, r168, r169, r170, r171, r172, r173, r174, r175, r176, r177, r178, r179, r180, r181, r182, r183, r184, r185, r186, r187, r188, r189, r190, r191, r192, r193, r194, r195, r196, r197, r198, r199, r200, r201, r202, r203, r204, r205, r206, r207, r208, r209, r210, r211, r212, r213, r214, r215, r216, r217, r218, r219, r220, r221, r222, r223, r224, r225, r226, r227, r228, r229, r230, r231, r232, r233, r234, r235, r236, r237, r238, r239, r240, r241, r242, r243, r244, r245, r246, r247, r248, r249, r250, r251, r252, r253, r254, r255, r256, r257, r258, r259, r260, r261, r262, r263, r264, r265, r266, r267, r268, r269, r270, r271, r272, r273, r274, r275, r276, r277, r278, r279, r280, r281, r282, r283, r284, r285, r286, r287, r288, r289, r290, r291, r292, r293, r294, r295, r296, r297, r298, r299, r300, r301, r302, r303, r304, r305, r306, r307, r308, r309, r310, r311, r312, r313, r314, r315, r316, r317], []⟩ wc := by
 subst hcode
 conv => arg 2; whnf
 dsimp only
 have hfy := HX.out.at HS.out.bel
 have hok := HX.out.ok
 have hbl := hok.bl
 have htf := hok.tf (Nat.le_refl last)
 have hnb := hok.nb
 have hff := hok.f0
 have HHAS := hide (hasP_any 1 C.b.ns C.b.at' C.b.cap (by omega) wc hfy.at'.b)
 have HBI := hide hfy.at'.b
 have HHH : Hid (badC C last = if (1 : Int) ∈ C.b.ns then [] else [badN C last C.b.ns.length]) := rfl
 generalize badC C last = LB at *
 have y6 := hfy.x6
 have yf := hfy.xf
 clear hfy hok
 by_cases h1 : (1 : Int) ∈ C.b.ns
 · have HE : Hid (LB = []) := by unfold Hid; rw [HHH.out, if_pos h1]
   rw [show decide ((1 : Int) ∈ C.b.ns) = true by simpa using h1] at HHAS
   clear h1 HHH
   have HS9 : Hid (Sc w1 wc M V (L ++ LB)) := by rw [HE.out, List.append_nil]; exact HS.out
   clear HS HE
   go_wp2_with fail
   refine HHAS.out.mono ?_
   rintro e w2 ⟨rfl, hw2⟩
   obtain rfl : wc = w2 := hw2.symm
   clear hw2 HHAS
   obtain ⟨pz, nz, cz, m0, m1, g0, g1, f0, f1, gh, HO⟩ := stO_of HX.out HS9.out
   have GH := hide gh
   have HOO := hide HO
   clear gh HO
   go_wp2
   refine bodyPost_ret (results_cell_row rfl _ _ G 30 _ _ _ rfl GH.out Tryz.underlying30 rfl (by kernel_rfl)) rfl ?_
   exact HOO.out
 · have HE : Hid (LB = [badN C last C.b.ns.length]) := by unfold Hid; rw [HHH.out, if_neg h1]
   rw [show decide ((1 : Int) ∈ C.b.ns) = false by simpa using h1] at HHAS
   have HB2 : Hid (∀ k (h : k < C.b.ns.length), C.b.ns[k] ≠ 1) := fun k h e => h1 (e ▸ List.getElem_mem h)
   have HSU : Hid (∀ k (h : k < C.b.ns.length), badN C last (k + 1) = if C.b.ns[k] = 0 then badN C last k else badN C last k ++ [numL (atL C.f last C.b.ns[k])]) := fun k h => by
     have := badN_succ C last k h
     rw [show C.b.ns.getD k 0 = C.b.ns[k] by simp [List.getD, List.getElem?_eq_getElem h]] at this
     exact this
   have HLN : Hid (∀ k, (badN C last k).length ≤ k) := fun k => badN_len C last k
   have HNB : Hid (∀ k (h : k < C.b.ns.length), 0 ≤ C.b.ns[k] ∧ C.b.ns[k] < 2 * (1 + C.f)) := fun k h => hnb _ (List.getElem_mem h)
   clear h1 HHH hnb
   have wmul := wrap_id (x := (last : Int) * C.f) (by omega) (by omega)
   go_wp2_with fail
   refine HHAS.out.mono ?_
   rintro e w2 ⟨rfl, hw2⟩
   obtain rfl : wc = w2 := hw2.symm
   clear hw2 HHAS
   go_wp2
   go_loopw [20, 21] (fun l i wr => ∃ k : Nat, k ≤ C.b.ns.length ∧ i = .int .i64 k ∧ Hid (∃ xs : List Int, xs = badN C last k ∧ wr.ownsRow wc.heap.size 3 1 l xs.length (xs.map (Value.int .i64)) ∧ Below wc.heap.size wc wr)) (fun _ i _ => C.b.ns.length - (intOf i).toNat)
   case atStart => exact ⟨0, Nat.zero_le _, rfl, [], by simp [badN], World.ownsRow_nil _ _ _ _, Below.refl _ _⟩
   case round =>
     obtain ⟨k, hk, rfl, HR⟩ := hrel
     obtain ⟨xs, hxs, hrow, hbw⟩ := HR.out
     have z6 := cell_later hbw y6
     have zf := cell_later hbw yf
     have hxl : xs.length ≤ 2000000 := by rw [hxs]; have := HLN.out k; omega
     have HXS := hide hxs
     have HBW := hide hbw
     have HROW := hide hrow
     obtain ⟨pl, cl, rfl, hil, _⟩ := owns_ints hrow
     clear HR hxs hrow
     by_cases hlt : k < C.b.ns.length
     · have hki : (k : Int) < (C.b.ns.length : Int) := by omega
       obtain ⟨bb, bo, hbe, hbc⟩ := HBI.out (by omega)
       have ck0 := hbc k hlt
       have ck := cell_later hbw ck0
       have hS := HSU.out k hlt
       have hnk := HNB.out k hlt
       have hn1 := HB2.out k hlt
       have HBE := hide hbe
       rw [hbe] at z6
       clear hbc hil hbe
       generalize C.b.ns[k] = x at *
       by_cases hx0 : x = 0
       · have HX2 : Hid (xs = badN C last (k + 1)) := by unfold Hid; rw [HXS.out, hS, if_pos hx0]
         subst hx0
         clear hS HXS hnk hn1
         go_wp2
         go_roundw
         case rel => exact ⟨k + 1, by omega, by go_num, xs, HX2.out, HROW.out, HBW.out⟩
         case measure => simp [intOf]; omega
       · have hx0b : (x != 0) = true := by simpa using hx0
         have HNU := hide (fun u : World => ((numP_any x (last * C.f) hnk.1 (by omega) htf.1 (by omega) u).mono fun e w' (h : e = .returned (.int .i64 (numP x (last * C.f))) ∧ w' = u) => (⟨h.1, h.2 ▸ Below.refl _ _⟩ : e = .returned (.int .i64 (numP x (last * C.f))) ∧ Below u.heap.size u w')))
         have HX2 : Hid (xs ++ [numP x (last * C.f)] = badN C last (k + 1)) := by unfold Hid; rw [HXS.out, hS, if_neg hx0, numP_at C.f last x (by omega)]
         have hbd : Below wr.heap.size wr wr.drew := (Below.refl _ wr).drew
         generalize numP x (last * C.f) = y at *
         clear hS HXS hnk hn1 hx0
         rw [HBE.out] at y6
         go_wp2
         go_region_held3 (fun w' => w'.cell? ⟨B, 6, none⟩ = some (.slice (some ⟨bb, bo, none⟩) C.b.ns.length C.b.cap) ∧ w'.cell? ⟨bb, bo + k, none⟩ = some (.int .i64 x) ∧ w'.cell? ⟨F, 0, none⟩ = some (.int .i64 C.f))
           (first | exact ⟨cell_later HB9.out y6, cell_later HB9.out ck0, cell_later HB9.out yf⟩ | exact ⟨past1 (cell_later hb8 z6) _, past1 (cell_later hb8 ck) _, past1 (cell_later hb8 zf) _⟩ | exact ⟨cell_later hb8 z6, cell_later hb8 ck, cell_later hb8 zf⟩ | exact ⟨cell_later hbd z6, cell_later hbd ck, cell_later hbd zf⟩ | go_keep)
           ((go_at_call 26; refine (HNU.out _).mono ?_; rintro e w8 ⟨rfl, hb8'⟩; have hb8 : Below wr.heap.size wr w8 := bthen hbd hb8'
             obtain ⟨p9, c9, w9, hrun9, ho9, hg9⟩ := own_append_i (y := y) (owns_below HROW.out hb8) (by have := HBW.out.size; have := hb8.size; omega) (by omega)
             have HB9 : Hid (Below wc.heap.size wc w9) := own_app_below (owns_below HROW.out hb8) (bthen HBW.out hb8) hg9
             have HO9 := hide ho9))
         all_goals
           rename_i hHeld
           clear hHeld hrun9 ho9 hg9 hb8 hb8' z6 zf ck
           go_wp2
           go_roundw
           case rel =>
             exact ⟨k + 1, by omega, by go_num, xs ++ [y], HX2.out, by simpa using HO9.out, HB9.out⟩
           case measure => simp [intOf]; omega
     · obtain rfl : k = C.b.ns.length := by omega
       have HS7 := hide (HS.out.later hbw)
       obtain ⟨v7, rs7, hn7, hc7, hbm7⟩ := HS7.out
       have HAL := hide (bal (Below.refl wr.heap.size wr) (.cells #[.slice pl xs.length cl] 25))
       have hM := HS.out.lt
       have hsz := hbw.size
       have HLB : Hid (numsOf rs7 ++ numsOf [⟨pl, xs, cl⟩] = L ++ LB) := by unfold Hid; rw [hn7, HE.out, ← HXS.out]; rfl
       obtain ⟨pv, cv, rfl, _⟩ := owns_rows hc7.row
       have hsum : rs7.length + [(⟨pl, xs, cl⟩ : Row)].length ≤ 2000000000 := by
         have h1 : rs7.length = L.length := by rw [← hn7, numsOf_len]
         have h2 := HL.out
         simp only [List.length_cons, List.length_nil]
         omega
       have hap := sc_rows (w1 := w1) (p := some ⟨wr.heap.size, 0, none⟩) (cap := 1) (rs2 := [⟨pl, xs, cl⟩]) (hc7.below HAL.out) (hbm7.trans (HAL.out.mono (by omega))) (hsum)
         (fun _ => ⟨_, _, rfl, fun i hi => by
           match i, hi with
           | 0, _ => simp [go_sem, Row.v]⟩) (fun r hr => by simp at hr; subst hr; exact hil.later HAL.out) (fun r hr a ha => by
           simp at hr
           subst hr
           simp only at ha
           have h2 := HROW.out.lt a.block (by subst ha; simp [Value.ownBlock])
           refine ⟨by omega, fun e => ?_, by simp; omega, by omega⟩
           have h3 := hc7.row
           have hb7 := HS.out
           exact own_apart HS.out HROW.out hbw hc7 ha e)
       rw [HLB.out] at hap
       obtain ⟨p9, n9, c9, w9, hrun9, k1, kf, hsc9, hbm9⟩ := hap
       have HS9 := hide hsc9
       have m1 := hc7.c1
       clear hsc9 hbm9 HS7 hc7 hn7 hbm7 hil hbw
       simp only [List.length_cons, List.length_nil, Nat.zero_add] at hrun9
       go_upto_region 45 with fail
       generalize w9.setCell ⟨M, 1, none⟩ (.slice p9 n9 c9) = wz at *
       clear hrun9 k1 kf m1 z6 zf y6 yf
       obtain ⟨pz, nz, cz, m0, m1, g0, g1, f0, f1, gh, HO⟩ := stO_of HX.out HS9.out
       have GH := hide gh
       have HOO := hide HO
       clear gh HO
       go_wp2
       refine bodyPost_ret (results_cell_row rfl _ _ G 30 _ _ _ rfl GH.out Tryz.underlying30 rfl (by kernel_rfl)) rfl ?_
       exact HOO.out
end
end Go.Proofs.YtjhkecnnhddhbaaGreatDoor
