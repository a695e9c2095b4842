/- Lists that are the same. -/
import Derived.Test.YtmambfdimeeijaaGreatDoorBaM
import Derived.Deep.QuietTactic
import Derived.BigQuiet
import Derived.Deep.RegionHeld3
import Derived.Test.YtmambfdimeeijaaGreatDoorTrM
import Derived.Laws.ResultCell
import Derived.Test.YtmambfdimeeijaaGreatDoorSeM
namespace Go.Proofs.YtmambfdimeeijaaGreatDoor
open Go.RowKit Go.Maps Go.WideMaps
set_option maxRecDepth 100000
set_option autoImplicit false
theorem bdnW {w w1 : World} (h : Below w.heap.size w w1) (n : Nat) : Below w.heap.size w (w1.drewN n) := bdn h n
set_option maxHeartbeats 4000000 in
theorem sameInts_any (p q : Option Addr) (cp cq : Nat) (l r : List Int) (hl : l.length ≤ maxLen) (hr : r.length ≤ maxLen) (w : World) (hP : IntsAt w p l) (hQ : IntsAt w q r) :
   Calls Tryz.prog 72 #[.slice p l.length cp, .slice q r.length cq] w fun e w' => e = .returned (.bool (decide (l = r))) ∧ Below w.heap.size w w' := by
 unfold maxLen at hl hr
 by_cases hlen : l.length = r.length
 · have hne : ((l.length : Int) != (r.length : Int)) = false := by simp [hlen]
   have HL := hide hlen
   clear hlen
   go_enter Tryz.func72, Tryz.ntmps72
   go_wp2
   go_loopw [5] (fun i wr => ∃ k : Nat, k ≤ l.length ∧ i = .int .i64 k ∧ Below w.heap.size w wr ∧ Hid (∀ i (h1 : i < l.length) (h2 : i < r.length), i < k → l[i] = r[i])) (fun i _ => l.length - (intOf i).toNat)
   case atStart => exact ⟨0, Nat.zero_le _, rfl, Below.refl _ _, fun i h1 h2 h => by omega⟩
   case round =>
     obtain ⟨k, hk, rfl, hbw, hz⟩ := hrel
     by_cases hlt : k < l.length
     · have hlt2 : k < r.length := by have := HL.out; omega
       obtain ⟨b, off, rfl, hc⟩ := (hP.later hbw) (by omega)
       obtain ⟨b2, off2, rfl, hc2⟩ := (hQ.later hbw) (by omega)
       have d0 := hc k hlt
       have d1 := hc2 k hlt2
       have hi1 : (k : Int) < (l.length : Int) := by omega
       have hi2 : (k : Int) < (r.length : Int) := by omega
       have HN : Hid (l[k] = r[k] → ∀ i (h1 : i < l.length) (h2 : i < r.length), i < k + 1 → l[i] = r[i]) := by
         intro h i h1 h2 hik
         rcases Nat.lt_succ_iff_lt_or_eq.1 hik with h3 | rfl
         · exact hz.out i h1 h2 h3
         · exact h
       have HD : Hid (l[k] ≠ r[k] → decide (l = r) = false) := by
         intro h
         refine decide_eq_false (fun e => h ?_)
         subst e
         rfl
       clear hc hc2 hz
       generalize l[k] = x at *
       generalize r[k] = y at *
       by_cases hxy : x = y
       · have e1 : (x != y) = false := by simp [hxy]
         have HN2 := hide (HN.out hxy)
         clear hxy HN HD
         go_wp2
         go_quiet (fail)
         go_wp2
         go_roundw
         case rel => exact ⟨k + 1, by omega, by go_num, bdnW hbw _, HN2⟩
         case measure => simp [intOf]; omega
       · have e1 : (x != y) = true := by simp [hxy]
         have HD2 := hide (HD.out hxy)
         clear hxy HN HD
         go_wp2
         go_quiet (fail)
         go_wp2
         go_ret
         exact ⟨ret_bool HD2.out.symm, bdnW hbw _⟩
     · have HD : Hid (decide (l = r) = true) := by
         refine decide_eq_true (List.ext_getElem HL.out (fun i h1 h2 => hz.out i h1 h2 (by omega)))
       clear hz
       go_wp2
       go_ret
       exact ⟨ret_bool HD.out.symm, hbw⟩
 · have hne : ((l.length : Int) != (r.length : Int)) = true := by simp; omega
   have HD : Hid (decide (l = r) = false) := decide_eq_false (fun e => hlen (by rw [e]))
   clear hlen
   go_enter Tryz.func72, Tryz.ntmps72
   go_wp2
   go_ret
   exact ⟨ret_bool HD.out.symm, Below.refl _ _⟩
set_option maxHeartbeats 4000000 in
theorem sameLists_any (p q : Option Addr) (cp cq : Nat) (l r : List Row) (hl : l.length ≤ 9000000000000000000) (hr : r.length ≤ 9000000000000000000) (hwl : ∀ x ∈ l, x.ns.length ≤ maxLen) (hwr : ∀ x ∈ r, x.ns.length ≤ maxLen) (w : World) (hP : RowsAt w p l) (hQ : RowsAt w q r) (hI : InAt w l) (hJ : InAt w r) :
   Calls Tryz.prog 38 #[.slice p l.length cp, .slice q r.length cq] w fun e w' => e = .returned (.bool (decide (l.map Row.ns = r.map Row.ns))) ∧ Below w.heap.size w w' := by
 have HP := hide hP
 have HQ := hide hQ
 have HI := hide hI
 have HJ := hide hJ
 have HWL := hide hwl
 have HWR := hide hwr
 have HS := hide (show decide (l.map Row.ns = r.map Row.ns) = decide (l.map Row.ns = r.map Row.ns) from rfl)
 generalize hR : decide (l.map Row.ns = r.map Row.ns) = R at *
 have HR := hide hR
 clear hP hQ hI hJ hwl hwr hR HS
 by_cases hlen : l.length = r.length
 · have hne : ((l.length : Int) != (r.length : Int)) = false := by simp [hlen]
   have HL := hide hlen
   clear hlen
   go_enter Tryz.func38, Tryz.ntmps38
   go_wp2
   go_loopw [5] (fun i wr => ∃ k : Nat, k ≤ l.length ∧ i = .int .i64 k ∧ Hid (∀ i (hi : i < l.length) (hj : i < r.length), i < k → l[i].ns = r[i].ns) ∧ Hid (Below w.heap.size w wr)) (fun i _ => l.length - (intOf i).toNat)
   case atStart => exact ⟨0, Nat.zero_le _, rfl, fun i hi hj h => by omega, Below.refl _ _⟩
   case round =>
     obtain ⟨k, hk, rfl, hno, HB⟩ := hrel
     by_cases hlt : k < l.length
     · have hlt2 : k < r.length := by have := HL.out; omega
       obtain ⟨b1, o1, hp1, hc1⟩ := (HP.out.later HB.out) (by omega)
       obtain ⟨b2, o2, hp2, hc2⟩ := (HQ.out.later HB.out) (by omega)
       subst hp1
       subst hp2
       have c1 := hc1 k hlt
       have c2 := hc2 k hlt2
       have hki : (k : Int) < (l.length : Int) := by omega
       have hkj : (k : Int) < (r.length : Int) := by omega
       have hk0 : (0 : Int) ≤ (k : Int) := by omega
       have HNN : Hid (l[k].ns = r[k].ns → ∀ i (hi : i < l.length) (hj : i < r.length), i < k + 1 → l[i].ns = r[i].ns) := by
         intro he i hi hj h
         rcases Nat.lt_succ_iff_lt_or_eq.1 h with h1 | rfl
         · exact hno.out i hi hj h1
         · exact he
       have HX : Hid (l[k].ns ≠ r[k].ns → R = false) := by
         intro hne
         rw [← HR.out, decide_eq_false_iff_not]
         intro e
         apply hne
         have e1 : (l.map Row.ns)[k]? = (r.map Row.ns)[k]? := by rw [e]
         rw [List.getElem?_map, List.getElem?_map, List.getElem?_eq_getElem hlt, List.getElem?_eq_getElem hlt2] at e1
         simpa using e1
       have w1 := HWL.out l[k] (List.getElem_mem hlt)
       have w2 := HWR.out r[k] (List.getElem_mem hlt2)
       have HI1 := hide (fun (w' : World) (hb : Below w.heap.size w w') => (HI.out.later hb) l[k] (List.getElem_mem hlt))
       have HI2 := hide (fun (w' : World) (hb : Below w.heap.size w w') => (HJ.out.later hb) r[k] (List.getElem_mem hlt2))
       clear hc1 hc2 hno
       generalize l[k] = x at *
       generalize r[k] = y at *
       obtain ⟨xa, xn, xc⟩ := x
       obtain ⟨ya, yn, yc⟩ := y
       unfold Row.v at c1 c2
       simp only at *
       have hbd : Below wr.heap.size wr wr.drew := (Below.refl _ wr).drew
       have HC := hide (sameInts_any xa ya xc yc xn yn w1 w2 wr.drew (HI1.out _ (bthen HB.out hbd)) (HI2.out _ (bthen HB.out hbd)))
       by_cases hxy : xn = yn
       · have HK := hide (HNN.out hxy)
         rw [decide_eq_true hxy] at HC
         clear HNN HX hxy
         go_wp2
         go_region_held3 (fun w' => w'.cell? ⟨b1, o1 + k, none⟩ = some (.slice xa xn.length xc) ∧ w'.cell? ⟨b2, o2 + k, none⟩ = some (.slice ya yn.length yc))
           (first | exact ⟨c1, c2⟩ | exact ⟨cell_later hb2 c1, cell_later hb2 c2⟩ | go_keep)
           ((go_at_call 72; refine HC.out.mono ?_; rintro e w2' ⟨rfl, hb2⟩))
         have HB2 := hide (bthen HB.out (bthen hbd hb2))
         clear hb2 hbd HC c1 c2
         go_wp2
         go_roundw
         case rel => exact ⟨k + 1, by omega, by go_num, HK, HB2⟩
         case measure => simp [intOf]; omega
       · have HK := hide (HX.out hxy)
         rw [decide_eq_false hxy] at HC
         clear HNN HX hxy
         go_wp2
         go_region_held3 (fun w' => w'.cell? ⟨b1, o1 + k, none⟩ = some (.slice xa xn.length xc) ∧ w'.cell? ⟨b2, o2 + k, none⟩ = some (.slice ya yn.length yc))
           (first | exact ⟨c1, c2⟩ | exact ⟨cell_later hb2 c1, cell_later hb2 c2⟩ | go_keep)
           ((go_at_call 72; refine HC.out.mono ?_; rintro e w2' ⟨rfl, hb2⟩))
         have HB2 := hide (bthen HB.out (bthen hbd hb2))
         clear hb2 hbd HC c1 c2
         go_wp2
         go_ret
         exact ⟨ret_bool HK.out.symm, HB2.out⟩
     · have HK : Hid (R = true) := by
         rw [Hid, ← HR.out, decide_eq_true_iff]
         refine List.ext_getElem (by simp; exact HL.out) fun i hi hj => ?_
         rw [List.getElem_map, List.getElem_map]
         exact hno.out i (by simpa using hi) (by simpa using hj) (by simp at hi; omega)
       have hki : ¬ (k : Int) < (l.length : Int) := by omega
       go_wp2
       go_ret
       exact ⟨ret_bool HK.out.symm, HB.out⟩
 · have hne : ((l.length : Int) != (r.length : Int)) = true := by simp; omega
   have HK : Hid (R = false) := by
     rw [Hid, ← HR.out, decide_eq_false_iff_not]
     intro e
     have := congrArg List.length e
     simp at this
     exact hlen this
   clear hlen
   go_enter Tryz.func38, Tryz.ntmps38
   go_wp2
   go_ret
   exact ⟨ret_bool HK.out.symm, Below.refl _ _⟩
end Go.Proofs.YtmambfdimeeijaaGreatDoor

namespace Go.Proofs.YtmambfdimeeijaaGreatDoor
open Go.RowKit Go.Maps Go.WideMaps
set_option maxRecDepth 100000
set_option autoImplicit false
set_option maxHeartbeats 4000000 in
theorem doneC_ok (V : Int) (p : Option Addr) (cap : Nat) (rs : List Row) (hl : rs.length ≤ 8796093022208) (hin : ∀ r ∈ rs, r.ns.length ≤ maxLen) (hE : chkC V (numsOf rs) = 0) (w : World) (hC : ClAt w p rs) :
   Calls Tryz.prog 6 #[cval V p rs.length cap] w fun e w' => e = .returned (.tuple #[cval V p rs.length cap, .int .i64 0]) ∧ Below w.heap.size w w' := by
 have hB0 : Below w.heap.size w ((w.alloc (.cells #[.int .i64 V, .slice p rs.length cap] 30)).alloc (.cells #[.int .i64 0, .slice none 0 0] 30)) := bal (bal (Below.refl _ _) _) _
 have hG : ((w.alloc (.cells #[.int .i64 V, .slice p rs.length cap] 30)).alloc (.cells #[.int .i64 0, .slice none 0 0] 30)).heap[w.heap.size + 1]? = some (.cells #[.int .i64 0, .slice none 0 0] 30) := alloc_at (by simp)
 have x0 : ((w.alloc (.cells #[.int .i64 V, .slice p rs.length cap] 30)).alloc (.cells #[.int .i64 0, .slice none 0 0] 30)).cell? ⟨w.heap.size, 0, none⟩ = some (.int .i64 V) := by simp [go_sem]
 have x1 : ((w.alloc (.cells #[.int .i64 V, .slice p rs.length cap] 30)).alloc (.cells #[.int .i64 0, .slice none 0 0] 30)).cell? ⟨w.heap.size, 1, none⟩ = some (.slice p rs.length cap) := by simp [go_sem]
 have HC := hide (checkClauses_any V p cap rs hl hin _ (hC.later hB0))
 rw [hE] at HC
 have HB0 := hide hB0
 have HG := hide hG
 clear hB0 hC hG
 go_enter Tryz.func6, Tryz.ntmps6
 go_wp2_with fail
 generalize (w.alloc (.cells #[.int .i64 V, .slice p rs.length cap] 30)).alloc (.cells #[.int .i64 0, .slice none 0 0] 30) = w1 at *
 have hGl : w.heap.size + 1 < w1.heap.size := (Array.getElem?_eq_some_iff.1 HG.out).1
 refine HC.out.mono ?_
 rintro e w2 ⟨rfl, hb2⟩
 have y0 := cell_later hb2 x0
 have y1 := cell_later hb2 x1
 have HB2 := hide (bthen HB0.out hb2)
 have HR := hide (r30 ((hb2.block _ hGl).trans HG.out))
 obtain ⟨g0, g1, f0, f1⟩ := HR.out.1
 clear hb2 x0 x1 HC
 go_wp2
 refine bodyPost_ret (res30 rfl _ rfl (HR.out.2 _ _)) rfl ?_
 exact ⟨rfl, (HB2.out.setCell (p := ⟨w.heap.size + 1, 0, none⟩) (by simp) _).setCell (p := ⟨w.heap.size + 1, 1, none⟩) (by simp) _⟩
set_option maxHeartbeats 4000000 in
theorem doneC_no (V : Int) (p : Option Addr) (cap : Nat) (rs : List Row) (hl : rs.length ≤ 8796093022208) (hin : ∀ r ∈ rs, r.ns.length ≤ maxLen) (hE : chkC V (numsOf rs) ≠ 0) (w : World) (hC : ClAt w p rs) :
   Calls Tryz.prog 6 #[cval V p rs.length cap] w fun e w' => e = .returned (.tuple #[cval 0 none 0 0, .int .i64 (chkC V (numsOf rs))]) ∧ Below w.heap.size w w' := by
 have hB0 : Below w.heap.size w ((w.alloc (.cells #[.int .i64 V, .slice p rs.length cap] 30)).alloc (.cells #[.int .i64 0, .slice none 0 0] 30)) := bal (bal (Below.refl _ _) _) _
 have hG : ((w.alloc (.cells #[.int .i64 V, .slice p rs.length cap] 30)).alloc (.cells #[.int .i64 0, .slice none 0 0] 30)).heap[w.heap.size + 1]? = some (.cells #[.int .i64 0, .slice none 0 0] 30) := alloc_at (by simp)
 have x0 : ((w.alloc (.cells #[.int .i64 V, .slice p rs.length cap] 30)).alloc (.cells #[.int .i64 0, .slice none 0 0] 30)).cell? ⟨w.heap.size, 0, none⟩ = some (.int .i64 V) := by simp [go_sem]
 have x1 : ((w.alloc (.cells #[.int .i64 V, .slice p rs.length cap] 30)).alloc (.cells #[.int .i64 0, .slice none 0 0] 30)).cell? ⟨w.heap.size, 1, none⟩ = some (.slice p rs.length cap) := by simp [go_sem]
 have HC := hide (checkClauses_any V p cap rs hl hin _ (hC.later hB0))
 have hEb : (chkC V (numsOf rs) != 0) = true := by simpa using hE
 have HB0 := hide hB0
 have HG := hide hG
 clear hB0 hC hG hE
 generalize chkC V (numsOf rs) = E at *
 go_enter Tryz.func6, Tryz.ntmps6
 go_wp2_with fail
 generalize (w.alloc (.cells #[.int .i64 V, .slice p rs.length cap] 30)).alloc (.cells #[.int .i64 0, .slice none 0 0] 30) = w1 at *
 have hGl : w.heap.size + 1 < w1.heap.size := (Array.getElem?_eq_some_iff.1 HG.out).1
 refine HC.out.mono ?_
 rintro e w2 ⟨rfl, hb2⟩
 have HB2 := hide (bthen HB0.out hb2)
 have HR := hide (r30 ((hb2.block _ hGl).trans HG.out))
 obtain ⟨g0, g1, f0, f1⟩ := HR.out.1
 clear hb2 x0 x1 HC
 go_wp2
 refine bodyPost_ret (res30 rfl _ rfl (HR.out.2 _ _)) rfl ?_
 exact ⟨rfl, (HB2.out.setCell (p := ⟨w.heap.size + 1, 0, none⟩) (by simp) _).setCell (p := ⟨w.heap.size + 1, 1, none⟩) (by simp) _⟩
set_option maxHeartbeats 4000000 in
theorem sameCl_any (V : Int) (p q : Option Addr) (cp cq : Nat) (l r : List Row) (hl : l.length ≤ 9000000000000000000) (hr : r.length ≤ 9000000000000000000) (hwl : ∀ x ∈ l, x.ns.length ≤ maxLen) (hwr : ∀ x ∈ r, x.ns.length ≤ maxLen) (hn : numsOf l = numsOf r) (w : World) (hP : ClAt w p l) (hQ : ClAt w q r) :
   Calls Tryz.prog 22 #[cval V p l.length cp, cval V q r.length cq] w fun e w' => e = .returned (.bool true) ∧ Below w.heap.size w w' := by
 have hB0 : Below w.heap.size w ((w.alloc (.cells #[.int .i64 V, .slice p l.length cp] 30)).alloc (.cells #[.int .i64 V, .slice q r.length cq] 30)) := bal (bal (Below.refl _ _) _) _
 have x0 : ((w.alloc (.cells #[.int .i64 V, .slice p l.length cp] 30)).alloc (.cells #[.int .i64 V, .slice q r.length cq] 30)).cell? ⟨w.heap.size, 0, none⟩ = some (.int .i64 V) := by simp [go_sem]
 have x1 : ((w.alloc (.cells #[.int .i64 V, .slice p l.length cp] 30)).alloc (.cells #[.int .i64 V, .slice q r.length cq] 30)).cell? ⟨w.heap.size, 1, none⟩ = some (.slice p l.length cp) := by simp [go_sem]
 have y0 : ((w.alloc (.cells #[.int .i64 V, .slice p l.length cp] 30)).alloc (.cells #[.int .i64 V, .slice q r.length cq] 30)).cell? ⟨w.heap.size + 1, 0, none⟩ = some (.int .i64 V) := by simp [go_sem]
 have y1 : ((w.alloc (.cells #[.int .i64 V, .slice p l.length cp] 30)).alloc (.cells #[.int .i64 V, .slice q r.length cq] 30)).cell? ⟨w.heap.size + 1, 1, none⟩ = some (.slice q r.length cq) := by simp [go_sem]
 have HL := hide (sameLists_any p q cp cq l r hl hr hwl hwr _ (hP.later hB0).rows (hQ.later hB0).rows (hP.later hB0).inn (hQ.later hB0).inn)
 rw [show decide (l.map Row.ns = r.map Row.ns) = true from decide_eq_true hn] at HL
 have HB0 := hide hB0
 clear hB0 hP hQ hn
 go_enter Tryz.func22, Tryz.ntmps22
 go_wp2_with fail
 generalize (w.alloc (.cells #[.int .i64 V, .slice p l.length cp] 30)).alloc (.cells #[.int .i64 V, .slice q r.length cq] 30) = w1 at *
 refine HL.out.mono ?_
 rintro e w2 ⟨rfl, hb2⟩
 have HB2 := hide (bthen HB0.out hb2)
 clear hb2 HL
 go_wp2
 go_ret
 exact ⟨rfl, HB2.out⟩
set_option maxHeartbeats 4000000 in
theorem are_any (E V V2 : Int) (p q : Option Addr) (cp cq : Nat) (l r : List Row) (hl : l.length ≤ 9000000000000000000) (hr : r.length ≤ 9000000000000000000) (hwl : ∀ x ∈ l, x.ns.length ≤ maxLen) (hwr : ∀ x ∈ r, x.ns.length ≤ maxLen)
   (hno : E ≠ 0 → V = 0 ∧ numsOf l = []) (hok : E = 0 → V = V2 ∧ numsOf l = numsOf r) (w : World) (hP : ClAt w p l) (hQ : ClAt w q r) :
   Calls Tryz.prog 9 #[cval V p l.length cp, .int .i64 E, .int .i64 E, cval V2 q r.length cq] w fun e w' => e = .returned (.bool true) ∧ Below w.heap.size w w' := by
 have hB0 : Below w.heap.size w ((w.alloc (.cells #[.int .i64 V, .slice p l.length cp] 30)).alloc (.cells #[.int .i64 V2, .slice q r.length cq] 30)) := bal (bal (Below.refl _ _) _) _
 by_cases hE : E = 0
 · obtain ⟨rfl, hn⟩ := hok hE
   subst hE
   have HL := hide (sameCl_any V p q cp cq l r hl hr hwl hwr hn _ (hP.later hB0) (hQ.later hB0))
   have HB0 := hide hB0
   clear hB0 hP hQ hn hno hok
   go_enter Tryz.func9, Tryz.ntmps9
   go_wp2_with fail
   refine HL.out.mono ?_
   rintro e w2 ⟨rfl, hb2⟩
   have HB2 := hide (bthen HB0.out hb2)
   clear hb2 HL
   go_wp2
   go_ret
   exact ⟨rfl, HB2.out⟩
 · obtain ⟨rfl, hn⟩ := hno hE
   have hEb : (E != 0) = true := by simpa using hE
   have hb1 : Below w.heap.size w ((w.alloc (.cells #[.int .i64 0, .slice p l.length cp] 30)).alloc (.cells #[.int .i64 0, .slice none 0 0] 30)) := bal (bal (Below.refl _ _) _) _
   have HL := hide (sameCl_any 0 p none cp 0 l [] hl (by simp) hwl (fun x hx => by cases hx) hn _ (hP.later hb1) (clAt_nil _))
   have HB0 := hide hb1
   clear hP hQ hn hno hok hb1
   go_enter Tryz.func9, Tryz.ntmps9
   go_wp2_with fail
   refine HL.out.mono ?_
   rintro e w2 ⟨rfl, hb2⟩
   have HB2 := hide (bthen HB0.out hb2)
   clear hb2 HL
   go_wp2
   go_ret
   exact ⟨rfl, HB2.out⟩
end Go.Proofs.YtmambfdimeeijaaGreatDoor

namespace Go.Proofs.YtmambfdimeeijaaGreatDoor
open Go.RowKit Go.Maps Go.WideMaps
set_option maxRecDepth 100000
set_option autoImplicit false
set_option maxHeartbeats 4000000 in
theorem addQ_any (base M : Nat) (v : Value) (vars : Int) (rs : List Row) (hrs : rs.length ≤ 1000000000) (l : List Int) (q : Option Addr) (qc : Nat) (w : World) (hbs : base ≤ w.heap.size) (hmk : Cm w base M v vars rs) (hI : IntsAt w q l) (hq : ∀ a, q = some a → a.block ≠ M ∧ v.ownBlock ≠ some a.block ∧ a.block < w.heap.size ∧ base ≤ a.block) :
   Calls Tryz.prog 14 #[.slice q l.length qc, .pointer (some ⟨M, 0, none⟩)] w fun e w' => e = .returned (.tuple #[]) ∧ ∃ v' r, r.ns = l ∧ Cm w' base M v' vars (rs ++ [r]) ∧ Below base w w' ∧ Kp M w v w' v' ∧ r.at' = q := by
 obtain ⟨i0, hi, hz0, hz1, hz2⟩ := info_parts infoR
 obtain ⟨pv, cv, rfl, _⟩ := owns_rows hmk.row
 have m1 := hmk.c1
 have f1 := hmk.f1
 have HMK := hide hmk
 have HI := hide hI
 have HQ := hide hq
 have HIN := hide (And.intro hi (And.intro hz0 (And.intro hz1 hz2)))
 have hlt0 := World.block_lt_of_cell? _ _ hmk.c1
 simp only at hlt0
 clear hI hmk hi hz0 hz1 hz2 hq
 go_enter Tryz.func14, Tryz.ntmps14
 go_wp2_with (at_builtin; refine wpList_append_lies _ rfl _ _ 28 rfl base 25 i0 (.slice none 0 0) 1 24 Tryz.underlying28 HIN.out.1 HIN.out.2.1 HIN.out.2.2.1 HIN.out.2.2.2 rfl (by decide) (.slice pv rs.length cv) rs.length (rs.map Row.v) rfl (HMK.out.row.alloc _) ⟨w.heap.size, 0, none⟩ 1 1 [(Row.mk q l qc).v] rfl rfl ?d0 ?d1 (by omega) ?d2 ?d3 ?d4 _ rfl ?_)
 case d0 => exact one_news ⟨q, l, qc⟩ w
 case d1 => exact one_cell ⟨q, l, qc⟩
 case d2 => unfold maxLen; omega
 case d3 => omega
 case d4 => simp; omega
 intro g cap w2 hown2 hg2 hat2 hlt2
 have g1 := hg2.cell (a := ⟨M, 1, none⟩) (past1 m1 _) (fun e => HMK.out.nv e.symm)
 have f2 : w2.frozen? ⟨M, 1, none⟩ = false := (grown_frozen hg2 (past1 m1 _) (fun e => HMK.out.nv e.symm)).trans (((bal (Below.refl _ _) _).frozen (World.block_lt_of_cell? _ _ m1)).trans f1)
 have hmem := add_memC (r := ⟨q, l, qc⟩) hbs HMK.out HI.out HQ.out hg2 hown2 (by simpa using hat2)
 have HMM := hide hmem
 clear hmem
 go_wp2
 go_end0
 exact ⟨rfl, _, _, rfl, HMM.out.1, HMM.out.2.1 _ (Below.refl _ _), HMM.out.2.2, rfl⟩
set_option maxHeartbeats 1000000 in
theorem bitJ_any {wr : World} {B F : Nat} {C : Ci} (h : Fy wr B F C) (s : Int) (i : Nat) (ht0 : 0 ≤ s * C.f) (ht : s * C.f ≤ 200000) (ha : 0 ≤ C.a) (ha2 : C.a ≤ 1000) (hi : i ≤ 1000) :
   Calls Tryz.prog 15 #[.int .i64 s, .int .i64 i, .pointer (some ⟨F, 0, none⟩), .pointer (some ⟨B, 0, none⟩)] wr fun e w' => e = .returned (.int .i64 (s * C.f + 1 + C.a + i)) ∧ w' = wr := by
 have w1 := wrap_id (x := s * C.f) (by omega) (by omega)
 have w2 := wrap_id (x := s * C.f + 1) (by omega) (by omega)
 have w3 := wrap_id (x := s * C.f + 1 + C.a) (by omega) (by omega)
 have w4 := wrap_id (x := s * C.f + 1 + C.a + (i : Int)) (by omega) (by omega)
 have c0 := h.xf
 have c2 := h.x2
 clear h
 go_enter Tryz.func15, Tryz.ntmps15
 go_wp2
 go_ret
 exact ⟨rfl, rfl⟩
def quiP (x off : Int) : List (List Int) := if x = 0 then [] else if x = 1 then [[]] else [[-numP x off]]
theorem quiet_P (f : Int) (t : Nat) (x : Int) (hx : 0 ≤ x) (hf : 0 ≤ (t : Int) * f) : rootC (turn (atL f t x)) = quiP x (t * f) := by
 unfold quiP
 by_cases h0 : x = 0
 · subst h0
   have e : atL f t 0 = 0 := by unfold atL; rw [if_pos (by decide)]
   rw [e, if_pos rfl]
   rfl
 · by_cases h1 : x = 1
   · subst h1
     have e : atL f t 1 = 1 := by unfold atL; rw [if_pos (by decide)]
     rw [e, if_neg (by decide), if_pos rfl]
     rfl
   · have e : atL f t x = x + 2 * (t * f) := by unfold atL; rw [if_neg (by omega)]
     rw [if_neg h0, if_neg h1, numP_at f t x (by omega)]
     generalize hy : atL f t x = y at *
     have hy2 : 2 ≤ y := by omega
     by_cases ho : odd y = true
     · have h3 : y % 2 = 1 := by simpa [odd] using ho
       have ho2 : odd (y - 1) = false := by
         unfold odd
         rw [show (y - 1) % 2 = 0 by omega]; rfl
       have e1 : turn y = y - 1 := by unfold turn; rw [if_pos ho]
       rw [e1]
       unfold rootC
       rw [if_neg (by omega), if_neg (by omega)]
       unfold numL
       rw [ho2, ho, if_neg (by simp), if_pos rfl, show (y - 1) / 2 = y / 2 by omega, Int.neg_neg]
     · have ho0 : odd y = false := by simpa using ho
       have h3 : y % 2 = 0 := by
         unfold odd at ho
         simp only [beq_iff_eq] at ho
         omega
       have ho2 : odd (y + 1) = true := by
         unfold odd
         rw [show (y + 1) % 2 = 1 by omega]; rfl
       have e1 : turn y = y + 1 := by unfold turn; rw [if_neg ho]
       rw [e1]
       unfold rootC
       rw [if_neg (by omega), if_neg (by omega)]
       unfold numL
       rw [ho2, ho0, if_pos rfl, if_neg (by simp), show (y + 1) / 2 = y / 2 by omega]
theorem Sm.addN {w1 w w' : World} {M : Nat} {v v' s : Value} {rs : List Row} {r : Row} {xs : List Int} (h : Sm w1 w M v rs s xs) (hk : Kp M w v w' v') (hr : ∀ g, s.ownBlock = some g → ∀ a, r.at' = some a → a.block ≠ g) : Sm w1 w' M v' (rs ++ [r]) s xs := by
 refine ⟨owns_kp h.own hk (fun g hg => ⟨(h.ap g hg).1, (h.ap g hg).2.1⟩), fun g hg => ?_⟩
 obtain ⟨h1, h2, h3⟩ := h.ap g hg
 have hlt := (h.own.lt g hg).2
 refine ⟨h1, (hk.blk g hlt h1 h2).2, fun q hq a ha => ?_⟩
 rcases List.mem_append.1 hq with k | k
 · exact h3 q k a ha
 · rw [List.mem_singleton.1 k] at ha
   exact hr g hg a ha
def Ps (w1 wr : World) (M : Nat) (V : Int) (L : List (List Int)) (ws : World) (s : Value) (xs : List Int) : Prop :=
 ∃ v rs, numsOf rs = L ∧ Cm wr M M v V rs ∧ Below M w1 wr ∧ Sm ws wr M v rs s xs ∧ M < ws.heap.size ∧ ws.heap.size ≤ wr.heap.size
theorem Ps.sc {w1 wr ws : World} {M : Nat} {V : Int} {L : List (List Int)} {s : Value} {xs : List Int} (h : Ps w1 wr M V L ws s xs) : Sc w1 wr M V L := by
 obtain ⟨v, rs, h1, h2, h3, _⟩ := h
 exact ⟨v, rs, h1, h2, h3⟩
theorem Ps.later {w1 wr w2 ws : World} {M : Nat} {V : Int} {L : List (List Int)} {s : Value} {xs : List Int} (h : Ps w1 wr M V L ws s xs) (hb : Below wr.heap.size wr w2) : Ps w1 w2 M V L ws s xs := by
 obtain ⟨v, rs, h1, h2, h3, h4, h5, h6⟩ := h
 exact ⟨v, rs, h1, h2.below hb, h3.trans (hb.mono (by omega)), h4.later hb, h5, Nat.le_trans h6 hb.size⟩
theorem ps_nil {w1 wr : World} {M : Nat} {V : Int} {L : List (List Int)} (h : Sc w1 wr M V L) : Ps w1 wr M V L wr (.slice none 0 0) [] := by
 have hM := h.lt
 obtain ⟨v, rs, h1, h2, h3⟩ := h
 exact ⟨v, rs, h1, h2, h3, sm_nil _ _ _ _ _, hM, Nat.le_refl _⟩
theorem Ps.setV {w1 wr ws : World} {M : Nat} {V : Int} {L : List (List Int)} {s : Value} {xs : List Int} (h : Ps w1 wr M V L ws s xs) (x : Int) : Ps w1 (wr.setCell ⟨M, 0, none⟩ (.int .i64 x)) M x L ws s xs := by
 obtain ⟨v, rs, h1, h2, h3, h4, h5, h6⟩ := h
 exact ⟨v, rs, h1, h2.setV x, h3.setCell (p := ⟨M, 0, none⟩) (Nat.le_refl _) _, h4.setV _, h5, by simpa using h6⟩
theorem addPs_any {w1 wr ws : World} {M : Nat} {V : Int} {L : List (List Int)} {s : Value} {xs : List Int} (h : Ps w1 wr M V L ws s xs) (hL : L.length ≤ 1000000000) (l : List Int) (c : Nat) (o : Obj) (hI : IntsAt (wr.alloc o) (some ⟨wr.heap.size, 0, none⟩) l) :
   Calls Tryz.prog 14 #[.slice (some ⟨wr.heap.size, 0, none⟩) l.length c, .pointer (some ⟨M, 0, none⟩)] (wr.alloc o) fun e w' => e = .returned (.tuple #[]) ∧ Ps w1 w' M V (L ++ [l]) ws s xs := by
 obtain ⟨v, rs, hn, hc, hb, hs, hm, hw⟩ := h
 have hal : Below wr.heap.size wr (wr.alloc o) := bal (Below.refl _ _) o
 refine (addQ_any M M v V rs (by rw [← numsOf_len, hn]; exact hL) l _ c _ (by simp; omega) (hc.below hal) hI (fun a ha => ?_)).mono ?_
 · cases ha
   refine ⟨by simp; omega, fun e => ?_, by simp, by simp; omega⟩
   have := (hc.row.lt _ e).2
   simp at this
 · rintro e w' ⟨rfl, v', r, hr, hc', hb', hk', hq⟩
   have hsz := hk'.sz
   refine ⟨rfl, v', rs ++ [r], by rw [numsOf_app, hn, hr], hc', (hb.trans (hal.mono (by omega))).trans hb', (hs.later hal).addN hk' (fun g hg a ha e => ?_), hm, by simp at hsz; omega⟩
   rw [hq] at ha
   cases ha
   have := (hs.own.lt g hg).2
   simp at e
   omega
theorem ps_push {w1 wr ws w' : World} {M : Nat} {V y : Int} {L : List (List Int)} {s : Value} {xs : List Int} {p : Option Addr} {c : Nat} (h : Ps w1 wr M V L ws s xs)
   (ho : w'.ownsRow ws.heap.size 3 1 (.slice p (xs.length + 1) c) (xs.length + 1) ((xs ++ [y]).map (Value.int .i64))) (hg : (wr.alloc (.cells #[.int .i64 y] 3)).grownBy w' s.ownBlock) (hat : Value.ownBlock (.slice p (xs.length + 1) c) = s.ownBlock ∨ Value.ownBlock (.slice p (xs.length + 1) c) = some (wr.heap.size + 1)) :
   Ps w1 w' M V L ws (.slice p (xs.length + 1) c) (xs ++ [y]) := by
 obtain ⟨v, rs, hn, hc, hb, hs, hm, hw⟩ := h
 have hal : Below wr.heap.size wr (wr.alloc (.cells #[.int .i64 y] 3)) := bal (Below.refl _ _) _
 have hM := World.block_lt_of_cell? _ _ hc.c0
 simp only at hM
 have hbl : ∀ g, s.ownBlock = some g → ws.heap.size ≤ g := fun g e => (hs.own.lt g e).1
 have hsz := hg.size
 simp at hsz
 refine ⟨v, rs, hn, (hc.below hal).grown hg (fun e => (hs.ap M e).1 rfl) (fun g hv e => (hs.ap g e).2.1 hv) (fun r hr a ha e => (hs.ap _ e).2.2 r hr a ha rfl), (hb.trans (hal.mono (by omega))).grown hg (by simp; omega) (fun k hk => by have := hbl k hk; omega), ⟨by rw [List.length_append]; exact ho, fun g hg2 => ?_⟩, hm, by omega⟩
 rcases hat with e | e
 · exact hs.ap g (e ▸ hg2)
 · rw [e] at hg2
   cases hg2
   refine ⟨by omega, fun e2 => ?_, fun r hr a ha => ?_⟩
   · have := (hc.row.lt _ e2).2; omega
   · have := (hc.far r hr a ha).2.2.1; omega
end Go.Proofs.YtmambfdimeeijaaGreatDoor
