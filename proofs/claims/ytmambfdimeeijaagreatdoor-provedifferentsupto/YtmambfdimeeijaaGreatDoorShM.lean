/- Lists that are the same. -/
import Derived.Test.YtmambfdimeeijaaGreatDoorBaM
import Derived.Deep.QuietTactic
import Derived.BigQuiet
import Derived.Deep.RegionHeld3
import Derived.Test.YtmambfdimeeijaaGreatDoorTrM
import Derived.Laws.ResultCell
import Derived.Test.YtmambfdimeeijaaGreatDoorSeM
import Derived.Deep.CutRange
import Derived.Deep.CutBlock
namespace Go.Proofs.YtmambfdimeeijaaGreatDoor
open Go.RowKit Go.Maps Go.WideMaps
set_option maxRecDepth 100000
theorem bdnW {w w1 : World} (h : Below w.heap.size w w1) (n : Nat) : Below w.heap.size w (w1.drewN n) := bdn h n
set_option maxHeartbeats 4000000 in
theorem sameInts_any (p q : Option Addr) (cp cq : Nat) (l r : List Int) (hl : l.length ≤ maxLen) (hr : r.length ≤ maxLen) (w : World) (hP : IntsAt w p l) (hQ : IntsAt w q r) :
   Calls Tryz.prog 72 #[.slice p l.length cp, .slice q r.length cq] w fun e w' => e = .returned (.bool (decide (l = r))) ∧ Below w.heap.size w w' := by
 unfold maxLen at hl hr
 by_cases hlen : l.length = r.length
 · have hne : ((l.length : Int) != (r.length : Int)) = false := by simp [hlen]
   have HL := hide hlen
   clear hlen
   go_enter Tryz.func72, Tryz.ntmps72
   go_wp2
   go_loopw [5] (fun i wr => ∃ k : Nat, k ≤ l.length ∧ i = .int .i64 k ∧ Below w.heap.size w wr ∧ Hid (∀ i (h1 : i < l.length) (h2 : i < r.length), i < k → l[i] = r[i])) (fun i _ => l.length - (intOf i).toNat)
   case atStart => exact ⟨0, Nat.zero_le _, rfl, Below.refl _ _, fun i h1 h2 h => by omega⟩
   case round =>
     obtain ⟨k, hk, rfl, hbw, hz⟩ := hrel
     by_cases hlt : k < l.length
     · have hlt2 : k < r.length := by have := HL.out; omega
       obtain ⟨b, off, rfl, hc⟩ := (hP.later hbw) (by omega)
       obtain ⟨b2, off2, rfl, hc2⟩ := (hQ.later hbw) (by omega)
       have d0 := hc k hlt
       have d1 := hc2 k hlt2
       have hi1 : (k : Int) < (l.length : Int) := by omega
       have hi2 : (k : Int) < (r.length : Int) := by omega
       have HN : Hid (l[k] = r[k] → ∀ i (h1 : i < l.length) (h2 : i < r.length), i < k + 1 → l[i] = r[i]) := by
         intro h i h1 h2 hik
         rcases Nat.lt_succ_iff_lt_or_eq.1 hik with h3 | rfl
         · exact hz.out i h1 h2 h3
         · exact h
       have HD : Hid (l[k] ≠ r[k] → decide (l = r) = false) := by
         intro h
         refine decide_eq_false (fun e => h ?_)
         subst e
         rfl
       clear hc hc2 hz
       generalize l[k] = x at *
       generalize r[k] = y at *
       by_cases hxy : x = y
       · have e1 : (x != y) = false := by simp [hxy]
         have HN2 := hide (HN.out hxy)
         clear hxy HN HD
         go_wp2
         go_quiet (fail)
         go_wp2
         go_roundw
         case rel => exact ⟨k + 1, by omega, by go_num, bdnW hbw _, HN2⟩
         case measure => simp [intOf]; omega
       · have e1 : (x != y) = true := by simp [hxy]
         have HD2 := hide (HD.out hxy)
         clear hxy HN HD
         go_wp2
         go_quiet (fail)
         go_wp2
         go_ret
         exact ⟨ret_bool HD2.out.symm, bdnW hbw _⟩
     · have HD : Hid (decide (l = r) = true) := by
         refine decide_eq_true (List.ext_getElem HL.out (fun i h1 h2 => hz.out i h1 h2 (by omega)))
       clear hz
       go_wp2
       go_ret
       exact ⟨ret_bool HD.out.symm, hbw⟩
 · have hne : ((l.length : Int) != (r.length : Int)) = true := by simp; omega
   have HD : Hid (decide (l = r) = false) := decide_eq_false (fun e => hlen (by rw [e]))
   clear hlen
   go_enter Tryz.func72, Tryz.ntmps72
   go_wp2
   go_ret
   exact ⟨ret_bool HD.out.symm, Below.refl _ _⟩
set_option maxHeartbeats 4000000 in
theorem sameLists_any (p q : Option Addr) (cp cq : Nat) (l r : List Row) (hl : l.length ≤ 9000000000000000000) (hr : r.length ≤ 9000000000000000000) (hwl : ∀ x ∈ l, x.ns.length ≤ maxLen) (hwr : ∀ x ∈ r, x.ns.length ≤ maxLen) (w : World) (hP : RowsAt w p l) (hQ : RowsAt w q r) (hI : InAt w l) (hJ : InAt w r) :
   Calls Tryz.prog 38 #[.slice p l.length cp, .slice q r.length cq] w fun e w' => e = .returned (.bool (decide (l.map Row.ns = r.map Row.ns))) ∧ Below w.heap.size w w' := by
 have HP := hide hP
 have HQ := hide hQ
 have HI := hide hI
 have HJ := hide hJ
 have HWL := hide hwl
 have HWR := hide hwr
 have HS := hide (show decide (l.map Row.ns = r.map Row.ns) = decide (l.map Row.ns = r.map Row.ns) from rfl)
 generalize hR : decide (l.map Row.ns = r.map Row.ns) = R at *
 have HR := hide hR
 clear hP hQ hI hJ hwl hwr hR HS
 by_cases hlen : l.length = r.length
 · have hne : ((l.length : Int) != (r.length : Int)) = false := by simp [hlen]
   have HL := hide hlen
   clear hlen
   go_enter Tryz.func38, Tryz.ntmps38
   go_wp2
   go_loopw [5] (fun i wr => ∃ k : Nat, k ≤ l.length ∧ i = .int .i64 k ∧ Hid (∀ i (hi : i < l.length) (hj : i < r.length), i < k → l[i].ns = r[i].ns) ∧ Hid (Below w.heap.size w wr)) (fun i _ => l.length - (intOf i).toNat)
   case atStart => exact ⟨0, Nat.zero_le _, rfl, fun i hi hj h => by omega, Below.refl _ _⟩
   case round =>
     obtain ⟨k, hk, rfl, hno, HB⟩ := hrel
     by_cases hlt : k < l.length
     · have hlt2 : k < r.length := by have := HL.out; omega
       obtain ⟨b1, o1, hp1, hc1⟩ := (HP.out.later HB.out) (by omega)
       obtain ⟨b2, o2, hp2, hc2⟩ := (HQ.out.later HB.out) (by omega)
       subst hp1
       subst hp2
       have c1 := hc1 k hlt
       have c2 := hc2 k hlt2
       have hki : (k : Int) < (l.length : Int) := by omega
       have hkj : (k : Int) < (r.length : Int) := by omega
       have hk0 : (0 : Int) ≤ (k : Int) := by omega
       have HNN : Hid (l[k].ns = r[k].ns → ∀ i (hi : i < l.length) (hj : i < r.length), i < k + 1 → l[i].ns = r[i].ns) := by
         intro he i hi hj h
         rcases Nat.lt_succ_iff_lt_or_eq.1 h with h1 | rfl
         · exact hno.out i hi hj h1
         · exact he
       have HX : Hid (l[k].ns ≠ r[k].ns → R = false) := by
         intro hne
         rw [← HR.out, decide_eq_false_iff_not]
         intro e
         apply hne
         have e1 : (l.map Row.ns)[k]? = (r.map Row.ns)[k]? := by rw [e]
         rw [List.getElem?_map, List.getElem?_map, List.getElem?_eq_getElem hlt, List.getElem?_eq_getElem hlt2] at e1
         simpa using e1
       have w1 := HWL.out l[k] (List.getElem_mem hlt)
       have w2 := HWR.out r[k] (List.getElem_mem hlt2)
       have HI1 := hide (fun (w' : World) (hb : Below w.heap.size w w') => (HI.out.later hb) l[k] (List.getElem_mem hlt))
       have HI2 := hide (fun (w' : World) (hb : Below w.heap.size w w') => (HJ.out.later hb) r[k] (List.getElem_mem hlt2))
       clear hc1 hc2 hno
       generalize l[k] = x at *
       generalize r[k] = y at *
       obtain ⟨xa, xn, xc⟩ := x
       obtain ⟨ya, yn, yc⟩ := y
       unfold Row.v at c1 c2
       simp only at *
       have hbd : Below wr.heap.size wr wr.drew := (Below.refl _ wr).drew
       have HC := hide (sameInts_any xa ya xc yc xn yn w1 w2 wr.drew (HI1.out _ (bthen HB.out hbd)) (HI2.out _ (bthen HB.out hbd)))
       by_cases hxy : xn = yn
       · have HK := hide (HNN.out hxy)
         rw [decide_eq_true hxy] at HC
         clear HNN HX hxy
         go_wp2
         go_region_held3 (fun w' => w'.cell? ⟨b1, o1 + k, none⟩ = some (.slice xa xn.length xc) ∧ w'.cell? ⟨b2, o2 + k, none⟩ = some (.slice ya yn.length yc))
           (first | exact ⟨c1, c2⟩ | exact ⟨cell_later hb2 c1, cell_later hb2 c2⟩ | go_keep)
           ((go_at_call 72; refine HC.out.mono ?_; rintro e w2' ⟨rfl, hb2⟩))
         have HB2 := hide (bthen HB.out (bthen hbd hb2))
         clear hb2 hbd HC c1 c2
         go_wp2
         go_roundw
         case rel => exact ⟨k + 1, by omega, by go_num, HK, HB2⟩
         case measure => simp [intOf]; omega
       · have HK := hide (HX.out hxy)
         rw [decide_eq_false hxy] at HC
         clear HNN HX hxy
         go_wp2
         go_region_held3 (fun w' => w'.cell? ⟨b1, o1 + k, none⟩ = some (.slice xa xn.length xc) ∧ w'.cell? ⟨b2, o2 + k, none⟩ = some (.slice ya yn.length yc))
           (first | exact ⟨c1, c2⟩ | exact ⟨cell_later hb2 c1, cell_later hb2 c2⟩ | go_keep)
           ((go_at_call 72; refine HC.out.mono ?_; rintro e w2' ⟨rfl, hb2⟩))
         have HB2 := hide (bthen HB.out (bthen hbd hb2))
         clear hb2 hbd HC c1 c2
         go_wp2
         go_ret
         exact ⟨ret_bool HK.out.symm, HB2.out⟩
     · have HK : Hid (R = true) := by
         rw [Hid, ← HR.out, decide_eq_true_iff]
         refine List.ext_getElem (by simp; exact HL.out) fun i hi hj => ?_
         rw [List.getElem_map, List.getElem_map]
         exact hno.out i (by simpa using hi) (by simpa using hj) (by simp at hi; omega)
       have hki : ¬ (k : Int) < (l.length : Int) := by omega
       go_wp2
       go_ret
       exact ⟨ret_bool HK.out.symm, HB.out⟩
 · have hne : ((l.length : Int) != (r.length : Int)) = true := by simp; omega
   have HK : Hid (R = false) := by
     rw [Hid, ← HR.out, decide_eq_false_iff_not]
     intro e
     have := congrArg List.length e
     simp at this
     exact hlen this
   clear hlen
   go_enter Tryz.func38, Tryz.ntmps38
   go_wp2
   go_ret
   exact ⟨ret_bool HK.out.symm, Below.refl _ _⟩
end Go.Proofs.YtmambfdimeeijaaGreatDoor

namespace Go.Proofs.YtmambfdimeeijaaGreatDoor
open Go.RowKit Go.Maps Go.WideMaps
set_option maxRecDepth 100000
set_option maxHeartbeats 4000000 in
theorem doneC_ok (V : Int) (p : Option Addr) (cap : Nat) (rs : List Row) (hl : rs.length ≤ 8796093022208) (hin : ∀ r ∈ rs, r.ns.length ≤ maxLen) (hE : chkC V (numsOf rs) = 0) (w : World) (hC : ClAt w p rs) :
   Calls Tryz.prog 6 #[cval V p rs.length cap] w fun e w' => e = .returned (.tuple #[cval V p rs.length cap, .int .i64 0]) ∧ Below w.heap.size w w' := by
 have hB0 : Below w.heap.size w ((w.alloc (.cells #[.int .i64 V, .slice p rs.length cap] 30)).alloc (.cells #[.int .i64 0, .slice none 0 0] 30)) := bal (bal (Below.refl _ _) _) _
 have hG : ((w.alloc (.cells #[.int .i64 V, .slice p rs.length cap] 30)).alloc (.cells #[.int .i64 0, .slice none 0 0] 30)).heap[w.heap.size + 1]? = some (.cells #[.int .i64 0, .slice none 0 0] 30) := alloc_at (by simp)
 have x0 : ((w.alloc (.cells #[.int .i64 V, .slice p rs.length cap] 30)).alloc (.cells #[.int .i64 0, .slice none 0 0] 30)).cell? ⟨w.heap.size, 0, none⟩ = some (.int .i64 V) := by simp [go_sem]
 have x1 : ((w.alloc (.cells #[.int .i64 V, .slice p rs.length cap] 30)).alloc (.cells #[.int .i64 0, .slice none 0 0] 30)).cell? ⟨w.heap.size, 1, none⟩ = some (.slice p rs.length cap) := by simp [go_sem]
 have HC := hide (checkClauses_any V p cap rs hl hin _ (hC.later hB0))
 rw [hE] at HC
 have HB0 := hide hB0
 have HG := hide hG
 clear hB0 hC hG
 go_enter Tryz.func6, Tryz.ntmps6
 go_wp2_with fail
 generalize (w.alloc (.cells #[.int .i64 V, .slice p rs.length cap] 30)).alloc (.cells #[.int .i64 0, .slice none 0 0] 30) = w1 at *
 have hGl : w.heap.size + 1 < w1.heap.size := (Array.getElem?_eq_some_iff.1 HG.out).1
 refine HC.out.mono ?_
 rintro e w2 ⟨rfl, hb2⟩
 have y0 := cell_later hb2 x0
 have y1 := cell_later hb2 x1
 have HB2 := hide (bthen HB0.out hb2)
 have HR := hide (r30 ((hb2.block _ hGl).trans HG.out))
 obtain ⟨g0, g1, f0, f1⟩ := HR.out.1
 clear hb2 x0 x1 HC
 go_wp2
 refine bodyPost_ret (res30 rfl _ rfl (HR.out.2 _ _)) rfl ?_
 exact ⟨rfl, (HB2.out.setCell (p := ⟨w.heap.size + 1, 0, none⟩) (by simp) _).setCell (p := ⟨w.heap.size + 1, 1, none⟩) (by simp) _⟩
set_option maxHeartbeats 4000000 in
theorem doneC_no (V : Int) (p : Option Addr) (cap : Nat) (rs : List Row) (hl : rs.length ≤ 8796093022208) (hin : ∀ r ∈ rs, r.ns.length ≤ maxLen) (hE : chkC V (numsOf rs) ≠ 0) (w : World) (hC : ClAt w p rs) :
   Calls Tryz.prog 6 #[cval V p rs.length cap] w fun e w' => e = .returned (.tuple #[cval 0 none 0 0, .int .i64 (chkC V (numsOf rs))]) ∧ Below w.heap.size w w' := by
 have hB0 : Below w.heap.size w ((w.alloc (.cells #[.int .i64 V, .slice p rs.length cap] 30)).alloc (.cells #[.int .i64 0, .slice none 0 0] 30)) := bal (bal (Below.refl _ _) _) _
 have hG : ((w.alloc (.cells #[.int .i64 V, .slice p rs.length cap] 30)).alloc (.cells #[.int .i64 0, .slice none 0 0] 30)).heap[w.heap.size + 1]? = some (.cells #[.int .i64 0, .slice none 0 0] 30) := alloc_at (by simp)
 have x0 : ((w.alloc (.cells #[.int .i64 V, .slice p rs.length cap] 30)).alloc (.cells #[.int .i64 0, .slice none 0 0] 30)).cell? ⟨w.heap.size, 0, none⟩ = some (.int .i64 V) := by simp [go_sem]
 have x1 : ((w.alloc (.cells #[.int .i64 V, .slice p rs.length cap] 30)).alloc (.cells #[.int .i64 0, .slice none 0 0] 30)).cell? ⟨w.heap.size, 1, none⟩ = some (.slice p rs.length cap) := by simp [go_sem]
 have HC := hide (checkClauses_any V p cap rs hl hin _ (hC.later hB0))
 have hEb : (chkC V (numsOf rs) != 0) = true := by simpa using hE
 have HB0 := hide hB0
 have HG := hide hG
 clear hB0 hC hG hE
 generalize chkC V (numsOf rs) = E at *
 go_enter Tryz.func6, Tryz.ntmps6
 go_wp2_with fail
 generalize (w.alloc (.cells #[.int .i64 V, .slice p rs.length cap] 30)).alloc (.cells #[.int .i64 0, .slice none 0 0] 30) = w1 at *
 have hGl : w.heap.size + 1 < w1.heap.size := (Array.getElem?_eq_some_iff.1 HG.out).1
 refine HC.out.mono ?_
 rintro e w2 ⟨rfl, hb2⟩
 have HB2 := hide (bthen HB0.out hb2)
 have HR := hide (r30 ((hb2.block _ hGl).trans HG.out))
 obtain ⟨g0, g1, f0, f1⟩ := HR.out.1
 clear hb2 x0 x1 HC
 go_wp2
 refine bodyPost_ret (res30 rfl _ rfl (HR.out.2 _ _)) rfl ?_
 exact ⟨rfl, (HB2.out.setCell (p := ⟨w.heap.size + 1, 0, none⟩) (by simp) _).setCell (p := ⟨w.heap.size + 1, 1, none⟩) (by simp) _⟩
set_option maxHeartbeats 4000000 in
theorem sameCl_any (V : Int) (p q : Option Addr) (cp cq : Nat) (l r : List Row) (hl : l.length ≤ 9000000000000000000) (hr : r.length ≤ 9000000000000000000) (hwl : ∀ x ∈ l, x.ns.length ≤ maxLen) (hwr : ∀ x ∈ r, x.ns.length ≤ maxLen) (hn : numsOf l = numsOf r) (w : World) (hP : ClAt w p l) (hQ : ClAt w q r) :
   Calls Tryz.prog 22 #[cval V p l.length cp, cval V q r.length cq] w fun e w' => e = .returned (.bool true) ∧ Below w.heap.size w w' := by
 have hB0 : Below w.heap.size w ((w.alloc (.cells #[.int .i64 V, .slice p l.length cp] 30)).alloc (.cells #[.int .i64 V, .slice q r.length cq] 30)) := bal (bal (Below.refl _ _) _) _
 have x0 : ((w.alloc (.cells #[.int .i64 V, .slice p l.length cp] 30)).alloc (.cells #[.int .i64 V, .slice q r.length cq] 30)).cell? ⟨w.heap.size, 0, none⟩ = some (.int .i64 V) := by simp [go_sem]
 have x1 : ((w.alloc (.cells #[.int .i64 V, .slice p l.length cp] 30)).alloc (.cells #[.int .i64 V, .slice q r.length cq] 30)).cell? ⟨w.heap.size, 1, none⟩ = some (.slice p l.length cp) := by simp [go_sem]
 have y0 : ((w.alloc (.cells #[.int .i64 V, .slice p l.length cp] 30)).alloc (.cells #[.int .i64 V, .slice q r.length cq] 30)).cell? ⟨w.heap.size + 1, 0, none⟩ = some (.int .i64 V) := by simp [go_sem]
 have y1 : ((w.alloc (.cells #[.int .i64 V, .slice p l.length cp] 30)).alloc (.cells #[.int .i64 V, .slice q r.length cq] 30)).cell? ⟨w.heap.size + 1, 1, none⟩ = some (.slice q r.length cq) := by simp [go_sem]
 have HL := hide (sameLists_any p q cp cq l r hl hr hwl hwr _ (hP.later hB0).rows (hQ.later hB0).rows (hP.later hB0).inn (hQ.later hB0).inn)
 rw [show decide (l.map Row.ns = r.map Row.ns) = true from decide_eq_true hn] at HL
 have HB0 := hide hB0
 clear hB0 hP hQ hn
 go_enter Tryz.func22, Tryz.ntmps22
 go_wp2_with fail
 generalize (w.alloc (.cells #[.int .i64 V, .slice p l.length cp] 30)).alloc (.cells #[.int .i64 V, .slice q r.length cq] 30) = w1 at *
 refine HL.out.mono ?_
 rintro e w2 ⟨rfl, hb2⟩
 have HB2 := hide (bthen HB0.out hb2)
 clear hb2 HL
 go_wp2
 go_ret
 exact ⟨rfl, HB2.out⟩
set_option maxHeartbeats 4000000 in
theorem are_any (E V V2 : Int) (p q : Option Addr) (cp cq : Nat) (l r : List Row) (hl : l.length ≤ 9000000000000000000) (hr : r.length ≤ 9000000000000000000) (hwl : ∀ x ∈ l, x.ns.length ≤ maxLen) (hwr : ∀ x ∈ r, x.ns.length ≤ maxLen)
   (hno : E ≠ 0 → V = 0 ∧ numsOf l = []) (hok : E = 0 → V = V2 ∧ numsOf l = numsOf r) (w : World) (hP : ClAt w p l) (hQ : ClAt w q r) :
   Calls Tryz.prog 9 #[cval V p l.length cp, .int .i64 E, .int .i64 E, cval V2 q r.length cq] w fun e w' => e = .returned (.bool true) ∧ Below w.heap.size w w' := by
 have hB0 : Below w.heap.size w ((w.alloc (.cells #[.int .i64 V, .slice p l.length cp] 30)).alloc (.cells #[.int .i64 V2, .slice q r.length cq] 30)) := bal (bal (Below.refl _ _) _) _
 by_cases hE : E = 0
 · obtain ⟨rfl, hn⟩ := hok hE
   subst hE
   have HL := hide (sameCl_any V p q cp cq l r hl hr hwl hwr hn _ (hP.later hB0) (hQ.later hB0))
   have HB0 := hide hB0
   clear hB0 hP hQ hn hno hok
   go_enter Tryz.func9, Tryz.ntmps9
   go_wp2_with fail
   refine HL.out.mono ?_
   rintro e w2 ⟨rfl, hb2⟩
   have HB2 := hide (bthen HB0.out hb2)
   clear hb2 HL
   go_wp2
   go_ret
   exact ⟨rfl, HB2.out⟩
 · obtain ⟨rfl, hn⟩ := hno hE
   have hEb : (E != 0) = true := by simpa using hE
   have hb1 : Below w.heap.size w ((w.alloc (.cells #[.int .i64 0, .slice p l.length cp] 30)).alloc (.cells #[.int .i64 0, .slice none 0 0] 30)) := bal (bal (Below.refl _ _) _) _
   have HL := hide (sameCl_any 0 p none cp 0 l [] hl (by simp) hwl (fun x hx => by cases hx) hn _ (hP.later hb1) (clAt_nil _))
   have HB0 := hide hb1
   clear hP hQ hn hno hok hb1
   go_enter Tryz.func9, Tryz.ntmps9
   go_wp2_with fail
   refine HL.out.mono ?_
   rintro e w2 ⟨rfl, hb2⟩
   have HB2 := hide (bthen HB0.out hb2)
   clear hb2 HL
   go_wp2
   go_ret
   exact ⟨rfl, HB2.out⟩
end Go.Proofs.YtmambfdimeeijaaGreatDoor

namespace Go.Proofs.YtmambfdimeeijaaGreatDoor
open Go.RowKit Go.Maps Go.WideMaps
set_option maxRecDepth 100000
set_option maxHeartbeats 4000000 in
theorem addQ_any (base M : Nat) (v : Value) (vars : Int) (rs : List Row) (hrs : rs.length ≤ 1000000000) (l : List Int) (q : Option Addr) (qc : Nat) (w : World) (hbs : base ≤ w.heap.size) (hmk : Cm w base M v vars rs) (hI : IntsAt w q l) (hq : ∀ a, q = some a → a.block ≠ M ∧ v.ownBlock ≠ some a.block ∧ a.block < w.heap.size ∧ base ≤ a.block) :
   Calls Tryz.prog 14 #[.slice q l.length qc, .pointer (some ⟨M, 0, none⟩)] w fun e w' => e = .returned (.tuple #[]) ∧ ∃ v' r, r.ns = l ∧ Cm w' base M v' vars (rs ++ [r]) ∧ Below base w w' ∧ Kp M w v w' v' ∧ r.at' = q := by
 obtain ⟨i0, hi, hz0, hz1, hz2⟩ := info_parts infoR
 obtain ⟨pv, cv, rfl, _⟩ := owns_rows hmk.row
 have m1 := hmk.c1
 have f1 := hmk.f1
 have HMK := hide hmk
 have HI := hide hI
 have HQ := hide hq
 have HIN := hide (And.intro hi (And.intro hz0 (And.intro hz1 hz2)))
 have hlt0 := World.block_lt_of_cell? _ _ hmk.c1
 simp only at hlt0
 clear hI hmk hi hz0 hz1 hz2 hq
 go_enter Tryz.func14, Tryz.ntmps14
 go_wp2_with (at_builtin; refine wpList_append_lies _ rfl _ _ 28 rfl base 25 i0 (.slice none 0 0) 1 24 Tryz.underlying28 HIN.out.1 HIN.out.2.1 HIN.out.2.2.1 HIN.out.2.2.2 rfl (by decide) (.slice pv rs.length cv) rs.length (rs.map Row.v) rfl (HMK.out.row.alloc _) ⟨w.heap.size, 0, none⟩ 1 1 [(Row.mk q l qc).v] rfl rfl ?d0 ?d1 (by omega) ?d2 ?d3 ?d4 _ rfl ?_)
 case d0 => exact one_news ⟨q, l, qc⟩ w
 case d1 => exact one_cell ⟨q, l, qc⟩
 case d2 => unfold maxLen; omega
 case d3 => omega
 case d4 => simp; omega
 intro g cap w2 hown2 hg2 hat2 hlt2
 have g1 := hg2.cell (a := ⟨M, 1, none⟩) (past1 m1 _) (fun e => HMK.out.nv e.symm)
 have f2 : w2.frozen? ⟨M, 1, none⟩ = false := (grown_frozen hg2 (past1 m1 _) (fun e => HMK.out.nv e.symm)).trans (((bal (Below.refl _ _) _).frozen (World.block_lt_of_cell? _ _ m1)).trans f1)
 have hmem := add_memC (r := ⟨q, l, qc⟩) hbs HMK.out HI.out HQ.out hg2 hown2 (by simpa using hat2)
 have HMM := hide hmem
 clear hmem
 go_wp2
 go_end0
 exact ⟨rfl, _, _, rfl, HMM.out.1, HMM.out.2.1 _ (Below.refl _ _), HMM.out.2.2, rfl⟩
set_option maxHeartbeats 1000000 in
theorem bitJ_any {wr : World} {B F : Nat} {C : Ci} (h : Fy wr B F C) (s : Int) (i : Nat) (ht0 : 0 ≤ s * C.f) (ht : s * C.f ≤ 200000) (ha : 0 ≤ C.a) (ha2 : C.a ≤ 1000) (hi : i ≤ 1000) :
   Calls Tryz.prog 15 #[.int .i64 s, .int .i64 i, .pointer (some ⟨F, 0, none⟩), .pointer (some ⟨B, 0, none⟩)] wr fun e w' => e = .returned (.int .i64 (s * C.f + 1 + C.a + i)) ∧ w' = wr := by
 have w1 := wrap_id (x := s * C.f) (by omega) (by omega)
 have w2 := wrap_id (x := s * C.f + 1) (by omega) (by omega)
 have w3 := wrap_id (x := s * C.f + 1 + C.a) (by omega) (by omega)
 have w4 := wrap_id (x := s * C.f + 1 + C.a + (i : Int)) (by omega) (by omega)
 have c0 := h.xf
 have c2 := h.x2
 clear h
 go_enter Tryz.func15, Tryz.ntmps15
 go_wp2
 go_ret
 exact ⟨rfl, rfl⟩
def quiP (x off : Int) : List (List Int) := if x = 0 then [] else if x = 1 then [[]] else [[-numP x off]]
theorem quiet_P (f : Int) (t : Nat) (x : Int) (hx : 0 ≤ x) (hf : 0 ≤ (t : Int) * f) : rootC (turn (atL f t x)) = quiP x (t * f) := by
 unfold quiP
 by_cases h0 : x = 0
 · subst h0
   have e : atL f t 0 = 0 := by unfold atL; rw [if_pos (by decide)]
   rw [e, if_pos rfl]
   rfl
 · by_cases h1 : x = 1
   · subst h1
     have e : atL f t 1 = 1 := by unfold atL; rw [if_pos (by decide)]
     rw [e, if_neg (by decide), if_pos rfl]
     rfl
   · have e : atL f t x = x + 2 * (t * f) := by unfold atL; rw [if_neg (by omega)]
     rw [if_neg h0, if_neg h1, numP_at f t x (by omega)]
     generalize hy : atL f t x = y at *
     have hy2 : 2 ≤ y := by omega
     by_cases ho : odd y = true
     · have h3 : y % 2 = 1 := by simpa [odd] using ho
       have ho2 : odd (y - 1) = false := by
         unfold odd
         rw [show (y - 1) % 2 = 0 by omega]; rfl
       have e1 : turn y = y - 1 := by unfold turn; rw [if_pos ho]
       rw [e1]
       unfold rootC
       rw [if_neg (by omega), if_neg (by omega)]
       unfold numL
       rw [ho2, ho, if_neg (by simp), if_pos rfl, show (y - 1) / 2 = y / 2 by omega, Int.neg_neg]
     · have ho0 : odd y = false := by simpa using ho
       have h3 : y % 2 = 0 := by
         unfold odd at ho
         simp only [beq_iff_eq] at ho
         omega
       have ho2 : odd (y + 1) = true := by
         unfold odd
         rw [show (y + 1) % 2 = 1 by omega]; rfl
       have e1 : turn y = y + 1 := by unfold turn; rw [if_neg ho]
       rw [e1]
       unfold rootC
       rw [if_neg (by omega), if_neg (by omega)]
       unfold numL
       rw [ho2, ho0, if_pos rfl, if_neg (by simp), show (y + 1) / 2 = y / 2 by omega]
theorem Sm.addN {w1 w w' : World} {M : Nat} {v v' s : Value} {rs : List Row} {r : Row} {xs : List Int} (h : Sm w1 w M v rs s xs) (hk : Kp M w v w' v') (hr : ∀ g, s.ownBlock = some g → ∀ a, r.at' = some a → a.block ≠ g) : Sm w1 w' M v' (rs ++ [r]) s xs := by
 refine ⟨owns_kp h.own hk (fun g hg => ⟨(h.ap g hg).1, (h.ap g hg).2.1⟩), fun g hg => ?_⟩
 obtain ⟨h1, h2, h3⟩ := h.ap g hg
 have hlt := (h.own.lt g hg).2
 refine ⟨h1, (hk.blk g hlt h1 h2).2, fun q hq a ha => ?_⟩
 rcases List.mem_append.1 hq with k | k
 · exact h3 q k a ha
 · rw [List.mem_singleton.1 k] at ha
   exact hr g hg a ha
def Ps (w1 wr : World) (M : Nat) (V : Int) (L : List (List Int)) (ws : World) (s : Value) (xs : List Int) : Prop :=
 ∃ v rs, numsOf rs = L ∧ Cm wr M M v V rs ∧ Below M w1 wr ∧ Sm ws wr M v rs s xs ∧ M < ws.heap.size ∧ ws.heap.size ≤ wr.heap.size
theorem Ps.sc {w1 wr ws : World} {M : Nat} {V : Int} {L : List (List Int)} {s : Value} {xs : List Int} (h : Ps w1 wr M V L ws s xs) : Sc w1 wr M V L := by
 obtain ⟨v, rs, h1, h2, h3, _⟩ := h
 exact ⟨v, rs, h1, h2, h3⟩
theorem Ps.later {w1 wr w2 ws : World} {M : Nat} {V : Int} {L : List (List Int)} {s : Value} {xs : List Int} (h : Ps w1 wr M V L ws s xs) (hb : Below wr.heap.size wr w2) : Ps w1 w2 M V L ws s xs := by
 obtain ⟨v, rs, h1, h2, h3, h4, h5, h6⟩ := h
 exact ⟨v, rs, h1, h2.below hb, h3.trans (hb.mono (by omega)), h4.later hb, h5, Nat.le_trans h6 hb.size⟩
theorem ps_nil {w1 wr : World} {M : Nat} {V : Int} {L : List (List Int)} (h : Sc w1 wr M V L) : Ps w1 wr M V L wr (.slice none 0 0) [] := by
 have hM := h.lt
 obtain ⟨v, rs, h1, h2, h3⟩ := h
 exact ⟨v, rs, h1, h2, h3, sm_nil _ _ _ _ _, hM, Nat.le_refl _⟩
theorem Ps.setV {w1 wr ws : World} {M : Nat} {V : Int} {L : List (List Int)} {s : Value} {xs : List Int} (h : Ps w1 wr M V L ws s xs) (x : Int) : Ps w1 (wr.setCell ⟨M, 0, none⟩ (.int .i64 x)) M x L ws s xs := by
 obtain ⟨v, rs, h1, h2, h3, h4, h5, h6⟩ := h
 exact ⟨v, rs, h1, h2.setV x, h3.setCell (p := ⟨M, 0, none⟩) (Nat.le_refl _) _, h4.setV _, h5, by simpa using h6⟩
theorem addPs_any {w1 wr ws : World} {M : Nat} {V : Int} {L : List (List Int)} {s : Value} {xs : List Int} (h : Ps w1 wr M V L ws s xs) (hL : L.length ≤ 1000000000) (l : List Int) (c : Nat) (o : Obj) (hI : IntsAt (wr.alloc o) (some ⟨wr.heap.size, 0, none⟩) l) :
   Calls Tryz.prog 14 #[.slice (some ⟨wr.heap.size, 0, none⟩) l.length c, .pointer (some ⟨M, 0, none⟩)] (wr.alloc o) fun e w' => e = .returned (.tuple #[]) ∧ Ps w1 w' M V (L ++ [l]) ws s xs := by
 obtain ⟨v, rs, hn, hc, hb, hs, hm, hw⟩ := h
 have hal : Below wr.heap.size wr (wr.alloc o) := bal (Below.refl _ _) o
 refine (addQ_any M M v V rs (by rw [← numsOf_len, hn]; exact hL) l _ c _ (by simp; omega) (hc.below hal) hI (fun a ha => ?_)).mono ?_
 · cases ha
   refine ⟨by simp; omega, fun e => ?_, by simp, by simp; omega⟩
   have := (hc.row.lt _ e).2
   simp at this
 · rintro e w' ⟨rfl, v', r, hr, hc', hb', hk', hq⟩
   have hsz := hk'.sz
   refine ⟨rfl, v', rs ++ [r], by rw [numsOf_app, hn, hr], hc', (hb.trans (hal.mono (by omega))).trans hb', (hs.later hal).addN hk' (fun g hg a ha e => ?_), hm, by simp at hsz; omega⟩
   rw [hq] at ha
   cases ha
   have := (hs.own.lt g hg).2
   simp at e
   omega
theorem ps_push {w1 wr ws w' : World} {M : Nat} {V y : Int} {L : List (List Int)} {s : Value} {xs : List Int} {p : Option Addr} {c : Nat} (h : Ps w1 wr M V L ws s xs)
   (ho : w'.ownsRow ws.heap.size 3 1 (.slice p (xs.length + 1) c) (xs.length + 1) ((xs ++ [y]).map (Value.int .i64))) (hg : (wr.alloc (.cells #[.int .i64 y] 3)).grownBy w' s.ownBlock) (hat : Value.ownBlock (.slice p (xs.length + 1) c) = s.ownBlock ∨ Value.ownBlock (.slice p (xs.length + 1) c) = some (wr.heap.size + 1)) :
   Ps w1 w' M V L ws (.slice p (xs.length + 1) c) (xs ++ [y]) := by
 obtain ⟨v, rs, hn, hc, hb, hs, hm, hw⟩ := h
 have hal : Below wr.heap.size wr (wr.alloc (.cells #[.int .i64 y] 3)) := bal (Below.refl _ _) _
 have hM := World.block_lt_of_cell? _ _ hc.c0
 simp only at hM
 have hbl : ∀ g, s.ownBlock = some g → ws.heap.size ≤ g := fun g e => (hs.own.lt g e).1
 have hsz := hg.size
 simp at hsz
 refine ⟨v, rs, hn, (hc.below hal).grown hg (fun e => (hs.ap M e).1 rfl) (fun g hv e => (hs.ap g e).2.1 hv) (fun r hr a ha e => (hs.ap _ e).2.2 r hr a ha rfl), (hb.trans (hal.mono (by omega))).grown hg (by simp; omega) (fun k hk => by have := hbl k hk; omega), ⟨by rw [List.length_append]; exact ho, fun g hg2 => ?_⟩, hm, by omega⟩
 rcases hat with e | e
 · exact hs.ap g (e ▸ hg2)
 · rw [e] at hg2
   cases hg2
   refine ⟨by omega, fun e2 => ?_, fun r hr a ha => ?_⟩
   · have := (hc.row.lt _ e2).2; omega
   · have := (hc.far r hr a ha).2.2.1; omega
end Go.Proofs.YtmambfdimeeijaaGreatDoor

namespace Go.Proofs.YtmambfdimeeijaaGreatDoor
open Go.RowKit Go.Maps Go.WideMaps
set_option maxRecDepth 100000
section
set_option maxHeartbeats 16000000 in
theorem st_diff {code : Code} (hcode : code = ((Tryz.f7.body).bind (findSeq 58)).getD .skip) {r0 r5 r6 r7 r13 r14 r15 r16 r17 r18 r19 r20 r21 r22 r23 r24 r25 r26 r27 r28 r29 r30 r31 r32 r33 r34 r35 r36 r37 r38 r39 r40 r41 r42 r43 r44 r45 r46 r47 r48 r49 r50 r51 r52 r53 r54 r55 r56 r57 r58 r59 r60 r61 r62 r63 r64 r65 r66 r67 r68 r69 r70 r71 r72 r73 r74 r75 r76 r77 r78 r79 r80 r81 r82 r83 r84 r85 r86 r87 r88 r89 r90 r91 r92 r93 r94 r95 r96 r97 r98 r99 r100 r101 r102 r103 r104 r105 r106 r107 r108 r109 r110 r111 r112 r113 r114 r115 r116 r117 r118 r119 r120 r121 r122 r123 r124 r125 r126 r127 r128 r129 r130 r131 r132 r133 r134 r135 r136 r137 r138 r139 r140 r141 r142 r143 r144 r145 r146 r147 r148 r149 r150 r151 r152 r153 r154 r155 r156 r157 r158 r159 r160 r161 r162 r163 r164 r165 r166 r167 r168 r169 r170 r171 r172 r173 r174 r175 r176 r177 r178 r179 r180 r181 r182 r183 r184 r185 r186 r187 r188 r189 r190 r191 r192 r193 r194 r195 r196 r197 r198 r199 r200 r201 r202 r203 r204 r205 r206 r207 r208 r209 r210 r211 r212 r213 r214 r215 r216 r217 r218 r219 r220 r221 r222 r223 r224 r225 r226 r227 r228 r229 r230 r231 r232 r233 r234 r235 r236 r237 r238 r239 r240 r241 r242 r243 r244 r245 r246 r247 r248 r249 r250 r251 r252 r253 r254 r255 r256 r257 r258 r259 r260 r261 r262 r263 r264 r265 r266 r267 r268 r269 r270 r271 r272 r273 r274 r275 r276 r277 r278 r279 r280 r281 r282 r283 r284 r285 r286 r287 r288 r289 r290 r291 r292 r293 r294 r295 r296 r297 r298 r299 r300 r301 r302 r303 r304 r305 r306 r307 r308 r309 r310 r311 r312 r313 r314 r315 r316 r317 : Value} (w w1 : World) (B G F M : Nat) (C : Ci) (last : Nat) (begun : Bool) (V : Int) (L : List (List Int)) (wc : World) (HX : Hid (Fx w w1 B G F M C last)) (HS : Hid (Sc w1 wc M V L)) (HL : Hid (L.length ≤ 850000000)) (HV : Hid (0 ≤ V ∧ V ≤ 200000)) :
   Code.wp Tryz.prog code (bodyPost Tryz.prog Tryz.f7 (StO w (V + (cntP last (last + 1) : Int) * C.s) (L ++ diffL C last V))) ⟨#[r0, .int .i64 last, .bool begun, .bool true, .pointer (some ⟨B, 0, none⟩), r5, r6, r7, .pointer (some ⟨G, 0, none⟩), .pointer (some ⟨F, 0, none⟩), .pointer (some ⟨M, 0, none⟩), .func (.func 14) #[] #[.pointer (some ⟨M, 0, none⟩)], .func (.func 15) #[] #[.pointer (some ⟨F, 0, none⟩), .pointer (some ⟨B, 0, none⟩)], r13, r14, r15, r16, r17, r18, r19, r20, r21, r22, r23, r24, r25, r26, r27, r28, r29, r30, r31, r32, r33, r34, r35, r36, r37, r38, r39, r40, r41, r42, r43, r44, r45, r46, r47, r48, r49, r50, r51, r52, r53, r54, r55, r56, r57, r58, r59, r60, r61, r62, r63, r64, r65, r66, r67, r68, r69, r70, r71, r72, r73, r74, r75, r76, r77, r78, r79, r80, r81, r82, r83, r84, r85, r86, r87, r88, r89, r90, r91, r92, r93, r94, r95, r96, r97, r98, r99, r100, r101, r102, r103, r104, r105, r106, r107, r108, r109, r110, r111, r112, r113, r114, r115, r116, r117, r118, r119, r120, r121, r122, r123, r124, r125, r126, r127, r128, r129, r130, r131, r132, r133, r134, r135, r136, r137, r138, r139, r140, r141, r142, r143, r144, r145, r146, r147, r148, r149, r150, r151, r152, r153, r154, r155, r156, r157, r158, r159, r160, r161, r162, r163, r164, r165, r166, r167, r168, r169, r170, r171, r172, r173, r174, r175, r176, r177, r178, r179, r180, r181, r182, r183, r184, r185, r186, r187, r188, r189, r190, r191, r192, r193, r194, r195, r196, r197, r198, r199, r200, r201, r202, r203, r204, r205, r206, r207, r208, r209, r210, r211, r212, r213, r214, r215, r216, r217, r218, r219, r220, r221, r222, r223, r224, r225, r226, r227, r228, r229, r230, r231, r232, r233, r234, r235, r236, r237, r238, r239, r240, r241, r242, r243, r244, r245, r246, r247, r248, r249, r250, r251, r252, r253, r254, r255, r256, r257, r258, r259, r260, r261, r262, r263, r264, r265, r266, r267, r268, r269, r270, r271, r272, r273, r274, r275, r276, r277, r278, r279, r280, r281, r282, r283, r284, r285, r286, r287, r288, r289, r290, r291, r292, r293, r294, r295, r296, r297, r298, r299, r300, r301, r302, r303, r304, r305, r306, r307, r308, r309, r310, r311, r312, r313, r314, r315, r316, r317], []⟩ wc := by
 subst hcode
 conv => arg 2; whnf
 dsimp only
 have hok := HX.out.ok
 have hla := hok.la
 have hff := hok.f0
 have ha0 := hok.a0
 have hs0 := hok.s0
 have ha1 : C.a ≤ 1000 := by have := hok.sm; have := hok.i1; omega
 have hs1 : C.s ≤ 1000 := by have := hok.sm; have := hok.i1; omega
 have HTF : Hid (∀ t : Nat, t ≤ last → 0 ≤ (t : Int) * C.f ∧ (t : Int) * C.f + C.f ≤ 200000) := fun t ht => hok.tf ht
 obtain ⟨n, hsn⟩ : ∃ n : Nat, C.s.toNat = n := ⟨_, rfl⟩
 have hsi : C.s = (n : Int) := by omega
 have hN : cntP last (last + 1) ≤ 820 := by
   have h1 := cntP_all last
   have : last * (last + 1) ≤ 40 * 41 := Nat.mul_le_mul hla (by omega)
   omega
 have HCM : Hid (∀ t, t ≤ last → cntP last t + (last - t) ≤ 820) := fun t ht => Nat.le_trans (cntP_mono last (show t + 1 ≤ last + 1 by omega)) hN
 have HCS : Hid (∀ t, cntP last (t + 1) = cntP last t + (last - t)) := fun _ => rfl
 have HRS : Hid (∀ t, stepsL (rowsT C last V) (t + 1) = stepsL (rowsT C last V) t ++ rowT C last V t (last - t)) := fun t => stepsL_succ _ t
 have HPS : Hid (∀ t j, rowT C last V t (j + 1) = rowT C last V t j ++ (stepsL (differC C t (t + 1 + j) (V + ((cntP last t + j : Nat) : Int) * C.s)) n ++ [someV (V + ((cntP last t + j : Nat) : Int) * C.s) n])) := fun t j => by
   show stepsL _ (j + 1) = _
   rw [stepsL_succ]
   show _ ++ differT _ _ _ _ = _
   unfold differT
   rw [hsn]
   rfl
 have HLN : Hid (∀ t j, t ≤ last → j ≤ last - t → (L ++ stepsL (rowsT C last V) t ++ rowT C last V t j).length ≤ 900000000) := fun t j ht hj => by
   have h1 := HL.out
   have h2 := HCM.out t ht
   have h3 : (cntP last t + j) * (2 * C.s.toNat + 1) ≤ 820 * 2001 := Nat.mul_le_mul (by omega) (by omega)
   rw [Nat.add_mul] at h3
   simp only [List.length_append, rows_len, rowT_len]
   omega
 have HVB : Hid (∀ t j, t ≤ last → j ≤ last - t → 0 ≤ V + ((cntP last t + j : Nat) : Int) * C.s ∧ V + ((cntP last t + j : Nat) : Int) * C.s ≤ 1100000) := fun t j ht hj => by
   have h2 := HCM.out t ht
   have h3 : 0 ≤ ((cntP last t + j : Nat) : Int) * C.s := Int.mul_nonneg (by omega) hs0
   have h4 : ((cntP last t + j : Nat) : Int) * C.s ≤ 820 * 1000 := Int.mul_le_mul (by omega) hs1 hs0 (by omega)
   have := HV.out
   omega
 have HVS : Hid (∀ m : Nat, V + ((m + 1 : Nat) : Int) * C.s = V + (m : Int) * C.s + (n : Int)) := fun m => by
   rw [Int.natCast_add, Int.add_mul, ← hsi]; simp; omega
 have HSI := hide hsi
 clear hok hN hsi
 go_upto_block 20 with fail
 go_cut [] from 24 to 316 (fun wx => Hid (Sc w1 wx M (V + (cntP last (last + 1) : Int) * C.s) (L ++ diffL C last V)))
 case rest =>
   clear HTF HCM HCS HRS HPS HLN HVB HVS
   go_step
   obtain ⟨pz, nz, cz, m0, m1, g0, g1, f0, f1, gh, HO⟩ := stO_of HX.out hcut
   have GH := hide gh
   have HOO := hide HO
   clear gh HO
   go_wp2
   refine bodyPost_ret (results_cell_row rfl _ _ G 30 _ _ _ rfl GH.out Tryz.underlying30 rfl (by kernel_rfl)) rfl ?_
   exact HOO.out
 case first =>
 go_wp2_with fail
 go_loopw [24] (fun i wr => ∃ t : Nat, t ≤ last + 1 ∧ i = .int .i64 t ∧ Hid (Sc w1 wr M (V + (cntP last t : Int) * C.s) (L ++ stepsL (rowsT C last V) t))) (fun i _ => last + 1 - (intOf i).toNat)
 case atStart => exact ⟨0, Nat.zero_le _, rfl, by simpa [stepsL, Hid, cntP] using HS.out⟩
 case round =>
   obtain ⟨t, ht, rfl, HR⟩ := hrel
   by_cases hlt : t ≤ last
   · have hti : (t : Int) ≤ (last : Int) := by omega
     have wt := wrap_id (x := (t : Int) + 1) (by omega) (by omega)
     have htf := HTF.out t hlt
     go_wp2
     go_loopw [25] (fun i wr => ∃ j : Nat, ∃ s : Int, j ≤ last - t ∧ Hid (AtU t j s) ∧ i = .int .i64 s ∧ Hid (Sc w1 wr M (V + ((cntP last t + j : Nat) : Int) * C.s) (L ++ stepsL (rowsT C last V) t ++ rowT C last V t j))) (fun i _ => last + 1 - (intOf i).toNat)
     case atStart => exact ⟨0, (t : Int) + 1, Nat.zero_le _, by unfold Hid AtU; simp, rfl, by simpa [rowT, stepsL, Hid] using HR.out⟩
     case round =>
       obtain ⟨j, s, hj, HSA, rfl, HR2⟩ := hrel
       have hs2 : s = ((t + 1 + j : Nat) : Int) := HSA.out
       have hsb : 1 ≤ s ∧ s ≤ 42 := by omega
       have HSS := hide hs2
       by_cases hjl : j < last - t
       · have hsl : s ≤ (last : Int) := by omega
         have hsf : 0 ≤ s * C.f ∧ s * C.f + C.f ≤ 200000 := by rw [hs2]; exact HTF.out (t + 1 + j) (by omega)
         have hlb := HLN.out t j hlt hj
         have hvb := HVB.out t j hlt hj
         have HPJ := hide (HPS.out t j)
         have HVJ := hide (HVS.out (cntP last t + j))
         have HDS : Hid (∀ k, stepsL (differC C t (t + 1 + j) (V + ((cntP last t + j : Nat) : Int) * C.s)) (k + 1) = stepsL (differC C t (t + 1 + j) (V + ((cntP last t + j : Nat) : Int) * C.s)) k ++ [[-(V + ((cntP last t + j : Nat) : Int) * C.s + k + 1), (t : Int) * C.f + 1 + C.a + k, s * C.f + 1 + C.a + k], [-(V + ((cntP last t + j : Nat) : Int) * C.s + k + 1), -((t : Int) * C.f + 1 + C.a + k), -(s * C.f + 1 + C.a + k)]]) := fun k => by
           rw [differ_step, (stL_num C.f C.a t k htf.1 ha0).1, (stL_num C.f C.a (t + 1 + j) k (HTF.out _ (by omega)).1 ha0).1, ← hs2]
         have HDL : Hid (∀ k, (stepsL (differC C t (t + 1 + j) (V + ((cntP last t + j : Nat) : Int) * C.s)) k).length = k * 2) := fun k => differ_len C t (t + 1 + j) _ k
         obtain ⟨Vj, HVE⟩ : ∃ Vj : Int, Hid (V + ((cntP last t + j : Nat) : Int) * C.s = Vj) := ⟨_, rfl⟩
         rw [HVE.out] at HPJ HVJ HDS HDL HR2 hvb
         generalize hLJ : L ++ stepsL (rowsT C last V) t ++ rowT C last V t j = LJ at *
         have HLJ := hide hLJ
         clear hLJ
         generalize stepsL (differC C t (t + 1 + j) Vj) = DK at *
         have HPN := hide (ps_nil HR2.out)
         clear hs2 HR2
         generalize wr = w5 at *
         go_wp2
         go_loopw [26, 27] (fun q i wr => ∃ k : Nat, k ≤ n ∧ i = .int .i64 k ∧ Hid (Ps w1 wr M (Vj + k) (LJ ++ DK k) w5 q (someV Vj k))) (fun _ i _ => n - (intOf i).toNat)
         case atStart => exact ⟨0, Nat.zero_le _, rfl, by have h0 : DK 0 = [] := List.eq_nil_of_length_eq_zero (by rw [HDL.out]); rw [h0]; simpa [someV, Hid] using HPN.out⟩
         case round =>
           obtain ⟨k, hk, rfl, HP⟩ := hrel
           have fy := HX.out.at HP.out.sc.bel
           have y3 := fy.x3
           rw [HSI.out] at y3
           clear fy
           by_cases hlk : k < n
           · have hki : (k : Int) < (n : Int) := by omega
             obtain ⟨nv, HNV⟩ : ∃ nv : Int, Hid (Vj + (k : Int) + 1 = nv) := ⟨_, rfl⟩
             have hnv : 0 ≤ nv ∧ nv ≤ 1200000 := by have := HNV.out; omega
             have wnv := wrap_id (x := Vj + (k : Int) + 1) (by omega) (by omega)
             have HDK := hide (HDS.out k)
             rw [HNV.out] at HDK wnv
             have hll : (LJ ++ DK k).length ≤ 1000000000 := by rw [List.length_append, HDL.out]; omega
             have HSK : Hid (someV Vj (k + 1) = someV Vj k ++ [nv]) := by unfold Hid; rw [someV_succ, HNV.out]
             obtain ⟨c0, f0⟩ : wr.cell? ⟨M, 0, none⟩ = some (.int .i64 (Vj + (k : Int))) ∧ wr.frozen? ⟨M, 0, none⟩ = false := by
               obtain ⟨v, rs, _, hc, _⟩ := HP.out
               exact ⟨hc.c0, hc.f0⟩
             rw [← HNV.out] at wnv
             have HP6 : Hid (Ps w1 (wr.setCell ⟨M, 0, none⟩ (.int .i64 nv)) M nv (LJ ++ DK k) w5 u26 (someV Vj k)) := HP.out.setV nv
             have d0 : (wr.setCell ⟨M, 0, none⟩ (.int .i64 nv)).cell? ⟨M, 0, none⟩ = some (.int .i64 nv) := World.cell?_setCell_same wr _ _ c0
             obtain ⟨a, HA⟩ : ∃ a : Int, Hid ((t : Int) * C.f + 1 + C.a + k = a) := ⟨_, rfl⟩
             obtain ⟨b, HB⟩ : ∃ b : Int, Hid (s * C.f + 1 + C.a + k = b) := ⟨_, rfl⟩
             have hab : 0 ≤ a ∧ a ≤ 300000 ∧ 0 ≤ b ∧ b ≤ 300000 := by have := HA.out; have := HB.out; omega
             rw [HA.out, HB.out] at HDK
             have wn := wrap_id (x := -nv) (by omega) (by omega)
             have wa := wrap_id (x := -a) (by omega) (by omega)
             have wb := wrap_id (x := -b) (by omega) (by omega)
             have HBI : Hid (∀ (q x : Int), (q = (t : Int) ∧ x = a) ∨ (q = s ∧ x = b) → ∀ u, Below M w1 u → Calls Tryz.prog 15 #[.int .i64 q, .int .i64 k, .pointer (some ⟨F, 0, none⟩), .pointer (some ⟨B, 0, none⟩)] u fun e w' => e = .returned (.int .i64 x) ∧ w' = u) := fun q x hq u hu => by
               rcases hq with ⟨rfl, rfl⟩ | ⟨rfl, rfl⟩
               · rw [← HA.out]; exact bitJ_any (HX.out.at hu) (t : Int) k htf.1 (by omega) ha0 ha1 (by omega)
               · rw [← HB.out]; exact bitJ_any (HX.out.at hu) q k hsf.1 (by omega) ha0 ha1 (by omega)
             clear HP
             go_upto_region 69 with fail
             rw [HNV.out]
             generalize wr.setCell ⟨M, 0, none⟩ (.int .i64 nv) = w6 at *
             clear c0 f0 wnv y3
             have hbd : Below w6.heap.size w6 w6.drew := (Below.refl _ w6).drew
             have HPD := hide (HP6.out.later hbd)
             have dd : w6.drew.cell? ⟨M, 0, none⟩ = some (.int .i64 nv) := cell_later hbd d0
             go_region_held3 (fun w' => w'.cell? ⟨M, 0, none⟩ = some (.int .i64 nv))
               (first | exact d7 | exact dd | exact d0 | exact past1 dd _ | go_keep)
               (first
                 | (go_at_call 14; refine (addPs_any HPD.out hll [-nv, a, b] 3 (.cells #[.int .i64 (-nv), .int .i64 a, .int .i64 b] 3) (ints_three (-nv) a b)).mono ?_; rintro e w7 ⟨rfl, hp7⟩; have HP7 := hide hp7; obtain ⟨v7, rs7, _, hc7, _⟩ := hp7; have d7 := hc7.c0)
                 | (go_at_call 15; refine (HBI.out _ _ (by first | exact Or.inl ⟨rfl, rfl⟩ | exact Or.inr ⟨rfl, rfl⟩) _ HPD.out.sc.bel).mono ?_; rintro e wu ⟨rfl, rfl⟩))
             all_goals
               rename_i hHeld
               clear hHeld HPD HP6 hbd dd d0
               have hll2 : (LJ ++ DK k ++ [[-nv, a, b]]).length ≤ 1000000000 := by rw [List.length_append, List.length_append, HDL.out]; simp only [List.length_cons, List.length_nil]; omega
               have hbd : Below w7.heap.size w7 w7.drew := (Below.refl _ w7).drew
               have HPD := hide (HP7.out.later hbd)
               have dd : w7.drew.cell? ⟨M, 0, none⟩ = some (.int .i64 nv) := cell_later hbd d7
               go_wp2
               go_region_held3 (fun w' => w'.cell? ⟨M, 0, none⟩ = some (.int .i64 nv))
                 (first | exact d8 | exact dd | exact d7 | exact past1 dd _ | go_keep)
                 (first
                   | (go_at_call 14; refine (addPs_any HPD.out hll2 [-nv, -a, -b] 3 (.cells #[.int .i64 (-nv), .int .i64 (-a), .int .i64 (-b)] 3) (ints_three (-nv) (-a) (-b))).mono ?_; rintro e w8 ⟨rfl, hp8⟩; have HP8 := hide hp8; obtain ⟨v8, rs8, _, hc8, _⟩ := hp8; have d8 := hc8.c0)
                   | (go_at_call 15; refine (HBI.out _ _ (by first | exact Or.inl ⟨rfl, rfl⟩ | exact Or.inr ⟨rfl, rfl⟩) _ HPD.out.sc.bel).mono ?_; rintro e wu ⟨rfl, rfl⟩))
             all_goals
               rename_i hHeld
               have hown8 : ∃ ps cs, u26 = .slice ps k cs ∧ w8.ownsRow w5.heap.size 3 1 (.slice ps k cs) k ((someV Vj k).map (Value.int .i64)) ∧ w5.heap.size ≤ w8.heap.size := by
                 obtain ⟨_, _, _, _, _, hsm, _, hwz⟩ := HP8.out
                 obtain ⟨ps, cs, e, _, _⟩ := owns_ints hsm.own
                 have ho := hsm.own
                 rw [someV_len] at e ho
                 exact ⟨ps, cs, e, e ▸ ho, hwz⟩
               obtain ⟨ps, cs, rfl, ho8, hwz8⟩ := hown8
               obtain ⟨p9, c9, w9, hrun9, ho9, hg9, hat9⟩ := own_append_at (y := nv) ho8 hwz8 (by omega)
               have hp9 := ps_push (p := p9) (c := c9) HP8.out (by rw [someV_len]; exact ho9) (by exact hg9) (by rw [someV_len]; exact hat9)
               rw [someV_len] at hp9
               have HP9 : Hid (Ps w1 w9 M (Vj + ((k + 1 : Nat) : Int)) (LJ ++ DK (k + 1)) w5 (.slice p9 (k + 1) c9) (someV Vj (k + 1))) := by
                 unfold Hid
                 rw [HSK.out, HDK.out, show Vj + ((k + 1 : Nat) : Int) = nv by have := HNV.out; omega]
                 simpa only [List.append_assoc, List.cons_append, List.nil_append] using hp9
               clear hHeld ho8 hwz8 ho9 hg9 hat9 hp9 HP8 HP7 HPD hbd dd d7 wa wb wn HBI
               go_wp2_with (at_builtin; refine Lib.wpList_append_run _ rfl _ _ _ _ rfl _ _ rfl rfl _ _ hrun9 ?_)
               go_roundw
               case rel => exact ⟨k + 1, by omega, by go_num, HP9⟩
               case measure => simp [intOf]; omega
           · obtain rfl : k = n := by omega
             have hki : ¬ (k : Int) < (k : Int) := by omega
             obtain ⟨v7, rs7, hn7, hc7, hbm7, hsm7, hm7, hw7⟩ := HP.out
             obtain ⟨ps, cs, hu, hil, _⟩ := owns_ints hsm7.own
             have hap7 := hsm7.ap
             have hlt7 := hsm7.own.lt
             rw [someV_len] at hu
             subst hu
             have HAL := hide (bal (Below.refl wr.heap.size wr) (.cells #[.slice ps k cs] 25))
             obtain ⟨pv, cv, rfl, _⟩ := owns_rows hc7.row
             have hM7 := World.block_lt_of_cell? _ _ hc7.c1
             simp only at hM7
             have hsum : rs7.length + [(⟨ps, someV Vj k, cs⟩ : Row)].length ≤ 2000000000 := by
               have h1 : rs7.length = (LJ ++ DK k).length := by rw [← hn7, numsOf_len]
               rw [List.length_append, HDL.out] at h1
               simp only [List.length_cons, List.length_nil]
               omega
             have hap := sc_rows (w1 := w1) (p := some ⟨wr.heap.size, 0, none⟩) (cap := 1) (rs2 := [⟨ps, someV Vj k, cs⟩]) (hc7.below HAL.out) (hbm7.trans (HAL.out.mono (by omega))) hsum
               (fun _ => ⟨_, _, rfl, fun i hi => by
                 match i, hi with
                 | 0, _ => simp [go_sem, Row.v, someV_len]⟩) (fun r hr => by simp at hr; subst hr; exact hil.later HAL.out) (fun r hr a ha => by
                 simp at hr
                 subst hr
                 simp only at ha
                 have h1 := hap7 a.block (by subst ha; rfl)
                 have h2 := hlt7 a.block (by subst ha; rfl)
                 exact ⟨h1.1, fun e => h1.2.1 e, by simp; omega, by omega⟩)
             obtain ⟨p9, n9, c9, w9, hrun9, k1, kf, hsc9, hbm9⟩ := hap
             have HS9 : Hid (Sc w1 (w9.setCell ⟨M, 1, none⟩ (.slice p9 n9 c9)) M (V + ((cntP last t + (j + 1) : Nat) : Int) * C.s) (L ++ stepsL (rowsT C last V) t ++ rowT C last V t (j + 1))) := by
               unfold Hid
               rw [HPJ.out, ← List.append_assoc, HLJ.out, show V + ((cntP last t + (j + 1) : Nat) : Int) * C.s = Vj + (k : Int) from HVJ.out]
               have h9 := hsc9
               rw [hn7] at h9
               simpa only [List.append_assoc, numsOf, List.map_cons, List.map_nil] using h9
             have m1 := hc7.c1
             clear hsc9 hbm9 hc7 hn7 hbm7 hil hsm7 hap7 hlt7 HP
             simp only [List.length_cons, List.length_nil, Nat.zero_add] at hrun9
             go_upto_region 63 with (at_builtin; refine Lib.wpList_append_run _ rfl _ _ _ _ rfl _ _ rfl rfl _ _ hrun9 ?_)
             generalize w9.setCell ⟨M, 1, none⟩ (.slice p9 n9 c9) = wz at *
             clear hrun9 k1 kf m1 y3
             go_wp2
             go_roundw
             case rel => exact ⟨j + 1, s + 1, by omega, by unfold Hid AtU; rw [HSS.out]; omega, by go_num, HS9⟩
             case measure => simp [intOf]; omega
       · obtain rfl : j = last - t := by omega
         have hsl : ¬ s ≤ (last : Int) := by omega
         have HS9 : Hid (Sc w1 wr M (V + (cntP last (t + 1) : Int) * C.s) (L ++ stepsL (rowsT C last V) (t + 1))) := by unfold Hid; rw [HCS.out, HRS.out, ← List.append_assoc]; exact HR2.out
         clear HR2 hs2
         go_wp2
         go_roundw
         case rel => exact ⟨t + 1, by omega, by go_num, HS9⟩
         case measure => simp [intOf]; omega
   · obtain rfl : t = last + 1 := by omega
     have hnt : ¬ ((last + 1 : Nat) : Int) ≤ (last : Int) := by omega
     have HS9 : Hid (Sc w1 wr M (V + (cntP last (last + 1) : Int) * C.s) (L ++ diffL C last V)) := HR.out
     go_wp2
     go_meet
     exact HS9
end
end Go.Proofs.YtmambfdimeeijaaGreatDoor
