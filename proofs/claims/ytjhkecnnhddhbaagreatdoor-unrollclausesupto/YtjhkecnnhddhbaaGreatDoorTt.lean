/- Clauses: done, the same, and what they are. -/
import Derived.Test.YtjhkecnnhddhbaaGreatDoorTr
import Derived.Test.YtjhkecnnhddhbaaGreatDoorTs
import Derived.Laws.ResultCell
namespace Go.Proofs.YtjhkecnnhddhbaaGreatDoor
open Go.RowKit Go.Maps Go.WideMaps
set_option maxRecDepth 100000
set_option autoImplicit false

set_option maxHeartbeats 4000000 in
theorem doneC_ok (V : Int) (p : Option Addr) (cap : Nat) (rs : List Row) (hl : rs.length ≤ 8796093022208) (hin : ∀ r ∈ rs, r.ns.length ≤ maxLen) (hE : chkC V (numsOf rs) = 0) (w : World) (hC : ClAt w p rs) :
    Calls Tryz.prog 6 #[cval V p rs.length cap] w fun e w' => e = .returned (.tuple #[cval V p rs.length cap, .int .i64 0]) ∧ Below w.heap.size w w' := by
  have hB0 : Below w.heap.size w ((w.alloc (.cells #[.int .i64 V, .slice p rs.length cap] 30)).alloc (.cells #[.int .i64 0, .slice none 0 0] 30)) := bal (bal (Below.refl _ _) _) _
  have hG : ((w.alloc (.cells #[.int .i64 V, .slice p rs.length cap] 30)).alloc (.cells #[.int .i64 0, .slice none 0 0] 30)).heap[w.heap.size + 1]? = some (.cells #[.int .i64 0, .slice none 0 0] 30) := alloc_at (by simp)
  have x0 : ((w.alloc (.cells #[.int .i64 V, .slice p rs.length cap] 30)).alloc (.cells #[.int .i64 0, .slice none 0 0] 30)).cell? ⟨w.heap.size, 0, none⟩ = some (.int .i64 V) := by simp [go_sem]
  have x1 : ((w.alloc (.cells #[.int .i64 V, .slice p rs.length cap] 30)).alloc (.cells #[.int .i64 0, .slice none 0 0] 30)).cell? ⟨w.heap.size, 1, none⟩ = some (.slice p rs.length cap) := by simp [go_sem]
  have HC := hide (checkClauses_any V p cap rs hl hin _ (hC.later hB0))
  rw [hE] at HC
  have HB0 := hide hB0
  have HG := hide hG
  clear hB0 hC hG
  go_enter Tryz.func6, Tryz.ntmps6
  go_wp2_with fail
  generalize (w.alloc (.cells #[.int .i64 V, .slice p rs.length cap] 30)).alloc (.cells #[.int .i64 0, .slice none 0 0] 30) = w1 at *
  have hGl : w.heap.size + 1 < w1.heap.size := (Array.getElem?_eq_some_iff.1 HG.out).1
  refine HC.out.mono ?_
  rintro e w2 ⟨rfl, hb2⟩
  have y0 := cell_later hb2 x0
  have y1 := cell_later hb2 x1
  have HB2 := hide (bthen HB0.out hb2)
  have HR := hide (r30 ((hb2.block _ hGl).trans HG.out))
  obtain ⟨g0, g1, f0, f1⟩ := HR.out.1
  clear hb2 x0 x1 HC
  go_wp2
  refine bodyPost_ret (res30 rfl _ rfl (HR.out.2 _ _)) rfl ?_
  exact ⟨rfl, (HB2.out.setCell (p := ⟨w.heap.size + 1, 0, none⟩) (by simp) _).setCell (p := ⟨w.heap.size + 1, 1, none⟩) (by simp) _⟩
set_option maxHeartbeats 4000000 in
theorem doneC_no (V : Int) (p : Option Addr) (cap : Nat) (rs : List Row) (hl : rs.length ≤ 8796093022208) (hin : ∀ r ∈ rs, r.ns.length ≤ maxLen) (hE : chkC V (numsOf rs) ≠ 0) (w : World) (hC : ClAt w p rs) :
    Calls Tryz.prog 6 #[cval V p rs.length cap] w fun e w' => e = .returned (.tuple #[cval 0 none 0 0, .int .i64 (chkC V (numsOf rs))]) ∧ Below w.heap.size w w' := by
  have hB0 : Below w.heap.size w ((w.alloc (.cells #[.int .i64 V, .slice p rs.length cap] 30)).alloc (.cells #[.int .i64 0, .slice none 0 0] 30)) := bal (bal (Below.refl _ _) _) _
  have hG : ((w.alloc (.cells #[.int .i64 V, .slice p rs.length cap] 30)).alloc (.cells #[.int .i64 0, .slice none 0 0] 30)).heap[w.heap.size + 1]? = some (.cells #[.int .i64 0, .slice none 0 0] 30) := alloc_at (by simp)
  have x0 : ((w.alloc (.cells #[.int .i64 V, .slice p rs.length cap] 30)).alloc (.cells #[.int .i64 0, .slice none 0 0] 30)).cell? ⟨w.heap.size, 0, none⟩ = some (.int .i64 V) := by simp [go_sem]
  have x1 : ((w.alloc (.cells #[.int .i64 V, .slice p rs.length cap] 30)).alloc (.cells #[.int .i64 0, .slice none 0 0] 30)).cell? ⟨w.heap.size, 1, none⟩ = some (.slice p rs.length cap) := by simp [go_sem]
  have HC := hide (checkClauses_any V p cap rs hl hin _ (hC.later hB0))
  have hEb : (chkC V (numsOf rs) != 0) = true := by simpa using hE
  have HB0 := hide hB0
  have HG := hide hG
  clear hB0 hC hG hE
  generalize chkC V (numsOf rs) = E at *
  go_enter Tryz.func6, Tryz.ntmps6
  go_wp2_with fail
  generalize (w.alloc (.cells #[.int .i64 V, .slice p rs.length cap] 30)).alloc (.cells #[.int .i64 0, .slice none 0 0] 30) = w1 at *
  have hGl : w.heap.size + 1 < w1.heap.size := (Array.getElem?_eq_some_iff.1 HG.out).1
  refine HC.out.mono ?_
  rintro e w2 ⟨rfl, hb2⟩
  have HB2 := hide (bthen HB0.out hb2)
  have HR := hide (r30 ((hb2.block _ hGl).trans HG.out))
  obtain ⟨g0, g1, f0, f1⟩ := HR.out.1
  clear hb2 x0 x1 HC
  go_wp2
  refine bodyPost_ret (res30 rfl _ rfl (HR.out.2 _ _)) rfl ?_
  exact ⟨rfl, (HB2.out.setCell (p := ⟨w.heap.size + 1, 0, none⟩) (by simp) _).setCell (p := ⟨w.heap.size + 1, 1, none⟩) (by simp) _⟩

set_option maxHeartbeats 4000000 in
theorem sameCl_any (V : Int) (p q : Option Addr) (cp cq : Nat) (l r : List Row) (hl : l.length ≤ 9000000000000000000) (hr : r.length ≤ 9000000000000000000) (hwl : ∀ x ∈ l, x.ns.length ≤ maxLen) (hwr : ∀ x ∈ r, x.ns.length ≤ maxLen) (hn : numsOf l = numsOf r) (w : World) (hP : ClAt w p l) (hQ : ClAt w q r) :
    Calls Tryz.prog 31 #[cval V p l.length cp, cval V q r.length cq] w fun e w' => e = .returned (.bool true) ∧ Below w.heap.size w w' := by
  have hB0 : Below w.heap.size w ((w.alloc (.cells #[.int .i64 V, .slice p l.length cp] 30)).alloc (.cells #[.int .i64 V, .slice q r.length cq] 30)) := bal (bal (Below.refl _ _) _) _
  have x0 : ((w.alloc (.cells #[.int .i64 V, .slice p l.length cp] 30)).alloc (.cells #[.int .i64 V, .slice q r.length cq] 30)).cell? ⟨w.heap.size, 0, none⟩ = some (.int .i64 V) := by simp [go_sem]
  have x1 : ((w.alloc (.cells #[.int .i64 V, .slice p l.length cp] 30)).alloc (.cells #[.int .i64 V, .slice q r.length cq] 30)).cell? ⟨w.heap.size, 1, none⟩ = some (.slice p l.length cp) := by simp [go_sem]
  have y0 : ((w.alloc (.cells #[.int .i64 V, .slice p l.length cp] 30)).alloc (.cells #[.int .i64 V, .slice q r.length cq] 30)).cell? ⟨w.heap.size + 1, 0, none⟩ = some (.int .i64 V) := by simp [go_sem]
  have y1 : ((w.alloc (.cells #[.int .i64 V, .slice p l.length cp] 30)).alloc (.cells #[.int .i64 V, .slice q r.length cq] 30)).cell? ⟨w.heap.size + 1, 1, none⟩ = some (.slice q r.length cq) := by simp [go_sem]
  have HL := hide (sameLists_any p q cp cq l r hl hr hwl hwr _ (hP.later hB0).rows (hQ.later hB0).rows (hP.later hB0).inn (hQ.later hB0).inn)
  rw [show decide (l.map Row.ns = r.map Row.ns) = true from decide_eq_true hn] at HL
  have HB0 := hide hB0
  clear hB0 hP hQ hn
  go_enter Tryz.func31, Tryz.ntmps31
  go_wp2_with fail
  generalize (w.alloc (.cells #[.int .i64 V, .slice p l.length cp] 30)).alloc (.cells #[.int .i64 V, .slice q r.length cq] 30) = w1 at *
  refine HL.out.mono ?_
  rintro e w2 ⟨rfl, hb2⟩
  have HB2 := hide (bthen HB0.out hb2)
  clear hb2 HL
  go_wp2
  go_ret
  exact ⟨rfl, HB2.out⟩

set_option maxHeartbeats 4000000 in
/-- Clauses are what is wanted. -/
theorem are_any (E V V2 : Int) (p q : Option Addr) (cp cq : Nat) (l r : List Row) (hl : l.length ≤ 9000000000000000000) (hr : r.length ≤ 9000000000000000000) (hwl : ∀ x ∈ l, x.ns.length ≤ maxLen) (hwr : ∀ x ∈ r, x.ns.length ≤ maxLen)
    (hno : E ≠ 0 → V = 0 ∧ numsOf l = []) (hok : E = 0 → V = V2 ∧ numsOf l = numsOf r) (w : World) (hP : ClAt w p l) (hQ : ClAt w q r) :
    Calls Tryz.prog 9 #[cval V p l.length cp, .int .i64 E, .int .i64 E, cval V2 q r.length cq] w fun e w' => e = .returned (.bool true) ∧ Below w.heap.size w w' := by
  have hB0 : Below w.heap.size w ((w.alloc (.cells #[.int .i64 V, .slice p l.length cp] 30)).alloc (.cells #[.int .i64 V2, .slice q r.length cq] 30)) := bal (bal (Below.refl _ _) _) _
  by_cases hE : E = 0
  · obtain ⟨rfl, hn⟩ := hok hE
    subst hE
    have HL := hide (sameCl_any V p q cp cq l r hl hr hwl hwr hn _ (hP.later hB0) (hQ.later hB0))
    have HB0 := hide hB0
    clear hB0 hP hQ hn hno hok
    go_enter Tryz.func9, Tryz.ntmps9
    go_wp2_with fail
    refine HL.out.mono ?_
    rintro e w2 ⟨rfl, hb2⟩
    have HB2 := hide (bthen HB0.out hb2)
    clear hb2 HL
    go_wp2
    go_ret
    exact ⟨rfl, HB2.out⟩
  · obtain ⟨rfl, hn⟩ := hno hE
    have hEb : (E != 0) = true := by simpa using hE
    have hb1 : Below w.heap.size w ((w.alloc (.cells #[.int .i64 0, .slice p l.length cp] 30)).alloc (.cells #[.int .i64 0, .slice none 0 0] 30)) := bal (bal (Below.refl _ _) _) _
    have HL := hide (sameCl_any 0 p none cp 0 l [] hl (by simp) hwl (fun x hx => by cases hx) hn _ (hP.later hb1) (clAt_nil _))
    have HB0 := hide hb1
    clear hP hQ hn hno hok hb1
    go_enter Tryz.func9, Tryz.ntmps9
    go_wp2_with fail
    refine HL.out.mono ?_
    rintro e w2 ⟨rfl, hb2⟩
    have HB2 := hide (bthen HB0.out hb2)
    clear hb2 HL
    go_wp2
    go_ret
    exact ⟨rfl, HB2.out⟩
end Go.Proofs.YtjhkecnnhddhbaaGreatDoor
