/- TracePrints' walk. -/
import Derived.Test.YtagaemlgompggaaGreatDoorHw
namespace Go.Proofs.YtagaemlgompggaaGreatDoor
open Go.RowKit
set_option maxRecDepth 100000

set_option maxHeartbeats 4000000 in
theorem tracePrints_walk (s : Row) (p : Option Addr) (cap : Nat) (l : List Row) (m : Int) (w : World) (hl : l.length ≤ 5864062014800) (hR : RowsAt w p l) (hnil : p = none → cap = 0) (hI : InAt w (s :: l)) (hw : ∀ r ∈ s :: l, Wide r)
    (hm : w.cell? ⟨1, 0, none⟩ = some (.int .i64 m)) (htab : Lib.TabIs Tryz.prog w "internal/strconv.uint64pow10" .u64 Lib.pow10Tab) :
    Calls Tryz.prog 3 #[tval s p l.length cap] w fun e w' => e = .returned (.bool true) ∧ Below w.heap.size w w' := by
  have hB0 : Below w.heap.size w (w.alloc (.cells #[s.v, .slice p l.length cap] 25)) := bal (Below.refl _ _) _
  have HPR := hide (print_any s p cap l _ hl (hR.later hB0) hnil (hI.later hB0) (tab_later htab hB0))
  have HPT := hide (fun (w' : World) (hb : Below w.heap.size w w') => printTrace_any s p cap l w' hl (hR.later hb) hnil (hI.later hb) hw)
  have HTB := hide (fun (w' : World) (hb : Below w.heap.size w w') => traceBegun_any m w' (cell_later hb hm) (tab_later htab hb))
  have q0 : (w.alloc (.cells #[s.v, .slice p l.length cap] 25)).cell? ⟨w.heap.size, 0, none⟩ = some s.v := by simp [go_sem]
  have q1 : (w.alloc (.cells #[s.v, .slice p l.length cap] 25)).cell? ⟨w.heap.size, 1, none⟩ = some (.slice p l.length cap) := by simp [go_sem]
  have HB0 := hide hB0
  unfold tval at HPR HPT ⊢
  clear hR hI hw hm htab hB0
  generalize fitE s l = x at *
  generalize printT s l = T at *
  obtain ⟨sa, sn, sc⟩ := s
  have hv : (⟨sa, sn, sc⟩ : Row).v = .slice sa sn.length sc := rfl
  rw [hv] at HPR HPT HB0 q0 q1 ⊢
  clear hv
  generalize hW : w.alloc (.cells #[.slice sa sn.length sc, .slice p l.length cap] 25) = W at *
  go_enter Tryz.func3, Tryz.ntmps3
  go_wp2_with fail
  refine HPR.out.mono ?_
  rintro e w1 ⟨t1, rfl, h1, h2, hb1⟩
  have HT1 := hide (And.intro h1 h2)
  have u0 := cell_later hb1 q0
  have u1 := cell_later hb1 q1
  have HB1 := hide (belowAl HB0.out hb1)
  clear h1 h2 hb1 HPR q0 q1 HB0
  have HP2 := hide (HPT.out w1 HB1.out)
  clear HPT
  go_wp2_with fail
  refine HP2.out.mono ?_
  rintro e w2 ⟨t2, rfl, h1, h2, hb2⟩
  have ht : t2 = t1 := by
    by_cases hx : x = 0
    · rw [h1 hx, HT1.out.1 hx]
    · rw [h2 hx, HT1.out.2 hx]
  subst ht
  have HB2 := hide (belowAl HB1.out hb2)
  have HP3 := hide (HTB.out w2 HB2.out)
  clear h1 h2 hb2 HP2 HT1 HB1 u0 u1 HTB
  go_wp2_with fail
  refine HP3.out.mono ?_
  rintro e w3 ⟨rfl, hb3⟩
  have HB3 := hide (belowAl HB2.out hb3)
  clear hb3 HP3 HB2
  go_wp2
  go_ret
  exact ⟨rfl, HB3.out⟩
end Go.Proofs.YtagaemlgompggaaGreatDoor
