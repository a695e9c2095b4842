/- A search that is not halved: the walk. -/
import Derived.Test.YtjhkecnnhddhbaaGreatDoorNb
namespace Go.Proofs.YtjhkecnnhddhbaaGreatDoor.Sr
open Go.RowKit Go.Maps Go.Proofs.YtjhkecnnhddhbaaGreatDoor.Pf
set_option maxRecDepth 100000
set_option autoImplicit false

/-- What is left of an answer: its verdict and its values. -/
def HvOut (w : World) (v : Int) (Pv : Option Addr → Nat → Nat → World → Prop) (e : Ending) (w' : World) : Prop := ∃ q n c, e = .returned (.tuple #[.int .i64 v, .slice q n c]) ∧ Pv q n c w' ∧ Below w.heap.size w w'
/-- What Solve is known to leave. -/
def SvOut (w : World) (v : Int) (Pv : Option Addr → Nat → Nat → World → Prop) (e : Ending) (w' : World) : Prop := ∃ q n c pr pn pc, e = .returned (.tuple #[.agg #[.int .i64 v, .slice q n c, .slice pr pn pc], .int .i64 0]) ∧ Pv q n c w' ∧ Below w.heap.size w w'
set_option maxHeartbeats 4000000 in
theorem halve_none (V : Int) (p : Option Addr) (n cap : Nat) (fuel v : Int) (Pv : Option Addr → Nat → Nat → World → Prop) (hP : ∀ q k c w w', Pv q k c w → Below w.heap.size w w' → Pv q k c w') (w : World)
    (hS : ∀ W, Below w.heap.size w W → Calls Tryz.prog 129 #[.agg #[.int .i64 V, .slice p n cap], .int .i64 fuel] W (SvOut W v Pv)) :
    Calls Tryz.prog 103 #[.agg #[.int .i64 V, .slice p n cap], .slice none 0 0, .int .i64 fuel] w (HvOut w v Pv) := by
  have hb1 : Below w.heap.size w (w.alloc (.cells #[.int .i64 V, .slice p n cap] 30)) := bal (Below.refl _ _) _
  have HSO := hide (hS _ hb1)
  have HB1 := hide hb1
  have HP := hide hP
  clear hS hb1 hP
  go_enter Tryz.func103, Tryz.ntmps103
  go_wp2_with fail
  generalize w.alloc (.cells #[.int .i64 V, .slice p n cap] 30) = w1 at *
  refine HSO.out.mono ?_
  rintro e w2 ⟨q, k, c, pr, pn, pc, rfl, hpv, hb2⟩
  have HPV := hide hpv
  have HB2 := hide (bthen HB1.out hb2)
  clear hpv hb2 HSO HB1
  have hb3 : Below w2.heap.size w2 (w2.alloc (.cells #[.int .i64 v, .slice q k c, .slice pr pn pc] 160)) := bal (Below.refl _ _) _
  have a0 : (w2.alloc (.cells #[.int .i64 v, .slice q k c, .slice pr pn pc] 160)).cell? ⟨w2.heap.size, 0, none⟩ = some (.int .i64 v) := by simp [go_sem]
  have a1 : (w2.alloc (.cells #[.int .i64 v, .slice q k c, .slice pr pn pc] 160)).cell? ⟨w2.heap.size, 1, none⟩ = some (.slice q k c) := by simp [go_sem]
  have HB3 := hide (bthen HB2.out hb3)
  have HPV3 := hide (HP.out _ _ _ _ _ HPV.out hb3)
  clear hb3
  by_cases hv : v = 3
  · subst hv
    go_wp2_with fail
    go_quiet (fail)
    rename_i hK
    refine hK _ _ ?_
    clear hK
    go_wp2
    go_ret2
    exact ⟨q, k, c, rfl, HP.out _ _ _ _ _ HPV3.out (below_drewN (Below.refl _ _) _), below_drewN HB3.out _⟩
  · have hvn : (v != 3) = true := by simpa using hv
    go_wp2_with fail
    go_quiet (fail)
    rename_i hK
    refine hK _ _ ?_
    clear hK
    go_wp2
    go_ret2
    exact ⟨q, k, c, rfl, HP.out _ _ _ _ _ HPV3.out (below_drewN (Below.refl _ _) _), below_drewN HB3.out _⟩
end Go.Proofs.YtjhkecnnhddhbaaGreatDoor.Sr
