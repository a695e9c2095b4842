/- The bits of a node that is turned round. -/
import Derived.Test.YtjhkecnnhddhbaaGreatDoorBh
namespace Go.Proofs.YtjhkecnnhddhbaaGreatDoor.Ev
open Go.RowKit Go.Maps
set_option maxRecDepth 100000
set_option maxRecDepth 100000

set_option maxHeartbeats 2000000 in
theorem operateNot_any (wd xa xb xc xn : Int) (l : List Int) (p : Option Addr) (cap : Nat) (py pz : Option Addr) (ly lz cy cz : Nat) (pb : Option Addr) (hl : ∀ x ∈ l, 0 ≤ x ∧ x ≤ 10000000) (hn : l.length ≤ 1000) (w : World) (hI : Go.Proofs.YtjhkecnnhddhbaaGreatDoor.IntsAt w p l) :
    Calls Tryz.prog 124 #[.pointer pb, .agg #[.int .i64 4, .int .i64 wd, .int .i64 xa, .int .i64 xb, .int .i64 xc, .int .i64 xn], .slice p l.length cap, .slice py ly cy, .slice pz lz cz] w fun e w' => ∃ G, e = .returned (.slice (some ⟨G, 0, none⟩) l.length l.length) ∧ w.heap.size ≤ G ∧ Go.Proofs.YtjhkecnnhddhbaaGreatDoor.IRow w' G (l.map Go.Proofs.YtjhkecnnhddhbaaGreatDoor.turn) ∧ Below w.heap.size w w' := by
  have HT := hide (fun (w' : World) (hb : Below w.heap.size w w') => Go.Proofs.YtjhkecnnhddhbaaGreatDoor.turnedB_any l p cap hl hn w' (hI.later hb))
  clear hl hI
  go_enter Tryz.func124, Tryz.ntmps124
  go_wp2_with fail
  refine (HT.out _ (bal (bal (bal (bal (bal (Below.refl _ _) _) _) _) _) _)).mono ?_
  rintro e w1 ⟨G, rfl, hG, hr, hb⟩
  have hG2 : w.heap.size ≤ G := by simp at hG; omega
  have HR := hide hr
  have HB := hide (bthen (bal (bal (bal (bal (bal (Below.refl w.heap.size w) _) _) _) _) _) hb)
  clear hr hb hG HT
  go_wp2
  go_ret
  exact ⟨G, rfl, hG2, HR.out, HB.out⟩

end Go.Proofs.YtjhkecnnhddhbaaGreatDoor.Ev
