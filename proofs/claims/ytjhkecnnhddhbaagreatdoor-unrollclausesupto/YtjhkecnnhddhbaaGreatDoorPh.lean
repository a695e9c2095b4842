/- A board: how long a number may be so. -/
import Derived.Test.YtjhkecnnhddhbaaGreatDoorPe
namespace Go.Proofs.YtjhkecnnhddhbaaGreatDoor.Pf
open Go.RowKit Go.Maps Go.WideMaps
set_option maxRecDepth 100000
set_option autoImplicit false

/-- At which step a number came to be not so; behind the last one, if it is not. -/
def untilE (st : List Int) (x : Int) : Int := if -x ∈ st then (st.idxOf (-x) : Int) else st.length
set_option maxHeartbeats 1000000 in
theorem until_any (Q : Nat) (x : Int) (hx : Small x) (w : World) (X : Nat → Prop) (R S W nS nW : Nat) (vc vs : Value) (wk : Int) (cg cc : Nat → Nat) (wv : Int → Value) (B : Bd) (h : Mb w X R S W nS nW vc vs wk cg cc wv B) (hQ : w.cell? ⟨Q, 0, none⟩ = some (.pointer (some ⟨R, 0, none⟩))) :
    Calls Tryz.prog 241 #[.int .i64 x, .pointer (some ⟨Q, 0, none⟩)] w fun e w' => e = .returned (.int .i64 (untilE B.st x)) ∧ w' = w := by
  obtain ⟨c, hl, hc⟩ := look103 h.so hx.neg
  have c1 := h.c1
  have c5 := h.c5
  obtain ⟨ps, cs, rfl⟩ : ∃ p c, vs = .slice p B.sp.length c := by
    rcases h.st.2 with ⟨rfl, e⟩ | ⟨g, cap, cur, rfl, _⟩
    · rw [e]; exact ⟨_, _, rfl⟩
    · exact ⟨_, _, rfl⟩
  have hx1 := hx.1
  have hx2 := hx.2
  have hwn : wrap64 (-x) = -x := wrap_in _ (by omega) (by omega)
  have hln := st_len B
  by_cases hin : -x ∈ B.st
  · have hd : decide (-x ∈ B.st) = true := by simpa using hin
    rw [hd] at hl
    have HE : Hid (untilE B.st x = c) := by
      unfold Hid untilE
      rw [if_pos hin]
      have hlt : B.st.idxOf (-x) < B.st.length := List.idxOf_lt_length_of_mem hin
      have := hc (B.st.idxOf (-x)) (by rw [List.getElem?_eq_getElem hlt, List.getElem_idxOf])
      exact this.symm
    clear h hc hd hin hln
    go_enter Tryz.func241, Tryz.ntmps241
    go_wp2_with fail
    go_ret
    exact ⟨ret_int HE.out.symm, rfl⟩
  · have hd : decide (-x ∈ B.st) = false := by simpa using hin
    rw [hd] at hl
    have HE : Hid (untilE B.st x = B.sp.length) := by
      unfold Hid untilE
      rw [if_neg hin, hln]
    clear h hc hd hin hln
    go_enter Tryz.func241, Tryz.ntmps241
    go_wp2_with fail
    go_ret
    exact ⟨ret_int HE.out.symm, rfl⟩
end Go.Proofs.YtjhkecnnhddhbaaGreatDoor.Pf
