/- Steps, unrolled: what is bad at the last step. -/
import Derived.Test.YtjhkecnnhddhbaaGreatDoorKe
import Derived.Deep.RegionLaw
namespace Go.Proofs.YtjhkecnnhddhbaaGreatDoor
open Go.RowKit Go.Maps Go.WideMaps
set_option maxRecDepth 100000
set_option autoImplicit false

set_option maxHeartbeats 2000000 in
theorem index_any (x : Int) (l : List Int) (q : Option Addr) (qc : Nat) (hl : l.length ≤ 17592186044416) (w : World) (hI : IntsAt w q l) :
    Calls Tryz.prog 69 #[.slice q l.length qc, .int .i64 x] w fun e w' => (∃ i : Int, e = .returned (.int .i64 i) ∧ (0 ≤ i ↔ x ∈ l)) ∧ w' = w := by
  have HI := hide hI
  clear hI
  go_enter Tryz.func69, Tryz.ntmps69
  go_wp2
  go_loopw [8] (fun i wr => ∃ k : Nat, k ≤ l.length ∧ i = .int .i64 k ∧ Hid (x ∉ l.take k) ∧ wr = w) (fun i _ => l.length - (intOf i).toNat)
  case atStart => exact ⟨0, Nat.zero_le _, rfl, by simp [Hid], rfl⟩
  case round =>
    obtain ⟨k, hk, rfl, HN, hwr⟩ := hrel
    obtain rfl : w = wr := hwr.symm
    by_cases hlt : k < l.length
    · obtain ⟨b, off, rfl, hcs⟩ := HI.out (by omega)
      have c0 := hcs k hlt
      have hki : (k : Int) < (l.length : Int) := by omega
      have HM : Hid (l[k] ∈ l) := List.getElem_mem hlt
      have HS : Hid (l.take (k + 1) = l.take k ++ [l[k]]) := List.take_succ_eq_append_getElem hlt
      clear hcs
      generalize l[k] = y at *
      by_cases hy : x = y
      · subst hy
        have HE := hide (show ∃ i : Int, Ending.returned (.int .i64 (k : Int)) = .returned (.int .i64 i) ∧ (0 ≤ i ↔ x ∈ l) from ⟨k, rfl, ⟨fun _ => HM.out, fun _ => by omega⟩⟩)
        clear HN HM HS
        go_wp2
        go_ret
        exact ⟨HE.out, rfl⟩
      · have hyb : (x == y) = false := by simpa using hy
        have HN2 : Hid (x ∉ l.take (k + 1)) := by
          unfold Hid
          rw [HS.out]
          intro h
          rcases List.mem_append.1 h with h | h
          · exact HN.out h
          · exact hy (by simpa using h)
        clear HN HM HS hy
        go_wp2
        go_roundw
        case rel => exact ⟨k + 1, by omega, by go_num, HN2, trivial⟩
        case measure => simp [intOf]; omega
    · obtain rfl : k = l.length := by omega
      have HE := hide (show ∃ i : Int, Ending.returned (.int .i64 (-1)) = .returned (.int .i64 i) ∧ (0 ≤ i ↔ x ∈ l) from ⟨-1, rfl, ⟨fun h => by omega, fun h => absurd (by rw [List.take_length]; exact h) HN.out⟩⟩)
      clear HN
      go_wp2
      go_ret
      exact ⟨HE.out, rfl⟩
theorem containsI_any (x : Int) (l : List Int) (q : Option Addr) (qc : Nat) (hl : l.length ≤ 17592186044416) (w : World) (hI : IntsAt w q l) :
    Calls Tryz.prog 45 #[.slice q l.length qc, .int .i64 x] w fun e w' => e = .returned (.bool (decide (x ∈ l))) ∧ w' = w := by
  have HX := hide (index_any x l q qc hl w hI)
  clear hI
  go_enter Tryz.func45, Tryz.ntmps45
  go_wp2_with fail
  refine HX.out.mono ?_
  rintro e w1 ⟨⟨i, rfl, hi⟩, hw⟩
  obtain rfl : w = w1 := hw.symm
  have HD : Hid (decide (0 ≤ i) = decide (x ∈ l)) := by unfold Hid; simp only [hi]
  clear hw HX hi
  go_wp2
  go_ret
  exact ⟨ret_bool HD.out, rfl⟩

/-- The numbers of what is bad at a step, of the first ones. -/
def badN (C : Ci) (t k : Nat) : List Int := ((C.b.ns.take k).filter (fun x => x != 0)).map fun x => numL (atL C.f t x)
theorem badN_succ (C : Ci) (t k : Nat) (h : k < C.b.ns.length) : badN C t (k + 1) = if C.b.ns.getD k 0 = 0 then badN C t k else badN C t k ++ [numL (atL C.f t (C.b.ns.getD k 0))] := by
  have e : C.b.ns.getD k 0 = C.b.ns[k] := by simp [List.getD, List.getElem?_eq_getElem h]
  unfold badN
  rw [List.take_succ_eq_append_getElem h, e]
  by_cases hz : C.b.ns[k] = 0
  · rw [if_pos hz, List.filter_append, hz]; simp
  · rw [if_neg hz, List.filter_append]; simp [hz]
theorem badN_len (C : Ci) (t k : Nat) : (badN C t k).length ≤ k := by
  unfold badN
  rw [List.length_map]
  exact Nat.le_trans (List.length_filter_le _ _) (by rw [List.length_take]; omega)

set_option maxHeartbeats 8000000 in
theorem badMake_any (w0 : World) (M : Nat) (C : Ci) (last : Nat) (hC : COk w0 C last) (U : Nat) (w : World) (v : Value) (vars : Int) (rs : List Row)
    (hU : Un w0 w M v vars rs C last) (hB : Bxs w v M [(⟨U, 0, none⟩, .pointer (some ⟨M, 0, none⟩))]) (hl : rs.length + 1 ≤ 800000) :
    Calls Tryz.prog 47 #[.pointer (some ⟨U, 0, none⟩)] w (MkOut w0 w M v (vars + 0) rs [badN C last C.b.ns.length] C last) := by
  have ht1 := hC.tf (Nat.le_refl last)
  have hpl := hC.pl
  have hbl := hC.bl
  have hi1 := hC.i1
  have hi0 := hC.i0
  have hla := hC.la
  have HC := hide hC
  have HU := hide hU
  have HB := hide hB
  have b0 := (hB _ _ (.head _)).1
  have u8 := hU.un.u8
  simp only [Sl.v] at u8
  obtain ⟨pp, HPP⟩ : ∃ pp, Hid (C.b.at' = pp) := ⟨_, rfl⟩
  rw [HPP.out] at u8
  have HSU : Hid (∀ k, k < C.b.ns.length → badN C last (k + 1) = if C.b.ns.getD k 0 = 0 then badN C last k else badN C last k ++ [numL (atL C.f last (C.b.ns.getD k 0))]) := fun k h => badN_succ C last k h
  clear hC hU hB
  go_enter Tryz.func47, Tryz.ntmps47
  go_wp2
  go_loopw [1, 10] (fun u i wr => ∃ k : Nat, k ≤ C.b.ns.length ∧ i = .int .i64 k ∧ Hid (wr.ownsRow w.heap.size 3 1 u (badN C last k).length ((badN C last k).map (Value.int .i64))) ∧ Hid (Below w.heap.size w wr)) (fun _ i _ => C.b.ns.length - (intOf i).toNat)
  case atStart => exact ⟨0, Nat.zero_le _, rfl, World.ownsRow_nil _ _ _ _, Below.refl _ _⟩
  case round =>
    obtain ⟨k, hk, rfl, HO, HBW⟩ := hrel
    have hUr := HU.out.later HBW.out
    have hBr := HB.out.later HBW.out
    have b1 := (hBr _ _ (.head _)).1
    have hsz := HBW.out.size
    by_cases hlt : k < C.b.ns.length
    · have hki : (k : Int) < (C.b.ns.length : Int) := by omega
      have hbn := HC.out.nb _ (getD_mem' hlt)
      obtain ⟨gb, goff, hge, hgc⟩ := (HC.out.at'.b.later hUr.bl) (by omega)
      have gk := hgc k hlt
      obtain rfl : pp = some ⟨gb, goff, none⟩ := HPP.out.symm.trans hge
      clear hge hgc
      rw [show C.b.ns[k] = C.b.ns.getD k 0 by simp [List.getD, List.getElem?_eq_getElem hlt]] at gk
      have HSK := hide (HSU.out k hlt)
      have hbl2 := badN_len C last k
      have hat := atL_bd (x := C.b.ns.getD k 0) ht1.1 ht1.2 hbn.1 hbn.2
      have HAT := hide (fun w' (hb : Below wr.heap.size wr w') => at_any M C last last (C.b.ns.getD k 0) hi0 hi1 (by omega) hbn.1 (by omega) ht1.1 (by omega) w' (hUr.un.later hb))
      generalize C.b.ns.getD k 0 = z at *
      by_cases hz : z = 0
      · have HS2 : Hid (badN C last (k + 1) = badN C last k) := by unfold Hid; rw [HSK.out, if_pos hz]
        rw [← HS2.out] at HO
        subst hz
        clear HSK HAT hbn hat hUr hBr
        go_wp2
        go_roundw
        case rel => exact ⟨k + 1, by omega, by go_num, HO, HBW⟩
        case measure => simp [intOf]; omega
      · have HS2 : Hid (badN C last (k + 1) = badN C last k ++ [numL (atL C.f last z)]) := by unfold Hid; rw [HSK.out, if_neg hz]
        have hzb : (z != 0) = true := by simpa using hz
        have HNU := hide (fun w' => number_any (atL C.f last z) hat.1 (by omega) w')
        have u10 := hUr.un.u10
        generalize atL C.f last z = y at *
        generalize numL y = m at *
        have hbd : Below wr.heap.size wr wr.drew := (Below.refl _ wr).drew
        obtain ⟨pu, cu, rfl, _⟩ := owns_ints HO.out
        clear HSK hbn hat hUr hBr hz
        go_wp2
        go_region_law (first
          | (go_simp; go_at_call 38; refine (HAT.out _ hbd).mono ?_; rintro e wB ⟨rfl, hb⟩; have hbB := bthen hbd hb)
          | (go_simp; go_at_call 48; refine (HNU.out _).mono ?_; rintro e wC ⟨rfl, hwC⟩; obtain rfl : wB = wC := hwC.symm)
          | (refine step_append_ints rfl _ _ rfl w.heap.size _ (badN C last k) [m] (by simp [Act.eval]) ((owns_below HO.out hbB).alloc _) (some ⟨wB.heap.size, 0, none⟩) 1 (by simp [Act.eval]) (ints_one m) (fun h => by cases h) (by simp; omega) (by have := hbB.size; simp; omega) ?_
             intro v4 w4 ho4 hg4))
        all_goals
          have HB4 := hide (((bthen HBW.out hbB).alloc (show w.heap.size ≤ wB.heap.size by have := hbB.size; omega) _).grown hg4 (by have := hbB.size; simp; omega) (fun j hj => (HO.out.lt j hj).1))
          rw [← HS2.out] at ho4
          have HO4 := hide ho4
          clear ho4 hg4 hbB hwC HO HBW HAT HNU HS2 hbd
          go_wp2
          go_roundw
          case rel => exact ⟨k + 1, by omega, by go_num, HO4, HB4⟩
          case measure => simp [intOf]; omega
    · obtain rfl : k = C.b.ns.length := by omega
      have hbl2 := badN_len C last C.b.ns.length
      obtain ⟨pu, cu, rfl, hIu, _⟩ := owns_ints HO.out
      have HAD := hide (addC_any w0.heap.size M v vars rs (by omega) (badN C last C.b.ns.length) (by omega) pu cu wr hUr.sz hUr.cm hIu)
      have HUR := hide hUr
      have HKW := hide (Kp.later (M := M) (v := v) HBW.out)
      generalize badN C last C.b.ns.length = L at *
      clear hUr hBr hIu
      go_wp2_with fail
      refine HAD.out.mono ?_
      rintro e w4 ⟨rfl, v4, r4, hr4, hc4, hb4, hk4⟩
      have HE := hide (show MkOut w0 w M v (vars + 0) rs [L] C last (.returned (.tuple #[])) w4 from ⟨rfl, v4, _, by rw [numsOf_app, hr4], by simpa using HUR.out.next hc4 hb4 hk4, HKW.out.trans hk4⟩)
      clear hr4 hc4 hb4 hk4 HAD
      go_wp2
      go_end0
      exact HE.out
end Go.Proofs.YtjhkecnnhddhbaaGreatDoor
