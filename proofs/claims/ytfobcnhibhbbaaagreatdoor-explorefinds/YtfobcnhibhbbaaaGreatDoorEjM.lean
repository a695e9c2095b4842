/- The model that turns round, and what must be in any case. -/
import Derived.Test.YtfobcnhibhbbaaaGreatDoorNhM
import Derived.Test.YtfobcnhibhbbaaaGreatDoorEh
import Derived.Deep.RegionLaw
namespace Go.Proofs.YtfobcnhibhbbaaaGreatDoor.Ev
open Go.RowKit
set_option maxRecDepth 100000

def tgN : List Nd := [⟨1, 1, 0, 0, 0, 0⟩, ⟨3, 1, 0, 0, 0, 0⟩, ⟨4, 1, 1, 0, 0, 0⟩]
theorem tg_check : checkE tgN [(1, 0)] [(1, 2)] [1] [] = 0 := by decide
theorem tg_states : sel (isK tgN 3) tgN.length = [1] := by decide

set_option maxRecDepth 100000 in
set_option maxHeartbeats 1000000 in
theorem toggle_any (w : World) :
    Calls Tryz.prog 10 #[] w fun e w' => ∃ B0 B1 B2 B3, e = .returned (Mv.val ⟨some ⟨B0, 0, none⟩, 3, some ⟨B1, 0, none⟩, 1, 1, some ⟨B2, 0, none⟩, 1, 1, some ⟨B3, 0, none⟩, 1, 1, none, 0, 0⟩ 3) ∧
      NodesAt w' (some ⟨B0, 0, none⟩) tgN ∧ PairsAt w' (some ⟨B1, 0, none⟩) [(1, 0)] ∧ PairsAt w' (some ⟨B2, 0, none⟩) [(1, 2)] ∧ IntsAt w' (some ⟨B3, 0, none⟩) [1] ∧ Below w.heap.size w w' := by
  go_enter Tryz.func10, Tryz.ntmps10
  go_wp2
  refine bodyPost_ret (v := .agg #[.slice (some ⟨w.heap.size + 1, 0, none⟩) 3 3, .slice (some ⟨w.heap.size + 1 + 1, 0, none⟩) 1 1, .slice (some ⟨w.heap.size + 1 + 1 + 1, 0, none⟩) 1 1, .slice (some ⟨w.heap.size + 1 + 1 + 1 + 1, 0, none⟩) 1 1, .slice none 0 0]) (by simp [results, Tryz.results10, go_sem]) rfl ⟨w.heap.size + 1, w.heap.size + 1 + 1, w.heap.size + 1 + 1 + 1, w.heap.size + 1 + 1 + 1 + 1, rfl, ?_, ?_, ?_, ?_, ?_⟩
  · intro _
    refine ⟨w.heap.size + 1, 0, rfl, fun i hi => ?_⟩
    match i, hi with
    | 0, _ => simp [go_sem, tgN]
    | 1, _ => simp [go_sem, tgN]
    | 2, _ => simp [go_sem, tgN]
  · intro _
    refine ⟨w.heap.size + 1 + 1, 0, rfl, fun i hi => ?_⟩
    match i, hi with
    | 0, _ => simp [go_sem]
  · intro _
    refine ⟨w.heap.size + 1 + 1 + 1, 0, rfl, fun i hi => ?_⟩
    match i, hi with
    | 0, _ => simp [go_sem]
  · intro _
    refine ⟨w.heap.size + 1 + 1 + 1 + 1, 0, rfl, fun i hi => ?_⟩
    match i, hi with
    | 0, _ => simp [go_sem]
  · exact bal (bal (bal (bal (bal (Below.refl _ _) _) _) _) _) _

end Go.Proofs.YtfobcnhibhbbaaaGreatDoor.Ev

namespace Go.Proofs.YtfobcnhibhbbaaaGreatDoor.Ev
open Go.RowKit
set_option maxRecDepth 100000

/-- make([]int, n): what it runs to. -/
theorem make_ints (n : Nat) (hn : n ≤ 1000) : ∃ CZ : Array Value, (∀ w : World, IRow (w.alloc (.cells CZ 3)) w.heap.size (List.replicate n 0)) ∧
    ∀ w : World, (Instr.makeSlice 24 (.int .i64 (n : Int)) (.int .i64 (n : Int))).run Tryz.prog w = .ok (.slice (some ⟨w.heap.size, 0, none⟩) n n) (w.alloc (.cells CZ 3)) := by
  obtain ⟨i0, hi, hz0, hz1, hz2⟩ := info_parts info3
  refine ⟨madeCells #[.int .i64 0] n, fun w => ?_, fun w => ?_⟩
  · have r3 : (w.alloc (.cells (madeCells #[.int .i64 0] n) 3)).ownsRow w.heap.size 3 1 (.slice (some ⟨w.heap.size, 0, none⟩) n n) n (madeCells #[.int .i64 0] n).toList := World.ownsRow_lit w _ n (Nat.le_refl _) (by unfold maxLen; omega) (by rw [size_madeCells]; omega)
    intro j hj
    have hj' : j < n := by simpa using hj
    refine ⟨?_, r3.frozenAt j⟩
    rw [r3.cellAt j (by omega)]
    simp [toList_madeCells_one, hj']
  · have h := run_makeSlice (P := Tryz.prog) w 24 3 i0 (.int .i64 0) Tryz.underlying24 hi hz0 .i64 .i64 (n : Int) (n : Int) (by omega) (Int.le_refl _) (by rw [hz1]; simp; omega) (by rw [hz2]; omega) (by omega)
    rw [hz1, Nat.mul_one, Int.toNat_natCast] at h
    exact h

theorem zeros_fit {ns : List Nd} (kind : Int) : wordsE ns kind (List.replicate (sel (isK ns kind) ns.length).length 0) = 0 := by
  refine wordsE_ok (by simp) (fun k hk => ?_)
  rw [List.length_replicate] at hk
  rw [getD_at (by simpa using hk), List.getElem_replicate]
  exact isW_iff.2 ⟨by omega, two_pos _⟩

/-- No inputs' words. -/
def zeroI (ns : List Nd) : List Int := List.replicate (sel (isK ns 2) ns.length).length 0
def beginE (ns : List Nd) (is xs : List (Int × Int)) (bs hs wish : List Int) : Int := if checkE ns is xs bs hs ≠ 0 then checkE ns is xs bs hs else wordsE ns 3 wish
def beginI (ns : List Nd) (is : List (Int × Int)) (e : Int) (wish : List Int) : List Int := if e = 0 then followL ns is (vals ns wish (zeroI ns) ns.length) else []
theorem ready_begin {ns : List Nd} {is xs : List (Int × Int)} {bs hs wish : List Int} (h : checkE ns is xs bs hs = 0) : readyE ns is xs bs hs wish (zeroI ns) = beginE ns is xs bs hs wish := by
  have hz := zeros_fit (ns := ns) 2
  unfold readyE beginE zeroI
  rw [hz]
  simp only [h, ne_eq, not_true_eq_false, if_false]
  by_cases h3 : wordsE ns 3 wish = 0
  · simp [h3]
  · simp [h3]

set_option maxRecDepth 100000 in
set_option maxHeartbeats 4000000 in
theorem begin_any (a0 a1 a2 a3 a4 : Option Addr) (c0 c1 c2 c3 c4 : Nat) (ns : List Nd) (is xs : List (Int × Int)) (bs hs : List Int) (hln : ns.length ≤ 2932031007402) (hli : is.length ≤ 8796093022208) (hlx : xs.length ≤ 8796093022208) (hlb : bs.length ≤ maxLen) (hlh : hs.length ≤ maxLen)
    (wish : List Int) (hls : wish.length ≤ maxLen) (v4 : Value) (w : World) (hN : NodesAt w a0 ns) (hI : PairsAt w a1 is) (hX : PairsAt w a2 xs) (hBs : IntsAt w a3 bs) (hHs : IntsAt w a4 hs) (hS : SL w v4 wish) :
    Calls Tryz.prog 19 #[Mv.val ⟨a0, c0, a1, is.length, c1, a2, xs.length, c2, a3, bs.length, c3, a4, hs.length, c4⟩ ns.length, v4] w fun e w' =>
      ∃ p cap l, e = .returned (.tuple #[.slice p l.length cap, .int .i64 (beginE ns is xs bs hs wish)]) ∧ l = beginI ns is (beginE ns is xs bs hs wish) wish ∧ (IntsAt w' p l ∧ l.length ≤ cap ∧ cap ≤ maxLen) ∧ Below w.heap.size w w' := by
  have hlm : ns.length ≤ maxLen := by unfold maxLen; omega
  have HB0 : Hid (Below w.heap.size w (w.alloc (.cells (Mv.cells ⟨a0, c0, a1, is.length, c1, a2, xs.length, c2, a3, bs.length, c3, a4, hs.length, c4⟩ ns.length) 26))) := bal (Below.refl _ _) _
  have HBx := hide (Box.new w ⟨a0, c0, a1, is.length, c1, a2, xs.length, c2, a3, bs.length, c3, a4, hs.length, c4⟩ ns.length)
  have HK := hide (fun _ : Unit => inputs_any a0 a1 a2 a3 a4 c0 c1 c2 c3 c4 ns is xs bs hs hln hli hlx hlb hlh _ (hN.later HB0.out) (hI.later HB0.out) (hX.later HB0.out) (hBs.later HB0.out) (hHs.later HB0.out))
  have HVA := hide (fun (v5 : Value) (w1 : World) (hb : Below w.heap.size w w1) (hT : SL w1 v5 (zeroI ns)) (hq : (zeroI ns).length ≤ maxLen) => values_any a0 a1 a2 a3 a4 c0 c1 c2 c3 c4 ns is xs bs hs hlm hli hlx hlb hlh wish (zeroI ns) hls hq v4 v5 w1 (hN.later hb) (hI.later hb) (hX.later hb) (hBs.later hb) (hHs.later hb) (hS.later hb) hT)
  have HFO := hide (fun (hl : ns.length ≤ 80) (hin : ∀ p ∈ is, 0 ≤ p.2 ∧ p.2 < (ns.length : Int)) (vs : List Int) (hvs : vs.length = ns.length) (pv : Option Addr) (cv : Nat) (w1 : World) (hb : Below w.heap.size w w1) (hV : IntsAt w1 pv vs) => follow_any ⟨a0, c0, a1, is.length, c1, a2, xs.length, c2, a3, bs.length, c3, a4, hs.length, c4⟩ ns hl is hli hin vs hvs a1 pv c1 cv w1 (hN.later hb) (hI.later hb) hV)
  have HRB := hide (@ready_begin ns is xs bs hs wish)
  have HCZ := hide (@check_zero ns is xs bs hs)
  have HBE : Hid (checkE ns is xs bs hs ≠ 0 → beginE ns is xs bs hs wish = checkE ns is xs bs hs) := fun h => by unfold beginE; rw [if_pos h]
  have HV0 : Hid (valsI ns 0 wish (zeroI ns) = vals ns wish (zeroI ns) ns.length) := by unfold valsI; rw [if_pos rfl]; rfl
  have HN0 : Hid (beginI ns is 0 wish = followL ns is (vals ns wish (zeroI ns) ns.length)) := by unfold beginI; rw [if_pos rfl]; rfl
  have HNE : Hid (∀ e : Int, e ≠ 0 → beginI ns is e wish = []) := fun e h => by unfold beginI; rw [if_neg h]
  have HZL : Hid (zeroI ns = List.replicate (sel (isK ns 2) ns.length).length 0) := rfl
  have hsl2 := sel_len (isK ns 2) ns.length
  clear hN hI hX hBs hHs hS
  generalize beginE ns is xs bs hs wish = be at *
  generalize checkE ns is xs bs hs = ce at *
  generalize readyE ns is xs bs hs wish (zeroI ns) = re at *
  go_enter Tryz.func19, Tryz.ntmps19
  go_wp2_with fail
  refine (HK.out ()).mono ?_
  rintro e w1 ⟨p1, k1, l, rfl, hl1, hJ1, hb1⟩
  have HB1 := hide (bthen HB0.out hb1)
  have HX1 := hide (HBx.out.later hb1)
  have HL1 := hide hl1
  have hbox := HX1.out
  simp only [Box] at hbox
  obtain ⟨q0, q1, q2, q3, q4⟩ := hbox
  clear hb1 HB0 HBx hJ1 HK hl1
  by_cases hce : ce = 0
  · subst hce
    obtain ⟨⟨hl, _, _⟩, _, hps, _⟩ := HCZ.out rfl
    have HPI : Hid (∀ p ∈ is, 0 ≤ p.2 ∧ p.2 < (ns.length : Int)) := fun p hp => (pairE_zero (init_zero ((pairs_zero hps).1 p hp))).2.1
    have HRE := hide (HRB.out rfl)
    have HLl : Hid (l = sel (isK ns 2) ns.length) := by have := HL1.out; rw [if_pos rfl] at this; exact this
    rw [← HLl.out] at HZL
    have hll : l.length ≤ 80 := by rw [HLl.out]; omega
    clear HRB HCZ HBE hps HL1 HLl hsl2
    obtain ⟨CZ, hCZ, hmk⟩ := make_ints l.length (by omega)
    have HCZI := hide (hCZ w1.drew)
    have hbM : Below w1.heap.size w1 (w1.drew.alloc (.cells CZ 3)) := bal (Below.refl _ _).drew _
    clear hCZ
    go_wp2
    go_region_held3 (fun w' => w'.cell? ⟨w.heap.size, 0, none⟩ = some (.slice a0 ns.length c0) ∧ w'.cell? ⟨w.heap.size, 1, none⟩ = some (.slice a1 is.length c1) ∧ w'.cell? ⟨w.heap.size, 2, none⟩ = some (.slice a2 xs.length c2) ∧ w'.cell? ⟨w.heap.size, 3, none⟩ = some (.slice a3 bs.length c3) ∧ w'.cell? ⟨w.heap.size, 4, none⟩ = some (.slice a4 hs.length c4))
      (first | exact ⟨q0, q1, q2, q3, q4⟩ | exact ⟨cell_later hbM q0, cell_later hbM q1, cell_later hbM q2, cell_later hbM q3, cell_later hbM q4⟩ | exact ⟨cell_later hbV (cell_later hbM q0), cell_later hbV (cell_later hbM q1), cell_later hbV (cell_later hbM q2), cell_later hbV (cell_later hbM q3), cell_later hbV (cell_later hbM q4)⟩ | go_keep)
      ((go_at_call 36; refine (HVA.out _ _ (bthen HB1.out hbM) ⟨_, _, by rw [HZL.out, List.length_replicate], by rw [HZL.out]; exact irow_ints HCZI.out, by rw [HZL.out, List.length_replicate]; omega, by unfold maxLen; omega⟩ (by rw [HZL.out, List.length_replicate]; unfold maxLen; omega)).mono ?_; rintro e wV ⟨pV, kV, lV, rfl, hlV, hJV, hbV⟩; have HLV := hide hlV; have HJV := hide hJV; clear hlV hJV))
    have HB2 := hide (bthen (bthen HB1.out hbM) hbV)
    have z0 := cell_later hbV (cell_later hbM q0)
    have z1 := cell_later hbV (cell_later hbM q1)
    have z2 := cell_later hbV (cell_later hbM q2)
    have z3 := cell_later hbV (cell_later hbM q3)
    have z4 := cell_later hbV (cell_later hbM q4)
    clear hbM hbV q0 q1 q2 q3 q4 HCZI hmk HX1 HB1 HVA
    by_cases hre : re = 0
    · subst hre
      have HLv : Hid (lV = vals ns wish (zeroI ns) ns.length) := HLV.out.trans HV0.out
      have HLen : Hid (lV.length = ns.length) := by rw [HLv.out, vals_len]; rfl
      rw [← HLv.out] at HN0
      have HF := hide (fun _ : Unit => HFO.out hl HPI.out lV HLen.out pV kV wV HB2.out HJV.out)
      clear HFO
      go_wp2_with fail
      refine (HF.out ()).mono ?_
      rintro e w2 ⟨p2, k2, rfl, hJ2, hb2⟩
      go_wp2
      go_ret2
      exact ⟨p2, k2, followL ns is lV, by rw [← HRE.out]; rfl, by rw [← HRE.out]; exact HN0.out.symm, hJ2, bthen HB2.out hb2⟩
    · have hne : (re != 0) = true := by simp [hre]
      have HE := hide (HNE.out re hre)
      clear hre HFO
      go_wp2
      go_ret2
      exact ⟨none, 0, [], by rw [← HRE.out]; rfl, by rw [← HRE.out]; exact HE.out.symm, ⟨fun h => by simp at h, by simp, by simp [maxLen]⟩, HB2.out⟩
  · have hne : (ce != 0) = true := by simp [hce]
    have HE := hide (HBE.out hce)
    have HEn := hide hce
    clear hce HRB HCZ HBE HFO HVA
    go_wp2
    go_ret2
    exact ⟨none, 0, [], by rw [HE.out]; rfl, by rw [HNE.out _ (by rw [HE.out]; exact HEn.out)], ⟨fun h => by simp at h, by simp, by simp [maxLen]⟩, HB1.out⟩


theorem tg_begin : beginE tgN [(1, 0)] [(1, 2)] [1] [] [1] = 0 := by decide
theorem tg_begun : beginI tgN [(1, 0)] 0 [1] = [0] := by decide
theorem tg_ready0 : readyE tgN [(1, 0)] [(1, 2)] [1] [] [0] [] = 0 := by decide
theorem tg_ready1 : readyE tgN [(1, 0)] [(1, 2)] [1] [] [1] [] = 0 := by decide
theorem tg_next : nextI tgN [(1, 2)] 0 [0] [] = [1] := by decide
theorem tg_holds : holdsI [] 0 (vals tgN [1] [] tgN.length) = true := by decide
theorem tg_bad : badI [1] 0 (vals tgN [1] [] tgN.length) = true := by decide
theorem nil_SL {w : World} : SL w (.slice none 0 0) [] := ⟨none, 0, rfl, fun h => by simp at h, by simp, by simp [maxLen]⟩

end Go.Proofs.YtfobcnhibhbbaaaGreatDoor.Ev
