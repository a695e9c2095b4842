/- Gates: what nodes are. -/
import Derived.Test.YtabnimgpednhjabGkM
namespace Go.Proofs.Ytabnimgpednhjab
open Go.RowKit Go.Maps Go.WideMaps
set_option maxRecDepth 100000

theorem info4 : (Try.prog.info? 4).map (fun i => (i.zero, i.size, i.bytes)) = some (some (.bool false), 1, 1) := by kernel_rfl

theorem owns_bools {w : World} {base : Nat} {v : Value} {l : List Bool} (h : w.ownsRow base 4 1 v l.length (l.map Value.bool)) : ∃ p cap, v = .slice p l.length cap ∧ BoolsAt w p l := by
  have h3 := h
  obtain ⟨h1, h2⟩ := h
  rcases h2 with ⟨rfl, h0⟩ | ⟨g, cap, cur, rfl, hg, hh, hn, hm, hs, ht⟩
  · refine ⟨none, 0, by rw [h0], fun h => by omega⟩
  · refine ⟨_, cap, rfl, fun _ => ⟨g, 0, rfl, fun i hi => ?_⟩⟩
    have := h3.cellAt i (by omega)
    rw [Nat.zero_add, this, List.getElem?_map, List.getElem?_eq_getElem hi]
    rfl

theorem bools_cells {w : World} {l : List Bool} {ad : Addr} (h : BoolsAt w (some ad) l) : ∀ j u, (l.map Value.bool)[j]? = some u → w.cell? (ad.add j) = some u := by
  intro j u hj
  obtain ⟨hjl, hju⟩ := List.getElem?_eq_some_iff.1 hj
  have hjl' : j < l.length := by simpa using hjl
  obtain ⟨b, off, h, hc⟩ := h (by omega)
  cases h
  rw [Addr.add_lit, hc j hjl', ← hju]
  simp

theorem wpList_append_bools {w : World} {ops : Array Oper} {rest : List Oper} {o : Oper} {a : Act} {Q : Exit → Act → World → Prop} (hgd : o.guard = none) (s x : Operand)
    (ho : o.op = .call { callee := .builtin .append, args := #[s, x], argTypes := #[35, 35] })
    (base : Nat) (v : Value) (u l : List Bool) (hs : a.eval s = v) (hown : w.ownsRow base 4 1 v u.length (u.map Value.bool)) (p : Option Addr) (c : Nat) (hx : a.eval x = .slice p l.length c) (hB : BoolsAt w p l) (hnil : p = none → c = 0)
    (hb : u.length + l.length ≤ 70368744177664) (hbase : base ≤ w.heap.size)
    (hK : ∀ v' w', w'.ownsRow base 4 1 v' (u ++ l).length ((u ++ l).map Value.bool) → w.grownBy w' v.ownBlock → wpList Try.prog ops Q rest (a.put o.dst v') w') : wpList Try.prog ops Q (o :: rest) a w := by
  obtain ⟨i0, hi, hz0, hz1, hz2⟩ := info_parts info4
  cases p with
  | none =>
    have h0 : l = [] := by
      cases l with
      | nil => rfl
      | cons a t => obtain ⟨b, off, h, _⟩ := hB (by simp); cases h
    subst h0
    obtain rfl := hnil rfl
    have hrun := run_append_owned_none (P := Try.prog) (w := w) base 35 o.type 4 i0 1 Try.underlying35 hi v u.length _ hown
    refine wpList_plain hgd fun K' hK' => ?_
    unfold Oper.wp
    simp only [List.length_nil] at hx
    simp [execOp, ho, resolve, invoke, builtin, hs, hx, hrun, Result.andThen]
    exact hK' _ _ (hK v w (by simpa using hown) ⟨rfl, rfl, rfl, Nat.le_refl _, fun _ _ _ => rfl⟩)
  | some ad =>
    refine wpList_append_own w hgd s x 35 ho base 4 i0 (.bool false) 1 1 Try.underlying35 hi hz0 hz1 hz2 rfl (by decide) v u.length _ hs hown ad l.length c (l.map Value.bool) hx (by simp) (bools_cells hB) ?_ (by unfold maxLen; omega) (by omega) hbase (fun v' w' a b _ => hK v' w' (by simpa using a) b)
    intro u hu
    obtain ⟨x, _, rfl⟩ := List.mem_map.1 hu
    rfl

theorem bools_one {w : World} (x : Bool) : BoolsAt (w.alloc (.cells #[.bool x] 4)) (some ⟨w.heap.size, 0, none⟩) [x] := fun _ => ⟨w.heap.size, 0, rfl, fun i hi => by
  match i, hi with
  | 0, _ => simp [go_sem]⟩

/-- What the first nodes are. -/
def nodesV (bs : List Bool) (ps : List (Int × Int)) : Nat → List Bool
  | 0 => false :: bs
  | k + 1 => nodesV bs ps k ++ [match ps[k]? with | some p => litV (nodesV bs ps k) p.1 && litV (nodesV bs ps k) p.2 | none => false]
theorem nodesV_succ {bs : List Bool} {ps : List (Int × Int)} {k : Nat} (h : k < ps.length) : nodesV bs ps (k + 1) = nodesV bs ps k ++ [litV (nodesV bs ps k) ps[k].1 && litV (nodesV bs ps k) ps[k].2] := by
  simp [nodesV, List.getElem?_eq_getElem h]
theorem nodesV_len (bs : List Bool) (ps : List (Int × Int)) (k : Nat) : (nodesV bs ps k).length = 1 + bs.length + k := by
  induction k with
  | zero => simp [nodesV]; omega
  | succ k ih => simp [nodesV, ih]; omega

theorem make_bools (N : Nat) (hN : 1 ≤ N) (h2 : N ≤ 2000000) : ∃ CZ : Array Value, (∀ w : World, (w.alloc (.cells CZ 4)).ownsRow w.heap.size 4 1 (.slice (some ⟨w.heap.size, 0, none⟩) 1 N) 1 [.bool false]) ∧
    ∀ w : World, (Instr.makeSlice 35 (.int .i64 1) (.int .i64 (N : Int))).run Try.prog w = .ok (.slice (some ⟨w.heap.size, 0, none⟩) 1 N) (w.alloc (.cells CZ 4)) := by
  obtain ⟨i0, hi, hz0, hz1, hz2⟩ := info_parts info4
  refine ⟨madeCells #[.bool false] N, fun w => ⟨rfl, .inr ⟨w.heap.size, N, _, rfl, Nat.le_refl _, heap_alloc_new w _, hN, by unfold maxLen; omega, by rw [size_madeCells]; omega, ?_⟩⟩, fun w => ?_⟩
  · rw [toList_madeCells_one]
    cases N with
    | zero => omega
    | succ n => simp [List.replicate_succ]
  · have h := run_makeSlice (P := Try.prog) w 35 4 i0 (.bool false) Try.underlying35 hi hz0 .i64 .i64 1 (N : Int) (by omega) (by omega) (by rw [hz1]; simp; omega) (by rw [hz2]; omega) (by omega)
    rw [hz1, Nat.mul_one, Int.toNat_natCast] at h
    exact h

theorem stand_bd {a b n : Int} (h : standB a b n = true) : 0 ≤ a ∧ a < 2 * n ∧ 0 ≤ b ∧ b < 2 * n := by
  simp [standB] at h
  omega

set_option maxRecDepth 100000 in
set_option maxHeartbeats 4000000 in
theorem values_any (p : Option Addr) (cap : Nat) (ps : List (Int × Int)) (hl : ps.length ≤ 1000001) (q : Option Addr) (qc : Nat) (bs : List Bool) (hm : bs.length ≤ 1000) (hqn : q = none → qc = 0) (hst : stN bs.length ps ps.length = true) (w : World) (hP : PairsAt w p ps) (hB : BoolsAt w q bs) :
    Calls Try.prog 36 #[gval (bs.length : Int) p ps.length cap, .slice q bs.length qc] w fun e w' => ∃ pv cv, e = .returned (.slice pv (nodesV bs ps ps.length).length cv) ∧ BoolsAt w' pv (nodesV bs ps ps.length) ∧ Below w.heap.size w w' := by
  have hB0 : Below w.heap.size w (w.alloc (.cells #[.int .i64 bs.length, .slice p ps.length cap] 24)) := bal (Below.refl _ _) _
  obtain ⟨CZ, hCZ, hmk⟩ := make_bools (1 + bs.length + ps.length) (by omega) (by omega)
  have hmk' : ∀ w : World, (Instr.makeSlice 35 (.int .i64 1) (.int .i64 (1 + (bs.length : Int) + (ps.length : Int)))).run Try.prog w = .ok (.slice (some ⟨w.heap.size, 0, none⟩) 1 (1 + bs.length + ps.length)) (w.alloc (.cells CZ 4)) := fun w => by
    have := hmk w
    rw [show ((1 + bs.length + ps.length : Nat) : Int) = 1 + (bs.length : Int) + (ps.length : Int) from by omega] at this
    exact this
  have HCZ := hide hCZ
  have HP := hide hP
  have HB := hide hB
  have HST := hide hst
  have HQN := hide hqn
  clear hmk hCZ hP hB hst hqn
  go_enter Try.func36, Try.ntmps36
  go_wp2_with fail
  refine (nodes_any (bs.length : Int) p ps.length cap (by omega) (by omega) (by omega) _).mono ?_
  rintro e w1 ⟨rfl, hb1⟩
  have HB1 := hide (bthen hB0 hb1)
  have q0 := cell_later hb1 (a := ⟨w.heap.size, 1, none⟩) (v := .slice p ps.length cap) (by simp [go_sem])
  have hsz : w.heap.size + 1 ≤ w1.heap.size := by have := hb1.size; simpa using this
  clear hb1 hB0
  go_wp2_with (at_builtin; refine wpList_append_bools rfl _ _ rfl w1.heap.size _ [false] bs rfl (HCZ.out _) _ _ rfl (HB.out.later (bal HB1.out _)) HQN.out (by simp; omega) (by simp) ?_)
  intro v' w2 hown2 hg2
  have hb2 : Below w1.heap.size w1 w2 := ((Below.refl _ w1).alloc (Nat.le_refl _) _).grown hg2 (by simp) (by intro k hk; simp [Value.ownBlock] at hk; omega)
  have q0' := cell_later hb2 q0
  have HB2 := hide (bthen HB1.out hb2)
  have hown3 := hown2.mono (show w.heap.size ≤ w1.heap.size by omega)
  clear q0 hg2 hb2 HB1 HCZ hmk' hown2
  go_wp2
  go_loopw [5, 17] (fun v i wr => ∃ k : Nat, k ≤ ps.length ∧ i = .int .i64 k ∧ wr.ownsRow w.heap.size 4 1 v (nodesV bs ps k).length ((nodesV bs ps k).map Value.bool) ∧ Below w.heap.size w wr) (fun _ i _ => ps.length - (intOf i).toNat)
  case atStart => exact ⟨0, Nat.zero_le _, rfl, hown3, HB2.out⟩
  case round =>
    clear hown3 q0' HB2
    obtain ⟨k, hk, rfl, hown, hbw⟩ := hrel
    have hlen := nodesV_len bs ps k
    have hszw := hbw.size
    obtain ⟨pv, cv, rfl, hbv⟩ := owns_bools hown
    by_cases hlt : k < ps.length
    · obtain ⟨b1, o1, rfl, hc1⟩ := (HP.out.later hbw) (by omega)
      obtain ⟨c0, c1⟩ := hc1 k hlt
      have hki : (k : Int) < (ps.length : Int) := by omega
      have hsd : standB ps[k].1 ps[k].2 (1 + bs.length + k) = true := by
        have := stN_down (k := k + 1) HST.out (by omega)
        rw [stN_succ hlt, Bool.and_eq_true] at this
        exact this.2
      have hbd := stand_bd hsd
      have HS := hide (nodesV_succ (bs := bs) hlt)
      clear hc1 hsd
      generalize ps[k] = pr at *
      obtain ⟨x, y⟩ := pr
      simp only at *
      obtain ⟨x0, x1, y0, y1⟩ := hbd
      have HVB := hide hbv
      have HOW := hide hown
      have HLN := hide hlen
      generalize hnv : nodesV bs ps k = vs at *
      clear hnv hbv hown hlen
      have HX := hide (fun (w' : World) (hb : Below wr.heap.size wr w') => tells_any vs pv cv x x0 (by rw [HLN.out]; omega) (by rw [HLN.out]; omega) w' (HVB.out.later hb))
      have HY := hide (fun (w' : World) (hb : Below wr.heap.size wr w') => tells_any vs pv cv y y0 (by rw [HLN.out]; omega) (by rw [HLN.out]; omega) w' (HVB.out.later hb))
      have hal : Below wr.heap.size wr (wr.alloc (.cells #[.int .i64 x, .int .i64 y] 69)) := bal (Below.refl _ _) _
      have HBO : Hid (∀ (W : World) z, W.heap.size = wr.heap.size + 1 → BoolsAt (W.alloc (.cells #[.bool z] 4)) (some ⟨wr.heap.size + 1, 0, none⟩) [z]) := fun W z h => by
        have := bools_one (w := W) z
        rwa [h] at this
      have HBW := hide hbw
      have HAL := hide hal
      have HEND : Hid (∀ (W : World) z w3, Below wr.heap.size wr W → (W.alloc (.cells #[.bool z] 4)).grownBy w3 (Value.ownBlock (.slice pv vs.length cv)) → Below w.heap.size w w3) := fun W z w3 hb hg =>
        (bthen HBW.out (bal hb _)).grown hg (by have := hb.size; simp; omega) (fun j hj => (HOW.out.lt j hj).1)
      clear hbw hal
      cases hlx : litV vs x
      · rw [hlx] at HS HX
        clear hlx HY
        go_wp2_with fail
        refine (HX.out _ HAL.out).mono ?_
        rintro e w' ⟨rfl, n1, rfl⟩
        go_wp2_with (at_builtin; refine wpList_append_bools rfl _ _ rfl w.heap.size _ vs [false] rfl (owns_below HOW.out (bal (bdn HAL.out n1) _)) _ _ rfl (HBO.out _ false (by simp)) (fun h => by cases h) (by simp; rw [HLN.out]; omega) (by simp; omega) ?_)
        intro v' w3 hown3 hg3
        have HB3 := hide (HEND.out _ _ _ (bdn HAL.out n1) hg3)
        have hown4 : w3.ownsRow w.heap.size 4 1 v' (nodesV bs ps (k + 1)).length ((nodesV bs ps (k + 1)).map Value.bool) := by rw [HS.out]; simpa using hown3
        clear hg3 hown3
        go_wp2
        go_roundw
        case rel => exact ⟨k + 1, by omega, by go_num, hown4, HB3.out⟩
        case measure => simp [intOf]; omega
      · rw [hlx] at HS HX
        clear hlx
        generalize litV vs y = ly at *
        go_wp2_with fail
        refine (HX.out _ HAL.out).mono ?_
        rintro e w' ⟨rfl, n1, rfl⟩
        go_wp2_with fail
        refine (HY.out _ (bdn HAL.out n1)).mono ?_
        rintro e w' ⟨rfl, n2, rfl⟩
        go_wp2_with (at_builtin; refine wpList_append_bools rfl _ _ rfl w.heap.size _ vs [ly] rfl (owns_below HOW.out (bal (bdn HAL.out (n1 + n2)) _)) _ _ rfl (HBO.out _ ly (by simp)) (fun h => by cases h) (by simp; rw [HLN.out]; omega) (by simp; omega) ?_)
        intro v' w3 hown3 hg3
        have HB3 := hide (HEND.out _ _ _ (bdn HAL.out (n1 + n2)) hg3)
        have hown4 : w3.ownsRow w.heap.size 4 1 v' (nodesV bs ps (k + 1)).length ((nodesV bs ps (k + 1)).map Value.bool) := by rw [HS.out]; simpa using hown3
        clear hg3 hown3
        go_wp2
        go_roundw
        case rel => exact ⟨k + 1, by omega, by go_num, hown4, HB3.out⟩
        case measure => simp [intOf]; omega
    · obtain rfl : k = ps.length := by omega
      go_wp2
      go_ret
      exact ⟨pv, cv, rfl, hbv, hbw⟩

end Go.Proofs.Ytabnimgpednhjab
