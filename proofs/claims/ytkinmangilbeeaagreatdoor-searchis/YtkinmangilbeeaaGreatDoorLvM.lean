/- The search of searchBegun, reckoned. -/
import Derived.Test.YtkinmangilbeeaaGreatDoorLt
import Derived.Laws.ResultCell
namespace Go.Proofs.YtkinmangilbeeaaGreatDoor.Sr
open Go.Proofs.YtkinmangilbeeaaGreatDoor.Pf
set_option maxRecDepth 100000

/-- What Spread makes of a board, by its steps. -/
theorem spr_of {V : Int} {L : List (List Int)} {ch : Int → Prop} {B0 : Bd} : ∀ (g : Nat) (B : Bd), Spn V L ch B0 B → ∀ r, spreadN g B = some r → Spr V L ch B0 r.1 r.2 := by
  intro g
  induction g with
  | zero => intro B _ r h; cases h
  | succ g ih =>
    intro B hs r h
    rw [spreadN] at h
    split at h
    · rename_i hlt
      have hn : B.st[B.spread]? = some (B.st.getD B.spread 0) := by
        have : B.spread < B.st.length := by rw [st_len]; exact hlt
        rw [List.getD_eq_getElem?_getD, List.getElem?_eq_getElem this]
        rfl
      have hst := hs.step hn (B2 := (({ B with spread := B.spread + 1 } : Bd).lookAt (-(B.st.getD B.spread 0))).1) (f := (({ B with spread := B.spread + 1 } : Bd).lookAt (-(B.st.getD B.spread 0))).2) rfl
      split at h
      · rename_i hf
        exact ih _ (hst.2.1 hf) r h
      · rename_i hf
        injection h with h
        subst h
        exact hst.2.2.1 hf
    · rename_i hlt
      injection h with h
      subst h
      exact hs.done hlt
theorem undo_B (l : List Int) : ∀ S : Sx, (l.foldl Sx.undo S).B = S.B ∧ (l.foldl Sx.undo S).left = S.left := by
  induction l with
  | nil => exact fun _ => ⟨rfl, rfl⟩
  | cons x l ih => exact fun S => ih (S.undo x)
theorem back_B (S : Sx) (k : Nat) (lv : Int) : (S.back k lv).B = S.B.backTo k lv ∧ (S.back k lv).left = S.left := undo_B _ _
theorem qok_of {n : Nat} {Q : Qu} (h : (Q.pl.length = n ∧ Q.wt.length = n ∧ (∀ v ∈ Q.hp, 0 ≤ v ∧ v < n) ∧ Q.hp.length ≤ 1000000 ∧ n ≤ 1000000)) : QOk n Q := ⟨h.1, h.2.1, h.2.2.1, h.2.2.2.1, h.2.2.2.2⟩
theorem meetOk_of {n : Nat} {T : Lz} {c : List Int} (h : (∀ x ∈ c, -1000000 ≤ x ∧ x ≤ 1000000) ∧ c.length ≤ 1000 ∧ T.S.B.sp.length ≤ T.S.marks.length ∧ (0 ≤ T.op ∧ T.op ≤ 1000000) ∧ T.oth.length ≤ 100000 ∧
  ∀ k, k < c.length → (T.meet (c.take k)).S.skip (c.getD k 0) = false → ((T.meet (c.take k)).S.Q.pl.length = n ∧ (T.meet (c.take k)).S.Q.wt.length = n ∧ (∀ v ∈ (T.meet (c.take k)).S.Q.hp, 0 ≤ v ∧ v < n) ∧ (T.meet (c.take k)).S.Q.hp.length ≤ 1000000 ∧ n ≤ 1000000) ∧ (c.getD k 0).natAbs < n ∧ ((T.meet (c.take k)).S.Q.pl.getD (c.getD k 0).natAbs 0 = -1 ∨ (0 ≤ (T.meet (c.take k)).S.Q.pl.getD (c.getD k 0).natAbs 0 ∧ (T.meet (c.take k)).S.Q.pl.getD (c.getD k 0).natAbs 0 < (T.meet (c.take k)).S.Q.hp.length))) : MeetOk n T c :=
  ⟨h.1, h.2.1, h.2.2.1, h.2.2.2.1, h.2.2.2.2.1, fun k hk hs => ⟨qok_of (h.2.2.2.2.2 k hk hs).1, (h.2.2.2.2.2 k hk hs).2⟩⟩
theorem chOk_of {n : Nat} {S : Sx} (h : (S.Q.pl.length = n ∧ S.Q.wt.length = n ∧ (∀ v ∈ S.Q.hp, 0 ≤ v ∧ v < n) ∧ S.Q.hp.length ≤ 1000000 ∧ n ≤ 1000000) ∧ n ≤ 200000 ∧ S.lean.length = n ∧ S.B.sp.length ≤ 1000000 ∧ 0 ≤ S.B.level ∧ S.B.level ≤ 1000000) : ChOk n S := ⟨qok_of h.1, h.2.1, h.2.2.1, h.2.2.2.1, h.2.2.2.2⟩
theorem step_at {B : Bd} {j : Nat} (h : j < B.sp.length) {r : Int × Int × Int} (e : B.sp.getD j (0, 0, 0) = r) : B.sp[j] = r := by
  rw [List.getD_eq_getElem?_getD, List.getElem?_eq_getElem h] at e
  exact e
/-- At first. -/
def Sa : Sx := newSx 2 B3 100000
/-- Behind the first choice. -/
def Sb : Sx := { Sa with Q := (newQ 2 2).hpop, B := B4 }
theorem ch0 : Sx.choose Sa = (Sb, true) := rfl
def B5 : Bd := ((spreadN 5 B4).getD (B4, 0)).1
theorem spr5 : spreadN 5 B4 = some (B5, 1) := by
  have h := spr1
  unfold B5
  generalize spreadN 5 B4 = o at *
  cases o with
  | none => cases h
  | some r =>
    obtain ⟨B, f⟩ := r
    simp only [Option.map_some, Option.some.injEq, Prod.mk.injEq] at h
    obtain ⟨_, _, rfl⟩ := h
    rfl
def Sl : Sx := { Sb with B := B5 }
def S1' : Sx := { Sl with lessons := Sl.lessons + 1 }
def T1 : Lz := Lz.meet ⟨S1', 0, []⟩ (S1'.B.cl.getD 1 [])
def T2 : Lz := { T1.meet (T1.S.B.cl.getD 0 []) with op := (T1.meet (T1.S.B.cl.getD 0 [])).op - 1 }
def S2' : Sx := { T2.S with Q := T2.S.Q.fade }
def S3' : Sx := S2'.back 0 0
def Bc : Bd := (B5.backTo 0 0).add [1]
def Sc : Sx := { S3' with B := Bc, left := Sl.left - 1 }
def B7 : Bd := ((spreadN 5 Bc).getD (B4, 0)).1
def Sz : Sx := (Sx.choose { Sc with B := B7 }).1
theorem wk2 : Wk 3 T1 (S1'.B.sp.length - 1) T2 0 := by
  rw [show S1'.B.sp.length - 1 = 0 + 1 by decide +kernel]
  have h : 0 + 1 < T1.S.B.sp.length := by decide +kernel
  refine Wk.meet (ci := 0) h (by decide +kernel) (by decide +kernel) (by decide +kernel) ?_ (by decide +kernel) (meetOk_of (by decide +kernel)) (Wk.done (by decide +kernel) (by decide +kernel) (by decide +kernel) (by decide +kernel))
  rw [step_at h (r := (2, 1, 0)) (by decide +kernel)]
  rfl
theorem st3 : S3'.B = B5.backTo 0 0 := (back_B S2' 0 0).1
theorem add5 : S3'.B.add (layD S3'.B.st [1]) = Bc := by
  rw [st3]
  have h : (B5.backTo 0 0).st = [] := rfl
  rw [h, l3]
  rfl
theorem back5 : B5.backTo 0 0 = B5.back := by
  have h : B5.zero.length = 0 := by decide +kernel
  unfold Bd.back Bd.backTo
  rw [h]
theorem num2 (x : Int) (h : x = 1 ∨ x = -1 ∨ x = 2 ∨ x = -2) : Num 2 x := ⟨by omega, by omega, by omega⟩
theorem inv4 (h : Inv 2 c3 (fun _ => False) B3) : Inv 2 c3 (fun x => False ∨ x = -1) B4 := choose_ok h (num2 _ (.inr (.inl rfl))) (by decide +kernel) (by decide +kernel) (fun _ => by decide +kernel)
theorem spr4 (h : Inv 2 c3 (fun _ => False) B3) : Spr 2 c3 (fun x => False ∨ x = -1) B4 B5 1 := spr_of 5 B4 (Spn.refl (inv4 h)) _ spr5
theorem inv5 (h : Inv 2 c3 (fun _ => False) B3) : Inv 2 c3 (fun _ => False) S3'.B := by
  rw [st3, back5]
  exact (back_ok (((spr4 h).bad (by decide)).2.1 (by decide +kernel)).1).1
theorem learn5 (h : Inv 2 c3 (fun _ => False) B3) : LearnOk 2 3 c3 Sl 1 1 S1' T2 0 S2' 0 S3' where
  hS1 := rfl
  hles := by decide +kernel
  hleft := by decide +kernel
  hci := by decide +kernel
  ok := meetOk_of (by decide +kernel)
  hsp := by decide +kernel
  h0 := by decide +kernel
  hw := wk2
  hoth := by decide +kernel
  hx := fun h => by rw [step_at h (r := (-1, 1, -1)) (by decide +kernel)]; rfl
  hxs := ⟨by decide, by decide⟩
  hg0 := by decide +kernel
  hg1 := by decide +kernel
  hS2 := rfl
  qok := qok_of (by decide +kernel)
  hn := by decide
  hln := by decide +kernel
  hq := by decide +kernel
  hxn := by decide +kernel
  hk := by decide +kernel
  hb0 := by decide +kernel
  hb1 := by decide +kernel
  hsn := by decide +kernel
  hspr := by decide +kernel
  hS3 := rfl
  hI := inv5 h
  hlv := by rw [st3]; rfl
  hV := by decide
  hcl := by decide +kernel
  hxV := num2 _ (.inl rfl)
  hl3 := (back_B S2' 0 0).2.trans (by decide +kernel)
theorem invc (h : Inv 2 c3 (fun _ => False) B3) : Inv 2 (c3 ++ [[1]]) (fun _ => False) Bc := by
  have h5 := inv5 h
  rw [st3] at h5
  refine (add_ok h5 rfl (c := [1]) (d := [1]) ⟨fun _ => Iff.rfl, by simp, fun a r e hm => ?_, fun a b r e => by simp at e⟩ (by decide) (fun x hx => num2 _ (.inl (by simpa using hx)))).1
  have e2 : (B5.backTo 0 0).st = [] := rfl
  rw [e2] at hm
  cases hm
theorem spr7 : spreadN 5 Bc = some (B7, -1) := by
  have h : ((spreadN 5 Bc).map fun r => r.2) = some (-1) := by decide +kernel
  unfold B7
  generalize spreadN 5 Bc = o at *
  cases o with
  | none => cases h
  | some r =>
    obtain ⟨B, f⟩ := r
    simp only [Option.map_some, Option.some.injEq] at h
    subst h
    rfl
theorem ch7 : Sx.choose { Sc with B := B7 } = (Sz, false) := Prod.ext rfl (by decide +kernel)
/-- It runs to its end. -/
theorem runs (h : Inv 2 c3 (fun _ => False) B3) : Run 2 3 2 true c3 (fun _ => False) Sa Sz := by
  refine Run.chosen (ch' := fun x => False ∨ x = -1) (B' := B3) (g := 1) (S' := Sb) ⟨h, by decide +kernel, by decide, by decide +kernel, by decide +kernel⟩ spr0 (chOk_of (by decide +kernel)) ch0 ?_
  refine Run.learnt (B' := B5) (g := 5) (ci := 1) (x := 1) (S1 := S1') (T' := T2) (p' := 0) (S2 := S2') (j := 0) (S3 := S3') (ch := fun x => False ∨ x = -1) (ch' := fun _ => False) ⟨inv4 h, by decide +kernel, by decide, by decide +kernel, by decide +kernel⟩ (by decide +kernel) spr5 (learn5 h) ?_
  rw [add5]
  exact Run.ends (B' := B7) (g := 5) (S := Sc) ⟨invc h, by decide +kernel, by decide, by decide +kernel, by decide +kernel⟩ spr7 (chOk_of (by decide +kernel)) ch7 (by decide +kernel)
theorem valz : valN Sz.B Sz.V Sz.V = [true, true] := by decide +kernel
theorem vz : Sz.V = 2 := by decide +kernel
end Go.Proofs.YtkinmangilbeeaaGreatDoor.Sr

namespace Go.Proofs.YtkinmangilbeeaaGreatDoor.Sr
open Go.RowKit Go.Maps Go.Proofs.YtkinmangilbeeaaGreatDoor.Pf
set_option maxRecDepth 100000

theorem row_bools {w : World} {g : Nat} {l : List Bool} (h : w.heap[g]? = some (.cells (l.map Value.bool).toArray 4 (0, 0))) : BoolsAt w (some ⟨g, 0, none⟩) l := fun _ => ⟨g, 0, rfl, fun i hi => by
  rw [Lib.cell_of_heap h, List.getElem?_toArray, List.getElem?_map, Nat.zero_add, List.getElem?_eq_getElem hi]
  rfl⟩
/-- What Solve leaves. -/
def SoOut (w : World) (Sf : Sx) (e : Ending) (w' : World) : Prop := ∃ g, e = .returned (.tuple #[.agg #[.int .i64 1, .slice (some ⟨g, 0, none⟩) Sf.V Sf.V, .slice none 0 0], .int .i64 0]) ∧ BoolsAt w' (some ⟨g, 0, none⟩) (valN Sf.B Sf.V Sf.V) ∧ Below w.heap.size w w'
set_option maxHeartbeats 8000000 in
theorem solve_s (V : Nat) (hV : V ≤ 14) (p : Option Addr) (cap : Nat) (rs : List Row) (hl : rs.length ≤ 800000) (hx : ∀ r ∈ rs, r.ns.length ≤ 200 ∧ ∀ x ∈ r.ns, Num V x) (hck : chkC V (numsOf rs) = 0) (fuel : Int) (hf : 0 ≤ fuel ∧ fuel ≤ 1000000) (Sf : Sx) (k : Nat) (hk : k ≤ 1000)
    (hrun : ∀ B, Inv V (numsOf rs) (fun _ => False) B → B.level = 0 → (∃ g f, spreadN g (addAll (numsOf rs)) = some (B, f)) → ∃ n, Run V n k true (numsOf rs) (fun _ => False) (newSx V B (fuel * 100)) Sf) (w : World) (hC : ClAt w p rs) :
    Calls Tryz.prog 16 #[cval V p rs.length cap, .int .i64 fuel] w (SoOut w Sf) := by
  have hb0 : Below w.heap.size w ((w.alloc (.cells #[.int .i64 V, .slice p rs.length cap] 24)).alloc (.cells #[.int .i64 0, .slice none 0 0, .slice none 0 0] 27)) := bal (bal (Below.refl _ _) _) _
  have HB0 := hide hb0
  have HCK := hide (checkC_any (V : Int) p cap rs (by omega) (fun r hr => by have := (hx r hr).1; unfold maxLen; omega) ((w.alloc (.cells #[.int .i64 V, .slice p rs.length cap] 24)).alloc (.cells #[.int .i64 0, .slice none 0 0, .slice none 0 0] 27)) (hC.later hb0))
  rw [hck] at HCK
  have HX := hide hx
  have HC := hide hC
  have HR := hide hrun
  have x0 : ((w.alloc (.cells #[.int .i64 V, .slice p rs.length cap] 24)).alloc (.cells #[.int .i64 0, .slice none 0 0, .slice none 0 0] 27)).cell? ⟨w.heap.size, 0, none⟩ = some (.int .i64 V) := by simp [go_sem]
  have x1 : ((w.alloc (.cells #[.int .i64 V, .slice p rs.length cap] 24)).alloc (.cells #[.int .i64 0, .slice none 0 0, .slice none 0 0] 27)).cell? ⟨w.heap.size, 1, none⟩ = some (.slice p rs.length cap) := by simp [go_sem]
  have HG : Hid (((w.alloc (.cells #[.int .i64 V, .slice p rs.length cap] 24)).alloc (.cells #[.int .i64 0, .slice none 0 0, .slice none 0 0] 27)).heap[w.heap.size + 1]? = some (.cells #[.int .i64 0, .slice none 0 0, .slice none 0 0] 27)) := by
    have := (MapKept.heap_alloc (w.alloc (.cells #[.int .i64 V, .slice p rs.length cap] 24)) (.cells #[.int .i64 0, .slice none 0 0, .slice none 0 0] 27)).1
    rw [World.size_alloc] at this
    exact this
  have hfl : decide (fuel < 0) = false := by simp; omega
  have hfg : decide (1000000 < fuel) = false := by simp; omega
  clear hx hC hrun hb0 hck
  unfold cval at *
  go_enter Tryz.func16, Tryz.ntmps16
  go_wp2_with fail
  generalize (w.alloc (.cells #[.int .i64 V, .slice p rs.length cap] 24)).alloc (.cells #[.int .i64 0, .slice none 0 0, .slice none 0 0] 27) = w1 at *
  refine HCK.out.mono ?_
  rintro e w2 ⟨rfl, hb2⟩
  have y0 := cell_later hb2 x0
  have y1 := cell_later hb2 x1
  have HG2 : Hid (w2.heap[w.heap.size + 1]? = some (.cells #[.int .i64 0, .slice none 0 0, .slice none 0 0] 27)) := (hb2.block _ (Array.getElem?_eq_some_iff.1 HG.out).1).trans HG.out
  have HB2 := hide (bthen HB0.out hb2)
  have HNS := hide (newS_any V (by omega) p cap rs hl HX.out fuel ⟨by omega, by omega⟩ w2 (HC.out.later HB2.out))
  unfold cval at HNS
  clear hb2 x0 x1 HCK HG HB0
  generalize hG : w.heap.size + 1 = G at *
  go_wp2_with fail
  refine HNS.out.mono ?_
  rintro e w3 ⟨⟨s, R, nS, nW, q, gp, gw, gm, gl, vh, B, XB, XQ, rfl, hser, hinv, ⟨hlv, hsp⟩, -, -, hnS, hnW⟩, hb3⟩
  obtain ⟨n, hR⟩ := HR.out B hinv hlv hsp
  have HRN := hide (run_s w2.heap.size w3 s XB XQ R nS nW q gp gw gm gl vh _ _ Sf hser V n k _ hR (by omega) (by omega))
  have hG2 : G < w2.heap.size := (Array.getElem?_eq_some_iff.1 HG2.out).1
  have HG3 : Hid (w3.heap[G]? = some (.cells #[.int .i64 0, .slice none 0 0, .slice none 0 0] 27)) := (hb3.block G hG2).trans HG2.out
  have HB3 := hide hb3
  clear hser hinv hlv hsp hb3 HNS HG2 y0 y1 hR
  go_wp2_with fail
  refine HRN.out.mono ?_
  rintro e w4 ⟨g, rfl, hg, hgb, hb4⟩
  have HG4 : Hid (w4.heap[G]? = some (.cells #[.int .i64 0, .slice none 0 0, .slice none 0 0] 27)) := (hb4.block G hG2).trans HG3.out
  have HB4 := hide (bthen HB2.out (HB3.out.trans hb4))
  have hne : g ≠ G := by omega
  have q0 : w4.cell? ⟨G, 0, none⟩ = some (.int .i64 0) := by rw [Lib.cell_of_heap HG4.out]; rfl
  have q1 : w4.cell? ⟨G, 1, none⟩ = some (.slice none 0 0) := by rw [Lib.cell_of_heap HG4.out]; rfl
  have q2 : w4.cell? ⟨G, 2, none⟩ = some (.slice none 0 0) := by rw [Lib.cell_of_heap HG4.out]; rfl
  have z0 : w4.frozen? ⟨G, 0, none⟩ = false := Lib.frozen_of_heap HG4.out 0
  have z1 : w4.frozen? ⟨G, 1, none⟩ = false := Lib.frozen_of_heap HG4.out 1
  have z2 : w4.frozen? ⟨G, 2, none⟩ = false := Lib.frozen_of_heap HG4.out 2
  have HGZ : Hid ((((w4.setCell ⟨G, 0, none⟩ (.int .i64 1)).setCell ⟨G, 1, none⟩ (.slice (some ⟨g, 0, none⟩) Sf.V Sf.V)).setCell ⟨G, 2, none⟩ (.slice none 0 0)).heap[G]? = some (.cells #[.int .i64 1, .slice (some ⟨g, 0, none⟩) Sf.V Sf.V, .slice none 0 0] 27)) := by
    unfold Hid
    rw [heap_setCell_same _ _ _ _ _ _ (heap_setCell_same _ _ _ _ _ _ (heap_setCell_same _ _ _ _ _ _ HG4.out))]
    rfl
  have HGW : Hid (BoolsAt (((w4.setCell ⟨G, 0, none⟩ (.int .i64 1)).setCell ⟨G, 1, none⟩ (.slice (some ⟨g, 0, none⟩) Sf.V Sf.V)).setCell ⟨G, 2, none⟩ (.slice none 0 0)) (some ⟨g, 0, none⟩) (valN Sf.B Sf.V Sf.V)) := by
    refine row_bools ?_
    rw [heap_setCell_other _ _ _ _ (show g ≠ G from hne), heap_setCell_other _ _ _ _ (show g ≠ G from hne), heap_setCell_other _ _ _ _ (show g ≠ G from hne)]
    exact hg
  have HBZ : Hid (Below w.heap.size w (((w4.setCell ⟨G, 0, none⟩ (.int .i64 1)).setCell ⟨G, 1, none⟩ (.slice (some ⟨g, 0, none⟩) Sf.V Sf.V)).setCell ⟨G, 2, none⟩ (.slice none 0 0))) := ((HB4.out.setCell (p := ⟨G, 0, none⟩) (show w.heap.size ≤ G by omega) _).setCell (p := ⟨G, 1, none⟩) (show w.heap.size ≤ G by omega) _).setCell (p := ⟨G, 2, none⟩) (show w.heap.size ≤ G by omega) _
  clear hg hgb hb4 HRN HG3 HG4 HB2 HB3 HB4
  go_wp2
  try simp only [Exit.inBlock, Exit.then]
  refine bodyPost_ret ((results_cell_tmp rfl _ _ _).trans (?_ : _ = Result.ok (.tuple #[.agg #[.int .i64 1, .slice (some ⟨g, 0, none⟩) Sf.V Sf.V, .slice none 0 0], .int .i64 0]) _)) rfl ⟨g, rfl, HGW.out, HBZ.out⟩
  have hld := run_loadVar_row (P := Tryz.prog) _ G 27 27 _ _ _ HGZ.out Tryz.underlying27 rfl (by kernel_rfl)
  generalize ((w4.setCell ⟨G, 0, none⟩ (.int .i64 1)).setCell ⟨G, 1, none⟩ (.slice (some ⟨g, 0, none⟩) Sf.V Sf.V)).setCell ⟨G, 2, none⟩ (.slice none 0 0) = w5 at *
  simp [asAddr, hld, Result.andThen]
end Go.Proofs.YtkinmangilbeeaaGreatDoor.Sr
